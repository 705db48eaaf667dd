/- Several texts in one. -/
import Derived.Test.YtpdpbfmiahjiiaaGreatPlAB
import Derived.Test.YtpdpbfmiahjiiaaGreatPlAW
set_option linter.unusedSectionVars false
set_option linter.unusedSimpArgs false
set_option linter.unusedVariables false
set_option maxRecDepth 100000
set_option maxHeartbeats 16000000
namespace Go.Proofs.YtpdpbfmiahjiiaaGreat
open Go.RowKit
open _root_.Go.Value renaming slice→γ,string→μ,agg→φ,bool→Β
open _root_.Go.Obj renaming cells→δ
open _root_.Option renaming none→ε,some→ζ
open _root_.Go.Proofs.Tryz renaming prog→η
open _root_.Go.Act renaming put→ξ
open _root_.Bool renaming false→ρ
open _root_.Go.RowKit renaming Below→σ
open _root_.List renaming mem_map→Α,mem_filter→JaC
open _root_.Go renaming Calls→Ζ
def QV (G:List Gn) (x:Nm) (far u:D):Nat→List Gn
 |0=>G
 |j+1=>eA (QV G x far u j) (bg x (j:Int),if bg x (j:Int)=far then u else zD)
theorem yD {G:List Gn} {x:Nm} {far u:D} (h:G.length≤400) (hr:fi G):∀j,(QV G x far u j).length≤400∧fi (QV G x far u j)
 |0=>⟨h,hr⟩
 |j+1=>⟨kS _ _ (yD h hr j).1 (yD h hr j).2,fx _ (yD h hr j).2⟩
theorem sH (Vs:List VC) (x:Nm):(fo (fun v:VC=>v.1) Vs x).map vS=cK (Vs.map vS) x:=by
 unfold cK fo;rw[List.filter_map];rfl
theorem Az {W:World} {A:Option Addr} {n c:Nat} {Vs:List VC} {B:Option Addr} {m k:Nat} {Es:List EC} {C:Option Addr} {r rc:Nat} {G:List Gn} (h:aO W A n c Vs B m k Es) (hg:aS W W.heap.size 6 C r rc (ao cj G)) (hS:il (Vs.map vS,Es,G)) (o:cO):
 Ζ η 51 #[φ #[γ A n c,γ B m k,γ C r rc],φ (aa o).toArray] W (dH W (fz (Vs.map vS,Es,G) (bC o) (lf o))):=by
 have lX:Vs.length=n:=h.v.rlen aN (by decide);have qJ:Es.length=m:=h.e.rlen cM (by decide);have Hh:G.length=r:=hg.rlen bU (by decide);have qM:Vs.length≤24:=by have:=hS.v24;rwa [List.length_map] at this
 have yw:Es.length≤40:=hS.e40;have Ha:G.length≤400:=hS.g400;have FH:∀y∈Vs,y.2.1.2.1≤80:=rP.to h hS.short
 have mO:∀y∈Vs,y.2.1.2.1≤900000:=fun y hy=>by have:=FH y hy;omega
 have HV:Hid (∀X,σ W.heap.size W X→Ζ η 27 #[φ #[γ A n c,γ B m k],φ #[J o.s,J o.n]] X fun e w'=>e=.returned (.tuple #[φ (vC (aU Vs (o.s,o.n)).1).toArray,Β (aU Vs (o.s,o.n)).2])∧σ X.heap.size X w'):=qh (fun X hX=>fN A n c Vs B m k Es o.s o.n X (h.v.bl hX) (by omega));have iK:(aU Vs (o.s,o.n)).2=bH (Vs.map vS) (bC o):=(dh Vs (o.s,o.n)).1;have aW:(aU Vs (o.s,o.n)).1.2.1.2.2.2=ck (Vs.map vS) (bC o):=(dh Vs (o.s,o.n)).2
 have eV:RgOk W (aU Vs (o.s,o.n)).1.2.1:=by
  rcases fB (fun v:VC=>v.1) zV Vs (o.s,o.n) with h1|h1
  ·exact h.r _ h1
  ·rw[show(aU Vs (o.s,o.n))=(zV,ρ) from h1];exact⟨by decide,fj W _⟩
 obtain⟨⟨u,ok⟩,gv⟩:∃z,aU Vs (o.s,o.n)=z:=⟨_,rfl⟩
 rw[gv] at HV iK aW eV;obtain⟨⟨i1,i2⟩,⟨rA,rn,bE,rL⟩,lb,at_⟩:=u;replace HV:Hid (∀X,σ W.heap.size W X→Ζ η 27 #[φ #[γ A n c,γ B m k],φ #[J o.s,J o.n]] X fun e w'=>e=.returned (.tuple #[φ #[J i1,J i2,γ rA rn bE,μ lb,J at_],Β ok])∧σ X.heap.size X w'):=HV;dsimp only at iK aW eV;have jd:rL.length=rn:=by have:=eV.2.len;rw[bs] at this;dsimp only at this;omega
 have Tp:Hid (∀d∈rL,d.2.2=0∨d.2.2=1):=qh (fun d hd=>by
  rw[aW] at hd;unfold ck at hd;cases hf:(Vs.map vS).find? (fun v=>decide (v.1=bC o)) with
  |none=>rw[hf] at hd;cases hd
  |some v=>
   rw[hf] at hd;exact(hS.fit.known v (List.mem_of_find?_eq_some hf) d hd).2)
 have Pq:Hid (∀X (v:D),v.2.2=0∨v.2.2=1→Ζ η 32 #[φ #[J v.1,J v.2.1,J v.2.2]] X fun e w'=>e=.returned (φ #[J v.1,J v.2.1,J (1 - v.2.2)])∧σ X.heap.size X w'):=qh (fun X v hv=>te v.1 v.2.1 v.2.2 hv X)
 have T6:fo (fun v:EC=>v.1) Es ((0,0):Nm)=Es:=List.filter_eq_self.2 (fun e he=>by
  have h1:=qP (hS.em e he).1;simp only[decide_eq_true_eq];intro e0;rw[e0] at h1;exact absurd h1.1 (by decide))
 have hvz:∀v∈Vs.map vS,¬v.1=((0,0):Nm):=fun v hv e0=>by
  have h1:=qP (hS.vm v hv).1;rw[e0] at h1;exact absurd h1.1 (by decide)
 have SJ:Hid (∀X,σ W.heap.size W X→Ζ η 47 #[φ #[γ A n c,γ B m k],φ #[J o.s,J o.n],φ #[J 0,J 0]] X fun e w'=>∃A1 n1 c1 B1 m1 k1 Ws,e=.returned (φ #[γ A1 n1 c1,γ B1 m1 k1])∧aO w' A1 n1 c1 Ws B1 m1 k1 Es∧Ws.map vS=cK (Vs.map vS) (bC o)∧n1≤1000∧m1≤1000∧σ X.heap.size X w'):=qh (fun X hX=>by
  refine(j8 (h.below hX) (o.s,o.n) (0,0) (by omega) (by omega)).mono ?_
  rintro e w' ⟨A5,n5,c5,B5,m5,k5,rfl,hd,-,-,hb⟩;rw[T6] at hd;have h1:=hd.v.rlen aN (by decide);have h2:=hd.e.rlen cM (by decide);have h3:(fo (fun v:VC=>v.1) Vs (o.s,o.n)).length≤Vs.length:=List.length_filter_le _ _;exact⟨A5,n5,c5,B5,m5,k5,_,rfl,hd,sH Vs (bC o),by omega,by omega,hb⟩)
 have RD:Hid (∀X A1 n1 c1 B1 m1 k1 Ws,aO X A1 n1 c1 Ws B1 m1 k1 Es→Ws.map vS=cK (Vs.map vS) (bC o)→n1≤1000→m1≤1000→∀p q:D,Ζ η 78 #[φ #[γ A1 n1 c1,γ B1 m1 k1],φ #[J p.1,J p.2.1,J p.2.2],φ #[J q.1,J q.2.1,J q.2.2]] X (ik X n1 m1 (dP (cK (Vs.map vS) (bC o)) p q) Es)):=qh (fun X A1 n1 c1 B1 m1 k1 Ws hd hW h1 h2 p q=>by
  have hK:rP 80 (cK (Vs.map vS) (bC o)):=fun v hv=>hS.short v ((JaC.1 hv).1)
  have:=rG hd h1 h2 (fun y hy=>by have:=rP.to hd (by rw[hW];exact hK) y hy;omega) p.1 p.2.1 p.2.2 q.1 q.2.1 q.2.2
  rw[hW] at this;exact this)
 have Ta:Hid (∀X (p q:D) (x:Nm) A1 n1 c1 B1 m1 k1 Ws,aO X A1 n1 c1 Ws B1 m1 k1 Es→Ws.map vS=dP (cK (Vs.map vS) (bC o)) p q→n1≤1000→m1≤1000→Ζ η 47 #[φ #[γ A1 n1 c1,γ B1 m1 k1],φ #[J 0,J 0],φ #[J x.1,J x.2]] X fun e w'=>∃v,e=.returned v∧Py (dP (cK (Vs.map vS) (bC o)) p q) (eI Es x) v w'∧σ X.heap.size X w'):=qh (fun X p q x A1 n1 c1 B1 m1 k1 Ws hd hW h1 h2=>by
  refine(j8 hd (0,0) x h1 h2).mono ?_
  rintro e w' ⟨A5,n5,c5,B5,m5,k5,rfl,Iy,-,-,hb⟩
  refine⟨_,rfl,⟨A5,n5,c5,B5,m5,k5,_,rfl,Iy,?_⟩,hb⟩
  rw[sH Ws (0,0),hW];refine List.filter_eq_self.2 (fun v hv=>?_);have hk:v.1∈(dP (cK (Vs.map vS) (bC o)) p q).map (·.1):=Α.2 ⟨v,hv,rfl⟩;unfold dP at hk;rw[gI] at hk;obtain⟨u,hu,e0⟩:=Α.1 hk
  have:=hvz u ((JaC.1 hu).1)
  simpa [←e0] using this)
 have HO:=qh h;have xJ:=qh hg;have yO:=qh hS;have lJ:=qh iK;have BK:=qh aW;have Dc:=qh eV;have Ez:=qh jd;obtain⟨V,gV⟩:=az (Vs.map vS);have Tf:=qh gV;rw[gV] at lJ BK SJ RD Ta ⊢;obtain⟨R,gR⟩:=az (fz (V,Es,G) (bC o) (lf o));have HR:=qh gR;rw[gR];clear gR h hg hS gV lX qJ Hh qM yw Ha FH mO T6 hvz iK aW eV jd gv;go_enter Tryz.func51,Tryz.ntmps51;go_upto_region 1 with fail
 obtain⟨W0,b0,b1,b2,bJ,bS,cJ,dA,aR,aQ,bj,bn,-,-,j4,-,fD,-,a8,kY,mJ,ni⟩:=jm W 28 [γ A n c,γ B m k,γ C r rc] 36 (aa o) 28 [γ ε 0 0,γ ε 0 0,γ ε 0 0];rw[bJ,dA,cJ,bS];clear bJ bS cJ dA;have dN:=aR.out.cell (i:=0) rfl;have dZ:=aR.out.cell (i:=1) rfl;have eG:=aQ.out.cell (i:=1) rfl;have eJ:=aQ.out.cell (i:=2) rfl
 go_upto_region 2 with (first
  |(go_at_call 27
    refine(HV.out _ bn.out).mono ?_
    rintro e w2 ⟨rfl,ar⟩;have cX:=qh ar;clear ar dN dZ eG eJ))
 have ar:=cX.out;have cp:=qh (aF (af bn.out ar) (δ #[J i1,J i2,γ rA rn bE,μ lb,J at_] 59));have aZ:=qh ((aR.out.bl ar).al (δ #[J i1,J i2,γ rA rn bE,μ lb,J at_] 59));have aY:=qh ((aQ.out.bl ar).al (δ #[J i1,J i2,γ rA rn bE,μ lb,J at_] 59));have ay:=qh ((bj.out.bl ar).al (δ #[J i1,J i2,γ rA rn bE,μ lb,J at_] 59));have aX:=qh (Whole.new_ w2 59 [J i1,J i2,γ rA rn bE,μ lb,J at_]);have la:Hid (W.heap.size≤w2.heap.size):=qh (af bn.out ar).size;have iC:Hid (b0≠w2.heap.size):=qh (by have:=(aR.out.bl ar).lt;omega);have iz:Hid (b1≠w2.heap.size):=qh (by have:=(aQ.out.bl ar).lt;omega);have iB:Hid (b2≠w2.heap.size):=qh (by have:=(bj.out.bl ar).lt;omega);obtain⟨o9,di⟩:=az (w2.alloc (δ #[J i1,J i2,γ rA rn bE,μ lb,J at_] 59));obtain⟨b3,dD⟩:=az w2.heap.size;rw[di] at cp aZ aY ay aX ⊢;rw[dD] at aX la iC iz iB ⊢;clear di dD bn aR aQ bj ar cX;clear HV;cases ok with
 |false=>
  obtain rfl:=(show fz (V,Es,G) (bC o) (lf o)=(cC,13) from by unfold fz;rw[if_pos lJ.out.symm]).symm.trans HR.out;have z0:=ay.out.cell (i:=0) rfl;have z1:=ay.out.cell (i:=1) rfl;have z2:=ay.out.cell (i:=2) rfl;have y0:=ay.out.free 0;have y1:=ay.out.free 1;have y2:=ay.out.free 2;go_wp2;exact aE rfl b2 rfl rfl (((ay.out.set_ 0 (γ ε 0 0)).set_ 1 (γ ε 0 0)).set_ 2 (γ ε 0 0)) Tryz.underlying28 rfl (by kernel_rfl) rfl ⟨ε,0,0,ε,0,0,ε,0,0,[],rfl,dM _,rfl,aS.no _ _ _,((cp.out.setCell (p:=⟨b2,0,ε⟩) a8.out (γ ε 0 0)).setCell (p:=⟨b2,1,ε⟩) a8.out (γ ε 0 0)).setCell (p:=⟨b2,2,ε⟩) a8.out (γ ε 0 0)⟩
 |true=>
  by_cases h2:rn=2
  rotate_left
  ·have hnI:¬(rn:Int)=2:=by omega
   have ld1:=dX (i:=2) aX.out rfl;go_upto_region 4 with fail
   refine aw (aT) (by kernel_rfl) ?_;refine aq 0 ?_;refine aq 1 ?_;refine aq 2 ?_;refine bN 3 (hy:=dm (v:=Β true) (by rfl) (fun w' aC=>by go_simp)) (h:=?_);refine aq 4 ?_;refine bP 5 ?_;refine bP 6 ?_;refine bP 7 ?_;refine bP 8 ?_;refine bP 9 ?_;refine bP 10 ?_;refine bP 11 ?_;refine bP 12 ?_;refine bP 13 ?_;refine bP 14 ?_;refine bP 15 ?_;refine aq 16 ?_;refine aG (by kernel_rfl) ?_ _;intro w4 tt;have YQ:=qh (aZ.out.dr.bl tt);have aaD:=qh (aY.out.dr.bl tt);have qy:=qh (ay.out.dr.bl tt);have ZG:=qh (aX.out.dr.bl tt);have YT:=qh (af (ba cp.out) tt);clear tt cp aZ aY ay aX;clear ld1 hnI
   obtain rfl:=(show fz (V,Es,G) (bC o) (lf o)=(cC,14) from by unfold fz;rw[if_neg (by rw[←lJ.out];decide),show pV (ck (V,Es,G).1 (bC o)) (lf o)=ε from by
    rw[show ck (V,Es,G).1 (bC o)=rL from BK.out.symm];unfold pV;split
    ·exact absurd Ez.out.symm h2
    ·rfl]).symm.trans HR.out
   have z0:=qy.out.cell (i:=0) rfl;have z1:=qy.out.cell (i:=1) rfl;have z2:=qy.out.cell (i:=2) rfl;have y0:=qy.out.free 0;have y1:=qy.out.free 1;have y2:=qy.out.free 2;go_wp2;exact aE rfl b2 rfl rfl (((qy.out.set_ 0 (γ ε 0 0)).set_ 1 (γ ε 0 0)).set_ 2 (γ ε 0 0)) Tryz.underlying28 rfl (by kernel_rfl) rfl ⟨ε,0,0,ε,0,0,ε,0,0,[],rfl,dM _,rfl,aS.no _ _ _,((YT.out.setCell (p:=⟨b2,0,ε⟩) a8.out (γ ε 0 0)).setCell (p:=⟨b2,1,ε⟩) a8.out (γ ε 0 0)).setCell (p:=⟨b2,2,ε⟩) a8.out (γ ε 0 0)⟩
  subst h2;obtain⟨bb,off,rfl,bZ,hc⟩:=Dc.out.2.darts (show 0<2 by decide)
  obtain⟨x,y,rfl⟩:∃x y,rL=[x,y]:=by
   have hl:=Ez.out
   match rL,hl with
   |[x,y],_=>exact⟨x,y,rfl⟩
  obtain⟨c0,c1,c2⟩:=hc 0 (show 0<2 by decide);obtain⟨c3,c4,c5⟩:=hc 1 (show 1<2 by decide);simp only[Nat.zero_mul,Nat.one_mul,Nat.add_zero,Nat.add_assoc,Nat.reduceAdd,List.getD_cons_zero,List.getD_cons_succ] at c0 c1 c2 c3 c4 c5;have C0:=qh c0;have C1:=qh c1;have C2:=qh c2;have C3:=qh c3;have C4:=qh c4;have C5:=qh c5;have zo:=qh bZ;clear hc bZ c0 c1 c2 c3 c4 c5;obtain⟨pe,ge⟩:=az (decide (cN x=cN y));have qe:∀X:World,(binOp .eql 30 (φ #[J x.1,J x.2.1]) (φ #[J y.1,J y.2.1])).run η X=.ok (Β pe) X:=fun X=>by rw[EI,show decide ((x.1,x.2.1)=(y.1,y.2.1))=pe from ge]
  have GE:=qh ge;clear ge;go_upto_region 4 with fail
  have lv:=dX (i:=2) aX.out rfl;have iM:∀w',Kept aT o9.drew w'→w'.cell? ⟨bb,off,ε⟩=ζ (J x.1):=fun w' h=>h.cell ((cp.out.cell (p:=⟨bb,off,ε⟩) zo.out).trans C0.out) (fun e=>e)
  have ld1:∀w',Kept aT o9.drew w'→w'.cell? ⟨bb,off+1,ε⟩=ζ (J x.2.1):=fun w' h=>h.cell ((cp.out.cell (p:=⟨bb,off+1,ε⟩) zo.out).trans C1.out) (fun e=>e)
  have BZ:∀w',Kept aT o9.drew w'→w'.cell? ⟨bb,off+3,ε⟩=ζ (J y.1):=fun w' h=>h.cell ((cp.out.cell (p:=⟨bb,off+3,ε⟩) zo.out).trans C3.out) (fun e=>e)
  have B4:∀w',Kept aT o9.drew w'→w'.cell? ⟨bb,off+4,ε⟩=ζ (J y.2.1):=fun w' h=>h.cell ((cp.out.cell (p:=⟨bb,off+4,ε⟩) zo.out).trans C4.out) (fun e=>e)
  refine aw (aT) (by kernel_rfl) ?_;refine aq 0 ?_;refine aq 1 ?_;refine aq 2 ?_;refine aq 3 ?_;refine aq 4 ?_;refine aq 5 ?_;refine aq 6 ?_;refine aq 7 ?_;refine aq 8 ?_;refine aq 9 ?_;refine aq 10 ?_;refine aq 11 ?_;refine aq 12 ?_;refine aq 13 ?_;refine aq 14 ?_;refine aq 15 ?_;refine aq 16 ?_;refine aG (by kernel_rfl) ?_ _;clear lv iM ld1 BZ B4 qe;intro w4 tt;have Cf:=qh (aZ.out.dr.bl tt);have D5:=qh (aY.out.dr.bl tt);have lK:=qh (ay.out.dr.bl tt);have ya:=qh (aX.out.dr.bl tt);have Cy:=qh (af (ba cp.out) tt);clear tt cp aZ aY ay aX;cases pe with
  |true=>
   obtain rfl:=(show fz (V,Es,G) (bC o) (lf o)=(cC,14) from by unfold fz;rw[if_neg (by rw[←lJ.out];decide),show pV (ck (V,Es,G).1 (bC o)) (lf o)=ε from by
    rw[show ck (V,Es,G).1 (bC o)=[x,y] from BK.out.symm]
    show(if cN x=cN y then ε else if cN x=lf o then ζ (y,x) else if cN y=lf o then ζ (x,y) else ε)=ε
    rw[if_pos (of_decide_eq_true GE.out)]]).symm.trans HR.out
   have z0:=lK.out.cell (i:=0) rfl;have z1:=lK.out.cell (i:=1) rfl;have z2:=lK.out.cell (i:=2) rfl;have y0:=lK.out.free 0;have y1:=lK.out.free 1;have y2:=lK.out.free 2;go_wp2;exact aE rfl b2 rfl rfl (((lK.out.set_ 0 (γ ε 0 0)).set_ 1 (γ ε 0 0)).set_ 2 (γ ε 0 0)) Tryz.underlying28 rfl (by kernel_rfl) rfl ⟨ε,0,0,ε,0,0,ε,0,0,[],rfl,dM _,rfl,aS.no _ _ _,((Cy.out.setCell (p:=⟨b2,0,ε⟩) a8.out (γ ε 0 0)).setCell (p:=⟨b2,1,ε⟩) a8.out (γ ε 0 0)).setCell (p:=⟨b2,2,ε⟩) a8.out (γ ε 0 0)⟩
  |false=>
   have bQ:¬cN x=cN y:=of_decide_eq_false GE.out;have HNe:=qh bQ;clear bQ;go_upto_region 6 with fail
   have Ei:=ya.out.cell (i:=2) rfl;have r0:w4.cell? ⟨bb,off,ε⟩=ζ (J x.1):=(Cy.out.cell (p:=⟨bb,off,ε⟩) zo.out).trans C0.out;have r1:w4.cell? ⟨bb,off+1,ε⟩=ζ (J x.2.1):=(Cy.out.cell (p:=⟨bb,off+1,ε⟩) zo.out).trans C1.out;have r2:w4.cell? ⟨bb,off+2,ε⟩=ζ (J x.2.2):=(Cy.out.cell (p:=⟨bb,off+2,ε⟩) zo.out).trans C2.out;go_upto_region 7 with fail
   clear Ei r0 r1 r2;have jP:=qh (aF (Cy.out) (δ #[J x.1,J x.2.1,J x.2.2] 32));have en:=qh (Cf.out.al (δ #[J x.1,J x.2.1,J x.2.2] 32));have dI:=qh (D5.out.al (δ #[J x.1,J x.2.1,J x.2.2] 32));have fR:=qh (lK.out.al (δ #[J x.1,J x.2.1,J x.2.2] 32));have dJ:=qh (ya.out.al (δ #[J x.1,J x.2.1,J x.2.2] 32));have eW:=qh (Whole.new_ w4 32 [J x.1,J x.2.1,J x.2.2]);have BV:Hid (W.heap.size≤w4.heap.size):=qh (Cy.out).size;have tD:Hid (b0≠w4.heap.size):=qh (by have:=(Cf.out).lt;omega);have tm:Hid (b1≠w4.heap.size):=qh (by have:=(D5.out).lt;omega);have s7:Hid (b2≠w4.heap.size):=qh (by have:=(lK.out).lt;omega);have xe:Hid (b3≠w4.heap.size):=qh (by have:=(ya.out).lt;omega);obtain⟨CO,di⟩:=az (w4.alloc (δ #[J x.1,J x.2.1,J x.2.2] 32));obtain⟨b4,dD⟩:=az w4.heap.size;rw[di] at jP en dI fR dJ eW ⊢;rw[dD] at eW BV tD tm s7 xe ⊢;clear di dD Cy Cf D5 lK ya;have Ei:=dJ.out.cell (i:=2) rfl;have r3:CO.cell? ⟨bb,off+3,ε⟩=ζ (J y.1):=(jP.out.cell (p:=⟨bb,off+3,ε⟩) zo.out).trans C3.out;have r4:CO.cell? ⟨bb,off+4,ε⟩=ζ (J y.2.1):=(jP.out.cell (p:=⟨bb,off+4,ε⟩) zo.out).trans C4.out;have r5:CO.cell? ⟨bb,off+5,ε⟩=ζ (J y.2.2):=(jP.out.cell (p:=⟨bb,off+5,ε⟩) zo.out).trans C5.out
   go_upto_region 8 with fail
   clear Ei r3 r4 r5;have iN:=qh (aF (jP.out) (δ #[J y.1,J y.2.1,J y.2.2] 32));have e6:=qh (en.out.al (δ #[J y.1,J y.2.1,J y.2.2] 32));have dR:=qh (dI.out.al (δ #[J y.1,J y.2.1,J y.2.2] 32));have br:=qh (fR.out.al (δ #[J y.1,J y.2.1,J y.2.2] 32));have dq:=qh (dJ.out.al (δ #[J y.1,J y.2.1,J y.2.2] 32));have ek:=qh (eW.out.al (δ #[J y.1,J y.2.1,J y.2.2] 32));have dp:=qh (Whole.new_ CO 32 [J y.1,J y.2.1,J y.2.2]);have BX:Hid (W.heap.size≤CO.heap.size):=qh (jP.out).size;have mg:Hid (b0≠CO.heap.size):=qh (by have:=(en.out).lt;omega);have mD:Hid (b1≠CO.heap.size):=qh (by have:=(dI.out).lt;omega);have mB:Hid (b2≠CO.heap.size):=qh (by have:=(fR.out).lt;omega);have Bb:Hid (b3≠CO.heap.size):=qh (by have:=(dJ.out).lt;omega);have jL:Hid (b4≠CO.heap.size):=qh (by have:=(eW.out).lt;omega);obtain⟨yz,di⟩:=az (CO.alloc (δ #[J y.1,J y.2.1,J y.2.2] 32));obtain⟨b5,dD⟩:=az CO.heap.size;rw[di] at iN e6 dR br dq ek dp ⊢;rw[dD] at dp BX mg mD mB Bb jL ⊢;clear di dD jP en dI fR dJ eW;obtain⟨pa,ga⟩:=az (decide (cN x=lf o));have qa:∀X:World,(binOp .eql 30 (φ #[J x.1,J x.2.1]) (φ #[J o.s2,J o.n2])).run η X=.ok (Β pa) X:=fun X=>by rw[EI,show decide ((x.1,x.2.1)=(o.s2,o.n2))=pa from ga]
   have GA:=qh ga;clear ga;obtain⟨⟨u,v⟩,SV⟩:∃z:D × D,(if pa=true then(y,x) else(x,y))=z:=⟨_,rfl⟩
   have HUV:=qh SV;have Pv:=ek.out.cell (i:=0) rfl;have Pn:=ek.out.cell (i:=1) rfl;have tB:=dR.out.cell (i:=5) rfl;have tp:=dR.out.cell (i:=6) rfl;go_upto_if 56 with fail
   go_cut [] (fun z=>Whole z b0 28 [γ A n c,γ B m k,γ C r rc]∧Whole z b1 36 (aa o)∧Whole z b2 28 [γ ε 0 0,γ ε 0 0,γ ε 0 0]∧Whole z b4 32 [J u.1,J u.2.1,J u.2.2]∧Whole z b5 32 [J v.1,J v.2.1,J v.2.2]∧σ W.heap.size W z)
   case first=>
    have n43:=xe.out;have n45:=jL.out;have n4b:bb≠b4:=by have h1:=zo.out;have h2:=BV.out;omega
    have n5b:bb≠b5:=by have h1:=zo.out;have h2:=BX.out;omega
    have t2:=ek.out.cell (i:=2) rfl;have t3:=dp.out.cell (i:=0) rfl;have t4:=dp.out.cell (i:=1) rfl;have t5:=dp.out.cell (i:=2) rfl;have u0:=ek.out.free 0;have v0:=dp.out.free 0;have u1:=ek.out.free 1;have v1:=dp.out.free 1;have u2:=ek.out.free 2;have v2:=dp.out.free 2;have Ei:=dq.out.cell (i:=2) rfl;have r0:yz.cell? ⟨bb,off,ε⟩=ζ (J x.1):=(iN.out.cell (p:=⟨bb,off,ε⟩) zo.out).trans C0.out;have r1:yz.cell? ⟨bb,off+1,ε⟩=ζ (J x.2.1):=(iN.out.cell (p:=⟨bb,off+1,ε⟩) zo.out).trans C1.out;have r2:yz.cell? ⟨bb,off+2,ε⟩=ζ (J x.2.2):=(iN.out.cell (p:=⟨bb,off+2,ε⟩) zo.out).trans C2.out;have r3:yz.cell? ⟨bb,off+3,ε⟩=ζ (J y.1):=(iN.out.cell (p:=⟨bb,off+3,ε⟩) zo.out).trans C3.out;have r4:yz.cell? ⟨bb,off+4,ε⟩=ζ (J y.2.1):=(iN.out.cell (p:=⟨bb,off+4,ε⟩) zo.out).trans C4.out;have r5:yz.cell? ⟨bb,off+5,ε⟩=ζ (J y.2.2):=(iN.out.cell (p:=⟨bb,off+5,ε⟩) zo.out).trans C5.out;cases pa with
    |true=>
     obtain⟨rfl,rfl⟩:y=u∧x=v:=⟨congrArg Prod.fst SV,congrArg Prod.snd SV⟩;go_wp2;go_meet;exact⟨((((((e6.out.far (p:=⟨b4,0,ε⟩) tD.out (J y.1)).far (p:=⟨b4,1,ε⟩) tD.out (J y.2.1)).far (p:=⟨b4,2,ε⟩) tD.out (J y.2.2)).far (p:=⟨b5,0,ε⟩) mg.out (J x.1)).far (p:=⟨b5,1,ε⟩) mg.out (J x.2.1)).far (p:=⟨b5,2,ε⟩) mg.out (J x.2.2)),((((((dR.out.far (p:=⟨b4,0,ε⟩) tm.out (J y.1)).far (p:=⟨b4,1,ε⟩) tm.out (J y.2.1)).far (p:=⟨b4,2,ε⟩) tm.out (J y.2.2)).far (p:=⟨b5,0,ε⟩) mD.out (J x.1)).far (p:=⟨b5,1,ε⟩) mD.out (J x.2.1)).far (p:=⟨b5,2,ε⟩) mD.out (J x.2.2)),((((((br.out.far (p:=⟨b4,0,ε⟩) s7.out (J y.1)).far (p:=⟨b4,1,ε⟩) s7.out (J y.2.1)).far (p:=⟨b4,2,ε⟩) s7.out (J y.2.2)).far (p:=⟨b5,0,ε⟩) mB.out (J x.1)).far (p:=⟨b5,1,ε⟩) mB.out (J x.2.1)).far (p:=⟨b5,2,ε⟩) mB.out (J x.2.2)),((((((ek.out.set_ 0 (J y.1)).set_ 1 (J y.2.1)).set_ 2 (J y.2.2)).far (p:=⟨b5,0,ε⟩) jL.out (J x.1)).far (p:=⟨b5,1,ε⟩) jL.out (J x.2.1)).far (p:=⟨b5,2,ε⟩) jL.out (J x.2.2)),((((((dp.out.far (p:=⟨b4,0,ε⟩) (fun e=>jL.out e.symm) (J y.1)).far (p:=⟨b4,1,ε⟩) (fun e=>jL.out e.symm) (J y.2.1)).far (p:=⟨b4,2,ε⟩) (fun e=>jL.out e.symm) (J y.2.2)).set_ 0 (J x.1)).set_ 1 (J x.2.1)).set_ 2 (J x.2.2)),((((((iN.out.setCell (p:=⟨b4,0,ε⟩) BV.out (J y.1)).setCell (p:=⟨b4,1,ε⟩) BV.out (J y.2.1)).setCell (p:=⟨b4,2,ε⟩) BV.out (J y.2.2)).setCell (p:=⟨b5,0,ε⟩) BX.out (J x.1)).setCell (p:=⟨b5,1,ε⟩) BX.out (J x.2.1)).setCell (p:=⟨b5,2,ε⟩) BX.out (J x.2.2))⟩
    |false=>
     obtain⟨rfl,rfl⟩:x=u∧y=v:=⟨congrArg Prod.fst SV,congrArg Prod.snd SV⟩;go_wp2;go_meet;exact⟨e6.out,dR.out,br.out,ek.out,dp.out,iN.out⟩
   case rest=>
    obtain⟨h0,h1,h2,h4,h5,hB⟩:=hcut;have rI:=qh h0;have oQ:=qh h1;have iy:=qh h2;have vA:=qh h4;have nC:=qh h5;have Mx:=qh hB;clear h0 h1 h2 h4 h5 hB qa SV
    have HMt:Hid (pV [x,y] (lf o)=if cN v=lf o then ζ (u,v) else ε):=qh (by
     show(if cN x=cN y then ε else if cN x=lf o then ζ (y,x) else if cN y=lf o then ζ (x,y) else ε)=_
     rw[if_neg HNe.out];have hu:=HUV.out;cases pa with
     |true=>
      obtain⟨rfl,rfl⟩:y=u∧x=v:=⟨congrArg Prod.fst hu,congrArg Prod.snd hu⟩;rw[if_pos (of_decide_eq_true GA.out),if_pos (of_decide_eq_true GA.out)]
     |false=>
      obtain⟨rfl,rfl⟩:x=u∧y=v:=⟨congrArg Prod.fst hu,congrArg Prod.snd hu⟩;rw[if_neg (of_decide_eq_false GA.out)])
    obtain⟨pb,gb⟩:=az (decide (cN v=lf o));have qb:∀X:World,(binOp .neq 30 (φ #[J v.1,J v.2.1]) (φ #[J o.s2,J o.n2])).run η X=.ok (Β (!pb)) X:=fun X=>by rw[vP,show decide ((v.1,v.2.1)=(o.s2,o.n2))=pb from gb]
    have GB:=qh gb;clear gb;have An:=nC.out.cell (i:=0) rfl;have Bf:=nC.out.cell (i:=1) rfl;have tB:=oQ.out.cell (i:=5) rfl;have tp:=oQ.out.cell (i:=6) rfl;cases pb with
    |false=>
     obtain rfl:=(show fz (V,Es,G) (bC o) (lf o)=(cC,14) from by unfold fz;rw[if_neg (by rw[←lJ.out];decide),show pV (ck (V,Es,G).1 (bC o)) (lf o)=ε from by
      rw[show ck (V,Es,G).1 (bC o)=[x,y] from BK.out.symm,HMt.out,if_neg (of_decide_eq_false GB.out)]]).symm.trans HR.out
     have z0:=iy.out.cell (i:=0) rfl;have z1:=iy.out.cell (i:=1) rfl;have z2:=iy.out.cell (i:=2) rfl;have y0:=iy.out.free 0;have y1:=iy.out.free 1;have y2:=iy.out.free 2;go_wp2;exact aE rfl b2 rfl rfl (((iy.out.set_ 0 (γ ε 0 0)).set_ 1 (γ ε 0 0)).set_ 2 (γ ε 0 0)) Tryz.underlying28 rfl (by kernel_rfl) rfl ⟨ε,0,0,ε,0,0,ε,0,0,[],rfl,dM _,rfl,aS.no _ _ _,((Mx.out.setCell (p:=⟨b2,0,ε⟩) a8.out (γ ε 0 0)).setCell (p:=⟨b2,1,ε⟩) a8.out (γ ε 0 0)).setCell (p:=⟨b2,2,ε⟩) a8.out (γ ε 0 0)⟩
    |true=>
     have HVd:Hid (v.2.2=0∨v.2.2=1):=qh (by
      have hu:=HUV.out;cases pa with
      |true=>
       obtain rfl:x=v:=congrArg Prod.snd hu;exact Tp.out _ (by simp)
      |false=>
       obtain rfl:y=v:=congrArg Prod.snd hu;exact Tp.out _ (by simp))
     go_upto_region 13 with fail
     clear An Bf tB tp qb;have An:=nC.out.cell (i:=0) rfl;have Bf:=nC.out.cell (i:=1) rfl;have Kt:=nC.out.cell (i:=2) rfl
     go_upto_region 14 with (first
      |(go_at_call 32
        refine(Pq.out _ v HVd.out).mono ?_
        rintro e w2 ⟨rfl,ar⟩;have cX:=qh ar;clear ar An Bf Kt))
     have ar:=cX.out;have jq:=qh (aF (af Mx.out ar) (δ #[J v.1,J v.2.1,J (1 - v.2.2)] 32));have fA:=qh ((rI.out.bl ar).al (δ #[J v.1,J v.2.1,J (1 - v.2.2)] 32));have cm:=qh ((oQ.out.bl ar).al (δ #[J v.1,J v.2.1,J (1 - v.2.2)] 32));have cH:=qh ((iy.out.bl ar).al (δ #[J v.1,J v.2.1,J (1 - v.2.2)] 32));have ia:=qh ((vA.out.bl ar).al (δ #[J v.1,J v.2.1,J (1 - v.2.2)] 32));have db:=qh ((nC.out.bl ar).al (δ #[J v.1,J v.2.1,J (1 - v.2.2)] 32));have dj:=qh (Whole.new_ w2 32 [J v.1,J v.2.1,J (1 - v.2.2)]);have Ug:Hid (W.heap.size≤w2.heap.size):=qh (af Mx.out ar).size;have AF:Hid (b0≠w2.heap.size):=qh (by have:=(rI.out.bl ar).lt;omega);have AR:Hid (b1≠w2.heap.size):=qh (by have:=(oQ.out.bl ar).lt;omega);have Bo:Hid (b2≠w2.heap.size):=qh (by have:=(iy.out.bl ar).lt;omega);have Ac:Hid (b4≠w2.heap.size):=qh (by have:=(vA.out.bl ar).lt;omega);have zx:Hid (b5≠w2.heap.size):=qh (by have:=(nC.out.bl ar).lt;omega);obtain⟨pF,di⟩:=az (w2.alloc (δ #[J v.1,J v.2.1,J (1 - v.2.2)] 32));obtain⟨b6,dD⟩:=az w2.heap.size;rw[di] at jq fA cm cH ia db dj ⊢;rw[dD] at dj Ug AF AR Bo Ac zx ⊢;clear di dD Mx rI oQ iy vA nC ar cX
     clear Pq;have dN:=fA.out.cell (i:=0) rfl;have dZ:=fA.out.cell (i:=1) rfl;have eG:=cm.out.cell (i:=1) rfl;have eJ:=cm.out.cell (i:=2) rfl
     go_upto_region 15 with (first
      |(go_at_call 47
        refine(SJ.out _ jq.out).mono ?_
        rintro e w2 ⟨A1,n1,c1,B1,m1,k1,kG,rfl,hd,pO,rX,WH,ar⟩;have cX:=qh ar;have wG:=qh hd;have HM1:=qh pO;have qj:=qh (And.intro rX WH);clear ar hd pO rX WH dN dZ eG eJ))
     have ar:=cX.out;have oJ:=qh (aF (af jq.out ar) (δ #[γ A1 n1 c1,γ B1 m1 k1] 25));have fW:=qh ((fA.out.bl ar).al (δ #[γ A1 n1 c1,γ B1 m1 k1] 25));have fU:=qh ((cm.out.bl ar).al (δ #[γ A1 n1 c1,γ B1 m1 k1] 25));have iH:=qh ((cH.out.bl ar).al (δ #[γ A1 n1 c1,γ B1 m1 k1] 25));have eL:=qh ((ia.out.bl ar).al (δ #[γ A1 n1 c1,γ B1 m1 k1] 25));have hU:=qh ((db.out.bl ar).al (δ #[γ A1 n1 c1,γ B1 m1 k1] 25));have eM:=qh ((dj.out.bl ar).al (δ #[γ A1 n1 c1,γ B1 m1 k1] 25));have DZ:=qh (wG.out.bl (ax _ (δ #[γ A1 n1 c1,γ B1 m1 k1] 25)));have bY:=qh (Whole.new_ w2 25 [γ A1 n1 c1,γ B1 m1 k1]);have J7:Hid (W.heap.size≤w2.heap.size):=qh (af jq.out ar).size;have od:Hid (b0≠w2.heap.size):=qh (by have:=(fA.out.bl ar).lt;omega);have oA:Hid (b1≠w2.heap.size):=qh (by have:=(cm.out.bl ar).lt;omega);have oo:Hid (b2≠w2.heap.size):=qh (by have:=(cH.out.bl ar).lt;omega);have oB:Hid (b4≠w2.heap.size):=qh (by have:=(ia.out.bl ar).lt;omega);have oq:Hid (b5≠w2.heap.size):=qh (by have:=(db.out.bl ar).lt;omega);have zF:Hid (b6≠w2.heap.size):=qh (by have:=(dj.out.bl ar).lt;omega);obtain⟨uG,di⟩:=az (w2.alloc (δ #[γ A1 n1 c1,γ B1 m1 k1] 25));obtain⟨b7,dD⟩:=az w2.heap.size;rw[di] at oJ fW fU iH eL hU eM DZ bY ⊢
     rw[dD] at bY J7 od oA oo oB oq zF ⊢;clear di dD jq fA cm cH ia db dj wG ar cX;clear SJ;refine bK (aT) [8] (by kernel_rfl) ?_;refine fw 0 (hy:=bG (by rfl) 25 (.tmp 11) rfl b7 rfl 25 [γ A1 n1 c1,γ B1 m1 k1] _ (fun w' h=>h.whole bY.out.dr (fun h=>h)) Tryz.underlying25 rfl (by kernel_rfl)) (h:=?_);refine fw 1 (hy:=bG (by rfl) 32 (.tmp 10) rfl b6 rfl 32 [J v.1,J v.2.1,J (1 - v.2.2)] _ (fun w' h=>h.whole eM.out.dr (fun h=>h)) Tryz.underlying32 rfl (by kernel_rfl)) (h:=?_);refine fw 2 (hy:=bG (by rfl) 32 (.tmp 8) rfl b4 rfl 32 [J u.1,J u.2.1,J u.2.2] _ (fun w' h=>h.whole eL.out.dr (fun h=>h)) Tryz.underlying32 rfl (by kernel_rfl)) (h:=?_);refine bm 4 ?_;refine bm 5 ?_;refine fw 6 (hy:=bA (by rfl) 30 (.tmp 84) rfl ⟨b5,0,ε⟩ rfl [J v.1,J v.2.1] _ (fun w' h i u hu=>(h.whole hU.out.dr (fun h=>h)).sub_ (cs:=[J v.1,J v.2.1,J v.2.2]) (ds:=[J v.1,J v.2.1]) 0 hu) Tryz.underlying30 rfl (by kernel_rfl)) (h:=?_);refine kC 3 ?_;intro w' aC;have hx:=(Below.refl _ uG).drew.trans aC
     refine(RD.out w' _ _ _ _ _ _ _ (DZ.out.bl hx) HM1.out qj.out.1 qj.out.2 (v.1,v.2.1,1 - v.2.2) u).mono ?_
     rintro e w9 ⟨A5,c5,B5,k5,Mo,rfl,hd,pO,-,-,-,nM⟩
     refine⟨_,rfl,Kept.of_below nM,?_⟩
     have ob:=qh hd;have XC:=qh pO;have Mu:Hid (σ uG.heap.size uG w9):=qh (Ext.trans hx nM);clear hx aC hd pO nM RD;simp only[ξ,ak,aj,ah];refine kC 7 ?_;intro w' aC;have hx:σ uG.heap.size uG w':=Ext.trans Mu.out aC
     refine(Ta.out w' _ _ (cN v) _ _ _ _ _ _ _ (ob.out.bl aC) XC.out qj.out.1 qj.out.2).mono ?_
     rintro e vG ⟨vv,rfl,⟨A9,n9,c9,B9,m9,k9,Aj,rfl,hd,pO⟩,fF⟩
     refine⟨_,rfl,Kept.of_below fF,?_⟩
     have tz:=qh hd;have Yz:=qh pO;have VI:Hid (σ uG.heap.size uG vG):=qh (Ext.trans hx fF);clear hx aC hd pO fF Mu ob XC Ta;simp only[ξ,ak,aj,ah];refine lA 8 ?_;intro w' aC;have hx:σ uG.heap.size uG w':=Ext.trans VI.out aC;have hZ:=bY.out.bl hx
     refine⟨w'.setCells b7 0 [γ A9 n9 c9,γ B9 m9 k9],ey 25 (.tmp 11) (.tmp 86) rfl b7 0 rfl [γ A9 n9 c9,γ B9 m9 k9] rfl (hZ.there_ 0 2 (by simp)) (by kernel_rfl) (by simp[Value.oneCell']),?_⟩
     have Oo:Hid (Whole (w'.setCells b7 0 [γ A9 n9 c9,γ B9 m9 k9]) b7 25 [γ A9 n9 c9,γ B9 m9 k9]):=qh ((hZ.set_ 0 (γ A9 n9 c9)).set_ 1 (γ B9 m9 k9));have yy:Hid (aO (w'.setCells b7 0 [γ A9 n9 c9,γ B9 m9 k9]) A9 n9 c9 Aj B9 m9 k9 _):=qh (bf (bf (tz.out.bl aC) hZ (ib (fun i=>by simp) (fun i=>by simp)) 0 (γ A9 n9 c9)) (hZ.set_ 0 (γ A9 n9 c9)) (ib (fun i=>by simp) (fun i=>by simp)) 1 (γ B9 m9 k9));have KS:Hid (Whole (w'.setCells b7 0 [γ A9 n9 c9,γ B9 m9 k9]) b0 28 [γ A n c,γ B m k,γ C r rc]):=qh (((fW.out.bl hx).far (p:=⟨b7,0,ε⟩) od.out (γ A9 n9 c9)).far (p:=⟨b7,1,ε⟩) od.out (γ B9 m9 k9));have I6:Hid (Whole (w'.setCells b7 0 [γ A9 n9 c9,γ B9 m9 k9]) b1 36 (aa o)):=qh (((fU.out.bl hx).far (p:=⟨b7,0,ε⟩) oA.out (γ A9 n9 c9)).far (p:=⟨b7,1,ε⟩) oA.out (γ B9 m9 k9));have I3:Hid (Whole (w'.setCells b7 0 [γ A9 n9 c9,γ B9 m9 k9]) b2 28 [γ ε 0 0,γ ε 0 0,γ ε 0 0]):=qh (((iH.out.bl hx).far (p:=⟨b7,0,ε⟩) oo.out (γ A9 n9 c9)).far (p:=⟨b7,1,ε⟩) oo.out (γ B9 m9 k9));have JL:Hid (Whole (w'.setCells b7 0 [γ A9 n9 c9,γ B9 m9 k9]) b4 32 [J u.1,J u.2.1,J u.2.2]):=qh (((eL.out.bl hx).far (p:=⟨b7,0,ε⟩) oB.out (γ A9 n9 c9)).far (p:=⟨b7,1,ε⟩) oB.out (γ B9 m9 k9));have J8:Hid (Whole (w'.setCells b7 0 [γ A9 n9 c9,γ B9 m9 k9]) b5 32 [J v.1,J v.2.1,J v.2.2]):=qh (((hU.out.bl hx).far (p:=⟨b7,0,ε⟩) oq.out (γ A9 n9 c9)).far (p:=⟨b7,1,ε⟩) oq.out (γ B9 m9 k9))
     have IQ:Hid (Whole (w'.setCells b7 0 [γ A9 n9 c9,γ B9 m9 k9]) b6 32 [J v.1,J v.2.1,J (1 - v.2.2)]):=qh (((eM.out.bl hx).far (p:=⟨b7,0,ε⟩) zF.out (γ A9 n9 c9)).far (p:=⟨b7,1,ε⟩) zF.out (γ B9 m9 k9));have jJ:Hid (σ W.heap.size W (w'.setCells b7 0 [γ A9 n9 c9,γ B9 m9 k9])):=qh (((af oJ.out hx).setCell (p:=⟨b7,0,ε⟩) J7.out (γ A9 n9 c9)).setCell (p:=⟨b7,1,ε⟩) J7.out (γ B9 m9 k9));obtain⟨V5,rb⟩:=az (w'.setCells b7 0 [γ A9 n9 c9,γ B9 m9 k9]);rw[rb] at Oo yy KS I6 I3 JL J8 IQ jJ ⊢;clear rb aC hx hZ tz VI;(try simp only[ξ,ak,aj,ah]);refine eU (by kernel_rfl) ?_ _;intro w8 ch;have Tc:=qh (yy.out.bl ch);have WD:=qh (Oo.out.bl ch);have Wo:=qh (KS.out.bl ch);have aaf:=qh (I6.out.bl ch);have We:=qh (I3.out.bl ch);have Vl:=qh (JL.out.bl ch);have Vz:=qh (J8.out.bl ch);have TW:=qh (IQ.out.bl ch);have j6:=qh (af jJ.out ch);clear ch yy Oo jJ KS I6 I3 JL J8 IQ fW fU iH eL hU eM bY DZ oJ
     have HAd:Hid (∀X (j:Nat) (t:D) C2 r2 mW,(if bg (cN v) (j:Int)=(v.1,v.2.1,1 - v.2.2) then u else zD)=t→aS X X.heap.size 6 C2 r2 mW (ao cj (QV G (cN v) (v.1,v.2.1,1 - v.2.2) u j))→Ζ η 75 #[γ C2 r2 mW,φ #[J v.1,J v.2.1,J (j:Int),J t.1,J t.2.1,J t.2.2]] X fun e w'=>∃A' n' c',e=.returned (γ A' n' c')∧aS w' w'.heap.size 6 A' n' c' (ao cj (QV G (cN v) (v.1,v.2.1,1 - v.2.2) u (j+1)))∧σ X.heap.size X w'):=qh (fun X j t C2 r2 mW ht hr=>by
      have hk:=yD (x:=cN v) (far:=(v.1,v.2.1,1 - v.2.2)) (u:=u) (show G.length≤400 from yO.out.g400) yO.out.gr j;have hl:=hr.rlen bU (by decide)
      have:=vl C2 r2 mW _ (bg (cN v) (j:Int),t) X hr (by omega) hk.2
      rw[←ht] at this ⊢;exact this)
     have Ij:=qh (xJ.out.bl j6.out);have c2:=Wo.out.cell (i:=2) rfl;go_upto_region 18 with fail
     clear c2;go_loopw [12,13] (fun vg vi wr=>∃(j:Nat) (C2:Option Addr) (r2 mW:Nat),j≤2∧vg=γ C2 r2 mW∧vi=J (j:Int)∧Hid (Whole wr b2 28 [γ ε 0 0,γ ε 0 0,γ ε 0 0])∧Hid (Whole wr b4 32 [J u.1,J u.2.1,J u.2.2])∧Hid (Whole wr b5 32 [J v.1,J v.2.1,J v.2.2])∧Hid (Whole wr b6 32 [J v.1,J v.2.1,J (1 - v.2.2)])∧Hid (Whole wr b7 25 [γ A9 n9 c9,γ B9 m9 k9])∧Hid (aO wr A9 n9 c9 Aj B9 m9 k9 (eI Es (cN v)))∧Hid (aS wr wr.heap.size 6 C2 r2 mW (ao cj (QV G (cN v) (v.1,v.2.1,1 - v.2.2) u j)))∧Hid (σ W.heap.size W wr)) (fun _ vi _=>2 - (intOf vi).toNat)
     case atStart=>exact⟨0,C,r,rc,Nat.zero_le _,rfl,rfl,We,Vl,Vz,TW,WD,Tc,Ij,j6⟩
     case round=>
      clear Wo aaf We Vl Vz TW WD Tc Ij j6;obtain⟨j,C2,r2,mW,hj,rfl,rfl,H2,H4,H5,H6,H7,HD,HG,HB⟩:=hrel;obtain⟨wo,dB⟩:=az wr;rw[dB] at H2 H4 H5 H6 H7 HD HG HB ⊢;clear dB
      by_cases Y0:j<2
      ·have qd:(j:Int)<2:=by omega
       have k0:=H5.out.cell (i:=0) rfl;have k1:=H5.out.cell (i:=1) rfl;go_upto_region 21 with fail
       clear k0 k1;have uL:Hid (Whole (wo.alloc (δ #[J v.1,J v.2.1,J (j:Int),J 0,J 0,J 0] 98)) wo.heap.size 98 [J v.1,J v.2.1,J (j:Int),J 0,J 0,J 0]):=qh (Whole.new_ _ _ [_,_,_,_,_,_]);have wR:Hid (σ wo.heap.size wo (wo.alloc (δ #[J v.1,J v.2.1,J (j:Int),J 0,J 0,J 0] 98))):=qh (ax _ _);obtain⟨w3,qK⟩:=az (wo.alloc (δ #[J v.1,J v.2.1,J (j:Int),J 0,J 0,J 0] 98));obtain⟨b8,Zv⟩:=az wo.heap.size;have L8:Hid (wo.heap.size≤b8):=qh (Nat.le_of_eq Zv);rw[qK] at uL wR ⊢;rw[Zv] at uL ⊢;clear qK Zv
       obtain⟨q,heq,TF⟩:∃q:Bool,(∀X,(binOp .eql 32 (φ #[J v.1,J v.2.1,J (j:Int)]) (φ #[J v.1,J v.2.1,J (1 - v.2.2)])).run η X=.ok (Β q) X)∧(if bg (cN v) (j:Int)=(v.1,v.2.1,1 - v.2.2) then u else zD)=(if q=true then u else zD):=by
        by_cases hq:((v.1,v.2.1,(j:Int)):D)=(v.1,v.2.1,1 - v.2.2)
        ·exact⟨true,fun X=>(ud _ _ _ _ _ _ X).trans (by rw[decide_eq_true hq]),(if_pos (show bg (cN v) (j:Int)=(v.1,v.2.1,1 - v.2.2) from hq)).trans rfl⟩
        ·exact⟨ρ,fun X=>(ud _ _ _ _ _ _ X).trans (by rw[decide_eq_false hq]),(if_neg (show ¬bg (cN v) (j:Int)=(v.1,v.2.1,1 - v.2.2) from hq)).trans rfl⟩
       have HBQ:=qh TF;clear TF;have m0:=(uL.out.cell (i:=0) rfl);have m1:=(uL.out.cell (i:=1) rfl);have m2:=(uL.out.cell (i:=2) rfl);have f0:=(H6.out.bl wR.out).cell (i:=0) rfl;have f1:=(H6.out.bl wR.out).cell (i:=1) rfl;have f2:=(H6.out.bl wR.out).cell (i:=2) rfl;cases q with
       |true=>
        have HT:Hid ((if bg (cN v) (j:Int)=(v.1,v.2.1,1 - v.2.2) then u else zD)=u):=qh (HBQ.out.trans (if_pos rfl));have d3:=uL.out.cell (i:=3) rfl;have e3:=uL.out.free 3;have d4:=uL.out.cell (i:=4) rfl;have e4:=uL.out.free 4;have d5:=uL.out.cell (i:=5) rfl;have e5:=uL.out.free 5;have a0:=(H4.out.bl wR.out).cell (i:=0) rfl;have a1:=(H4.out.bl wR.out).cell (i:=1) rfl;have a2:=(H4.out.bl wR.out).cell (i:=2) rfl;go_upto_region 23 with fail
        have H8:=qh (((uL.out.set_ 3 (J u.1)).set_ 4 (J u.2.1)).set_ 5 (J u.2.2));have tc:=qh (((wR.out.setCell (p:=⟨b8,3,ε⟩) L8.out (J u.1)).setCell (p:=⟨b8,4,ε⟩) L8.out (J u.2.1)).setCell (p:=⟨b8,5,ε⟩) L8.out (J u.2.2));obtain⟨w4,IY⟩:=az (((w3.setCell ⟨b8,3,ε⟩ (J u.1)).setCell ⟨b8,4,ε⟩ (J u.2.1)).setCell ⟨b8,5,ε⟩ (J u.2.2));rw[IY] at H8 tc ⊢;clear IY uL wR heq m0 m1 m2 f0 f1 f2 d3 d4 d5 e3 e4 e5 a0 a1 a2;have g0:=H8.out.cell (i:=0) rfl;have g1:=H8.out.cell (i:=1) rfl;have g2:=H8.out.cell (i:=2) rfl;have g3:=H8.out.cell (i:=3) rfl;have g4:=H8.out.cell (i:=4) rfl;have g5:=H8.out.cell (i:=5) rfl
        go_upto_region 19 with (first
         |(go_at_call 75
           refine(HAd.out _ j u _ _ _ HT.out (HG.out.bl tc.out)).mono ?_
           rintro e w5 ⟨C3,r3,rc3,rfl,BR,fM⟩;have Mz:=qh BR;have HY:Hid (σ wo.heap.size wo w5):=qh (Ext.trans tc.out fM);clear BR fM g0 g1 g2 g3 g4 g5))
        have K2:=qh (H2.out.bl HY.out);have K4:=qh (H4.out.bl HY.out);have K5:=qh (H5.out.bl HY.out);have K6:=qh (H6.out.bl HY.out);have K7:=qh (H7.out.bl HY.out);have KD:=qh (HD.out.bl HY.out);have KB:=qh (af HB.out HY.out);clear H2 H4 H5 H6 H7 HD HB HG HY tc H8;go_wp2;go_roundw
        case rel=>exact⟨j+1,C3,r3,rc3,by omega,rfl,by go_num,K2,K4,K5,K6,K7,KD,Mz,KB⟩
        case measure=>simp[intOf];omega
       |false=>
        have HT:Hid ((if bg (cN v) (j:Int)=(v.1,v.2.1,1 - v.2.2) then u else zD)=zD):=qh (HBQ.out.trans (if_neg (by decide)));go_upto_region 23 with fail
        have H8:=uL;have tc:=wR;obtain⟨w4,IY⟩:=az w3;rw[IY] at H8 tc ⊢;clear IY uL wR heq m0 m1 m2 f0 f1 f2;have g0:=H8.out.cell (i:=0) rfl;have g1:=H8.out.cell (i:=1) rfl;have g2:=H8.out.cell (i:=2) rfl;have g3:=H8.out.cell (i:=3) rfl;have g4:=H8.out.cell (i:=4) rfl;have g5:=H8.out.cell (i:=5) rfl
        go_upto_region 19 with (first
         |(go_at_call 75
           refine(HAd.out _ j zD _ _ _ HT.out (HG.out.bl tc.out)).mono ?_
           rintro e w5 ⟨C3,r3,rc3,rfl,BR,fM⟩;have Mz:=qh BR;have HY:Hid (σ wo.heap.size wo w5):=qh (Ext.trans tc.out fM);clear BR fM g0 g1 g2 g3 g4 g5))
        have K2:=qh (H2.out.bl HY.out);have K4:=qh (H4.out.bl HY.out);have K5:=qh (H5.out.bl HY.out);have K6:=qh (H6.out.bl HY.out);have K7:=qh (H7.out.bl HY.out);have KD:=qh (HD.out.bl HY.out);have KB:=qh (af HB.out HY.out);clear H2 H4 H5 H6 H7 HD HB HG HY tc H8;go_wp2;go_roundw
        case rel=>exact⟨j+1,C3,r3,rc3,by omega,rfl,by go_num,K2,K4,K5,K6,K7,KD,Mz,KB⟩
        case measure=>simp[intOf];omega
      ·obtain rfl:j=2:=by omega
       have tx:Hid (fz (V,Es,G) (bC o) (lf o)=((dP (cK V (bC o)) (v.1,v.2.1,1 - v.2.2) u,eI Es (cN v),QV G (cN v) (v.1,v.2.1,1 - v.2.2) u 2),0)):=qh (by
        have hm:pV (ck (V,Es,G).1 (bC o)) (lf o)=ζ (u,v):=by
         rw[show ck (V,Es,G).1 (bC o)=[x,y] from BK.out.symm,HMt.out,if_pos (of_decide_eq_true GB.out)]
        unfold fz;rw[if_neg (by rw[←lJ.out];decide),hm,←of_decide_eq_true GB.out];rfl)
       obtain rfl:=tx.out.symm.trans HR.out;have z0:=H2.out.cell (i:=0) rfl;have z1:=H2.out.cell (i:=1) rfl;have z2:=H2.out.cell (i:=2) rfl;have y0:=H2.out.free 0;have y1:=H2.out.free 1;have y2:=H2.out.free 2;have x0:=H7.out.cell (i:=0) rfl;have x1:=H7.out.cell (i:=1) rfl;have k0:=aP (a:=γ ε 0 0) (b:=γ ε 0 0) (d:=γ ε 0 0) (fun i=>by simp) (fun i=>by simp) (fun i=>by simp);have k1:=aP (a:=γ A9 n9 c9) (b:=γ ε 0 0) (d:=γ ε 0 0) (fun i=>by simp) (fun i=>by simp) (fun i=>by simp);have lZ:=aP (a:=γ A9 n9 c9) (b:=γ B9 m9 k9) (d:=γ ε 0 0) (fun i=>by simp) (fun i=>by simp) (fun i=>by simp);go_wp2;have s0:=H2.out;have s1:=s0.set_ 0 (γ A9 n9 c9);have s2:=s1.set_ 1 (γ B9 m9 k9);exact aE rfl b2 rfl rfl (s2.set_ 2 (γ C2 r2 mW)) Tryz.underlying28 rfl (by kernel_rfl) rfl ⟨A9,n9,c9,B9,m9,k9,C2,r2,mW,Aj,rfl,bf (bf (bf HD.out s0 k0 0 _) s1 k1 1 _) s2 lZ 2 _,Yz.out,bu (bu (bu HG.out s0 k0 0 _) s1 k1 1 _) s2 lZ 2 _,((HB.out.setCell (p:=⟨b2,0,ε⟩) a8.out (γ A9 n9 c9)).setCell (p:=⟨b2,1,ε⟩) a8.out (γ B9 m9 k9)).setCell (p:=⟨b2,2,ε⟩) a8.out (γ C2 r2 mW)⟩
end Go.Proofs.YtpdpbfmiahjiiaaGreat
