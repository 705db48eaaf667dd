/- Several texts in one. -/
import Derived.Test.YtpdpbfmiahjiiaaGreatPpAB
import Derived.Test.YtpdpbfmiahjiiaaGreatPpAZ
set_option linter.unusedSectionVars false
set_option linter.unusedSimpArgs false
set_option linter.unusedVariables false
set_option maxRecDepth 100000
set_option maxHeartbeats 16000000
namespace Go.Proofs.YtpdpbfmiahjiiaaGreat
open Go.RowKit
open _root_.Go.Value renaming slice→γ,string→μ,agg→φ,bool→Β
open _root_.Go.Obj renaming cells→δ
open _root_.Option renaming none→ε,some→ζ
open _root_.Go.Proofs.Tryz renaming prog→η
open _root_.Go.Act renaming put→ξ
open _root_.Bool renaming false→ρ
open _root_.Go.RowKit renaming Below→σ
open _root_.List renaming mem_map→Α,mem_filter→JaC
open _root_.Go renaming Calls→Ζ
def TP (G:List Gn) (x:Nm) (far u:D):Nat→List Gn
 |0=>G
 |j+1=>dJ (TP G x far u j) (aU x (j:Int),if aU x (j:Int)=far then u else zD)
theorem AT {G:List Gn} {x:Nm} {far u:D} (h:G.length≤400) (hr:ft G):∀j,(TP G x far u j).length≤400∧ft (TP G x far u j)
 |0=>⟨h,hr⟩
 |j+1=>⟨lY _ _ (AT h hr j).1 (AT h hr j).2,fP _ (AT h hr j).2⟩
theorem ue (Vs:List VC) (x:Nm):(fY (fun v:VC=>v.1) Vs x).map vS=dw (Vs.map vS) x:=by
 unfold dw fY;rw[List.filter_map];rfl
theorem Dn {W:World} {A:Option Addr} {n c:Nat} {Vs:List VC} {B:Option Addr} {m k:Nat} {Es:List EC} {C:Option Addr} {r rc:Nat} {G:List Gn} (h:aR W A n c Vs B m k Es) (hg:aX W W.heap.size 6 C r rc (aj cB G)) (hS:fA (Vs.map vS,Es,G)) (o:cZ):
 Ζ η 51 #[φ #[γ A n c,γ B m k,γ C r rc],φ (aa o).toArray] W (ew W (cV (Vs.map vS,Es,G) (bp o) (cQ o))):=by
 have mZ:Vs.length=n:=h.v.rlen aQ (by decide);have sS:Es.length=m:=h.e.rlen bF (by decide);have KO:G.length=r:=hg.rlen cw (by decide);have rZ:Vs.length≤24:=by have:=hS.v24;rwa [List.length_map] at this
 have Ai:Es.length≤40:=hS.e40;have Km:G.length≤400:=hS.g400;have IB:∀y∈Vs,y.2.1.2.1≤80:=rr.to h hS.short
 have o0:∀y∈Vs,y.2.1.2.1≤900000:=fun y hy=>by have:=IB y hy;omega
 have HV:Hid (∀X,σ W.heap.size W X→Ζ η 27 #[φ #[γ A n c,γ B m k],φ #[J o.s,J o.n]] X fun e w'=>e=.returned (.tuple #[φ (vC (bu Vs (o.s,o.n)).1).toArray,Β (bu Vs (o.s,o.n)).2])∧σ X.heap.size X w'):=qh (fun X hX=>fJ A n c Vs B m k Es o.s o.n X (h.v.bl hX) (by omega));have iN:(bu Vs (o.s,o.n)).2=bo (Vs.map vS) (bp o):=(dO Vs (o.s,o.n)).1;have bB:(bu Vs (o.s,o.n)).1.2.1.2.2.2=cL (Vs.map vS) (bp o):=(dO Vs (o.s,o.n)).2
 have fp:RgOk W (bu Vs (o.s,o.n)).1.2.1:=by
  rcases gM (fun v:VC=>v.1) zV Vs (o.s,o.n) with h1|h1
  ·exact h.r _ h1
  ·rw[show(bu Vs (o.s,o.n))=(zV,ρ) from h1];exact⟨by decide,fw W _⟩
 obtain⟨⟨u,ok⟩,gv⟩:∃z,bu Vs (o.s,o.n)=z:=⟨_,rfl⟩
 rw[gv] at HV iN bB fp;obtain⟨⟨i1,i2⟩,⟨rA,rn,bR,rL⟩,lb,at_⟩:=u;replace HV:Hid (∀X,σ W.heap.size W X→Ζ η 27 #[φ #[γ A n c,γ B m k],φ #[J o.s,J o.n]] X fun e w'=>e=.returned (.tuple #[φ #[J i1,J i2,γ rA rn bR,μ lb,J at_],Β ok])∧σ X.heap.size X w'):=HV;dsimp only at iN bB fp;have ji:rL.length=rn:=by have:=fp.2.len;rw[bJ] at this;dsimp only at this;omega
 have Zr:Hid (∀d∈rL,d.2.2=0∨d.2.2=1):=qh (fun d hd=>by
  rw[bB] at hd;unfold cL at hd;cases hf:(Vs.map vS).find? (fun v=>decide (v.1=bp o)) with
  |none=>rw[hf] at hd;cases hd
  |some v=>
   rw[hf] at hd;exact(hS.fit.known v (List.mem_of_find?_eq_some hf) d hd).2)
 have SN:Hid (∀X (v:D),v.2.2=0∨v.2.2=1→Ζ η 32 #[φ #[J v.1,J v.2.1,J v.2.2]] X fun e w'=>e=.returned (φ #[J v.1,J v.2.1,J (1 - v.2.2)])∧σ X.heap.size X w'):=qh (fun X v hv=>uJ v.1 v.2.1 v.2.2 hv X)
 have Zv:fY (fun v:EC=>v.1) Es ((0,0):Nm)=Es:=List.filter_eq_self.2 (fun e he=>by
  have h1:=tN (hS.em e he).1;simp only[decide_eq_true_eq];intro e0;rw[e0] at h1;exact absurd h1.1 (by decide))
 have hvz:∀v∈Vs.map vS,¬v.1=((0,0):Nm):=fun v hv e0=>by
  have h1:=tN (hS.vm v hv).1;rw[e0] at h1;exact absurd h1.1 (by decide)
 have V7:Hid (∀X,σ W.heap.size W X→Ζ η 47 #[φ #[γ A n c,γ B m k],φ #[J o.s,J o.n],φ #[J 0,J 0]] X fun e w'=>∃A1 n1 c1 B1 m1 k1 Ws,e=.returned (φ #[γ A1 n1 c1,γ B1 m1 k1])∧aR w' A1 n1 c1 Ws B1 m1 k1 Es∧Ws.map vS=dw (Vs.map vS) (bp o)∧n1≤1000∧m1≤1000∧σ X.heap.size X w'):=qh (fun X hX=>by
  refine(kV (h.below hX) (o.s,o.n) (0,0) (by omega) (by omega)).mono ?_
  rintro e w' ⟨A5,n5,c5,B5,m5,k5,rfl,hd,-,-,hb⟩;rw[Zv] at hd;have h1:=hd.v.rlen aQ (by decide);have h2:=hd.e.rlen bF (by decide);have h3:(fY (fun v:VC=>v.1) Vs (o.s,o.n)).length≤Vs.length:=List.length_filter_le _ _;exact⟨A5,n5,c5,B5,m5,k5,_,rfl,hd,ue Vs (bp o),by omega,by omega,hb⟩)
 have Tx:Hid (∀X A1 n1 c1 B1 m1 k1 Ws,aR X A1 n1 c1 Ws B1 m1 k1 Es→Ws.map vS=dw (Vs.map vS) (bp o)→n1≤1000→m1≤1000→∀p q:D,Ζ η 78 #[φ #[γ A1 n1 c1,γ B1 m1 k1],φ #[J p.1,J p.2.1,J p.2.2],φ #[J q.1,J q.2.1,J q.2.2]] X (im X n1 m1 (dn (dw (Vs.map vS) (bp o)) p q) Es)):=qh (fun X A1 n1 c1 B1 m1 k1 Ws hd hW h1 h2 p q=>by
  have hK:rr 80 (dw (Vs.map vS) (bp o)):=fun v hv=>hS.short v ((JaC.1 hv).1)
  have:=s7 hd h1 h2 (fun y hy=>by have:=rr.to hd (by rw[hW];exact hK) y hy;omega) p.1 p.2.1 p.2.2 q.1 q.2.1 q.2.2
  rw[hW] at this;exact this)
 have VG:Hid (∀X (p q:D) (x:Nm) A1 n1 c1 B1 m1 k1 Ws,aR X A1 n1 c1 Ws B1 m1 k1 Es→Ws.map vS=dn (dw (Vs.map vS) (bp o)) p q→n1≤1000→m1≤1000→Ζ η 47 #[φ #[γ A1 n1 c1,γ B1 m1 k1],φ #[J 0,J 0],φ #[J x.1,J x.2]] X fun e w'=>∃v,e=.returned v∧Sr (dn (dw (Vs.map vS) (bp o)) p q) (js Es x) v w'∧σ X.heap.size X w'):=qh (fun X p q x A1 n1 c1 B1 m1 k1 Ws hd hW h1 h2=>by
  refine(kV hd (0,0) x h1 h2).mono ?_
  rintro e w' ⟨A5,n5,c5,B5,m5,k5,rfl,Ld,-,-,hb⟩
  refine⟨_,rfl,⟨A5,n5,c5,B5,m5,k5,_,rfl,Ld,?_⟩,hb⟩
  rw[ue Ws (0,0),hW];refine List.filter_eq_self.2 (fun v hv=>?_);have hk:v.1∈(dn (dw (Vs.map vS) (bp o)) p q).map (·.1):=Α.2 ⟨v,hv,rfl⟩;unfold dn at hk;rw[ic] at hk;obtain⟨u,hu,e0⟩:=Α.1 hk
  have:=hvz u ((JaC.1 hu).1)
  simpa [←e0] using this)
 have HO:=qh h;have Au:=qh hg;have zQ:=qh hS;have mY:=qh iN;have EI:=qh bB;have JZ:=qh fp;have Io:=qh ji;obtain⟨V,gV⟩:=ay (Vs.map vS);have VW:=qh gV;rw[gV] at mY EI V7 Tx VG ⊢;obtain⟨R,gR⟩:=ay (cV (V,Es,G) (bp o) (cQ o));have HR:=qh gR;rw[gR];clear gR h hg hS gV mZ sS KO rZ Ai Km IB o0 Zv hvz iN bB fp ji gv;go_enter Tryz.func51,Tryz.ntmps51;go_upto_region 1 with fail
 obtain⟨W0,b0,b1,b2,bP,bK,cX,dN,aN,aI,aV,a8,-,-,kQ,-,jK,-,bz,mj,oK,km⟩:=jN W 28 [γ A n c,γ B m k,γ C r rc] 36 (aa o) 28 [γ ε 0 0,γ ε 0 0,γ ε 0 0];rw[bP,dN,cX,bK];clear bP bK cX dN;have eD:=aN.out.cell (i:=0) rfl;have eI:=aN.out.cell (i:=1) rfl;have eZ:=aI.out.cell (i:=1) rfl;have eV:=aI.out.cell (i:=2) rfl
 go_upto_region 2 with (first
  |(go_at_call 27
    refine(HV.out _ a8.out).mono ?_
    rintro e w2 ⟨rfl,ar⟩;have cy:=qh ar;clear ar eD eI eZ eV))
 have ar:=cy.out;have cY:=qh (aE (af a8.out ar) (δ #[J i1,J i2,γ rA rn bR,μ lb,J at_] 59));have a6:=qh ((aN.out.bl ar).al (δ #[J i1,J i2,γ rA rn bR,μ lb,J at_] 59));have a7:=qh ((aI.out.bl ar).al (δ #[J i1,J i2,γ rA rn bR,μ lb,J at_] 59));have az:=qh ((aV.out.bl ar).al (δ #[J i1,J i2,γ rA rn bR,μ lb,J at_] 59));have bh:=qh (Whole.new_ w2 59 [J i1,J i2,γ rA rn bR,μ lb,J at_]);have mg:Hid (W.heap.size≤w2.heap.size):=qh (af a8.out ar).size;have iY:Hid (b0≠w2.heap.size):=qh (by have:=(aN.out.bl ar).lt;omega);have iU:Hid (b1≠w2.heap.size):=qh (by have:=(aI.out.bl ar).lt;omega);have iX:Hid (b2≠w2.heap.size):=qh (by have:=(aV.out.bl ar).lt;omega);obtain⟨qT,cS⟩:=ay (w2.alloc (δ #[J i1,J i2,γ rA rn bR,μ lb,J at_] 59));obtain⟨b3,dk⟩:=ay w2.heap.size;rw[cS] at cY a6 a7 az bh ⊢;rw[dk] at bh mg iY iU iX ⊢;clear cS dk a8 aN aI aV ar cy;clear HV;cases ok with
 |false=>
  obtain rfl:=(show cV (V,Es,G) (bp o) (cQ o)=(cp,13) from by unfold cV;rw[if_pos mY.out.symm]).symm.trans HR.out;have z0:=az.out.cell (i:=0) rfl;have z1:=az.out.cell (i:=1) rfl;have z2:=az.out.cell (i:=2) rfl;have y0:=az.out.free 0;have y1:=az.out.free 1;have y2:=az.out.free 2;go_wp2;exact aG rfl b2 rfl rfl (((az.out.set_ 0 (γ ε 0 0)).set_ 1 (γ ε 0 0)).set_ 2 (γ ε 0 0)) Tryz.underlying28 rfl (by kernel_rfl) rfl ⟨ε,0,0,ε,0,0,ε,0,0,[],rfl,eE _,rfl,aX.no _ _ _,((cY.out.setCell (p:=⟨b2,0,ε⟩) bz.out (γ ε 0 0)).setCell (p:=⟨b2,1,ε⟩) bz.out (γ ε 0 0)).setCell (p:=⟨b2,2,ε⟩) bz.out (γ ε 0 0)⟩
 |true=>
  by_cases h2:rn=2
  rotate_left
  ·have hnI:¬(rn:Int)=2:=by omega
   have ld1:=dm (i:=2) bh.out rfl;go_upto_region 4 with fail
   refine aw (aF) (by kernel_rfl) ?_;refine ag 0 ?_;refine ag 1 ?_;refine ag 2 ?_;refine bY 3 (hy:=dG (v:=Β true) (by rfl) (fun w' aB=>by go_simp)) (h:=?_);refine ag 4 ?_;refine bg 5 ?_;refine bg 6 ?_;refine bg 7 ?_;refine bg 8 ?_;refine bg 9 ?_;refine bg 10 ?_;refine bg 11 ?_;refine bg 12 ?_;refine bg 13 ?_;refine bg 14 ?_;refine bg 15 ?_;refine ag 16 ?_;refine aD (by kernel_rfl) ?_ _;intro w4 uD;have ad2:=qh (a6.out.dr.bl uD);have aeg:=qh (a7.out.dr.bl uD);have sz:=qh (az.out.dr.bl uD);have acF:=qh (bh.out.dr.bl uD);have adP:=qh (af (aL cY.out) uD);clear uD cY a6 a7 az bh;clear ld1 hnI
   obtain rfl:=(show cV (V,Es,G) (bp o) (cQ o)=(cp,14) from by unfold cV;rw[if_neg (by rw[←mY.out];decide),show gH (cL (V,Es,G).1 (bp o)) (cQ o)=ε from by
    rw[show cL (V,Es,G).1 (bp o)=rL from EI.out.symm];unfold gH;split
    ·exact absurd Io.out.symm h2
    ·rfl]).symm.trans HR.out
   have z0:=sz.out.cell (i:=0) rfl;have z1:=sz.out.cell (i:=1) rfl;have z2:=sz.out.cell (i:=2) rfl;have y0:=sz.out.free 0;have y1:=sz.out.free 1;have y2:=sz.out.free 2;go_wp2;exact aG rfl b2 rfl rfl (((sz.out.set_ 0 (γ ε 0 0)).set_ 1 (γ ε 0 0)).set_ 2 (γ ε 0 0)) Tryz.underlying28 rfl (by kernel_rfl) rfl ⟨ε,0,0,ε,0,0,ε,0,0,[],rfl,eE _,rfl,aX.no _ _ _,((adP.out.setCell (p:=⟨b2,0,ε⟩) bz.out (γ ε 0 0)).setCell (p:=⟨b2,1,ε⟩) bz.out (γ ε 0 0)).setCell (p:=⟨b2,2,ε⟩) bz.out (γ ε 0 0)⟩
  subst h2;obtain⟨bb,off,rfl,bD,hc⟩:=JZ.out.2.darts (show 0<2 by decide)
  obtain⟨x,y,rfl⟩:∃x y,rL=[x,y]:=by
   have hl:=Io.out
   match rL,hl with
   |[x,y],_=>exact⟨x,y,rfl⟩
  obtain⟨c0,c1,c2⟩:=hc 0 (show 0<2 by decide);obtain⟨c3,c4,c5⟩:=hc 1 (show 1<2 by decide);simp only[Nat.zero_mul,Nat.one_mul,Nat.add_zero,Nat.add_assoc,Nat.reduceAdd,List.getD_cons_zero,List.getD_cons_succ] at c0 c1 c2 c3 c4 c5;have C0:=qh c0;have C1:=qh c1;have C2:=qh c2;have C3:=qh c3;have C4:=qh c4;have C5:=qh c5;have zG:=qh bD;clear hc bD c0 c1 c2 c3 c4 c5;obtain⟨pe,ge⟩:=ay (decide (dS x=dS y));have qe:∀X:World,(binOp .eql 30 (φ #[J x.1,J x.2.1]) (φ #[J y.1,J y.2.1])).run η X=.ok (Β pe) X:=fun X=>by rw[eL,show decide ((x.1,x.2.1)=(y.1,y.2.1))=pe from ge]
  have GE:=qh ge;clear ge;go_upto_region 4 with fail
  have lv:=dm (i:=2) bh.out rfl;have fv:∀w',Kept aF qT.drew w'→w'.cell? ⟨bb,off,ε⟩=ζ (J x.1):=fun w' h=>h.cell ((cY.out.cell (p:=⟨bb,off,ε⟩) zG.out).trans C0.out) (fun e=>e)
  have ld1:∀w',Kept aF qT.drew w'→w'.cell? ⟨bb,off+1,ε⟩=ζ (J x.2.1):=fun w' h=>h.cell ((cY.out.cell (p:=⟨bb,off+1,ε⟩) zG.out).trans C1.out) (fun e=>e)
  have pt:∀w',Kept aF qT.drew w'→w'.cell? ⟨bb,off+3,ε⟩=ζ (J y.1):=fun w' h=>h.cell ((cY.out.cell (p:=⟨bb,off+3,ε⟩) zG.out).trans C3.out) (fun e=>e)
  have sU:∀w',Kept aF qT.drew w'→w'.cell? ⟨bb,off+4,ε⟩=ζ (J y.2.1):=fun w' h=>h.cell ((cY.out.cell (p:=⟨bb,off+4,ε⟩) zG.out).trans C4.out) (fun e=>e)
  refine aw (aF) (by kernel_rfl) ?_;refine ag 0 ?_;refine ag 1 ?_;refine ag 2 ?_;refine ag 3 ?_;refine ag 4 ?_;refine ag 5 ?_;refine ag 6 ?_;refine ag 7 ?_;refine ag 8 ?_;refine ag 9 ?_;refine ag 10 ?_;refine ag 11 ?_;refine ag 12 ?_;refine ag 13 ?_;refine ag 14 ?_;refine ag 15 ?_;refine ag 16 ?_;refine aD (by kernel_rfl) ?_ _;clear lv fv ld1 pt sU qe;intro w4 uD;have Fm:=qh (a6.out.dr.bl uD);have FN:=qh (a7.out.dr.bl uD);have mJ:=qh (az.out.dr.bl uD);have BC:=qh (bh.out.dr.bl uD);have E9:=qh (af (aL cY.out) uD);clear uD cY a6 a7 az bh;cases pe with
  |true=>
   obtain rfl:=(show cV (V,Es,G) (bp o) (cQ o)=(cp,14) from by unfold cV;rw[if_neg (by rw[←mY.out];decide),show gH (cL (V,Es,G).1 (bp o)) (cQ o)=ε from by
    rw[show cL (V,Es,G).1 (bp o)=[x,y] from EI.out.symm]
    show(if dS x=dS y then ε else if dS x=cQ o then ζ (y,x) else if dS y=cQ o then ζ (x,y) else ε)=ε
    rw[if_pos (of_decide_eq_true GE.out)]]).symm.trans HR.out
   have z0:=mJ.out.cell (i:=0) rfl;have z1:=mJ.out.cell (i:=1) rfl;have z2:=mJ.out.cell (i:=2) rfl;have y0:=mJ.out.free 0;have y1:=mJ.out.free 1;have y2:=mJ.out.free 2;go_wp2;exact aG rfl b2 rfl rfl (((mJ.out.set_ 0 (γ ε 0 0)).set_ 1 (γ ε 0 0)).set_ 2 (γ ε 0 0)) Tryz.underlying28 rfl (by kernel_rfl) rfl ⟨ε,0,0,ε,0,0,ε,0,0,[],rfl,eE _,rfl,aX.no _ _ _,((E9.out.setCell (p:=⟨b2,0,ε⟩) bz.out (γ ε 0 0)).setCell (p:=⟨b2,1,ε⟩) bz.out (γ ε 0 0)).setCell (p:=⟨b2,2,ε⟩) bz.out (γ ε 0 0)⟩
  |false=>
   have cu:¬dS x=dS y:=of_decide_eq_false GE.out;have HNe:=qh cu;clear cu;go_upto_region 6 with fail
   have IE:=BC.out.cell (i:=2) rfl;have r0:w4.cell? ⟨bb,off,ε⟩=ζ (J x.1):=(E9.out.cell (p:=⟨bb,off,ε⟩) zG.out).trans C0.out;have r1:w4.cell? ⟨bb,off+1,ε⟩=ζ (J x.2.1):=(E9.out.cell (p:=⟨bb,off+1,ε⟩) zG.out).trans C1.out;have r2:w4.cell? ⟨bb,off+2,ε⟩=ζ (J x.2.2):=(E9.out.cell (p:=⟨bb,off+2,ε⟩) zG.out).trans C2.out;go_upto_region 7 with fail
   clear IE r0 r1 r2;have lH:=qh (aE (E9.out) (δ #[J x.1,J x.2.1,J x.2.2] 32));have eM:=qh (Fm.out.al (δ #[J x.1,J x.2.1,J x.2.2] 32));have ey:=qh (FN.out.al (δ #[J x.1,J x.2.1,J x.2.2] 32));have gO:=qh (mJ.out.al (δ #[J x.1,J x.2.1,J x.2.2] 32));have fQ:=qh (BC.out.al (δ #[J x.1,J x.2.1,J x.2.2] 32));have dH:=qh (Whole.new_ w4 32 [J x.1,J x.2.1,J x.2.2]);have Ev:Hid (W.heap.size≤w4.heap.size):=qh (E9.out).size;have uE:Hid (b0≠w4.heap.size):=qh (by have:=(Fm.out).lt;omega);have vn:Hid (b1≠w4.heap.size):=qh (by have:=(FN.out).lt;omega);have uI:Hid (b2≠w4.heap.size):=qh (by have:=(mJ.out).lt;omega);have Ap:Hid (b3≠w4.heap.size):=qh (by have:=(BC.out).lt;omega);obtain⟨Gf,cS⟩:=ay (w4.alloc (δ #[J x.1,J x.2.1,J x.2.2] 32));obtain⟨b4,dk⟩:=ay w4.heap.size;rw[cS] at lH eM ey gO fQ dH ⊢;rw[dk] at dH Ev uE vn uI Ap ⊢;clear cS dk E9 Fm FN mJ BC;have IE:=fQ.out.cell (i:=2) rfl;have r3:Gf.cell? ⟨bb,off+3,ε⟩=ζ (J y.1):=(lH.out.cell (p:=⟨bb,off+3,ε⟩) zG.out).trans C3.out;have r4:Gf.cell? ⟨bb,off+4,ε⟩=ζ (J y.2.1):=(lH.out.cell (p:=⟨bb,off+4,ε⟩) zG.out).trans C4.out;have r5:Gf.cell? ⟨bb,off+5,ε⟩=ζ (J y.2.2):=(lH.out.cell (p:=⟨bb,off+5,ε⟩) zG.out).trans C5.out
   go_upto_region 8 with fail
   clear IE r3 r4 r5;have jO:=qh (aE (lH.out) (δ #[J y.1,J y.2.1,J y.2.2] 32));have ff:=qh (eM.out.al (δ #[J y.1,J y.2.1,J y.2.2] 32));have eF:=qh (ey.out.al (δ #[J y.1,J y.2.1,J y.2.2] 32));have bI:=qh (gO.out.al (δ #[J y.1,J y.2.1,J y.2.2] 32));have ja:=qh (fQ.out.al (δ #[J y.1,J y.2.1,J y.2.2] 32));have dA:=qh (dH.out.al (δ #[J y.1,J y.2.1,J y.2.2] 32));have dQ:=qh (Whole.new_ Gf 32 [J y.1,J y.2.1,J y.2.2]);have ED:Hid (W.heap.size≤Gf.heap.size):=qh (lH.out).size;have nS:Hid (b0≠Gf.heap.size):=qh (by have:=(eM.out).lt;omega);have nB:Hid (b1≠Gf.heap.size):=qh (by have:=(ey.out).lt;omega);have nE:Hid (b2≠Gf.heap.size):=qh (by have:=(gO.out).lt;omega);have Dr:Hid (b3≠Gf.heap.size):=qh (by have:=(fQ.out).lt;omega);have kp:Hid (b4≠Gf.heap.size):=qh (by have:=(dH.out).lt;omega);obtain⟨yy,cS⟩:=ay (Gf.alloc (δ #[J y.1,J y.2.1,J y.2.2] 32));obtain⟨b5,dk⟩:=ay Gf.heap.size;rw[cS] at jO ff eF bI ja dA dQ ⊢;rw[dk] at dQ ED nS nB nE Dr kp ⊢;clear cS dk lH eM ey gO fQ dH;obtain⟨pa,ga⟩:=ay (decide (dS x=cQ o));have qa:∀X:World,(binOp .eql 30 (φ #[J x.1,J x.2.1]) (φ #[J o.s2,J o.n2])).run η X=.ok (Β pa) X:=fun X=>by rw[eL,show decide ((x.1,x.2.1)=(o.s2,o.n2))=pa from ga]
   have GA:=qh ga;clear ga;obtain⟨⟨u,v⟩,Vy⟩:∃z:D × D,(if pa=true then(y,x) else(x,y))=z:=⟨_,rfl⟩
   have HUV:=qh Vy;have Ag:=dA.out.cell (i:=0) rfl;have zr:=dA.out.cell (i:=1) rfl;have u6:=eF.out.cell (i:=5) rfl;have uF:=eF.out.cell (i:=6) rfl;go_upto_if 56 with fail
   go_cut [] (fun z=>Whole z b0 28 [γ A n c,γ B m k,γ C r rc]∧Whole z b1 36 (aa o)∧Whole z b2 28 [γ ε 0 0,γ ε 0 0,γ ε 0 0]∧Whole z b4 32 [J u.1,J u.2.1,J u.2.2]∧Whole z b5 32 [J v.1,J v.2.1,J v.2.2]∧σ W.heap.size W z)
   case first=>
    have n43:=Ap.out;have n45:=kp.out;have n4b:bb≠b4:=by have h1:=zG.out;have h2:=Ev.out;omega
    have n5b:bb≠b5:=by have h1:=zG.out;have h2:=ED.out;omega
    have t2:=dA.out.cell (i:=2) rfl;have t3:=dQ.out.cell (i:=0) rfl;have t4:=dQ.out.cell (i:=1) rfl;have t5:=dQ.out.cell (i:=2) rfl;have u0:=dA.out.free 0;have v0:=dQ.out.free 0;have u1:=dA.out.free 1;have v1:=dQ.out.free 1;have u2:=dA.out.free 2;have v2:=dQ.out.free 2;have IE:=ja.out.cell (i:=2) rfl;have r0:yy.cell? ⟨bb,off,ε⟩=ζ (J x.1):=(jO.out.cell (p:=⟨bb,off,ε⟩) zG.out).trans C0.out;have r1:yy.cell? ⟨bb,off+1,ε⟩=ζ (J x.2.1):=(jO.out.cell (p:=⟨bb,off+1,ε⟩) zG.out).trans C1.out;have r2:yy.cell? ⟨bb,off+2,ε⟩=ζ (J x.2.2):=(jO.out.cell (p:=⟨bb,off+2,ε⟩) zG.out).trans C2.out;have r3:yy.cell? ⟨bb,off+3,ε⟩=ζ (J y.1):=(jO.out.cell (p:=⟨bb,off+3,ε⟩) zG.out).trans C3.out;have r4:yy.cell? ⟨bb,off+4,ε⟩=ζ (J y.2.1):=(jO.out.cell (p:=⟨bb,off+4,ε⟩) zG.out).trans C4.out;have r5:yy.cell? ⟨bb,off+5,ε⟩=ζ (J y.2.2):=(jO.out.cell (p:=⟨bb,off+5,ε⟩) zG.out).trans C5.out;cases pa with
    |true=>
     obtain⟨rfl,rfl⟩:y=u∧x=v:=⟨congrArg Prod.fst Vy,congrArg Prod.snd Vy⟩;go_wp2;go_meet;exact⟨((((((ff.out.far (p:=⟨b4,0,ε⟩) uE.out (J y.1)).far (p:=⟨b4,1,ε⟩) uE.out (J y.2.1)).far (p:=⟨b4,2,ε⟩) uE.out (J y.2.2)).far (p:=⟨b5,0,ε⟩) nS.out (J x.1)).far (p:=⟨b5,1,ε⟩) nS.out (J x.2.1)).far (p:=⟨b5,2,ε⟩) nS.out (J x.2.2)),((((((eF.out.far (p:=⟨b4,0,ε⟩) vn.out (J y.1)).far (p:=⟨b4,1,ε⟩) vn.out (J y.2.1)).far (p:=⟨b4,2,ε⟩) vn.out (J y.2.2)).far (p:=⟨b5,0,ε⟩) nB.out (J x.1)).far (p:=⟨b5,1,ε⟩) nB.out (J x.2.1)).far (p:=⟨b5,2,ε⟩) nB.out (J x.2.2)),((((((bI.out.far (p:=⟨b4,0,ε⟩) uI.out (J y.1)).far (p:=⟨b4,1,ε⟩) uI.out (J y.2.1)).far (p:=⟨b4,2,ε⟩) uI.out (J y.2.2)).far (p:=⟨b5,0,ε⟩) nE.out (J x.1)).far (p:=⟨b5,1,ε⟩) nE.out (J x.2.1)).far (p:=⟨b5,2,ε⟩) nE.out (J x.2.2)),((((((dA.out.set_ 0 (J y.1)).set_ 1 (J y.2.1)).set_ 2 (J y.2.2)).far (p:=⟨b5,0,ε⟩) kp.out (J x.1)).far (p:=⟨b5,1,ε⟩) kp.out (J x.2.1)).far (p:=⟨b5,2,ε⟩) kp.out (J x.2.2)),((((((dQ.out.far (p:=⟨b4,0,ε⟩) (fun e=>kp.out e.symm) (J y.1)).far (p:=⟨b4,1,ε⟩) (fun e=>kp.out e.symm) (J y.2.1)).far (p:=⟨b4,2,ε⟩) (fun e=>kp.out e.symm) (J y.2.2)).set_ 0 (J x.1)).set_ 1 (J x.2.1)).set_ 2 (J x.2.2)),((((((jO.out.setCell (p:=⟨b4,0,ε⟩) Ev.out (J y.1)).setCell (p:=⟨b4,1,ε⟩) Ev.out (J y.2.1)).setCell (p:=⟨b4,2,ε⟩) Ev.out (J y.2.2)).setCell (p:=⟨b5,0,ε⟩) ED.out (J x.1)).setCell (p:=⟨b5,1,ε⟩) ED.out (J x.2.1)).setCell (p:=⟨b5,2,ε⟩) ED.out (J x.2.2))⟩
    |false=>
     obtain⟨rfl,rfl⟩:x=u∧y=v:=⟨congrArg Prod.fst Vy,congrArg Prod.snd Vy⟩;go_wp2;go_meet;exact⟨ff.out,eF.out,bI.out,dA.out,dQ.out,jO.out⟩
   case rest=>
    obtain⟨h0,h1,h2,h4,h5,hB⟩:=hcut;have tr:=qh h0;have pR:=qh h1;have iS:=qh h2;have yk:=qh h4;have oQ:=qh h5;have IV:=qh hB;clear h0 h1 h2 h4 h5 hB qa Vy
    have YH:Hid (gH [x,y] (cQ o)=if dS v=cQ o then ζ (u,v) else ε):=qh (by
     show(if dS x=dS y then ε else if dS x=cQ o then ζ (y,x) else if dS y=cQ o then ζ (x,y) else ε)=_
     rw[if_neg HNe.out];have hu:=HUV.out;cases pa with
     |true=>
      obtain⟨rfl,rfl⟩:y=u∧x=v:=⟨congrArg Prod.fst hu,congrArg Prod.snd hu⟩;rw[if_pos (of_decide_eq_true GA.out),if_pos (of_decide_eq_true GA.out)]
     |false=>
      obtain⟨rfl,rfl⟩:x=u∧y=v:=⟨congrArg Prod.fst hu,congrArg Prod.snd hu⟩;rw[if_neg (of_decide_eq_false GA.out)])
    obtain⟨pb,gb⟩:=ay (decide (dS v=cQ o));have qb:∀X:World,(binOp .neq 30 (φ #[J v.1,J v.2.1]) (φ #[J o.s2,J o.n2])).run η X=.ok (Β (!pb)) X:=fun X=>by rw[xS,show decide ((v.1,v.2.1)=(o.s2,o.n2))=pb from gb]
    have GB:=qh gb;clear gb;have Et:=oQ.out.cell (i:=0) rfl;have CI:=oQ.out.cell (i:=1) rfl;have u6:=pR.out.cell (i:=5) rfl;have uF:=pR.out.cell (i:=6) rfl;cases pb with
    |false=>
     obtain rfl:=(show cV (V,Es,G) (bp o) (cQ o)=(cp,14) from by unfold cV;rw[if_neg (by rw[←mY.out];decide),show gH (cL (V,Es,G).1 (bp o)) (cQ o)=ε from by
      rw[show cL (V,Es,G).1 (bp o)=[x,y] from EI.out.symm,YH.out,if_neg (of_decide_eq_false GB.out)]]).symm.trans HR.out
     have z0:=iS.out.cell (i:=0) rfl;have z1:=iS.out.cell (i:=1) rfl;have z2:=iS.out.cell (i:=2) rfl;have y0:=iS.out.free 0;have y1:=iS.out.free 1;have y2:=iS.out.free 2;go_wp2;exact aG rfl b2 rfl rfl (((iS.out.set_ 0 (γ ε 0 0)).set_ 1 (γ ε 0 0)).set_ 2 (γ ε 0 0)) Tryz.underlying28 rfl (by kernel_rfl) rfl ⟨ε,0,0,ε,0,0,ε,0,0,[],rfl,eE _,rfl,aX.no _ _ _,((IV.out.setCell (p:=⟨b2,0,ε⟩) bz.out (γ ε 0 0)).setCell (p:=⟨b2,1,ε⟩) bz.out (γ ε 0 0)).setCell (p:=⟨b2,2,ε⟩) bz.out (γ ε 0 0)⟩
    |true=>
     have HVd:Hid (v.2.2=0∨v.2.2=1):=qh (by
      have hu:=HUV.out;cases pa with
      |true=>
       obtain rfl:x=v:=congrArg Prod.snd hu;exact Zr.out _ (by simp)
      |false=>
       obtain rfl:y=v:=congrArg Prod.snd hu;exact Zr.out _ (by simp))
     go_upto_region 13 with fail
     clear Et CI u6 uF qb;have Et:=oQ.out.cell (i:=0) rfl;have CI:=oQ.out.cell (i:=1) rfl;have Nd:=oQ.out.cell (i:=2) rfl
     go_upto_region 14 with (first
      |(go_at_call 32
        refine(SN.out _ v HVd.out).mono ?_
        rintro e w2 ⟨rfl,ar⟩;have cy:=qh ar;clear ar Et CI Nd))
     have ar:=cy.out;have nq:=qh (aE (af IV.out ar) (δ #[J v.1,J v.2.1,J (1 - v.2.2)] 32));have fH:=qh ((tr.out.bl ar).al (δ #[J v.1,J v.2.1,J (1 - v.2.2)] 32));have cH:=qh ((pR.out.bl ar).al (δ #[J v.1,J v.2.1,J (1 - v.2.2)] 32));have dj:=qh ((iS.out.bl ar).al (δ #[J v.1,J v.2.1,J (1 - v.2.2)] 32));have fc:=qh ((yk.out.bl ar).al (δ #[J v.1,J v.2.1,J (1 - v.2.2)] 32));have dE:=qh ((oQ.out.bl ar).al (δ #[J v.1,J v.2.1,J (1 - v.2.2)] 32));have gE:=qh (Whole.new_ w2 32 [J v.1,J v.2.1,J (1 - v.2.2)]);have ZG:Hid (W.heap.size≤w2.heap.size):=qh (af IV.out ar).size;have Cs:Hid (b0≠w2.heap.size):=qh (by have:=(tr.out.bl ar).lt;omega);have DL:Hid (b1≠w2.heap.size):=qh (by have:=(pR.out.bl ar).lt;omega);have DU:Hid (b2≠w2.heap.size):=qh (by have:=(iS.out.bl ar).lt;omega);have Eb:Hid (b4≠w2.heap.size):=qh (by have:=(yk.out.bl ar).lt;omega);have Dq:Hid (b5≠w2.heap.size):=qh (by have:=(oQ.out.bl ar).lt;omega);obtain⟨Jj,cS⟩:=ay (w2.alloc (δ #[J v.1,J v.2.1,J (1 - v.2.2)] 32));obtain⟨b6,dk⟩:=ay w2.heap.size;rw[cS] at nq fH cH dj fc dE gE ⊢;rw[dk] at gE ZG Cs DL DU Eb Dq ⊢;clear cS dk IV tr pR iS yk oQ ar cy
     clear SN;have eD:=fH.out.cell (i:=0) rfl;have eI:=fH.out.cell (i:=1) rfl;have eZ:=cH.out.cell (i:=1) rfl;have eV:=cH.out.cell (i:=2) rfl
     go_upto_region 15 with (first
      |(go_at_call 47
        refine(V7.out _ nq.out).mono ?_
        rintro e w2 ⟨A1,n1,c1,B1,m1,k1,oh,rfl,hd,ri,vN,ZU,ar⟩;have cy:=qh ar;have yZ:=qh hd;have HM1:=qh ri;have q9:=qh (And.intro vN ZU);clear ar hd ri vN ZU eD eI eZ eV))
     have ar:=cy.out;have pv:=qh (aE (af nq.out ar) (δ #[γ A1 n1 c1,γ B1 m1 k1] 25));have gC:=qh ((fH.out.bl ar).al (δ #[γ A1 n1 c1,γ B1 m1 k1] 25));have gG:=qh ((cH.out.bl ar).al (δ #[γ A1 n1 c1,γ B1 m1 k1] 25));have jg:=qh ((dj.out.bl ar).al (δ #[γ A1 n1 c1,γ B1 m1 k1] 25));have dR:=qh ((fc.out.bl ar).al (δ #[γ A1 n1 c1,γ B1 m1 k1] 25));have ir:=qh ((dE.out.bl ar).al (δ #[γ A1 n1 c1,γ B1 m1 k1] 25));have iZ:=qh ((gE.out.bl ar).al (δ #[γ A1 n1 c1,γ B1 m1 k1] 25));have Fa:=qh (yZ.out.bl (ax _ (δ #[γ A1 n1 c1,γ B1 m1 k1] 25)));have dh:=qh (Whole.new_ w2 25 [γ A1 n1 c1,γ B1 m1 k1]);have Ni:Hid (W.heap.size≤w2.heap.size):=qh (af nq.out ar).size;have qo:Hid (b0≠w2.heap.size):=qh (by have:=(fH.out.bl ar).lt;omega);have qq:Hid (b1≠w2.heap.size):=qh (by have:=(cH.out.bl ar).lt;omega);have py:Hid (b2≠w2.heap.size):=qh (by have:=(dj.out.bl ar).lt;omega);have qn:Hid (b4≠w2.heap.size):=qh (by have:=(fc.out.bl ar).lt;omega);have pE:Hid (b5≠w2.heap.size):=qh (by have:=(dE.out.bl ar).lt;omega);have Df:Hid (b6≠w2.heap.size):=qh (by have:=(gE.out.bl ar).lt;omega);obtain⟨wV,cS⟩:=ay (w2.alloc (δ #[γ A1 n1 c1,γ B1 m1 k1] 25));obtain⟨b7,dk⟩:=ay w2.heap.size;rw[cS] at pv gC gG jg dR ir iZ Fa dh ⊢
     rw[dk] at dh Ni qo qq py qn pE Df ⊢;clear cS dk nq fH cH dj fc dE gE yZ ar cy;clear V7;refine bT (aF) [8] (by kernel_rfl) ?_;refine fC 0 (hy:=bU (by rfl) 25 (.tmp 11) rfl b7 rfl 25 [γ A1 n1 c1,γ B1 m1 k1] _ (fun w' h=>h.whole dh.out.dr (fun h=>h)) Tryz.underlying25 rfl (by kernel_rfl)) (h:=?_);refine fC 1 (hy:=bU (by rfl) 32 (.tmp 10) rfl b6 rfl 32 [J v.1,J v.2.1,J (1 - v.2.2)] _ (fun w' h=>h.whole iZ.out.dr (fun h=>h)) Tryz.underlying32 rfl (by kernel_rfl)) (h:=?_);refine fC 2 (hy:=bU (by rfl) 32 (.tmp 8) rfl b4 rfl 32 [J u.1,J u.2.1,J u.2.2] _ (fun w' h=>h.whole dR.out.dr (fun h=>h)) Tryz.underlying32 rfl (by kernel_rfl)) (h:=?_);refine bf 4 ?_;refine bf 5 ?_;refine fC 6 (hy:=bG (by rfl) 30 (.tmp 84) rfl ⟨b5,0,ε⟩ rfl [J v.1,J v.2.1] _ (fun w' h i u hu=>(h.whole ir.out.dr (fun h=>h)).sub_ (cs:=[J v.1,J v.2.1,J v.2.2]) (ds:=[J v.1,J v.2.1]) 0 hu) Tryz.underlying30 rfl (by kernel_rfl)) (h:=?_);refine kP 3 ?_;intro w' aB;have hx:=(Below.refl _ wV).drew.trans aB
     refine(Tx.out w' _ _ _ _ _ _ _ (Fa.out.bl hx) HM1.out q9.out.1 q9.out.2 (v.1,v.2.1,1 - v.2.2) u).mono ?_
     rintro e w9 ⟨A5,c5,B5,k5,PD,rfl,hd,ri,-,-,-,o6⟩
     refine⟨_,rfl,Kept.of_below o6,?_⟩
     have vD:=qh hd;have P8:=qh ri;have Pt:Hid (σ wV.heap.size wV w9):=qh (Ext.trans hx o6);clear hx aB hd ri o6 Tx;simp only[ξ,aq,ak,ao];refine kP 7 ?_;intro w' aB;have hx:σ wV.heap.size wV w':=Ext.trans Pt.out aB
     refine(VG.out w' _ _ (dS v) _ _ _ _ _ _ _ (vD.out.bl aB) P8.out q9.out.1 q9.out.2).mono ?_
     rintro e vB ⟨vv,rfl,⟨A9,n9,c9,B9,m9,k9,CU,rfl,hd,ri⟩,e6⟩
     refine⟨_,rfl,Kept.of_below e6,?_⟩
     have uU:=qh hd;have TX:=qh ri;have Xp:Hid (σ wV.heap.size wV vB):=qh (Ext.trans hx e6);clear hx aB hd ri e6 Pt vD P8 VG;simp only[ξ,aq,ak,ao];refine lK 8 ?_;intro w' aB;have hx:σ wV.heap.size wV w':=Ext.trans Xp.out aB;have hZ:=dh.out.bl hx
     refine⟨w'.setCells b7 0 [γ A9 n9 c9,γ B9 m9 k9],eO 25 (.tmp 11) (.tmp 86) rfl b7 0 rfl [γ A9 n9 c9,γ B9 m9 k9] rfl (hZ.there_ 0 2 (by simp)) (by kernel_rfl) (by simp[Value.oneCell']),?_⟩
     have P6:Hid (Whole (w'.setCells b7 0 [γ A9 n9 c9,γ B9 m9 k9]) b7 25 [γ A9 n9 c9,γ B9 m9 k9]):=qh ((hZ.set_ 0 (γ A9 n9 c9)).set_ 1 (γ B9 m9 k9));have sm:Hid (aR (w'.setCells b7 0 [γ A9 n9 c9,γ B9 m9 k9]) A9 n9 c9 CU B9 m9 k9 _):=qh (bA (bA (uU.out.bl aB) hZ (iu (fun i=>by simp) (fun i=>by simp)) 0 (γ A9 n9 c9)) (hZ.set_ 0 (γ A9 n9 c9)) (iu (fun i=>by simp) (fun i=>by simp)) 1 (γ B9 m9 k9));have LI:Hid (Whole (w'.setCells b7 0 [γ A9 n9 c9,γ B9 m9 k9]) b0 28 [γ A n c,γ B m k,γ C r rc]):=qh (((gC.out.bl hx).far (p:=⟨b7,0,ε⟩) qo.out (γ A9 n9 c9)).far (p:=⟨b7,1,ε⟩) qo.out (γ B9 m9 k9));have Lx:Hid (Whole (w'.setCells b7 0 [γ A9 n9 c9,γ B9 m9 k9]) b1 36 (aa o)):=qh (((gG.out.bl hx).far (p:=⟨b7,0,ε⟩) qq.out (γ A9 n9 c9)).far (p:=⟨b7,1,ε⟩) qq.out (γ B9 m9 k9));have Ot:Hid (Whole (w'.setCells b7 0 [γ A9 n9 c9,γ B9 m9 k9]) b2 28 [γ ε 0 0,γ ε 0 0,γ ε 0 0]):=qh (((jg.out.bl hx).far (p:=⟨b7,0,ε⟩) py.out (γ A9 n9 c9)).far (p:=⟨b7,1,ε⟩) py.out (γ B9 m9 k9));have LP:Hid (Whole (w'.setCells b7 0 [γ A9 n9 c9,γ B9 m9 k9]) b4 32 [J u.1,J u.2.1,J u.2.2]):=qh (((dR.out.bl hx).far (p:=⟨b7,0,ε⟩) qn.out (γ A9 n9 c9)).far (p:=⟨b7,1,ε⟩) qn.out (γ B9 m9 k9));have MP:Hid (Whole (w'.setCells b7 0 [γ A9 n9 c9,γ B9 m9 k9]) b5 32 [J v.1,J v.2.1,J v.2.2]):=qh (((ir.out.bl hx).far (p:=⟨b7,0,ε⟩) pE.out (γ A9 n9 c9)).far (p:=⟨b7,1,ε⟩) pE.out (γ B9 m9 k9))
     have Nn:Hid (Whole (w'.setCells b7 0 [γ A9 n9 c9,γ B9 m9 k9]) b6 32 [J v.1,J v.2.1,J (1 - v.2.2)]):=qh (((iZ.out.bl hx).far (p:=⟨b7,0,ε⟩) Df.out (γ A9 n9 c9)).far (p:=⟨b7,1,ε⟩) Df.out (γ B9 m9 k9));have gW:Hid (σ W.heap.size W (w'.setCells b7 0 [γ A9 n9 c9,γ B9 m9 k9])):=qh (((af pv.out hx).setCell (p:=⟨b7,0,ε⟩) Ni.out (γ A9 n9 c9)).setCell (p:=⟨b7,1,ε⟩) Ni.out (γ B9 m9 k9));obtain⟨V5,s5⟩:=ay (w'.setCells b7 0 [γ A9 n9 c9,γ B9 m9 k9]);rw[s5] at P6 sm LI Lx Ot LP MP Nn gW ⊢;clear s5 aB hx hZ uU Xp;(try simp only[ξ,aq,ak,ao]);refine eX (by kernel_rfl) ?_ _;intro w8 cE;have Wl:=qh (sm.out.bl cE);have XM:=qh (P6.out.bl cE);have ZO:=qh (LI.out.bl cE);have aei:=qh (Lx.out.bl cE);have YR:=qh (Ot.out.bl cE);have WJ:=qh (LP.out.bl cE);have Yv:=qh (MP.out.bl cE);have Wy:=qh (Nn.out.bl cE);have oZ:=qh (af gW.out cE);clear cE sm P6 gW LI Lx Ot LP MP Nn gC gG jg dR ir iZ dh Fa pv
     have HAd:Hid (∀X (j:Nat) (t:D) C2 r2 oI,(if aU (dS v) (j:Int)=(v.1,v.2.1,1 - v.2.2) then u else zD)=t→aX X X.heap.size 6 C2 r2 oI (aj cB (TP G (dS v) (v.1,v.2.1,1 - v.2.2) u j))→Ζ η 75 #[γ C2 r2 oI,φ #[J v.1,J v.2.1,J (j:Int),J t.1,J t.2.1,J t.2.2]] X fun e w'=>∃A' n' c',e=.returned (γ A' n' c')∧aX w' w'.heap.size 6 A' n' c' (aj cB (TP G (dS v) (v.1,v.2.1,1 - v.2.2) u (j+1)))∧σ X.heap.size X w'):=qh (fun X j t C2 r2 oI ht hr=>by
      have hk:=AT (x:=dS v) (far:=(v.1,v.2.1,1 - v.2.2)) (u:=u) (show G.length≤400 from zQ.out.g400) zQ.out.gr j;have hl:=hr.rlen cw (by decide)
      have:=xm C2 r2 oI _ (aU (dS v) (j:Int),t) X hr (by omega) hk.2
      rw[←ht] at this ⊢;exact this)
     have Ln:=qh (Au.out.bl oZ.out);have c2:=ZO.out.cell (i:=2) rfl;go_upto_region 18 with fail
     clear c2;go_loopw [12,13] (fun vg vi wr=>∃(j:Nat) (C2:Option Addr) (r2 oI:Nat),j≤2∧vg=γ C2 r2 oI∧vi=J (j:Int)∧Hid (Whole wr b2 28 [γ ε 0 0,γ ε 0 0,γ ε 0 0])∧Hid (Whole wr b4 32 [J u.1,J u.2.1,J u.2.2])∧Hid (Whole wr b5 32 [J v.1,J v.2.1,J v.2.2])∧Hid (Whole wr b6 32 [J v.1,J v.2.1,J (1 - v.2.2)])∧Hid (Whole wr b7 25 [γ A9 n9 c9,γ B9 m9 k9])∧Hid (aR wr A9 n9 c9 CU B9 m9 k9 (js Es (dS v)))∧Hid (aX wr wr.heap.size 6 C2 r2 oI (aj cB (TP G (dS v) (v.1,v.2.1,1 - v.2.2) u j)))∧Hid (σ W.heap.size W wr)) (fun _ vi _=>2 - (intOf vi).toNat)
     case atStart=>exact⟨0,C,r,rc,Nat.zero_le _,rfl,rfl,YR,WJ,Yv,Wy,XM,Wl,Ln,oZ⟩
     case round=>
      clear ZO aei YR WJ Yv Wy XM Wl Ln oZ;obtain⟨j,C2,r2,oI,hj,rfl,rfl,H2,H4,H5,H6,H7,HD,HG,HB⟩:=hrel;obtain⟨wo,ec⟩:=ay wr;rw[ec] at H2 H4 H5 H6 H7 HD HG HB ⊢;clear ec
      by_cases Sv:j<2
      ·have rD:(j:Int)<2:=by omega
       have k0:=H5.out.cell (i:=0) rfl;have k1:=H5.out.cell (i:=1) rfl;go_upto_region 21 with fail
       clear k0 k1;have xQ:Hid (Whole (wo.alloc (δ #[J v.1,J v.2.1,J (j:Int),J 0,J 0,J 0] 98)) wo.heap.size 98 [J v.1,J v.2.1,J (j:Int),J 0,J 0,J 0]):=qh (Whole.new_ _ _ [_,_,_,_,_,_]);have yV:Hid (σ wo.heap.size wo (wo.alloc (δ #[J v.1,J v.2.1,J (j:Int),J 0,J 0,J 0] 98))):=qh (ax _ _);obtain⟨w3,sX⟩:=ay (wo.alloc (δ #[J v.1,J v.2.1,J (j:Int),J 0,J 0,J 0] 98));obtain⟨b8,gb8⟩:=ay wo.heap.size;have L8:Hid (wo.heap.size≤b8):=qh (Nat.le_of_eq gb8);rw[sX] at xQ yV ⊢;rw[gb8] at xQ ⊢;clear sX gb8
       obtain⟨q,heq,XR⟩:∃q:Bool,(∀X,(binOp .eql 32 (φ #[J v.1,J v.2.1,J (j:Int)]) (φ #[J v.1,J v.2.1,J (1 - v.2.2)])).run η X=.ok (Β q) X)∧(if aU (dS v) (j:Int)=(v.1,v.2.1,1 - v.2.2) then u else zD)=(if q=true then u else zD):=by
        by_cases hq:((v.1,v.2.1,(j:Int)):D)=(v.1,v.2.1,1 - v.2.2)
        ·exact⟨true,fun X=>(qG _ _ _ _ _ _ X).trans (by rw[decide_eq_true hq]),(if_pos (show aU (dS v) (j:Int)=(v.1,v.2.1,1 - v.2.2) from hq)).trans rfl⟩
        ·exact⟨ρ,fun X=>(qG _ _ _ _ _ _ X).trans (by rw[decide_eq_false hq]),(if_neg (show ¬aU (dS v) (j:Int)=(v.1,v.2.1,1 - v.2.2) from hq)).trans rfl⟩
       have HBQ:=qh XR;clear XR;have m0:=(xQ.out.cell (i:=0) rfl);have m1:=(xQ.out.cell (i:=1) rfl);have m2:=(xQ.out.cell (i:=2) rfl);have f0:=(H6.out.bl yV.out).cell (i:=0) rfl;have f1:=(H6.out.bl yV.out).cell (i:=1) rfl;have f2:=(H6.out.bl yV.out).cell (i:=2) rfl;cases q with
       |true=>
        have HT:Hid ((if aU (dS v) (j:Int)=(v.1,v.2.1,1 - v.2.2) then u else zD)=u):=qh (HBQ.out.trans (if_pos rfl));have d3:=xQ.out.cell (i:=3) rfl;have e3:=xQ.out.free 3;have d4:=xQ.out.cell (i:=4) rfl;have e4:=xQ.out.free 4;have d5:=xQ.out.cell (i:=5) rfl;have e5:=xQ.out.free 5;have a0:=(H4.out.bl yV.out).cell (i:=0) rfl;have a1:=(H4.out.bl yV.out).cell (i:=1) rfl;have a2:=(H4.out.bl yV.out).cell (i:=2) rfl;go_upto_region 23 with fail
        have H8:=qh (((xQ.out.set_ 3 (J u.1)).set_ 4 (J u.2.1)).set_ 5 (J u.2.2));have vl:=qh (((yV.out.setCell (p:=⟨b8,3,ε⟩) L8.out (J u.1)).setCell (p:=⟨b8,4,ε⟩) L8.out (J u.2.1)).setCell (p:=⟨b8,5,ε⟩) L8.out (J u.2.2));obtain⟨w4,MG⟩:=ay (((w3.setCell ⟨b8,3,ε⟩ (J u.1)).setCell ⟨b8,4,ε⟩ (J u.2.1)).setCell ⟨b8,5,ε⟩ (J u.2.2));rw[MG] at H8 vl ⊢;clear MG xQ yV heq m0 m1 m2 f0 f1 f2 d3 d4 d5 e3 e4 e5 a0 a1 a2;have g0:=H8.out.cell (i:=0) rfl;have g1:=H8.out.cell (i:=1) rfl;have g2:=H8.out.cell (i:=2) rfl;have g3:=H8.out.cell (i:=3) rfl;have g4:=H8.out.cell (i:=4) rfl;have g5:=H8.out.cell (i:=5) rfl
        go_upto_region 19 with (first
         |(go_at_call 75
           refine(HAd.out _ j u _ _ _ HT.out (HG.out.bl vl.out)).mono ?_
           rintro e w5 ⟨C3,r3,rV,rfl,vT,fB⟩;have IJ:=qh vT;have HY:Hid (σ wo.heap.size wo w5):=qh (Ext.trans vl.out fB);clear vT fB g0 g1 g2 g3 g4 g5))
        have K2:=qh (H2.out.bl HY.out);have K4:=qh (H4.out.bl HY.out);have K5:=qh (H5.out.bl HY.out);have K6:=qh (H6.out.bl HY.out);have K7:=qh (H7.out.bl HY.out);have KD:=qh (HD.out.bl HY.out);have KB:=qh (af HB.out HY.out);clear H2 H4 H5 H6 H7 HD HB HG HY vl H8;go_wp2;go_roundw
        case rel=>exact⟨j+1,C3,r3,rV,by omega,rfl,by go_num,K2,K4,K5,K6,K7,KD,IJ,KB⟩
        case measure=>simp[intOf];omega
       |false=>
        have HT:Hid ((if aU (dS v) (j:Int)=(v.1,v.2.1,1 - v.2.2) then u else zD)=zD):=qh (HBQ.out.trans (if_neg (by decide)));go_upto_region 23 with fail
        have H8:=xQ;have vl:=yV;obtain⟨w4,MG⟩:=ay w3;rw[MG] at H8 vl ⊢;clear MG xQ yV heq m0 m1 m2 f0 f1 f2;have g0:=H8.out.cell (i:=0) rfl;have g1:=H8.out.cell (i:=1) rfl;have g2:=H8.out.cell (i:=2) rfl;have g3:=H8.out.cell (i:=3) rfl;have g4:=H8.out.cell (i:=4) rfl;have g5:=H8.out.cell (i:=5) rfl
        go_upto_region 19 with (first
         |(go_at_call 75
           refine(HAd.out _ j zD _ _ _ HT.out (HG.out.bl vl.out)).mono ?_
           rintro e w5 ⟨C3,r3,rV,rfl,vT,fB⟩;have IJ:=qh vT;have HY:Hid (σ wo.heap.size wo w5):=qh (Ext.trans vl.out fB);clear vT fB g0 g1 g2 g3 g4 g5))
        have K2:=qh (H2.out.bl HY.out);have K4:=qh (H4.out.bl HY.out);have K5:=qh (H5.out.bl HY.out);have K6:=qh (H6.out.bl HY.out);have K7:=qh (H7.out.bl HY.out);have KD:=qh (HD.out.bl HY.out);have KB:=qh (af HB.out HY.out);clear H2 H4 H5 H6 H7 HD HB HG HY vl H8;go_wp2;go_roundw
        case rel=>exact⟨j+1,C3,r3,rV,by omega,rfl,by go_num,K2,K4,K5,K6,K7,KD,IJ,KB⟩
        case measure=>simp[intOf];omega
      ·obtain rfl:j=2:=by omega
       have vr:Hid (cV (V,Es,G) (bp o) (cQ o)=((dn (dw V (bp o)) (v.1,v.2.1,1 - v.2.2) u,js Es (dS v),TP G (dS v) (v.1,v.2.1,1 - v.2.2) u 2),0)):=qh (by
        have hm:gH (cL (V,Es,G).1 (bp o)) (cQ o)=ζ (u,v):=by
         rw[show cL (V,Es,G).1 (bp o)=[x,y] from EI.out.symm,YH.out,if_pos (of_decide_eq_true GB.out)]
        unfold cV;rw[if_neg (by rw[←mY.out];decide),hm,←of_decide_eq_true GB.out];rfl)
       obtain rfl:=vr.out.symm.trans HR.out;have z0:=H2.out.cell (i:=0) rfl;have z1:=H2.out.cell (i:=1) rfl;have z2:=H2.out.cell (i:=2) rfl;have y0:=H2.out.free 0;have y1:=H2.out.free 1;have y2:=H2.out.free 2;have x0:=H7.out.cell (i:=0) rfl;have x1:=H7.out.cell (i:=1) rfl;have k0:=aZ (a:=γ ε 0 0) (b:=γ ε 0 0) (d:=γ ε 0 0) (fun i=>by simp) (fun i=>by simp) (fun i=>by simp);have k1:=aZ (a:=γ A9 n9 c9) (b:=γ ε 0 0) (d:=γ ε 0 0) (fun i=>by simp) (fun i=>by simp) (fun i=>by simp);have mW:=aZ (a:=γ A9 n9 c9) (b:=γ B9 m9 k9) (d:=γ ε 0 0) (fun i=>by simp) (fun i=>by simp) (fun i=>by simp);go_wp2;have s0:=H2.out;have s1:=s0.set_ 0 (γ A9 n9 c9);have s2:=s1.set_ 1 (γ B9 m9 k9);exact aG rfl b2 rfl rfl (s2.set_ 2 (γ C2 r2 oI)) Tryz.underlying28 rfl (by kernel_rfl) rfl ⟨A9,n9,c9,B9,m9,k9,C2,r2,oI,CU,rfl,bA (bA (bA HD.out s0 k0 0 _) s1 k1 1 _) s2 mW 2 _,TX.out,bL (bL (bL HG.out s0 k0 0 _) s1 k1 1 _) s2 mW 2 _,((HB.out.setCell (p:=⟨b2,0,ε⟩) bz.out (γ A9 n9 c9)).setCell (p:=⟨b2,1,ε⟩) bz.out (γ B9 m9 k9)).setCell (p:=⟨b2,2,ε⟩) bz.out (γ C2 r2 oI)⟩
end Go.Proofs.YtpdpbfmiahjiiaaGreat
