/- Several texts in one. -/
import Derived.Test.YtpdpbfmiahjiiaaGreatPsAB
import Derived.Test.YtpdpbfmiahjiiaaGreatPsAZ
set_option linter.unusedSectionVars false
set_option linter.unusedSimpArgs false
set_option linter.unusedVariables false
set_option maxRecDepth 100000
set_option maxHeartbeats 16000000
namespace Go.Proofs.YtpdpbfmiahjiiaaGreat
open Go.RowKit
open _root_.Go.Value renaming slice→γ,string→μ,agg→φ,bool→Β
open _root_.Go.Obj renaming cells→δ
open _root_.Option renaming none→ε,some→ζ
open _root_.Go.Proofs.Tryz renaming prog→η
open _root_.Go.Act renaming put→ξ
open _root_.Bool renaming false→ρ
open _root_.Go.RowKit renaming Below→σ
open _root_.List renaming mem_map→Α,mem_filter→JaC
open _root_.Go renaming Calls→Ζ
def smG (G:List Gn) (x:Nm) (far u:D):Nat→List Gn
 |0=>G
 |j+1=>dP (smG G x far u j) (bh x (j:Int),if bh x (j:Int)=far then u else zD)
theorem smG_ok {G:List Gn} {x:Nm} {far u:D} (h:G.length≤400) (hr:cT G):∀j,(smG G x far u j).length≤400∧cT (smG G x far u j)
 |0=>⟨h,hr⟩
 |j+1=>⟨mT _ _ (smG_ok h hr j).1 (smG_ok h hr j).2,fN _ (smG_ok h hr j).2⟩
theorem cutKV_map (Vs:List VC) (x:Nm):(CL (fun v:VC=>v.1) Vs x).map vS=dM (Vs.map vS) x:=by
 unfold dM CL;rw[List.filter_map];rfl
theorem rsmooth_any {W:World} {A:Option Addr} {n c:Nat} {Vs:List VC} {B:Option Addr} {m k:Nat} {Es:List EC} {C:Option Addr} {r rc:Nat} {G:List Gn} (h:bz W A n c Vs B m k Es) (hg:bg W W.heap.size 6 C r rc (ah cZ G)) (hS:gD (Vs.map vS,Es,G)) (o:dR):
 Ζ η 51 #[φ #[γ A n c,γ B m k,γ C r rc],φ (ak o).toArray] W (GivesSt W (gU (Vs.map vS,Es,G) (bL o) (cX o))):=by
 have QV:Vs.length=n:=h.v.rlen aS (by decide);have Fb:Es.length=m:=h.e.rlen bM (by decide);have Fm:G.length=r:=hg.rlen bT (by decide);have h24:Vs.length≤24:=by have:=hS.v24;rwa [List.length_map] at this
 have h40:Es.length≤40:=hS.e40;have h400:G.length≤400:=hS.g400;have hr8:∀y∈Vs,y.2.1.2.1≤80:=RgL.to h hS.short
 have M6:∀y∈Vs,y.2.1.2.1≤900000:=fun y hy=>by have:=hr8 y hy;omega
 have HV:Hid (∀X,σ W.heap.size W X→Ζ η 27 #[φ #[γ A n c,γ B m k],φ #[J o.s,J o.n]] X fun e w'=>e=.returned (.tuple #[φ (vC (eP Vs (o.s,o.n)).1).toArray,Β (eP Vs (o.s,o.n)).2])∧σ X.heap.size X w'):=qh (fun X hX=>Vr A n c Vs B m k Es o.s o.n X (h.v.bl hX) (by omega));have OY:(eP Vs (o.s,o.n)).2=bu (Vs.map vS) (bL o):=(tK Vs (o.s,o.n)).1;have ec:(eP Vs (o.s,o.n)).1.2.1.2.2.2=eS (Vs.map vS) (bL o):=(tK Vs (o.s,o.n)).2
 have uH:RgOk W (eP Vs (o.s,o.n)).1.2.1:=by
  rcases II (fun v:VC=>v.1) zV Vs (o.s,o.n) with h1|h1
  ·exact h.r _ h1
  ·rw[show(eP Vs (o.s,o.n))=(zV,ρ) from h1];exact⟨by decide,rds_nil_ W _⟩
 obtain⟨⟨u,ok⟩,gv⟩:∃z,eP Vs (o.s,o.n)=z:=⟨_,rfl⟩
 rw[gv] at HV OY ec uH;obtain⟨⟨i1,i2⟩,⟨rA,rn,jg,rL⟩,lb,at_⟩:=u;replace HV:Hid (∀X,σ W.heap.size W X→Ζ η 27 #[φ #[γ A n c,γ B m k],φ #[J o.s,J o.n]] X fun e w'=>e=.returned (.tuple #[φ #[J i1,J i2,γ rA rn jg,μ lb,J at_],Β ok])∧σ X.heap.size X w'):=HV;dsimp only at OY ec uH;have qx:rL.length=rn:=by have:=uH.2.len;rw[dj] at this;dsimp only at this;omega
 have HDa_:Hid (∀d∈rL,d.2.2=0∨d.2.2=1):=qh (fun d hd=>by
  rw[ec] at hd;unfold eS at hd;cases hf:(Vs.map vS).find? (fun v=>decide (v.1=bL o)) with
  |none=>rw[hf] at hd;cases hd
  |some v=>
   rw[hf] at hd;exact(hS.fit.known v (List.mem_of_find?_eq_some hf) d hd).2)
 have HOt:Hid (∀X (v:D),v.2.2=0∨v.2.2=1→Ζ η 32 #[φ #[J v.1,J v.2.1,J v.2.2]] X fun e w'=>e=.returned (φ #[J v.1,J v.2.1,J (1 - v.2.2)])∧σ X.heap.size X w'):=qh (fun X v hv=>rotherI_any v.1 v.2.1 v.2.2 hv X)
 have hez:CL (fun v:EC=>v.1) Es ((0,0):Nm)=Es:=List.filter_eq_self.2 (fun e he=>by
  have h1:=Qg (hS.em e he).1;simp only[decide_eq_true_eq];intro e0;rw[e0] at h1;exact absurd h1.1 (by decide))
 have hvz:∀v∈Vs.map vS,¬v.1=((0,0):Nm):=fun v hv e0=>by
  have h1:=Qg (hS.vm v hv).1;rw[e0] at h1;exact absurd h1.1 (by decide)
 have HW1:Hid (∀X,σ W.heap.size W X→Ζ η 47 #[φ #[γ A n c,γ B m k],φ #[J o.s,J o.n],φ #[J 0,J 0]] X fun e w'=>∃A1 n1 c1 B1 m1 k1 Ws,e=.returned (φ #[γ A1 n1 c1,γ B1 m1 k1])∧bz w' A1 n1 c1 Ws B1 m1 k1 Es∧Ws.map vS=dM (Vs.map vS) (bL o)∧n1≤1000∧m1≤1000∧σ X.heap.size X w'):=qh (fun X hX=>by
  refine(rwithout_any (h.below hX) (o.s,o.n) (0,0) (by omega) (by omega)).mono ?_
  rintro e w' ⟨A5,n5,c5,B5,m5,k5,rfl,hd,-,-,hb⟩;rw[hez] at hd;have h1:=hd.v.rlen aS (by decide);have h2:=hd.e.rlen bM (by decide);have h3:(CL (fun v:VC=>v.1) Vs (o.s,o.n)).length≤Vs.length:=List.length_filter_le _ _;exact⟨A5,n5,c5,B5,m5,k5,_,rfl,hd,cutKV_map Vs (bL o),by omega,by omega,hb⟩)
 have HSw:Hid (∀X A1 n1 c1 B1 m1 k1 Ws,bz X A1 n1 c1 Ws B1 m1 k1 Es→Ws.map vS=dM (Vs.map vS) (bL o)→n1≤1000→m1≤1000→∀p q:D,Ζ η 78 #[φ #[γ A1 n1 c1,γ B1 m1 k1],φ #[J p.1,J p.2.1,J p.2.2],φ #[J q.1,J q.2.1,J q.2.2]] X (GivesDg X n1 m1 (dL (dM (Vs.map vS) (bL o)) p q) Es)):=qh (fun X A1 n1 c1 B1 m1 k1 Ws hd hW h1 h2 p q=>by
  have hK:RgL 80 (dM (Vs.map vS) (bL o)):=fun v hv=>hS.short v ((JaC.1 hv).1)
  have:=rswapped_any hd h1 h2 (fun y hy=>by have:=RgL.to hd (by rw[hW];exact hK) y hy;omega) p.1 p.2.1 p.2.2 q.1 q.2.1 q.2.2
  rw[hW] at this;exact this)
 have HW2:Hid (∀X (p q:D) (x:Nm) A1 n1 c1 B1 m1 k1 Ws,bz X A1 n1 c1 Ws B1 m1 k1 Es→Ws.map vS=dL (dM (Vs.map vS) (bL o)) p q→n1≤1000→m1≤1000→Ζ η 47 #[φ #[γ A1 n1 c1,γ B1 m1 k1],φ #[J 0,J 0],φ #[J x.1,J x.2]] X fun e w'=>∃v,e=.returned v∧DgU (dL (dM (Vs.map vS) (bL o)) p q) (jX Es x) v w'∧σ X.heap.size X w'):=qh (fun X p q x A1 n1 c1 B1 m1 k1 Ws hd hW h1 h2=>by
  refine(rwithout_any hd (0,0) x h1 h2).mono ?_
  rintro e w' ⟨A5,n5,c5,B5,m5,k5,rfl,hdg,-,-,hb⟩
  refine⟨_,rfl,⟨A5,n5,c5,B5,m5,k5,_,rfl,hdg,?_⟩,hb⟩
  rw[cutKV_map Ws (0,0),hW];refine List.filter_eq_self.2 (fun v hv=>?_);have hk:v.1∈(dL (dM (Vs.map vS) (bL o)) p q).map (·.1):=Α.2 ⟨v,hv,rfl⟩;unfold dL at hk;rw[lI] at hk;obtain⟨u,hu,e0⟩:=Α.1 hk
  have:=hvz u ((JaC.1 hu).1)
  simpa [←e0] using this)
 have HO:=qh h;have HGo:=qh hg;have tT:=qh hS;have XZ:=qh OY;have Zu:=qh ec;have sw:=qh uH;have HRl:=qh qx;obtain⟨V,gV⟩:=aB (Vs.map vS);have HVs:=qh gV;rw[gV] at XZ Zu HW1 HSw HW2 ⊢;obtain⟨R,gR⟩:=aB (gU (V,Es,G) (bL o) (cX o));have HR:=qh gR;rw[gR];clear gR h hg hS gV QV Fb Fm h24 h40 h400 hr8 M6 hez hvz OY ec uH qx gv;go_enter Tryz.func51,Tryz.ntmps51;go_upto_region 1 with fail
 obtain⟨W0,b0,b1,b2,bO,bp,dE,jc,aQ,aL,aZ,bw,-,-,oa,-,iP,-,eI,uW,RA,tU⟩:=Bs W 28 [γ A n c,γ B m k,γ C r rc] 36 (ak o) 28 [γ ε 0 0,γ ε 0 0,γ ε 0 0];rw[bO,jc,dE,bp];clear bO bp dE jc;have fb0_0:=aQ.out.cell (i:=0) rfl;have fb0_1:=aQ.out.cell (i:=1) rfl;have fb1_1:=aL.out.cell (i:=1) rfl;have fb1_2:=aL.out.cell (i:=2) rfl
 go_upto_region 2 with (first
  |(go_at_call 27
    refine(HV.out _ bw.out).mono ?_
    rintro e w2 ⟨rfl,aP⟩;have Zk:=qh aP;clear aP fb0_0 fb0_1 fb1_1 fb1_2))
 have aP:=Zk.out;have Og:=qh (aI (ag bw.out aP) (δ #[J i1,J i2,γ rA rn jg,μ lb,J at_] 59));have HXb0_11:=qh ((aQ.out.bl aP).al (δ #[J i1,J i2,γ rA rn jg,μ lb,J at_] 59));have HXb1_11:=qh ((aL.out.bl aP).al (δ #[J i1,J i2,γ rA rn jg,μ lb,J at_] 59));have HXb2_11:=qh ((aZ.out.bl aP).al (δ #[J i1,J i2,γ rA rn jg,μ lb,J at_] 59));have HXb3_11:=qh (Whole.new_ w2 59 [J i1,J i2,γ rA rn jg,μ lb,J at_]);have Lb3:Hid (W.heap.size≤w2.heap.size):=qh (ag bw.out aP).size;have Nb0b3:Hid (b0≠w2.heap.size):=qh (by have:=(aQ.out.bl aP).lt;omega);have Nb1b3:Hid (b1≠w2.heap.size):=qh (by have:=(aL.out.bl aP).lt;omega);have Nb2b3:Hid (b2≠w2.heap.size):=qh (by have:=(aZ.out.bl aP).lt;omega);obtain⟨W11,gWn⟩:=aB (w2.alloc (δ #[J i1,J i2,γ rA rn jg,μ lb,J at_] 59));obtain⟨b3,gbn⟩:=aB w2.heap.size;rw[gWn] at Og HXb0_11 HXb1_11 HXb2_11 HXb3_11 ⊢;rw[gbn] at HXb3_11 Lb3 Nb0b3 Nb1b3 Nb2b3 ⊢;clear gWn gbn bw aQ aL aZ aP Zk;clear HV;cases ok with
 |false=>
  obtain rfl:=(show gU (V,Es,G) (bL o) (cX o)=(dv,13) from by unfold gU;rw[if_pos XZ.out.symm]).symm.trans HR.out;have z0:=HXb2_11.out.cell (i:=0) rfl;have z1:=HXb2_11.out.cell (i:=1) rfl;have z2:=HXb2_11.out.cell (i:=2) rfl;have y0:=HXb2_11.out.free 0;have y1:=HXb2_11.out.free 1;have y2:=HXb2_11.out.free 2;go_wp2;exact bS rfl b2 rfl rfl (((HXb2_11.out.set_ 0 (γ ε 0 0)).set_ 1 (γ ε 0 0)).set_ 2 (γ ε 0 0)) Tryz.underlying28 rfl (by kernel_rfl) rfl ⟨ε,0,0,ε,0,0,ε,0,0,[],rfl,dg_nil _,rfl,bg.no _ _ _,((Og.out.setCell (p:=⟨b2,0,ε⟩) eI.out (γ ε 0 0)).setCell (p:=⟨b2,1,ε⟩) eI.out (γ ε 0 0)).setCell (p:=⟨b2,2,ε⟩) eI.out (γ ε 0 0)⟩
 |true=>
  by_cases h2:rn=2
  rotate_left
  ·have hnI:¬(rn:Int)=2:=by omega
   have ld1:=cm (i:=2) HXb3_11.out rfl;go_upto_region 4 with fail
   refine ay (aO) (by kernel_rfl) ?_;refine aa 0 ?_;refine aa 1 ?_;refine aa 2 ?_;refine cV 3 (hy:=dD (v:=Β true) (by rfl) (fun w' aC=>by go_simp)) (h:=?_);refine aa 4 ?_;refine cp 5 ?_;refine cp 6 ?_;refine cp 7 ?_;refine cp 8 ?_;refine cp 9 ?_;refine cp 10 ?_;refine cp 11 ?_;refine cp 12 ?_;refine cp 13 ?_;refine cp 14 ?_;refine cp 15 ?_;refine aa 16 ?_;refine aF (by kernel_rfl) ?_ _;intro w4 hw4;have HXb0_n:=qh (HXb0_11.out.dr.bl hw4);have HXb1_n:=qh (HXb1_11.out.dr.bl hw4);have HXb2_n:=qh (HXb2_11.out.dr.bl hw4);have HXb3_n:=qh (HXb3_11.out.dr.bl hw4);have HB_n:=qh (ag (aN Og.out) hw4);clear hw4 Og HXb0_11 HXb1_11 HXb2_11 HXb3_11;clear ld1 hnI
   obtain rfl:=(show gU (V,Es,G) (bL o) (cX o)=(dv,14) from by unfold gU;rw[if_neg (by rw[←XZ.out];decide),show jn (eS (V,Es,G).1 (bL o)) (cX o)=ε from by
    rw[show eS (V,Es,G).1 (bL o)=rL from Zu.out.symm];unfold jn;split
    ·exact absurd HRl.out.symm h2
    ·rfl]).symm.trans HR.out
   have z0:=HXb2_n.out.cell (i:=0) rfl;have z1:=HXb2_n.out.cell (i:=1) rfl;have z2:=HXb2_n.out.cell (i:=2) rfl;have y0:=HXb2_n.out.free 0;have y1:=HXb2_n.out.free 1;have y2:=HXb2_n.out.free 2;go_wp2;exact bS rfl b2 rfl rfl (((HXb2_n.out.set_ 0 (γ ε 0 0)).set_ 1 (γ ε 0 0)).set_ 2 (γ ε 0 0)) Tryz.underlying28 rfl (by kernel_rfl) rfl ⟨ε,0,0,ε,0,0,ε,0,0,[],rfl,dg_nil _,rfl,bg.no _ _ _,((HB_n.out.setCell (p:=⟨b2,0,ε⟩) eI.out (γ ε 0 0)).setCell (p:=⟨b2,1,ε⟩) eI.out (γ ε 0 0)).setCell (p:=⟨b2,2,ε⟩) eI.out (γ ε 0 0)⟩
  subst h2;obtain⟨bb,off,rfl,aY,hc⟩:=sw.out.2.darts (show 0<2 by decide)
  obtain⟨x,y,rfl⟩:∃x y,rL=[x,y]:=by
   have hl:=HRl.out
   match rL,hl with
   |[x,y],_=>exact⟨x,y,rfl⟩
  obtain⟨c0,c1,c2⟩:=hc 0 (show 0<2 by decide);obtain⟨c3,c4,c5⟩:=hc 1 (show 1<2 by decide);simp only[Nat.zero_mul,Nat.one_mul,Nat.add_zero,Nat.add_assoc,Nat.reduceAdd,List.getD_cons_zero,List.getD_cons_succ] at c0 c1 c2 c3 c4 c5;have C0:=qh c0;have C1:=qh c1;have C2:=qh c2;have C3:=qh c3;have C4:=qh c4;have C5:=qh c5;have Jd:=qh aY;clear hc aY c0 c1 c2 c3 c4 c5;obtain⟨pe,ge⟩:=aB (decide (dI x=dI y));have qe:∀X:World,(binOp .eql 30 (φ #[J x.1,J x.2.1]) (φ #[J y.1,J y.2.1])).run η X=.ok (Β pe) X:=fun X=>by rw[lJ,show decide ((x.1,x.2.1)=(y.1,y.2.1))=pe from ge]
  have GE:=qh ge;clear ge;go_upto_region 4 with fail
  have lv:=cm (i:=2) HXb3_11.out rfl;have fL:∀w',Kept aO W11.drew w'→w'.cell? ⟨bb,off,ε⟩=ζ (J x.1):=fun w' h=>h.cell ((Og.out.cell (p:=⟨bb,off,ε⟩) Jd.out).trans C0.out) (fun e=>e)
  have ld1:∀w',Kept aO W11.drew w'→w'.cell? ⟨bb,off+1,ε⟩=ζ (J x.2.1):=fun w' h=>h.cell ((Og.out.cell (p:=⟨bb,off+1,ε⟩) Jd.out).trans C1.out) (fun e=>e)
  have pV:∀w',Kept aO W11.drew w'→w'.cell? ⟨bb,off+3,ε⟩=ζ (J y.1):=fun w' h=>h.cell ((Og.out.cell (p:=⟨bb,off+3,ε⟩) Jd.out).trans C3.out) (fun e=>e)
  have tX:∀w',Kept aO W11.drew w'→w'.cell? ⟨bb,off+4,ε⟩=ζ (J y.2.1):=fun w' h=>h.cell ((Og.out.cell (p:=⟨bb,off+4,ε⟩) Jd.out).trans C4.out) (fun e=>e)
  refine ay (aO) (by kernel_rfl) ?_;refine aa 0 ?_;refine aa 1 ?_;refine aa 2 ?_;refine aa 3 ?_;refine aa 4 ?_;refine aa 5 ?_;refine aa 6 ?_;refine aa 7 ?_;refine aa 8 ?_;refine aa 9 ?_;refine aa 10 ?_;refine aa 11 ?_;refine aa 12 ?_;refine aa 13 ?_;refine aa 14 ?_;refine aa 15 ?_;refine aa 16 ?_;refine aF (by kernel_rfl) ?_ _;clear lv fL ld1 pV tX qe;intro w4 hw4;have HXb0_p:=qh (HXb0_11.out.dr.bl hw4);have HXb1_p:=qh (HXb1_11.out.dr.bl hw4);have HXb2_p:=qh (HXb2_11.out.dr.bl hw4);have HXb3_p:=qh (HXb3_11.out.dr.bl hw4);have HB_p:=qh (ag (aN Og.out) hw4);clear hw4 Og HXb0_11 HXb1_11 HXb2_11 HXb3_11;cases pe with
  |true=>
   obtain rfl:=(show gU (V,Es,G) (bL o) (cX o)=(dv,14) from by unfold gU;rw[if_neg (by rw[←XZ.out];decide),show jn (eS (V,Es,G).1 (bL o)) (cX o)=ε from by
    rw[show eS (V,Es,G).1 (bL o)=[x,y] from Zu.out.symm]
    show(if dI x=dI y then ε else if dI x=cX o then ζ (y,x) else if dI y=cX o then ζ (x,y) else ε)=ε
    rw[if_pos (of_decide_eq_true GE.out)]]).symm.trans HR.out
   have z0:=HXb2_p.out.cell (i:=0) rfl;have z1:=HXb2_p.out.cell (i:=1) rfl;have z2:=HXb2_p.out.cell (i:=2) rfl;have y0:=HXb2_p.out.free 0;have y1:=HXb2_p.out.free 1;have y2:=HXb2_p.out.free 2;go_wp2;exact bS rfl b2 rfl rfl (((HXb2_p.out.set_ 0 (γ ε 0 0)).set_ 1 (γ ε 0 0)).set_ 2 (γ ε 0 0)) Tryz.underlying28 rfl (by kernel_rfl) rfl ⟨ε,0,0,ε,0,0,ε,0,0,[],rfl,dg_nil _,rfl,bg.no _ _ _,((HB_p.out.setCell (p:=⟨b2,0,ε⟩) eI.out (γ ε 0 0)).setCell (p:=⟨b2,1,ε⟩) eI.out (γ ε 0 0)).setCell (p:=⟨b2,2,ε⟩) eI.out (γ ε 0 0)⟩
  |false=>
   have bj:¬dI x=dI y:=of_decide_eq_false GE.out;have HNe:=qh bj;clear bj;go_upto_region 6 with fail
   have fb3_2:=HXb3_p.out.cell (i:=2) rfl;have r0:w4.cell? ⟨bb,off,ε⟩=ζ (J x.1):=(HB_p.out.cell (p:=⟨bb,off,ε⟩) Jd.out).trans C0.out;have r1:w4.cell? ⟨bb,off+1,ε⟩=ζ (J x.2.1):=(HB_p.out.cell (p:=⟨bb,off+1,ε⟩) Jd.out).trans C1.out;have r2:w4.cell? ⟨bb,off+2,ε⟩=ζ (J x.2.2):=(HB_p.out.cell (p:=⟨bb,off+2,ε⟩) Jd.out).trans C2.out;go_upto_region 7 with fail
   clear fb3_2 r0 r1 r2;have aaH:=qh (aI (HB_p.out) (δ #[J x.1,J x.2.1,J x.2.2] 32));have HXb0_12:=qh (HXb0_p.out.al (δ #[J x.1,J x.2.1,J x.2.2] 32));have HXb1_12:=qh (HXb1_p.out.al (δ #[J x.1,J x.2.1,J x.2.2] 32));have HXb2_12:=qh (HXb2_p.out.al (δ #[J x.1,J x.2.1,J x.2.2] 32));have HXb3_12:=qh (HXb3_p.out.al (δ #[J x.1,J x.2.1,J x.2.2] 32));have HXb4_12:=qh (Whole.new_ w4 32 [J x.1,J x.2.1,J x.2.2]);have TL:Hid (W.heap.size≤w4.heap.size):=qh (HB_p.out).size;have Nb0b4:Hid (b0≠w4.heap.size):=qh (by have:=(HXb0_p.out).lt;omega);have Nb1b4:Hid (b1≠w4.heap.size):=qh (by have:=(HXb1_p.out).lt;omega);have Nb2b4:Hid (b2≠w4.heap.size):=qh (by have:=(HXb2_p.out).lt;omega);have Nb3b4:Hid (b3≠w4.heap.size):=qh (by have:=(HXb3_p.out).lt;omega);obtain⟨W12,gWn⟩:=aB (w4.alloc (δ #[J x.1,J x.2.1,J x.2.2] 32));obtain⟨b4,gbn⟩:=aB w4.heap.size;rw[gWn] at aaH HXb0_12 HXb1_12 HXb2_12 HXb3_12 HXb4_12 ⊢;rw[gbn] at HXb4_12 TL Nb0b4 Nb1b4 Nb2b4 Nb3b4 ⊢;clear gWn gbn HB_p HXb0_p HXb1_p HXb2_p HXb3_p;have fb3_2:=HXb3_12.out.cell (i:=2) rfl;have r3:W12.cell? ⟨bb,off+3,ε⟩=ζ (J y.1):=(aaH.out.cell (p:=⟨bb,off+3,ε⟩) Jd.out).trans C3.out;have r4:W12.cell? ⟨bb,off+4,ε⟩=ζ (J y.2.1):=(aaH.out.cell (p:=⟨bb,off+4,ε⟩) Jd.out).trans C4.out;have r5:W12.cell? ⟨bb,off+5,ε⟩=ζ (J y.2.2):=(aaH.out.cell (p:=⟨bb,off+5,ε⟩) Jd.out).trans C5.out
   go_upto_region 8 with fail
   clear fb3_2 r3 r4 r5;have HB13:=qh (aI (aaH.out) (δ #[J y.1,J y.2.1,J y.2.2] 32));have HXb0_13:=qh (HXb0_12.out.al (δ #[J y.1,J y.2.1,J y.2.2] 32));have HXb1_13:=qh (HXb1_12.out.al (δ #[J y.1,J y.2.1,J y.2.2] 32));have HXb2_13:=qh (HXb2_12.out.al (δ #[J y.1,J y.2.1,J y.2.2] 32));have HXb3_13:=qh (HXb3_12.out.al (δ #[J y.1,J y.2.1,J y.2.2] 32));have HXb4_13:=qh (HXb4_12.out.al (δ #[J y.1,J y.2.1,J y.2.2] 32));have HXb5_13:=qh (Whole.new_ W12 32 [J y.1,J y.2.1,J y.2.2]);have Lb5:Hid (W.heap.size≤W12.heap.size):=qh (aaH.out).size;have Nb0b5:Hid (b0≠W12.heap.size):=qh (by have:=(HXb0_12.out).lt;omega);have Nb1b5:Hid (b1≠W12.heap.size):=qh (by have:=(HXb1_12.out).lt;omega);have Nb2b5:Hid (b2≠W12.heap.size):=qh (by have:=(HXb2_12.out).lt;omega);have Nb3b5:Hid (b3≠W12.heap.size):=qh (by have:=(HXb3_12.out).lt;omega);have Nb4b5:Hid (b4≠W12.heap.size):=qh (by have:=(HXb4_12.out).lt;omega);obtain⟨W13,gWn⟩:=aB (W12.alloc (δ #[J y.1,J y.2.1,J y.2.2] 32));obtain⟨b5,gbn⟩:=aB W12.heap.size;rw[gWn] at HB13 HXb0_13 HXb1_13 HXb2_13 HXb3_13 HXb4_13 HXb5_13 ⊢;rw[gbn] at HXb5_13 Lb5 Nb0b5 Nb1b5 Nb2b5 Nb3b5 Nb4b5 ⊢;clear gWn gbn aaH HXb0_12 HXb1_12 HXb2_12 HXb3_12 HXb4_12;obtain⟨pa,ga⟩:=aB (decide (dI x=cX o));have qa:∀X:World,(binOp .eql 30 (φ #[J x.1,J x.2.1]) (φ #[J o.s2,J o.n2])).run η X=.ok (Β pa) X:=fun X=>by rw[lJ,show decide ((x.1,x.2.1)=(o.s2,o.n2))=pa from ga]
   have GA:=qh ga;clear ga;obtain⟨⟨u,v⟩,guv⟩:∃z:D × D,(if pa=true then(y,x) else(x,y))=z:=⟨_,rfl⟩
   have HUV:=qh guv;have fb4_0:=HXb4_13.out.cell (i:=0) rfl;have fb4_1:=HXb4_13.out.cell (i:=1) rfl;have fb1_5:=HXb1_13.out.cell (i:=5) rfl;have fb1_6:=HXb1_13.out.cell (i:=6) rfl;go_upto_if 56 with fail
   go_cut [] (fun z=>Whole z b0 28 [γ A n c,γ B m k,γ C r rc]∧Whole z b1 36 (ak o)∧Whole z b2 28 [γ ε 0 0,γ ε 0 0,γ ε 0 0]∧Whole z b4 32 [J u.1,J u.2.1,J u.2.2]∧Whole z b5 32 [J v.1,J v.2.1,J v.2.2]∧σ W.heap.size W z)
   case first=>
    have n43:=Nb3b4.out;have n45:=Nb4b5.out;have n4b:bb≠b4:=by have h1:=Jd.out;have h2:=TL.out;omega
    have n5b:bb≠b5:=by have h1:=Jd.out;have h2:=Lb5.out;omega
    have t2:=HXb4_13.out.cell (i:=2) rfl;have t3:=HXb5_13.out.cell (i:=0) rfl;have t4:=HXb5_13.out.cell (i:=1) rfl;have t5:=HXb5_13.out.cell (i:=2) rfl;have u0:=HXb4_13.out.free 0;have v0:=HXb5_13.out.free 0;have u1:=HXb4_13.out.free 1;have v1:=HXb5_13.out.free 1;have u2:=HXb4_13.out.free 2;have v2:=HXb5_13.out.free 2;have fb3_2:=HXb3_13.out.cell (i:=2) rfl;have r0:W13.cell? ⟨bb,off,ε⟩=ζ (J x.1):=(HB13.out.cell (p:=⟨bb,off,ε⟩) Jd.out).trans C0.out;have r1:W13.cell? ⟨bb,off+1,ε⟩=ζ (J x.2.1):=(HB13.out.cell (p:=⟨bb,off+1,ε⟩) Jd.out).trans C1.out;have r2:W13.cell? ⟨bb,off+2,ε⟩=ζ (J x.2.2):=(HB13.out.cell (p:=⟨bb,off+2,ε⟩) Jd.out).trans C2.out;have r3:W13.cell? ⟨bb,off+3,ε⟩=ζ (J y.1):=(HB13.out.cell (p:=⟨bb,off+3,ε⟩) Jd.out).trans C3.out;have r4:W13.cell? ⟨bb,off+4,ε⟩=ζ (J y.2.1):=(HB13.out.cell (p:=⟨bb,off+4,ε⟩) Jd.out).trans C4.out;have r5:W13.cell? ⟨bb,off+5,ε⟩=ζ (J y.2.2):=(HB13.out.cell (p:=⟨bb,off+5,ε⟩) Jd.out).trans C5.out;cases pa with
    |true=>
     obtain⟨rfl,rfl⟩:y=u∧x=v:=⟨congrArg Prod.fst guv,congrArg Prod.snd guv⟩;go_wp2;go_meet;exact⟨((((((HXb0_13.out.far (p:=⟨b4,0,ε⟩) Nb0b4.out (J y.1)).far (p:=⟨b4,1,ε⟩) Nb0b4.out (J y.2.1)).far (p:=⟨b4,2,ε⟩) Nb0b4.out (J y.2.2)).far (p:=⟨b5,0,ε⟩) Nb0b5.out (J x.1)).far (p:=⟨b5,1,ε⟩) Nb0b5.out (J x.2.1)).far (p:=⟨b5,2,ε⟩) Nb0b5.out (J x.2.2)),((((((HXb1_13.out.far (p:=⟨b4,0,ε⟩) Nb1b4.out (J y.1)).far (p:=⟨b4,1,ε⟩) Nb1b4.out (J y.2.1)).far (p:=⟨b4,2,ε⟩) Nb1b4.out (J y.2.2)).far (p:=⟨b5,0,ε⟩) Nb1b5.out (J x.1)).far (p:=⟨b5,1,ε⟩) Nb1b5.out (J x.2.1)).far (p:=⟨b5,2,ε⟩) Nb1b5.out (J x.2.2)),((((((HXb2_13.out.far (p:=⟨b4,0,ε⟩) Nb2b4.out (J y.1)).far (p:=⟨b4,1,ε⟩) Nb2b4.out (J y.2.1)).far (p:=⟨b4,2,ε⟩) Nb2b4.out (J y.2.2)).far (p:=⟨b5,0,ε⟩) Nb2b5.out (J x.1)).far (p:=⟨b5,1,ε⟩) Nb2b5.out (J x.2.1)).far (p:=⟨b5,2,ε⟩) Nb2b5.out (J x.2.2)),((((((HXb4_13.out.set_ 0 (J y.1)).set_ 1 (J y.2.1)).set_ 2 (J y.2.2)).far (p:=⟨b5,0,ε⟩) Nb4b5.out (J x.1)).far (p:=⟨b5,1,ε⟩) Nb4b5.out (J x.2.1)).far (p:=⟨b5,2,ε⟩) Nb4b5.out (J x.2.2)),((((((HXb5_13.out.far (p:=⟨b4,0,ε⟩) (fun e=>Nb4b5.out e.symm) (J y.1)).far (p:=⟨b4,1,ε⟩) (fun e=>Nb4b5.out e.symm) (J y.2.1)).far (p:=⟨b4,2,ε⟩) (fun e=>Nb4b5.out e.symm) (J y.2.2)).set_ 0 (J x.1)).set_ 1 (J x.2.1)).set_ 2 (J x.2.2)),((((((HB13.out.setCell (p:=⟨b4,0,ε⟩) TL.out (J y.1)).setCell (p:=⟨b4,1,ε⟩) TL.out (J y.2.1)).setCell (p:=⟨b4,2,ε⟩) TL.out (J y.2.2)).setCell (p:=⟨b5,0,ε⟩) Lb5.out (J x.1)).setCell (p:=⟨b5,1,ε⟩) Lb5.out (J x.2.1)).setCell (p:=⟨b5,2,ε⟩) Lb5.out (J x.2.2))⟩
    |false=>
     obtain⟨rfl,rfl⟩:x=u∧y=v:=⟨congrArg Prod.fst guv,congrArg Prod.snd guv⟩;go_wp2;go_meet;exact⟨HXb0_13.out,HXb1_13.out,HXb2_13.out,HXb4_13.out,HXb5_13.out,HB13.out⟩
   case rest=>
    obtain⟨h0,h1,h2,h4,h5,hB⟩:=hcut;have HXb0_:=qh h0;have HXb1_:=qh h1;have HXb2_:=qh h2;have HXb4_:=qh h4;have HXb5_:=qh h5;have D6:=qh hB;clear h0 h1 h2 h4 h5 hB qa guv
    have HMt:Hid (jn [x,y] (cX o)=if dI v=cX o then ζ (u,v) else ε):=qh (by
     show(if dI x=dI y then ε else if dI x=cX o then ζ (y,x) else if dI y=cX o then ζ (x,y) else ε)=_
     rw[if_neg HNe.out];have hu:=HUV.out;cases pa with
     |true=>
      obtain⟨rfl,rfl⟩:y=u∧x=v:=⟨congrArg Prod.fst hu,congrArg Prod.snd hu⟩;rw[if_pos (of_decide_eq_true GA.out),if_pos (of_decide_eq_true GA.out)]
     |false=>
      obtain⟨rfl,rfl⟩:x=u∧y=v:=⟨congrArg Prod.fst hu,congrArg Prod.snd hu⟩;rw[if_neg (of_decide_eq_false GA.out)])
    obtain⟨pb,gb⟩:=aB (decide (dI v=cX o));have qb:∀X:World,(binOp .neq 30 (φ #[J v.1,J v.2.1]) (φ #[J o.s2,J o.n2])).run η X=.ok (Β (!pb)) X:=fun X=>by rw[neqI_run,show decide ((v.1,v.2.1)=(o.s2,o.n2))=pb from gb]
    have GB:=qh gb;clear gb;have fb5_0:=HXb5_.out.cell (i:=0) rfl;have fb5_1:=HXb5_.out.cell (i:=1) rfl;have fb1_5:=HXb1_.out.cell (i:=5) rfl;have fb1_6:=HXb1_.out.cell (i:=6) rfl;cases pb with
    |false=>
     obtain rfl:=(show gU (V,Es,G) (bL o) (cX o)=(dv,14) from by unfold gU;rw[if_neg (by rw[←XZ.out];decide),show jn (eS (V,Es,G).1 (bL o)) (cX o)=ε from by
      rw[show eS (V,Es,G).1 (bL o)=[x,y] from Zu.out.symm,HMt.out,if_neg (of_decide_eq_false GB.out)]]).symm.trans HR.out
     have z0:=HXb2_.out.cell (i:=0) rfl;have z1:=HXb2_.out.cell (i:=1) rfl;have z2:=HXb2_.out.cell (i:=2) rfl;have y0:=HXb2_.out.free 0;have y1:=HXb2_.out.free 1;have y2:=HXb2_.out.free 2;go_wp2;exact bS rfl b2 rfl rfl (((HXb2_.out.set_ 0 (γ ε 0 0)).set_ 1 (γ ε 0 0)).set_ 2 (γ ε 0 0)) Tryz.underlying28 rfl (by kernel_rfl) rfl ⟨ε,0,0,ε,0,0,ε,0,0,[],rfl,dg_nil _,rfl,bg.no _ _ _,((D6.out.setCell (p:=⟨b2,0,ε⟩) eI.out (γ ε 0 0)).setCell (p:=⟨b2,1,ε⟩) eI.out (γ ε 0 0)).setCell (p:=⟨b2,2,ε⟩) eI.out (γ ε 0 0)⟩
    |true=>
     have HVd:Hid (v.2.2=0∨v.2.2=1):=qh (by
      have hu:=HUV.out;cases pa with
      |true=>
       obtain rfl:x=v:=congrArg Prod.snd hu;exact HDa_.out _ (by simp)
      |false=>
       obtain rfl:y=v:=congrArg Prod.snd hu;exact HDa_.out _ (by simp))
     go_upto_region 13 with fail
     clear fb5_0 fb5_1 fb1_5 fb1_6 qb;have fb5_0:=HXb5_.out.cell (i:=0) rfl;have fb5_1:=HXb5_.out.cell (i:=1) rfl;have fb5_2:=HXb5_.out.cell (i:=2) rfl
     go_upto_region 14 with (first
      |(go_at_call 32
        refine(HOt.out _ v HVd.out).mono ?_
        rintro e w2 ⟨rfl,aP⟩;have Zk:=qh aP;clear aP fb5_0 fb5_1 fb5_2))
     have aP:=Zk.out;have Uh:=qh (aI (ag D6.out aP) (δ #[J v.1,J v.2.1,J (1 - v.2.2)] 32));have HXb0_14:=qh ((HXb0_.out.bl aP).al (δ #[J v.1,J v.2.1,J (1 - v.2.2)] 32));have HXb1_14:=qh ((HXb1_.out.bl aP).al (δ #[J v.1,J v.2.1,J (1 - v.2.2)] 32));have HXb2_14:=qh ((HXb2_.out.bl aP).al (δ #[J v.1,J v.2.1,J (1 - v.2.2)] 32));have HXb4_14:=qh ((HXb4_.out.bl aP).al (δ #[J v.1,J v.2.1,J (1 - v.2.2)] 32));have HXb5_14:=qh ((HXb5_.out.bl aP).al (δ #[J v.1,J v.2.1,J (1 - v.2.2)] 32));have HXb6_14:=qh (Whole.new_ w2 32 [J v.1,J v.2.1,J (1 - v.2.2)]);have Lb6:Hid (W.heap.size≤w2.heap.size):=qh (ag D6.out aP).size;have Nb0b6:Hid (b0≠w2.heap.size):=qh (by have:=(HXb0_.out.bl aP).lt;omega);have Nb1b6:Hid (b1≠w2.heap.size):=qh (by have:=(HXb1_.out.bl aP).lt;omega);have Nb2b6:Hid (b2≠w2.heap.size):=qh (by have:=(HXb2_.out.bl aP).lt;omega);have Nb4b6:Hid (b4≠w2.heap.size):=qh (by have:=(HXb4_.out.bl aP).lt;omega);have Nb5b6:Hid (b5≠w2.heap.size):=qh (by have:=(HXb5_.out.bl aP).lt;omega);obtain⟨W14,gWn⟩:=aB (w2.alloc (δ #[J v.1,J v.2.1,J (1 - v.2.2)] 32));obtain⟨b6,gbn⟩:=aB w2.heap.size;rw[gWn] at Uh HXb0_14 HXb1_14 HXb2_14 HXb4_14 HXb5_14 HXb6_14 ⊢;rw[gbn] at HXb6_14 Lb6 Nb0b6 Nb1b6 Nb2b6 Nb4b6 Nb5b6 ⊢;clear gWn gbn D6 HXb0_ HXb1_ HXb2_ HXb4_ HXb5_ aP Zk
     clear HOt;have fb0_0:=HXb0_14.out.cell (i:=0) rfl;have fb0_1:=HXb0_14.out.cell (i:=1) rfl;have fb1_1:=HXb1_14.out.cell (i:=1) rfl;have fb1_2:=HXb1_14.out.cell (i:=2) rfl
     go_upto_region 15 with (first
      |(go_at_call 47
        refine(HW1.out _ Uh.out).mono ?_
        rintro e w2 ⟨A1,n1,c1,B1,m1,k1,Ws1,rfl,hd,hmp,ni,KZ,aP⟩;have Zk:=qh aP;have Ry:=qh hd;have KM:=qh hmp;have Ed:=qh (And.intro ni KZ);clear aP hd hmp ni KZ fb0_0 fb0_1 fb1_1 fb1_2))
     have aP:=Zk.out;have HB15:=qh (aI (ag Uh.out aP) (δ #[γ A1 n1 c1,γ B1 m1 k1] 25));have HXb0_15:=qh ((HXb0_14.out.bl aP).al (δ #[γ A1 n1 c1,γ B1 m1 k1] 25));have HXb1_15:=qh ((HXb1_14.out.bl aP).al (δ #[γ A1 n1 c1,γ B1 m1 k1] 25));have HXb2_15:=qh ((HXb2_14.out.bl aP).al (δ #[γ A1 n1 c1,γ B1 m1 k1] 25));have HXb4_15:=qh ((HXb4_14.out.bl aP).al (δ #[γ A1 n1 c1,γ B1 m1 k1] 25));have HXb5_15:=qh ((HXb5_14.out.bl aP).al (δ #[γ A1 n1 c1,γ B1 m1 k1] 25));have HXb6_15:=qh ((HXb6_14.out.bl aP).al (δ #[γ A1 n1 c1,γ B1 m1 k1] 25));have HD1_15:=qh (Ry.out.bl (az _ (δ #[γ A1 n1 c1,γ B1 m1 k1] 25)));have HXb7_15:=qh (Whole.new_ w2 25 [γ A1 n1 c1,γ B1 m1 k1]);have Lb7:Hid (W.heap.size≤w2.heap.size):=qh (ag Uh.out aP).size;have Nb0b7:Hid (b0≠w2.heap.size):=qh (by have:=(HXb0_14.out.bl aP).lt;omega);have Nb1b7:Hid (b1≠w2.heap.size):=qh (by have:=(HXb1_14.out.bl aP).lt;omega);have Nb2b7:Hid (b2≠w2.heap.size):=qh (by have:=(HXb2_14.out.bl aP).lt;omega);have Nb4b7:Hid (b4≠w2.heap.size):=qh (by have:=(HXb4_14.out.bl aP).lt;omega);have Nb5b7:Hid (b5≠w2.heap.size):=qh (by have:=(HXb5_14.out.bl aP).lt;omega);have Nb6b7:Hid (b6≠w2.heap.size):=qh (by have:=(HXb6_14.out.bl aP).lt;omega);obtain⟨W15,gWn⟩:=aB (w2.alloc (δ #[γ A1 n1 c1,γ B1 m1 k1] 25));obtain⟨b7,gbn⟩:=aB w2.heap.size;rw[gWn] at HB15 HXb0_15 HXb1_15 HXb2_15 HXb4_15 HXb5_15 HXb6_15 HD1_15 HXb7_15 ⊢
     rw[gbn] at HXb7_15 Lb7 Nb0b7 Nb1b7 Nb2b7 Nb4b7 Nb5b7 Nb6b7 ⊢;clear gWn gbn Uh HXb0_14 HXb1_14 HXb2_14 HXb4_14 HXb5_14 HXb6_14 Ry aP Zk;clear HW1;refine cI (aO) [8] (by kernel_rfl) ?_;refine S4 0 (hy:=ib (by rfl) 25 (.tmp 11) rfl b7 rfl 25 [γ A1 n1 c1,γ B1 m1 k1] _ (fun w' h=>h.whole HXb7_15.out.dr (fun h=>h)) Tryz.underlying25 rfl (by kernel_rfl)) (h:=?_);refine S4 1 (hy:=ib (by rfl) 32 (.tmp 10) rfl b6 rfl 32 [J v.1,J v.2.1,J (1 - v.2.2)] _ (fun w' h=>h.whole HXb6_15.out.dr (fun h=>h)) Tryz.underlying32 rfl (by kernel_rfl)) (h:=?_);refine S4 2 (hy:=ib (by rfl) 32 (.tmp 8) rfl b4 rfl 32 [J u.1,J u.2.1,J u.2.2] _ (fun w' h=>h.whole HXb4_15.out.dr (fun h=>h)) Tryz.underlying32 rfl (by kernel_rfl)) (h:=?_);refine aU 4 ?_;refine aU 5 ?_;refine S4 6 (hy:=nS (by rfl) 30 (.tmp 84) rfl ⟨b5,0,ε⟩ rfl [J v.1,J v.2.1] _ (fun w' h i u hu=>(h.whole HXb5_15.out.dr (fun h=>h)).sub_ (cs:=[J v.1,J v.2.1,J v.2.2]) (ds:=[J v.1,J v.2.1]) 0 hu) Tryz.underlying30 rfl (by kernel_rfl)) (h:=?_);refine CR 3 ?_;intro w' aC;have hx:=(Below.refl _ W15).drew.trans aC
     refine(HSw.out w' _ _ _ _ _ _ _ (HD1_15.out.bl hx) KM.out Ed.out.1 Ed.out.2 (v.1,v.2.1,1 - v.2.2) u).mono ?_
     rintro e w9 ⟨A5,c5,B5,k5,Ws5,rfl,hd,hmp,-,-,-,sZ⟩
     refine⟨_,rfl,Kept.of_below sZ,?_⟩
     have kx:=qh hd;have Qm:=qh hmp;have zt:Hid (σ W15.heap.size W15 w9):=qh (Ext.trans hx sZ);clear hx aC hd hmp sZ HSw;simp only[ξ,aw,ar,aq];refine CR 7 ?_;intro w' aC;have hx:σ W15.heap.size W15 w':=Ext.trans zt.out aC
     refine(HW2.out w' _ _ (dI v) _ _ _ _ _ _ _ (kx.out.bl aC) Qm.out Ed.out.1 Ed.out.2).mono ?_
     rintro e Nw ⟨vv,rfl,⟨A9,n9,c9,B9,m9,k9,Ws9,rfl,hd,hmp⟩,oD⟩
     refine⟨_,rfl,Kept.of_below oD,?_⟩
     have HD9:=qh hd;have EX:=qh hmp;have HXt:Hid (σ W15.heap.size W15 Nw):=qh (Ext.trans hx oD);clear hx aC hd hmp oD zt kx Qm HW2;simp only[ξ,aw,ar,aq];refine qu 8 ?_;intro w' aC;have hx:σ W15.heap.size W15 w':=Ext.trans HXt.out aC;have hZ:=HXb7_15.out.bl hx
     refine⟨w'.setCells b7 0 [γ A9 n9 c9,γ B9 m9 k9],qz 25 (.tmp 11) (.tmp 86) rfl b7 0 rfl [γ A9 n9 c9,γ B9 m9 k9] rfl (hZ.there_ 0 2 (by simp)) (by kernel_rfl) (by simp[Value.oneCell']),?_⟩
     have HY7:Hid (Whole (w'.setCells b7 0 [γ A9 n9 c9,γ B9 m9 k9]) b7 25 [γ A9 n9 c9,γ B9 m9 k9]):=qh ((hZ.set_ 0 (γ A9 n9 c9)).set_ 1 (γ B9 m9 k9));have Oe:Hid (bz (w'.setCells b7 0 [γ A9 n9 c9,γ B9 m9 k9]) A9 n9 c9 Ws9 B9 m9 k9 _):=qh (dg_set (dg_set (HD9.out.bl aC) hZ (sl2_not (fun i=>by simp) (fun i=>by simp)) 0 (γ A9 n9 c9)) (hZ.set_ 0 (γ A9 n9 c9)) (sl2_not (fun i=>by simp) (fun i=>by simp)) 1 (γ B9 m9 k9));have HY_b0:Hid (Whole (w'.setCells b7 0 [γ A9 n9 c9,γ B9 m9 k9]) b0 28 [γ A n c,γ B m k,γ C r rc]):=qh (((HXb0_15.out.bl hx).far (p:=⟨b7,0,ε⟩) Nb0b7.out (γ A9 n9 c9)).far (p:=⟨b7,1,ε⟩) Nb0b7.out (γ B9 m9 k9));have HY_b1:Hid (Whole (w'.setCells b7 0 [γ A9 n9 c9,γ B9 m9 k9]) b1 36 (ak o)):=qh (((HXb1_15.out.bl hx).far (p:=⟨b7,0,ε⟩) Nb1b7.out (γ A9 n9 c9)).far (p:=⟨b7,1,ε⟩) Nb1b7.out (γ B9 m9 k9));have HY_b2:Hid (Whole (w'.setCells b7 0 [γ A9 n9 c9,γ B9 m9 k9]) b2 28 [γ ε 0 0,γ ε 0 0,γ ε 0 0]):=qh (((HXb2_15.out.bl hx).far (p:=⟨b7,0,ε⟩) Nb2b7.out (γ A9 n9 c9)).far (p:=⟨b7,1,ε⟩) Nb2b7.out (γ B9 m9 k9));have HY_b4:Hid (Whole (w'.setCells b7 0 [γ A9 n9 c9,γ B9 m9 k9]) b4 32 [J u.1,J u.2.1,J u.2.2]):=qh (((HXb4_15.out.bl hx).far (p:=⟨b7,0,ε⟩) Nb4b7.out (γ A9 n9 c9)).far (p:=⟨b7,1,ε⟩) Nb4b7.out (γ B9 m9 k9));have HY_b5:Hid (Whole (w'.setCells b7 0 [γ A9 n9 c9,γ B9 m9 k9]) b5 32 [J v.1,J v.2.1,J v.2.2]):=qh (((HXb5_15.out.bl hx).far (p:=⟨b7,0,ε⟩) Nb5b7.out (γ A9 n9 c9)).far (p:=⟨b7,1,ε⟩) Nb5b7.out (γ B9 m9 k9))
     have HY_b6:Hid (Whole (w'.setCells b7 0 [γ A9 n9 c9,γ B9 m9 k9]) b6 32 [J v.1,J v.2.1,J (1 - v.2.2)]):=qh (((HXb6_15.out.bl hx).far (p:=⟨b7,0,ε⟩) Nb6b7.out (γ A9 n9 c9)).far (p:=⟨b7,1,ε⟩) Nb6b7.out (γ B9 m9 k9));have kC:Hid (σ W.heap.size W (w'.setCells b7 0 [γ A9 n9 c9,γ B9 m9 k9])):=qh (((ag HB15.out hx).setCell (p:=⟨b7,0,ε⟩) Lb7.out (γ A9 n9 c9)).setCell (p:=⟨b7,1,ε⟩) Lb7.out (γ B9 m9 k9));obtain⟨V5,gV5⟩:=aB (w'.setCells b7 0 [γ A9 n9 c9,γ B9 m9 k9]);rw[gV5] at HY7 Oe HY_b0 HY_b1 HY_b2 HY_b4 HY_b5 HY_b6 kC ⊢;clear gV5 aC hx hZ HD9 HXt;(try simp only[ξ,aw,ar,aq]);refine gG (by kernel_rfl) ?_ _;intro w8 cg;have HDz:=qh (Oe.out.bl cg);have HZb7:=qh (HY7.out.bl cg);have HZb0:=qh (HY_b0.out.bl cg);have HZb1:=qh (HY_b1.out.bl cg);have HZb2:=qh (HY_b2.out.bl cg);have HZb4:=qh (HY_b4.out.bl cg);have HZb5:=qh (HY_b5.out.bl cg);have HZb6:=qh (HY_b6.out.bl cg);have kn:=qh (ag kC.out cg);clear cg Oe HY7 kC HY_b0 HY_b1 HY_b2 HY_b4 HY_b5 HY_b6 HXb0_15 HXb1_15 HXb2_15 HXb4_15 HXb5_15 HXb6_15 HXb7_15 HD1_15 HB15
     have HAd:Hid (∀X (j:Nat) (t:D) C2 r2 Ya,(if bh (dI v) (j:Int)=(v.1,v.2.1,1 - v.2.2) then u else zD)=t→bg X X.heap.size 6 C2 r2 Ya (ah cZ (smG G (dI v) (v.1,v.2.1,1 - v.2.2) u j))→Ζ η 75 #[γ C2 r2 Ya,φ #[J v.1,J v.2.1,J (j:Int),J t.1,J t.2.1,J t.2.2]] X fun e w'=>∃A' n' c',e=.returned (γ A' n' c')∧bg w' w'.heap.size 6 A' n' c' (ah cZ (smG G (dI v) (v.1,v.2.1,1 - v.2.2) u (j+1)))∧σ X.heap.size X w'):=qh (fun X j t C2 r2 Ya ht hr=>by
      have hk:=smG_ok (x:=dI v) (far:=(v.1,v.2.1,1 - v.2.2)) (u:=u) (show G.length≤400 from tT.out.g400) tT.out.gr j;have hl:=hr.rlen bT (by decide)
      have:=radd_any C2 r2 Ya _ (bh (dI v) (j:Int),t) X hr (by omega) hk.2
      rw[←ht] at this ⊢;exact this)
     have HGz:=qh (HGo.out.bl kn.out);have c2:=HZb0.out.cell (i:=2) rfl;go_upto_region 18 with fail
     clear c2;go_loopw [12,13] (fun vg vi wr=>∃(j:Nat) (C2:Option Addr) (r2 Ya:Nat),j≤2∧vg=γ C2 r2 Ya∧vi=J (j:Int)∧Hid (Whole wr b2 28 [γ ε 0 0,γ ε 0 0,γ ε 0 0])∧Hid (Whole wr b4 32 [J u.1,J u.2.1,J u.2.2])∧Hid (Whole wr b5 32 [J v.1,J v.2.1,J v.2.2])∧Hid (Whole wr b6 32 [J v.1,J v.2.1,J (1 - v.2.2)])∧Hid (Whole wr b7 25 [γ A9 n9 c9,γ B9 m9 k9])∧Hid (bz wr A9 n9 c9 Ws9 B9 m9 k9 (jX Es (dI v)))∧Hid (bg wr wr.heap.size 6 C2 r2 Ya (ah cZ (smG G (dI v) (v.1,v.2.1,1 - v.2.2) u j)))∧Hid (σ W.heap.size W wr)) (fun _ vi _=>2 - (intOf vi).toNat)
     case atStart=>exact⟨0,C,r,rc,Nat.zero_le _,rfl,rfl,HZb2,HZb4,HZb5,HZb6,HZb7,HDz,HGz,kn⟩
     case round=>
      clear HZb0 HZb1 HZb2 HZb4 HZb5 HZb6 HZb7 HDz HGz kn;obtain⟨j,C2,r2,Ya,hj,rfl,rfl,H2,H4,H5,H6,H7,HD,HG,HB⟩:=hrel;obtain⟨wo,cS⟩:=aB wr;rw[cS] at H2 H4 H5 H6 H7 HD HG HB ⊢;clear cS
      by_cases KJ:j<2
      ·have ya:(j:Int)<2:=by omega
       have k0:=H5.out.cell (i:=0) rfl;have k1:=H5.out.cell (i:=1) rfl;go_upto_region 21 with fail
       clear k0 k1;have HN8:Hid (Whole (wo.alloc (δ #[J v.1,J v.2.1,J (j:Int),J 0,J 0,J 0] 98)) wo.heap.size 98 [J v.1,J v.2.1,J (j:Int),J 0,J 0,J 0]):=qh (Whole.new_ _ _ [_,_,_,_,_,_]);have ER:Hid (σ wo.heap.size wo (wo.alloc (δ #[J v.1,J v.2.1,J (j:Int),J 0,J 0,J 0] 98))):=qh (az _ _);obtain⟨w3,gw3⟩:=aB (wo.alloc (δ #[J v.1,J v.2.1,J (j:Int),J 0,J 0,J 0] 98));obtain⟨b8,gb8⟩:=aB wo.heap.size;have L8:Hid (wo.heap.size≤b8):=qh (Nat.le_of_eq gb8);rw[gw3] at HN8 ER ⊢;rw[gb8] at HN8 ⊢;clear gw3 gb8
       obtain⟨q,heq,hbq⟩:∃q:Bool,(∀X,(binOp .eql 32 (φ #[J v.1,J v.2.1,J (j:Int)]) (φ #[J v.1,J v.2.1,J (1 - v.2.2)])).run η X=.ok (Β q) X)∧(if bh (dI v) (j:Int)=(v.1,v.2.1,1 - v.2.2) then u else zD)=(if q=true then u else zD):=by
        by_cases hq:((v.1,v.2.1,(j:Int)):D)=(v.1,v.2.1,1 - v.2.2)
        ·exact⟨true,fun X=>(G0 _ _ _ _ _ _ X).trans (by rw[decide_eq_true hq]),(if_pos (show bh (dI v) (j:Int)=(v.1,v.2.1,1 - v.2.2) from hq)).trans rfl⟩
        ·exact⟨ρ,fun X=>(G0 _ _ _ _ _ _ X).trans (by rw[decide_eq_false hq]),(if_neg (show ¬bh (dI v) (j:Int)=(v.1,v.2.1,1 - v.2.2) from hq)).trans rfl⟩
       have HBQ:=qh hbq;clear hbq;have m0:=(HN8.out.cell (i:=0) rfl);have m1:=(HN8.out.cell (i:=1) rfl);have m2:=(HN8.out.cell (i:=2) rfl);have f0:=(H6.out.bl ER.out).cell (i:=0) rfl;have f1:=(H6.out.bl ER.out).cell (i:=1) rfl;have f2:=(H6.out.bl ER.out).cell (i:=2) rfl;cases q with
       |true=>
        have HT:Hid ((if bh (dI v) (j:Int)=(v.1,v.2.1,1 - v.2.2) then u else zD)=u):=qh (HBQ.out.trans (if_pos rfl));have d3:=HN8.out.cell (i:=3) rfl;have e3:=HN8.out.free 3;have d4:=HN8.out.cell (i:=4) rfl;have e4:=HN8.out.free 4;have d5:=HN8.out.cell (i:=5) rfl;have e5:=HN8.out.free 5;have a0:=(H4.out.bl ER.out).cell (i:=0) rfl;have a1:=(H4.out.bl ER.out).cell (i:=1) rfl;have a2:=(H4.out.bl ER.out).cell (i:=2) rfl;go_upto_region 23 with fail
        have H8:=qh (((HN8.out.set_ 3 (J u.1)).set_ 4 (J u.2.1)).set_ 5 (J u.2.2));have FF:=qh (((ER.out.setCell (p:=⟨b8,3,ε⟩) L8.out (J u.1)).setCell (p:=⟨b8,4,ε⟩) L8.out (J u.2.1)).setCell (p:=⟨b8,5,ε⟩) L8.out (J u.2.2));obtain⟨w4,NP⟩:=aB (((w3.setCell ⟨b8,3,ε⟩ (J u.1)).setCell ⟨b8,4,ε⟩ (J u.2.1)).setCell ⟨b8,5,ε⟩ (J u.2.2));rw[NP] at H8 FF ⊢;clear NP HN8 ER heq m0 m1 m2 f0 f1 f2 d3 d4 d5 e3 e4 e5 a0 a1 a2;have g0:=H8.out.cell (i:=0) rfl;have g1:=H8.out.cell (i:=1) rfl;have g2:=H8.out.cell (i:=2) rfl;have g3:=H8.out.cell (i:=3) rfl;have g4:=H8.out.cell (i:=4) rfl;have g5:=H8.out.cell (i:=5) rfl
        go_upto_region 19 with (first
         |(go_at_call 75
           refine(HAd.out _ j u _ _ _ HT.out (HG.out.bl FF.out)).mono ?_
           rintro e w5 ⟨C3,r3,rc3,rfl,uu,fP⟩;have O6:=qh uu;have HY:Hid (σ wo.heap.size wo w5):=qh (Ext.trans FF.out fP);clear uu fP g0 g1 g2 g3 g4 g5))
        have K2:=qh (H2.out.bl HY.out);have K4:=qh (H4.out.bl HY.out);have K5:=qh (H5.out.bl HY.out);have K6:=qh (H6.out.bl HY.out);have K7:=qh (H7.out.bl HY.out);have KD:=qh (HD.out.bl HY.out);have KB:=qh (ag HB.out HY.out);clear H2 H4 H5 H6 H7 HD HB HG HY FF H8;go_wp2;go_roundw
        case rel=>exact⟨j+1,C3,r3,rc3,by omega,rfl,by go_num,K2,K4,K5,K6,K7,KD,O6,KB⟩
        case measure=>simp[intOf];omega
       |false=>
        have HT:Hid ((if bh (dI v) (j:Int)=(v.1,v.2.1,1 - v.2.2) then u else zD)=zD):=qh (HBQ.out.trans (if_neg (by decide)));go_upto_region 23 with fail
        have H8:=HN8;have FF:=ER;obtain⟨w4,NP⟩:=aB w3;rw[NP] at H8 FF ⊢;clear NP HN8 ER heq m0 m1 m2 f0 f1 f2;have g0:=H8.out.cell (i:=0) rfl;have g1:=H8.out.cell (i:=1) rfl;have g2:=H8.out.cell (i:=2) rfl;have g3:=H8.out.cell (i:=3) rfl;have g4:=H8.out.cell (i:=4) rfl;have g5:=H8.out.cell (i:=5) rfl
        go_upto_region 19 with (first
         |(go_at_call 75
           refine(HAd.out _ j zD _ _ _ HT.out (HG.out.bl FF.out)).mono ?_
           rintro e w5 ⟨C3,r3,rc3,rfl,uu,fP⟩;have O6:=qh uu;have HY:Hid (σ wo.heap.size wo w5):=qh (Ext.trans FF.out fP);clear uu fP g0 g1 g2 g3 g4 g5))
        have K2:=qh (H2.out.bl HY.out);have K4:=qh (H4.out.bl HY.out);have K5:=qh (H5.out.bl HY.out);have K6:=qh (H6.out.bl HY.out);have K7:=qh (H7.out.bl HY.out);have KD:=qh (HD.out.bl HY.out);have KB:=qh (ag HB.out HY.out);clear H2 H4 H5 H6 H7 HD HB HG HY FF H8;go_wp2;go_roundw
        case rel=>exact⟨j+1,C3,r3,rc3,by omega,rfl,by go_num,K2,K4,K5,K6,K7,KD,O6,KB⟩
        case measure=>simp[intOf];omega
      ·obtain rfl:j=2:=by omega
       have HRr:Hid (gU (V,Es,G) (bL o) (cX o)=((dL (dM V (bL o)) (v.1,v.2.1,1 - v.2.2) u,jX Es (dI v),smG G (dI v) (v.1,v.2.1,1 - v.2.2) u 2),0)):=qh (by
        have hm:jn (eS (V,Es,G).1 (bL o)) (cX o)=ζ (u,v):=by
         rw[show eS (V,Es,G).1 (bL o)=[x,y] from Zu.out.symm,HMt.out,if_pos (of_decide_eq_true GB.out)]
        unfold gU;rw[if_neg (by rw[←XZ.out];decide),hm,←of_decide_eq_true GB.out];rfl)
       obtain rfl:=HRr.out.symm.trans HR.out;have z0:=H2.out.cell (i:=0) rfl;have z1:=H2.out.cell (i:=1) rfl;have z2:=H2.out.cell (i:=2) rfl;have y0:=H2.out.free 0;have y1:=H2.out.free 1;have y2:=H2.out.free 2;have x0:=H7.out.cell (i:=0) rfl;have x1:=H7.out.cell (i:=1) rfl;have k0:=sl3_not (a:=γ ε 0 0) (b:=γ ε 0 0) (d:=γ ε 0 0) (fun i=>by simp) (fun i=>by simp) (fun i=>by simp);have k1:=sl3_not (a:=γ A9 n9 c9) (b:=γ ε 0 0) (d:=γ ε 0 0) (fun i=>by simp) (fun i=>by simp) (fun i=>by simp);have k2_:=sl3_not (a:=γ A9 n9 c9) (b:=γ B9 m9 k9) (d:=γ ε 0 0) (fun i=>by simp) (fun i=>by simp) (fun i=>by simp);go_wp2;have s0:=H2.out;have s1:=s0.set_ 0 (γ A9 n9 c9);have s2:=s1.set_ 1 (γ B9 m9 k9);exact bS rfl b2 rfl rfl (s2.set_ 2 (γ C2 r2 Ya)) Tryz.underlying28 rfl (by kernel_rfl) rfl ⟨A9,n9,c9,B9,m9,k9,C2,r2,Ya,Ws9,rfl,dg_set (dg_set (dg_set HD.out s0 k0 0 _) s1 k1 1 _) s2 k2_ 2 _,EX.out,gn_set (gn_set (gn_set HG.out s0 k0 0 _) s1 k1 1 _) s2 k2_ 2 _,((HB.out.setCell (p:=⟨b2,0,ε⟩) eI.out (γ A9 n9 c9)).setCell (p:=⟨b2,1,ε⟩) eI.out (γ B9 m9 k9)).setCell (p:=⟨b2,2,ε⟩) eI.out (γ C2 r2 Ya)⟩
end Go.Proofs.YtpdpbfmiahjiiaaGreat
