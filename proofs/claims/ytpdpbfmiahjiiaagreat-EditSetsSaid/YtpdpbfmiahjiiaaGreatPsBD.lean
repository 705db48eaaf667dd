/- Several texts in one. -/
import Derived.Test.YtpdpbfmiahjiiaaGreatPsAB
import Derived.Test.YtpdpbfmiahjiiaaGreatPsAP
import Derived.Test.YtpdpbfmiahjiiaaGreatPsAR
import Derived.Test.YtpdpbfmiahjiiaaGreatPsBC
set_option linter.unusedSectionVars false
set_option linter.unusedSimpArgs false
set_option linter.unusedVariables false
set_option maxRecDepth 100000
set_option maxHeartbeats 16000000
namespace Go.Proofs.YtpdpbfmiahjiiaaGreat
open Go.RowKit
open _root_.Go.Value renaming slice→γ,string→μ,pointer→υ,agg→φ,tuple→Ξ,oneCell'→Τ
open _root_.Go.Obj renaming cells→δ
open _root_.Option renaming none→ε,some→ζ
open _root_.Go.Proofs.Tryz renaming prog→η
open _root_.List renaming map_cons→ι,map_nil→π,mem_of_getElem?→ω,length_map→Ρ,nodup_append→JaL
open _root_.Go.Act renaming put→ξ
open _root_.Go renaming World→ο,Value→ψ,Calls→Ζ,Addr→Κ
open _root_.Bool renaming false→ρ,and_eq_true→Jar
open _root_.Go.RowKit renaming Below→σ
open _root_.Nat renaming le_refl→Δ
open _root_.Go.RowKit.Below renaming refl→Θ
open _root_.ByteArray renaming empty→Jaf
theorem rone_k1 {W:ο} {A:Option Κ} {n c:Nat} {Vs:List VC} {B:Option Κ} {m k:Nat} {Es:List EC} {C:Option Κ} {r rc:Nat} {G:List Gn} (h:bz W A n c Vs B m k Es) (hg:bg W W.heap.size 6 C r rc (ah cZ G)) (hS:gD (Vs.map vS,Es,G)) (o:dR) (ht:o.t.size≤maxLen) (hmay:iu o=0) (hk:o.k=1):
 Ζ η 15 #[φ #[γ A n c,γ B m k,γ C r rc],φ (ak o).toArray] W (GivesSt W (og (Vs.map vS,Es,G) (bL o))):=by
 have HKk:=qh hk;clear hk;have QV:Vs.length=n:=h.v.rlen aS (by decide);have h24:Vs.length≤24:=by have:=hS.v24;rwa [Ρ] at this
 have HM:Hid (∀X,Ζ η 45 #[φ (ak o).toArray] X fun e w'=>e=.returned (J 0)∧σ X.heap.size X w'):=qh (fun X=>by
  have:=rmayop_any o ht X
  rw[hmay] at this;exact this)
 have HV:Hid (∀X,σ W.heap.size W X→Ζ η 27 #[φ #[γ A n c,γ B m k],φ #[J o.s,J o.n]] X fun e w'=>e=.returned (Ξ #[φ (vC (eP Vs (o.s,o.n)).1).toArray,.bool (eP Vs (o.s,o.n)).2])∧σ X.heap.size X w'):=qh (fun X hX=>Vr A n c Vs B m k Es o.s o.n X (h.v.bl hX) (by omega));have OY:(eP Vs (o.s,o.n)).2=bu (Vs.map vS) (bL o):=(tK Vs (o.s,o.n)).1;have ec:(eP Vs (o.s,o.n)).1.2.1.2.2.2=eS (Vs.map vS) (bL o):=(tK Vs (o.s,o.n)).2
 have uH:RgOk W (eP Vs (o.s,o.n)).1.2.1:=by
  rcases II (fun v:VC=>v.1) zV Vs (o.s,o.n) with h1|h1
  ·exact h.r _ h1
  ·rw[show(eP Vs (o.s,o.n))=(zV,ρ) from h1];exact⟨by decide,rds_nil_ W _⟩
 obtain⟨⟨u,ok⟩,gv⟩:∃z,eP Vs (o.s,o.n)=z:=⟨_,rfl⟩
 rw[gv] at HV OY ec uH;obtain⟨⟨i1,i2⟩,⟨rA,rn,jg,rL⟩,lb,at_⟩:=u;replace HV:Hid (∀X,σ W.heap.size W X→Ζ η 27 #[φ #[γ A n c,γ B m k],φ #[J o.s,J o.n]] X fun e w'=>e=.returned (Ξ #[φ #[J i1,J i2,γ rA rn jg,μ lb,J at_],.bool ok])∧σ X.heap.size X w'):=HV;dsimp only at OY ec uH;have qx:rL.length=rn:=by have:=uH.2.len;rw[dj] at this;dsimp only at this;omega
 have XZ:=qh OY;have Zu:=qh ec;have HRl:=qh qx;have P4:n≤24:=by omega
 clear OY ec uH qx gv
 have HAv:Hid (∀X,σ W.heap.size W X→Ζ η 46 #[φ #[γ A n c,γ B m k],φ #[J o.s,J o.n,γ ε 0 0,μ {data:=#[]},J 0]] X fun e w'=>∃A2 n2 c2 W2,e=.returned (φ #[γ A2 n2 c2,γ B m k])∧bz w' A2 n2 c2 W2 B m k Es∧W2.map vS=fx (Vs.map vS) (bL o,[],Jaf,0)∧σ X.heap.size X w'):=qh (fun X hX=>by
  have hd:=h.below hX
  refine(raddV_any hd ((o.s,o.n),(ε,0,0,[]),Jaf,0) (by omega)).mono ?_
  rintro e w' ⟨A2,n2,c2,rfl,Tb,-,hb⟩
  refine⟨A2,n2,c2,_,rfl,⟨Tb,hd.e.bl hb,fun x hx=>?_⟩,wG _ _,hb⟩
  rcases cy.1 hx with rfl|hx
  ·exact⟨Nat.zero_le _,rds_nil_ _ _⟩
  ·exact⟨(hd.r x hx).1,(hd.r x hx).2.bl hb⟩)
 have HO:=qh h;have HGo:=qh hg;have tT:=qh hS;have HVl:=qh QV;clear h hg hS QV h24 hmay ht;obtain⟨V,gV⟩:=aB (Vs.map vS);have HVn:Hid (V.length=n):=qh (by rw[←gV,Ρ];exact HVl.out);rw[gV] at XZ Zu HAv ⊢;clear gV;obtain⟨R,gR⟩:=aB (og (V,Es,G) (bL o));have HR:=qh gR;rw[gR];clear gR;go_enter Tryz.func15,Tryz.ntmps15;go_upto_region 1 with fail
 obtain⟨W0,b0,b1,b2,bO,bp,dE,jc,aQ,aL,aZ,bw,-,-,oa,-,iP,-,eI,uW,RA,tU⟩:=Bs W 28 [γ A n c,γ B m k,γ C r rc] 36 (ak o) 28 [γ ε 0 0,γ ε 0 0,γ ε 0 0];rw[bO,jc,dE,bp];clear bO bp dE jc;refine wp_region_lit ?_;refine eJ (ζ 9) rfl (by rfl) 36 (.tmp 3) rfl b1 rfl 36 (ak o) _ aL.out Tryz.underlying36 rfl (by kernel_rfl) ?_;simp only[ξ,aw,ar,aq]
 go_upto_region 2 with (first
  |(go_at_call 45
    refine(HM.out _).mono ?_
    rintro e w2 ⟨rfl,aP⟩;have HBm:=qh (ag bw.out aP);have fk:=qh (aQ.out.bl aP);have mZ:=qh (aL.out.bl aP);have rG:=qh (aZ.out.bl aP);clear aP aQ aL aZ bw HM))
 obtain⟨Wm,gWm⟩:=aB w2;rw[gWm] at HBm fk mZ rG ⊢;clear gWm;go_upto_region 4 with fail
 have fb0_0:=fk.out.cell (i:=0) rfl;have fb0_1:=fk.out.cell (i:=1) rfl;have fb1_1:=mZ.out.cell (i:=1) rfl;have fb1_2:=mZ.out.cell (i:=2) rfl
 go_upto_region 5 with (first
  |(go_at_call 27
    refine(HV.out _ HBm.out).mono ?_
    rintro e w2 ⟨rfl,aP⟩;have Zk:=qh aP;clear aP fb0_0 fb0_1 fb1_1 fb1_2))
 have aP:=Zk.out;have Og:=qh (aI (ag HBm.out aP) (δ #[J i1,J i2,γ rA rn jg,μ lb,J at_] 59));have HXb0_11:=qh ((fk.out.bl aP).al (δ #[J i1,J i2,γ rA rn jg,μ lb,J at_] 59));have HXb1_11:=qh ((mZ.out.bl aP).al (δ #[J i1,J i2,γ rA rn jg,μ lb,J at_] 59));have HXb2_11:=qh ((rG.out.bl aP).al (δ #[J i1,J i2,γ rA rn jg,μ lb,J at_] 59));have HXb3_11:=qh (Whole.new_ w2 59 [J i1,J i2,γ rA rn jg,μ lb,J at_]);have Lb3:Hid (W.heap.size≤w2.heap.size):=qh (ag HBm.out aP).size;have Nb0b3:Hid (b0≠w2.heap.size):=qh (by have:=(fk.out.bl aP).lt;omega);have Nb1b3:Hid (b1≠w2.heap.size):=qh (by have:=(mZ.out.bl aP).lt;omega);have Nb2b3:Hid (b2≠w2.heap.size):=qh (by have:=(rG.out.bl aP).lt;omega);obtain⟨W11,gWn⟩:=aB (w2.alloc (δ #[J i1,J i2,γ rA rn jg,μ lb,J at_] 59));obtain⟨b3,gbn⟩:=aB w2.heap.size;rw[gWn] at Og HXb0_11 HXb1_11 HXb2_11 HXb3_11 ⊢;rw[gbn] at HXb3_11 Lb3 Nb0b3 Nb1b3 Nb2b3 ⊢;clear gWn gbn HBm fk mZ rG aP Zk;clear HV;have k0:W11.cell? ⟨b1,0,ε⟩=ζ (J 1):=(HXb1_11.out.cell (i:=0) rfl).trans (by rw[HKk.out]);have k1:=HXb0_11.out.cell (i:=0) rfl;cases ok with
 |true=>
  obtain rfl:=(show og (V,Es,G) (bL o)=(dv,12) from by unfold og;rw[if_pos XZ.out.symm]).symm.trans HR.out;have z0:=HXb2_11.out.cell (i:=0) rfl;have z1:=HXb2_11.out.cell (i:=1) rfl;have z2:=HXb2_11.out.cell (i:=2) rfl;have y0:=HXb2_11.out.free 0;have y1:=HXb2_11.out.free 1;have y2:=HXb2_11.out.free 2;go_wp2;exact bS rfl b2 rfl rfl (((HXb2_11.out.set_ 0 (γ ε 0 0)).set_ 1 (γ ε 0 0)).set_ 2 (γ ε 0 0)) Tryz.underlying28 rfl (by kernel_rfl) rfl ⟨ε,0,0,ε,0,0,ε,0,0,[],rfl,dg_nil _,rfl,bg.no _ _ _,((Og.out.setCell (p:=⟨b2,0,ε⟩) eI.out (γ ε 0 0)).setCell (p:=⟨b2,1,ε⟩) eI.out (γ ε 0 0)).setCell (p:=⟨b2,2,ε⟩) eI.out (γ ε 0 0)⟩
 |false=>
  by_cases h24:24≤n
  ·have h4i:(24:Int)≤(n:Int):=by omega
   obtain rfl:=(show og (V,Es,G) (bL o)=(dv,3) from by unfold og;rw[if_neg (by rw[←XZ.out];decide),if_pos (by show 24≤V.length;rw[HVn.out];exact h24)]).symm.trans HR.out;have z0:=HXb2_11.out.cell (i:=0) rfl;have z1:=HXb2_11.out.cell (i:=1) rfl;have z2:=HXb2_11.out.cell (i:=2) rfl;have y0:=HXb2_11.out.free 0;have y1:=HXb2_11.out.free 1;have y2:=HXb2_11.out.free 2;go_wp2;exact bS rfl b2 rfl rfl (((HXb2_11.out.set_ 0 (γ ε 0 0)).set_ 1 (γ ε 0 0)).set_ 2 (γ ε 0 0)) Tryz.underlying28 rfl (by kernel_rfl) rfl ⟨ε,0,0,ε,0,0,ε,0,0,[],rfl,dg_nil _,rfl,bg.no _ _ _,((Og.out.setCell (p:=⟨b2,0,ε⟩) eI.out (γ ε 0 0)).setCell (p:=⟨b2,1,ε⟩) eI.out (γ ε 0 0)).setCell (p:=⟨b2,2,ε⟩) eI.out (γ ε 0 0)⟩
  have h4i:¬(24:Int)≤(n:Int):=by omega
  have HRr:Hid (og (V,Es,G) (bL o)=((fx V (bL o,[],Jaf,0),(Es,G)),0)):=qh (by unfold og;rw[if_neg (by rw[←XZ.out];decide),if_neg (by show ¬24≤V.length;rw[HVn.out];exact h24)]);obtain rfl:=HRr.out.symm.trans HR.out;go_upto_region 11 with fail
  clear k0 k1 h4i;have ldb00:∀w',Kept (fun b=>b=b2) W11.drew w'→w'.cell? ⟨b0,0,ε⟩=ζ (γ A n c):=fun w' h=>h.cell (HXb0_11.out.dr.cell (i:=0) rfl) RA.out
  have ldb01:∀w',Kept (fun b=>b=b2) W11.drew w'→w'.cell? ⟨b0,1,ε⟩=ζ (γ B m k):=fun w' h=>h.cell (HXb0_11.out.dr.cell (i:=1) rfl) RA.out
  have ldb02:∀w',Kept (fun b=>b=b2) W11.drew w'→w'.cell? ⟨b0,2,ε⟩=ζ (γ C r rc):=fun w' h=>h.cell (HXb0_11.out.dr.cell (i:=2) rfl) RA.out
  have ldb11:∀w',Kept (fun b=>b=b2) W11.drew w'→w'.cell? ⟨b1,1,ε⟩=ζ (J o.s):=fun w' h=>h.cell (HXb1_11.out.dr.cell (i:=1) rfl) tU.out
  have ldb12:∀w',Kept (fun b=>b=b2) W11.drew w'→w'.cell? ⟨b1,2,ε⟩=ζ (J o.n):=fun w' h=>h.cell (HXb1_11.out.dr.cell (i:=2) rfl) tU.out
  refine ay (fun b=>b=b2) (by kernel_rfl) ?_;refine aa 0 ?_;refine aa 1 ?_;refine aa 2 ?_;refine aa 3 ?_;refine aa 4 ?_;refine aa 6 ?_;refine aa 7 ?_;refine mw 5 ?_;intro w' aC;have bC:=((Θ _ W11).drew.trans (aC.mono (Δ _)))
  refine(HAv.out w' (ag Og.out bC)).mono ?_
  rintro e w5 ⟨A2,n2,c2,W2,rfl,hd,hmp,hb⟩
  refine⟨_,rfl,Kept.of_below hb,?_⟩
  have HD8:=qh hd;have yu:=qh hmp;have nV:=qh (ag (ag Og.out bC) hb);have HG8:=qh (HGo.out.bl (ag (ag Og.out bC) hb));have Tm:=qh ((HXb2_11.out.bl bC).bl hb);clear aC bC hd hmp hb;simp only[ξ,aw,ar,aq];refine aa 8 ?_;refine gI 9 ?_;intro w' aC
  refine⟨w'.setRow b2 #[γ A2 n2 c2,γ B m k,γ C r rc],aR 28 (.tmp 4) (.tmp 43) rfl b2 rfl [γ A2 n2 c2,γ B m k,γ C r rc] rfl 28 [γ ε 0 0,γ ε 0 0,γ ε 0 0] (Tm.out.bl aC) (by kernel_rfl) rfl (by simp[Τ]),bN (S:=fun b=>b=b2) rfl _,?_⟩
  have HD9:=qh (dg_row (HD8.out.bl aC) (Tm.out.bl aC) (sl3_not (fun i=>by simp) (fun i=>by simp) (fun i=>by simp)) #[γ A2 n2 c2,γ B m k,γ C r rc]);have HG9:=qh ((HG8.out.bl aC).row_far (ne_some (g_not (HG8.out.bl aC) (Tm.out.bl aC) (sl3_not (fun i=>by simp) (fun i=>by simp) (fun i=>by simp)))) #[γ A2 n2 c2,γ B m k,γ C r rc]);have Kf:=qh (Whole.row (Tm.out.bl aC) [γ A2 n2 c2,γ B m k,γ C r rc]);have oC:=qh (bH (ag nV.out aC) eI.out #[γ A2 n2 c2,γ B m k,γ C r rc]);obtain⟨V3,Oi⟩:=aB (w'.setRow b2 #[γ A2 n2 c2,γ B m k,γ C r rc]);rw[Oi] at HD9 HG9 Kf oC ⊢;clear aC Oi HD8 HG8 Tm nV;(try simp only[ξ,aw,ar,aq]);refine aa 10 ?_;refine aF (by kernel_rfl) ?_ _;intro wa Pb;have kH:=qh (HD9.out.bl Pb);have HGa:=qh (HG9.out.bl Pb);have Pk:=qh (Kf.out.bl Pb);have lX:=qh (ag oC.out Pb);clear Pb HD9 HG9 Kf oC;go_wp2;exact bS rfl b2 rfl rfl Pk.out Tryz.underlying28 rfl (by kernel_rfl) rfl ⟨A2,n2,c2,B,m,k,C,r,rc,W2,rfl,kH.out,yu.out,HGa.out,lX.out⟩
theorem rone_k2 {W:ο} {A:Option Κ} {n c:Nat} {Vs:List VC} {B:Option Κ} {m k:Nat} {Es:List EC} {C:Option Κ} {r rc:Nat} {G:List Gn} (h:bz W A n c Vs B m k Es) (hg:bg W W.heap.size 6 C r rc (ah cZ G)) (hS:gD (Vs.map vS,Es,G)) (o:dR) (ht:o.t.size≤maxLen) (hmay:iu o=0) (hk:o.k=2):
 Ζ η 15 #[φ #[γ A n c,γ B m k,γ C r rc],φ (ak o).toArray] W (GivesSt W (oc (Vs.map vS,Es,G) (bL o))):=by
 have HKk:=qh hk;clear hk;have QV:Vs.length=n:=h.v.rlen aS (by decide);have h24:Vs.length≤24:=by have:=hS.v24;rwa [Ρ] at this
 have HM:Hid (∀X,Ζ η 45 #[φ (ak o).toArray] X fun e w'=>e=.returned (J 0)∧σ X.heap.size X w'):=qh (fun X=>by
  have:=rmayop_any o ht X
  rw[hmay] at this;exact this)
 have HV:Hid (∀X,σ W.heap.size W X→Ζ η 27 #[φ #[γ A n c,γ B m k],φ #[J o.s,J o.n]] X fun e w'=>e=.returned (Ξ #[φ (vC (eP Vs (o.s,o.n)).1).toArray,.bool (eP Vs (o.s,o.n)).2])∧σ X.heap.size X w'):=qh (fun X hX=>Vr A n c Vs B m k Es o.s o.n X (h.v.bl hX) (by omega));have OY:(eP Vs (o.s,o.n)).2=bu (Vs.map vS) (bL o):=(tK Vs (o.s,o.n)).1;have ec:(eP Vs (o.s,o.n)).1.2.1.2.2.2=eS (Vs.map vS) (bL o):=(tK Vs (o.s,o.n)).2
 have uH:RgOk W (eP Vs (o.s,o.n)).1.2.1:=by
  rcases II (fun v:VC=>v.1) zV Vs (o.s,o.n) with h1|h1
  ·exact h.r _ h1
  ·rw[show(eP Vs (o.s,o.n))=(zV,ρ) from h1];exact⟨by decide,rds_nil_ W _⟩
 obtain⟨⟨u,ok⟩,gv⟩:∃z,eP Vs (o.s,o.n)=z:=⟨_,rfl⟩
 rw[gv] at HV OY ec uH;obtain⟨⟨i1,i2⟩,⟨rA,rn,jg,rL⟩,lb,at_⟩:=u;replace HV:Hid (∀X,σ W.heap.size W X→Ζ η 27 #[φ #[γ A n c,γ B m k],φ #[J o.s,J o.n]] X fun e w'=>e=.returned (Ξ #[φ #[J i1,J i2,γ rA rn jg,μ lb,J at_],.bool ok])∧σ X.heap.size X w'):=HV;dsimp only at OY ec uH;have qx:rL.length=rn:=by have:=uH.2.len;rw[dj] at this;dsimp only at this;omega
 have XZ:=qh OY;have Zu:=qh ec;have HRl:=qh qx;have P4:n≤24:=by omega
 clear OY ec uH qx gv;have h40:Es.length≤40:=hS.e40;have Fb:Es.length=m:=h.e.rlen bM (by decide)
 have hez:CL (fun v:EC=>v.1) Es ((0,0):Nm)=Es:=List.filter_eq_self.2 (fun e he=>by
  have h1:=Qg (hS.em e he).1;simp only[decide_eq_true_eq];intro e0;rw[e0] at h1;exact absurd h1.1 (by decide))
 have HW1:Hid (∀X,σ W.heap.size W X→Ζ η 47 #[φ #[γ A n c,γ B m k],φ #[J o.s,J o.n],φ #[J 0,J 0]] X fun e w'=>∃A1 n1 c1 B1 m1 k1 Ws,e=.returned (φ #[γ A1 n1 c1,γ B1 m1 k1])∧bz w' A1 n1 c1 Ws B1 m1 k1 Es∧Ws.map vS=dM (Vs.map vS) (bL o)∧σ X.heap.size X w'):=qh (fun X hX=>by
  refine(rwithout_any (h.below hX) (o.s,o.n) (0,0) (by omega) (by omega)).mono ?_
  rintro e w' ⟨A5,n5,c5,B5,m5,k5,rfl,hd,-,-,hb⟩;rw[hez] at hd;exact⟨A5,n5,c5,B5,m5,k5,_,rfl,hd,cutKV_map Vs (bL o),hb⟩)
 clear h40 Fb hez;have HO:=qh h;have HGo:=qh hg;have tT:=qh hS;have HVl:=qh QV;clear h hg hS QV h24 hmay ht;obtain⟨V,gV⟩:=aB (Vs.map vS);have HVn:Hid (V.length=n):=qh (by rw[←gV,Ρ];exact HVl.out);rw[gV] at XZ Zu HW1 ⊢;clear gV;obtain⟨R,gR⟩:=aB (oc (V,Es,G) (bL o));have HR:=qh gR;rw[gR];clear gR;go_enter Tryz.func15,Tryz.ntmps15;go_upto_region 1 with fail
 obtain⟨W0,b0,b1,b2,bO,bp,dE,jc,aQ,aL,aZ,bw,-,-,oa,-,iP,-,eI,uW,RA,tU⟩:=Bs W 28 [γ A n c,γ B m k,γ C r rc] 36 (ak o) 28 [γ ε 0 0,γ ε 0 0,γ ε 0 0];rw[bO,jc,dE,bp];clear bO bp dE jc;refine wp_region_lit ?_;refine eJ (ζ 9) rfl (by rfl) 36 (.tmp 3) rfl b1 rfl 36 (ak o) _ aL.out Tryz.underlying36 rfl (by kernel_rfl) ?_;simp only[ξ,aw,ar,aq]
 go_upto_region 2 with (first
  |(go_at_call 45
    refine(HM.out _).mono ?_
    rintro e w2 ⟨rfl,aP⟩;have HBm:=qh (ag bw.out aP);have fk:=qh (aQ.out.bl aP);have mZ:=qh (aL.out.bl aP);have rG:=qh (aZ.out.bl aP);clear aP aQ aL aZ bw HM))
 obtain⟨Wm,gWm⟩:=aB w2;rw[gWm] at HBm fk mZ rG ⊢;clear gWm;go_upto_region 4 with fail
 have fb0_0:=fk.out.cell (i:=0) rfl;have fb0_1:=fk.out.cell (i:=1) rfl;have fb1_1:=mZ.out.cell (i:=1) rfl;have fb1_2:=mZ.out.cell (i:=2) rfl
 go_upto_region 5 with (first
  |(go_at_call 27
    refine(HV.out _ HBm.out).mono ?_
    rintro e w2 ⟨rfl,aP⟩;have Zk:=qh aP;clear aP fb0_0 fb0_1 fb1_1 fb1_2))
 have aP:=Zk.out;have Og:=qh (aI (ag HBm.out aP) (δ #[J i1,J i2,γ rA rn jg,μ lb,J at_] 59));have HXb0_11:=qh ((fk.out.bl aP).al (δ #[J i1,J i2,γ rA rn jg,μ lb,J at_] 59));have HXb1_11:=qh ((mZ.out.bl aP).al (δ #[J i1,J i2,γ rA rn jg,μ lb,J at_] 59));have HXb2_11:=qh ((rG.out.bl aP).al (δ #[J i1,J i2,γ rA rn jg,μ lb,J at_] 59));have HXb3_11:=qh (Whole.new_ w2 59 [J i1,J i2,γ rA rn jg,μ lb,J at_]);have Lb3:Hid (W.heap.size≤w2.heap.size):=qh (ag HBm.out aP).size;have Nb0b3:Hid (b0≠w2.heap.size):=qh (by have:=(fk.out.bl aP).lt;omega);have Nb1b3:Hid (b1≠w2.heap.size):=qh (by have:=(mZ.out.bl aP).lt;omega);have Nb2b3:Hid (b2≠w2.heap.size):=qh (by have:=(rG.out.bl aP).lt;omega);obtain⟨W11,gWn⟩:=aB (w2.alloc (δ #[J i1,J i2,γ rA rn jg,μ lb,J at_] 59));obtain⟨b3,gbn⟩:=aB w2.heap.size;rw[gWn] at Og HXb0_11 HXb1_11 HXb2_11 HXb3_11 ⊢;rw[gbn] at HXb3_11 Lb3 Nb0b3 Nb1b3 Nb2b3 ⊢;clear gWn gbn HBm fk mZ rG aP Zk;clear HV;have k0:W11.cell? ⟨b1,0,ε⟩=ζ (J 2):=(HXb1_11.out.cell (i:=0) rfl).trans (by rw[HKk.out]);have k1:=HXb3_11.out.cell (i:=2) rfl;cases ok with
 |false=>
  obtain rfl:=(show oc (V,Es,G) (bL o)=(dv,13) from by unfold oc;rw[if_pos XZ.out.symm]).symm.trans HR.out;have z0:=HXb2_11.out.cell (i:=0) rfl;have z1:=HXb2_11.out.cell (i:=1) rfl;have z2:=HXb2_11.out.cell (i:=2) rfl;have y0:=HXb2_11.out.free 0;have y1:=HXb2_11.out.free 1;have y2:=HXb2_11.out.free 2;go_wp2;exact bS rfl b2 rfl rfl (((HXb2_11.out.set_ 0 (γ ε 0 0)).set_ 1 (γ ε 0 0)).set_ 2 (γ ε 0 0)) Tryz.underlying28 rfl (by kernel_rfl) rfl ⟨ε,0,0,ε,0,0,ε,0,0,[],rfl,dg_nil _,rfl,bg.no _ _ _,((Og.out.setCell (p:=⟨b2,0,ε⟩) eI.out (γ ε 0 0)).setCell (p:=⟨b2,1,ε⟩) eI.out (γ ε 0 0)).setCell (p:=⟨b2,2,ε⟩) eI.out (γ ε 0 0)⟩
 |true=>
  by_cases h0:0<rn
  ·have h4i:(0:Int)<(rn:Int):=by omega
   obtain rfl:=(show oc (V,Es,G) (bL o)=(dv,14) from by unfold oc;rw[if_neg (by rw[←XZ.out];decide),if_pos (show ¬eS V (bL o)=[] from fun q=>by rw[←Zu.out] at q;have:=HRl.out;rw[q] at this;exact absurd this (by simp;omega))]).symm.trans HR.out;have z0:=HXb2_11.out.cell (i:=0) rfl;have z1:=HXb2_11.out.cell (i:=1) rfl;have z2:=HXb2_11.out.cell (i:=2) rfl;have y0:=HXb2_11.out.free 0;have y1:=HXb2_11.out.free 1;have y2:=HXb2_11.out.free 2;go_wp2;exact bS rfl b2 rfl rfl (((HXb2_11.out.set_ 0 (γ ε 0 0)).set_ 1 (γ ε 0 0)).set_ 2 (γ ε 0 0)) Tryz.underlying28 rfl (by kernel_rfl) rfl ⟨ε,0,0,ε,0,0,ε,0,0,[],rfl,dg_nil _,rfl,bg.no _ _ _,((Og.out.setCell (p:=⟨b2,0,ε⟩) eI.out (γ ε 0 0)).setCell (p:=⟨b2,1,ε⟩) eI.out (γ ε 0 0)).setCell (p:=⟨b2,2,ε⟩) eI.out (γ ε 0 0)⟩
  have h4i:¬(0:Int)<(rn:Int):=by omega
  have HRr:Hid (oc (V,Es,G) (bL o)=((dM V (bL o),(Es,G)),0)):=qh (by unfold oc;rw[if_neg (by rw[←XZ.out];decide),if_neg (show ¬¬eS V (bL o)=[] from fun q=>q (by rw[←Zu.out];exact List.eq_nil_of_length_eq_zero (by have:=HRl.out;omega)))]);obtain rfl:=HRr.out.symm.trans HR.out;go_upto_region 17 with fail
  clear k0 k1 h4i;have ldb00:∀w',Kept (fun b=>b=b2) W11.drew w'→w'.cell? ⟨b0,0,ε⟩=ζ (γ A n c):=fun w' h=>h.cell (HXb0_11.out.dr.cell (i:=0) rfl) RA.out
  have ldb01:∀w',Kept (fun b=>b=b2) W11.drew w'→w'.cell? ⟨b0,1,ε⟩=ζ (γ B m k):=fun w' h=>h.cell (HXb0_11.out.dr.cell (i:=1) rfl) RA.out
  have ldb02:∀w',Kept (fun b=>b=b2) W11.drew w'→w'.cell? ⟨b0,2,ε⟩=ζ (γ C r rc):=fun w' h=>h.cell (HXb0_11.out.dr.cell (i:=2) rfl) RA.out
  have ldb11:∀w',Kept (fun b=>b=b2) W11.drew w'→w'.cell? ⟨b1,1,ε⟩=ζ (J o.s):=fun w' h=>h.cell (HXb1_11.out.dr.cell (i:=1) rfl) tU.out
  have ldb12:∀w',Kept (fun b=>b=b2) W11.drew w'→w'.cell? ⟨b1,2,ε⟩=ζ (J o.n):=fun w' h=>h.cell (HXb1_11.out.dr.cell (i:=2) rfl) tU.out
  refine ay (fun b=>b=b2) (by kernel_rfl) ?_;refine aa 0 ?_;refine aa 1 ?_;refine aa 2 ?_;refine aa 3 ?_;refine aa 4 ?_;refine aa 6 ?_;refine aa 7 ?_;refine mw 5 ?_;intro w' aC;have bC:=((Θ _ W11).drew.trans (aC.mono (Δ _)))
  refine(HW1.out w' (ag Og.out bC)).mono ?_
  rintro e w5 ⟨A2,n2,c2,B2,m2,k2,W2,rfl,hd,hmp,hb⟩
  refine⟨_,rfl,Kept.of_below hb,?_⟩
  have HD8:=qh hd;have yu:=qh hmp;have nV:=qh (ag (ag Og.out bC) hb);have HG8:=qh (HGo.out.bl (ag (ag Og.out bC) hb));have Tm:=qh ((HXb2_11.out.bl bC).bl hb);clear aC bC hd hmp hb;simp only[ξ,aw,ar,aq];refine aa 8 ?_;refine gI 9 ?_;intro w' aC
  refine⟨w'.setRow b2 #[γ A2 n2 c2,γ B2 m2 k2,γ C r rc],aR 28 (.tmp 4) (.tmp 62) rfl b2 rfl [γ A2 n2 c2,γ B2 m2 k2,γ C r rc] rfl 28 [γ ε 0 0,γ ε 0 0,γ ε 0 0] (Tm.out.bl aC) (by kernel_rfl) rfl (by simp[Τ]),bN (S:=fun b=>b=b2) rfl _,?_⟩
  have HD9:=qh (dg_row (HD8.out.bl aC) (Tm.out.bl aC) (sl3_not (fun i=>by simp) (fun i=>by simp) (fun i=>by simp)) #[γ A2 n2 c2,γ B2 m2 k2,γ C r rc]);have HG9:=qh ((HG8.out.bl aC).row_far (ne_some (g_not (HG8.out.bl aC) (Tm.out.bl aC) (sl3_not (fun i=>by simp) (fun i=>by simp) (fun i=>by simp)))) #[γ A2 n2 c2,γ B2 m2 k2,γ C r rc]);have Kf:=qh (Whole.row (Tm.out.bl aC) [γ A2 n2 c2,γ B2 m2 k2,γ C r rc]);have oC:=qh (bH (ag nV.out aC) eI.out #[γ A2 n2 c2,γ B2 m2 k2,γ C r rc]);obtain⟨V3,Oi⟩:=aB (w'.setRow b2 #[γ A2 n2 c2,γ B2 m2 k2,γ C r rc]);rw[Oi] at HD9 HG9 Kf oC ⊢;clear aC Oi HD8 HG8 Tm nV;(try simp only[ξ,aw,ar,aq]);refine aa 10 ?_;refine aF (by kernel_rfl) ?_ _;intro wa Pb;have kH:=qh (HD9.out.bl Pb);have HGa:=qh (HG9.out.bl Pb);have Pk:=qh (Kf.out.bl Pb);have lX:=qh (ag oC.out Pb);clear Pb HD9 HG9 Kf oC;go_wp2;exact bS rfl b2 rfl rfl Pk.out Tryz.underlying28 rfl (by kernel_rfl) rfl ⟨A2,n2,c2,B2,m2,k2,C,r,rc,W2,rfl,kH.out,yu.out,HGa.out,lX.out⟩
theorem filD_remE {l:List D} (hn:l.Nodup) (x:D):kt l x=jy l x:=by
 rw[nJ,hn.erase_eq_filter];unfold kt;refine List.filter_congr (fun y _=>?_)
 by_cases q:y=x<;>simp[q]
theorem yW.nd {V:List VS} (h:yW V) (x:Nm):(eS V x).Nodup:=by
 unfold eS;cases hf:V.find? (fun v=>decide (v.1=x)) with
 |none=>exact List.nodup_nil
 |some v=>
  obtain⟨a,b,e⟩:=List.append_of_mem (List.mem_of_find?_eq_some hf);have h1:=h.once;rw[e,List.flatMap_append,List.flatMap_cons] at h1;exact(JaL.1 (JaL.1 h1).2.1).1
theorem remF_eq {V:List VS} (h:yW V) (x:D):remF V x=iU V x:=by
 unfold remF iU;rw[filD_remE (h.nd _)]
theorem unlink_F {S:SS} (h:dx S) {x:Nm} (hx:bI S.2.1 x=true):remF (remF S.1 (bh x 0)) (bh x 1)=iU (iU S.1 (bh x 0)) (bh x 1):=by
 obtain⟨h0,h1⟩:=h.end_ hx;obtain⟨r1,m1⟩:=h.rg.rem h0;rw[remF_eq h.rg,remF_eq r1]
theorem bg.up_ {W X:ο} {C:Option Κ} {r rc:Nat} {G:List Gn} (h:bg W W.heap.size 6 C r rc (ah cZ G)) (hX:σ W.heap.size W X):bg X X.heap.size 6 C r rc (ah cZ G):=h.bl hX
theorem rone_any {W:ο} {A:Option Κ} {n c:Nat} {Vs:List VC} {B:Option Κ} {m k:Nat} {Es:List EC} {C:Option Κ} {r rc:Nat} {G:List Gn} (h:bz W A n c Vs B m k Es) (hg:bg W W.heap.size 6 C r rc (ah cZ G)) (hS:gD (Vs.map vS,Es,G)) (o:dR) (ht:o.t.size≤maxLen):
 Ζ η 15 #[φ #[γ A n c,γ B m k,γ C r rc],φ (ak o).toArray] W (GivesSt W (yi (Vs.map vS,Es,G) o)):=by
 by_cases h0:iu o=0
 ·have e0:yi (Vs.map vS,Es,G) o=bQ (Vs.map vS,Es,G) o:=by unfold yi;rw[if_pos h0]
  rw[e0];obtain⟨m1,m2,-,-⟩:=AP h0
  by_cases k1:o.k=1
  ·have:=rone_k1 h hg hS o ht h0 k1
   unfold bQ;rwa [if_pos k1]
  by_cases k2:o.k=2
  ·have:=rone_k2 h hg hS o ht h0 k2
   unfold bQ;rwa [if_neg k1,if_pos k2]
  by_cases k3:o.k=3
  ·refine rone_k3 h hg hS o ht h0 k3 _ (fun X hX=>?_);unfold bQ;rw[if_neg k1,if_neg k2,if_pos k3];exact rlink_any (h.below hX) (hg.up_ hX) hS o m1
  by_cases k4:o.k=4
  ·refine rone_k4 h hg hS o ht h0 k4 _ (fun X hX=>?_);have QV:Vs.length=n:=h.v.rlen aS (by decide);have Fb:Es.length=m:=h.e.rlen bM (by decide);have h24:Vs.length≤24:=by have:=hS.v24;rwa [Ρ] at this
   have h40:Es.length≤40:=hS.e40;have hr8:∀y∈Vs,y.2.1.2.1≤80:=RgL.to h hS.short
   have:=rcut_any (h.below hX) (hg.up_ hX) (by omega) (by omega) (fun y hy=>by have:=hr8 y hy;omega) hS.g400 hS.gr (fun v hv e0=>by
    have h1:=Qg (hS.vm v hv).1;rw[e0] at h1;exact absurd h1.1 (by decide)) o
   unfold bQ jK;rw[if_neg k1,if_neg k2,if_neg k3,if_pos k4];cases hE:bI Es (o.s,o.n) with
   |false=>
    rw[hE,if_pos rfl] at this;rw[if_pos (show bI Es (bL o)=ρ from hE)];exact this
   |true=>
    rw[hE,if_neg (show ¬true=ρ by decide),unlink_F (S:=(Vs.map vS,Es,G)) hS.fit (x:=(o.s,o.n)) hE] at this;rw[if_neg (show ¬bI Es (bL o)=ρ by rw[show bI Es (bL o)=true from hE];decide)];exact this
  by_cases k5:o.k=5
  ·refine rone_k5 h hg hS o ht h0 k5 _ (fun X hX=>?_);unfold bQ;rw[if_neg k1,if_neg k2,if_neg k3,if_neg k4,if_pos k5];refine rsplit_any (h.below hX) (hg.up_ hX) hS o ?_;unfold lO at m2;rw[if_neg (by omega),if_neg k3,if_pos k5,Jar,Jar] at m2;exact⟨(of_decide_eq_true m2.2).1,(of_decide_eq_true m2.2).2⟩
  by_cases k6:o.k=6
  ·refine rone_k6 h hg hS o ht h0 k6 _ (fun X hX=>?_);unfold bQ;rw[if_neg k1,if_neg k2,if_neg k3,if_neg k4,if_neg k5,if_pos k6];exact rsmooth_any (h.below hX) (hg.up_ hX) hS o
  ·refine rone_k7 h hg hS o ht h0 k1 k2 k3 k4 k5 k6 _ (fun X hX=>?_);unfold bQ;rw[if_neg k1,if_neg k2,if_neg k3,if_neg k4,if_neg k5,if_neg k6];exact rset_any (h.below hX) (hg.up_ hX) hS o
 ·have e0:yi (Vs.map vS,Es,G) o=(dv,iu o):=by unfold yi;rw[if_neg h0]
  rw[e0];exact rone_no h hg hS o ht (iu o) h0 rfl
def StT (R:SS × Int) (v:ψ) (W:ο):Prop:=∃A n c B m k C r rc Ws,v=Ξ #[φ #[γ A n c,γ B m k,γ C r rc],J R.2]∧bz W A n c Ws B m k R.1.2.1∧Ws.map vS=R.1.1∧bg W W.heap.size 6 C r rc (ah cZ R.1.2.2)
theorem StT.up {R:SS × Int} {v:ψ} {W W':ο} (h:StT R v W) (hx:Ext W W'):StT R v W':=by
 obtain⟨A,n,c,B,m,k,C,r,rc,Ws,e,h1,h2,h3⟩:=h;exact⟨A,n,c,B,m,k,C,r,rc,Ws,e,h1.bl hx,h2,h3.bl hx⟩
def StU (R:SS) (v:ψ) (W:ο):Prop:=∃A n c B m k C r rc Ws,v=φ #[γ A n c,γ B m k,γ C r rc]∧bz W A n c Ws B m k R.2.1∧Ws.map vS=R.1∧bg W W.heap.size 6 C r rc (ah cZ R.2.2)
theorem StU.up {R:SS} {v:ψ} {W W':ο} (h:StU R v W) (hx:Ext W W'):StU R v W':=by
 obtain⟨A,n,c,B,m,k,C,r,rc,Ws,e,h1,h2,h3⟩:=h;exact⟨A,n,c,B,m,k,C,r,rc,Ws,e,h1.bl hx,h2,h3.bl hx⟩
theorem rapply_any {W:ο} {A:Option Κ} {n c:Nat} {Vs:List VC} {B:Option Κ} {m k:Nat} {Es:List EC} {C:Option Κ} {r rc:Nat} {G:List Gn} (h:bz W A n c Vs B m k Es) (hg:bg W W.heap.size 6 C r rc (ah cZ G)) (hS:gD (Vs.map vS,Es,G)) (PA:Option Κ) (pn pc:Nat) (L:List dR) (hL:bg W W.heap.size 20 PA pn pc (ah ak L)) (ti:pn≤maxLen) (ht:∀o∈L,o.t.size≤maxLen):
 Ζ η 20 #[φ #[γ A n c,γ B m k,γ C r rc],φ #[γ PA pn pc]] W (GivesSt W (la (Vs.map vS,Es,G) L)):=by
 have wN:L.length=pn:=hL.rlen eB (by decide);have HM:Hid (∀X,σ W.heap.size W X→Ζ η 39 #[φ #[γ PA pn pc]] X fun e w'=>e=.returned (J (pB L))∧σ X.heap.size X w'):=qh (fun X hX=>rmayedit_any PA pn pc L X (hL.bl hX) ti ht)
 have h6:pB L=0→pn≤6:=fun h0=>by
  by_cases q:L.length<1∨6<L.length
  ·unfold pB at h0;rw[if_pos q] at h0;exact absurd h0 (by decide)
  ·omega
 have HT:=qh ht;have HLs:=qh hL;have WZ:=qh wN;have HD0:=qh h;have Ce:=qh hg;have mQ:=qh hS;obtain⟨S0,gS0⟩:=aB ((Vs.map vS,Es,G));have HS0e:=qh gS0;rw[gS0] at mQ ⊢;clear h hg hS hL ti wN ht gS0;obtain⟨R,gR⟩:=aB (la S0 L);have HR:=qh gR;rw[gR];clear gR;obtain⟨x,gx⟩:=aB (pB L);rw[gx] at HM h6;have GX:=qh gx;have H6:=qh h6;clear gx h6;go_enter Tryz.func20,Tryz.ntmps20;go_upto_region 1 with fail
 obtain⟨W0,b0,b1,b2,bO,bp,dE,jc,aQ,aL,aZ,bw,-,-,oa,-,iP,-,eI,uW,RA,tU⟩:=Bs W 28 [γ A n c,γ B m k,γ C r rc] 49 [γ PA pn pc] 28 [γ ε 0 0,γ ε 0 0,γ ε 0 0];rw[bO,jc,dE,bp];clear bO bp dE jc;have x1:=aL.out.cell (i:=0) rfl
 go_upto_region 2 with (first
  |(go_at_call 39
    refine(HM.out _ bw.out).mono ?_
    rintro e w2 ⟨rfl,aP⟩;have HBm:=qh (ag bw.out aP);have fk:=qh (aQ.out.bl aP);have mZ:=qh (aL.out.bl aP);have rG:=qh (aZ.out.bl aP);clear aP x1 aQ aL aZ bw HM))
 by_cases hx:x=0
 rotate_left
 ·obtain rfl:=(show la S0 L=(dv,x) from by unfold la;rw[GX.out,if_neg hx]).symm.trans HR.out;have z0:=rG.out.cell (i:=0) rfl;have z1:=rG.out.cell (i:=1) rfl;have z2:=rG.out.cell (i:=2) rfl;have y0:=rG.out.free 0;have y1:=rG.out.free 1;have y2:=rG.out.free 2;go_wp2;exact bS rfl b2 rfl rfl (((rG.out.set_ 0 (γ ε 0 0)).set_ 1 (γ ε 0 0)).set_ 2 (γ ε 0 0)) Tryz.underlying28 rfl (by kernel_rfl) rfl ⟨ε,0,0,ε,0,0,ε,0,0,[],rfl,dg_nil _,rfl,bg.no _ _ _,((HBm.out.setCell (p:=⟨b2,0,ε⟩) eI.out (γ ε 0 0)).setCell (p:=⟨b2,1,ε⟩) eI.out (γ ε 0 0)).setCell (p:=⟨b2,2,ε⟩) eI.out (γ ε 0 0)⟩
 subst hx;obtain⟨Wm,gWm⟩:=aB w2;rw[gWm] at HBm fk mZ rG ⊢;clear gWm;have hp6:pn≤6:=H6.out rfl;have XI:Hid (jT S0 L=R):=qh ((by unfold la;rw[if_pos GX.out]:la S0 L=jT S0 L).symm.trans HR.out);have SP:Hid (∀o∈L,iu o=0):=qh (M1 GX.out);have HDm:Hid (bz Wm A n c Vs B m k S0.2.1):=qh (by rw[←HS0e.out];exact HD0.out.below HBm.out);have HGm:Hid (bg Wm Wm.heap.size 6 C r rc (ah cZ S0.2.2)):=qh (by rw[←HS0e.out];exact Ce.out.bl HBm.out);have HVm:Hid (Vs.map vS=S0.1):=qh (by rw[←HS0e.out]);clear HR GX H6 HD0 Ce HS0e;go_upto_region 5 with fail
 go_loopw [7] (fun vi wr=>∃(j:Nat) (S:SS) (A1:Option Κ) (n1 c1:Nat) (B1:Option Κ) (m1 k1:Nat) (C1:Option Κ) (r1 rc1:Nat) (Ws1:List VC),j≤pn∧vi=J (j:Int)∧Hid (Whole wr b0 28 [γ A1 n1 c1,γ B1 m1 k1,γ C1 r1 rc1])∧Hid (Whole wr b1 49 [γ PA pn pc])∧Hid (Whole wr b2 28 [γ ε 0 0,γ ε 0 0,γ ε 0 0])∧Hid (σ W.heap.size W wr)∧Hid (bz wr A1 n1 c1 Ws1 B1 m1 k1 S.2.1)∧Hid (Ws1.map vS=S.1)∧Hid (bg wr wr.heap.size 6 C1 r1 rc1 (ah cZ S.2.2))∧Hid (gD S)∧Hid (jT S0 L=jT S (L.drop j))) (fun vi _=>pn - (intOf vi).toNat)
 case atStart=>exact⟨0,S0,A,n,c,B,m,k,C,r,rc,Vs,Nat.zero_le _,rfl,fk,mZ,rG,HBm,HDm,HVm,HGm,mQ,qh (by rw[List.drop_zero])⟩
 case round=>
  clear fk mZ rG HBm HDm HVm HGm mQ;obtain⟨j,S,A1,n1,c1,B1,m1,k1,C1,r1,rc1,Ws1,hj,rfl,H0,H1,H2,HB,HD,HV,HG,HS,HA⟩:=hrel;obtain⟨wo,cS⟩:=aB wr;rw[cS] at H0 H1 H2 HB HD HG ⊢;clear cS;have c0:=H1.out.cell (i:=0) rfl
  by_cases nT:j<pn
  rotate_left
  ·obtain rfl:pn=j:=by omega
   have Ww:Hid (jT S0 L=(S,0)):=qh (by
    have:=HA.out
    rwa [List.drop_of_length_le (by have:=WZ.out;omega)] at this)
   obtain rfl:=Ww.out.symm.trans XI.out;have z0:=H2.out.cell (i:=0) rfl;have z1:=H2.out.cell (i:=1) rfl;have z2:=H2.out.cell (i:=2) rfl;have y0:=H2.out.free 0;have y1:=H2.out.free 1;have y2:=H2.out.free 2;have x0:=H0.out.cell (i:=0) rfl;have x1:=H0.out.cell (i:=1) rfl;have x2:=H0.out.cell (i:=2) rfl;have k0:=sl3_not (a:=γ ε 0 0) (b:=γ ε 0 0) (d:=γ ε 0 0) (fun i=>by simp) (fun i=>by simp) (fun i=>by simp);have k1_:=sl3_not (a:=γ A1 n1 c1) (b:=γ ε 0 0) (d:=γ ε 0 0) (fun i=>by simp) (fun i=>by simp) (fun i=>by simp);have k2_:=sl3_not (a:=γ A1 n1 c1) (b:=γ B1 m1 k1) (d:=γ ε 0 0) (fun i=>by simp) (fun i=>by simp) (fun i=>by simp);go_wp2;have s0:=H2.out;have s1:=s0.set_ 0 (γ A1 n1 c1);have s2:=s1.set_ 1 (γ B1 m1 k1);exact bS rfl b2 rfl rfl (s2.set_ 2 (γ C1 r1 rc1)) Tryz.underlying28 rfl (by kernel_rfl) rfl ⟨A1,n1,c1,B1,m1,k1,C1,r1,rc1,Ws1,rfl,dg_set (dg_set (dg_set HD.out s0 k0 0 _) s1 k1_ 1 _) s2 k2_ 2 _,HV.out,gn_set (gn_set (gn_set HG.out s0 k0 0 _) s1 k1_ 1 _) s2 k2_ 2 _,((HB.out.setCell (p:=⟨b2,0,ε⟩) eI.out (γ A1 n1 c1)).setCell (p:=⟨b2,1,ε⟩) eI.out (γ B1 m1 k1)).setCell (p:=⟨b2,2,ε⟩) eI.out (γ C1 r1 rc1)⟩
  have ya:(j:Int)<(pn:Int):=by omega
  obtain⟨o,ho⟩:∃o,L[j]? =ζ o:=⟨_,List.getElem?_eq_getElem (by have:=WZ.out;omega)⟩
  obtain⟨pb,po,rfl,hpb,a8⟩:=HLs.out.place eB (by decide) (by omega);have Wy:=qh (a8 j o ho);have HPb:=qh hpb;have HOj:=qh ho;have ho0:iu o=0:=SP.out o (ω ho);have hto:=HT.out o (ω ho)
  have afJ:Hid (∀X,Ext wo X→Ζ η 15 #[φ #[γ A1 n1 c1,γ B1 m1 k1,γ C1 r1 rc1],φ (ak o).toArray] X fun e w'=>∃v,e=.returned v∧StT (bQ S o) v w'∧σ X.heap.size X w'):=qh (fun X hX=>by
   have hS1:gD (Ws1.map vS,S.2.1,S.2.2):=by rw[HV.out];exact HS.out
   have:=rone_any (HD.out.bl hX) (HG.out.bl hX) hS1 o hto
   refine this.mono ?_;rintro e w' ⟨A6,n6,c6,B6,m6,k6,C6,r6,rc6,Ws6,rfl,hd,hm,hg,hb⟩
   have hk:yi (Ws1.map vS,S.2.1,S.2.2) o=bQ S o:=by
    unfold yi;rw[if_pos ho0,HV.out]
   rw[hk] at hd hm hg ⊢;exact⟨_,rfl,⟨A6,n6,c6,B6,m6,k6,C6,r6,rc6,Ws6,rfl,hd,hm,hg⟩,hb⟩)
  have HOk2:=qh (HS.out.kind ho0);clear a8 hpb ho ho0 hto;obtain⟨K,gK⟩:=aB (bQ S o);have QS:=qh gK;rw[gK] at afJ HOk2;clear gK;obtain⟨K1,x⟩:=K;go_upto_region 7 with fail
  obtain⟨WW,gWW⟩:=aB wo;rw[gWW] at H0 H1 H2 HB HD HG afJ ⊢;clear gWW;have NI:Hid (∀y,Ext WW.drew y→∀i u,(ak o)[i]? =ζ u→y.cell? ((⟨pb,po+j*20,ε⟩:Κ).add i)=ζ u):=qh (fun y hy i u hu=>(Below.cell (ag (aN HB.out) hy) (p:=(⟨pb,po+j*20,ε⟩:Κ).add i) (by rw[en];exact HPb.out)).trans (Wy.out i u hu))
  have jB:Hid (∀y,Ext WW.drew y→y.cell? ⟨b0,0,ε⟩=ζ (γ A1 n1 c1)∧y.cell? ⟨b0,1,ε⟩=ζ (γ B1 m1 k1)∧y.cell? ⟨b0,2,ε⟩=ζ (γ C1 r1 rc1)∧y.cell? ⟨b1,0,ε⟩=ζ (γ (ζ ⟨pb,po,ε⟩) pn pc)):=qh (fun y hy=>⟨(H0.out.dr.bl hy).cell (i:=0) rfl,
   (H0.out.dr.bl hy).cell (i:=1) rfl,
   (H0.out.dr.bl hy).cell (i:=2) rfl,
   (H1.out.dr.bl hy).cell (i:=0) rfl⟩)
  refine cJ 11 9 (cw WW.heap.size) (tc [fun v W=>v=φ #[γ A1 n1 c1,γ B1 m1 k1,γ C1 r1 rc1],fun v W=>v=υ (ζ ⟨b1,0,ε⟩),fun v W=>v=γ (ζ ⟨pb,po,ε⟩) pn pc,fun v W=>v=J (j:Int),fun v W=>v=υ (ζ ⟨pb,po+j*20,ε⟩),fun v W=>v=φ (ak o).toArray,fun v W=>StT (K1,x) (v) (W),fun v W=>StT (K1,x) (v) (W),fun v W=>StU K1 (v) (W),fun v W=>v=J x,fun v W=>∃q,v=υ (ζ ⟨q,0,ε⟩)∧WW.heap.size≤q∧Whole (W) q 28 [γ ε 0 0,γ ε 0 0,γ ε 0 0]]) (Ext WW.drew) (by kernel_rfl) (by kernel_rfl) (by kernel_rfl) (by kernel_rfl) (by kernel_rfl) (by kernel_rfl) (by simp only[List.getElem?_toArray,List.getElem?_cons_succ,List.getElem?_cons_zero];exact rfl) (by kernel_rfl) (by kernel_rfl) (by kernel_rfl) ?_ (jH (by
   intro Q hQ v w1 w2 h hx;simp only[List.mem_cons,List.not_mem_nil,or_false] at hQ;rcases hQ with rfl|rfl|rfl|rfl|rfl|rfl|rfl|rfl|rfl|rfl|rfl
   ·exact(fun v w1 w2 h hx=>h) v w1 w2 h hx
   ·exact(fun v w1 w2 h hx=>h) v w1 w2 h hx
   ·exact(fun v w1 w2 h hx=>h) v w1 w2 h hx
   ·exact(fun v w1 w2 h hx=>h) v w1 w2 h hx
   ·exact(fun v w1 w2 h hx=>h) v w1 w2 h hx
   ·exact(fun v w1 w2 h hx=>h) v w1 w2 h hx
   ·exact(fun v w1 w2 h hx=>h.up hx) v w1 w2 h hx
   ·exact(fun v w1 w2 h hx=>h.up hx) v w1 w2 h hx
   ·exact(fun v w1 w2 h hx=>h.up hx) v w1 w2 h hx
   ·exact(fun v w1 w2 h hx=>h) v w1 w2 h hx
   ·exact(fun v w1 w2 h hx=>(by obtain⟨q,e1,e2,e3⟩:=h;exact⟨q,e1,e2,e3.bl hx⟩)) v w1 w2 h hx)) (fun _ _ h k=>h.trans k) (Ext.refl _) ?_ ?_ ?_
  ·exact fun _ _ _ _ h=>h
  ·intro i Ef;have dF:i=0∨i=1∨i=2∨i=3∨i=4∨i=5∨i=6∨i=7∨i=8∨i=9∨i=10:=by omega
   rcases dF with rfl|rfl|rfl|rfl|rfl|rfl|rfl|rfl|rfl|rfl|rfl
   ·refine aH ?_;intro xf y hg aD;obtain⟨qE,iQ,jd,qi⟩:=jB.out _ hg;simp only[aE,ι,π,aj,ξ,aw,ar,aq];refine .inl ⟨by rfl,?_⟩;go_simp;exact⟨Ext.refl _,rfl⟩
   ·refine aH ?_;intro xf y hg aD;simp only[aE,ι,π,aj,ξ,aw,ar,aq];refine .inl ⟨by rfl,?_⟩;go_simp;exact⟨Ext.refl _,rfl⟩
   ·refine aH ?_;intro xf y hg aD;have d1:xf 1=υ (ζ ⟨b1,0,ε⟩):=aD 1 (by decide);obtain⟨qE,iQ,jd,qi⟩:=jB.out _ hg;simp only[aE,ι,π,aj,ξ,aw,ar,aq];simp only[d1];refine .inl ⟨by rfl,?_⟩;go_simp;exact⟨Ext.refl _,rfl⟩
   ·refine aH ?_;intro xf y hg aD;simp only[aE,ι,π,aj,ξ,aw,ar,aq];refine .inl ⟨by rfl,?_⟩;go_simp;exact⟨Ext.refl _,rfl⟩
   ·refine aH ?_;intro xf y hg aD;have d2:xf 2=γ (ζ ⟨pb,po,ε⟩) pn pc:=aD 2 (by decide);have d3:xf 3=J (j:Int):=aD 3 (by decide);simp only[aE,ι,π,aj,ξ,aw,ar,aq];simp only[d2,d3];refine .inl ⟨by rfl,?_⟩;go_simp;exact⟨Ext.refl _,rfl⟩
   ·refine aH ?_;intro xf y hg aD;have d4:xf 4=υ (ζ ⟨pb,po+j*20,ε⟩):=aD 4 (by decide);obtain⟨qE,iQ,jd,qi⟩:=jB.out _ hg;simp only[aE,ι,π,aj,ξ,aw,ar,aq];simp only[d4];exact .inl ⟨by rfl,dZ (tZ 36 (.tmp 28) rfl ⟨pb,po+j*20,ε⟩ rfl (ak o) _ (NI.out y hg) Tryz.underlying36 rfl (by kernel_rfl)) (Ext.refl _) rfl⟩
   ·refine aH ?_;intro xf y hg aD;have d0:xf 0=φ #[γ A1 n1 c1,γ B1 m1 k1,γ C1 r1 rc1]:=aD 0 (by decide);have d5:xf 5=φ (ak o).toArray:=aD 5 (by decide);simp only[aE,ι,π,aj,ξ,aw,ar,aq];simp only[d0,d5];refine .inl ⟨by rfl,cu (by go_simp;first|done|exact⟨rfl,rfl⟩|with_reducible rfl) ?_⟩
    refine(afJ.out y ((Θ _ WW).drew.trans hg)).mono ?_
    rintro e w2 ⟨v,rfl,Py,hb⟩
    refine⟨_,rfl,hb,?_⟩
    show StT (K1,x) ((_:ψ)) (w2);exact Py
   ·refine aH ?_;intro xf y hg aD;obtain⟨A6,n6,c6,B6,m6,k6,C6,r6,rc6,Ws6,d6,hd6,hm6,x7⟩:StT (K1,x) (xf 6) (y):=aD 6 (by decide);simp only[aE,ι,π,aj,ξ,aw,ar,aq];simp only[d6];refine .inl ⟨by rfl,?_⟩;go_simp
    refine⟨Ext.refl _,?_⟩
    show StT (K1,x) ((_:ψ)) (y);exact⟨A6,n6,c6,B6,m6,k6,C6,r6,rc6,Ws6,rfl,hd6,hm6,x7⟩
   ·refine aH ?_;intro xf y hg aD;obtain⟨A7,n7,c7,B7,m7,k7,C7,r7,LU,Ws7,d7,hd7,hm7,hg7⟩:StT (K1,x) (xf 7) (y):=aD 7 (by decide);simp only[aE,ι,π,aj,ξ,aw,ar,aq];simp only[d7];refine .inl ⟨by rfl,?_⟩;go_simp
    refine⟨Ext.refl _,?_⟩
    show StU K1 ((_:ψ)) (y);exact⟨A7,n7,c7,B7,m7,k7,C7,r7,LU,Ws7,rfl,hd7,hm7,hg7⟩
   ·refine aH ?_;intro xf y hg aD;obtain⟨A7,n7,c7,B7,m7,k7,C7,r7,LU,Ws7,d7,hd7,hm7,hg7⟩:StT (K1,x) (xf 7) (y):=aD 7 (by decide);simp only[aE,ι,π,aj,ξ,aw,ar,aq];simp only[d7];refine .inl ⟨by rfl,?_⟩;go_simp;exact⟨Ext.refl _,rfl⟩
   ·refine aH ?_;intro xf y hg aD;simp only[aE,ι,π,aj,ξ,aw,ar,aq];refine .inl ⟨by rfl,dZ (w':=y.alloc (δ #[γ ε 0 0,γ ε 0 0,γ ε 0 0] 28)) (by go_simp;first|done|exact rfl|exact⟨rfl,rfl⟩) (az _ _) ?_⟩;show ∃q,(_:ψ)=υ (ζ ⟨q,0,ε⟩)∧WW.heap.size≤q∧Whole (y.alloc (δ #[γ ε 0 0,γ ε 0 0,γ ε 0 0] 28)) q 28 [γ ε 0 0,γ ε 0 0,γ ε 0 0]
    exact⟨y.heap.size,rfl,hg.size,Whole.new_ _ _ [γ ε 0 0,γ ε 0 0,γ ε 0 0]⟩
  ·intro xf y hg aX;obtain⟨A7,n7,c7,B7,m7,k7,C7,r7,LU,Ws7,d7,hd7,hm7,hg7⟩:StT (K1,x) (xf 7) (y):=aX 7 (by decide) (by decide);simp only[aE,ι,π,aj,ξ,aw,ar,aq];simp only[d7]
   refine⟨J x,?_,rfl⟩
   apply dD;rfl;intro w' aC;go_simp;(try with_reducible rfl)
  intro xf y hg aX;obtain⟨A8,n8,c8,B8,m8,k8,C8,r8,CE,Ws8,d8,hd8,hm8,uR⟩:StU K1 (xf 8) (y):=aX 8 (by decide);have d9:xf 9=J x:=aX 9 (by decide);obtain⟨gr,d10,Ea,OZ⟩:∃q,xf 10=υ (ζ ⟨q,0,ε⟩)∧WW.heap.size≤q∧Whole (y) q 28 [γ ε 0 0,γ ε 0 0,γ ε 0 0]:=aX 10 (by decide)
  simp only[aE,ι,π,aj,ξ,aw,ar,aq];simp only[d8,d9,d10];clear aX d8 d9 d10;have HD8:=qh hd8;have yu:=qh hm8;have HG8:=qh uR;clear hd8 hm8 uR;have o9:=qh OZ;have qH:=qh (ag (aN (Θ _ WW)) hg);have Je:Hid (WW.heap.size≤gr):=qh Ea;clear Ea OZ;refine gI 11 ?_;intro w' aC
  refine⟨w'.setRow gr #[γ A8 n8 c8,γ B8 m8 k8,γ C8 r8 CE],aR 28 (.tmp 8) (.tmp 31) rfl gr rfl [γ A8 n8 c8,γ B8 m8 k8,γ C8 r8 CE] rfl 28 [γ ε 0 0,γ ε 0 0,γ ε 0 0] (o9.out.bl aC) (by kernel_rfl) rfl (by simp[Τ]),bN (show WW.heap.size≤gr from Je.out) _,?_⟩
  have qP:Hid (Whole (w'.setRow gr #[γ A8 n8 c8,γ B8 m8 k8,γ C8 r8 CE]) gr 28 [γ A8 n8 c8,γ B8 m8 k8,γ C8 r8 CE]):=qh (Whole.row (o9.out.bl aC) [γ A8 n8 c8,γ B8 m8 k8,γ C8 r8 CE]);have kn:Hid (σ WW.heap.size WW (w'.setRow gr #[γ A8 n8 c8,γ B8 m8 k8,γ C8 r8 CE])):=qh (bH (ag qH.out aC) Je.out _);have HD8_1:=qh (dg_row (HD8.out.bl aC) (o9.out.bl aC) (sl3_not (fun i=>by simp) (fun i=>by simp) (fun i=>by simp)) #[γ A8 n8 c8,γ B8 m8 k8,γ C8 r8 CE]);have HG8_1:=qh ((HG8.out.bl aC).row_far (ne_some (g_not (HG8.out.bl aC) (o9.out.bl aC) (sl3_not (fun i=>by simp) (fun i=>by simp) (fun i=>by simp)))) #[γ A8 n8 c8,γ B8 m8 k8,γ C8 r8 CE]);obtain⟨V1,fD⟩:=aB (w'.setRow gr #[γ A8 n8 c8,γ B8 m8 k8,γ C8 r8 CE]);rw[fD] at qP kn HD8_1 HG8_1 ⊢;clear aC fD o9 qH;refine aa 12 ?_;refine aF (by kernel_rfl) ?_ _;intro W8 cg;have KW:=qh (qP.out.bl cg);have rT:=qh (ag kn.out cg);have HD8:=qh (HD8_1.out.bl cg);have HG8:=qh (HG8_1.out.bl cg);clear HD8_1 HG8_1;clear cg qP kn;have K0:=qh (H0.out.bl rT.out);have K1_:=qh (H1.out.bl rT.out);have K2:=qh (H2.out.bl rT.out);have KB:=qh (ag HB.out rT.out);have hne0:b0≠gr:=by have h1:=H0.out.lt;have h2:=Je.out;omega
  have Hne:=qh hne0;clear hne0 H0 H1 H2 HB HD HG rT jB Je NI afJ
  by_cases hx:x=0
  rotate_left
  ·have Iw:Hid (jT S0 L=(dv,x)):=qh (by
    have:=J7 HA.out HOj.out (by rw[QS.out];exact hx)
    rwa [QS.out] at this)
   obtain rfl:=Iw.out.symm.trans XI.out;have z0:=K2.out.cell (i:=0) rfl;have z1:=K2.out.cell (i:=1) rfl;have z2:=K2.out.cell (i:=2) rfl;have y0:=K2.out.free 0;have y1:=K2.out.free 1;have y2:=K2.out.free 2;go_wp2;exact bS rfl b2 rfl rfl (((K2.out.set_ 0 (γ ε 0 0)).set_ 1 (γ ε 0 0)).set_ 2 (γ ε 0 0)) Tryz.underlying28 rfl (by kernel_rfl) rfl ⟨ε,0,0,ε,0,0,ε,0,0,[],rfl,dg_nil _,rfl,bg.no _ _ _,((KB.out.setCell (p:=⟨b2,0,ε⟩) eI.out (γ ε 0 0)).setCell (p:=⟨b2,1,ε⟩) eI.out (γ ε 0 0)).setCell (p:=⟨b2,2,ε⟩) eI.out (γ ε 0 0)⟩
  subst hx
  have HA2:Hid (jT S0 L=jT K1 (L.drop (j+1))):=qh (by
   have:=JV HA.out HOj.out (by rw[QS.out])
   rwa [QS.out] at this)
  clear HA;have a0:=KW.out.cell (i:=0) rfl;have a1:=KW.out.cell (i:=1) rfl;have a2:=KW.out.cell (i:=2) rfl;have z0:=K0.out.cell (i:=0) rfl;have z1:=K0.out.cell (i:=1) rfl;have z2:=K0.out.cell (i:=2) rfl;have y0:=K0.out.free 0;have y1:=K0.out.free 1;have y2:=K0.out.free 2;go_upto_region 6 with fail
  clear a0 a1 a2 z0 z1 z2 y0 y1 y2;have s0:=K0.out;have s1:=s0.set_ 0 (γ A8 n8 c8);have s2:=s1.set_ 1 (γ B8 m8 k8);have q0:=sl3_not (a:=γ A1 n1 c1) (b:=γ B1 m1 k1) (d:=γ C1 r1 rc1) (fun i=>by simp) (fun i=>by simp) (fun i=>by simp);have q1:=sl3_not (a:=γ A8 n8 c8) (b:=γ B1 m1 k1) (d:=γ C1 r1 rc1) (fun i=>by simp) (fun i=>by simp) (fun i=>by simp);have q2:=sl3_not (a:=γ A8 n8 c8) (b:=γ B8 m8 k8) (d:=γ C1 r1 rc1) (fun i=>by simp) (fun i=>by simp) (fun i=>by simp);have J0:=qh (s2.set_ 2 (γ C8 r8 CE));have J1:=qh (((K1_.out.far (p:=⟨b0,0,ε⟩) (fun e=>uW.out e.symm) (γ A8 n8 c8)).far (p:=⟨b0,1,ε⟩) (fun e=>uW.out e.symm) (γ B8 m8 k8)).far (p:=⟨b0,2,ε⟩) (fun e=>uW.out e.symm) (γ C8 r8 CE));have J2:=qh (((K2.out.far (p:=⟨b0,0,ε⟩) (fun e=>RA.out e.symm) (γ A8 n8 c8)).far (p:=⟨b0,1,ε⟩) (fun e=>RA.out e.symm) (γ B8 m8 k8)).far (p:=⟨b0,2,ε⟩) (fun e=>RA.out e.symm) (γ C8 r8 CE));have JD:=qh (dg_set (dg_set (dg_set HD8.out s0 q0 0 (γ A8 n8 c8)) s1 q1 1 (γ B8 m8 k8)) s2 q2 2 (γ C8 r8 CE));have JG:=qh (gn_set (gn_set (gn_set HG8.out s0 q0 0 (γ A8 n8 c8)) s1 q1 1 (γ B8 m8 k8)) s2 q2 2 (γ C8 r8 CE));have JB:=qh (((KB.out.setCell (p:=⟨b0,0,ε⟩) oa.out (γ A8 n8 c8)).setCell (p:=⟨b0,1,ε⟩) oa.out (γ B8 m8 k8)).setCell (p:=⟨b0,2,ε⟩) oa.out (γ C8 r8 CE));obtain⟨w9,gw9⟩:=aB (((W8.setCell ⟨b0,0,ε⟩ (γ A8 n8 c8)).setCell ⟨b0,1,ε⟩ (γ B8 m8 k8)).setCell ⟨b0,2,ε⟩ (γ C8 r8 CE))
  rw[gw9] at J0 J1 J2 JD JG JB ⊢;clear gw9 s0 s1 s2 q0 q1 q2 K0 K1_ K2 KB HD8 HG8 KW;go_wp2;go_roundw
  case rel=>exact⟨j+1,K1,A8,n8,c8,B8,m8,k8,C8,r8,CE,Ws8,by omega,by go_num,J0,J1,J2,JB,JD,yu,JG,HOk2,HA2⟩
  case measure=>simp[intOf];omega
end Go.Proofs.YtpdpbfmiahjiiaaGreat
