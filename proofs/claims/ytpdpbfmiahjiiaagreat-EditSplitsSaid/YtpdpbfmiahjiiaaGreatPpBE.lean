/- 'EditSplits' answers true for every row of edits, every name and every number.
   No condition beyond the row's own. -/
import Derived.Test.YtpdpbfmiahjiiaaGreatPpAB
import Derived.Test.YtpdpbfmiahjiiaaGreatPpAJ
import Derived.Test.YtpdpbfmiahjiiaaGreatPpAO
import Derived.Test.YtpdpbfmiahjiiaaGreatPpBD
import Derived.Test.YtpdpbfmiahjiiaaGreatRows
set_option linter.unusedSectionVars false
set_option linter.unusedSimpArgs false
set_option linter.unusedVariables false
set_option maxRecDepth 100000
set_option maxHeartbeats 16000000
namespace Go.Proofs.YtpdpbfmiahjiiaaGreat
open Go.RowKit
open _root_.Go.Value renaming slice→γ,string→μ,agg→φ,bool→Β,tuple→Ξ
open _root_.Go.Obj renaming cells→δ
open _root_.Option renaming none→ε,some→ζ
open _root_.Go.Proofs.Tryz renaming prog→η
open _root_.Go renaming World→ο,Value→ψ,Calls→Ζ
open _root_.Bool renaming false→ρ,true→τ
open _root_.Go.RowKit renaming Below→σ
open _root_.Go.RowKit.Below renaming refl→Θ
open _root_.Nat renaming le_trans→Λ,add_zero→Jac
open _root_.List renaming length_map→Ρ
theorem Mt {W:ο} {A:Option Addr} {n c:Nat} {Vs:List VC} {B:Option Addr} {m k:Nat} {Es:List EC} {C:Option Addr} {r rc:Nat} {G:List Gn} (h:aR W A n c Vs B m k Es) (hg:aX W W.heap.size 6 C r rc (aj cB G)) (hS:fA (Vs.map vS,Es,G)):n≤24∧m≤40∧Vs.length=n∧Es.length=m:=by
 have h1:Vs.length=n:=h.v.rlen aQ (by decide);have h2:Es.length=m:=h.e.rlen bF (by decide);have h4:=hS.v24;have h5:Es.length≤40:=hS.e40;rw[Ρ] at h4;exact⟨by omega,by omega,h1,h2⟩
theorem and_3 (x:Int):∃v:Nat,v≤3∧bits .and .i64 x 3=(v:Int):=by
 have h:(BitVec.ofInt 64 x &&& BitVec.ofInt 64 3).toNat≤3:=by
  rw[BitVec.toNat_and];exact Nat.and_le_right
 refine⟨_,h,?_⟩
 show IntKind.i64.wrap ((BitVec.ofInt 64 x &&& BitVec.ofInt 64 3).toNat:Int)=_;exact IntWalk.i64_in _ (by omega)
theorem Fw (Al:Option Addr) (nl cl:Nat) (Ls:List Zy) (x1 x2 nn:Int) (w:ο) (h:MC w Al nl cl Ls):
 Ζ η 8 #[γ Al nl cl,φ #[J x1,J x2],J nn] w fun e w'=>e=.returned (Β τ)∧σ w.heap.size w w':=by
 have HI:Hid (∀X,σ w.heap.size w X→MC X Al nl cl Ls):=qh (fun X hX=>⟨h.row.bl hX,h.few,fun e he=>⟨(h.ops e he).1.bl hX,(h.ops e he).2⟩⟩);obtain⟨mN,hmN,gmN⟩:=and_3 nn;clear h;go_enter Tryz.func8,Tryz.ntmps8;go_upto_region 1 with fail
 obtain⟨W0,b4,bP,g0,Z2,a8,-,-,-⟩:=LV w 30 [J x1,J x2];rw[bP,g0];clear bP g0
 go_upto_region 2 with (first
  |(go_at_call 12
    refine(Dc _).mono ?_
    rintro e w2 ⟨rfl,ar⟩;have cy:=qh ar;clear ar))
 have ar:=cy.out;have Az:=qh (Z2.out.bl ar);have cY:=qh (af a8.out ar);obtain⟨qT,Y0⟩:=ay w2;rw[Y0] at cY Az ⊢;clear Y0 ar cy a8 Z2
 go_upto_region 3 with (first
  |(go_at_call 26
    refine(JJ fA dP (fun S L h=>h.try_ L) (fun S h=>h) Al nl cl Ls _ (HI.out _ cY.out)).mono ?_
    rintro e w2 ⟨S,hP,A1,n1,c1,B1,m1,k1,C1,r1,pD,oh,rfl,hd,hm,hg,ar⟩;have cy:=qh ar;have HP:=qh hP;have HD:=qh hd;have HM:=qh hm;have HG:=qh hg;clear ar hP hd hm hg))
 have ar:=cy.out;have lH:=qh (aE (af cY.out ar) (δ #[γ A1 n1 c1,γ B1 m1 k1,γ C1 r1 pD] 28));have dH:=qh ((Az.out.bl ar).al (δ #[γ A1 n1 c1,γ B1 m1 k1,γ C1 r1 pD] 28));have CB:=qh (HD.out.bl (ax _ (δ #[γ A1 n1 c1,γ B1 m1 k1,γ C1 r1 pD] 28)));have Ig:=qh (HG.out.bl (ax _ (δ #[γ A1 n1 c1,γ B1 m1 k1,γ C1 r1 pD] 28)));have qN:=qh (Whole.new_ w2 28 [γ A1 n1 c1,γ B1 m1 k1,γ C1 r1 pD]);obtain⟨Gf,cS⟩:=ay (w2.alloc (δ #[γ A1 n1 c1,γ B1 m1 k1,γ C1 r1 pD] 28));obtain⟨b8,dk⟩:=ay w2.heap.size;rw[cS] at lH dH CB Ig qN ⊢;rw[dk] at qN ⊢;clear cS dk ar cy cY Az HD HG;obtain⟨S_V,uP,SJ⟩:=S
 have HS:Hid (fA (oh.map vS,uP,SJ)):=qh (by
  rw[show oh.map vS=S_V from HM.out];exact HP.out)
 clear HM HP;obtain⟨yQ,UX,mZ,sS⟩:=Mt CB.out Ig.out HS.out;have IW:=qh mZ;have Cc:=qh sS;clear mZ sS;obtain⟨⟨⟨j1,j2⟩,eb,ea⟩,okx,TW⟩:∃u b,iw uP (x1,x2)=(u,b):=⟨_,_,rfl⟩
 have Xr:=qh TW
 have HE:Hid (∀X,aR X A1 n1 c1 oh B1 m1 k1 uP→Ζ η 30 #[φ #[γ A1 n1 c1,γ B1 m1 k1],φ #[J x1,J x2]] X fun e w'=>e=.returned (Ξ #[φ #[J j1,J j2,μ eb,J ea],Β okx])∧σ X.heap.size X w'):=qh (fun X hX=>by
  have h1:=uC A1 n1 c1 oh B1 m1 k1 uP x1 x2 X hX.e (by omega);rw[TW] at h1;exact h1)
 clear TW;obtain⟨⟨⟨i1,i2⟩,⟨rA,rn,bR,rL⟩,lb,at_⟩,YP,Uc⟩:∃u b,bu oh (8,1048576)=(u,b):=⟨_,_,rfl⟩
 have SA:=qh Uc
 have HV:Hid (∀X,aR X A1 n1 c1 oh B1 m1 k1 uP→Ζ η 27 #[φ #[γ A1 n1 c1,γ B1 m1 k1],φ #[J 8,J 1048576]] X fun e w'=>e=.returned (Ξ #[φ #[J i1,J i2,γ rA rn bR,μ lb,J at_],Β YP])∧σ X.heap.size X w'):=qh (fun X hX=>by
  have h1:=fJ A1 n1 c1 oh B1 m1 k1 uP 8 1048576 X hX.v (by omega);rw[Uc] at h1;exact h1)
 clear Uc;obtain⟨⟨⟨l1,l2⟩,db,da⟩,oke,Oh⟩:∃u b,iw uP (8,1048576)=(u,b):=⟨_,_,rfl⟩
 have ace:=qh Oh
 have aew:Hid (∀X,aR X A1 n1 c1 oh B1 m1 k1 uP→Ζ η 30 #[φ #[γ A1 n1 c1,γ B1 m1 k1],φ #[J 8,J 1048576]] X fun e w'=>e=.returned (Ξ #[φ #[J l1,J l2,μ db,J da],Β oke])∧σ X.heap.size X w'):=qh (fun X hX=>by
  have h1:=uC A1 n1 c1 oh B1 m1 k1 uP 8 1048576 X hX.e (by omega);rw[Oh] at h1;exact h1)
 clear Oh;have Yd:Hid (bN uP (x1,x2)=okx):=qh (by rw[←lG uP (x1,x2),Xr.out]);have KY:Hid (bo (oh.map vS) (8,1048576)=YP):=qh (by rw[←(dO oh (8,1048576)).1,SA.out]);have Da:Hid (bN uP (8,1048576)=oke):=qh (by rw[←lG uP (8,1048576),ace.out]);have nD:=qN.out.cell (i:=0) rfl;have ny:=qN.out.cell (i:=1) rfl;have Ag:=dH.out.cell (i:=0) rfl;have zr:=dH.out.cell (i:=1) rfl
 go_upto_region 4 with (first
  |(go_at_call 30
    refine(HE.out _ CB.out).mono ?_
    rintro e w2 ⟨rfl,ar⟩;have cy:=qh ar;clear ar nD ny Ag zr))
 have ar:=cy.out;have jO:=qh (aE (af lH.out ar) (δ #[J j1,J j2,μ eb,J ea] 67));have dA:=qh ((dH.out.bl ar).al (δ #[J j1,J j2,μ eb,J ea] 67));have BS:=qh ((qN.out.bl ar).al (δ #[J j1,J j2,μ eb,J ea] 67));have OD:=qh ((CB.out.bl ar).bl (ax _ (δ #[J j1,J j2,μ eb,J ea] 67)));have M6:=qh ((Ig.out.bl ar).bl (ax _ (δ #[J j1,J j2,μ eb,J ea] 67)));have AE:=qh (Whole.new_ w2 67 [J j1,J j2,μ eb,J ea]);obtain⟨yy,cS⟩:=ay (w2.alloc (δ #[J j1,J j2,μ eb,J ea] 67));obtain⟨b9,dk⟩:=ay w2.heap.size;rw[cS] at jO dA BS OD M6 AE ⊢;rw[dk] at AE ⊢;clear cS dk ar cy lH dH qN CB Ig;clear AE;go_upto_region 5 with fail
 have nq:=qh (aE jO.out (δ #[J 8,J 1048576] 30));have fc:=qh (dA.out.al (δ #[J 8,J 1048576] 30));have tI:=qh (BS.out.al (δ #[J 8,J 1048576] 30));have IK:=qh (OD.out.bl (ax _ (δ #[J 8,J 1048576] 30)));have LJ:=qh (M6.out.bl (ax _ (δ #[J 8,J 1048576] 30)));have nL:=qh (Whole.new_ yy 30 [J 8,J 1048576]);obtain⟨Jj,cS⟩:=ay (yy.alloc (δ #[J 8,J 1048576] 30));obtain⟨b11,dk⟩:=ay yy.heap.size;rw[cS] at nq fc tI IK LJ nL ⊢;rw[dk] at nL ⊢;clear cS dk jO dA BS OD M6;have nD:=tI.out.cell (i:=0) rfl;have ny:=tI.out.cell (i:=1) rfl;have fI:=nL.out.cell (i:=0) rfl;have fL:=nL.out.cell (i:=1) rfl
 go_upto_region 6 with (first
  |(go_at_call 27
    refine(HV.out _ IK.out).mono ?_
    rintro e w2 ⟨rfl,ar⟩;have cy:=qh ar;clear ar nD ny fI fL))
 have ar:=cy.out;have pv:=qh (aE (af nq.out ar) (δ #[J i1,J i2,γ rA rn bR,μ lb,J at_] 59));have dR:=qh ((fc.out.bl ar).al (δ #[J i1,J i2,γ rA rn bR,μ lb,J at_] 59));have tM:=qh ((tI.out.bl ar).al (δ #[J i1,J i2,γ rA rn bR,μ lb,J at_] 59));have pS:=qh ((nL.out.bl ar).al (δ #[J i1,J i2,γ rA rn bR,μ lb,J at_] 59));have u7:=qh ((IK.out.bl ar).bl (ax _ (δ #[J i1,J i2,γ rA rn bR,μ lb,J at_] 59)));have Nc:=qh ((LJ.out.bl ar).bl (ax _ (δ #[J i1,J i2,γ rA rn bR,μ lb,J at_] 59)));have yl:=qh (Whole.new_ w2 59 [J i1,J i2,γ rA rn bR,μ lb,J at_]);obtain⟨wV,cS⟩:=ay (w2.alloc (δ #[J i1,J i2,γ rA rn bR,μ lb,J at_] 59));obtain⟨b12,dk⟩:=ay w2.heap.size;rw[cS] at pv dR tM pS u7 Nc yl ⊢;rw[dk] at yl ⊢;clear cS dk ar cy nq fc tI nL IK LJ;clear yl;have nD:=tM.out.cell (i:=0) rfl;have ny:=tM.out.cell (i:=1) rfl;have fI:=pS.out.cell (i:=0) rfl;have fL:=pS.out.cell (i:=1) rfl
 go_upto_region 7 with (first
  |(go_at_call 30
    refine(aew.out _ u7.out).mono ?_
    rintro e w2 ⟨rfl,ar⟩;have cy:=qh ar;clear ar nD ny fI fL))
 have ar:=cy.out;have qQ:=qh (aE (af pv.out ar) (δ #[J l1,J l2,μ db,J da] 67));have jc:=qh ((dR.out.bl ar).al (δ #[J l1,J l2,μ db,J da] 67));have ka:=qh ((tM.out.bl ar).al (δ #[J l1,J l2,μ db,J da] 67));have pM:=qh ((pS.out.bl ar).al (δ #[J l1,J l2,μ db,J da] 67));have Jb:=qh ((u7.out.bl ar).bl (ax _ (δ #[J l1,J l2,μ db,J da] 67)));have Ht:=qh ((Nc.out.bl ar).bl (ax _ (δ #[J l1,J l2,μ db,J da] 67)));have yb:=qh (Whole.new_ w2 67 [J l1,J l2,μ db,J da]);obtain⟨EP,cS⟩:=ay (w2.alloc (δ #[J l1,J l2,μ db,J da] 67));obtain⟨b14,dk⟩:=ay w2.heap.size;rw[cS] at qQ jc ka pM Jb Ht yb ⊢;rw[dk] at yb ⊢;clear cS dk ar cy pv dR tM pS u7 Nc;clear yb;cases okx with
 |false=>
  go_wp2;go_ret;exact⟨rfl,qQ.out⟩
 |true=>
  cases YP with
  |true=>
   go_wp2;go_ret;exact⟨rfl,qQ.out⟩
  |false=>
   cases oke with
   |true=>
    go_wp2;go_ret;exact⟨rfl,qQ.out⟩
   |false=>
    by_cases Ai:40≤m1
    ·have nD:=ka.out.cell (i:=0) rfl;have ny:=ka.out.cell (i:=1) rfl;have aep:(40:Int)≤(m1:Int):=by omega
     go_wp2;go_ret;exact⟨rfl,qQ.out⟩
    ·have aep:¬(40:Int)≤(m1:Int):=by omega
     by_cases rZ:24≤n1
     ·have nD:=ka.out.cell (i:=0) rfl;have ny:=ka.out.cell (i:=1) rfl;have abQ:(24:Int)≤(n1:Int):=by omega
      go_wp2;go_ret;exact⟨rfl,qQ.out⟩
     ·have abQ:¬(24:Int)≤(n1:Int):=by omega
      have hmx:bQ x1 x2=τ:=by
       obtain⟨h1,h2,-⟩:=Ov Yd.out;have h3:=(HS.out.em _ h1).1;rw[h2] at h3;exact h3
      have tW:¬(((x1,x2):Nm)=(8,1048576)):=fun q=>by
       have h1:=Yd.out;rw[q,Da.out] at h1;cases h1
      have q9:Hid (∀X,aR X A1 n1 c1 oh B1 m1 k1 uP→aX X X.heap.size 6 C1 r1 pD (aj cB SJ)→Ζ η 14 #[φ #[γ A1 n1 c1,γ B1 m1 k1,γ C1 r1 pD],φ (aa (Lv (x1,x2) (8,1048576) (mN:Int))).toArray] X (pG X (vA (oh.map vS) uP SJ (x1,x2) (8,1048576) (mN:Int),0))):=qh (fun X hX hG=>by
       have h1:=om hX hG HS.out (Lv (x1,x2) (8,1048576) (mN:Int)) (PN _ _ ⟨by omega,by omega⟩);rw[show jJ (oh.map vS,uP,SJ) (Lv (x1,x2) (8,1048576) (mN:Int))=(vA (oh.map vS) uP SJ (x1,x2) (8,1048576) (mN:Int),0) from((Ha _ hmx rfl ⟨by omega,by omega⟩).trans (D4 Yd.out KY.out Da.out (by rw[Ρ,IW.out];omega) (by rw[Cc.out];omega)))] at h1;exact h1)
      have nD:=ka.out.cell (i:=0) rfl;have ny:=ka.out.cell (i:=1) rfl;have XL:=ka.out.cell (i:=2) rfl;have Ag:=jc.out.cell (i:=0) rfl;have zr:=jc.out.cell (i:=1) rfl;have fI:=pM.out.cell (i:=0) rfl;have fL:=pM.out.cell (i:=1) rfl
      go_upto_region 10 with (first
       |(go_at_call 14
         refine(q9.out _ Jb.out Ht.out).mono ?_
         rintro e w2 ⟨ar,hq⟩;have cy:=qh ar;obtain⟨-,A2,n2,c2,V2,B2,m2,k2,E2,C2,r2,oI,G2,rfl,zp,he⟩:=hq.resolve_right (fun q=>q.1 rfl);have yX:=qh zp.dg;have fZ:=qh zp.gone;have pQ:=qh he;clear ar hq zp he nD ny XL Ag zr fI fL))
      have ar:=cy.out;have Gj:=qh (aE (af qQ.out ar) (δ #[γ A2 n2 c2,γ B2 m2 k2,γ C2 r2 oI] 28));have qP:=qh ((jc.out.bl ar).al (δ #[γ A2 n2 c2,γ B2 m2 k2,γ C2 r2 oI] 28));have BY:=qh ((ka.out.bl ar).al (δ #[γ A2 n2 c2,γ B2 m2 k2,γ C2 r2 oI] 28));have p6:=qh ((pM.out.bl ar).al (δ #[γ A2 n2 c2,γ B2 m2 k2,γ C2 r2 oI] 28));have OJ:=qh ((Jb.out.bl ar).bl (ax _ (δ #[γ A2 n2 c2,γ B2 m2 k2,γ C2 r2 oI] 28)));have MF:=qh ((Ht.out.bl ar).bl (ax _ (δ #[γ A2 n2 c2,γ B2 m2 k2,γ C2 r2 oI] 28)));have ud:=qh (yX.out.bl (ax _ (δ #[γ A2 n2 c2,γ B2 m2 k2,γ C2 r2 oI] 28)));have Bg:=qh (fZ.out.bl (ax _ (δ #[γ A2 n2 c2,γ B2 m2 k2,γ C2 r2 oI] 28)));have nt:=qh (Whole.new_ w2 28 [γ A2 n2 c2,γ B2 m2 k2,γ C2 r2 oI]);obtain⟨W17,cS⟩:=ay (w2.alloc (δ #[γ A2 n2 c2,γ B2 m2 k2,γ C2 r2 oI] 28));obtain⟨b16,dk⟩:=ay w2.heap.size;rw[cS] at Gj qP BY p6 OJ MF ud Bg nt ⊢;rw[dk] at nt ⊢;clear cS dk ar cy qQ jc ka pM Jb Ht yX fZ
      have fW:Hid (fA (V2.map vS,E2,G2)):=qh (by
       have h1:=HS.out.one (Lv (x1,x2) (8,1048576) (mN:Int));rw[show jJ (oh.map vS,uP,SJ) (Lv (x1,x2) (8,1048576) (mN:Int))=(vA (oh.map vS) uP SJ (x1,x2) (8,1048576) (mN:Int),0) from((Ha _ hmx rfl ⟨by omega,by omega⟩).trans (D4 Yd.out KY.out Da.out (by rw[Ρ,IW.out];omega) (by rw[Cc.out];omega)))] at h1;rw[pQ.out];exact h1)
      obtain⟨PE,Sx,-,-⟩:=Mt ud.out Bg.out fW.out;have hV2:V2.map vS=(vA (oh.map vS) uP SJ (x1,x2) (8,1048576) (mN:Int)).1:=congrArg (fun z:SS=>z.1) pQ.out;obtain⟨⟨⟨p1,p2⟩,⟨pA,pn,pc,pL⟩,pb,pa⟩,okp,Uu⟩:∃u b,bu V2 (8,1048576)=(u,b):=⟨_,_,rfl⟩
      have HPr:=qh Uu
      have P7:Hid (∀X,aR X A2 n2 c2 V2 B2 m2 k2 E2→Ζ η 27 #[φ #[γ A2 n2 c2,γ B2 m2 k2],φ #[J 8,J 1048576]] X fun e w'=>e=.returned (Ξ #[φ #[J p1,J p2,γ pA pn pc,μ pb,J pa],Β okp])∧σ X.heap.size X w'):=qh (fun X hX=>by
       have h1:=fJ A2 n2 c2 V2 B2 m2 k2 E2 8 1048576 X hX.v (by omega);rw[Uu] at h1;exact h1)
      clear Uu
      obtain rfl:okp=τ:=by
       have h1:=(dO V2 (8,1048576)).1;rw[HPr.out,hV2,(oL KY.out).1] at h1;exact h1
      have hpL:pL=aS [aU (x1,x2) (1 - (mN:Int).tmod 2),aU (8,1048576) ((mN:Int).tdiv 2)]:=by
       have h1:=(dO V2 (8,1048576)).2;rw[HPr.out,hV2,(oL KY.out).2] at h1;exact h1
      have hpm:(((p1,p2),(pA,pn,pc,pL),pb,pa):VC)∈V2:=by
       have h1:=CG (Vs:=V2) (x:=(8,1048576)) (by rw[HPr.out]);rw[HPr.out] at h1;exact h1
      have JZ:Hid (∀X,aR X A2 n2 c2 V2 B2 m2 k2 E2→aX X X.heap.size 3 pA pn pc (aA pL)):=qh (fun X hX=>(hX.r _ hpm).2)
      obtain rfl:2=pn:=by
       have h1:=(JZ.out _ ud.out).dlen;rw[hpL,dI] at h1;exact h1
      obtain⟨Gs,hsm⟩:=GU HS.out Yd.out KY.out Da.out (n:=(mN:Int)) ⟨by omega,by omega⟩
      have pO:Hid (∀X,aR X A2 n2 c2 V2 B2 m2 k2 E2→aX X X.heap.size 6 C2 r2 oI (aj cB G2)→Ζ η 14 #[φ #[γ A2 n2 c2,γ B2 m2 k2,γ C2 r2 oI],φ (aa (yB (8,1048576) (8,1048576))).toArray] X (pG X ((oh.map vS,uP,Gs),0))):=qh (fun X hX hG=>by
       have h1:=om hX hG fW.out (yB (8,1048576) (8,1048576)) (tc _ _);rw[show jJ (V2.map vS,E2,G2) (yB (8,1048576) (8,1048576))=((oh.map vS,uP,Gs),0) from(by rw[pQ.out];exact(tv _ rfl rfl).trans hsm)] at h1;exact h1)
      have HSd:Hid (∀A3 n3 c3 V3 B3 m3 k3 E3 (G3:List Gn),(V3.map vS,E3,G3)=(oh.map vS,uP,Gs)→∀X,aR X A3 n3 c3 V3 B3 m3 k3 E3→aR X A1 n1 c1 oh B1 m1 k1 uP→Ζ η 36 #[φ #[γ A3 n3 c3,γ B3 m3 k3],φ #[γ A1 n1 c1,γ B1 m1 k1]] X fun e w'=>e=.returned (Β τ)∧σ X.heap.size X w'):=qh (fun A3 n3 c3 V3 B3 m3 k3 E3 G3 hq X h1 h2=>by
       have q1:V3.map vS=oh.map vS:=congrArg (fun z:SS=>z.1) hq;have q2:E3=uP:=congrArg (fun z:SS=>z.2.1) hq;have l1:=h1.v.rlen aQ (by decide);have l2:=h1.e.rlen bF (by decide);have l3:=congrArg List.length q1;rw[Ρ,Ρ,IW.out] at l3;rw[q2,Cc.out] at l2
       have:=KW A3 n3 c3 V3 B3 m3 k3 E3 A1 n1 c1 oh B1 m1 k1 uP X h1 h2 (by omega) (by omega)
       rw[decide_eq_true ⟨q1,q2⟩] at this;exact this)
      have j5:=nt.out.cell (i:=0) rfl;have jS:=nt.out.cell (i:=1) rfl;have fI:=p6.out.cell (i:=0) rfl;have fL:=p6.out.cell (i:=1) rfl
      go_upto_region 11 with (first
       |(go_at_call 27
         refine(P7.out _ ud.out).mono ?_
         rintro e w2 ⟨rfl,ar⟩;have cy:=qh ar;clear ar j5 jS fI fL))
      have ar:=cy.out;have OW:=qh (aE (af Gj.out ar) (δ #[J p1,J p2,γ pA 2 pc,μ pb,J pa] 59));have kS:=qh ((qP.out.bl ar).al (δ #[J p1,J p2,γ pA 2 pc,μ pb,J pa] 59));have tP:=qh ((BY.out.bl ar).al (δ #[J p1,J p2,γ pA 2 pc,μ pb,J pa] 59));have jw:=qh ((p6.out.bl ar).al (δ #[J p1,J p2,γ pA 2 pc,μ pb,J pa] 59));have pV:=qh ((nt.out.bl ar).al (δ #[J p1,J p2,γ pA 2 pc,μ pb,J pa] 59));have CL:=qh ((OJ.out.bl ar).bl (ax _ (δ #[J p1,J p2,γ pA 2 pc,μ pb,J pa] 59)));have DH:=qh ((MF.out.bl ar).bl (ax _ (δ #[J p1,J p2,γ pA 2 pc,μ pb,J pa] 59)));have uo:=qh ((ud.out.bl ar).bl (ax _ (δ #[J p1,J p2,γ pA 2 pc,μ pb,J pa] 59)));have ym:=qh ((Bg.out.bl ar).bl (ax _ (δ #[J p1,J p2,γ pA 2 pc,μ pb,J pa] 59)));have lu:=qh (Whole.new_ w2 59 [J p1,J p2,γ pA 2 pc,μ pb,J pa]);obtain⟨Lu,cS⟩:=ay (w2.alloc (δ #[J p1,J p2,γ pA 2 pc,μ pb,J pa] 59));obtain⟨b18,dk⟩:=ay w2.heap.size;rw[cS] at OW kS tP jw pV CL DH uo ym lu ⊢
      rw[dk] at lu ⊢;clear cS dk ar cy Gj qP BY p6 nt OJ MF ud Bg;have U4:=lu.out.cell (i:=2) rfl;go_upto_region 13 with fail
      clear U4;obtain⟨bb,off,rfl,bD,hc⟩:=(JZ.out _ uo.out).darts (by omega);rcases zz (aU (x1,x2) (1 - (mN:Int).tmod 2)) (aU (8,1048576) ((mN:Int).tdiv 2)) with e|e
      ·rw[hpL,e] at hc;obtain⟨c0,c1,-⟩:=hc 0 (by show 0<2;omega);obtain⟨c3,c4,-⟩:=hc 1 (by show 1<2;omega);simp only[Nat.zero_mul,Nat.one_mul,Jac,Nat.add_assoc,Nat.reduceAdd,List.getD_cons_zero,List.getD_cons_succ,aU] at c0 c1 c3 c4;have UU:=bW c0;have Vj:=bW c1;have Ti:=bW c3;have TT:=bW c4;have ldq:∀w',Kept aF Lu.drew w'→w'.cell? ⟨b18,2,ε⟩=ζ (γ (ζ ⟨bb,off,ε⟩) 2 pc):=bW (lu.out.cell (i:=2) rfl)
       have Fl:∀w',Kept aF Lu.drew w'→w'.cell? ⟨b4,0,ε⟩=ζ (J x1):=bW (kS.out.cell (i:=0) rfl)
       have Ga:∀w',Kept aF Lu.drew w'→w'.cell? ⟨b4,1,ε⟩=ζ (J x2):=bW (kS.out.cell (i:=1) rfl)
       have BH:∀w',Kept aF Lu.drew w'→w'.cell? ⟨b11,0,ε⟩=ζ (J 8):=bW (jw.out.cell (i:=0) rfl)
       have Bj:∀w',Kept aF Lu.drew w'→w'.cell? ⟨b11,1,ε⟩=ζ (J 1048576):=bW (jw.out.cell (i:=1) rfl)
       have qa:∀X:ο,(binOp .eql 30 (φ #[J x1,J x2]) (φ #[J x1,J x2])).run η X=.ok (Β τ) X:=fun X=>by rw[eL];simp
       have qb:∀X:ο,(binOp .eql 30 (φ #[J 8,J 1048576]) (φ #[J 8,J 1048576])).run η X=.ok (Β τ) X:=fun X=>by rw[eL];simp
       clear hc c0 c1 c3 c4 bD;refine aw (aF) (by kernel_rfl) ?_;refine ag 0 ?_;refine ag 1 ?_;refine ag 2 ?_;refine ag 3 ?_;refine ag 4 ?_;refine ag 5 ?_;refine ag 6 ?_;refine ag 7 ?_;refine ag 8 ?_;refine ag 9 ?_;refine ag 10 ?_;refine ag 11 ?_;refine ag 12 ?_;refine ag 13 ?_;refine ag 14 ?_;refine ag 15 ?_;refine ag 16 ?_;refine bg 17 ?_;refine bg 18 ?_;refine bg 19 ?_;refine bg 20 ?_;refine bg 21 ?_;refine bg 22 ?_;refine bg 23 ?_;refine bg 24 ?_;refine bg 25 ?_;refine bg 26 ?_;refine bg 27 ?_;refine bg 28 ?_;refine bg 29 ?_;refine bg 30 ?_;refine bg 31 ?_;refine bg 32 ?_;refine ag 33 ?_;refine ag 34 ?_;refine aD (by kernel_rfl) ?_ _;intro w8 cE;have cy:=qh ((Θ _ Lu).drew.trans cE);clear cE ldq UU Vj Ti TT Fl Ga BH Bj qa qb;clear lu;have ar:=cy.out;have oz:=qh (kS.out.bl ar);have oG:=qh (tP.out.bl ar);have hJ:=qh (jw.out.bl ar);have fy:=qh (pV.out.bl ar);have yg:=qh (CL.out.bl ar);have yd:=qh (DH.out.bl ar);have nU:=qh (uo.out.bl ar);have od:=qh (ym.out.bl ar);have F7:=qh (af OW.out ar);obtain⟨W19,O7⟩:=ay w8;rw[O7] at F7 oz oG hJ fy yg yd nU od ⊢;clear O7 ar cy OW kS tP jw pV CL DH uo ym;have j5:=fy.out.cell (i:=0) rfl;have jS:=fy.out.cell (i:=1) rfl
       have lO:=fy.out.cell (i:=2) rfl;have fI:=hJ.out.cell (i:=0) rfl;have fL:=hJ.out.cell (i:=1) rfl
       go_upto_region 15 with (first
        |(go_at_call 14
          refine(pO.out _ nU.out od.out).mono ?_
          rintro e w2 ⟨ar,hq⟩;have cy:=qh ar;obtain⟨-,A3,n3,c3,V3,B3,m3,k3,E3,C3,r3,rV,G3,rfl,zp,he⟩:=hq.resolve_right (fun q=>q.1 rfl);have PJ:=qh zp.dg;have Ql:=qh zp.gone;have sO:=qh he;clear ar hq zp he j5 jS lO fI fL))
       have ar:=cy.out;have FJ:=qh (aE (af F7.out ar) (δ #[γ A3 n3 c3,γ B3 m3 k3,γ C3 r3 rV] 28));have oC:=qh ((oz.out.bl ar).al (δ #[γ A3 n3 c3,γ B3 m3 k3,γ C3 r3 rV] 28));have kX:=qh ((oG.out.bl ar).al (δ #[γ A3 n3 c3,γ B3 m3 k3,γ C3 r3 rV] 28));have lQ:=qh ((hJ.out.bl ar).al (δ #[γ A3 n3 c3,γ B3 m3 k3,γ C3 r3 rV] 28));have lR:=qh ((fy.out.bl ar).al (δ #[γ A3 n3 c3,γ B3 m3 k3,γ C3 r3 rV] 28));have xc:=qh ((yg.out.bl ar).bl (ax _ (δ #[γ A3 n3 c3,γ B3 m3 k3,γ C3 r3 rV] 28)));have Dm:=qh ((yd.out.bl ar).bl (ax _ (δ #[γ A3 n3 c3,γ B3 m3 k3,γ C3 r3 rV] 28)));have sH:=qh ((nU.out.bl ar).bl (ax _ (δ #[γ A3 n3 c3,γ B3 m3 k3,γ C3 r3 rV] 28)));have rS:=qh ((od.out.bl ar).bl (ax _ (δ #[γ A3 n3 c3,γ B3 m3 k3,γ C3 r3 rV] 28)));have sq:=qh (PJ.out.bl (ax _ (δ #[γ A3 n3 c3,γ B3 m3 k3,γ C3 r3 rV] 28)));have yp:=qh (Ql.out.bl (ax _ (δ #[γ A3 n3 c3,γ B3 m3 k3,γ C3 r3 rV] 28)));have ig:=qh (Whole.new_ w2 28 [γ A3 n3 c3,γ B3 m3 k3,γ C3 r3 rV]);obtain⟨W20,cS⟩:=ay (w2.alloc (δ #[γ A3 n3 c3,γ B3 m3 k3,γ C3 r3 rV] 28));obtain⟨b21,dk⟩:=ay w2.heap.size;rw[cS] at FJ oC kX lQ lR xc Dm sH rS sq yp ig ⊢
       rw[dk] at ig ⊢;clear cS dk ar cy F7 oz oG hJ fy yg yd nU od PJ Ql;have FU:=ig.out.cell (i:=0) rfl;have Fu:=ig.out.cell (i:=1) rfl;have nD:=kX.out.cell (i:=0) rfl;have ny:=kX.out.cell (i:=1) rfl
       go_upto_region 16 with (first
        |(go_at_call 36
          refine(HSd.out _ _ _ _ _ _ _ _ _ sO.out _ sq.out xc.out).mono ?_
          rintro e w2 ⟨rfl,ar⟩;have cy:=qh ar;clear ar FU Fu nD ny))
       clear ig kX sq yp xc Dm;have ar:=cy.out;have il:=qh (oC.out.bl ar);have ia:=qh (lQ.out.bl ar);have gU:=qh (lR.out.bl ar);have mf:=qh (sH.out.bl ar);have lP:=qh (rS.out.bl ar);have xP:=qh (af FJ.out ar);obtain⟨qp,M3⟩:=ay w2;rw[M3] at xP il ia gU mf lP ⊢;clear M3 ar cy FJ oC lQ lR sH rS;go_upto_region 17 with fail
       have Om:=qh (Whole.new_ qp 30 [J 8,J 1]);have PU:=qh (il.out.al (δ #[J 8,J 1] 30));have Zx:=Om.out.cell (i:=0) rfl;have WI:=Om.out.cell (i:=1) rfl;have XN:=PU.out.cell (i:=0) rfl;have Yy:=PU.out.cell (i:=1) rfl
       by_cases hz:((x1,x2):Nm)=(8,1)
       ·have qz:∀X:ο,(binOp .eql 30 (φ #[J x1,J x2]) (φ #[J 8,J 1])).run η X=.ok (Β τ) X:=fun X=>by rw[eL,decide_eq_true hz]
        have fr1:=Om.out.free 1;go_upto_region 19 with fail
        have cy:Hid (σ qp.heap.size qp (qp.alloc (δ #[J 8,J 2] 30))):=qh (ax qp (δ #[J 8,J 2] 30));have rT:Hid (Whole (qp.alloc (δ #[J 8,J 2] 30)) qp.heap.size 30 [J 8,J 2]):=qh (Whole.new_ _ _ _);obtain⟨w2,Hf⟩:=ay ((qp.alloc (δ #[J 8,J 2] 30)));rw[Hf] at cy rT ⊢;obtain⟨b24,yq⟩:=ay qp.heap.size;rw[yq] at rT ⊢;clear Hf yq Om PU Zx WI XN Yy qz fr1;have ar:=cy.out;have fF:=qh (il.out.bl ar);have cW:=qh (ia.out.bl ar);have cn:=qh (gU.out.bl ar);have fN:=qh (mf.out.bl ar);have fK:=qh (lP.out.bl ar);have rX:=qh (af xP.out ar);obtain⟨W22,xE⟩:=ay w2;rw[xE] at rT rX fF cW cn fN fK ⊢;clear xE ar cy xP il ia gU mf lP;have kd:¬((8,2):Nm)=(x1,x2):=fun q=>by rw[hz] at q;exact absurd q (by decide)
        have HT:Hid (∀X,aR X A2 n2 c2 V2 B2 m2 k2 E2→aX X X.heap.size 6 C2 r2 oI (aj cB G2)→Ζ η 14 #[φ #[γ A2 n2 c2,γ B2 m2 k2,γ C2 r2 oI],φ (aa (yB (8,1048576) (8,2))).toArray] X (pG X (cp,14))):=qh (fun X hX hG=>by
         have h1:=om hX hG fW.out (yB (8,1048576) (8,2)) (tc _ _);rw[show jJ (V2.map vS,E2,G2) (yB (8,1048576) (8,2))=(cp,14) from(by rw[pQ.out];exact(tv _ rfl rfl).trans (qJ tW KY.out (by decide) kd))] at h1;exact h1)
        have j5:=cn.out.cell (i:=0) rfl;have jS:=cn.out.cell (i:=1) rfl;have lO:=cn.out.cell (i:=2) rfl;have fI:=cW.out.cell (i:=0) rfl;have fL:=cW.out.cell (i:=1) rfl;have sv:=rT.out.cell (i:=0) rfl;have sD:=rT.out.cell (i:=1) rfl
        go_upto_region 20 with (first
         |(go_at_call 14
           refine(HT.out _ fN.out fK.out).mono ?_
           rintro e w2 ⟨ar,hq⟩;have cy:=qh ar;obtain⟨-,rfl⟩:=hq.resolve_left (fun q=>absurd q.1 (by decide));clear ar hq j5 jS lO fI fL sv sD))
        have ar:=cy.out;have xg:=qh (aE (af rX.out ar) (δ #[γ ε 0 0,γ ε 0 0,γ ε 0 0] 28));have ou:=qh ((fF.out.bl ar).al (δ #[γ ε 0 0,γ ε 0 0,γ ε 0 0] 28));have lz:=qh ((cW.out.bl ar).al (δ #[γ ε 0 0,γ ε 0 0,γ ε 0 0] 28));have lp:=qh ((cn.out.bl ar).al (δ #[γ ε 0 0,γ ε 0 0,γ ε 0 0] 28));have ll:=qh ((rT.out.bl ar).al (δ #[γ ε 0 0,γ ε 0 0,γ ε 0 0] 28));have rJ:=qh ((fN.out.bl ar).bl (ax _ (δ #[γ ε 0 0,γ ε 0 0,γ ε 0 0] 28)));have rR:=qh ((fK.out.bl ar).bl (ax _ (δ #[γ ε 0 0,γ ε 0 0,γ ε 0 0] 28)));have hY:=qh (Whole.new_ w2 28 [γ ε 0 0,γ ε 0 0,γ ε 0 0]);obtain⟨W23,cS⟩:=ay (w2.alloc (δ #[γ ε 0 0,γ ε 0 0,γ ε 0 0] 28));obtain⟨b25,dk⟩:=ay w2.heap.size;rw[cS] at xg ou lz lp ll rJ rR hY ⊢;rw[dk] at hY ⊢;clear cS dk ar cy rX fF cW cn rT fN fK;go_wp2;go_ret;exact⟨rfl,xg.out⟩
       ·have qz:∀X:ο,(binOp .eql 30 (φ #[J x1,J x2]) (φ #[J 8,J 1])).run η X=.ok (Β ρ) X:=fun X=>by rw[eL,decide_eq_false hz]
        go_upto_region 19 with fail
        have cy:Hid (σ qp.heap.size qp (qp.alloc (δ #[J 8,J 1] 30))):=qh (ax qp (δ #[J 8,J 1] 30));have rT:Hid (Whole (qp.alloc (δ #[J 8,J 1] 30)) qp.heap.size 30 [J 8,J 1]):=qh (Whole.new_ _ _ _);obtain⟨w2,Hf⟩:=ay ((qp.alloc (δ #[J 8,J 1] 30)));rw[Hf] at cy rT ⊢;obtain⟨b24,yq⟩:=ay qp.heap.size;rw[yq] at rT ⊢;clear Hf yq Om PU Zx WI XN Yy qz;have ar:=cy.out;have fF:=qh (il.out.bl ar);have cW:=qh (ia.out.bl ar);have cn:=qh (gU.out.bl ar);have fN:=qh (mf.out.bl ar);have fK:=qh (lP.out.bl ar);have rX:=qh (af xP.out ar);obtain⟨W22,xE⟩:=ay w2;rw[xE] at rT rX fF cW cn fN fK ⊢;clear xE ar cy xP il ia gU mf lP;have jL:¬((8,1):Nm)=(x1,x2):=fun q=>hz q.symm
        have HT:Hid (∀X,aR X A2 n2 c2 V2 B2 m2 k2 E2→aX X X.heap.size 6 C2 r2 oI (aj cB G2)→Ζ η 14 #[φ #[γ A2 n2 c2,γ B2 m2 k2,γ C2 r2 oI],φ (aa (yB (8,1048576) (8,1))).toArray] X (pG X (cp,14))):=qh (fun X hX hG=>by
         have h1:=om hX hG fW.out (yB (8,1048576) (8,1)) (tc _ _);rw[show jJ (V2.map vS,E2,G2) (yB (8,1048576) (8,1))=(cp,14) from(by rw[pQ.out];exact(tv _ rfl rfl).trans (qJ tW KY.out (by decide) jL))] at h1;exact h1)
        have j5:=cn.out.cell (i:=0) rfl;have jS:=cn.out.cell (i:=1) rfl;have lO:=cn.out.cell (i:=2) rfl;have fI:=cW.out.cell (i:=0) rfl;have fL:=cW.out.cell (i:=1) rfl;have sv:=rT.out.cell (i:=0) rfl;have sD:=rT.out.cell (i:=1) rfl
        go_upto_region 20 with (first
         |(go_at_call 14
           refine(HT.out _ fN.out fK.out).mono ?_
           rintro e w2 ⟨ar,hq⟩;have cy:=qh ar;obtain⟨-,rfl⟩:=hq.resolve_left (fun q=>absurd q.1 (by decide));clear ar hq j5 jS lO fI fL sv sD))
        have ar:=cy.out;have xg:=qh (aE (af rX.out ar) (δ #[γ ε 0 0,γ ε 0 0,γ ε 0 0] 28));have ou:=qh ((fF.out.bl ar).al (δ #[γ ε 0 0,γ ε 0 0,γ ε 0 0] 28));have lz:=qh ((cW.out.bl ar).al (δ #[γ ε 0 0,γ ε 0 0,γ ε 0 0] 28));have lp:=qh ((cn.out.bl ar).al (δ #[γ ε 0 0,γ ε 0 0,γ ε 0 0] 28));have ll:=qh ((rT.out.bl ar).al (δ #[γ ε 0 0,γ ε 0 0,γ ε 0 0] 28));have rJ:=qh ((fN.out.bl ar).bl (ax _ (δ #[γ ε 0 0,γ ε 0 0,γ ε 0 0] 28)));have rR:=qh ((fK.out.bl ar).bl (ax _ (δ #[γ ε 0 0,γ ε 0 0,γ ε 0 0] 28)));have hY:=qh (Whole.new_ w2 28 [γ ε 0 0,γ ε 0 0,γ ε 0 0]);obtain⟨W23,cS⟩:=ay (w2.alloc (δ #[γ ε 0 0,γ ε 0 0,γ ε 0 0] 28));obtain⟨b25,dk⟩:=ay w2.heap.size;rw[cS] at xg ou lz lp ll rJ rR hY ⊢;rw[dk] at hY ⊢;clear cS dk ar cy rX fF cW cn rT fN fK;go_wp2;go_ret;exact⟨rfl,xg.out⟩
      ·rw[hpL,e] at hc;obtain⟨c0,c1,-⟩:=hc 0 (by show 0<2;omega);obtain⟨c3,c4,-⟩:=hc 1 (by show 1<2;omega);simp only[Nat.zero_mul,Nat.one_mul,Jac,Nat.add_assoc,Nat.reduceAdd,List.getD_cons_zero,List.getD_cons_succ,aU] at c0 c1 c3 c4;have UU:=bW c0;have Vj:=bW c1;have Ti:=bW c3;have TT:=bW c4;have ldq:∀w',Kept aF Lu.drew w'→w'.cell? ⟨b18,2,ε⟩=ζ (γ (ζ ⟨bb,off,ε⟩) 2 pc):=bW (lu.out.cell (i:=2) rfl)
       have Fl:∀w',Kept aF Lu.drew w'→w'.cell? ⟨b4,0,ε⟩=ζ (J x1):=bW (kS.out.cell (i:=0) rfl)
       have Ga:∀w',Kept aF Lu.drew w'→w'.cell? ⟨b4,1,ε⟩=ζ (J x2):=bW (kS.out.cell (i:=1) rfl)
       have BH:∀w',Kept aF Lu.drew w'→w'.cell? ⟨b11,0,ε⟩=ζ (J 8):=bW (jw.out.cell (i:=0) rfl)
       have Bj:∀w',Kept aF Lu.drew w'→w'.cell? ⟨b11,1,ε⟩=ζ (J 1048576):=bW (jw.out.cell (i:=1) rfl)
       have qa:∀X:ο,(binOp .eql 30 (φ #[J x1,J x2]) (φ #[J x1,J x2])).run η X=.ok (Β τ) X:=fun X=>by rw[eL];simp
       have qb:∀X:ο,(binOp .eql 30 (φ #[J 8,J 1048576]) (φ #[J 8,J 1048576])).run η X=.ok (Β τ) X:=fun X=>by rw[eL];simp
       have qc:∀X:ο,(binOp .eql 30 (φ #[J 8,J 1048576]) (φ #[J x1,J x2])).run η X=.ok (Β ρ) X:=fun X=>by rw[eL,decide_eq_false (fun q=>tW q.symm)]
       clear hc c0 c1 c3 c4 bD;refine aw (aF) (by kernel_rfl) ?_;refine ag 0 ?_;refine ag 1 ?_;refine ag 2 ?_;refine ag 3 ?_;refine ag 4 ?_;refine ag 5 ?_;refine ag 6 ?_;refine ag 7 ?_;refine bg 8 ?_;refine bg 9 ?_;refine bg 10 ?_;refine bg 11 ?_;refine bg 12 ?_;refine bg 13 ?_;refine bg 14 ?_;refine ag 15 ?_;refine ag 16 ?_;refine ag 17 ?_;refine ag 18 ?_;refine ag 19 ?_;refine ag 20 ?_;refine ag 21 ?_;refine ag 22 ?_;refine ag 23 ?_;refine ag 24 ?_;refine ag 25 ?_;refine ag 26 ?_;refine ag 27 ?_;refine ag 28 ?_;refine ag 29 ?_;refine ag 30 ?_;refine ag 31 ?_;refine ag 32 ?_;refine ag 33 ?_;refine ag 34 ?_;refine aD (by kernel_rfl) ?_ _;intro w8 cE;have cy:=qh ((Θ _ Lu).drew.trans cE);clear cE ldq UU Vj Ti TT Fl Ga BH Bj qa qb qc;clear lu;have ar:=cy.out;have oz:=qh (kS.out.bl ar);have oG:=qh (tP.out.bl ar);have hJ:=qh (jw.out.bl ar);have fy:=qh (pV.out.bl ar);have yg:=qh (CL.out.bl ar);have yd:=qh (DH.out.bl ar);have nU:=qh (uo.out.bl ar);have od:=qh (ym.out.bl ar);have F7:=qh (af OW.out ar);obtain⟨W19,O7⟩:=ay w8;rw[O7] at F7 oz oG hJ fy yg yd nU od ⊢;clear O7 ar cy OW kS tP jw pV CL DH uo ym;have j5:=fy.out.cell (i:=0) rfl;have jS:=fy.out.cell (i:=1) rfl
       have lO:=fy.out.cell (i:=2) rfl;have fI:=hJ.out.cell (i:=0) rfl;have fL:=hJ.out.cell (i:=1) rfl
       go_upto_region 15 with (first
        |(go_at_call 14
          refine(pO.out _ nU.out od.out).mono ?_
          rintro e w2 ⟨ar,hq⟩;have cy:=qh ar;obtain⟨-,A3,n3,c3,V3,B3,m3,k3,E3,C3,r3,rV,G3,rfl,zp,he⟩:=hq.resolve_right (fun q=>q.1 rfl);have PJ:=qh zp.dg;have Ql:=qh zp.gone;have sO:=qh he;clear ar hq zp he j5 jS lO fI fL))
       have ar:=cy.out;have FJ:=qh (aE (af F7.out ar) (δ #[γ A3 n3 c3,γ B3 m3 k3,γ C3 r3 rV] 28));have oC:=qh ((oz.out.bl ar).al (δ #[γ A3 n3 c3,γ B3 m3 k3,γ C3 r3 rV] 28));have kX:=qh ((oG.out.bl ar).al (δ #[γ A3 n3 c3,γ B3 m3 k3,γ C3 r3 rV] 28));have lQ:=qh ((hJ.out.bl ar).al (δ #[γ A3 n3 c3,γ B3 m3 k3,γ C3 r3 rV] 28));have lR:=qh ((fy.out.bl ar).al (δ #[γ A3 n3 c3,γ B3 m3 k3,γ C3 r3 rV] 28));have xc:=qh ((yg.out.bl ar).bl (ax _ (δ #[γ A3 n3 c3,γ B3 m3 k3,γ C3 r3 rV] 28)));have Dm:=qh ((yd.out.bl ar).bl (ax _ (δ #[γ A3 n3 c3,γ B3 m3 k3,γ C3 r3 rV] 28)));have sH:=qh ((nU.out.bl ar).bl (ax _ (δ #[γ A3 n3 c3,γ B3 m3 k3,γ C3 r3 rV] 28)));have rS:=qh ((od.out.bl ar).bl (ax _ (δ #[γ A3 n3 c3,γ B3 m3 k3,γ C3 r3 rV] 28)));have sq:=qh (PJ.out.bl (ax _ (δ #[γ A3 n3 c3,γ B3 m3 k3,γ C3 r3 rV] 28)));have yp:=qh (Ql.out.bl (ax _ (δ #[γ A3 n3 c3,γ B3 m3 k3,γ C3 r3 rV] 28)));have ig:=qh (Whole.new_ w2 28 [γ A3 n3 c3,γ B3 m3 k3,γ C3 r3 rV]);obtain⟨W20,cS⟩:=ay (w2.alloc (δ #[γ A3 n3 c3,γ B3 m3 k3,γ C3 r3 rV] 28));obtain⟨b21,dk⟩:=ay w2.heap.size;rw[cS] at FJ oC kX lQ lR xc Dm sH rS sq yp ig ⊢
       rw[dk] at ig ⊢;clear cS dk ar cy F7 oz oG hJ fy yg yd nU od PJ Ql;have FU:=ig.out.cell (i:=0) rfl;have Fu:=ig.out.cell (i:=1) rfl;have nD:=kX.out.cell (i:=0) rfl;have ny:=kX.out.cell (i:=1) rfl
       go_upto_region 16 with (first
        |(go_at_call 36
          refine(HSd.out _ _ _ _ _ _ _ _ _ sO.out _ sq.out xc.out).mono ?_
          rintro e w2 ⟨rfl,ar⟩;have cy:=qh ar;clear ar FU Fu nD ny))
       clear ig kX sq yp xc Dm;have ar:=cy.out;have il:=qh (oC.out.bl ar);have ia:=qh (lQ.out.bl ar);have gU:=qh (lR.out.bl ar);have mf:=qh (sH.out.bl ar);have lP:=qh (rS.out.bl ar);have xP:=qh (af FJ.out ar);obtain⟨qp,M3⟩:=ay w2;rw[M3] at xP il ia gU mf lP ⊢;clear M3 ar cy FJ oC lQ lR sH rS;go_upto_region 17 with fail
       have Om:=qh (Whole.new_ qp 30 [J 8,J 1]);have PU:=qh (il.out.al (δ #[J 8,J 1] 30));have Zx:=Om.out.cell (i:=0) rfl;have WI:=Om.out.cell (i:=1) rfl;have XN:=PU.out.cell (i:=0) rfl;have Yy:=PU.out.cell (i:=1) rfl
       by_cases hz:((x1,x2):Nm)=(8,1)
       ·have qz:∀X:ο,(binOp .eql 30 (φ #[J x1,J x2]) (φ #[J 8,J 1])).run η X=.ok (Β τ) X:=fun X=>by rw[eL,decide_eq_true hz]
        have fr1:=Om.out.free 1;go_upto_region 19 with fail
        have cy:Hid (σ qp.heap.size qp (qp.alloc (δ #[J 8,J 2] 30))):=qh (ax qp (δ #[J 8,J 2] 30));have rT:Hid (Whole (qp.alloc (δ #[J 8,J 2] 30)) qp.heap.size 30 [J 8,J 2]):=qh (Whole.new_ _ _ _);obtain⟨w2,Hf⟩:=ay ((qp.alloc (δ #[J 8,J 2] 30)));rw[Hf] at cy rT ⊢;obtain⟨b24,yq⟩:=ay qp.heap.size;rw[yq] at rT ⊢;clear Hf yq Om PU Zx WI XN Yy qz fr1;have ar:=cy.out;have fF:=qh (il.out.bl ar);have cW:=qh (ia.out.bl ar);have cn:=qh (gU.out.bl ar);have fN:=qh (mf.out.bl ar);have fK:=qh (lP.out.bl ar);have rX:=qh (af xP.out ar);obtain⟨W22,xE⟩:=ay w2;rw[xE] at rT rX fF cW cn fN fK ⊢;clear xE ar cy xP il ia gU mf lP;have kd:¬((8,2):Nm)=(x1,x2):=fun q=>by rw[hz] at q;exact absurd q (by decide)
        have HT:Hid (∀X,aR X A2 n2 c2 V2 B2 m2 k2 E2→aX X X.heap.size 6 C2 r2 oI (aj cB G2)→Ζ η 14 #[φ #[γ A2 n2 c2,γ B2 m2 k2,γ C2 r2 oI],φ (aa (yB (8,1048576) (8,2))).toArray] X (pG X (cp,14))):=qh (fun X hX hG=>by
         have h1:=om hX hG fW.out (yB (8,1048576) (8,2)) (tc _ _);rw[show jJ (V2.map vS,E2,G2) (yB (8,1048576) (8,2))=(cp,14) from(by rw[pQ.out];exact(tv _ rfl rfl).trans (qJ tW KY.out (by decide) kd))] at h1;exact h1)
        have j5:=cn.out.cell (i:=0) rfl;have jS:=cn.out.cell (i:=1) rfl;have lO:=cn.out.cell (i:=2) rfl;have fI:=cW.out.cell (i:=0) rfl;have fL:=cW.out.cell (i:=1) rfl;have sv:=rT.out.cell (i:=0) rfl;have sD:=rT.out.cell (i:=1) rfl
        go_upto_region 20 with (first
         |(go_at_call 14
           refine(HT.out _ fN.out fK.out).mono ?_
           rintro e w2 ⟨ar,hq⟩;have cy:=qh ar;obtain⟨-,rfl⟩:=hq.resolve_left (fun q=>absurd q.1 (by decide));clear ar hq j5 jS lO fI fL sv sD))
        have ar:=cy.out;have xg:=qh (aE (af rX.out ar) (δ #[γ ε 0 0,γ ε 0 0,γ ε 0 0] 28));have ou:=qh ((fF.out.bl ar).al (δ #[γ ε 0 0,γ ε 0 0,γ ε 0 0] 28));have lz:=qh ((cW.out.bl ar).al (δ #[γ ε 0 0,γ ε 0 0,γ ε 0 0] 28));have lp:=qh ((cn.out.bl ar).al (δ #[γ ε 0 0,γ ε 0 0,γ ε 0 0] 28));have ll:=qh ((rT.out.bl ar).al (δ #[γ ε 0 0,γ ε 0 0,γ ε 0 0] 28));have rJ:=qh ((fN.out.bl ar).bl (ax _ (δ #[γ ε 0 0,γ ε 0 0,γ ε 0 0] 28)));have rR:=qh ((fK.out.bl ar).bl (ax _ (δ #[γ ε 0 0,γ ε 0 0,γ ε 0 0] 28)));have hY:=qh (Whole.new_ w2 28 [γ ε 0 0,γ ε 0 0,γ ε 0 0]);obtain⟨W23,cS⟩:=ay (w2.alloc (δ #[γ ε 0 0,γ ε 0 0,γ ε 0 0] 28));obtain⟨b25,dk⟩:=ay w2.heap.size;rw[cS] at xg ou lz lp ll rJ rR hY ⊢;rw[dk] at hY ⊢;clear cS dk ar cy rX fF cW cn rT fN fK;go_wp2;go_ret;exact⟨rfl,xg.out⟩
       ·have qz:∀X:ο,(binOp .eql 30 (φ #[J x1,J x2]) (φ #[J 8,J 1])).run η X=.ok (Β ρ) X:=fun X=>by rw[eL,decide_eq_false hz]
        go_upto_region 19 with fail
        have cy:Hid (σ qp.heap.size qp (qp.alloc (δ #[J 8,J 1] 30))):=qh (ax qp (δ #[J 8,J 1] 30));have rT:Hid (Whole (qp.alloc (δ #[J 8,J 1] 30)) qp.heap.size 30 [J 8,J 1]):=qh (Whole.new_ _ _ _);obtain⟨w2,Hf⟩:=ay ((qp.alloc (δ #[J 8,J 1] 30)));rw[Hf] at cy rT ⊢;obtain⟨b24,yq⟩:=ay qp.heap.size;rw[yq] at rT ⊢;clear Hf yq Om PU Zx WI XN Yy qz;have ar:=cy.out;have fF:=qh (il.out.bl ar);have cW:=qh (ia.out.bl ar);have cn:=qh (gU.out.bl ar);have fN:=qh (mf.out.bl ar);have fK:=qh (lP.out.bl ar);have rX:=qh (af xP.out ar);obtain⟨W22,xE⟩:=ay w2;rw[xE] at rT rX fF cW cn fN fK ⊢;clear xE ar cy xP il ia gU mf lP;have jL:¬((8,1):Nm)=(x1,x2):=fun q=>hz q.symm
        have HT:Hid (∀X,aR X A2 n2 c2 V2 B2 m2 k2 E2→aX X X.heap.size 6 C2 r2 oI (aj cB G2)→Ζ η 14 #[φ #[γ A2 n2 c2,γ B2 m2 k2,γ C2 r2 oI],φ (aa (yB (8,1048576) (8,1))).toArray] X (pG X (cp,14))):=qh (fun X hX hG=>by
         have h1:=om hX hG fW.out (yB (8,1048576) (8,1)) (tc _ _);rw[show jJ (V2.map vS,E2,G2) (yB (8,1048576) (8,1))=(cp,14) from(by rw[pQ.out];exact(tv _ rfl rfl).trans (qJ tW KY.out (by decide) jL))] at h1;exact h1)
        have j5:=cn.out.cell (i:=0) rfl;have jS:=cn.out.cell (i:=1) rfl;have lO:=cn.out.cell (i:=2) rfl;have fI:=cW.out.cell (i:=0) rfl;have fL:=cW.out.cell (i:=1) rfl;have sv:=rT.out.cell (i:=0) rfl;have sD:=rT.out.cell (i:=1) rfl
        go_upto_region 20 with (first
         |(go_at_call 14
           refine(HT.out _ fN.out fK.out).mono ?_
           rintro e w2 ⟨ar,hq⟩;have cy:=qh ar;obtain⟨-,rfl⟩:=hq.resolve_left (fun q=>absurd q.1 (by decide));clear ar hq j5 jS lO fI fL sv sD))
        have ar:=cy.out;have xg:=qh (aE (af rX.out ar) (δ #[γ ε 0 0,γ ε 0 0,γ ε 0 0] 28));have ou:=qh ((fF.out.bl ar).al (δ #[γ ε 0 0,γ ε 0 0,γ ε 0 0] 28));have lz:=qh ((cW.out.bl ar).al (δ #[γ ε 0 0,γ ε 0 0,γ ε 0 0] 28));have lp:=qh ((cn.out.bl ar).al (δ #[γ ε 0 0,γ ε 0 0,γ ε 0 0] 28));have ll:=qh ((rT.out.bl ar).al (δ #[γ ε 0 0,γ ε 0 0,γ ε 0 0] 28));have rJ:=qh ((fN.out.bl ar).bl (ax _ (δ #[γ ε 0 0,γ ε 0 0,γ ε 0 0] 28)));have rR:=qh ((fK.out.bl ar).bl (ax _ (δ #[γ ε 0 0,γ ε 0 0,γ ε 0 0] 28)));have hY:=qh (Whole.new_ w2 28 [γ ε 0 0,γ ε 0 0,γ ε 0 0]);obtain⟨W23,cS⟩:=ay (w2.alloc (δ #[γ ε 0 0,γ ε 0 0,γ ε 0 0] 28));obtain⟨b25,dk⟩:=ay w2.heap.size;rw[cS] at xg ou lz lp ll rJ rR hY ⊢;rw[dk] at hY ⊢;clear cS dk ar cy rX fF cW cn rT fN fK;go_wp2;go_ret;exact⟨rfl,xg.out⟩
def PO (p:Int × Int):List ψ:=[J p.1,J p.2]
theorem nO (H:Type):Row1 H η 30 PO (fun _ _=>True):=
 (kg Tryz.underlying30 (by kernel_rfl) (cK (k:=1) (p5 Tryz.underlying3) rfl (by kernel_rfl) (cK (k:=1) (p5 Tryz.underlying3) rfl (by kernel_rfl) (lD _)))).map
   (fun a=>(a.1,a.2.1)) (fun _=>rfl) (fun _ _ _=>trivial)
def UL (d:Int × Int × Int):List ψ:=[J d.1,J d.2.1,J d.2.2]
theorem FI (H:Type):Row1 H η 32 UL (fun _ _=>True):=
 (kg Tryz.underlying32 (by kernel_rfl) (cK (k:=2) (nO H) rfl (by kernel_rfl) (cK (k:=1) (p5 Tryz.underlying3) rfl (by kernel_rfl) (lD _)))).map
   (fun a=>(a.1.1,a.1.2,a.2.1)) (fun _=>rfl) (fun _ _ _=>trivial)
def Ro (d:Int × Int × Int × Int × Int):List ψ:=[J d.1,J d.2.1,J d.2.2.1,J d.2.2.2.1,J d.2.2.2.2]
theorem uV (H:Type):Row1 H η 34 Ro (fun _ _=>True):=
 (kg Tryz.underlying34 (by kernel_rfl) (cK (k:=2) (nO H) rfl (by kernel_rfl) (cK (k:=3) (FI H) rfl (by kernel_rfl) (lD _)))).map
   (fun a=>(a.1.1,a.1.2,a.2.1.1,a.2.1.2.1,a.2.1.2.2)) (fun _=>rfl) (fun _ _ _=>trivial)
theorem QQ (H:Type):Row1 H η 36 aa (fun _ o=>o.t.size≤maxLen):=
 (kg Tryz.underlying36 (by kernel_rfl) (cK (k:=1) (p5 Tryz.underlying3) rfl (by kernel_rfl) (cK (k:=2) (nO H) rfl (by kernel_rfl) (cK (k:=2) (nO H) rfl (by kernel_rfl) (cK (k:=2) (nO H) rfl (by kernel_rfl)
   (cK (k:=5) (uV H) rfl (by kernel_rfl) (cK (k:=5) (uV H) rfl (by kernel_rfl) (cK (k:=1) (Kx Tryz.underlying4) rfl (by kernel_rfl) (cK (k:=1) (Dg Tryz.underlying9) rfl (by kernel_rfl)
   (cK (k:=1) (p5 Tryz.underlying3) rfl (by kernel_rfl) (lD _))))))))))).map
   (fun a=>⟨a.1,a.2.1.1,a.2.1.2,a.2.2.1.1,a.2.2.1.2,a.2.2.2.1.1,a.2.2.2.1.2,a.2.2.2.2.1.1,a.2.2.2.2.1.2.1,a.2.2.2.2.1.2.2.1,a.2.2.2.2.1.2.2.2.1,a.2.2.2.2.1.2.2.2.2,
     a.2.2.2.2.2.1.1,a.2.2.2.2.2.1.2.1,a.2.2.2.2.2.1.2.2.1,a.2.2.2.2.2.1.2.2.2.1,a.2.2.2.2.2.1.2.2.2.2,a.2.2.2.2.2.2.1,a.2.2.2.2.2.2.2.1,a.2.2.2.2.2.2.2.2.1⟩) (fun _=>rfl) (fun _ _ h=>h.2.2.2.2.2.2.2.1)
theorem JU (H:Type):Row1 H η 49 (Bz (α:=cZ)) (UY 20 aa (fun _ o=>o.t.size≤maxLen)):=
 (kg Tryz.underlying49 (by kernel_rfl) (cK (k:=1) (xV (QQ H) Tryz.underlying47 (by kernel_rfl) dt (by decide)) rfl (by kernel_rfl) (lD _))).map
   (fun a=>a.1) (fun _=>by simp) (fun _ _ h=>h.1)
section
open Go.ChangeShapes Go.WideShapes Go.ChangeAt Go.RowKit
namespace lawEditSplits
theorem contract (H:Type) (enc:TypeId × ψ→H) (W:ο) (base:Nat) (args:Array ψ) (ds gs:List (DataW H)) (before:List MemPlace)
 (JM:∀(j:Nat) t v,Tryz.f8.params[j]? =ζ t→args[j]? =ζ v→Value.okWide η W .any base t v)
 (hW:DataW.Whole enc η Tryz.f8.params.toList Rows.editSplitsSpec.vars ρ W args.toList ds gs before):
 Ζ η 8 args W fun e W'=>∃v,e=.returned v∧Rows.editSplitsSpec.post enc η Tryz.f8 ρ τ ρ ρ W args v W':=by
 have hW':=hW;obtain⟨p,q,hA,hV,rfl,hfz,hnd⟩:=hW;obtain⟨rfl,rfl⟩:=trodVars_none hV;rw[Tryz.params8] at hA JM;obtain⟨v0,v1,v2,d0,d1,d2,p0,p1,p2,rfl,rfl,rfl,h0,h1,h2⟩:=trodAll_three hA;obtain⟨l,rfl,kM⟩:=vI (JU H) Tryz.underlying44 (by kernel_rfl) (fun _=>rfl) (by decide) (JM 0 44 v0 rfl rfl) h0;obtain⟨x,rfl,lj⟩:=uv (nO H) Tryz.underlying30 (JM 1 30 v1 rfl rfl) h1;obtain⟨n,rfl,-⟩:=open_int Tryz.underlying3 (JM 2 3 v2 rfl rfl) h2
 refine(Fw l.1 l.2.1 l.2.2.1 l.2.2.2 x.1 x.2 n W ⟨kM.2.1,Λ kM.2.1.le kM.1,fun e q=>⟨(kM.2.2 e q).2.1,Λ (kM.2.2 e q).2.1.le (kM.2.2 e q).1,(kM.2.2 e q).2.2⟩⟩).mono fun e W' ⟨he,hb⟩=>⟨_,he,?_⟩
 exact Mj Tryz.laidOut (by kernel_rfl) (tb:=4) (by kernel_rfl) Tryz.underlying4 rfl ⟨rfl,rfl,rfl⟩ hW' hb
theorem lifted (os:Os) (started:os.Started) (H:Type) (enc:TypeId × ψ→H):
 ReturnsInHanded {} Tryz.checked os 8 .any (Rows.editSplitsSpec.pre6 enc η Tryz.f8 Rows.editSplitsRow.domain ρ) (Rows.editSplitsSpec.post enc η Tryz.f8 ρ τ ρ ρ):=by
 refine returnsInHanded_of_change (C:=Tryz.checked) Tryz.own started (by kernel_rfl) Tryz.func8
  (ChangeSpec.witness6 (enc:=enc) (C:=Tryz.checked) ρ ⟨#[],#[γ ε 0 0,φ #[J 0,J 0],J 0],[]⟩ 8 (by kernel_rfl) (by kernel_rfl) (by kernel_rfl) (by kernel_rfl)) ?_
 intro W base args ds gs before JM hW _ _;exact contract H enc W base args ds gs before JM hW
theorem proved:Rows.EditSplitsSaid:=
 OpenClaim.holds_of_wide 8 Tryz.f8 rfl rfl rfl rfl rfl rfl rfl ⟨rfl,rfl,rfl,rfl,rfl⟩ rfl rfl rfl rfl rfl (by kernel_rfl) Tryz.func8 (by kernel_rfl)
  (of_decide_eq_true (by kernel_rfl)) (by unfold Func.isWrapper;first|(rw[if_pos (by decide+kernel)];kernel_rfl)|(rw[if_neg (by decide+kernel)];exact⟨rfl,rfl⟩))
  (fun os started H enc _=>lifted os started H enc)
end lawEditSplits
end
end Go.Proofs.YtpdpbfmiahjiiaaGreat
