/- Several texts in one. -/
import Derived.Test.YtpdpbfmiahjiiaaGreatPsAB
import Derived.Test.YtpdpbfmiahjiiaaGreatPsAP
import Derived.Test.YtpdpbfmiahjiiaaGreatPsAR
import Derived.Test.YtpdpbfmiahjiiaaGreatPsAS
import Derived.Test.YtpdpbfmiahjiiaaGreatPsAW
import Derived.Test.YtpdpbfmiahjiiaaGreatPsBD
set_option linter.unusedSectionVars false
set_option linter.unusedSimpArgs false
set_option linter.unusedVariables false
set_option maxRecDepth 100000
set_option maxHeartbeats 16000000
namespace Go.Proofs.YtpdpbfmiahjiiaaGreat
open Go.RowKit
open _root_.Go.Value renaming slice→γ,agg→φ,bool→Β
open _root_.Go.Obj renaming cells→δ
open _root_.Option renaming none→ε,some→ζ
open _root_.Go.Proofs.Tryz renaming prog→η
open _root_.List renaming getElem?_eq_getElem→θ,mem_map→Α,take_of_length_le→Ι,length_map→Ρ,map_congr_left→JaV,map_map→JaW,take_add_one→Jbc
open _root_.Go.Act renaming put→ξ
open _root_.Go renaming World→ο,Calls→Ζ,Addr→Κ,maxLen→Jap
open _root_.Bool renaming false→ρ,true→τ
open _root_.Go.RowKit renaming Below→σ
open _root_.Go.RowKit.Below renaming refl→Θ
open _root_.Option.some renaming inj→Μ
open _root_.ByteArray renaming empty→Jaf
open _root_.Nat renaming zero_le→Jas
def GivesS (W:ο) (R:SS) (e:Ending) (w':ο):Prop:=
 ∃A n c B m k C r rc Ws,e=.returned (φ #[γ A n c,γ B m k,γ C r rc])∧bz w' A n c Ws B m k R.2.1∧Ws.map vS=R.1∧bg w' w'.heap.size 6 C r rc (ah cZ R.2.2)∧σ W.heap.size W w'
theorem rtry_any {W:ο} {A:Option Κ} {n c:Nat} {Vs:List VC} {B:Option Κ} {m k:Nat} {Es:List EC} {C:Option Κ} {r rc:Nat} {G:List Gn} (h:bz W A n c Vs B m k Es) (hg:bg W W.heap.size 6 C r rc (ah cZ G)) (hS:gD (Vs.map vS,Es,G)) (PA:Option Κ) (pn pc:Nat) (L:List dR) (hL:bg W W.heap.size 20 PA pn pc (ah ak L)) (ti:pn≤Jap) (ht:∀o∈L,o.t.size≤Jap):
 Ζ η 22 #[φ #[γ A n c,γ B m k,γ C r rc],φ #[γ PA pn pc]] W (GivesS W (tw (Vs.map vS,Es,G) L)):=by
 have HP:Hid (∀X,σ W.heap.size W X→Ζ η 20 #[φ #[γ A n c,γ B m k,γ C r rc],φ #[γ PA pn pc]] X (GivesSt X (la (Vs.map vS,Es,G) L))):=qh (fun X hX=>rapply_any (h.below hX) (hg.bl hX) hS PA pn pc L (hL.bl hX) ti ht);have HO:=qh h;have HGo:=qh hg;have HR:Hid (tw (Vs.map vS,Es,G) L=if (la (Vs.map vS,Es,G) L).2=0 then(la (Vs.map vS,Es,G) L).1 else(Vs.map vS,Es,G)):=qh rfl;obtain⟨T,gT⟩:=aB (tw (Vs.map vS,Es,G) L);obtain⟨⟨R1,x⟩,gR⟩:∃z,la (Vs.map vS,Es,G) L=z:=⟨_,rfl⟩
 rw[gR] at HP HR;rw[gT] at HR ⊢;clear gT gR h hg hS hL ti ht;go_enter Tryz.func22,Tryz.ntmps22;go_upto_region 1 with fail
 obtain⟨W0,b0,b1,b2,bO,bp,dE,jc,aQ,aL,aZ,bw,-,-,oa,-,iP,-,eI,uW,RA,tU⟩:=Bs W 28 [γ A n c,γ B m k,γ C r rc] 49 [γ PA pn pc] 28 [γ ε 0 0,γ ε 0 0,γ ε 0 0];rw[bO,jc,dE,bp];clear bO bp dE jc;have fb0_0:=aQ.out.cell (i:=0) rfl;have fb0_1:=aQ.out.cell (i:=1) rfl;have fb0_2:=aQ.out.cell (i:=2) rfl;have fb1_0:=aL.out.cell (i:=0) rfl
 go_upto_region 2 with (first
  |(go_at_call 20
    refine(HP.out _ bw.out).mono ?_
    rintro e w2 ⟨A9,n9,c9,B9,m9,k9,C9,r9,rF,Ws9,rfl,hd,hm,Tt,aP⟩;have Zk:=qh aP;have HD:=qh hd;have HM:=qh hm;have HG:=qh Tt;clear aP hd hm Tt fb0_0 fb0_1 fb0_2 fb1_0))
 have aP:=Zk.out;have Og:=qh (aI (ag bw.out aP) (δ #[γ A9 n9 c9,γ B9 m9 k9,γ C9 r9 rF] 28));have HXb0_11:=qh ((aQ.out.bl aP).al (δ #[γ A9 n9 c9,γ B9 m9 k9,γ C9 r9 rF] 28));have HXb1_11:=qh ((aL.out.bl aP).al (δ #[γ A9 n9 c9,γ B9 m9 k9,γ C9 r9 rF] 28));have HXb2_11:=qh ((aZ.out.bl aP).al (δ #[γ A9 n9 c9,γ B9 m9 k9,γ C9 r9 rF] 28));have HD_11:=qh (HD.out.bl (az _ (δ #[γ A9 n9 c9,γ B9 m9 k9,γ C9 r9 rF] 28)));have HG_11:=qh (HG.out.bl (az _ (δ #[γ A9 n9 c9,γ B9 m9 k9,γ C9 r9 rF] 28)));have HXb3_11:=qh (Whole.new_ w2 28 [γ A9 n9 c9,γ B9 m9 k9,γ C9 r9 rF]);have Lb3:Hid (W.heap.size≤w2.heap.size):=qh (ag bw.out aP).size;have Nb0b3:Hid (b0≠w2.heap.size):=qh (by have:=(aQ.out.bl aP).lt;omega);have Nb1b3:Hid (b1≠w2.heap.size):=qh (by have:=(aL.out.bl aP).lt;omega);have Nb2b3:Hid (b2≠w2.heap.size):=qh (by have:=(aZ.out.bl aP).lt;omega);obtain⟨W11,gWn⟩:=aB (w2.alloc (δ #[γ A9 n9 c9,γ B9 m9 k9,γ C9 r9 rF] 28));obtain⟨b3,gbn⟩:=aB w2.heap.size;rw[gWn] at Og HXb0_11 HXb1_11 HXb2_11 HD_11 HG_11 HXb3_11 ⊢;rw[gbn] at HXb3_11 Lb3 Nb0b3 Nb1b3 Nb2b3 ⊢;clear gWn gbn bw aQ aL aZ HD HG aP Zk;clear HP
 by_cases hx:x=0
 ·obtain rfl:=(HR.out.trans (if_pos hx)).symm;subst hx;have z0:=HXb2_11.out.cell (i:=0) rfl;have y0:=HXb2_11.out.free 0;have z1:=HXb2_11.out.cell (i:=1) rfl;have y1:=HXb2_11.out.free 1;have z2:=HXb2_11.out.cell (i:=2) rfl;have y2:=HXb2_11.out.free 2;have v0:=HXb3_11.out.cell (i:=0) rfl;have w0:=HXb0_11.out.cell (i:=0) rfl;have v1:=HXb3_11.out.cell (i:=1) rfl;have w1:=HXb0_11.out.cell (i:=1) rfl;have v2:=HXb3_11.out.cell (i:=2) rfl;have w2:=HXb0_11.out.cell (i:=2) rfl;go_wp2;have s0:=HXb2_11.out;have k0:=sl3_not (a:=γ ε 0 0) (b:=γ ε 0 0) (d:=γ ε 0 0) (fun i=>by simp) (fun i=>by simp) (fun i=>by simp);have k1_:=sl3_not (a:=γ A9 n9 c9) (b:=γ ε 0 0) (d:=γ ε 0 0) (fun i=>by simp) (fun i=>by simp) (fun i=>by simp);have k2_:=sl3_not (a:=γ A9 n9 c9) (b:=γ B9 m9 k9) (d:=γ ε 0 0) (fun i=>by simp) (fun i=>by simp) (fun i=>by simp);have s1:=s0.set_ 0 (γ A9 n9 c9);have s2:=s1.set_ 1 (γ B9 m9 k9);exact dO rfl b2 rfl (s2.set_ 2 (γ C9 r9 rF)) Tryz.underlying28 rfl (by kernel_rfl) rfl ⟨A9,n9,c9,B9,m9,k9,C9,r9,rF,Ws9,rfl,dg_set (dg_set (dg_set HD_11.out s0 k0 0 _) s1 k1_ 1 _) s2 k2_ 2 _,HM.out,gn_set (gn_set (gn_set HG_11.out s0 k0 0 _) s1 k1_ 1 _) s2 k2_ 2 _,((Og.out.setCell (p:=⟨b2,0,ε⟩) eI.out (γ A9 n9 c9)).setCell (p:=⟨b2,1,ε⟩) eI.out (γ B9 m9 k9)).setCell (p:=⟨b2,2,ε⟩) eI.out (γ C9 r9 rF)⟩
 ·obtain rfl:=(HR.out.trans (if_neg hx)).symm;have z0:=HXb2_11.out.cell (i:=0) rfl;have y0:=HXb2_11.out.free 0;have z1:=HXb2_11.out.cell (i:=1) rfl;have y1:=HXb2_11.out.free 1;have z2:=HXb2_11.out.cell (i:=2) rfl;have y2:=HXb2_11.out.free 2;have v0:=HXb3_11.out.cell (i:=0) rfl;have w0:=HXb0_11.out.cell (i:=0) rfl;have v1:=HXb3_11.out.cell (i:=1) rfl;have w1:=HXb0_11.out.cell (i:=1) rfl;have v2:=HXb3_11.out.cell (i:=2) rfl;have w2:=HXb0_11.out.cell (i:=2) rfl;have HDo:=qh (HO.out.below Og.out);have HGz:=qh (HGo.out.bl Og.out);go_wp2;have s0:=HXb2_11.out;have k0:=sl3_not (a:=γ ε 0 0) (b:=γ ε 0 0) (d:=γ ε 0 0) (fun i=>by simp) (fun i=>by simp) (fun i=>by simp);have k1_:=sl3_not (a:=γ A n c) (b:=γ ε 0 0) (d:=γ ε 0 0) (fun i=>by simp) (fun i=>by simp) (fun i=>by simp);have k2_:=sl3_not (a:=γ A n c) (b:=γ B m k) (d:=γ ε 0 0) (fun i=>by simp) (fun i=>by simp) (fun i=>by simp);have s1:=s0.set_ 0 (γ A n c);have s2:=s1.set_ 1 (γ B m k);exact dO rfl b2 rfl (s2.set_ 2 (γ C r rc)) Tryz.underlying28 rfl (by kernel_rfl) rfl ⟨A,n,c,B,m,k,C,r,rc,Vs,rfl,dg_set (dg_set (dg_set HDo.out s0 k0 0 _) s1 k1_ 1 _) s2 k2_ 2 _,rfl,gn_set (gn_set (gn_set HGz.out s0 k0 0 _) s1 k1_ 1 _) s2 k2_ 2 _,((Og.out.setCell (p:=⟨b2,0,ε⟩) eI.out (γ A n c)).setCell (p:=⟨b2,1,ε⟩) eI.out (γ B m k)).setCell (p:=⟨b2,2,ε⟩) eI.out (γ C r rc)⟩
theorem MZ (x y:Gn) (W:ο):(binOp .neq 98 (φ (cZ x).toArray) (φ (cZ y).toArray)).run η W=.ok (Β (!decide (x=y))) W:=by
 obtain⟨⟨a1,a2,a3⟩,a4,a5,a6⟩:=x;obtain⟨⟨b1,b2,b3⟩,b4,b5,b6⟩:=y
 by_cases h1:a1=b1
 ·by_cases h2:a2=b2
  ·by_cases h3:a3=b3
   ·by_cases h4:a4=b4
    ·by_cases h5:a5=b5
     ·by_cases h6:a6=b6
      ·simp[go_sem,cZ,h1,h2,h3,h4,h5,h6]
      ·simp[go_sem,cZ,h1,h2,h3,h4,h5,h6]
     ·simp[go_sem,cZ,h1,h2,h3,h4,h5]
    ·simp[go_sem,cZ,h1,h2,h3,h4]
   ·simp[go_sem,cZ,h1,h2,h3]
  ·simp[go_sem,cZ,h1,h2]
 ·simp[go_sem,cZ,h1]
theorem F0 (A:Option Κ) (n c:Nat) (G:List Gn) (B:Option Κ) (m k:Nat) (H:List Gn) (W:ο) (h:bg W W.heap.size 6 A n c (ah cZ G)) (h':bg W W.heap.size 6 B m k (ah cZ H)) (hn:n≤1000000):
 Ζ η 53 #[γ A n c,γ B m k] W fun e w'=>e=.returned (Β (decide (G=H)))∧σ W.heap.size W w':=by
 have hl:G.length=n:=h.rlen bT (by decide);have Pw:H.length=m:=h'.rlen bT (by decide);obtain⟨b,gb⟩:=aB (decide (G=H));rw[gb];have Gi:=qh gb;have bw:Hid (σ W.heap.size W W):=qh (Θ _ _)
 by_cases Fu:n=m
 case neg=>
  have hF:b=ρ:=by
   rw[←gb];exact decide_eq_false (fun e=>Fu (by rw[←hl,←Pw,e]))
  have q:((n:Int) !=(m:Int))=τ:=by simp;omega
  have q':((n:Int)==(m:Int))=ρ:=by simp;omega
  clear h h' hl Pw gb Fu;go_enter Tryz.func53,Tryz.ntmps53;go_wp2;go_ret;exact⟨by rw[hF];rfl,bw.out⟩
 subst Fu;have HG:=qh h;have HH:=qh h';have HL:=qh hl;have HL':=qh Pw;have MF:Hid (G.take 0=H.take 0):=qh rfl;clear h h' hl Pw gb;go_enter Tryz.func53,Tryz.ntmps53;go_wp2;go_loopw [5] (fun vi wr=>∃j:Nat,j≤n∧vi=J (j:Int)∧Hid (σ W.heap.size W wr)∧Hid (G.take j=H.take j)) (fun vi _=>n - (intOf vi).toNat)
 case atStart=>exact⟨0,Jas _,rfl,bw,MF⟩
 case round=>
  clear bw MF;obtain⟨j,hj,rfl,nf,HI⟩:=hrel
  by_cases nT:j<n
  ·have KH:(j:Int)<(n:Int):=by omega
   obtain⟨x,hx⟩:∃x,G[j]? =ζ x:=⟨_,θ (by have:=HL.out;omega)⟩
   obtain⟨y,hy⟩:∃y,H[j]? =ζ y:=⟨_,θ (by have:=HL'.out;omega)⟩
   obtain⟨b1,o1,rfl,Yt,abb⟩:=HG.out.place bT (by decide) (by omega);obtain⟨b2,o2,rfl,ZI,aaC⟩:=HH.out.place bT (by decide) (by omega);have OE:Hid (∀w',Kept aO wr.drew w'→∀i u,(cZ x)[i]? =ζ u→w'.cell? ((⟨b1,o1+j*6,ε⟩:Κ).add i)=ζ u):=qh (fun w' hk i u hu=>hk.nil_cell ((nf.out.cell (by rw[en];exact Yt)).trans (abb j _ hx i u hu)));have ZP:Hid (∀w',Kept aO wr.drew w'→∀i u,(cZ y)[i]? =ζ u→w'.cell? ((⟨b2,o2+j*6,ε⟩:Κ).add i)=ζ u):=qh (fun w' hk i u hu=>hk.nil_cell ((nf.out.cell (by rw[en];exact ZI)).trans (aaC j _ hy i u hu)));have hq:=MZ x y;obtain⟨e,ge⟩:=aB (decide (x=y));rw[ge] at hq;have HXY:=qh ge;have HX:=qh hx;have HY:=qh hy;clear hx hy abb aaC Yt ZI ge;go_upto_region 6 with fail
   refine ay (aO) (by kernel_rfl) ?_;refine aa 0 ?_;refine aa 1 ?_;refine aa 2 ?_;refine cV 3 (hy:=nS (by rfl) 98 (.tmp 19) rfl ⟨b1,o1+j*6,ε⟩ rfl (cZ x) _ OE.out Tryz.underlying98 rfl (by kernel_rfl)) (h:=?_);refine aa 4 ?_;refine aa 5 ?_;refine aa 6 ?_;refine cV 7 (hy:=nS (by rfl) 98 (.tmp 23) rfl ⟨b2,o2+j*6,ε⟩ rfl (cZ y) _ ZP.out Tryz.underlying98 rfl (by kernel_rfl)) (h:=?_);refine cV 8 (hy:=dD (by rfl) (fun w' aC=>dU .neq 98 (.tmp 20) (.tmp 24) 98 rfl rfl rfl (by kernel_rfl) (hq w'))) (h:=?_);refine aF (by kernel_rfl) ?_ _;intro w8 cg;have nV:=qh (ag (aN nf.out) cg);clear cg nf OE ZP hq;cases e with
   |false=>
    have hF:b=ρ:=by
     rw[←Gi.out];refine decide_eq_false (fun e=>of_decide_eq_false HXY.out ?_);have h1:=HX.out;rw[e,HY.out] at h1;exact(Μ h1).symm
    have HF:=qh hF;clear hF;go_wp2;go_ret;have hF:=HF.out;exact⟨by rw[hF];rfl,nV.out⟩
   |true=>
    have HI8:Hid (G.take (j+1)=H.take (j+1)):=qh (by rw[Jbc,Jbc,HI.out,HX.out,HY.out,of_decide_eq_true HXY.out]);clear HI;go_wp2;go_roundw
    case rel=>exact⟨j+1,by omega,by go_num,nV,HI8⟩
    case measure=>simp[intOf];omega
  ·obtain rfl:n=j:=by omega
   have hF:b=τ:=by
    rw[←Gi.out]
    have:=HI.out
    rw[Ι (by have:=HL.out;omega),Ι (by have:=HL'.out;omega)] at this;exact decide_eq_true this
   have HF:=qh hF;clear hF;go_wp2;go_ret;have hF:=HF.out;exact⟨by rw[hF];rfl,nf.out⟩
theorem Ca {A B C A' B' C':Option Κ} {n c m k r rc n' c' m' k' r' iv:Nat} {Vs Ws:List VC} {Es Fs:List EC} {G H:List Gn} (W:ο) (h:bz W A n c Vs B m k Es) (hg:bg W W.heap.size 6 C r rc (ah cZ G)) (h':bz W A' n' c' Ws B' m' k' Fs) (UD:bg W W.heap.size 6 C' r' iv (ah cZ H)) (hn:n≤1000000) (hm:m≤1000000) (hr:r≤1000000):
 Ζ η 16 #[φ #[γ A n c,γ B m k,γ C r rc],φ #[γ A' n' c',γ B' m' k',γ C' r' iv]] W fun e w'=>e=.returned (Β (decide (Vs.map vS=Ws.map vS∧Es=Fs∧G=H)))∧σ W.heap.size W w':=by
 have hq:decide (Vs.map vS=Ws.map vS∧Es=Fs∧G=H)=(decide (Vs.map vS=Ws.map vS∧Es=Fs) && decide (G=H)):=by
  rw[←Bool.decide_and,decide_eq_decide,and_assoc]
 rw[hq];have HD:Hid (∀X,σ W.heap.size W X→Ζ η 36 #[φ #[γ A n c,γ B m k],φ #[γ A' n' c',γ B' m' k']] X fun e w'=>e=.returned (Β (decide (Vs.map vS=Ws.map vS∧Es=Fs)))∧σ X.heap.size X w'):=qh (fun X hX=>Km A n c Vs B m k Es A' n' c' Ws B' m' k' Fs X (h.below hX) (h'.below hX) hn hm);have HG:Hid (∀X,σ W.heap.size W X→Ζ η 53 #[γ C r rc,γ C' r' iv] X fun e w'=>e=.returned (Β (decide (G=H)))∧σ X.heap.size X w'):=qh (fun X hX=>F0 C r rc G C' r' iv H X (hg.bl hX) (UD.bl hX) hr);clear h hg h' UD hn hm hr hq;obtain⟨p,gp⟩:=aB (decide (Vs.map vS=Ws.map vS∧Es=Fs));obtain⟨q,gq⟩:=aB (decide (G=H));rw[gp] at HD ⊢;rw[gq] at HG ⊢;clear gp gq;go_enter Tryz.func16,Tryz.ntmps16;go_upto_region 1 with fail
 obtain⟨W0,b0,b1,bO,bp,dE,aQ,aL,bw,-,-,oa,-,iP,uW⟩:=wT W 28 [γ A n c,γ B m k,γ C r rc] 28 [γ A' n' c',γ B' m' k',γ C' r' iv];rw[bO,dE,bp];clear bO bp dE;have x0:=aQ.out.cell (i:=0) rfl;have x1:=aQ.out.cell (i:=1) rfl;have x2:=aQ.out.cell (i:=2) rfl;have y0:=aL.out.cell (i:=0) rfl;have y1:=aL.out.cell (i:=1) rfl;have y2:=aL.out.cell (i:=2) rfl
 go_wp2_with (first
  |(go_at_call 36
    refine(HD.out _ bw.out).mono ?_
    rintro e w2 ⟨rfl,aP⟩;have bG:=qh (ag bw.out aP);have z2:=(aQ.out.bl aP).cell (i:=2) rfl;have u2:=(aL.out.bl aP).cell (i:=2) rfl;clear aP aQ aL bw HD x0 x1 x2 y0 y1 y2)
  |(go_at_call 53
    refine(HG.out _ bG.out).mono ?_
    rintro e w3 ⟨rfl,bA⟩;have bB:=qh (ag bG.out bA);clear bA bG HG z2 u2;cases p))
 all_goals
  go_ret;exact⟨rfl,bB.out⟩
def Q8 (n:Int):dR:=⟨1,1,n,0,0,0,0,0,0,0,0,0,0,0,0,0,0,ρ,⟨#[]⟩,0⟩
def rmO:dR:=⟨2,1,1,0,0,0,0,0,0,0,0,0,0,0,0,0,0,ρ,⟨#[]⟩,0⟩
theorem Wn:la dv [Q8 1]=(([((1,1),[],Jaf,0)],[],[]),0):=rfl
theorem U5:yi ([((1,1),[],Jaf,0)],[],[]) rmO=(dv,0):=rfl
theorem aaq:gD ([((1,1),[],Jaf,0)],[],[]):=dy.kind (o:=Q8 1) rfl
theorem UW (W:ο):bz W ε 0 0 [] ε 0 0 []:=⟨Bj _ _ _,Bj _ _ _,fun x hx=>by cases hx⟩
theorem mh.gone {W:ο} {lo:Nat} {A:Option Κ} {n c:Nat} {Vs:List VC} {B:Option Κ} {m k:Nat} {Es:List EC} {C:Option Κ} {r rc:Nat} {G:List Gn} (h:mh W lo A n c Vs B m k Es C r rc G):bg W W.heap.size 6 C r rc (ah cZ G):=aK h.gn
theorem Ab (n:Int) (W:ο):Ζ η 42 #[J n] W fun e w'=>∃g,e=.returned (φ #[γ (ζ ⟨g,0,ε⟩) 1 1])∧Whole w' g 36 (ak (Q8 n))∧σ W.heap.size W w':=by
 go_enter Tryz.func42,Tryz.ntmps42;go_wp2;have h0:Whole ((W.alloc (δ #[γ (ζ ⟨W.heap.size+1,0,ε⟩) 1 1] 49)).alloc (δ (ak (Q8 n)).toArray 36)) W.heap.size 49 [γ (ζ ⟨W.heap.size+1,0,ε⟩) 1 1]:=(Whole.new_ W 49 [_]).al _;have h1:Whole ((W.alloc (δ #[γ (ζ ⟨W.heap.size+1,0,ε⟩) 1 1] 49)).alloc (δ (ak (Q8 n)).toArray 36)) (W.heap.size+1) 36 (ak (Q8 n)):=Whole.new2 (by simp);have hb:=aI (az W (δ #[γ (ζ ⟨W.heap.size+1,0,ε⟩) 1 1] 49)) (δ (ak (Q8 n)).toArray 36);exact dO rfl W.heap.size rfl h0 Tryz.underlying49 rfl (by kernel_rfl) rfl ⟨_,rfl,h1,hb⟩
theorem dok_add {o:dR} (hk:o.k=1):DoK o:=fun _ _ _ _ _ _ _ _ _ _ _ _ _ _ _ _ _ h hS=>Mx h hS o hk
theorem dok_rem {o:dR} (hk:o.k=2):DoK o:=fun _ _ _ _ _ _ _ _ _ _ _ _ _ _ _ _ _ h hS=>Ov h hS o hk
theorem CA (W:ο):Ζ η 12 #[] W fun e w'=>e=.returned (Β τ)∧σ W.heap.size W w':=by
 have bw:Hid (σ W.heap.size W W):=qh (Θ _ _);go_enter Tryz.func12,Tryz.ntmps12
 go_upto_region 2 with (first
  |(go_at_call 17
    refine(uG _).mono ?_
    rintro e w1 ⟨rfl,cP⟩;have bE:=qh (ag bw.out cP);clear cP bw)
  |(go_at_call 42
    refine(Ab 1 _).mono ?_
    rintro e w2 ⟨g,rfl,fT,aP⟩;have bG:=qh (ag bE.out aP);have HW2:=qh fT;clear fT aP bE)
  |(go_at_call 18
    refine(apply12_k (UW _) (Bj _ _ _) dy _ 1 1 [Q8 1] (by rw[xd];exact bg.of_whole HW2.out rfl) (by decide) (fun u hu=>by obtain rfl:=List.mem_singleton.1 hu;exact dok_add rfl)).mono ?_
    rintro e w3 ⟨bA,h3⟩;have hE:la (([]:List VC).map vS,[],[]) [Q8 1]=_:=Wn;rw[hE] at h3;obtain⟨-,A,n,c,Vs,B,m,k,Es,C,r,rc,G,rfl,u6,AQ⟩:=h3.resolve_right (fun h=>h.1 rfl);have bB:=qh (ag bG.out bA);have gE:=qh u6;have sO:=qh AQ;clear bA h3 hE u6 AQ bG HW2))
 have hn:n=1:=by
  have h1:=gE.out.dg.v.rlen aS (by decide);have h2:=congrArg (fun z:SS=>z.1.length) sO.out;have h3:(Vs.map vS).length=1:=h2;rw[Ρ] at h3;omega
 subst hn;have j8:=qh (gE.out.up (az w3 (δ #[γ A 1 c,γ B m k,γ C r rc] 28)));have kC:=qh (aI bB.out (δ #[γ A 1 c,γ B m k,γ C r rc] 28));have eY:=qh (Whole.new_ w3 28 [γ A 1 c,γ B m k,γ C r rc]);obtain⟨w4,NP⟩:=aB (w3.alloc (δ #[γ A 1 c,γ B m k,γ C r rc] 28));obtain⟨b4,BJ⟩:=aB w3.heap.size;rw[NP] at j8 kC eY ⊢;rw[BJ] at eY ⊢;have TL:Hid (W.heap.size≤b4):=qh (BJ▸bB.out.size);clear NP BJ gE bB;have x0:=eY.out.cell (i:=0) rfl;have x1:=eY.out.cell (i:=1) rfl;have x2:=eY.out.cell (i:=2) rfl;have XZ:Hid (gD (Vs.map vS,Es,G)):=qh (by rw[sO.out];exact aaq)
 go_upto_region 3 with (first
  |(go_at_call 14
    refine(one12_k j8.out.dg j8.out.gone XZ.out rmO (dok_rem rfl)).mono ?_
    rintro e w5 ⟨fP,h5⟩;have hE:yi (Vs.map vS,Es,G) rmO=_:=(congrArg (fun z=>yi z rmO) sO.out).trans U5;rw[hE] at h5;obtain⟨-,A',n',c',Vs',B',m',k',Es',C',r',iv,G',rfl,SD,he5⟩:=h5.resolve_right (fun h=>h.1 rfl);have kF:=qh (ag kC.out fP);have oK:=qh (eY.out.bl fP)
    have hn':n'=0:=by
     have h1:=SD.dg.v.rlen aS (by decide);have h2:=congrArg (fun z:SS=>z.1.length) he5;have h3:(Vs'.map vS).length=0:=h2;rw[Ρ] at h3;omega
    subst hn';clear fP h5 hE SD he5 kC eY j8 XZ x0 x1 x2))
 have y0:=(oK.out.al (δ #[γ A' 0 c',γ B' m' k',γ C' r' iv] 28)).cell (i:=0) rfl;have s7:=qh (aI kF.out (δ #[γ A' 0 c',γ B' m' k',γ C' r' iv] 28));clear kF oK;go_wp2;go_ret;exact⟨rfl,s7.out⟩
theorem gD.all:∀(L:List dR) {S:SS},gD S→(∀o∈L,iu o=0)→gD (jT S L).1
 |[],S,h,_=>h
 |o::L,S,h,ho=>by
  have e:jT S (o::L)=if (bQ S o).2=0 then jT (bQ S o).1 L else(dv,(bQ S o).2):=rfl
  by_cases hk:(bQ S o).2=0
  ·rw[e,if_pos hk];exact gD.all L (h.kind (ho o (List.mem_cons_self))) (fun u hu=>ho u (List.mem_cons_of_mem _ hu))
  ·rw[e,if_neg hk];exact dy
theorem mayEs_one:∀{L:List dR},fY L=0→∀o∈L,iu o=0
 |[],_,_,ho=>by cases ho
 |u::L,h,o,ho=>by
  have h1:(if iu u=0 then fY L else iu u)=0:=h
  by_cases q:iu u=0
  ·rw[if_pos q] at h1;rcases List.mem_cons.1 ho with rfl|ho
   ·exact q
   ·exact mayEs_one h1 o ho
  ·rw[if_neg q] at h1;exact absurd h1 q
theorem mayE_one {L:List dR} (h:pB L=0):∀o∈L,iu o=0:=by
 unfold pB at h;split at h
 ·exact absurd h (by decide)
 ·exact mayEs_one h
theorem gD.edit {S:SS} (h:gD S) (L:List dR):gD (la S L).1:=by
 unfold la
 by_cases q:pB L=0
 ·rw[if_pos q];exact h.all L (mayE_one q)
 ·rw[if_neg q];exact dy
theorem gD.try_ {S:SS} (h:gD S) (L:List dR):gD (tw S L):=by
 unfold tw;split
 ·exact h.edit L
 ·exact h
abbrev EdR:=Option Κ × Nat × Nat × List dR
def edL (e:EdR):List Value:=[γ e.1 e.2.1 e.2.2.1]
theorem edL_len (e:EdR):(edL e).length=1:=rfl
structure EdsIn (W:ο) (A:Option Κ) (n c:Nat) (Ls:List EdR):Prop where
 row:bg W W.heap.size 1 A n c (ah edL Ls)
 few:n≤Jap
 ops:∀e∈Ls,bg W W.heap.size 20 e.1 e.2.1 e.2.2.1 (ah ak e.2.2.2)∧e.2.1≤Jap∧∀o∈e.2.2.2,o.t.size≤Jap
def Reach (Q:SS→Prop) (W:ο) (e:Ending) (w':ο):Prop:=∃S,Q S∧GivesS W S e w'
theorem reached_q (Q:SS→Prop) (q0:Q dv) (qs:∀S L,Q S→Q (tw S L)) (qok:∀S,Q S→gD S) (Al:Option Κ) (nl cl:Nat) (Ls:List EdR) (w:ο) (h:EdsIn w Al nl cl Ls):
 Ζ η 26 #[γ Al nl cl] w (Reach Q w):=by
 have HR:=qh h.row;have HE:=qh h.ops;have Hl:Hid (Ls.length=nl):=qh (h.row.rlen edL_len (by decide));have Kx:=h.few;have fp:=aI (az w (δ #[γ ε 0 0,γ ε 0 0,γ ε 0 0] 28)) (δ #[γ ε 0 0,γ ε 0 0,γ ε 0 0] 28);have bw:=qh fp;have aZ:Hid (Whole ((w.alloc (δ #[γ ε 0 0,γ ε 0 0,γ ε 0 0] 28)).alloc (δ #[γ ε 0 0,γ ε 0 0,γ ε 0 0] 28)) w.heap.size 28 [γ ε 0 0,γ ε 0 0,γ ε 0 0]):=qh ((Whole.new_ _ _ [_,_,_]).al _);have cF:Hid (Whole ((w.alloc (δ #[γ ε 0 0,γ ε 0 0,γ ε 0 0] 28)).alloc (δ #[γ ε 0 0,γ ε 0 0,γ ε 0 0] 28)) (w.heap.size+1) 28 [γ ε 0 0,γ ε 0 0,γ ε 0 0]):=qh (Whole.new2 (by simp));clear h fp;go_enter Tryz.func26,Tryz.ntmps26;go_upto_region 3 with fail
 obtain⟨W0,bO⟩:=aB ((w.alloc (δ #[γ ε 0 0,γ ε 0 0,γ ε 0 0] 28)).alloc (δ #[γ ε 0 0,γ ε 0 0,γ ε 0 0] 28));obtain⟨b3,Z6⟩:=aB (w.heap.size+1);obtain⟨b2,jc⟩:=aB w.heap.size;have Lb3:Hid (w.heap.size≤b3):=qh (by omega);have eI:Hid (w.heap.size≤b2):=qh (by omega);have N23:Hid (b2≠b3):=qh (by omega);rw[bO] at bw aZ cF ⊢;rw[Z6] at cF ⊢;rw[jc] at aZ ⊢;clear bO Z6 jc;have HD0:Hid (bz W0 ε 0 0 [] ε 0 0 dv.2.1):=qh (dg_nil _);have Ce:Hid (bg W0 W0.heap.size 6 ε 0 0 (ah cZ dv.2.2)):=qh (bg.no _ _ _);have HV0:Hid (([]:List VC).map vS=dv.1):=qh rfl;have HP0:=qh q0;have Hqs:=qh qs;have Hqo:=qh qok;clear q0 qs qok;go_loopw [4] (fun vi wr=>∃(i:Nat) (S:SS) (A1:Option Κ) (n1 c1:Nat) (B1:Option Κ) (m1 k1:Nat) (C1:Option Κ) (r1 rc1:Nat) (Ws1:List VC),i≤30∧i≤nl∧vi=J (i:Int)∧Hid (σ w.heap.size w wr)∧Hid (Whole wr b2 28 [γ ε 0 0,γ ε 0 0,γ ε 0 0])∧Hid (Whole wr b3 28 [γ A1 n1 c1,γ B1 m1 k1,γ C1 r1 rc1])∧Hid (bz wr A1 n1 c1 Ws1 B1 m1 k1 S.2.1)∧Hid (Ws1.map vS=S.1)∧Hid (bg wr wr.heap.size 6 C1 r1 rc1 (ah cZ S.2.2))∧Hid (Q S)) (fun vi _=>30 - (intOf vi).toNat)
 case atStart=>exact⟨0,dv,ε,0,0,ε,0,0,ε,0,0,[],Jas _,Jas _,rfl,bw,aZ,cF,HD0,HV0,Ce,HP0⟩
 case round=>
  clear bw aZ cF HD0 HV0 Ce HP0;obtain⟨i,S,A1,n1,c1,B1,m1,k1,C1,r1,rc1,Ws1,hi30,jm,rfl,HB,H2,H3,HD,HV,HG,HP⟩:=hrel;obtain⟨wo,cS⟩:=aB wr;rw[cS] at HB H2 H3 HD HG ⊢;clear cS
  by_cases dz:i<nl∧i<30
  ·obtain⟨iQ,jd⟩:=dz;have KH:(i:Int)<(nl:Int):=by omega
   have Rj:(i:Int)<30:=by omega
   have BD:Ls[i]? =ζ (Ls[i]'(by have:=Hl.out;omega)):=θ _;obtain⟨⟨Ae,ne,ce,Le⟩,ge0⟩:∃e,Ls[i]'(by have:=Hl.out;omega)=e:=⟨_,rfl⟩
   rw[ge0] at BD;obtain⟨bb,off,rfl,aY,a8⟩:=HR.out.place edL_len (by decide) (by omega);have q0:=a8 i _ BD 0 _ rfl;simp only[Addr.add_lit,Nat.add_zero,Nat.mul_one] at q0;have HQ:=qh q0;have Gi:=qh aY;obtain⟨hle,SL,dz⟩:=HE.out _ (List.mem_of_getElem? BD);have KO:=qh hle;have K4:=qh SL;have HLt:=qh dz;clear ge0 BD a8 q0 aY hle SL dz;go_upto_region 5 with fail
   have tX:∀w',Kept aO wo.drew w'→w'.cell? ⟨bb,off+i,ε⟩=ζ (γ Ae ne ce):=fun w' h=>h.nil_cell (((aN HB.out).cell (p:=⟨bb,off+i,ε⟩) Gi.out).trans HQ.out)
   refine cI (aO) [7] (by kernel_rfl) ?_;refine S4 0 (hy:=ib (by rfl) 28 (.tmp 3) rfl b3 rfl 28 [γ A1 n1 c1,γ B1 m1 k1,γ C1 r1 rc1] _ (fun w' h=>h.whole H3.out.dr (fun h=>h)) Tryz.underlying28 rfl (by kernel_rfl)) (h:=?_);refine aU 1 ?_;refine aU 2 ?_;refine aU 3 ?_;refine aU 4 ?_;refine CR 5 ?_;intro w' aC;have hx:=(Θ _ wo).drew.trans aC
   refine(za Ae ne ce Le w' (KO.out.bl (ag HB.out hx)) K4.out).mono ?_
   rintro e w9 ⟨n9,rfl,M6,hn9,sZ⟩
   refine⟨_,rfl,Kept.of_below sZ,?_⟩
   have rK:=qh M6;have HN9:=qh hn9;have xK:Hid (σ wo.heap.size wo w9):=qh (Ext.trans hx sZ);clear hx aC M6 hn9 sZ;simp only[ξ,aw,ar,aq];refine CR 6 ?_;intro w' aC;have hx:σ wo.heap.size wo w':=Ext.trans xK.out aC;have e0:(Ws1.map vS,S.2.1,S.2.2)=S:=by rw[HV.out]
   have hS1:gD (Ws1.map vS,S.2.1,S.2.2):=by rw[e0];exact(Hqo.out _ HP.out)
   have htr:=rtry_any (HD.out.bl hx) (HG.out.bl hx) hS1 Ae n9 ce _ (rK.out.bl aC) (by have:=HN9.out;unfold Jap;omega) (fun o ho=>HLt.out o (List.mem_of_mem_take ho));rw[e0] at htr;refine htr.mono ?_;rintro e Nw ⟨A6,n6,c6,B6,m6,k6,C6,r6,rc6,Ws6,rfl,hd,hm,hg,hb⟩
   refine⟨_,rfl,Kept.of_below hb,?_⟩
   have yf:=qh hd;have Eb:=qh hm;have HG6:=qh hg;have QC:=qh (Hqs.out _ (Le.take 8) HP.out);have p9:Hid (σ wo.heap.size wo Nw):=qh (Ext.trans hx hb);clear hx aC e0 hS1 htr hd hm hg hb xK rK HN9;simp only[ξ,aw,ar,aq];refine qu 7 ?_;intro w' aC;have hx:σ wo.heap.size wo w':=Ext.trans p9.out aC;have hZ:=H3.out.bl hx;have s1:=hZ.set_ 0 (γ A6 n6 c6);have s2:=s1.set_ 1 (γ B6 m6 k6);have k0:=sl3_not (a:=γ A1 n1 c1) (b:=γ B1 m1 k1) (d:=γ C1 r1 rc1) (fun i=>by simp) (fun i=>by simp) (fun i=>by simp);have k1_:=sl3_not (a:=γ A6 n6 c6) (b:=γ B1 m1 k1) (d:=γ C1 r1 rc1) (fun i=>by simp) (fun i=>by simp) (fun i=>by simp);have k2_:=sl3_not (a:=γ A6 n6 c6) (b:=γ B6 m6 k6) (d:=γ C1 r1 rc1) (fun i=>by simp) (fun i=>by simp) (fun i=>by simp)
   refine⟨w'.setCells b3 0 [γ A6 n6 c6,γ B6 m6 k6,γ C6 r6 rc6],qz 28 (.tmp 3) (.tmp 22) rfl b3 0 rfl [γ A6 n6 c6,γ B6 m6 k6,γ C6 r6 rc6] rfl (hZ.there_ 0 3 (by simp)) (by kernel_rfl) (by simp[Value.oneCell']),?_⟩
   have K3:Hid (Whole (w'.setCells b3 0 [γ A6 n6 c6,γ B6 m6 k6,γ C6 r6 rc6]) b3 28 [γ A6 n6 c6,γ B6 m6 k6,γ C6 r6 rc6]):=qh (s2.set_ 2 (γ C6 r6 rc6));have K2:Hid (Whole (w'.setCells b3 0 [γ A6 n6 c6,γ B6 m6 k6,γ C6 r6 rc6]) b2 28 [γ ε 0 0,γ ε 0 0,γ ε 0 0]):=qh ((((H2.out.bl hx).far (p:=⟨b3,0,ε⟩) N23.out (γ A6 n6 c6)).far (p:=⟨b3,1,ε⟩) N23.out (γ B6 m6 k6)).far (p:=⟨b3,2,ε⟩) N23.out (γ C6 r6 rc6));have KD:Hid (bz (w'.setCells b3 0 [γ A6 n6 c6,γ B6 m6 k6,γ C6 r6 rc6]) A6 n6 c6 Ws6 B6 m6 k6 (tw S (Le.take 8)).2.1):=qh (dg_set (dg_set (dg_set (yf.out.bl aC) hZ k0 0 (γ A6 n6 c6)) s1 k1_ 1 (γ B6 m6 k6)) s2 k2_ 2 (γ C6 r6 rc6));have KG:Hid (bg (w'.setCells b3 0 [γ A6 n6 c6,γ B6 m6 k6,γ C6 r6 rc6]) (w'.setCells b3 0 [γ A6 n6 c6,γ B6 m6 k6,γ C6 r6 rc6]).heap.size 6 C6 r6 rc6 (ah cZ (tw S (Le.take 8)).2.2)):=qh (gn_set (gn_set (gn_set (HG6.out.bl aC) hZ k0 0 (γ A6 n6 c6)) s1 k1_ 1 (γ B6 m6 k6)) s2 k2_ 2 (γ C6 r6 rc6));have KB:Hid (σ w.heap.size w (w'.setCells b3 0 [γ A6 n6 c6,γ B6 m6 k6,γ C6 r6 rc6])):=qh ((((ag HB.out hx).setCell (p:=⟨b3,0,ε⟩) Lb3.out (γ A6 n6 c6)).setCell (p:=⟨b3,1,ε⟩) Lb3.out (γ B6 m6 k6)).setCell (p:=⟨b3,2,ε⟩) Lb3.out (γ C6 r6 rc6));obtain⟨V5,gV5⟩:=aB (w'.setCells b3 0 [γ A6 n6 c6,γ B6 m6 k6,γ C6 r6 rc6]);rw[gV5] at K3 K2 KD KG KB ⊢
   clear gV5 aC hx hZ s1 s2 k0 k1_ k2_ yf HG6 p9;(try simp only[ξ,aw,ar,aq]);refine gG (by kernel_rfl) ?_ _;intro w8 cg;have J2:=qh (K2.out.bl cg);have J3:=qh (K3.out.bl cg);have JD:=qh (KD.out.bl cg);have JG:=qh (KG.out.bl cg);have JB:=qh (ag KB.out cg);clear cg K2 K3 KD KG KB tX;go_wp2;go_roundw
   case rel=>exact⟨i+1,tw S (Le.take 8),A6,n6,c6,B6,m6,k6,C6,r6,rc6,Ws6,by omega,by omega,by go_num,JB,J2,J3,JD,Eb,JG,QC⟩
   case measure=>simp[intOf];omega
  ·have kZ:¬((i:Int)<(nl:Int)∧(i:Int)<30):=by omega
   have x0:=H3.out.cell (i:=0) rfl;have x1:=H3.out.cell (i:=1) rfl;have x2:=H3.out.cell (i:=2) rfl;have z0:=H2.out.cell (i:=0) rfl;have z1:=H2.out.cell (i:=1) rfl;have z2:=H2.out.cell (i:=2) rfl;have y0:=H2.out.free 0;have y1:=H2.out.free 1;have y2:=H2.out.free 2;have k0:=sl3_not (a:=γ ε 0 0) (b:=γ ε 0 0) (d:=γ ε 0 0) (fun i=>by simp) (fun i=>by simp) (fun i=>by simp);have k1_:=sl3_not (a:=γ A1 n1 c1) (b:=γ ε 0 0) (d:=γ ε 0 0) (fun i=>by simp) (fun i=>by simp) (fun i=>by simp);have k2_:=sl3_not (a:=γ A1 n1 c1) (b:=γ B1 m1 k1) (d:=γ ε 0 0) (fun i=>by simp) (fun i=>by simp) (fun i=>by simp);have jw:=(fun s0 s1 s2=>⟨S,HP.out,A1,n1,c1,B1,m1,k1,C1,r1,rc1,Ws1,rfl,dg_set (dg_set (dg_set HD.out s0 k0 0 _) s1 k1_ 1 _) s2 k2_ 2 _,HV.out,gn_set (gn_set (gn_set HG.out s0 k0 0 _) s1 k1_ 1 _) s2 k2_ 2 _,((HB.out.setCell (p:=⟨b2,0,ε⟩) eI.out (γ A1 n1 c1)).setCell (p:=⟨b2,1,ε⟩) eI.out (γ B1 m1 k1)).setCell (p:=⟨b2,2,ε⟩) eI.out (γ C1 r1 rc1)⟩:Whole wo b2 28 [γ ε 0 0,γ ε 0 0,γ ε 0 0]→Whole (wo.setCell ⟨b2,0,ε⟩ (γ A1 n1 c1)) b2 28 [γ A1 n1 c1,γ ε 0 0,γ ε 0 0]→Whole ((wo.setCell ⟨b2,0,ε⟩ (γ A1 n1 c1)).setCell ⟨b2,1,ε⟩ (γ B1 m1 k1)) b2 28 [γ A1 n1 c1,γ B1 m1 k1,γ ε 0 0]→Reach Q w (.returned (φ #[γ A1 n1 c1,γ B1 m1 k1,γ C1 r1 rc1])) (((wo.setCell ⟨b2,0,ε⟩ (γ A1 n1 c1)).setCell ⟨b2,1,ε⟩ (γ B1 m1 k1)).setCell ⟨b2,2,ε⟩ (γ C1 r1 rc1)))
   have s0:=H2.out;have s1:=s0.set_ 0 (γ A1 n1 c1);have s2:=s1.set_ 1 (γ B1 m1 k1);have K8:=qh (jw s0 s1 s2);have gE:=qh (s2.set_ 2 (γ C1 r1 rc1));clear jw s0 s1 s2
   by_cases h1:i<nl
   ·have q1:(i:Int)<(nl:Int):=by omega
    have q2:¬(i:Int)<30:=by omega
    clear kZ;go_wp2;exact dO rfl b2 rfl gE.out Tryz.underlying28 rfl (by kernel_rfl) rfl K8.out
   ·have q1:¬(i:Int)<(nl:Int):=by omega
    clear kZ;go_wp2;exact dO rfl b2 rfl gE.out Tryz.underlying28 rfl (by kernel_rfl) rfl K8.out
theorem fndV_key:∀{Vs:List VC} {x:Nm},(eP Vs x).2=τ→(eP Vs x).1.1=x
 |[],_,h=>by cases h
 |v::Vs,x,h=>by
  by_cases hv:v.1=x
  ·have e:eP (v::Vs) x=(v,τ):=by unfold eP KR;simp[hv]
   rw[e];exact hv
  ·have e:eP (v::Vs) x=eP Vs x:=by unfold eP KR;simp[hv]
   rw[e] at h ⊢;exact fndV_key h
theorem fndV_row {Vs:List VC} {x:Nm} (h:bu (Vs.map vS) x=τ):(eP Vs x).1∈Vs∧(eP Vs x).1.1=x∧(eP Vs x).2=τ:=by
 have h2:(eP Vs x).2=τ:=(tK Vs x).1.trans h;exact⟨fndV_mem h2,fndV_key h2,h2⟩
theorem lens_ {W:ο} {A:Option Κ} {n c:Nat} {Vs:List VC} {B:Option Κ} {m k:Nat} {Es:List EC} {C:Option Κ} {r rc:Nat} {G:List Gn} (h:bz W A n c Vs B m k Es) (hg:bg W W.heap.size 6 C r rc (ah cZ G)) (hS:gD (Vs.map vS,Es,G)):n≤1000000∧m≤1000000∧r≤1000000:=by
 have h1:Vs.length=n:=h.v.rlen aS (by decide);have h2:Es.length=m:=h.e.rlen bM (by decide);have h3:G.length=r:=hg.rlen bT (by decide);have h4:=hS.v24;have h5:Es.length≤40:=hS.e40;have h6:G.length≤400:=hS.g400;rw[Ρ] at h4;exact⟨by omega,by omega,by omega⟩
def labO (x:Nm) (e:Bool) (t:ByteArray):dR:=⟨7,x.1,x.2,0,0,0,0,0,0,0,0,0,0,0,0,0,0,e,t,0⟩
def atrO (x:Nm) (e:Bool) (m:Int):dR:=⟨8,x.1,x.2,0,0,0,0,0,0,0,0,0,0,0,0,0,0,e,⟨#[]⟩,m⟩
theorem dok_set {o:dR} (hk:7≤o.k):DoK o:=fun _ _ _ _ _ _ _ _ _ _ _ _ _ _ _ _ _ h hS=>LK h hS o (by omega) (by omega) (by omega) (by omega) (by omega) (by omega)
theorem dok_lab (x:Nm) (e:Bool) (t:ByteArray):DoK (labO x e t):=dok_set (show(7:Int)≤7 by decide)
theorem dok_atr (x:Nm) (e:Bool) (m:Int):DoK (atrO x e m):=dok_set (show(7:Int)≤8 by decide)
theorem one_lab (S:SS) {x:Nm} (e:Bool) {t:ByteArray} (hx:dK x.1 x.2=τ) (ht:cQ t=τ):yi S (labO x e t)=setS S x e (fun p=>(t,p.2)):=by
 have h0:iu (labO x e t)=0:=by
  show(if dK x.1 x.2=τ∧lO (labO x e t)=τ∧labO x e t=oh (labO x e t) then(if cQ t=τ then(0:Int) else 4) else 1)=0
  rw[if_pos ⟨hx,rfl,rfl⟩,if_pos ht]
 unfold yi;rw[if_pos h0];rfl
theorem one_atr (S:SS) {x:Nm} (e:Bool) {m:Int} (hx:dK x.1 x.2=τ) (hm:eR m=τ):yi S (atrO x e m)=setS S x e (fun p=>(p.1,m)):=by
 have h0:iu (atrO x e m)=0:=by
  show(if dK x.1 x.2=τ∧lO (atrO x e m)=τ∧atrO x e m=oh (atrO x e m) then(if cQ (ByteArray.mk #[])=τ then(0:Int) else 4) else 1)=0
  rw[if_pos ⟨hx,hm,rfl⟩,if_pos (show cQ (ByteArray.mk #[])=τ from rfl)]
 unfold yi;rw[if_pos h0];rfl
theorem setVS_back {V:List VS} {x:Nm} {f g:ByteArray × Int→ByteArray × Int} (h:∀v∈V,v.1=x→g (f v.2.2)=v.2.2):lg (lg V x f) x g=V:=by
 unfold lg;rw[JaW]
 refine(JaV (fun v hv=>?_)).trans (List.map_id V)
 obtain⟨k,r,p⟩:=v
 by_cases q:k=x
 ·have h1:g (f p)=p:=h _ hv q;simp[Function.comp,q,h1]
 ·simp[Function.comp,q]
theorem setES_back {E:List EC} {x:Nm} {f g:ByteArray × Int→ByteArray × Int} (h:∀v∈E,v.1=x→g (f v.2)=v.2):o6 (o6 E x f) x g=E:=by
 unfold o6;rw[JaW]
 refine(JaV (fun v hv=>?_)).trans (List.map_id E)
 obtain⟨k,p⟩:=v
 by_cases q:k=x
 ·have h1:g (f p)=p:=h _ hv q;simp[Function.comp,q,h1]
 ·simp[Function.comp,q]
theorem setVS_has {V:List VS} {x:Nm} (f:ByteArray × Int→ByteArray × Int) (h:bu V x=τ):bu (lg V x f) x=τ:=by
 obtain⟨v,hv,q⟩:=db.1 h;exact db.2 ⟨(v.1,v.2.1,f v.2.2),Α.2 ⟨v,hv,if_pos q⟩,q⟩
theorem setES_has {E:List EC} {x:Nm} (f:ByteArray × Int→ByteArray × Int) (h:bI E x=τ):bI (o6 E x f) x=τ:=by
 obtain⟨v,hv,q⟩:=db.1 h;exact db.2 ⟨(v.1,f v.2),Α.2 ⟨v,hv,if_pos q⟩,q⟩
theorem fndE_row {E:List EC} {x:Nm} (h:bI E x=τ):(wu E x).1∈E∧(wu E x).1.1=x∧(wu E x).2=τ:=by
 have h2:(wu E x).2=τ:=(fndE_has E x).trans h;revert h2;unfold wu KR;split
 ·rename_i v hv;intro _;exact⟨List.mem_of_find?_eq_some hv,by have q:=List.find?_some hv;simpa using q,rfl⟩
 ·intro q;cases q
theorem rowV_only {Vs:List VC} {x:Nm} (hk:((Vs.map vS).map (·.1)).Nodup) (h:bu (Vs.map vS) x=τ):∀v∈Vs.map vS,v.1=x→v=vS (eP Vs x).1:=fun v hv q=>by
 obtain⟨h1,h2,-⟩:=fndV_row h;exact fi hk hv (Α.2 ⟨_,h1,rfl⟩) (q.trans h2.symm)
theorem rowE_only {E:List EC} {x:Nm} (hk:(E.map (·.1)).Nodup) (h:bI E x=τ):∀v∈E,v.1=x→v=(wu E x).1:=fun v hv q=>by
 obtain⟨h1,h2,-⟩:=fndE_row h;exact fi hk hv h1 (q.trans h2.symm)
theorem setV_row {V2 Vs:List VC} {x:Nm} {f:ByteArray × Int→ByteArray × Int} (hk:((Vs.map vS).map (·.1)).Nodup) (h:bu (Vs.map vS) x=τ) (e:V2.map vS=lg (Vs.map vS) x f):(eP V2 x).1.1=x∧(eP V2 x).1.2.2=f (eP Vs x).1.2.2:=by
 obtain⟨h1,h2,-⟩:=fndV_row (Vs:=V2) (x:=x) (by rw[e];exact setVS_has f h)
 refine⟨h2,?_⟩
 have hm:vS (eP V2 x).1∈lg (Vs.map vS) x f:=e▸Α.2 ⟨_,h1,rfl⟩;obtain⟨u,hu,q⟩:=Α.1 hm
 have Xl:u.1=x:=by
  by_cases p:u.1=x
  ·exact p
  ·rw[if_neg p] at q;rw[q];exact h2
 rw[if_pos Xl,rowV_only hk h u hu Xl] at q;exact(congrArg (fun z:VS=>z.2.2) q).symm
theorem setE_row {E:List EC} {x:Nm} {f:ByteArray × Int→ByteArray × Int} (hk:(E.map (·.1)).Nodup) (h:bI E x=τ):(wu (o6 E x f) x).1.1=x∧(wu (o6 E x f) x).1.2=f (wu E x).1.2:=by
 obtain⟨h1,h2,-⟩:=fndE_row (setES_has f h)
 refine⟨h2,?_⟩
 obtain⟨u,hu,q⟩:=Α.1 h1
 have Xl:u.1=x:=by
  by_cases p:u.1=x
  ·exact p
  ·rw[if_neg p] at q;rw[q];exact h2
 rw[if_pos Xl,rowE_only hk h u hu Xl] at q;exact(congrArg (fun z:EC=>z.2) q).symm
theorem gD.vnd {V:List VS} {E:List EC} {G:List Gn} (h:gD (V,E,G)):(V.map (·.1)).Nodup:=od.nodup h.fit.vup
theorem gD.end_ {V:List VS} {E:List EC} {G:List Gn} (h:gD (V,E,G)):(E.map (·.1)).Nodup:=od.nodup h.fit.eup
section
variable {Vs:List VC} {E:List EC} {G:List Gn} {x:Nm}
theorem labV_back (hS:gD (Vs.map vS,E,G)) (h:bu (Vs.map vS) x=τ) (hx:dK x.1 x.2=τ) (t:ByteArray):yi (lg (Vs.map vS) x (fun p=>(t,p.2)),E,G) (labO x ρ (eP Vs x).1.2.2.1)=((Vs.map vS,E,G),0):=by
 have hl:cQ (eP Vs x).1.2.2.1=τ:=(hS.vm _ (Α.2 ⟨_,(fndV_row h).1,rfl⟩)).2.1;rw[one_lab _ _ hx hl];unfold setS;rw[if_neg (by decide),if_pos (setVS_has _ h)];have hb:=setVS_back (V:=Vs.map vS) (x:=x) (f:=fun p=>(t,p.2)) (g:=fun p=>((eP Vs x).1.2.2.1,p.2)) (fun v hv q=>by rw[rowV_only hS.vnd h v hv q];rfl);exact congrArg (fun z=>((z,E,G),(0:Int))) hb
theorem atrV_back (hS:gD (Vs.map vS,E,G)) (h:bu (Vs.map vS) x=τ) (hx:dK x.1 x.2=τ) (m:Int):yi (lg (Vs.map vS) x (fun p=>(p.1,m)),E,G) (atrO x ρ (eP Vs x).1.2.2.2)=((Vs.map vS,E,G),0):=by
 have hl:eR (eP Vs x).1.2.2.2=τ:=(hS.vm _ (Α.2 ⟨_,(fndV_row h).1,rfl⟩)).2.2;rw[one_atr _ _ hx hl];unfold setS;rw[if_neg (by decide),if_pos (setVS_has _ h)];have hb:=setVS_back (V:=Vs.map vS) (x:=x) (f:=fun p=>(p.1,m)) (g:=fun p=>(p.1,(eP Vs x).1.2.2.2)) (fun v hv q=>by rw[rowV_only hS.vnd h v hv q];rfl);exact congrArg (fun z=>((z,E,G),(0:Int))) hb
theorem labE_back (hS:gD (Vs.map vS,E,G)) (h:bI E x=τ) (hx:dK x.1 x.2=τ) (t:ByteArray):yi (Vs.map vS,o6 E x (fun p=>(t,p.2)),G) (labO x τ (wu E x).1.2.1)=((Vs.map vS,E,G),0):=by
 rw[one_lab _ _ hx (hS.em _ (fndE_row h).1).2.1];unfold setS;rw[if_pos rfl,if_pos (setES_has _ h)];have hb:=setES_back (E:=E) (x:=x) (f:=fun p=>(t,p.2)) (g:=fun p=>((wu E x).1.2.1,p.2)) (fun v hv q=>by rw[rowE_only hS.end_ h v hv q]);exact congrArg (fun z=>((Vs.map vS,z,G),(0:Int))) hb
theorem atrE_back (hS:gD (Vs.map vS,E,G)) (h:bI E x=τ) (hx:dK x.1 x.2=τ) (m:Int):yi (Vs.map vS,o6 E x (fun p=>(p.1,m)),G) (atrO x τ (wu E x).1.2.2)=((Vs.map vS,E,G),0):=by
 rw[one_atr _ _ hx (hS.em _ (fndE_row h).1).2.2];unfold setS;rw[if_pos rfl,if_pos (setES_has _ h)];have hb:=setES_back (E:=E) (x:=x) (f:=fun p=>(p.1,m)) (g:=fun p=>(p.1,(wu E x).1.2.2)) (fun v hv q=>by rw[rowE_only hS.end_ h v hv q]);exact congrArg (fun z=>((Vs.map vS,z,G),(0:Int))) hb
end
end Go.Proofs.YtpdpbfmiahjiiaaGreat
