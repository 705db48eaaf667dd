/- 'EditVertices' answers true for every row of edits and every name.
   No condition beyond the row's own. -/
import Derived.Test.YtpdpbfmiahjiiaaGreatPvAI
import Derived.Test.YtpdpbfmiahjiiaaGreatPvAP
import Derived.Test.YtpdpbfmiahjiiaaGreatPvBD
import Derived.Test.YtpdpbfmiahjiiaaGreatRows
set_option linter.unusedSectionVars false
set_option linter.unusedSimpArgs false
set_option linter.unusedVariables false
set_option maxRecDepth 100000
set_option maxHeartbeats 16000000
namespace Go.Proofs.YtpdpbfmiahjiiaaGreat
open Go.RowKit
open _root_.Go.Value renaming slice→γ,string→μ,agg→φ,bool→Β,tuple→Ξ
open _root_.Go.Obj renaming cells→δ
open _root_.Option renaming none→ε
open _root_.Go.Proofs.Tryz renaming prog→η
open _root_.Bool renaming false→ρ
open _root_.Go.RowKit renaming Below→σ
open _root_.Go renaming Value→ψ,Calls→Ζ
open _root_.Nat renaming le_trans→Λ
open _root_.List renaming length_map→Ρ
open _root_.ByteArray renaming empty→Jaf
open _root_.Prod.mk renaming injEq→Jba
theorem law_vertices (Al:Option Addr) (nl cl:Nat) (Ls:List EdR) (x1 x2:Int) (w:World) (h:EdsIn w Al nl cl Ls):
 Ζ η 6 #[γ Al nl cl,φ #[J x1,J x2]] w fun e w'=>e=.returned (Β true)∧σ w.heap.size w w':=by
 have HI:Hid (∀X,σ w.heap.size w X→EdsIn X Al nl cl Ls):=qh (fun X hX=>⟨h.row.bl hX,h.few,fun e he=>⟨(h.ops e he).1.bl hX,(h.ops e he).2⟩⟩);have SP:Hid (∀X,Ζ η 28 #[φ #[J x1,J x2]] X fun e w'=>e=.returned (Β (dK x1 x2))∧σ X.heap.size X w'):=qh (fun X=>NJ x1 x2 X);have bw:=qh (az w (δ #[J x1,J x2] 30));have cF:=qh (Whole.new_ w 30 [J x1,J x2]);clear h;go_enter Tryz.func6,Tryz.ntmps6;go_upto_region 1 with fail
 obtain⟨W0,bO⟩:=aB (w.alloc (δ #[J x1,J x2] 30));obtain⟨b3,Z6⟩:=aB w.heap.size;have Gb3:=qh Z6;rw[bO] at bw cF ⊢;rw[Z6] at cF ⊢;clear bO Z6
 go_upto_region 2 with (first
  |(go_at_call 12
    refine(CA _).mono ?_
    rintro e w1 ⟨rfl,hb⟩;have sx:=qh (ag bw.out hb);have zt:=qh (cF.out.bl hb);clear hb bw cF))
 obtain⟨W1,aV⟩:=aB w1;rw[aV] at sx zt ⊢;clear aV
 go_upto_region 3 with (first
  |(go_at_call 26
    refine(reached_q gD dy (fun S L h=>h.try_ L) (fun S h=>h) Al nl cl Ls _ (HI.out _ sx.out)).mono ?_
    rintro e w2 ⟨S,hP,A1,n1,c1,B1,m1,k1,C1,r1,rc1,Ws1,rfl,hd,hm,hg,aP⟩;have Zk:=qh aP;have HP:=qh hP;have HD:=qh hd;have HM:=qh hm;have HG:=qh hg;clear aP hP hd hm hg))
 have aP:=Zk.out;have Og:=qh (aI (ag sx.out aP) (δ #[γ A1 n1 c1,γ B1 m1 k1,γ C1 r1 rc1] 28));have HXb3_11:=qh ((zt.out.bl aP).al (δ #[γ A1 n1 c1,γ B1 m1 k1,γ C1 r1 rc1] 28));have HD_11:=qh (HD.out.bl (az _ (δ #[γ A1 n1 c1,γ B1 m1 k1,γ C1 r1 rc1] 28)));have HG_11:=qh (HG.out.bl (az _ (δ #[γ A1 n1 c1,γ B1 m1 k1,γ C1 r1 rc1] 28)));have HXb6_11:=qh (Whole.new_ w2 28 [γ A1 n1 c1,γ B1 m1 k1,γ C1 r1 rc1]);have Lb6:Hid (w.heap.size≤w2.heap.size):=qh (ag sx.out aP).size;have Nb3b6:Hid (b3≠w2.heap.size):=qh (by have:=(zt.out.bl aP).lt;omega);obtain⟨W11,gWn⟩:=aB (w2.alloc (δ #[γ A1 n1 c1,γ B1 m1 k1,γ C1 r1 rc1] 28));obtain⟨b6,gbn⟩:=aB w2.heap.size;rw[gWn] at Og HXb3_11 HD_11 HG_11 HXb6_11 ⊢;rw[gbn] at HXb6_11 Lb6 Nb3b6 ⊢;clear gWn gbn sx zt HD HG aP Zk;obtain⟨S_V,S_E,S_G⟩:=S
 have P4:n1≤24:=by
  have h1:=HD_11.out.v.rlen aS (by decide);have h2:(S_V:List VS).length≤24:=HP.out.v24;have h3:Ws1.map vS=S_V:=HM.out;rw[←h3,Ρ] at h2;omega
 have hS:gD (Ws1.map vS,S_E,S_G):=by
  rw[show Ws1.map vS=S_V from HM.out];exact HP.out
 have HS:=qh hS;have HV:Hid (∀X,bz X A1 n1 c1 Ws1 B1 m1 k1 S_E→Ζ η 27 #[φ #[γ A1 n1 c1,γ B1 m1 k1],φ #[J x1,J x2]] X fun e w'=>e=.returned (Ξ #[φ (vC (eP Ws1 (x1,x2)).1).toArray,Β (eP Ws1 (x1,x2)).2])∧σ X.heap.size X w'):=qh (fun X hX=>Vr A1 n1 c1 Ws1 B1 m1 k1 S_E x1 x2 X hX.v (by omega));have OY:(eP Ws1 (x1,x2)).2=bu (Ws1.map vS) (x1,x2):=(tK Ws1 (x1,x2)).1;obtain⟨⟨u,ok⟩,gv⟩:∃z,eP Ws1 (x1,x2)=z:=⟨_,rfl⟩
 rw[gv] at HV OY;obtain⟨⟨i1,i2⟩,⟨rA,rn,jg,rL⟩,lb,at_⟩:=u;replace HV:Hid (∀X,bz X A1 n1 c1 Ws1 B1 m1 k1 S_E→Ζ η 27 #[φ #[γ A1 n1 c1,γ B1 m1 k1],φ #[J x1,J x2]] X fun e w'=>e=.returned (Ξ #[φ #[J i1,J i2,γ rA rn jg,μ lb,J at_],Β ok])∧σ X.heap.size X w'):=HV;have XZ:Hid (bu (Ws1.map vS) (x1,x2)=ok):=qh OY.symm;have QV:Ws1.length=n1:=HD_11.out.v.rlen aS (by decide);have HVl:=qh QV;clear gv OY hS QV
 have afJ:Hid (∀X,bz X A1 n1 c1 Ws1 B1 m1 k1 S_E→bg X X.heap.size 6 C1 r1 rc1 (ah cZ S_G)→∀K:SS × Int,yi (Ws1.map vS,S_E,S_G) (addO (x1,x2))=K→Ζ η 14 #[φ #[γ A1 n1 c1,γ B1 m1 k1,γ C1 r1 rc1],φ (ak (addO (x1,x2))).toArray] X (wZ X K)):=qh (fun X hX hG K hK=>by
  rw[←hK];exact one12_k hX hG HS.out (addO (x1,x2)) (dok_add rfl))
 have fb6_0:=HXb6_11.out.cell (i:=0) rfl;have fb6_1:=HXb6_11.out.cell (i:=1) rfl;have fb3_0:=HXb3_11.out.cell (i:=0) rfl;have fb3_1:=HXb3_11.out.cell (i:=1) rfl
 go_upto_region 4 with (first
  |(go_at_call 27
    refine(HV.out _ HD_11.out).mono ?_
    rintro e w2 ⟨rfl,aP⟩;have Zk:=qh aP;clear aP fb6_0 fb6_1 fb3_0 fb3_1))
 have aP:=Zk.out;have aaH:=qh (aI (ag Og.out aP) (δ #[J i1,J i2,γ rA rn jg,μ lb,J at_] 59));have HXb3_12:=qh ((HXb3_11.out.bl aP).al (δ #[J i1,J i2,γ rA rn jg,μ lb,J at_] 59));have HXb6_12:=qh ((HXb6_11.out.bl aP).al (δ #[J i1,J i2,γ rA rn jg,μ lb,J at_] 59));have HD_12:=qh ((HD_11.out.bl aP).bl (az _ (δ #[J i1,J i2,γ rA rn jg,μ lb,J at_] 59)));have HG_12:=qh ((HG_11.out.bl aP).bl (az _ (δ #[J i1,J i2,γ rA rn jg,μ lb,J at_] 59)));have HXb7_12:=qh (Whole.new_ w2 59 [J i1,J i2,γ rA rn jg,μ lb,J at_]);have Lb7:Hid (w.heap.size≤w2.heap.size):=qh (ag Og.out aP).size;have Nb3b7:Hid (b3≠w2.heap.size):=qh (by have:=(HXb3_11.out.bl aP).lt;omega);have Nb6b7:Hid (b6≠w2.heap.size):=qh (by have:=(HXb6_11.out.bl aP).lt;omega);obtain⟨W12,gWn⟩:=aB (w2.alloc (δ #[J i1,J i2,γ rA rn jg,μ lb,J at_] 59));obtain⟨b7,gbn⟩:=aB w2.heap.size;rw[gWn] at aaH HXb3_12 HXb6_12 HD_12 HG_12 HXb7_12 ⊢;rw[gbn] at HXb7_12 Lb7 Nb3b7 Nb6b7 ⊢;clear gWn gbn Og HXb3_11 HXb6_11 HD_11 HG_11 aP Zk;have fb3_0:=HXb3_12.out.cell (i:=0) rfl;have fb3_1:=HXb3_12.out.cell (i:=1) rfl
 go_upto_region 5 with (first
  |(go_at_call 28
    refine(SP.out _).mono ?_
    rintro e w2 ⟨rfl,aP⟩;have Zk:=qh aP;clear aP fb3_0 fb3_1))
 have aP:=Zk.out;have HXb3_13:=qh (HXb3_12.out.bl aP);have HXb6_13:=qh (HXb6_12.out.bl aP);have HXb7_13:=qh (HXb7_12.out.bl aP);have HD_13:=qh (HD_12.out.bl aP);have HG_13:=qh (HG_12.out.bl aP);have HB13:=qh (ag aaH.out aP);obtain⟨W13,gW13⟩:=aB w2;rw[gW13] at HB13 HXb3_13 HXb6_13 HXb7_13 HD_13 HG_13 ⊢;clear gW13 aP Zk aaH HXb3_12 HXb6_12 HXb7_12 HD_12 HG_12;cases hmay:dK x1 x2 with
 |false=>
  have fb6_0:=HXb6_13.out.cell (i:=0) rfl;have fb6_1:=HXb6_13.out.cell (i:=1) rfl;have fb6_2:=HXb6_13.out.cell (i:=2) rfl;have fb3_0:=HXb3_13.out.cell (i:=0) rfl;have fb3_1:=HXb3_13.out.cell (i:=1) rfl
  go_upto_region 6 with (first
   |(go_at_call 14
     refine(afJ.out _ HD_13.out HG_13.out (dv,1) (one_addN _ hmay)).mono ?_
     rintro e w2 ⟨aP,hq⟩;have Zk:=qh aP;obtain⟨-,rfl⟩:=hq.resolve_left (fun q=>absurd q.1 (by decide));clear aP hq fb6_0 fb6_1 fb6_2 fb3_0 fb3_1))
  have aP:=Zk.out;have Uh:=qh (aI (ag HB13.out aP) (δ #[γ ε 0 0,γ ε 0 0,γ ε 0 0] 28));have HXb3_14:=qh ((HXb3_13.out.bl aP).al (δ #[γ ε 0 0,γ ε 0 0,γ ε 0 0] 28));have HXb6_14:=qh ((HXb6_13.out.bl aP).al (δ #[γ ε 0 0,γ ε 0 0,γ ε 0 0] 28));have HXb7_14:=qh ((HXb7_13.out.bl aP).al (δ #[γ ε 0 0,γ ε 0 0,γ ε 0 0] 28));have HD_14:=qh ((HD_13.out.bl aP).bl (az _ (δ #[γ ε 0 0,γ ε 0 0,γ ε 0 0] 28)));have HG_14:=qh ((HG_13.out.bl aP).bl (az _ (δ #[γ ε 0 0,γ ε 0 0,γ ε 0 0] 28)));have HXb10_14:=qh (Whole.new_ w2 28 [γ ε 0 0,γ ε 0 0,γ ε 0 0]);have Lb10:Hid (w.heap.size≤w2.heap.size):=qh (ag HB13.out aP).size;have Nb3b10:Hid (b3≠w2.heap.size):=qh (by have:=(HXb3_13.out.bl aP).lt;omega);have Nb6b10:Hid (b6≠w2.heap.size):=qh (by have:=(HXb6_13.out.bl aP).lt;omega);have Nb7b10:Hid (b7≠w2.heap.size):=qh (by have:=(HXb7_13.out.bl aP).lt;omega);obtain⟨W14,gWn⟩:=aB (w2.alloc (δ #[γ ε 0 0,γ ε 0 0,γ ε 0 0] 28));obtain⟨b10,gbn⟩:=aB w2.heap.size;rw[gWn] at Uh HXb3_14 HXb6_14 HXb7_14 HD_14 HG_14 HXb10_14 ⊢;rw[gbn] at HXb10_14 Lb10 Nb3b10 Nb6b10 Nb7b10 ⊢;clear gWn gbn HB13 HXb3_13 HXb6_13 HXb7_13 HD_13 HG_13 aP Zk;have kk:=HXb6_14.out.cell (i:=0) rfl;go_wp2;go_ret;exact⟨rfl,Uh.out⟩
 |true=>
  cases ok with
  |true=>
   have fb6_0:=HXb6_13.out.cell (i:=0) rfl;have fb6_1:=HXb6_13.out.cell (i:=1) rfl;have fb6_2:=HXb6_13.out.cell (i:=2) rfl;have fb3_0:=HXb3_13.out.cell (i:=0) rfl;have fb3_1:=HXb3_13.out.cell (i:=1) rfl
   go_upto_region 6 with (first
    |(go_at_call 14
      refine(afJ.out _ HD_13.out HG_13.out (dv,12) ((one_add _ hmay).trans (by unfold og;rw[if_pos XZ.out]))).mono ?_
      rintro e w2 ⟨aP,hq⟩;have Zk:=qh aP;obtain⟨-,rfl⟩:=hq.resolve_left (fun q=>absurd q.1 (by decide));clear aP hq fb6_0 fb6_1 fb6_2 fb3_0 fb3_1))
   have aP:=Zk.out;have Uh:=qh (aI (ag HB13.out aP) (δ #[γ ε 0 0,γ ε 0 0,γ ε 0 0] 28));have HXb3_14:=qh ((HXb3_13.out.bl aP).al (δ #[γ ε 0 0,γ ε 0 0,γ ε 0 0] 28));have HXb6_14:=qh ((HXb6_13.out.bl aP).al (δ #[γ ε 0 0,γ ε 0 0,γ ε 0 0] 28));have HXb7_14:=qh ((HXb7_13.out.bl aP).al (δ #[γ ε 0 0,γ ε 0 0,γ ε 0 0] 28));have HD_14:=qh ((HD_13.out.bl aP).bl (az _ (δ #[γ ε 0 0,γ ε 0 0,γ ε 0 0] 28)));have HG_14:=qh ((HG_13.out.bl aP).bl (az _ (δ #[γ ε 0 0,γ ε 0 0,γ ε 0 0] 28)));have HXb10_14:=qh (Whole.new_ w2 28 [γ ε 0 0,γ ε 0 0,γ ε 0 0]);have Lb10:Hid (w.heap.size≤w2.heap.size):=qh (ag HB13.out aP).size;have Nb3b10:Hid (b3≠w2.heap.size):=qh (by have:=(HXb3_13.out.bl aP).lt;omega);have Nb6b10:Hid (b6≠w2.heap.size):=qh (by have:=(HXb6_13.out.bl aP).lt;omega);have Nb7b10:Hid (b7≠w2.heap.size):=qh (by have:=(HXb7_13.out.bl aP).lt;omega);obtain⟨W14,gWn⟩:=aB (w2.alloc (δ #[γ ε 0 0,γ ε 0 0,γ ε 0 0] 28));obtain⟨b10,gbn⟩:=aB w2.heap.size;rw[gWn] at Uh HXb3_14 HXb6_14 HXb7_14 HD_14 HG_14 HXb10_14 ⊢;rw[gbn] at HXb10_14 Lb10 Nb3b10 Nb6b10 Nb7b10 ⊢;clear gWn gbn HB13 HXb3_13 HXb6_13 HXb7_13 HD_13 HG_13 aP Zk;have kk:=HXb6_14.out.cell (i:=0) rfl;go_wp2;go_ret;exact⟨rfl,Uh.out⟩
  |false=>
   by_cases h24:24≤n1
   ·have h4i:(24:Int)≤(n1:Int):=by omega
    have fb6_0:=HXb6_13.out.cell (i:=0) rfl;have fb6_1:=HXb6_13.out.cell (i:=1) rfl;have fb6_2:=HXb6_13.out.cell (i:=2) rfl;have fb3_0:=HXb3_13.out.cell (i:=0) rfl;have fb3_1:=HXb3_13.out.cell (i:=1) rfl
    go_upto_region 6 with (first
     |(go_at_call 14
       refine(afJ.out _ HD_13.out HG_13.out (dv,3) ((one_add _ hmay).trans (by unfold og;rw[if_neg (by rw[XZ.out];decide),if_pos (by show 24≤(Ws1.map vS).length;rw[Ρ,HVl.out];exact h24)]))).mono ?_
       rintro e w2 ⟨aP,hq⟩;have Zk:=qh aP;obtain⟨-,rfl⟩:=hq.resolve_left (fun q=>absurd q.1 (by decide));clear aP hq fb6_0 fb6_1 fb6_2 fb3_0 fb3_1))
    have aP:=Zk.out;have Uh:=qh (aI (ag HB13.out aP) (δ #[γ ε 0 0,γ ε 0 0,γ ε 0 0] 28));have HXb3_14:=qh ((HXb3_13.out.bl aP).al (δ #[γ ε 0 0,γ ε 0 0,γ ε 0 0] 28));have HXb6_14:=qh ((HXb6_13.out.bl aP).al (δ #[γ ε 0 0,γ ε 0 0,γ ε 0 0] 28));have HXb7_14:=qh ((HXb7_13.out.bl aP).al (δ #[γ ε 0 0,γ ε 0 0,γ ε 0 0] 28));have HD_14:=qh ((HD_13.out.bl aP).bl (az _ (δ #[γ ε 0 0,γ ε 0 0,γ ε 0 0] 28)));have HG_14:=qh ((HG_13.out.bl aP).bl (az _ (δ #[γ ε 0 0,γ ε 0 0,γ ε 0 0] 28)));have HXb10_14:=qh (Whole.new_ w2 28 [γ ε 0 0,γ ε 0 0,γ ε 0 0]);have Lb10:Hid (w.heap.size≤w2.heap.size):=qh (ag HB13.out aP).size;have Nb3b10:Hid (b3≠w2.heap.size):=qh (by have:=(HXb3_13.out.bl aP).lt;omega);have Nb6b10:Hid (b6≠w2.heap.size):=qh (by have:=(HXb6_13.out.bl aP).lt;omega);have Nb7b10:Hid (b7≠w2.heap.size):=qh (by have:=(HXb7_13.out.bl aP).lt;omega);obtain⟨W14,gWn⟩:=aB (w2.alloc (δ #[γ ε 0 0,γ ε 0 0,γ ε 0 0] 28));obtain⟨b10,gbn⟩:=aB w2.heap.size;rw[gWn] at Uh HXb3_14 HXb6_14 HXb7_14 HD_14 HG_14 HXb10_14 ⊢;rw[gbn] at HXb10_14 Lb10 Nb3b10 Nb6b10 Nb7b10 ⊢;clear gWn gbn HB13 HXb3_13 HXb6_13 HXb7_13 HD_13 HG_13 aP Zk;have kk:=HXb6_14.out.cell (i:=0) rfl;go_wp2;go_ret;exact⟨rfl,Uh.out⟩
   have h4i:¬(24:Int)≤(n1:Int):=by omega
   have fb6_0:=HXb6_13.out.cell (i:=0) rfl;have fb6_1:=HXb6_13.out.cell (i:=1) rfl;have fb6_2:=HXb6_13.out.cell (i:=2) rfl;have fb3_0:=HXb3_13.out.cell (i:=0) rfl;have fb3_1:=HXb3_13.out.cell (i:=1) rfl
   go_upto_region 6 with (first
    |(go_at_call 14
      refine(afJ.out _ HD_13.out HG_13.out ((fx (Ws1.map vS) ((x1,x2),[],Jaf,0),S_E,S_G),0) ((one_add _ hmay).trans (by unfold og;rw[if_neg (by rw[XZ.out];decide),if_neg (by show ¬24≤(Ws1.map vS).length;rw[Ρ,HVl.out];exact h24)]))).mono ?_
      rintro e w2 ⟨aP,hq⟩;have Zk:=qh aP;obtain⟨-,A2,n2,c2,V2,B2,m2,k2,E2,C2,r2,Ya,G2,rfl,G1,he⟩:=hq.resolve_right (fun q=>q.1 rfl);have HSo:=qh G1;have HE:=qh he;clear aP hq G1 he fb6_0 fb6_1 fb6_2 fb3_0 fb3_1))
   obtain⟨MA,BA,iZ⟩:V2.map vS=fx (Ws1.map vS) ((x1,x2),[],Jaf,0)∧E2=S_E∧G2=S_G:=by
    have:=HE.out
    rw[Jba,Jba] at this;exact this
   clear HE;subst BA iZ;have SA:=qh MA;have hD2:=HSo.out.dg;have hG2:=HSo.out.gone;have xN:=qh hD2;have dQ:=qh hG2
   have jd:V2.length=n1+1:=by
    have h1:(V2.map vS).length=(Ws1.map vS).length+1:=by rw[MA];exact ll _ _
    rw[Ρ,Ρ,HVl.out] at h1;exact h1
   have SG:n2=n1+1:=by rw[←jd];exact(hD2.v.rlen aS (by decide)).symm
   subst SG
   have HT:Hid (gD (V2.map vS,E2,G2)):=qh (by
    have h1:=HS.out.one (addO (x1,x2));rw[one_add _ hmay,show og (Ws1.map vS,E2,G2) (x1,x2)=((fx (Ws1.map vS) ((x1,x2),[],Jaf,0),E2,G2),0) by unfold og;rw[if_neg (by rw[XZ.out];decide),if_neg (by show ¬24≤(Ws1.map vS).length;rw[Ρ,HVl.out];exact h24)]] at h1;rw[MA];exact h1)
   obtain⟨yA,yc,HV2c⟩:∃yA yc,Hid (∀X,bz X A2 (n1+1) c2 V2 B2 m2 k2 E2→Ζ η 27 #[φ #[γ A2 (n1+1) c2,γ B2 m2 k2],φ #[J x1,J x2]] X fun e w'=>e=.returned (Ξ #[φ #[J x1,J x2,γ yA 0 yc,μ ⟨#[]⟩,J 0],Β true])∧σ X.heap.size X w'):=by
    obtain⟨hy1,SN,hy3⟩:=fndV_row (Vs:=V2) (x:=(x1,x2)) (by rw[MA];exact ins_has _ _);have hc:∀X,bz X A2 (n1+1) c2 V2 B2 m2 k2 E2→Ζ η 27 #[φ #[γ A2 (n1+1) c2,γ B2 m2 k2],φ #[J x1,J x2]] X fun e w'=>e=.returned (Ξ #[φ (vC (eP V2 (x1,x2)).1).toArray,Β (eP V2 (x1,x2)).2])∧σ X.heap.size X w':=fun X hX=>Vr A2 (n1+1) c2 V2 B2 m2 k2 E2 x1 x2 X hX.v (by omega)
    obtain⟨⟨y,yo⟩,gy⟩:∃z,eP V2 (x1,x2)=z:=⟨_,rfl⟩
    rw[gy] at hy1 SN hy3 hc
    have hy4:vS y=((x1,x2),[],Jaf,0):=by
     rcases cy.1 (MA▸List.mem_map.2 ⟨y,hy1,rfl⟩:vS y∈fx (Ws1.map vS) ((x1,x2),[],Jaf,0)) with q|q
     ·exact q
     ·exact absurd SN (gY.1 (show pf (fun v:VS=>v.1) (Ws1.map vS) (x1,x2)=ρ from XZ.out) _ q)
    obtain⟨⟨j1,j2⟩,⟨yA,yn,yc,yL⟩,yb,ya⟩:=y;have hyl:yL.length=yn:=(hD2.r _ hy1).2.dlen;obtain⟨e1,e2,e3,e4⟩:(j1,j2)=(x1,x2)∧yL=[]∧yb=Jaf∧ya=0:=⟨congrArg (fun z:VS=>z.1) hy4,congrArg (fun z:VS=>z.2.1) hy4,congrArg (fun z:VS=>z.2.2.1) hy4,congrArg (fun z:VS=>z.2.2.2) hy4⟩;obtain⟨e5,e6⟩:=Prod.mk.inj e1;obtain rfl:yo=true:=hy3;subst e5 e6 e2 e3 e4;obtain rfl:0=yn:=hyl;exact⟨yA,yc,qh hc⟩
   have HRem:Hid (∀X,bz X A2 (n1+1) c2 V2 B2 m2 k2 E2→bg X X.heap.size 6 C2 r2 Ya (ah cZ G2)→Ζ η 14 #[φ #[γ A2 (n1+1) c2,γ B2 m2 k2,γ C2 r2 Ya],φ (ak (remO (x1,x2))).toArray] X (wZ X ((Ws1.map vS,E2,G2),0))):=qh (fun X hX hG=>by
    have h1:=one12_k hX hG HT.out (remO (x1,x2)) (dok_rem rfl);rw[one_rem _ hmay,MA,rem_ins _ _ _ XZ.out] at h1;exact h1)
   have HRe2:Hid (∀X,bz X A1 n1 c1 Ws1 B1 m1 k1 E2→bg X X.heap.size 6 C1 r1 rc1 (ah cZ G2)→Ζ η 14 #[φ #[γ A1 n1 c1,γ B1 m1 k1,γ C1 r1 rc1],φ (ak (remO (x1,x2))).toArray] X (wZ X (dv,13))):=qh (fun X hX hG=>by
    have h1:=one12_k hX hG HS.out (remO (x1,x2)) (dok_rem rfl);rw[one_rem _ hmay,show oc (Ws1.map vS,E2,G2) (x1,x2)=(dv,13) by unfold oc;rw[if_pos XZ.out]] at h1;exact h1)
   clear MA hD2 hG2 jd HSo;have aP:=Zk.out;have Uh:=qh (aI (ag HB13.out aP) (δ #[γ A2 (n1+1) c2,γ B2 m2 k2,γ C2 r2 Ya] 28));have HXb3_14:=qh ((HXb3_13.out.bl aP).al (δ #[γ A2 (n1+1) c2,γ B2 m2 k2,γ C2 r2 Ya] 28));have HXb6_14:=qh ((HXb6_13.out.bl aP).al (δ #[γ A2 (n1+1) c2,γ B2 m2 k2,γ C2 r2 Ya] 28));have HXb7_14:=qh ((HXb7_13.out.bl aP).al (δ #[γ A2 (n1+1) c2,γ B2 m2 k2,γ C2 r2 Ya] 28));have HD_14:=qh ((HD_13.out.bl aP).bl (az _ (δ #[γ A2 (n1+1) c2,γ B2 m2 k2,γ C2 r2 Ya] 28)));have HG_14:=qh ((HG_13.out.bl aP).bl (az _ (δ #[γ A2 (n1+1) c2,γ B2 m2 k2,γ C2 r2 Ya] 28)));have HD2_14:=qh (xN.out.bl (az _ (δ #[γ A2 (n1+1) c2,γ B2 m2 k2,γ C2 r2 Ya] 28)));have HG2_14:=qh (dQ.out.bl (az _ (δ #[γ A2 (n1+1) c2,γ B2 m2 k2,γ C2 r2 Ya] 28)));have HXb10_14:=qh (Whole.new_ w2 28 [γ A2 (n1+1) c2,γ B2 m2 k2,γ C2 r2 Ya]);have Lb10:Hid (w.heap.size≤w2.heap.size):=qh (ag HB13.out aP).size;have Nb3b10:Hid (b3≠w2.heap.size):=qh (by have:=(HXb3_13.out.bl aP).lt;omega);have Nb6b10:Hid (b6≠w2.heap.size):=qh (by have:=(HXb6_13.out.bl aP).lt;omega);have Nb7b10:Hid (b7≠w2.heap.size):=qh (by have:=(HXb7_13.out.bl aP).lt;omega);obtain⟨W14,gWn⟩:=aB (w2.alloc (δ #[γ A2 (n1+1) c2,γ B2 m2 k2,γ C2 r2 Ya] 28));obtain⟨b10,gbn⟩:=aB w2.heap.size;rw[gWn] at Uh HXb3_14 HXb6_14 HXb7_14 HD_14 HG_14 HD2_14 HG2_14 HXb10_14 ⊢
   rw[gbn] at HXb10_14 Lb10 Nb3b10 Nb6b10 Nb7b10 ⊢;clear gWn gbn HB13 HXb3_13 HXb6_13 HXb7_13 HD_13 HG_13 xN dQ aP Zk;have fb10_0:=HXb10_14.out.cell (i:=0) rfl;have fb10_1:=HXb10_14.out.cell (i:=1) rfl;have fb3_0:=HXb3_14.out.cell (i:=0) rfl;have fb3_1:=HXb3_14.out.cell (i:=1) rfl;have fb6_0:=HXb6_14.out.cell (i:=0) rfl
   go_upto_region 13 with (first
    |(go_at_call 27
      refine(HV2c.out _ HD2_14.out).mono ?_
      rintro e w2 ⟨rfl,aP⟩;have Zk:=qh aP;clear aP fb10_0 fb10_1 fb3_0 fb3_1 fb6_0))
   have aP:=Zk.out;have HB15:=qh (aI (ag Uh.out aP) (δ #[J x1,J x2,γ yA 0 yc,μ ⟨#[]⟩,J 0] 59));have HXb3_15:=qh ((HXb3_14.out.bl aP).al (δ #[J x1,J x2,γ yA 0 yc,μ ⟨#[]⟩,J 0] 59));have HXb6_15:=qh ((HXb6_14.out.bl aP).al (δ #[J x1,J x2,γ yA 0 yc,μ ⟨#[]⟩,J 0] 59));have HXb7_15:=qh ((HXb7_14.out.bl aP).al (δ #[J x1,J x2,γ yA 0 yc,μ ⟨#[]⟩,J 0] 59));have HXb10_15:=qh ((HXb10_14.out.bl aP).al (δ #[J x1,J x2,γ yA 0 yc,μ ⟨#[]⟩,J 0] 59));have HD_15:=qh ((HD_14.out.bl aP).bl (az _ (δ #[J x1,J x2,γ yA 0 yc,μ ⟨#[]⟩,J 0] 59)));have HG_15:=qh ((HG_14.out.bl aP).bl (az _ (δ #[J x1,J x2,γ yA 0 yc,μ ⟨#[]⟩,J 0] 59)));have HD2_15:=qh ((HD2_14.out.bl aP).bl (az _ (δ #[J x1,J x2,γ yA 0 yc,μ ⟨#[]⟩,J 0] 59)));have HG2_15:=qh ((HG2_14.out.bl aP).bl (az _ (δ #[J x1,J x2,γ yA 0 yc,μ ⟨#[]⟩,J 0] 59)));have HXb12_15:=qh (Whole.new_ w2 59 [J x1,J x2,γ yA 0 yc,μ ⟨#[]⟩,J 0]);have Lb12:Hid (w.heap.size≤w2.heap.size):=qh (ag Uh.out aP).size;have Nb3b12:Hid (b3≠w2.heap.size):=qh (by have:=(HXb3_14.out.bl aP).lt;omega);have Nb6b12:Hid (b6≠w2.heap.size):=qh (by have:=(HXb6_14.out.bl aP).lt;omega)
   have Nb7b12:Hid (b7≠w2.heap.size):=qh (by have:=(HXb7_14.out.bl aP).lt;omega);have Nb10b12:Hid (b10≠w2.heap.size):=qh (by have:=(HXb10_14.out.bl aP).lt;omega);obtain⟨W15,gWn⟩:=aB (w2.alloc (δ #[J x1,J x2,γ yA 0 yc,μ ⟨#[]⟩,J 0] 59));obtain⟨b12,gbn⟩:=aB w2.heap.size;rw[gWn] at HB15 HXb3_15 HXb6_15 HXb7_15 HXb10_15 HD_15 HG_15 HD2_15 HG2_15 HXb12_15 ⊢;rw[gbn] at HXb12_15 Lb12 Nb3b12 Nb6b12 Nb7b12 Nb10b12 ⊢;clear gWn gbn Uh HXb3_14 HXb6_14 HXb7_14 HXb10_14 HD_14 HG_14 HD2_14 HG2_14 aP Zk;have fb10_0:=HXb10_15.out.cell (i:=0) rfl;have fb10_1:=HXb10_15.out.cell (i:=1) rfl;have fb10_2:=HXb10_15.out.cell (i:=2) rfl;have fb3_0:=HXb3_15.out.cell (i:=0) rfl;have fb3_1:=HXb3_15.out.cell (i:=1) rfl
   go_upto_region 14 with (first
    |(go_at_call 14
      refine(HRem.out _ HD2_15.out HG2_15.out).mono ?_
      rintro e w2 ⟨aP,hq⟩;have Zk:=qh aP;obtain⟨-,A3,n3,c3,V3,B3,m3,k3,E3,C3,r3,rc3,G3,rfl,G1,he⟩:=hq.resolve_right (fun q=>q.1 rfl);have HD3:=qh G1.dg;have xH:=qh G1.gone;have HE:=qh he;clear aP hq G1 he fb10_0 fb10_1 fb10_2 fb3_0 fb3_1))
   have HSm:Hid (∀X,bz X A3 n3 c3 V3 B3 m3 k3 E3→bg X X.heap.size 6 C3 r3 rc3 (ah cZ G3)→bz X A1 n1 c1 Ws1 B1 m1 k1 E2→bg X X.heap.size 6 C1 r1 rc1 (ah cZ G2)→Ζ η 16 #[φ #[γ A3 n3 c3,γ B3 m3 k3,γ C3 r3 rc3],φ #[γ A1 n1 c1,γ B1 m1 k1,γ C1 r1 rc1]] X fun e w'=>e=.returned (Β true)∧σ X.heap.size X w'):=qh (fun X h1 h2 h3 h4=>by
    have hq:=HE.out;have hO:gD (V3.map vS,E3,G3):=by rw[hq];exact HS.out
    obtain⟨l1,l2,l3⟩:=lens_ h1 h2 hO
    have:=Ca X h1 h2 h3 h4 l1 l2 l3
    rw[Jba,Jba] at hq;rw[decide_eq_true hq] at this;exact this)
   clear HE;have aP:=Zk.out;have HB16:=qh (aI (ag HB15.out aP) (δ #[γ A3 n3 c3,γ B3 m3 k3,γ C3 r3 rc3] 28));have HXb3_16:=qh ((HXb3_15.out.bl aP).al (δ #[γ A3 n3 c3,γ B3 m3 k3,γ C3 r3 rc3] 28));have HXb6_16:=qh ((HXb6_15.out.bl aP).al (δ #[γ A3 n3 c3,γ B3 m3 k3,γ C3 r3 rc3] 28));have HXb7_16:=qh ((HXb7_15.out.bl aP).al (δ #[γ A3 n3 c3,γ B3 m3 k3,γ C3 r3 rc3] 28));have HXb10_16:=qh ((HXb10_15.out.bl aP).al (δ #[γ A3 n3 c3,γ B3 m3 k3,γ C3 r3 rc3] 28));have HXb12_16:=qh ((HXb12_15.out.bl aP).al (δ #[γ A3 n3 c3,γ B3 m3 k3,γ C3 r3 rc3] 28));have HD_16:=qh ((HD_15.out.bl aP).bl (az _ (δ #[γ A3 n3 c3,γ B3 m3 k3,γ C3 r3 rc3] 28)));have HG_16:=qh ((HG_15.out.bl aP).bl (az _ (δ #[γ A3 n3 c3,γ B3 m3 k3,γ C3 r3 rc3] 28)));have HD2_16:=qh ((HD2_15.out.bl aP).bl (az _ (δ #[γ A3 n3 c3,γ B3 m3 k3,γ C3 r3 rc3] 28)));have HG2_16:=qh ((HG2_15.out.bl aP).bl (az _ (δ #[γ A3 n3 c3,γ B3 m3 k3,γ C3 r3 rc3] 28)));have HD3_16:=qh (HD3.out.bl (az _ (δ #[γ A3 n3 c3,γ B3 m3 k3,γ C3 r3 rc3] 28)));have HG3_16:=qh (xH.out.bl (az _ (δ #[γ A3 n3 c3,γ B3 m3 k3,γ C3 r3 rc3] 28)));have HXb14_16:=qh (Whole.new_ w2 28 [γ A3 n3 c3,γ B3 m3 k3,γ C3 r3 rc3]);have Lb14:Hid (w.heap.size≤w2.heap.size):=qh (ag HB15.out aP).size
   have Nb3b14:Hid (b3≠w2.heap.size):=qh (by have:=(HXb3_15.out.bl aP).lt;omega);have Nb6b14:Hid (b6≠w2.heap.size):=qh (by have:=(HXb6_15.out.bl aP).lt;omega);have Nb7b14:Hid (b7≠w2.heap.size):=qh (by have:=(HXb7_15.out.bl aP).lt;omega);have Nb10b14:Hid (b10≠w2.heap.size):=qh (by have:=(HXb10_15.out.bl aP).lt;omega);have Nb12b14:Hid (b12≠w2.heap.size):=qh (by have:=(HXb12_15.out.bl aP).lt;omega);obtain⟨W16,gWn⟩:=aB (w2.alloc (δ #[γ A3 n3 c3,γ B3 m3 k3,γ C3 r3 rc3] 28));obtain⟨b14,gbn⟩:=aB w2.heap.size;rw[gWn] at HB16 HXb3_16 HXb6_16 HXb7_16 HXb10_16 HXb12_16 HD_16 HG_16 HD2_16 HG2_16 HD3_16 HG3_16 HXb14_16 ⊢;rw[gbn] at HXb14_16 Lb14 Nb3b14 Nb6b14 Nb7b14 Nb10b14 Nb12b14 ⊢;clear gWn gbn HB15 HXb3_15 HXb6_15 HXb7_15 HXb10_15 HXb12_15 HD_15 HG_15 HD2_15 HG2_15 HD3 xH aP Zk;have fb14_0:=HXb14_16.out.cell (i:=0) rfl;have fb14_1:=HXb14_16.out.cell (i:=1) rfl;have fb14_2:=HXb14_16.out.cell (i:=2) rfl;have fb6_0:=HXb6_16.out.cell (i:=0) rfl;have fb6_1:=HXb6_16.out.cell (i:=1) rfl;have fb6_2:=HXb6_16.out.cell (i:=2) rfl
   go_upto_region 15 with (first
    |(go_at_call 16
      refine(HSm.out _ HD3_16.out HG3_16.out HD_16.out HG_16.out).mono ?_
      rintro e w2 ⟨rfl,aP⟩;have Zk:=qh aP;clear aP fb14_0 fb14_1 fb14_2 fb6_0 fb6_1 fb6_2))
   have aP:=Zk.out;have HXb3_17:=qh (HXb3_16.out.bl aP);have HXb6_17:=qh (HXb6_16.out.bl aP);have HXb7_17:=qh (HXb7_16.out.bl aP);have HXb10_17:=qh (HXb10_16.out.bl aP);have HXb12_17:=qh (HXb12_16.out.bl aP);have HXb14_17:=qh (HXb14_16.out.bl aP);have HD_17:=qh (HD_16.out.bl aP);have HG_17:=qh (HG_16.out.bl aP);have HD2_17:=qh (HD2_16.out.bl aP);have HG2_17:=qh (HG2_16.out.bl aP);have HD3_17:=qh (HD3_16.out.bl aP);have HG3_17:=qh (HG3_16.out.bl aP);have HB17:=qh (ag HB16.out aP);obtain⟨W17,gW17⟩:=aB w2;rw[gW17] at HB17 HXb3_17 HXb6_17 HXb7_17 HXb10_17 HXb12_17 HXb14_17 HD_17 HG_17 HD2_17 HG2_17 HD3_17 HG3_17 ⊢;clear gW17 aP Zk HB16 HXb3_16 HXb6_16 HXb7_16 HXb10_16 HXb12_16 HXb14_16 HD_16 HG_16 HD2_16 HG2_16 HD3_16 HG3_16;have fb6_0:=HXb6_17.out.cell (i:=0) rfl;have fb6_1:=HXb6_17.out.cell (i:=1) rfl;have fb6_2:=HXb6_17.out.cell (i:=2) rfl;have fb3_0:=HXb3_17.out.cell (i:=0) rfl;have fb3_1:=HXb3_17.out.cell (i:=1) rfl
   go_upto_region 16 with (first
    |(go_at_call 14
      refine(HRe2.out _ HD_17.out HG_17.out).mono ?_
      rintro e w2 ⟨aP,hq⟩;have Zk:=qh aP;obtain⟨-,rfl⟩:=hq.resolve_left (fun q=>absurd q.1 (by decide));clear aP hq fb6_0 fb6_1 fb6_2 fb3_0 fb3_1))
   have aP:=Zk.out;have HB18:=qh (aI (ag HB17.out aP) (δ #[γ ε 0 0,γ ε 0 0,γ ε 0 0] 28));have HXb3_18:=qh ((HXb3_17.out.bl aP).al (δ #[γ ε 0 0,γ ε 0 0,γ ε 0 0] 28));have HXb6_18:=qh ((HXb6_17.out.bl aP).al (δ #[γ ε 0 0,γ ε 0 0,γ ε 0 0] 28));have HXb7_18:=qh ((HXb7_17.out.bl aP).al (δ #[γ ε 0 0,γ ε 0 0,γ ε 0 0] 28));have HXb10_18:=qh ((HXb10_17.out.bl aP).al (δ #[γ ε 0 0,γ ε 0 0,γ ε 0 0] 28));have HXb12_18:=qh ((HXb12_17.out.bl aP).al (δ #[γ ε 0 0,γ ε 0 0,γ ε 0 0] 28));have HXb14_18:=qh ((HXb14_17.out.bl aP).al (δ #[γ ε 0 0,γ ε 0 0,γ ε 0 0] 28));have HD_18:=qh ((HD_17.out.bl aP).bl (az _ (δ #[γ ε 0 0,γ ε 0 0,γ ε 0 0] 28)));have HG_18:=qh ((HG_17.out.bl aP).bl (az _ (δ #[γ ε 0 0,γ ε 0 0,γ ε 0 0] 28)));have HD2_18:=qh ((HD2_17.out.bl aP).bl (az _ (δ #[γ ε 0 0,γ ε 0 0,γ ε 0 0] 28)));have HG2_18:=qh ((HG2_17.out.bl aP).bl (az _ (δ #[γ ε 0 0,γ ε 0 0,γ ε 0 0] 28)));have HD3_18:=qh ((HD3_17.out.bl aP).bl (az _ (δ #[γ ε 0 0,γ ε 0 0,γ ε 0 0] 28)));have HG3_18:=qh ((HG3_17.out.bl aP).bl (az _ (δ #[γ ε 0 0,γ ε 0 0,γ ε 0 0] 28)));have HXb17_18:=qh (Whole.new_ w2 28 [γ ε 0 0,γ ε 0 0,γ ε 0 0])
   have Lb17:Hid (w.heap.size≤w2.heap.size):=qh (ag HB17.out aP).size;have Nb3b17:Hid (b3≠w2.heap.size):=qh (by have:=(HXb3_17.out.bl aP).lt;omega);have Nb6b17:Hid (b6≠w2.heap.size):=qh (by have:=(HXb6_17.out.bl aP).lt;omega);have Nb7b17:Hid (b7≠w2.heap.size):=qh (by have:=(HXb7_17.out.bl aP).lt;omega);have Nb10b17:Hid (b10≠w2.heap.size):=qh (by have:=(HXb10_17.out.bl aP).lt;omega);have Nb12b17:Hid (b12≠w2.heap.size):=qh (by have:=(HXb12_17.out.bl aP).lt;omega);have Nb14b17:Hid (b14≠w2.heap.size):=qh (by have:=(HXb14_17.out.bl aP).lt;omega);obtain⟨W18,gWn⟩:=aB (w2.alloc (δ #[γ ε 0 0,γ ε 0 0,γ ε 0 0] 28));obtain⟨b17,gbn⟩:=aB w2.heap.size;rw[gWn] at HB18 HXb3_18 HXb6_18 HXb7_18 HXb10_18 HXb12_18 HXb14_18 HD_18 HG_18 HD2_18 HG2_18 HD3_18 HG3_18 HXb17_18 ⊢;rw[gbn] at HXb17_18 Lb17 Nb3b17 Nb6b17 Nb7b17 Nb10b17 Nb12b17 Nb14b17 ⊢;clear gWn gbn HB17 HXb3_17 HXb6_17 HXb7_17 HXb10_17 HXb12_17 HXb14_17 HD_17 HG_17 HD2_17 HG2_17 HD3_17 HG3_17 aP Zk;have fb12_0:=HXb12_18.out.cell (i:=0) rfl;have fb12_1:=HXb12_18.out.cell (i:=1) rfl;have fb12_2:=HXb12_18.out.cell (i:=2) rfl;have fb12_3:=HXb12_18.out.cell (i:=3) rfl;have fb12_4:=HXb12_18.out.cell (i:=4) rfl;have fb10_0:=HXb10_18.out.cell (i:=0) rfl;have fb6_0:=HXb6_18.out.cell (i:=0) rfl;go_wp2;go_ret;exact⟨rfl,HB18.out⟩
def QT (p:Int × Int):List ψ:=[J p.1,J p.2]
theorem oW (H:Type):Row1 H η 30 QT (fun _ _=>True):=
 (jV Tryz.underlying30 (by kernel_rfl) (bZ (k:=1) (pF Tryz.underlying3) rfl (by kernel_rfl) (bZ (k:=1) (pF Tryz.underlying3) rfl (by kernel_rfl) (lr _)))).map
   (fun a=>(a.1,a.2.1)) (fun _=>rfl) (fun _ _ _=>trivial)
def U6 (d:Int × Int × Int):List ψ:=[J d.1,J d.2.1,J d.2.2]
theorem Ft (H:Type):Row1 H η 32 U6 (fun _ _=>True):=
 (jV Tryz.underlying32 (by kernel_rfl) (bZ (k:=2) (oW H) rfl (by kernel_rfl) (bZ (k:=1) (pF Tryz.underlying3) rfl (by kernel_rfl) (lr _)))).map
   (fun a=>(a.1.1,a.1.2,a.2.1)) (fun _=>rfl) (fun _ _ _=>trivial)
def Re (d:Int × Int × Int × Int × Int):List ψ:=[J d.1,J d.2.1,J d.2.2.1,J d.2.2.2.1,J d.2.2.2.2]
theorem uJ (H:Type):Row1 H η 34 Re (fun _ _=>True):=
 (jV Tryz.underlying34 (by kernel_rfl) (bZ (k:=2) (oW H) rfl (by kernel_rfl) (bZ (k:=3) (Ft H) rfl (by kernel_rfl) (lr _)))).map
   (fun a=>(a.1.1,a.1.2,a.2.1.1,a.2.1.2.1,a.2.1.2.2)) (fun _=>rfl) (fun _ _ _=>trivial)
theorem R8 (H:Type):Row1 H η 36 ak (fun _ o=>o.t.size≤maxLen):=
 (jV Tryz.underlying36 (by kernel_rfl) (bZ (k:=1) (pF Tryz.underlying3) rfl (by kernel_rfl) (bZ (k:=2) (oW H) rfl (by kernel_rfl) (bZ (k:=2) (oW H) rfl (by kernel_rfl) (bZ (k:=2) (oW H) rfl (by kernel_rfl)
   (bZ (k:=5) (uJ H) rfl (by kernel_rfl) (bZ (k:=5) (uJ H) rfl (by kernel_rfl) (bZ (k:=1) (I0 Tryz.underlying4) rfl (by kernel_rfl) (bZ (k:=1) (CY Tryz.underlying9) rfl (by kernel_rfl)
   (bZ (k:=1) (pF Tryz.underlying3) rfl (by kernel_rfl) (lr _))))))))))).map
   (fun a=>⟨a.1,a.2.1.1,a.2.1.2,a.2.2.1.1,a.2.2.1.2,a.2.2.2.1.1,a.2.2.2.1.2,a.2.2.2.2.1.1,a.2.2.2.2.1.2.1,a.2.2.2.2.1.2.2.1,a.2.2.2.2.1.2.2.2.1,a.2.2.2.2.1.2.2.2.2,
     a.2.2.2.2.2.1.1,a.2.2.2.2.2.1.2.1,a.2.2.2.2.2.1.2.2.1,a.2.2.2.2.2.1.2.2.2.1,a.2.2.2.2.2.1.2.2.2.2,a.2.2.2.2.2.2.1,a.2.2.2.2.2.2.2.1,a.2.2.2.2.2.2.2.2.1⟩) (fun _=>rfl) (fun _ _ h=>h.2.2.2.2.2.2.2.1)
theorem J0 (H:Type):Row1 H η 49 (Ay (α:=dR)) (TY 20 ak (fun _ o=>o.t.size≤maxLen)):=
 (jV Tryz.underlying49 (by kernel_rfl) (bZ (k:=1) (wm (R8 H) Tryz.underlying47 (by kernel_rfl) eB (by decide)) rfl (by kernel_rfl) (lr _))).map
   (fun a=>a.1) (fun _=>by simp) (fun _ _ h=>h.1)
section
open Go.ChangeShapes Go.WideShapes Go.ChangeAt Go.RowKit
namespace lawEditVertices
theorem contract (H:Type) (enc:TypeId × ψ→H) (W:World) (base:Nat) (args:Array ψ) (ds gs:List (DataW H)) (before:List MemPlace)
 (PY:∀(j:Nat) t v,Tryz.f6.params[j]? =some t→args[j]? =some v→Value.okWide η W .any base t v)
 (hW:DataW.Whole enc η Tryz.f6.params.toList Rows.editVerticesSpec.vars ρ W args.toList ds gs before):
 Ζ η 6 args W fun e W'=>∃v,e=.returned v∧Rows.editVerticesSpec.post enc η Tryz.f6 ρ true ρ ρ W args v W':=by
 have hW':=hW;obtain⟨p,q,hA,hV,rfl,hfz,AK⟩:=hW;obtain⟨rfl,rfl⟩:=trodVars_none hV;rw[Tryz.params6] at hA PY;obtain⟨v0,v1,d0,d1,p0,p1,rfl,rfl,rfl,h0,h1⟩:=trodAll_two hA;obtain⟨l,rfl,lQ⟩:=uT (J0 H) Tryz.underlying44 (by kernel_rfl) (fun _=>rfl) (by decide) (PY 0 44 v0 rfl rfl) h0;obtain⟨x,rfl,jq⟩:=open_row1_struct (oW H) Tryz.underlying30 (PY 1 30 v1 rfl rfl) h1
 refine(law_vertices l.1 l.2.1 l.2.2.1 l.2.2.2 x.1 x.2 W ⟨lQ.2.1,Λ lQ.2.1.le lQ.1,fun e q=>⟨(lQ.2.2 e q).2.1,Λ (lQ.2.2 e q).2.1.le (lQ.2.2 e q).1,(lQ.2.2 e q).2.2⟩⟩).mono fun e W' ⟨he,hb⟩=>⟨_,he,?_⟩
 exact NF Tryz.laidOut (by kernel_rfl) (tb:=4) (by kernel_rfl) Tryz.underlying4 rfl ⟨rfl,rfl,rfl⟩ hW' hb
theorem lifted (os:Os) (started:os.Started) (H:Type) (enc:TypeId × ψ→H):
 ReturnsInHanded {} Tryz.checked os 6 .any (Rows.editVerticesSpec.pre6 enc η Tryz.f6 Rows.editVerticesRow.domain ρ) (Rows.editVerticesSpec.post enc η Tryz.f6 ρ true ρ ρ):=by
 refine returnsInHanded_of_change (C:=Tryz.checked) Tryz.own started (by kernel_rfl) Tryz.func6
  (ChangeSpec.witness6 (enc:=enc) (C:=Tryz.checked) ρ ⟨#[],#[γ ε 0 0,φ #[J 0,J 0]],[]⟩ 8 (by kernel_rfl) (by kernel_rfl) (by kernel_rfl) (by kernel_rfl)) ?_
 intro W base args ds gs before PY hW _ _;exact contract H enc W base args ds gs before PY hW
theorem proved:Rows.EditVerticesSaid:=
 OpenClaim.holds_of_wide 6 Tryz.f6 rfl rfl rfl rfl rfl rfl rfl ⟨rfl,rfl,rfl,rfl,rfl⟩ rfl rfl rfl rfl rfl (by kernel_rfl) Tryz.func6 (by kernel_rfl)
  (of_decide_eq_true (by kernel_rfl)) (by unfold Func.isWrapper;first|(rw[if_pos (by decide+kernel)];kernel_rfl)|(rw[if_neg (by decide+kernel)];exact⟨rfl,rfl⟩))
  (fun os started H enc _=>lifted os started H enc)
end lawEditVertices
end
end Go.Proofs.YtpdpbfmiahjiiaaGreat
