/- Several texts in one. -/
import Derived.Test.YtpdpbfmiahjiiaaGreatPpAB
import Derived.Test.YtpdpbfmiahjiiaaGreatPpAO
import Derived.Test.YtpdpbfmiahjiiaaGreatPpAS
import Derived.Test.YtpdpbfmiahjiiaaGreatPpAT
import Derived.Test.YtpdpbfmiahjiiaaGreatPpAV
import Derived.Test.YtpdpbfmiahjiiaaGreatPpBC
set_option linter.unusedSectionVars false
set_option linter.unusedSimpArgs false
set_option linter.unusedVariables false
set_option maxRecDepth 100000
set_option maxHeartbeats 16000000
namespace Go.Proofs.YtpdpbfmiahjiiaaGreat
open Go.RowKit
open _root_.Go.Value renaming slice→γ,pointer→υ,agg→φ,oneCell'→Τ
open _root_.Go.Obj renaming cells→δ
open _root_.Option renaming none→ε,some→ζ
open _root_.Go.Proofs.Tryz renaming prog→η
open _root_.List renaming getElem?_eq_getElem→θ,map_cons→ι,map_nil→π,mem_of_getElem?→ω,mem_cons→Η,length_map→Ρ,map_congr_left→JaV,map_map→JaW
open _root_.Go.Act renaming put→ξ
open _root_.Go renaming World→ο,Value→ψ,Calls→Ζ,Addr→Κ,maxLen→Jap
open _root_.Bool renaming false→ρ,true→τ
open _root_.Go.RowKit renaming Below→σ
open _root_.Go.RowKit.Below renaming refl→Θ
open _root_.ByteArray renaming empty→Jaf
open _root_.Nat renaming zero_le→Jas
def Lk (R:SS × Int) (v:ψ) (W:ο):Prop:=∃A n c B m k C r rc Ws,v=.tuple #[φ #[γ A n c,γ B m k,γ C r rc],J R.2]∧aR W A n c Ws B m k R.1.2.1∧Ws.map vS=R.1.1∧aX W W.heap.size 6 C r rc (aj cB R.1.2.2)
theorem Lk.up {R:SS × Int} {v:ψ} {W W':ο} (h:Lk R v W) (hx:Ext W W'):Lk R v W':=by
 obtain⟨A,n,c,B,m,k,C,r,rc,Ws,e,h1,h2,h3⟩:=h;exact⟨A,n,c,B,m,k,C,r,rc,Ws,e,h1.bl hx,h2,h3.bl hx⟩
def Wc (R:SS) (v:ψ) (W:ο):Prop:=∃A n c B m k C r rc Ws,v=φ #[γ A n c,γ B m k,γ C r rc]∧aR W A n c Ws B m k R.2.1∧Ws.map vS=R.1∧aX W W.heap.size 6 C r rc (aj cB R.2.2)
theorem Wc.up {R:SS} {v:ψ} {W W':ο} (h:Wc R v W) (hx:Ext W W'):Wc R v W':=by
 obtain⟨A,n,c,B,m,k,C,r,rc,Ws,e,h1,h2,h3⟩:=h;exact⟨A,n,c,B,m,k,C,r,rc,Ws,e,h1.bl hx,h2,h3.bl hx⟩
theorem EU {W:ο} {A:Option Κ} {n c:Nat} {Vs:List VC} {B:Option Κ} {m k:Nat} {Es:List EC} {C:Option Κ} {r rc:Nat} {G:List Gn} (h:aR W A n c Vs B m k Es) (hg:aX W W.heap.size 6 C r rc (aj cB G)) (hS:fA (Vs.map vS,Es,G)) (PA:Option Κ) (pn pc:Nat) (L:List cZ) (hL:aX W W.heap.size 20 PA pn pc (aj aa L)) (xd:pn≤Jap) (ht:∀o∈L,o.t.size≤Jap):
 Ζ η 20 #[φ #[γ A n c,γ B m k,γ C r rc],φ #[γ PA pn pc]] W (ew W (iW (Vs.map vS,Es,G) L)):=by
 have tV:L.length=pn:=hL.rlen dt (by decide);have HM:Hid (∀X,σ W.heap.size W X→Ζ η 39 #[φ #[γ PA pn pc]] X fun e w'=>e=.returned (J (jx L))∧σ X.heap.size X w'):=qh (fun X hX=>Bq PA pn pc L X (hL.bl hX) xd ht)
 have h6:jx L=0→pn≤6:=fun h0=>by
  by_cases q:L.length<1∨6<L.length
  ·unfold jx at h0;rw[if_pos q] at h0;exact absurd h0 (by decide)
  ·omega
 have HT:=qh ht;have HLs:=qh hL;have VE:=qh tV;have Y7:=qh h;have iH:=qh hg;have xj:=qh hS;obtain⟨S0,gS0⟩:=ay ((Vs.map vS,Es,G));have P4:=qh gS0;rw[gS0] at xj ⊢;clear h hg hS hL xd tV ht gS0;obtain⟨R,gR⟩:=ay (iW S0 L);have HR:=qh gR;rw[gR];clear gR;obtain⟨x,gx⟩:=ay (jx L);rw[gx] at HM h6;have GX:=qh gx;have H6:=qh h6;clear gx h6;go_enter Tryz.func20,Tryz.ntmps20;go_upto_region 1 with fail
 obtain⟨W0,b0,b1,b2,bP,bK,cX,dN,aN,aI,aV,a8,-,-,kQ,-,jK,-,bz,mj,oK,km⟩:=jN W 28 [γ A n c,γ B m k,γ C r rc] 49 [γ PA pn pc] 28 [γ ε 0 0,γ ε 0 0,γ ε 0 0];rw[bP,dN,cX,bK];clear bP bK cX dN;have x1:=aI.out.cell (i:=0) rfl
 go_upto_region 2 with (first
  |(go_at_call 39
    refine(HM.out _ a8.out).mono ?_
    rintro e w2 ⟨rfl,ar⟩;have kH:=qh (af a8.out ar);have eU:=qh (aN.out.bl ar);have fi:=qh (aI.out.bl ar);have eT:=qh (aV.out.bl ar);clear ar x1 aN aI aV a8 HM))
 by_cases hx:x=0
 rotate_left
 ·obtain rfl:=(show iW S0 L=(cp,x) from by unfold iW;rw[GX.out,if_neg hx]).symm.trans HR.out;have z0:=eT.out.cell (i:=0) rfl;have z1:=eT.out.cell (i:=1) rfl;have z2:=eT.out.cell (i:=2) rfl;have y0:=eT.out.free 0;have y1:=eT.out.free 1;have y2:=eT.out.free 2;go_wp2;exact aG rfl b2 rfl rfl (((eT.out.set_ 0 (γ ε 0 0)).set_ 1 (γ ε 0 0)).set_ 2 (γ ε 0 0)) Tryz.underlying28 rfl (by kernel_rfl) rfl ⟨ε,0,0,ε,0,0,ε,0,0,[],rfl,eE _,rfl,aX.no _ _ _,((kH.out.setCell (p:=⟨b2,0,ε⟩) bz.out (γ ε 0 0)).setCell (p:=⟨b2,1,ε⟩) bz.out (γ ε 0 0)).setCell (p:=⟨b2,2,ε⟩) bz.out (γ ε 0 0)⟩
 subst hx;obtain⟨Wm,uQ⟩:=ay w2;rw[uQ] at kH eU fi eT ⊢;clear uQ;have hp6:pn≤6:=H6.out rfl;have HRa:Hid (iL S0 L=R):=qh ((by unfold iW;rw[if_pos GX.out]:iW S0 L=iL S0 L).symm.trans HR.out);have HMy:Hid (∀o∈L,ed o=0):=qh (CP GX.out);have HDm:Hid (aR Wm A n c Vs B m k S0.2.1):=qh (by rw[←P4.out];exact Y7.out.below kH.out);have HGm:Hid (aX Wm Wm.heap.size 6 C r rc (aj cB S0.2.2)):=qh (by rw[←P4.out];exact iH.out.bl kH.out);have HVm:Hid (Vs.map vS=S0.1):=qh (by rw[←P4.out]);clear HR GX H6 Y7 iH P4;go_upto_region 5 with fail
 go_loopw [7] (fun vi wr=>∃(j:Nat) (S:SS) (A1:Option Κ) (n1 c1:Nat) (B1:Option Κ) (m1 k1:Nat) (C1:Option Κ) (r1 pD:Nat) (oh:List VC),j≤pn∧vi=J (j:Int)∧Hid (Whole wr b0 28 [γ A1 n1 c1,γ B1 m1 k1,γ C1 r1 pD])∧Hid (Whole wr b1 49 [γ PA pn pc])∧Hid (Whole wr b2 28 [γ ε 0 0,γ ε 0 0,γ ε 0 0])∧Hid (σ W.heap.size W wr)∧Hid (aR wr A1 n1 c1 oh B1 m1 k1 S.2.1)∧Hid (oh.map vS=S.1)∧Hid (aX wr wr.heap.size 6 C1 r1 pD (aj cB S.2.2))∧Hid (fA S)∧Hid (iL S0 L=iL S (L.drop j))) (fun vi _=>pn - (intOf vi).toNat)
 case atStart=>exact⟨0,S0,A,n,c,B,m,k,C,r,rc,Vs,Jas _,rfl,eU,fi,eT,kH,HDm,HVm,HGm,xj,qh (by rw[List.drop_zero])⟩
 case round=>
  clear eU fi eT kH HDm HVm HGm xj;obtain⟨j,S,A1,n1,c1,B1,m1,k1,C1,r1,pD,oh,hj,rfl,H0,H1,H2,HB,HD,HV,HG,HS,HA⟩:=hrel;obtain⟨wo,ec⟩:=ay wr;rw[ec] at H0 H1 H2 HB HD HG ⊢;clear ec;have c0:=H1.out.cell (i:=0) rfl
  by_cases o4:j<pn
  rotate_left
  ·obtain rfl:pn=j:=by omega
   have HRe:Hid (iL S0 L=(S,0)):=qh (by
    have:=HA.out
    rwa [List.drop_of_length_le (by have:=VE.out;omega)] at this)
   obtain rfl:=HRe.out.symm.trans HRa.out;have z0:=H2.out.cell (i:=0) rfl;have z1:=H2.out.cell (i:=1) rfl;have z2:=H2.out.cell (i:=2) rfl;have y0:=H2.out.free 0;have y1:=H2.out.free 1;have y2:=H2.out.free 2;have x0:=H0.out.cell (i:=0) rfl;have x1:=H0.out.cell (i:=1) rfl;have x2:=H0.out.cell (i:=2) rfl;have k0:=aZ (a:=γ ε 0 0) (b:=γ ε 0 0) (d:=γ ε 0 0) (fun i=>by simp) (fun i=>by simp) (fun i=>by simp);have Fo:=aZ (a:=γ A1 n1 c1) (b:=γ ε 0 0) (d:=γ ε 0 0) (fun i=>by simp) (fun i=>by simp) (fun i=>by simp);have mW:=aZ (a:=γ A1 n1 c1) (b:=γ B1 m1 k1) (d:=γ ε 0 0) (fun i=>by simp) (fun i=>by simp) (fun i=>by simp);go_wp2;have s0:=H2.out;have s1:=s0.set_ 0 (γ A1 n1 c1);have s2:=s1.set_ 1 (γ B1 m1 k1);exact aG rfl b2 rfl rfl (s2.set_ 2 (γ C1 r1 pD)) Tryz.underlying28 rfl (by kernel_rfl) rfl ⟨A1,n1,c1,B1,m1,k1,C1,r1,pD,oh,rfl,bA (bA (bA HD.out s0 k0 0 _) s1 Fo 1 _) s2 mW 2 _,HV.out,bL (bL (bL HG.out s0 k0 0 _) s1 Fo 1 _) s2 mW 2 _,((HB.out.setCell (p:=⟨b2,0,ε⟩) bz.out (γ A1 n1 c1)).setCell (p:=⟨b2,1,ε⟩) bz.out (γ B1 m1 k1)).setCell (p:=⟨b2,2,ε⟩) bz.out (γ C1 r1 pD)⟩
  have rD:(j:Int)<(pn:Int):=by omega
  obtain⟨o,ho⟩:∃o,L[j]? =ζ o:=⟨_,θ (by have:=VE.out;omega)⟩
  obtain⟨pb,po,rfl,Wp,bM⟩:=HLs.out.place dt (by decide) (by omega);have VZ:=qh (bM j o ho);have HPb:=qh Wp;have HOj:=qh ho;have ho0:ed o=0:=HMy.out o (ω ho);have hto:=HT.out o (ω ho)
  have Js:Hid (∀X,Ext wo X→Ζ η 15 #[φ #[γ A1 n1 c1,γ B1 m1 k1,γ C1 r1 pD],φ (aa o).toArray] X fun e w'=>∃v,e=.returned v∧Lk (cF S o) v w'∧σ X.heap.size X w'):=qh (fun X hX=>by
   have hS1:fA (oh.map vS,S.2.1,S.2.2):=by rw[HV.out];exact HS.out
   have:=MT (HD.out.bl hX) (HG.out.bl hX) hS1 o hto
   refine this.mono ?_;rintro e w' ⟨A6,n6,c6,B6,m6,k6,C6,r6,yP,Su,rfl,hd,hm,hg,hb⟩
   have hk:jJ (oh.map vS,S.2.1,S.2.2) o=cF S o:=by
    unfold jJ;rw[if_pos ho0,HV.out]
   rw[hk] at hd hm hg ⊢;exact⟨_,rfl,⟨A6,n6,c6,B6,m6,k6,C6,r6,yP,Su,rfl,hd,hm,hg⟩,hb⟩)
  have Yg:=qh (HS.out.kind ho0);clear bM Wp ho ho0 hto;obtain⟨K,gK⟩:=ay (cF S o);have HKe:=qh gK;rw[gK] at Js Yg;clear gK;obtain⟨K1,x⟩:=K;go_upto_region 7 with fail
  obtain⟨WW,gWW⟩:=ay wo;rw[gWW] at H0 H1 H2 HB HD HG Js ⊢;clear gWW;have Q9:Hid (∀y,Ext WW.drew y→∀i u,(aa o)[i]? =ζ u→y.cell? ((⟨pb,po+j*20,ε⟩:Κ).add i)=ζ u):=qh (fun y hy i u hu=>(Below.cell (af (aL HB.out) hy) (p:=(⟨pb,po+j*20,ε⟩:Κ).add i) (by rw[cJ];exact HPb.out)).trans (VZ.out i u hu))
  have sV:Hid (∀y,Ext WW.drew y→y.cell? ⟨b0,0,ε⟩=ζ (γ A1 n1 c1)∧y.cell? ⟨b0,1,ε⟩=ζ (γ B1 m1 k1)∧y.cell? ⟨b0,2,ε⟩=ζ (γ C1 r1 pD)∧y.cell? ⟨b1,0,ε⟩=ζ (γ (ζ ⟨pb,po,ε⟩) pn pc)):=qh (fun y hy=>⟨(H0.out.dr.bl hy).cell (i:=0) rfl,
   (H0.out.dr.bl hy).cell (i:=1) rfl,
   (H0.out.dr.bl hy).cell (i:=2) rfl,
   (H1.out.dr.bl hy).cell (i:=0) rfl⟩)
  refine mP 11 9 (de WW.heap.size) (F6 [fun v W=>v=φ #[γ A1 n1 c1,γ B1 m1 k1,γ C1 r1 pD],fun v W=>v=υ (ζ ⟨b1,0,ε⟩),fun v W=>v=γ (ζ ⟨pb,po,ε⟩) pn pc,fun v W=>v=J (j:Int),fun v W=>v=υ (ζ ⟨pb,po+j*20,ε⟩),fun v W=>v=φ (aa o).toArray,fun v W=>Lk (K1,x) (v) (W),fun v W=>Lk (K1,x) (v) (W),fun v W=>Wc K1 (v) (W),fun v W=>v=J x,fun v W=>∃q,v=υ (ζ ⟨q,0,ε⟩)∧WW.heap.size≤q∧Whole (W) q 28 [γ ε 0 0,γ ε 0 0,γ ε 0 0]]) (Ext WW.drew) (by kernel_rfl) (by kernel_rfl) (by kernel_rfl) (by kernel_rfl) (by kernel_rfl) (by kernel_rfl) (by simp only[List.getElem?_toArray,List.getElem?_cons_succ,List.getElem?_cons_zero];exact rfl) (by kernel_rfl) (by kernel_rfl) (by kernel_rfl) ?_ (vZ (by
   intro Q hQ v w1 w2 h hx;simp only[Η,List.not_mem_nil,or_false] at hQ;rcases hQ with rfl|rfl|rfl|rfl|rfl|rfl|rfl|rfl|rfl|rfl|rfl
   ·exact(fun v w1 w2 h hx=>h) v w1 w2 h hx
   ·exact(fun v w1 w2 h hx=>h) v w1 w2 h hx
   ·exact(fun v w1 w2 h hx=>h) v w1 w2 h hx
   ·exact(fun v w1 w2 h hx=>h) v w1 w2 h hx
   ·exact(fun v w1 w2 h hx=>h) v w1 w2 h hx
   ·exact(fun v w1 w2 h hx=>h) v w1 w2 h hx
   ·exact(fun v w1 w2 h hx=>h.up hx) v w1 w2 h hx
   ·exact(fun v w1 w2 h hx=>h.up hx) v w1 w2 h hx
   ·exact(fun v w1 w2 h hx=>h.up hx) v w1 w2 h hx
   ·exact(fun v w1 w2 h hx=>h) v w1 w2 h hx
   ·exact(fun v w1 w2 h hx=>(by obtain⟨q,e1,e2,e3⟩:=h;exact⟨q,e1,e2,e3.bl hx⟩)) v w1 w2 h hx)) (fun _ _ h k=>h.trans k) (Ext.refl _) ?_ ?_ ?_
  ·exact fun _ _ _ _ h=>h
  ·intro i RZ;have lJ:i=0∨i=1∨i=2∨i=3∨i=4∨i=5∨i=6∨i=7∨i=8∨i=9∨i=10:=by omega
   rcases lJ with rfl|rfl|rfl|rfl|rfl|rfl|rfl|rfl|rfl|rfl|rfl
   ·refine bj ?_;intro xf y hg aK;obtain⟨Af,qR,ox,zT⟩:=sV.out _ hg;simp only[aP,ι,π,aC,ξ,aq,ak,ao];refine .inl ⟨by rfl,?_⟩;go_simp;exact⟨Ext.refl _,rfl⟩
   ·refine bj ?_;intro xf y hg aK;simp only[aP,ι,π,aC,ξ,aq,ak,ao];refine .inl ⟨by rfl,?_⟩;go_simp;exact⟨Ext.refl _,rfl⟩
   ·refine bj ?_;intro xf y hg aK;have d1:xf 1=υ (ζ ⟨b1,0,ε⟩):=aK 1 (by decide);obtain⟨Af,qR,ox,zT⟩:=sV.out _ hg;simp only[aP,ι,π,aC,ξ,aq,ak,ao];simp only[d1];refine .inl ⟨by rfl,?_⟩;go_simp;exact⟨Ext.refl _,rfl⟩
   ·refine bj ?_;intro xf y hg aK;simp only[aP,ι,π,aC,ξ,aq,ak,ao];refine .inl ⟨by rfl,?_⟩;go_simp;exact⟨Ext.refl _,rfl⟩
   ·refine bj ?_;intro xf y hg aK;have d2:xf 2=γ (ζ ⟨pb,po,ε⟩) pn pc:=aK 2 (by decide);have d3:xf 3=J (j:Int):=aK 3 (by decide);simp only[aP,ι,π,aC,ξ,aq,ak,ao];simp only[d2,d3];refine .inl ⟨by rfl,?_⟩;go_simp;exact⟨Ext.refl _,rfl⟩
   ·refine bj ?_;intro xf y hg aK;have d4:xf 4=υ (ζ ⟨pb,po+j*20,ε⟩):=aK 4 (by decide);obtain⟨Af,qR,ox,zT⟩:=sV.out _ hg;simp only[aP,ι,π,aC,ξ,aq,ak,ao];simp only[d4];exact .inl ⟨by rfl,jy (pz 36 (.tmp 28) rfl ⟨pb,po+j*20,ε⟩ rfl (aa o) _ (Q9.out y hg) Tryz.underlying36 rfl (by kernel_rfl)) (Ext.refl _) rfl⟩
   ·refine bj ?_;intro xf y hg aK;have d0:xf 0=φ #[γ A1 n1 c1,γ B1 m1 k1,γ C1 r1 pD]:=aK 0 (by decide);have d5:xf 5=φ (aa o).toArray:=aK 5 (by decide);simp only[aP,ι,π,aC,ξ,aq,ak,ao];simp only[d0,d5];refine .inl ⟨by rfl,eR (by go_simp;first|done|exact⟨rfl,rfl⟩|with_reducible rfl) ?_⟩
    refine(Js.out y ((Θ _ WW).drew.trans hg)).mono ?_
    rintro e w2 ⟨v,rfl,GV,hb⟩
    refine⟨_,rfl,hb,?_⟩
    show Lk (K1,x) ((_:ψ)) (w2);exact GV
   ·refine bj ?_;intro xf y hg aK;obtain⟨A6,n6,c6,B6,m6,k6,C6,r6,yP,Su,d6,hd6,hm6,Wn⟩:Lk (K1,x) (xf 6) (y):=aK 6 (by decide);simp only[aP,ι,π,aC,ξ,aq,ak,ao];simp only[d6];refine .inl ⟨by rfl,?_⟩;go_simp
    refine⟨Ext.refl _,?_⟩
    show Lk (K1,x) ((_:ψ)) (y);exact⟨A6,n6,c6,B6,m6,k6,C6,r6,yP,Su,rfl,hd6,hm6,Wn⟩
   ·refine bj ?_;intro xf y hg aK;obtain⟨A7,n7,c7,B7,m7,k7,C7,r7,rc7,Ws7,d7,hd7,hm7,VM⟩:Lk (K1,x) (xf 7) (y):=aK 7 (by decide);simp only[aP,ι,π,aC,ξ,aq,ak,ao];simp only[d7];refine .inl ⟨by rfl,?_⟩;go_simp
    refine⟨Ext.refl _,?_⟩
    show Wc K1 ((_:ψ)) (y);exact⟨A7,n7,c7,B7,m7,k7,C7,r7,rc7,Ws7,rfl,hd7,hm7,VM⟩
   ·refine bj ?_;intro xf y hg aK;obtain⟨A7,n7,c7,B7,m7,k7,C7,r7,rc7,Ws7,d7,hd7,hm7,VM⟩:Lk (K1,x) (xf 7) (y):=aK 7 (by decide);simp only[aP,ι,π,aC,ξ,aq,ak,ao];simp only[d7];refine .inl ⟨by rfl,?_⟩;go_simp;exact⟨Ext.refl _,rfl⟩
   ·refine bj ?_;intro xf y hg aK;simp only[aP,ι,π,aC,ξ,aq,ak,ao];refine .inl ⟨by rfl,jy (w':=y.alloc (δ #[γ ε 0 0,γ ε 0 0,γ ε 0 0] 28)) (by go_simp;first|done|exact rfl|exact⟨rfl,rfl⟩) (ax _ _) ?_⟩;show ∃q,(_:ψ)=υ (ζ ⟨q,0,ε⟩)∧WW.heap.size≤q∧Whole (y.alloc (δ #[γ ε 0 0,γ ε 0 0,γ ε 0 0] 28)) q 28 [γ ε 0 0,γ ε 0 0,γ ε 0 0]
    exact⟨y.heap.size,rfl,hg.size,Whole.new_ _ _ [γ ε 0 0,γ ε 0 0,γ ε 0 0]⟩
  ·intro xf y hg cN;obtain⟨A7,n7,c7,B7,m7,k7,C7,r7,rc7,Ws7,d7,hd7,hm7,VM⟩:Lk (K1,x) (xf 7) (y):=cN 7 (by decide) (by decide);simp only[aP,ι,π,aC,ξ,aq,ak,ao];simp only[d7]
   refine⟨J x,?_,rfl⟩
   apply dG;rfl;intro w' aB;go_simp;(try with_reducible rfl)
  intro xf y hg cN;obtain⟨A8,n8,c8,B8,m8,k8,C8,r8,uL,Ws8,d8,hd8,hm8,hg8⟩:Wc K1 (xf 8) (y):=cN 8 (by decide);have d9:xf 9=J x:=cN 9 (by decide);obtain⟨gr,d10,It,Cg⟩:∃q,xf 10=υ (ζ ⟨q,0,ε⟩)∧WW.heap.size≤q∧Whole (y) q 28 [γ ε 0 0,γ ε 0 0,γ ε 0 0]:=cN 10 (by decide)
  simp only[aP,ι,π,aC,ξ,aq,ak,ao];simp only[d8,d9,d10];clear cN d8 d9 d10;have Cf:=qh hd8;have NO:=qh hm8;have Ge:=qh hg8;clear hd8 hm8 hg8;have vW:=qh Cg;have zK:=qh (af (aL (Θ _ WW)) hg);have kJ:Hid (WW.heap.size≤gr):=qh It;clear It Cg;refine kI 11 ?_;intro w' aB
  refine⟨w'.setRow gr #[γ A8 n8 c8,γ B8 m8 k8,γ C8 r8 uL],bn 28 (.tmp 8) (.tmp 31) rfl gr rfl [γ A8 n8 c8,γ B8 m8 k8,γ C8 r8 uL] rfl 28 [γ ε 0 0,γ ε 0 0,γ ε 0 0] (vW.out.bl aB) (by kernel_rfl) rfl (by simp[Τ]),dV (show WW.heap.size≤gr from kJ.out) _,?_⟩
  have By:Hid (Whole (w'.setRow gr #[γ A8 n8 c8,γ B8 m8 k8,γ C8 r8 uL]) gr 28 [γ A8 n8 c8,γ B8 m8 k8,γ C8 r8 uL]):=qh (Whole.row (vW.out.bl aB) [γ A8 n8 c8,γ B8 m8 k8,γ C8 r8 uL]);have oZ:Hid (σ WW.heap.size WW (w'.setRow gr #[γ A8 n8 c8,γ B8 m8 k8,γ C8 r8 uL])):=qh (cC (af zK.out aB) kJ.out _);have M9:=qh (xC (Cf.out.bl aB) (vW.out.bl aB) (aZ (fun i=>by simp) (fun i=>by simp) (fun i=>by simp)) #[γ A8 n8 c8,γ B8 m8 k8,γ C8 r8 uL]);have MN:=qh ((Ge.out.bl aB).row_far (oF (DQ (Ge.out.bl aB) (vW.out.bl aB) (aZ (fun i=>by simp) (fun i=>by simp) (fun i=>by simp)))) #[γ A8 n8 c8,γ B8 m8 k8,γ C8 r8 uL]);obtain⟨V1,kN⟩:=ay (w'.setRow gr #[γ A8 n8 c8,γ B8 m8 k8,γ C8 r8 uL]);rw[kN] at By oZ M9 MN ⊢;clear aB kN vW zK;refine ag 12 ?_;refine aD (by kernel_rfl) ?_ _;intro W8 cE;have tY:=qh (By.out.bl cE);have mB:=qh (af oZ.out cE);have Cf:=qh (M9.out.bl cE);have Ge:=qh (MN.out.bl cE);clear M9 MN;clear cE By oZ;have K0:=qh (H0.out.bl mB.out);have K1_:=qh (H1.out.bl mB.out);have K2:=qh (H2.out.bl mB.out);have KB:=qh (af HB.out mB.out);have ZK:b0≠gr:=by have h1:=H0.out.lt;have h2:=kJ.out;omega
  have Hne:=qh ZK;clear ZK H0 H1 H2 HB HD HG mB sV kJ Q9 Js
  by_cases hx:x=0
  rotate_left
  ·have EL:Hid (iL S0 L=(cp,x)):=qh (by
    have:=zt HA.out HOj.out (by rw[HKe.out];exact hx)
    rwa [HKe.out] at this)
   obtain rfl:=EL.out.symm.trans HRa.out;have z0:=K2.out.cell (i:=0) rfl;have z1:=K2.out.cell (i:=1) rfl;have z2:=K2.out.cell (i:=2) rfl;have y0:=K2.out.free 0;have y1:=K2.out.free 1;have y2:=K2.out.free 2;go_wp2;exact aG rfl b2 rfl rfl (((K2.out.set_ 0 (γ ε 0 0)).set_ 1 (γ ε 0 0)).set_ 2 (γ ε 0 0)) Tryz.underlying28 rfl (by kernel_rfl) rfl ⟨ε,0,0,ε,0,0,ε,0,0,[],rfl,eE _,rfl,aX.no _ _ _,((KB.out.setCell (p:=⟨b2,0,ε⟩) bz.out (γ ε 0 0)).setCell (p:=⟨b2,1,ε⟩) bz.out (γ ε 0 0)).setCell (p:=⟨b2,2,ε⟩) bz.out (γ ε 0 0)⟩
  subst hx
  have HA2:Hid (iL S0 L=iL K1 (L.drop (j+1))):=qh (by
   have:=zw HA.out HOj.out (by rw[HKe.out])
   rwa [HKe.out] at this)
  clear HA;have a0:=tY.out.cell (i:=0) rfl;have a1:=tY.out.cell (i:=1) rfl;have a2:=tY.out.cell (i:=2) rfl;have z0:=K0.out.cell (i:=0) rfl;have z1:=K0.out.cell (i:=1) rfl;have z2:=K0.out.cell (i:=2) rfl;have y0:=K0.out.free 0;have y1:=K0.out.free 1;have y2:=K0.out.free 2;go_upto_region 6 with fail
  clear a0 a1 a2 z0 z1 z2 y0 y1 y2;have s0:=K0.out;have s1:=s0.set_ 0 (γ A8 n8 c8);have s2:=s1.set_ 1 (γ B8 m8 k8);have q0:=aZ (a:=γ A1 n1 c1) (b:=γ B1 m1 k1) (d:=γ C1 r1 pD) (fun i=>by simp) (fun i=>by simp) (fun i=>by simp);have q1:=aZ (a:=γ A8 n8 c8) (b:=γ B1 m1 k1) (d:=γ C1 r1 pD) (fun i=>by simp) (fun i=>by simp) (fun i=>by simp);have q2:=aZ (a:=γ A8 n8 c8) (b:=γ B8 m8 k8) (d:=γ C1 r1 pD) (fun i=>by simp) (fun i=>by simp) (fun i=>by simp);have J0:=qh (s2.set_ 2 (γ C8 r8 uL));have J1:=qh (((K1_.out.far (p:=⟨b0,0,ε⟩) (fun e=>mj.out e.symm) (γ A8 n8 c8)).far (p:=⟨b0,1,ε⟩) (fun e=>mj.out e.symm) (γ B8 m8 k8)).far (p:=⟨b0,2,ε⟩) (fun e=>mj.out e.symm) (γ C8 r8 uL));have J2:=qh (((K2.out.far (p:=⟨b0,0,ε⟩) (fun e=>oK.out e.symm) (γ A8 n8 c8)).far (p:=⟨b0,1,ε⟩) (fun e=>oK.out e.symm) (γ B8 m8 k8)).far (p:=⟨b0,2,ε⟩) (fun e=>oK.out e.symm) (γ C8 r8 uL));have JD:=qh (bA (bA (bA Cf.out s0 q0 0 (γ A8 n8 c8)) s1 q1 1 (γ B8 m8 k8)) s2 q2 2 (γ C8 r8 uL));have JG:=qh (bL (bL (bL Ge.out s0 q0 0 (γ A8 n8 c8)) s1 q1 1 (γ B8 m8 k8)) s2 q2 2 (γ C8 r8 uL));have JB:=qh (((KB.out.setCell (p:=⟨b0,0,ε⟩) kQ.out (γ A8 n8 c8)).setCell (p:=⟨b0,1,ε⟩) kQ.out (γ B8 m8 k8)).setCell (p:=⟨b0,2,ε⟩) kQ.out (γ C8 r8 uL));obtain⟨w9,gw9⟩:=ay (((W8.setCell ⟨b0,0,ε⟩ (γ A8 n8 c8)).setCell ⟨b0,1,ε⟩ (γ B8 m8 k8)).setCell ⟨b0,2,ε⟩ (γ C8 r8 uL))
  rw[gw9] at J0 J1 J2 JD JG JB ⊢;clear gw9 s0 s1 s2 q0 q1 q2 K0 K1_ K2 KB Cf Ge tY;go_wp2;go_roundw
  case rel=>exact⟨j+1,K1,A8,n8,c8,B8,m8,k8,C8,r8,uL,Ws8,by omega,by go_num,J0,J1,J2,JB,JD,NO,JG,Yg,HA2⟩
  case measure=>simp[intOf];omega
def OT (W:ο) (R:SS) (e:Ending) (w':ο):Prop:=
 ∃A n c B m k C r rc Ws,e=.returned (φ #[γ A n c,γ B m k,γ C r rc])∧aR w' A n c Ws B m k R.2.1∧Ws.map vS=R.1∧aX w' w'.heap.size 6 C r rc (aj cB R.2.2)∧σ W.heap.size W w'
theorem OL {W:ο} {A:Option Κ} {n c:Nat} {Vs:List VC} {B:Option Κ} {m k:Nat} {Es:List EC} {C:Option Κ} {r rc:Nat} {G:List Gn} (h:aR W A n c Vs B m k Es) (hg:aX W W.heap.size 6 C r rc (aj cB G)) (hS:fA (Vs.map vS,Es,G)) (PA:Option Κ) (pn pc:Nat) (L:List cZ) (hL:aX W W.heap.size 20 PA pn pc (aj aa L)) (xd:pn≤Jap) (ht:∀o∈L,o.t.size≤Jap):
 Ζ η 22 #[φ #[γ A n c,γ B m k,γ C r rc],φ #[γ PA pn pc]] W (OT W (AU (Vs.map vS,Es,G) L)):=by
 have HP:Hid (∀X,σ W.heap.size W X→Ζ η 20 #[φ #[γ A n c,γ B m k,γ C r rc],φ #[γ PA pn pc]] X (ew X (iW (Vs.map vS,Es,G) L))):=qh (fun X hX=>EU (h.below hX) (hg.bl hX) hS PA pn pc L (hL.bl hX) xd ht);have HO:=qh h;have Au:=qh hg;have HR:Hid (AU (Vs.map vS,Es,G) L=if (iW (Vs.map vS,Es,G) L).2=0 then(iW (Vs.map vS,Es,G) L).1 else(Vs.map vS,Es,G)):=qh rfl;obtain⟨T,gT⟩:=ay (AU (Vs.map vS,Es,G) L);obtain⟨⟨R1,x⟩,gR⟩:∃z,iW (Vs.map vS,Es,G) L=z:=⟨_,rfl⟩
 rw[gR] at HP HR;rw[gT] at HR ⊢;clear gT gR h hg hS hL xd ht;go_enter Tryz.func22,Tryz.ntmps22;go_upto_region 1 with fail
 obtain⟨W0,b0,b1,b2,bP,bK,cX,dN,aN,aI,aV,a8,-,-,kQ,-,jK,-,bz,mj,oK,km⟩:=jN W 28 [γ A n c,γ B m k,γ C r rc] 49 [γ PA pn pc] 28 [γ ε 0 0,γ ε 0 0,γ ε 0 0];rw[bP,dN,cX,bK];clear bP bK cX dN;have eD:=aN.out.cell (i:=0) rfl;have eI:=aN.out.cell (i:=1) rfl;have D9:=aN.out.cell (i:=2) rfl;have Zn:=aI.out.cell (i:=0) rfl
 go_upto_region 2 with (first
  |(go_at_call 20
    refine(HP.out _ a8.out).mono ?_
    rintro e w2 ⟨A9,n9,c9,B9,m9,k9,C9,r9,oO,CU,rfl,hd,hm,xw,ar⟩;have cy:=qh ar;have HD:=qh hd;have HM:=qh hm;have HG:=qh xw;clear ar hd hm xw eD eI D9 Zn))
 have ar:=cy.out;have cY:=qh (aE (af a8.out ar) (δ #[γ A9 n9 c9,γ B9 m9 k9,γ C9 r9 oO] 28));have a6:=qh ((aN.out.bl ar).al (δ #[γ A9 n9 c9,γ B9 m9 k9,γ C9 r9 oO] 28));have a7:=qh ((aI.out.bl ar).al (δ #[γ A9 n9 c9,γ B9 m9 k9,γ C9 r9 oO] 28));have az:=qh ((aV.out.bl ar).al (δ #[γ A9 n9 c9,γ B9 m9 k9,γ C9 r9 oO] 28));have Sw:=qh (HD.out.bl (ax _ (δ #[γ A9 n9 c9,γ B9 m9 k9,γ C9 r9 oO] 28)));have SZ:=qh (HG.out.bl (ax _ (δ #[γ A9 n9 c9,γ B9 m9 k9,γ C9 r9 oO] 28)));have bh:=qh (Whole.new_ w2 28 [γ A9 n9 c9,γ B9 m9 k9,γ C9 r9 oO]);have mg:Hid (W.heap.size≤w2.heap.size):=qh (af a8.out ar).size;have iY:Hid (b0≠w2.heap.size):=qh (by have:=(aN.out.bl ar).lt;omega);have iU:Hid (b1≠w2.heap.size):=qh (by have:=(aI.out.bl ar).lt;omega);have iX:Hid (b2≠w2.heap.size):=qh (by have:=(aV.out.bl ar).lt;omega);obtain⟨qT,cS⟩:=ay (w2.alloc (δ #[γ A9 n9 c9,γ B9 m9 k9,γ C9 r9 oO] 28));obtain⟨b3,dk⟩:=ay w2.heap.size;rw[cS] at cY a6 a7 az Sw SZ bh ⊢;rw[dk] at bh mg iY iU iX ⊢;clear cS dk a8 aN aI aV HD HG ar cy;clear HP
 by_cases hx:x=0
 ·obtain rfl:=(HR.out.trans (if_pos hx)).symm;subst hx;have z0:=az.out.cell (i:=0) rfl;have y0:=az.out.free 0;have z1:=az.out.cell (i:=1) rfl;have y1:=az.out.free 1;have z2:=az.out.cell (i:=2) rfl;have y2:=az.out.free 2;have v0:=bh.out.cell (i:=0) rfl;have w0:=a6.out.cell (i:=0) rfl;have v1:=bh.out.cell (i:=1) rfl;have w1:=a6.out.cell (i:=1) rfl;have v2:=bh.out.cell (i:=2) rfl;have w2:=a6.out.cell (i:=2) rfl;go_wp2;have s0:=az.out;have k0:=aZ (a:=γ ε 0 0) (b:=γ ε 0 0) (d:=γ ε 0 0) (fun i=>by simp) (fun i=>by simp) (fun i=>by simp);have Fo:=aZ (a:=γ A9 n9 c9) (b:=γ ε 0 0) (d:=γ ε 0 0) (fun i=>by simp) (fun i=>by simp) (fun i=>by simp);have mW:=aZ (a:=γ A9 n9 c9) (b:=γ B9 m9 k9) (d:=γ ε 0 0) (fun i=>by simp) (fun i=>by simp) (fun i=>by simp);have s1:=s0.set_ 0 (γ A9 n9 c9);have s2:=s1.set_ 1 (γ B9 m9 k9);exact bS rfl b2 rfl (s2.set_ 2 (γ C9 r9 oO)) Tryz.underlying28 rfl (by kernel_rfl) rfl ⟨A9,n9,c9,B9,m9,k9,C9,r9,oO,CU,rfl,bA (bA (bA Sw.out s0 k0 0 _) s1 Fo 1 _) s2 mW 2 _,HM.out,bL (bL (bL SZ.out s0 k0 0 _) s1 Fo 1 _) s2 mW 2 _,((cY.out.setCell (p:=⟨b2,0,ε⟩) bz.out (γ A9 n9 c9)).setCell (p:=⟨b2,1,ε⟩) bz.out (γ B9 m9 k9)).setCell (p:=⟨b2,2,ε⟩) bz.out (γ C9 r9 oO)⟩
 ·obtain rfl:=(HR.out.trans (if_neg hx)).symm;have z0:=az.out.cell (i:=0) rfl;have y0:=az.out.free 0;have z1:=az.out.cell (i:=1) rfl;have y1:=az.out.free 1;have z2:=az.out.cell (i:=2) rfl;have y2:=az.out.free 2;have v0:=bh.out.cell (i:=0) rfl;have w0:=a6.out.cell (i:=0) rfl;have v1:=bh.out.cell (i:=1) rfl;have w1:=a6.out.cell (i:=1) rfl;have v2:=bh.out.cell (i:=2) rfl;have w2:=a6.out.cell (i:=2) rfl;have HDo:=qh (HO.out.below cY.out);have Ln:=qh (Au.out.bl cY.out);go_wp2;have s0:=az.out;have k0:=aZ (a:=γ ε 0 0) (b:=γ ε 0 0) (d:=γ ε 0 0) (fun i=>by simp) (fun i=>by simp) (fun i=>by simp);have Fo:=aZ (a:=γ A n c) (b:=γ ε 0 0) (d:=γ ε 0 0) (fun i=>by simp) (fun i=>by simp) (fun i=>by simp);have mW:=aZ (a:=γ A n c) (b:=γ B m k) (d:=γ ε 0 0) (fun i=>by simp) (fun i=>by simp) (fun i=>by simp);have s1:=s0.set_ 0 (γ A n c);have s2:=s1.set_ 1 (γ B m k);exact bS rfl b2 rfl (s2.set_ 2 (γ C r rc)) Tryz.underlying28 rfl (by kernel_rfl) rfl ⟨A,n,c,B,m,k,C,r,rc,Vs,rfl,bA (bA (bA HDo.out s0 k0 0 _) s1 Fo 1 _) s2 mW 2 _,rfl,bL (bL (bL Ln.out s0 k0 0 _) s1 Fo 1 _) s2 mW 2 _,((cY.out.setCell (p:=⟨b2,0,ε⟩) bz.out (γ A n c)).setCell (p:=⟨b2,1,ε⟩) bz.out (γ B m k)).setCell (p:=⟨b2,2,ε⟩) bz.out (γ C r rc)⟩
def QC (n:Int):cZ:=⟨1,1,n,0,0,0,0,0,0,0,0,0,0,0,0,0,0,ρ,⟨#[]⟩,0⟩
def rmO:cZ:=⟨2,1,1,0,0,0,0,0,0,0,0,0,0,0,0,0,0,ρ,⟨#[]⟩,0⟩
theorem UN:iW cp [QC 1]=(([((1,1),[],Jaf,0)],[],[]),0):=rfl
theorem UF:jJ ([((1,1),[],Jaf,0)],[],[]) rmO=(cp,0):=rfl
theorem WG:fA ([((1,1),[],Jaf,0)],[],[]):=dP.kind (o:=QC 1) rfl
theorem TS (W:ο):aR W ε 0 0 [] ε 0 0 []:=⟨Bp _ _ _,Bp _ _ _,fun x hx=>by cases hx⟩
theorem yT.gone {W:ο} {lo:Nat} {A:Option Κ} {n c:Nat} {Vs:List VC} {B:Option Κ} {m k:Nat} {Es:List EC} {C:Option Κ} {r rc:Nat} {G:List Gn} (h:yT W lo A n c Vs B m k Es C r rc G):aX W W.heap.size 6 C r rc (aj cB G):=aJ h.gn
theorem BL (n:Int) (W:ο):Ζ η 42 #[J n] W fun e w'=>∃g,e=.returned (φ #[γ (ζ ⟨g,0,ε⟩) 1 1])∧Whole w' g 36 (aa (QC n))∧σ W.heap.size W w':=by
 go_enter Tryz.func42,Tryz.ntmps42;go_wp2;have h0:Whole ((W.alloc (δ #[γ (ζ ⟨W.heap.size+1,0,ε⟩) 1 1] 49)).alloc (δ (aa (QC n)).toArray 36)) W.heap.size 49 [γ (ζ ⟨W.heap.size+1,0,ε⟩) 1 1]:=(Whole.new_ W 49 [_]).al _;have h1:Whole ((W.alloc (δ #[γ (ζ ⟨W.heap.size+1,0,ε⟩) 1 1] 49)).alloc (δ (aa (QC n)).toArray 36)) (W.heap.size+1) 36 (aa (QC n)):=Whole.new2 (by simp);have hb:=aE (ax W (δ #[γ (ζ ⟨W.heap.size+1,0,ε⟩) 1 1] 49)) (δ (aa (QC n)).toArray 36);exact bS rfl W.heap.size rfl h0 Tryz.underlying49 rfl (by kernel_rfl) rfl ⟨_,rfl,h1,hb⟩
theorem Qa {o:cZ} (hk:o.k=1):Sc o:=fun _ _ _ _ _ _ _ _ _ _ _ _ _ _ _ _ _ h hS=>Mw h hS o hk
theorem Ri {o:cZ} (hk:o.k=2):Sc o:=fun _ _ _ _ _ _ _ _ _ _ _ _ _ _ _ _ _ h hS=>LN h hS o hk
theorem Dc (W:ο):Ζ η 12 #[] W fun e w'=>e=.returned (.bool τ)∧σ W.heap.size W w':=by
 have a8:Hid (σ W.heap.size W W):=qh (Θ _ _);go_enter Tryz.func12,Tryz.ntmps12
 go_upto_region 2 with (first
  |(go_at_call 17
    refine(Ed _).mono ?_
    rintro e w1 ⟨rfl,e8⟩;have eA:=qh (af a8.out e8);clear e8 a8)
  |(go_at_call 42
    refine(BL 1 _).mono ?_
    rintro e w2 ⟨g,rfl,jd,ar⟩;have bX:=qh (af eA.out ar);have VG:=qh jd;clear jd ar eA)
  |(go_at_call 18
    refine(JY (TS _) (Bp _ _ _) dP _ 1 1 [QC 1] (by rw[xJ];exact aX.of_whole VG.out rfl) (by decide) (fun u hu=>by obtain rfl:=List.mem_singleton.1 hu;exact Qa rfl)).mono ?_
    rintro e w3 ⟨bC,h3⟩;have hE:iW (([]:List VC).map vS,[],[]) [QC 1]=_:=UN;rw[hE] at h3;obtain⟨-,A,n,c,Vs,B,m,k,Es,C,r,rc,G,rfl,DJ,Lp⟩:=h3.resolve_right (fun h=>h.1 rfl);have cI:=qh (af bX.out bC);have kz:=qh DJ;have sO:=qh Lp;clear bC h3 hE DJ Lp bX VG))
 have hn:n=1:=by
  have h1:=kz.out.dg.v.rlen aQ (by decide);have h2:=congrArg (fun z:SS=>z.1.length) sO.out;have h3:(Vs.map vS).length=1:=h2;rw[Ρ] at h3;omega
 subst hn;have kZ:=qh (kz.out.up (ax w3 (δ #[γ A 1 c,γ B m k,γ C r rc] 28)));have gW:=qh (aE cI.out (δ #[γ A 1 c,γ B m k,γ C r rc] 28));have gS:=qh (Whole.new_ w3 28 [γ A 1 c,γ B m k,γ C r rc]);obtain⟨w4,MG⟩:=ay (w3.alloc (δ #[γ A 1 c,γ B m k,γ C r rc] 28));obtain⟨b4,Iw⟩:=ay w3.heap.size;rw[MG] at kZ gW gS ⊢;rw[Iw] at gS ⊢;have Ev:Hid (W.heap.size≤b4):=qh (Iw▸cI.out.size);clear MG Iw kz cI;have x0:=gS.out.cell (i:=0) rfl;have x1:=gS.out.cell (i:=1) rfl;have x2:=gS.out.cell (i:=2) rfl;have mY:Hid (fA (Vs.map vS,Es,G)):=qh (by rw[sO.out];exact WG)
 go_upto_region 3 with (first
  |(go_at_call 14
    refine(om kZ.out.dg kZ.out.gone mY.out rmO (Ri rfl)).mono ?_
    rintro e w5 ⟨fB,h5⟩;have hE:jJ (Vs.map vS,Es,G) rmO=_:=(congrArg (fun z=>jJ z rmO) sO.out).trans UF;rw[hE] at h5;obtain⟨-,A',n',c',Tm,B',m',k',Zt,C',r',rE,G',rfl,WA,he5⟩:=h5.resolve_right (fun h=>h.1 rfl);have gI:=qh (af gW.out fB);have dY:=qh (gS.out.bl fB)
    have hn':n'=0:=by
     have h1:=WA.dg.v.rlen aQ (by decide);have h2:=congrArg (fun z:SS=>z.1.length) he5;have h3:(Tm.map vS).length=0:=h2;rw[Ρ] at h3;omega
    subst hn';clear fB h5 hE WA he5 gW gS kZ mY x0 x1 x2))
 have y0:=(dY.out.al (δ #[γ A' 0 c',γ B' m' k',γ C' r' rE] 28)).cell (i:=0) rfl;have kF:=qh (aE gI.out (δ #[γ A' 0 c',γ B' m' k',γ C' r' rE] 28));clear gI dY;go_wp2;go_ret;exact⟨rfl,kF.out⟩
theorem fA.all:∀(L:List cZ) {S:SS},fA S→(∀o∈L,ed o=0)→fA (iL S L).1
 |[],S,h,_=>h
 |o::L,S,h,ho=>by
  have e:iL S (o::L)=if (cF S o).2=0 then iL (cF S o).1 L else(cp,(cF S o).2):=rfl
  by_cases hk:(cF S o).2=0
  ·rw[e,if_pos hk];exact fA.all L (h.kind (ho o (List.mem_cons_self))) (fun u hu=>ho u (List.mem_cons_of_mem _ hu))
  ·rw[e,if_neg hk];exact dP
theorem zA:∀{L:List cZ},fT L=0→∀o∈L,ed o=0
 |[],_,_,ho=>by cases ho
 |u::L,h,o,ho=>by
  have h1:(if ed u=0 then fT L else ed u)=0:=h
  by_cases q:ed u=0
  ·rw[if_pos q] at h1;rcases Η.1 ho with rfl|ho
   ·exact q
   ·exact zA h1 o ho
  ·rw[if_neg q] at h1;exact absurd h1 q
theorem Me {L:List cZ} (h:jx L=0):∀o∈L,ed o=0:=by
 unfold jx at h;split at h
 ·exact absurd h (by decide)
 ·exact zA h
theorem fA.edit {S:SS} (h:fA S) (L:List cZ):fA (iW S L).1:=by
 unfold iW
 by_cases q:jx L=0
 ·rw[if_pos q];exact h.all L (Me q)
 ·rw[if_neg q];exact dP
theorem fA.try_ {S:SS} (h:fA S) (L:List cZ):fA (AU S L):=by
 unfold AU;split
 ·exact h.edit L
 ·exact h
abbrev Zy:=Option Κ × Nat × Nat × List cZ
def edL (e:Zy):List ψ:=[γ e.1 e.2.1 e.2.2.1]
theorem Ia (e:Zy):(edL e).length=1:=rfl
structure MC (W:ο) (A:Option Κ) (n c:Nat) (Ls:List Zy):Prop where
 row:aX W W.heap.size 1 A n c (aj edL Ls)
 few:n≤Jap
 ops:∀e∈Ls,aX W W.heap.size 20 e.1 e.2.1 e.2.2.1 (aj aa e.2.2.2)∧e.2.1≤Jap∧∀o∈e.2.2.2,o.t.size≤Jap
def Reach (Q:SS→Prop) (W:ο) (e:Ending) (w':ο):Prop:=∃S,Q S∧OT W S e w'
theorem JJ (Q:SS→Prop) (q0:Q cp) (qs:∀S L,Q S→Q (AU S L)) (qok:∀S,Q S→fA S) (Al:Option Κ) (nl cl:Nat) (Ls:List Zy) (w:ο) (h:MC w Al nl cl Ls):
 Ζ η 26 #[γ Al nl cl] w (Reach Q w):=by
 have HR:=qh h.row;have HE:=qh h.ops;have Hl:Hid (Ls.length=nl):=qh (h.row.rlen Ia (by decide));have hnl:=h.few;have kx:=aE (ax w (δ #[γ ε 0 0,γ ε 0 0,γ ε 0 0] 28)) (δ #[γ ε 0 0,γ ε 0 0,γ ε 0 0] 28);have a8:=qh kx;have aV:Hid (Whole ((w.alloc (δ #[γ ε 0 0,γ ε 0 0,γ ε 0 0] 28)).alloc (δ #[γ ε 0 0,γ ε 0 0,γ ε 0 0] 28)) w.heap.size 28 [γ ε 0 0,γ ε 0 0,γ ε 0 0]):=qh ((Whole.new_ _ _ [_,_,_]).al _);have dp:Hid (Whole ((w.alloc (δ #[γ ε 0 0,γ ε 0 0,γ ε 0 0] 28)).alloc (δ #[γ ε 0 0,γ ε 0 0,γ ε 0 0] 28)) (w.heap.size+1) 28 [γ ε 0 0,γ ε 0 0,γ ε 0 0]):=qh (Whole.new2 (by simp));clear h kx;go_enter Tryz.func26,Tryz.ntmps26;go_upto_region 3 with fail
 obtain⟨W0,bP⟩:=ay ((w.alloc (δ #[γ ε 0 0,γ ε 0 0,γ ε 0 0] 28)).alloc (δ #[γ ε 0 0,γ ε 0 0,γ ε 0 0] 28));obtain⟨b3,p9⟩:=ay (w.heap.size+1);obtain⟨b2,dN⟩:=ay w.heap.size;have mg:Hid (w.heap.size≤b3):=qh (by omega);have bz:Hid (w.heap.size≤b2):=qh (by omega);have Wi:Hid (b2≠b3):=qh (by omega);rw[bP] at a8 aV dp ⊢;rw[p9] at dp ⊢;rw[dN] at aV ⊢;clear bP p9 dN;have Y7:Hid (aR W0 ε 0 0 [] ε 0 0 cp.2.1):=qh (eE _);have iH:Hid (aX W0 W0.heap.size 6 ε 0 0 (aj cB cp.2.2)):=qh (aX.no _ _ _);have Pr:Hid (([]:List VC).map vS=cp.1):=qh rfl;have HP0:=qh q0;have Hqs:=qh qs;have Hqo:=qh qok;clear q0 qs qok;go_loopw [4] (fun vi wr=>∃(i:Nat) (S:SS) (A1:Option Κ) (n1 c1:Nat) (B1:Option Κ) (m1 k1:Nat) (C1:Option Κ) (r1 pD:Nat) (oh:List VC),i≤30∧i≤nl∧vi=J (i:Int)∧Hid (σ w.heap.size w wr)∧Hid (Whole wr b2 28 [γ ε 0 0,γ ε 0 0,γ ε 0 0])∧Hid (Whole wr b3 28 [γ A1 n1 c1,γ B1 m1 k1,γ C1 r1 pD])∧Hid (aR wr A1 n1 c1 oh B1 m1 k1 S.2.1)∧Hid (oh.map vS=S.1)∧Hid (aX wr wr.heap.size 6 C1 r1 pD (aj cB S.2.2))∧Hid (Q S)) (fun vi _=>30 - (intOf vi).toNat)
 case atStart=>exact⟨0,cp,ε,0,0,ε,0,0,ε,0,0,[],Jas _,Jas _,rfl,a8,aV,dp,Y7,Pr,iH,HP0⟩
 case round=>
  clear a8 aV dp Y7 Pr iH HP0;obtain⟨i,S,A1,n1,c1,B1,m1,k1,C1,r1,pD,oh,aje,lh,rfl,HB,H2,H3,HD,HV,HG,HP⟩:=hrel;obtain⟨wo,ec⟩:=ay wr;rw[ec] at HB H2 H3 HD HG ⊢;clear ec
  by_cases fh:i<nl∧i<30
  ·obtain⟨qR,ox⟩:=fh;have hi1:(i:Int)<(nl:Int):=by omega
   have VA:(i:Int)<30:=by omega
   have yw:Ls[i]? =ζ (Ls[i]'(by have:=Hl.out;omega)):=θ _;obtain⟨⟨Ae,ne,ce,Le⟩,ge0⟩:∃e,Ls[i]'(by have:=Hl.out;omega)=e:=⟨_,rfl⟩
   rw[ge0] at yw;obtain⟨bb,off,rfl,bD,bM⟩:=HR.out.place Ia (by decide) (by omega);have q0:=bM i _ yw 0 _ rfl;simp only[Addr.add_lit,Nat.add_zero,Nat.mul_one] at q0;have HQ:=qh q0;have Qh:=qh bD;obtain⟨hle,hln,fh⟩:=HE.out _ (ω yw);have MS:=qh hle;have HLn:=qh hln;have xe:=qh fh;clear ge0 yw bM q0 bD hle hln fh;go_upto_region 5 with fail
   have sU:∀w',Kept aF wo.drew w'→w'.cell? ⟨bb,off+i,ε⟩=ζ (γ Ae ne ce):=fun w' h=>h.nil_cell (((aL HB.out).cell (p:=⟨bb,off+i,ε⟩) Qh.out).trans HQ.out)
   refine bT (aF) [7] (by kernel_rfl) ?_;refine fC 0 (hy:=bU (by rfl) 28 (.tmp 3) rfl b3 rfl 28 [γ A1 n1 c1,γ B1 m1 k1,γ C1 r1 pD] _ (fun w' h=>h.whole H3.out.dr (fun h=>h)) Tryz.underlying28 rfl (by kernel_rfl)) (h:=?_);refine bf 1 ?_;refine bf 2 ?_;refine bf 3 ?_;refine bf 4 ?_;refine kP 5 ?_;intro w' aB;have hx:=(Θ _ wo).drew.trans aB
   refine(Kt Ae ne ce Le w' (MS.out.bl (af HB.out hx)) HLn.out).mono ?_
   rintro e w9 ⟨n9,rfl,o0,hn9,o6⟩
   refine⟨_,rfl,Kept.of_below o6,?_⟩
   have oa:=qh o0;have MA:=qh hn9;have tX:Hid (σ wo.heap.size wo w9):=qh (Ext.trans hx o6);clear hx aB o0 hn9 o6;simp only[ξ,aq,ak,ao];refine kP 6 ?_;intro w' aB;have hx:σ wo.heap.size wo w':=Ext.trans tX.out aB;have e0:(oh.map vS,S.2.1,S.2.2)=S:=by rw[HV.out]
   have hS1:fA (oh.map vS,S.2.1,S.2.2):=by rw[e0];exact(Hqo.out _ HP.out)
   have htr:=OL (HD.out.bl hx) (HG.out.bl hx) hS1 Ae n9 ce _ (oa.out.bl aB) (by have:=MA.out;unfold Jap;omega) (fun o ho=>xe.out o (List.mem_of_mem_take ho));rw[e0] at htr;refine htr.mono ?_;rintro e vB ⟨A6,n6,c6,B6,m6,k6,C6,r6,yP,Su,rfl,hd,hm,hg,hb⟩
   refine⟨_,rfl,Kept.of_below hb,?_⟩
   have wx:=qh hd;have Uy:=qh hm;have HG6:=qh hg;have Xl:=qh (Hqs.out _ (Le.take 8) HP.out);have zZ:Hid (σ wo.heap.size wo vB):=qh (Ext.trans hx hb);clear hx aB e0 hS1 htr hd hm hg hb tX oa MA;simp only[ξ,aq,ak,ao];refine lK 7 ?_;intro w' aB;have hx:σ wo.heap.size wo w':=Ext.trans zZ.out aB;have hZ:=H3.out.bl hx;have s1:=hZ.set_ 0 (γ A6 n6 c6);have s2:=s1.set_ 1 (γ B6 m6 k6);have k0:=aZ (a:=γ A1 n1 c1) (b:=γ B1 m1 k1) (d:=γ C1 r1 pD) (fun i=>by simp) (fun i=>by simp) (fun i=>by simp);have Fo:=aZ (a:=γ A6 n6 c6) (b:=γ B1 m1 k1) (d:=γ C1 r1 pD) (fun i=>by simp) (fun i=>by simp) (fun i=>by simp);have mW:=aZ (a:=γ A6 n6 c6) (b:=γ B6 m6 k6) (d:=γ C1 r1 pD) (fun i=>by simp) (fun i=>by simp) (fun i=>by simp)
   refine⟨w'.setCells b3 0 [γ A6 n6 c6,γ B6 m6 k6,γ C6 r6 yP],eO 28 (.tmp 3) (.tmp 22) rfl b3 0 rfl [γ A6 n6 c6,γ B6 m6 k6,γ C6 r6 yP] rfl (hZ.there_ 0 3 (by simp)) (by kernel_rfl) (by simp[Τ]),?_⟩
   have K3:Hid (Whole (w'.setCells b3 0 [γ A6 n6 c6,γ B6 m6 k6,γ C6 r6 yP]) b3 28 [γ A6 n6 c6,γ B6 m6 k6,γ C6 r6 yP]):=qh (s2.set_ 2 (γ C6 r6 yP));have K2:Hid (Whole (w'.setCells b3 0 [γ A6 n6 c6,γ B6 m6 k6,γ C6 r6 yP]) b2 28 [γ ε 0 0,γ ε 0 0,γ ε 0 0]):=qh ((((H2.out.bl hx).far (p:=⟨b3,0,ε⟩) Wi.out (γ A6 n6 c6)).far (p:=⟨b3,1,ε⟩) Wi.out (γ B6 m6 k6)).far (p:=⟨b3,2,ε⟩) Wi.out (γ C6 r6 yP));have KD:Hid (aR (w'.setCells b3 0 [γ A6 n6 c6,γ B6 m6 k6,γ C6 r6 yP]) A6 n6 c6 Su B6 m6 k6 (AU S (Le.take 8)).2.1):=qh (bA (bA (bA (wx.out.bl aB) hZ k0 0 (γ A6 n6 c6)) s1 Fo 1 (γ B6 m6 k6)) s2 mW 2 (γ C6 r6 yP));have KG:Hid (aX (w'.setCells b3 0 [γ A6 n6 c6,γ B6 m6 k6,γ C6 r6 yP]) (w'.setCells b3 0 [γ A6 n6 c6,γ B6 m6 k6,γ C6 r6 yP]).heap.size 6 C6 r6 yP (aj cB (AU S (Le.take 8)).2.2)):=qh (bL (bL (bL (HG6.out.bl aB) hZ k0 0 (γ A6 n6 c6)) s1 Fo 1 (γ B6 m6 k6)) s2 mW 2 (γ C6 r6 yP));have KB:Hid (σ w.heap.size w (w'.setCells b3 0 [γ A6 n6 c6,γ B6 m6 k6,γ C6 r6 yP])):=qh ((((af HB.out hx).setCell (p:=⟨b3,0,ε⟩) mg.out (γ A6 n6 c6)).setCell (p:=⟨b3,1,ε⟩) mg.out (γ B6 m6 k6)).setCell (p:=⟨b3,2,ε⟩) mg.out (γ C6 r6 yP));obtain⟨V5,s5⟩:=ay (w'.setCells b3 0 [γ A6 n6 c6,γ B6 m6 k6,γ C6 r6 yP]);rw[s5] at K3 K2 KD KG KB ⊢
   clear s5 aB hx hZ s1 s2 k0 Fo mW wx HG6 zZ;(try simp only[ξ,aq,ak,ao]);refine eX (by kernel_rfl) ?_ _;intro w8 cE;have J2:=qh (K2.out.bl cE);have J3:=qh (K3.out.bl cE);have JD:=qh (KD.out.bl cE);have JG:=qh (KG.out.bl cE);have JB:=qh (af KB.out cE);clear cE K2 K3 KD KG KB sU;go_wp2;go_roundw
   case rel=>exact⟨i+1,AU S (Le.take 8),A6,n6,c6,B6,m6,k6,C6,r6,yP,Su,by omega,by omega,by go_num,JB,J2,J3,JD,Uy,JG,Xl⟩
   case measure=>simp[intOf];omega
  ·have yE:¬((i:Int)<(nl:Int)∧(i:Int)<30):=by omega
   have x0:=H3.out.cell (i:=0) rfl;have x1:=H3.out.cell (i:=1) rfl;have x2:=H3.out.cell (i:=2) rfl;have z0:=H2.out.cell (i:=0) rfl;have z1:=H2.out.cell (i:=1) rfl;have z2:=H2.out.cell (i:=2) rfl;have y0:=H2.out.free 0;have y1:=H2.out.free 1;have y2:=H2.out.free 2;have k0:=aZ (a:=γ ε 0 0) (b:=γ ε 0 0) (d:=γ ε 0 0) (fun i=>by simp) (fun i=>by simp) (fun i=>by simp);have Fo:=aZ (a:=γ A1 n1 c1) (b:=γ ε 0 0) (d:=γ ε 0 0) (fun i=>by simp) (fun i=>by simp) (fun i=>by simp);have mW:=aZ (a:=γ A1 n1 c1) (b:=γ B1 m1 k1) (d:=γ ε 0 0) (fun i=>by simp) (fun i=>by simp) (fun i=>by simp);have kE:=(fun s0 s1 s2=>⟨S,HP.out,A1,n1,c1,B1,m1,k1,C1,r1,pD,oh,rfl,bA (bA (bA HD.out s0 k0 0 _) s1 Fo 1 _) s2 mW 2 _,HV.out,bL (bL (bL HG.out s0 k0 0 _) s1 Fo 1 _) s2 mW 2 _,((HB.out.setCell (p:=⟨b2,0,ε⟩) bz.out (γ A1 n1 c1)).setCell (p:=⟨b2,1,ε⟩) bz.out (γ B1 m1 k1)).setCell (p:=⟨b2,2,ε⟩) bz.out (γ C1 r1 pD)⟩:Whole wo b2 28 [γ ε 0 0,γ ε 0 0,γ ε 0 0]→Whole (wo.setCell ⟨b2,0,ε⟩ (γ A1 n1 c1)) b2 28 [γ A1 n1 c1,γ ε 0 0,γ ε 0 0]→Whole ((wo.setCell ⟨b2,0,ε⟩ (γ A1 n1 c1)).setCell ⟨b2,1,ε⟩ (γ B1 m1 k1)) b2 28 [γ A1 n1 c1,γ B1 m1 k1,γ ε 0 0]→Reach Q w (.returned (φ #[γ A1 n1 c1,γ B1 m1 k1,γ C1 r1 pD])) (((wo.setCell ⟨b2,0,ε⟩ (γ A1 n1 c1)).setCell ⟨b2,1,ε⟩ (γ B1 m1 k1)).setCell ⟨b2,2,ε⟩ (γ C1 r1 pD)))
   have s0:=H2.out;have s1:=s0.set_ 0 (γ A1 n1 c1);have s2:=s1.set_ 1 (γ B1 m1 k1);have YQ:=qh (kE s0 s1 s2);have kz:=qh (s2.set_ 2 (γ C1 r1 pD));clear kE s0 s1 s2
   by_cases h1:i<nl
   ·have q1:(i:Int)<(nl:Int):=by omega
    have q2:¬(i:Int)<30:=by omega
    clear yE;go_wp2;exact bS rfl b2 rfl kz.out Tryz.underlying28 rfl (by kernel_rfl) rfl YQ.out
   ·have q1:¬(i:Int)<(nl:Int):=by omega
    clear yE;go_wp2;exact bS rfl b2 rfl kz.out Tryz.underlying28 rfl (by kernel_rfl) rfl YQ.out
theorem QD (V:List VS) (v:VS):bo (eY V v) v.1=τ:=eB.2 ⟨v,dx.2 (.inl rfl),rfl⟩
theorem ML {V:List VS} {v:VS} (h:bo V v.1=ρ):cL (eY V v) v.1=v.2.1:=by
 unfold cL
 have h1:(eY V v).find? (fun u=>decide (u.1=v.1))=ζ v:=by
  cases hf:(eY V v).find? (fun u=>decide (u.1=v.1)) with
  |none=>
   have:=List.find?_eq_none.1 hf v (dx.2 (.inl rfl))
   simp at this
  |some u=>
   have hu:=List.mem_of_find?_eq_some hf;have hp:=List.find?_some hf;rcases dx.1 hu with rfl|hu
   ·rfl
   ·exact absurd (of_decide_eq_true hp) (ju.1 h u hu)
 rw[h1]
theorem Ov {E:List EC} {x:Nm} (h:bN E x=τ):(iw E x).1∈E∧(iw E x).1.1=x∧(iw E x).2=τ:=by
 have h2:(iw E x).2=τ:=(lG E x).trans h;revert h2;unfold iw Jp;split
 ·rename_i v hv;intro _;exact⟨List.mem_of_find?_eq_some hv,by have q:=List.find?_some hv;simpa using q,rfl⟩
 ·intro q;cases q
theorem fA.end_ {V:List VS} {E:List EC} {G:List Gn} (h:fA (V,E,G)):(E.map (·.1)).Nodup:=pW.nodup h.fit.eup
theorem Mq {V:List VS} (h:wj V) {m f:D} (hm:cM V m=τ) (hf:cM V f=ρ):dn (dn V m f) f m=V:=by
 obtain⟨h2,hs⟩:=h.swp hm hf;have e1:=qy h2.keys h2.once h2.turned (o:=f) (x:=m) ((hs f).2 (.inl rfl));have e2:=qy h.keys h.once h.turned (o:=m) (x:=f) hm;rw[←e1,←e2]
 show(V.map (fun v=>uk v (aS (fo v.2.1 m f)))).map (fun v=>uk v (aS (fo v.2.1 f m)))=V
 rw[JaW]
 refine(JaV (fun v hv=>?_)).trans (List.map_id V)
 show uk v (aS (fo (aS (fo v.2.1 m f)) f m))=v;have hn:v.2.1.Nodup:=nM h.once hv;have S8:¬f∈v.2.1:=qB hf hv
 have e:aS (fo (aS (fo v.2.1 m f)) f m)=v.2.1:=by
  by_cases q:m∈v.2.1
  ·have hr:=iT (fo v.2.1 m f);have f1:f∈aS (fo v.2.1 m f):=(hr.mem f).1 ((tz hn q S8).2 (.inl rfl))
   have m1:¬m∈aS (fo v.2.1 m f):=fun z=>by
    rcases (tz hn q S8).1 ((hr.mem m).2 z) with y|y
    ·exact S8 (y▸q)
    ·exact y.1 rfl
   have e3:(fo v.2.1 m f).map (fun d=>if d=f then m else d)=v.2.1:=by
    rw[tm hn q S8,JaW]
    refine(JaV (fun d hd=>?_)).trans (List.map_id _)
    show(if (if d=m then f else d)=f then m else if d=m then f else d)=d
    by_cases z:d=m
    ·rw[if_pos z,if_pos rfl];exact z.symm
    ·rw[if_neg z,if_neg (show ¬d=f from fun y=>S8 (y▸hd))]
   have yS:=hr.map (fun d=>if d=f then m else d);rw[e3] at yS;rw[tm (lB (sR hn q S8)) f1 m1];exact(Dp yS hn).symm.trans (h.turned v hv)
  ·rw[AN q,h.turned v hv,AN S8,h.turned v hv]
 rw[e];rfl
def Lv (x v:Nm) (n:Int):cZ:=⟨5,x.1,x.2,v.1,v.2,v.1,v.2,0,0,0,0,0,0,0,0,0,0,ρ,⟨#[]⟩,n⟩
def yB (v o:Nm):cZ:=⟨6,v.1,v.2,0,0,o.1,o.2,0,0,0,0,0,0,0,0,0,0,ρ,⟨#[]⟩,0⟩
theorem PN (x v:Nm) {n:Int} (hn:0≤n∧n≤3):Sc (Lv x v n):=fun _ _ _ _ _ _ _ _ _ _ _ _ _ _ _ _ _ h hS=>MV h hS (Lv x v n) rfl ⟨trivial,hn⟩
theorem tc (v o:Nm):Sc (yB v o):=fun _ _ _ _ _ _ _ _ _ _ _ _ _ _ _ _ _ h hS=>MM h hS (yB v o) rfl
theorem Ha (S:SS) {x v:Nm} {n:Int} (hx:bQ x.1 x.2=τ) (hv:bQ v.1 v.2=τ) (hn:0≤n∧n≤3):jJ S (Lv x v n)=cx S x v v n:=by
 have h0:ed (Lv x v n)=0:=by
  show(if bQ x.1 x.2=τ∧eW (Lv x v n)=τ∧Lv x v n=kL (Lv x v n) then(if dX (ByteArray.mk #[])=τ then(0:Int) else 4) else 1)=0
  rw[if_pos ⟨hx,by show(bQ v.1 v.2 && bQ v.1 v.2 && decide (0≤n∧n≤3))=τ;rw[hv,decide_eq_true hn];rfl,rfl⟩,if_pos (show dX (ByteArray.mk #[])=τ from rfl)]
 unfold jJ;rw[if_pos h0];rfl
theorem tv (S:SS) {v o:Nm} (hv:bQ v.1 v.2=τ) (ho:bQ o.1 o.2=τ):jJ S (yB v o)=cV S v o:=by
 have h0:ed (yB v o)=0:=by
  show(if bQ v.1 v.2=τ∧eW (yB v o)=τ∧yB v o=kL (yB v o) then(if dX (ByteArray.mk #[])=τ then(0:Int) else 4) else 1)=0
  rw[if_pos ⟨hv,ho,rfl⟩,if_pos (show dX (ByteArray.mk #[])=τ from rfl)]
 unfold jJ;rw[if_pos h0];rfl
theorem zz (a b:D):aS [a,b]=[a,b]∨aS [a,b]=[b,a]:=by
 obtain⟨X,Y,h1,h2⟩:=iT [a,b];rw[h2];rcases X with _|⟨p,_|⟨q,X⟩⟩
 ·left;rw[List.append_nil];exact h1.symm
 ·right;obtain⟨rfl,rfl⟩:=List.cons.inj h1;rfl
 ·left;obtain⟨rfl,h3⟩:=List.cons.inj h1;obtain⟨rfl,h4⟩:=List.cons.inj h3;obtain⟨rfl,rfl⟩:=List.append_eq_nil_iff.1 h4.symm;rfl
def vA (V:List VS) (E:List EC) (G:List Gn) (x v:Nm) (n:Int):SS:=(eY (dn V (aU x (1 - n.tmod 2)) (aU v (1 - n.tdiv 2))) (v,aS [aU x (1 - n.tmod 2),aU v (n.tdiv 2)],Jaf,0),iP E (v,Jaf,0),G)
section
variable {V:List VS} {E:List EC} {G:List Gn} {x v:Nm} {n:Int}
theorem D4 (hx:bN E x=τ) (h1:bo V v=ρ) (h2:bN E v=ρ) (h3:¬24≤V.length) (h4:¬40≤E.length):cx (V,E,G) x v v n=(vA V E G x v n,0):=by
 unfold cx;rw[if_neg (by rw[show bN (V,E,G).2.1 x=τ from hx];decide),if_neg (by rw[show bo (V,E,G).1 v=ρ from h1,show bN (V,E,G).2.1 v=ρ from h2];decide),if_neg (by show ¬(24≤V.length∨40≤E.length);omega)];rfl
theorem oL (h1:bo V v=ρ):bo (vA V E G x v n).1 v=τ∧cL (vA V E G x v n).1 v=aS [aU x (1 - n.tmod 2),aU v (n.tdiv 2)]:=
 ⟨QD _ (v,_),ML (v:=(v,_)) ((nj (jT _ _ _) v).trans h1)⟩
theorem yc (tW:¬x=v) (s t:Int) (o:Nm) (ho:o=v∨(¬o=v∧¬o=x)):gH (aS [aU x s,aU v t]) o=if o=v then ζ (aU x s,aU v t) else ε:=by
 have a1:¬dS (aU x s)=dS (aU v t):=tW;have a2:¬dS (aU v t)=dS (aU x s):=fun q=>tW q.symm
 rcases zz (aU x s) (aU v t) with e|e
 ·rw[e]
  show(if dS (aU x s)=dS (aU v t) then ε else if dS (aU x s)=o then ζ (aU v t,aU x s) else if dS (aU v t)=o then ζ (aU x s,aU v t) else ε)=_
  rw[if_neg a1];rcases ho with rfl|⟨h1,h2⟩
  ·rw[if_neg (show ¬dS (aU x s)=o from tW),if_pos (show dS (aU o t)=o from rfl),if_pos rfl]
  ·rw[if_neg (show ¬dS (aU x s)=o from fun q=>h2 q.symm),if_neg (show ¬dS (aU v t)=o from fun q=>h1 q.symm),if_neg h1]
 ·rw[e]
  show(if dS (aU v t)=dS (aU x s) then ε else if dS (aU v t)=o then ζ (aU x s,aU v t) else if dS (aU x s)=o then ζ (aU v t,aU x s) else ε)=_
  rw[if_neg a2];rcases ho with rfl|⟨h1,h2⟩
  ·rw[if_pos (show dS (aU o t)=o from rfl),if_pos rfl]
  ·rw[if_neg (show ¬dS (aU v t)=o from fun q=>h1 q.symm),if_neg (show ¬dS (aU x s)=o from fun q=>h2 q.symm),if_neg h1]
theorem WL (n:Int) (hn:0≤n∧n≤3):(1 - n.tmod 2=0∨1 - n.tmod 2=1):=by
 obtain⟨h1,h2⟩:=hn
 have:n=0∨n=1∨n=2∨n=3:=by omega
 rcases this with rfl|rfl|rfl|rfl<;>decide
theorem qJ (tW:¬x=v) (h1:bo V v=ρ) {o:Nm} (ho:¬o=v) (hox:¬o=x):cV (vA V E G x v n) v o=(cp,14):=by
 obtain⟨r1,r2⟩:=oL (E:=E) (G:=G) (x:=x) (n:=n) h1;unfold cV;rw[if_neg (by rw[r1];decide),r2,yc tW _ _ o (.inr ⟨ho,hox⟩),if_neg ho]
theorem GU (hS:fA (V,E,G)) (hx:bN E x=τ) (h1:bo V v=ρ) (h2:bN E v=ρ) (hn:0≤n∧n≤3):∃G',cV (vA V E G x v n) v v=((V,E,G'),0):=by
 have tW:¬x=v:=fun q=>by rw[q,h2] at hx;cases hx
 obtain⟨r1,r2⟩:=oL (E:=E) (G:=G) (x:=x) (n:=n) h1;have hv2:bo (dn V (aU x (1 - n.tmod 2)) (aU v (1 - n.tdiv 2))) v=ρ:=(nj (jT _ _ _) v).trans h1;have c1:dw (vA V E G x v n).1 v=dn V (aU x (1 - n.tmod 2)) (aU v (1 - n.tdiv 2)):=xi (k:=fun v:VS=>v.1) (v:=(v,aS [aU x (1 - n.tmod 2),aU v (n.tdiv 2)],Jaf,(0:Int))) (ju.1 hv2);have c2:js (vA V E G x v n).2.1 v=E:=xi (k:=fun e:EC=>e.1) (v:=(v,Jaf,(0:Int))) (ju.1 h2)
 have hm:cM V (aU x (1 - n.tmod 2))=τ:=by
  have:=hS.fit.end_ (x:=x) hx
  rcases WL n hn with e|e<;>rw[e]
  ·exact this.1
  ·exact this.2
 have hf:cM V (aU v (1 - n.tdiv 2))=ρ:=hS.fit.no_ (d:=aU v (1 - n.tdiv 2)) h2;have hb:=Mq hS.fit.rg hm hf;unfold cV;rw[if_neg (by rw[r1];decide),r2,yc tW _ _ v (.inl rfl),if_pos rfl]
 refine⟨_,Prod.ext (Prod.ext ?_ (Prod.ext c2 rfl)) rfl⟩
 show dn (dw (vA V E G x v n).1 v) (aU v (1 - n.tdiv 2)) (aU x (1 - n.tmod 2))=V;rw[c1];exact hb
end
end Go.Proofs.YtpdpbfmiahjiiaaGreat
