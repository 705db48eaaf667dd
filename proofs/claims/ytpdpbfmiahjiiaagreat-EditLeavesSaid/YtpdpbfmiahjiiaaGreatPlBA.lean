/- Several texts in one. -/
import Derived.Test.YtpdpbfmiahjiiaaGreatPlAB
import Derived.Test.YtpdpbfmiahjiiaaGreatPlAH
import Derived.Test.YtpdpbfmiahjiiaaGreatPlAJ
import Derived.Test.YtpdpbfmiahjiiaaGreatPlAN
import Derived.Test.YtpdpbfmiahjiiaaGreatPlAP
import Derived.Test.YtpdpbfmiahjiiaaGreatPlAQ
import Derived.Test.YtpdpbfmiahjiiaaGreatPlAS
import Derived.Test.YtpdpbfmiahjiiaaGreatPlAZ
set_option linter.unusedSectionVars false
set_option linter.unusedSimpArgs false
set_option linter.unusedVariables false
set_option maxRecDepth 100000
set_option maxHeartbeats 16000000
namespace Go.Proofs.YtpdpbfmiahjiiaaGreat
open Go.RowKit
open _root_.Go.Value renaming slice→γ,pointer→υ,agg→φ,oneCell'→Τ
open _root_.Go.Obj renaming cells→δ
open _root_.Option renaming none→ε,some→ζ
open _root_.Go.Proofs.Tryz renaming prog→η
open _root_.List renaming getElem?_eq_getElem→θ,map_cons→ι,getElem?_eq_some_iff→ν,map_nil→π,getD_eq_getElem?_getD→χ,mem_of_getElem?→ω,mem_map→Α,mem_cons→Η,length_map→Ρ,getElem?_map→Ψ
open _root_.Go.Act renaming put→ξ
open _root_.Go renaming World→ο,Value→ψ,Calls→Ζ,Addr→Κ,maxLen→Jap
open _root_.Bool renaming false→ρ,true→τ
open _root_.Go.RowKit renaming Below→σ
open _root_.Go.RowKit.Below renaming refl→Θ
open _root_.ByteArray renaming empty→Jaf
open _root_.Nat renaming zero_le→Jas
def IB (R:SS × Int) (v:ψ) (W:ο):Prop:=∃A n c B m k C r rc Ws,v=.tuple #[φ #[γ A n c,γ B m k,γ C r rc],J R.2]∧aO W A n c Ws B m k R.1.2.1∧Ws.map vS=R.1.1∧aS W W.heap.size 6 C r rc (ao cj R.1.2.2)
theorem IB.up {R:SS × Int} {v:ψ} {W W':ο} (h:IB R v W) (hx:Ext W W'):IB R v W':=by
 obtain⟨A,n,c,B,m,k,C,r,rc,Ws,e,h1,h2,h3⟩:=h;exact⟨A,n,c,B,m,k,C,r,rc,Ws,e,h1.bl hx,h2,h3.bl hx⟩
def SK (R:SS) (v:ψ) (W:ο):Prop:=∃A n c B m k C r rc Ws,v=φ #[γ A n c,γ B m k,γ C r rc]∧aO W A n c Ws B m k R.2.1∧Ws.map vS=R.1∧aS W W.heap.size 6 C r rc (ao cj R.2.2)
theorem SK.up {R:SS} {v:ψ} {W W':ο} (h:SK R v W) (hx:Ext W W'):SK R v W':=by
 obtain⟨A,n,c,B,m,k,C,r,rc,Ws,e,h1,h2,h3⟩:=h;exact⟨A,n,c,B,m,k,C,r,rc,Ws,e,h1.bl hx,h2,h3.bl hx⟩
theorem Ch {W:ο} {A:Option Κ} {n c:Nat} {Vs:List VC} {B:Option Κ} {m k:Nat} {Es:List EC} {C:Option Κ} {r rc:Nat} {G:List Gn} (h:aO W A n c Vs B m k Es) (hg:aS W W.heap.size 6 C r rc (ao cj G)) (hS:il (Vs.map vS,Es,G)) (PA:Option Κ) (pn pc:Nat) (L:List cO) (hL:aS W W.heap.size 20 PA pn pc (ao aa L)) (MV:pn≤Jap) (ht:∀o∈L,o.t.size≤Jap):
 Ζ η 20 #[φ #[γ A n c,γ B m k,γ C r rc],φ #[γ PA pn pc]] W (dH W (fS (Vs.map vS,Es,G) L)):=by
 have sw:L.length=pn:=hL.rlen cP (by decide);have HM:Hid (∀X,σ W.heap.size W X→Ζ η 39 #[φ #[γ PA pn pc]] X fun e w'=>e=.returned (J (iS L))∧σ X.heap.size X w'):=qh (fun X hX=>yP PA pn pc L X (hL.bl hX) MV ht)
 have h6:iS L=0→pn≤6:=fun h0=>by
  by_cases q:L.length<1∨6<L.length
  ·unfold iS at h0;rw[if_pos q] at h0;exact absurd h0 (by decide)
  ·omega
 have HT:=qh ht;have Xc:=qh hL;have S6:=qh sw;have Tr:=qh h;have im:=qh hg;have uo:=qh hS;obtain⟨S0,Zh⟩:=az ((Vs.map vS,Es,G));have Nv:=qh Zh;rw[Zh] at uo ⊢;clear h hg hS hL MV sw ht Zh;obtain⟨R,gR⟩:=az (fS S0 L);have HR:=qh gR;rw[gR];clear gR;obtain⟨x,gx⟩:=az (iS L);rw[gx] at HM h6;have GX:=qh gx;have H6:=qh h6;clear gx h6;go_enter Tryz.func20,Tryz.ntmps20;go_upto_region 1 with fail
 obtain⟨W0,b0,b1,b2,bJ,bS,cJ,dA,aR,aQ,bj,bn,-,-,j4,-,fD,-,a8,kY,mJ,ni⟩:=jm W 28 [γ A n c,γ B m k,γ C r rc] 49 [γ PA pn pc] 28 [γ ε 0 0,γ ε 0 0,γ ε 0 0];rw[bJ,dA,cJ,bS];clear bJ bS cJ dA;have x1:=aQ.out.cell (i:=0) rfl
 go_upto_region 2 with (first
  |(go_at_call 39
    refine(HM.out _ bn.out).mono ?_
    rintro e w2 ⟨rfl,ar⟩;have jZ:=qh (af bn.out ar);have gG:=qh (aR.out.bl ar);have gW:=qh (aQ.out.bl ar);have fh:=qh (bj.out.bl ar);clear ar x1 aR aQ bj bn HM))
 by_cases hx:x=0
 rotate_left
 ·obtain rfl:=(show fS S0 L=(cC,x) from by unfold fS;rw[GX.out,if_neg hx]).symm.trans HR.out;have z0:=fh.out.cell (i:=0) rfl;have z1:=fh.out.cell (i:=1) rfl;have z2:=fh.out.cell (i:=2) rfl;have y0:=fh.out.free 0;have y1:=fh.out.free 1;have y2:=fh.out.free 2;go_wp2;exact aE rfl b2 rfl rfl (((fh.out.set_ 0 (γ ε 0 0)).set_ 1 (γ ε 0 0)).set_ 2 (γ ε 0 0)) Tryz.underlying28 rfl (by kernel_rfl) rfl ⟨ε,0,0,ε,0,0,ε,0,0,[],rfl,dM _,rfl,aS.no _ _ _,((jZ.out.setCell (p:=⟨b2,0,ε⟩) a8.out (γ ε 0 0)).setCell (p:=⟨b2,1,ε⟩) a8.out (γ ε 0 0)).setCell (p:=⟨b2,2,ε⟩) a8.out (γ ε 0 0)⟩
 subst hx;obtain⟨Wm,s8⟩:=az w2;rw[s8] at jZ gG gW fh ⊢;clear s8;have hp6:pn≤6:=H6.out rfl;have HRa:Hid (hY S0 L=R):=qh ((by unfold fS;rw[if_pos GX.out]:fS S0 L=hY S0 L).symm.trans HR.out);have HMy:Hid (∀o∈L,cW o=0):=qh (AQ GX.out);have Xm:Hid (aO Wm A n c Vs B m k S0.2.1):=qh (by rw[←Nv.out];exact Tr.out.below jZ.out);have HGm:Hid (aS Wm Wm.heap.size 6 C r rc (ao cj S0.2.2)):=qh (by rw[←Nv.out];exact im.out.bl jZ.out);have HVm:Hid (Vs.map vS=S0.1):=qh (by rw[←Nv.out]);clear HR GX H6 Tr im Nv;go_upto_region 5 with fail
 go_loopw [7] (fun vi wr=>∃(j:Nat) (S:SS) (A1:Option Κ) (n1 c1:Nat) (B1:Option Κ) (m1 k1:Nat) (C1:Option Κ) (r1 mH:Nat) (kG:List VC),j≤pn∧vi=J (j:Int)∧Hid (Whole wr b0 28 [γ A1 n1 c1,γ B1 m1 k1,γ C1 r1 mH])∧Hid (Whole wr b1 49 [γ PA pn pc])∧Hid (Whole wr b2 28 [γ ε 0 0,γ ε 0 0,γ ε 0 0])∧Hid (σ W.heap.size W wr)∧Hid (aO wr A1 n1 c1 kG B1 m1 k1 S.2.1)∧Hid (kG.map vS=S.1)∧Hid (aS wr wr.heap.size 6 C1 r1 mH (ao cj S.2.2))∧Hid (il S)∧Hid (hY S0 L=hY S (L.drop j))) (fun vi _=>pn - (intOf vi).toNat)
 case atStart=>exact⟨0,S0,A,n,c,B,m,k,C,r,rc,Vs,Jas _,rfl,gG,gW,fh,jZ,Xm,HVm,HGm,uo,qh (by rw[List.drop_zero])⟩
 case round=>
  clear gG gW fh jZ Xm HVm HGm uo;obtain⟨j,S,A1,n1,c1,B1,m1,k1,C1,r1,mH,kG,hj,rfl,H0,H1,H2,HB,HD,HV,HG,HS,HA⟩:=hrel;obtain⟨wo,dB⟩:=az wr;rw[dB] at H0 H1 H2 HB HD HG ⊢;clear dB;have c0:=H1.out.cell (i:=0) rfl
  by_cases nF:j<pn
  rotate_left
  ·obtain rfl:pn=j:=by omega
   have HRe:Hid (hY S0 L=(S,0)):=qh (by
    have:=HA.out
    rwa [List.drop_of_length_le (by have:=S6.out;omega)] at this)
   obtain rfl:=HRe.out.symm.trans HRa.out;have z0:=H2.out.cell (i:=0) rfl;have z1:=H2.out.cell (i:=1) rfl;have z2:=H2.out.cell (i:=2) rfl;have y0:=H2.out.free 0;have y1:=H2.out.free 1;have y2:=H2.out.free 2;have x0:=H0.out.cell (i:=0) rfl;have x1:=H0.out.cell (i:=1) rfl;have x2:=H0.out.cell (i:=2) rfl;have k0:=aP (a:=γ ε 0 0) (b:=γ ε 0 0) (d:=γ ε 0 0) (fun i=>by simp) (fun i=>by simp) (fun i=>by simp);have Cr:=aP (a:=γ A1 n1 c1) (b:=γ ε 0 0) (d:=γ ε 0 0) (fun i=>by simp) (fun i=>by simp) (fun i=>by simp);have lZ:=aP (a:=γ A1 n1 c1) (b:=γ B1 m1 k1) (d:=γ ε 0 0) (fun i=>by simp) (fun i=>by simp) (fun i=>by simp);go_wp2;have s0:=H2.out;have s1:=s0.set_ 0 (γ A1 n1 c1);have s2:=s1.set_ 1 (γ B1 m1 k1);exact aE rfl b2 rfl rfl (s2.set_ 2 (γ C1 r1 mH)) Tryz.underlying28 rfl (by kernel_rfl) rfl ⟨A1,n1,c1,B1,m1,k1,C1,r1,mH,kG,rfl,bf (bf (bf HD.out s0 k0 0 _) s1 Cr 1 _) s2 lZ 2 _,HV.out,bu (bu (bu HG.out s0 k0 0 _) s1 Cr 1 _) s2 lZ 2 _,((HB.out.setCell (p:=⟨b2,0,ε⟩) a8.out (γ A1 n1 c1)).setCell (p:=⟨b2,1,ε⟩) a8.out (γ B1 m1 k1)).setCell (p:=⟨b2,2,ε⟩) a8.out (γ C1 r1 mH)⟩
  have qd:(j:Int)<(pn:Int):=by omega
  obtain⟨o,ho⟩:∃o,L[j]? =ζ o:=⟨_,θ (by have:=S6.out;omega)⟩
  obtain⟨pb,po,rfl,Tg,bD⟩:=Xc.out.place cP (by decide) (by omega);have NO:=qh (bD j o ho);have HPb:=qh Tg;have HOj:=qh ho;have ho0:cW o=0:=HMy.out o (ω ho);have Xy:=HT.out o (ω ho)
  have Gy:Hid (∀X,Ext wo X→Ζ η 15 #[φ #[γ A1 n1 c1,γ B1 m1 k1,γ C1 r1 mH],φ (aa o).toArray] X fun e w'=>∃v,e=.returned v∧IB (bO S o) v w'∧σ X.heap.size X w'):=qh (fun X hX=>by
   have Xx:il (kG.map vS,S.2.1,S.2.2):=by rw[HV.out];exact HS.out
   have:=LF (HD.out.bl hX) (HG.out.bl hX) Xx o Xy
   refine this.mono ?_;rintro e w' ⟨A6,n6,c6,B6,m6,k6,C6,r6,wV,OZ,rfl,hd,hm,hg,hb⟩
   have hk:lM (kG.map vS,S.2.1,S.2.2) o=bO S o:=by
    unfold lM;rw[if_pos ho0,HV.out]
   rw[hk] at hd hm hg ⊢;exact⟨_,rfl,⟨A6,n6,c6,B6,m6,k6,C6,r6,wV,OZ,rfl,hd,hm,hg⟩,hb⟩)
  have Uc:=qh (HS.out.kind ho0);clear bD Tg ho ho0 Xy;obtain⟨K,gK⟩:=az (bO S o);have WI:=qh gK;rw[gK] at Gy Uc;clear gK;obtain⟨K1,x⟩:=K;go_upto_region 7 with fail
  obtain⟨WW,gWW⟩:=az wo;rw[gWW] at H0 H1 H2 HB HD HG Gy ⊢;clear gWW;have N0:Hid (∀y,Ext WW.drew y→∀i u,(aa o)[i]? =ζ u→y.cell? ((⟨pb,po+j*20,ε⟩:Κ).add i)=ζ u):=qh (fun y hy i u hu=>(Below.cell (af (ba HB.out) hy) (p:=(⟨pb,po+j*20,ε⟩:Κ).add i) (by rw[cA];exact HPb.out)).trans (NO.out i u hu))
  have mS:Hid (∀y,Ext WW.drew y→y.cell? ⟨b0,0,ε⟩=ζ (γ A1 n1 c1)∧y.cell? ⟨b0,1,ε⟩=ζ (γ B1 m1 k1)∧y.cell? ⟨b0,2,ε⟩=ζ (γ C1 r1 mH)∧y.cell? ⟨b1,0,ε⟩=ζ (γ (ζ ⟨pb,po,ε⟩) pn pc)):=qh (fun y hy=>⟨(H0.out.dr.bl hy).cell (i:=0) rfl,
   (H0.out.dr.bl hy).cell (i:=1) rfl,
   (H0.out.dr.bl hy).cell (i:=2) rfl,
   (H1.out.dr.bl hy).cell (i:=0) rfl⟩)
  refine fJ 11 9 (dS WW.heap.size) (yU [fun v W=>v=φ #[γ A1 n1 c1,γ B1 m1 k1,γ C1 r1 mH],fun v W=>v=υ (ζ ⟨b1,0,ε⟩),fun v W=>v=γ (ζ ⟨pb,po,ε⟩) pn pc,fun v W=>v=J (j:Int),fun v W=>v=υ (ζ ⟨pb,po+j*20,ε⟩),fun v W=>v=φ (aa o).toArray,fun v W=>IB (K1,x) (v) (W),fun v W=>IB (K1,x) (v) (W),fun v W=>SK K1 (v) (W),fun v W=>v=J x,fun v W=>∃q,v=υ (ζ ⟨q,0,ε⟩)∧WW.heap.size≤q∧Whole (W) q 28 [γ ε 0 0,γ ε 0 0,γ ε 0 0]]) (Ext WW.drew) (by kernel_rfl) (by kernel_rfl) (by kernel_rfl) (by kernel_rfl) (by kernel_rfl) (by kernel_rfl) (by simp only[List.getElem?_toArray,List.getElem?_cons_succ,List.getElem?_cons_zero];exact rfl) (by kernel_rfl) (by kernel_rfl) (by kernel_rfl) ?_ (pw (by
   intro Q hQ v w1 w2 h hx;simp only[Η,List.not_mem_nil,or_false] at hQ;rcases hQ with rfl|rfl|rfl|rfl|rfl|rfl|rfl|rfl|rfl|rfl|rfl
   ·exact(fun v w1 w2 h hx=>h) v w1 w2 h hx
   ·exact(fun v w1 w2 h hx=>h) v w1 w2 h hx
   ·exact(fun v w1 w2 h hx=>h) v w1 w2 h hx
   ·exact(fun v w1 w2 h hx=>h) v w1 w2 h hx
   ·exact(fun v w1 w2 h hx=>h) v w1 w2 h hx
   ·exact(fun v w1 w2 h hx=>h) v w1 w2 h hx
   ·exact(fun v w1 w2 h hx=>h.up hx) v w1 w2 h hx
   ·exact(fun v w1 w2 h hx=>h.up hx) v w1 w2 h hx
   ·exact(fun v w1 w2 h hx=>h.up hx) v w1 w2 h hx
   ·exact(fun v w1 w2 h hx=>h) v w1 w2 h hx
   ·exact(fun v w1 w2 h hx=>(by obtain⟨q,e1,e2,e3⟩:=h;exact⟨q,e1,e2,e3.bl hx⟩)) v w1 w2 h hx)) (fun _ _ h k=>h.trans k) (Ext.refl _) ?_ ?_ ?_
  ·exact fun _ _ _ _ h=>h
  ·intro i Mt;have jc:i=0∨i=1∨i=2∨i=3∨i=4∨i=5∨i=6∨i=7∨i=8∨i=9∨i=10:=by omega
   rcases jc with rfl|rfl|rfl|rfl|rfl|rfl|rfl|rfl|rfl|rfl|rfl
   ·refine aL ?_;intro xf y hg aH;obtain⟨tT,pC,nD,tW⟩:=mS.out _ hg;simp only[aM,ι,π,aB,ξ,ak,aj,ah];refine .inl ⟨by rfl,?_⟩;go_simp;exact⟨Ext.refl _,rfl⟩
   ·refine aL ?_;intro xf y hg aH;simp only[aM,ι,π,aB,ξ,ak,aj,ah];refine .inl ⟨by rfl,?_⟩;go_simp;exact⟨Ext.refl _,rfl⟩
   ·refine aL ?_;intro xf y hg aH;have d1:xf 1=υ (ζ ⟨b1,0,ε⟩):=aH 1 (by decide);obtain⟨tT,pC,nD,tW⟩:=mS.out _ hg;simp only[aM,ι,π,aB,ξ,ak,aj,ah];simp only[d1];refine .inl ⟨by rfl,?_⟩;go_simp;exact⟨Ext.refl _,rfl⟩
   ·refine aL ?_;intro xf y hg aH;simp only[aM,ι,π,aB,ξ,ak,aj,ah];refine .inl ⟨by rfl,?_⟩;go_simp;exact⟨Ext.refl _,rfl⟩
   ·refine aL ?_;intro xf y hg aH;have d2:xf 2=γ (ζ ⟨pb,po,ε⟩) pn pc:=aH 2 (by decide);have d3:xf 3=J (j:Int):=aH 3 (by decide);simp only[aM,ι,π,aB,ξ,ak,aj,ah];simp only[d2,d3];refine .inl ⟨by rfl,?_⟩;go_simp;exact⟨Ext.refl _,rfl⟩
   ·refine aL ?_;intro xf y hg aH;have d4:xf 4=υ (ζ ⟨pb,po+j*20,ε⟩):=aH 4 (by decide);obtain⟨tT,pC,nD,tW⟩:=mS.out _ hg;simp only[aM,ι,π,aB,ξ,ak,aj,ah];simp only[d4];exact .inl ⟨by rfl,gZ (ox 36 (.tmp 28) rfl ⟨pb,po+j*20,ε⟩ rfl (aa o) _ (N0.out y hg) Tryz.underlying36 rfl (by kernel_rfl)) (Ext.refl _) rfl⟩
   ·refine aL ?_;intro xf y hg aH;have d0:xf 0=φ #[γ A1 n1 c1,γ B1 m1 k1,γ C1 r1 mH]:=aH 0 (by decide);have d5:xf 5=φ (aa o).toArray:=aH 5 (by decide);simp only[aM,ι,π,aB,ξ,ak,aj,ah];simp only[d0,d5];refine .inl ⟨by rfl,dy (by go_simp;first|done|exact⟨rfl,rfl⟩|with_reducible rfl) ?_⟩
    refine(Gy.out y ((Θ _ WW).drew.trans hg)).mono ?_
    rintro e w2 ⟨v,rfl,Gd,hb⟩
    refine⟨_,rfl,hb,?_⟩
    show IB (K1,x) ((_:ψ)) (w2);exact Gd
   ·refine aL ?_;intro xf y hg aH;obtain⟨A6,n6,c6,B6,m6,k6,C6,r6,wV,OZ,d6,hd6,hm6,Th⟩:IB (K1,x) (xf 6) (y):=aH 6 (by decide);simp only[aM,ι,π,aB,ξ,ak,aj,ah];simp only[d6];refine .inl ⟨by rfl,?_⟩;go_simp
    refine⟨Ext.refl _,?_⟩
    show IB (K1,x) ((_:ψ)) (y);exact⟨A6,n6,c6,B6,m6,k6,C6,r6,wV,OZ,rfl,hd6,hm6,Th⟩
   ·refine aL ?_;intro xf y hg aH;obtain⟨A7,n7,c7,B7,m7,k7,C7,r7,rc7,ZT,d7,hd7,Zu,S9⟩:IB (K1,x) (xf 7) (y):=aH 7 (by decide);simp only[aM,ι,π,aB,ξ,ak,aj,ah];simp only[d7];refine .inl ⟨by rfl,?_⟩;go_simp
    refine⟨Ext.refl _,?_⟩
    show SK K1 ((_:ψ)) (y);exact⟨A7,n7,c7,B7,m7,k7,C7,r7,rc7,ZT,rfl,hd7,Zu,S9⟩
   ·refine aL ?_;intro xf y hg aH;obtain⟨A7,n7,c7,B7,m7,k7,C7,r7,rc7,ZT,d7,hd7,Zu,S9⟩:IB (K1,x) (xf 7) (y):=aH 7 (by decide);simp only[aM,ι,π,aB,ξ,ak,aj,ah];simp only[d7];refine .inl ⟨by rfl,?_⟩;go_simp;exact⟨Ext.refl _,rfl⟩
   ·refine aL ?_;intro xf y hg aH;simp only[aM,ι,π,aB,ξ,ak,aj,ah];refine .inl ⟨by rfl,gZ (w':=y.alloc (δ #[γ ε 0 0,γ ε 0 0,γ ε 0 0] 28)) (by go_simp;first|done|exact rfl|exact⟨rfl,rfl⟩) (ax _ _) ?_⟩;show ∃q,(_:ψ)=υ (ζ ⟨q,0,ε⟩)∧WW.heap.size≤q∧Whole (y.alloc (δ #[γ ε 0 0,γ ε 0 0,γ ε 0 0] 28)) q 28 [γ ε 0 0,γ ε 0 0,γ ε 0 0]
    exact⟨y.heap.size,rfl,hg.size,Whole.new_ _ _ [γ ε 0 0,γ ε 0 0,γ ε 0 0]⟩
  ·intro xf y hg bW;obtain⟨A7,n7,c7,B7,m7,k7,C7,r7,rc7,ZT,d7,hd7,Zu,S9⟩:IB (K1,x) (xf 7) (y):=bW 7 (by decide) (by decide);simp only[aM,ι,π,aB,ξ,ak,aj,ah];simp only[d7]
   refine⟨J x,?_,rfl⟩
   apply dm;rfl;intro w' aC;go_simp;(try with_reducible rfl)
  intro xf y hg bW;obtain⟨A8,n8,c8,B8,m8,k8,C8,r8,tw,Ws8,d8,hd8,hm8,hg8⟩:SK K1 (xf 8) (y):=bW 8 (by decide);have d9:xf 9=J x:=bW 9 (by decide);obtain⟨gr,d10,AD,wT⟩:∃q,xf 10=υ (ζ ⟨q,0,ε⟩)∧WW.heap.size≤q∧Whole (y) q 28 [γ ε 0 0,γ ε 0 0,γ ε 0 0]:=bW 10 (by decide)
  simp only[aM,ι,π,aB,ξ,ak,aj,ah];simp only[d8,d9,d10];clear bW d8 d9 d10;have zk:=qh hd8;have Wi:=qh hm8;have CV:=qh hg8;clear hd8 hm8 hg8;have mV:=qh wT;have tg:=qh (af (ba (Θ _ WW)) hg);have jD:Hid (WW.heap.size≤gr):=qh AD;clear AD wT;refine lp 11 ?_;intro w' aC
  refine⟨w'.setRow gr #[γ A8 n8 c8,γ B8 m8 k8,γ C8 r8 tw],cn 28 (.tmp 8) (.tmp 31) rfl gr rfl [γ A8 n8 c8,γ B8 m8 k8,γ C8 r8 tw] rfl 28 [γ ε 0 0,γ ε 0 0,γ ε 0 0] (mV.out.bl aC) (by kernel_rfl) rfl (by simp[Τ]),eD (show WW.heap.size≤gr from jD.out) _,?_⟩
  have qp:Hid (Whole (w'.setRow gr #[γ A8 n8 c8,γ B8 m8 k8,γ C8 r8 tw]) gr 28 [γ A8 n8 c8,γ B8 m8 k8,γ C8 r8 tw]):=qh (Whole.row (mV.out.bl aC) [γ A8 n8 c8,γ B8 m8 k8,γ C8 r8 tw]);have j6:Hid (σ WW.heap.size WW (w'.setRow gr #[γ A8 n8 c8,γ B8 m8 k8,γ C8 r8 tw])):=qh (eB (af tg.out aC) jD.out _);have LL:=qh (sI (zk.out.bl aC) (mV.out.bl aC) (aP (fun i=>by simp) (fun i=>by simp) (fun i=>by simp)) #[γ A8 n8 c8,γ B8 m8 k8,γ C8 r8 tw]);have KF:=qh ((CV.out.bl aC).row_far (lB (xr (CV.out.bl aC) (mV.out.bl aC) (aP (fun i=>by simp) (fun i=>by simp) (fun i=>by simp)))) #[γ A8 n8 c8,γ B8 m8 k8,γ C8 r8 tw]);obtain⟨V1,jr⟩:=az (w'.setRow gr #[γ A8 n8 c8,γ B8 m8 k8,γ C8 r8 tw]);rw[jr] at qp j6 LL KF ⊢;clear aC jr mV tg;refine aq 12 ?_;refine aG (by kernel_rfl) ?_ _;intro W8 ch;have pG:=qh (qp.out.bl ch);have jX:=qh (af j6.out ch);have zk:=qh (LL.out.bl ch);have CV:=qh (KF.out.bl ch);clear LL KF;clear ch qp j6;have K0:=qh (H0.out.bl jX.out);have K1_:=qh (H1.out.bl jX.out);have K2:=qh (H2.out.bl jX.out);have KB:=qh (af HB.out jX.out);have VT:b0≠gr:=by have h1:=H0.out.lt;have h2:=jD.out;omega
  have Hne:=qh VT;clear VT H0 H1 H2 HB HD HG jX mS jD N0 Gy
  by_cases hx:x=0
  rotate_left
  ·have za:Hid (hY S0 L=(cC,x)):=qh (by
    have:=xt HA.out HOj.out (by rw[WI.out];exact hx)
    rwa [WI.out] at this)
   obtain rfl:=za.out.symm.trans HRa.out;have z0:=K2.out.cell (i:=0) rfl;have z1:=K2.out.cell (i:=1) rfl;have z2:=K2.out.cell (i:=2) rfl;have y0:=K2.out.free 0;have y1:=K2.out.free 1;have y2:=K2.out.free 2;go_wp2;exact aE rfl b2 rfl rfl (((K2.out.set_ 0 (γ ε 0 0)).set_ 1 (γ ε 0 0)).set_ 2 (γ ε 0 0)) Tryz.underlying28 rfl (by kernel_rfl) rfl ⟨ε,0,0,ε,0,0,ε,0,0,[],rfl,dM _,rfl,aS.no _ _ _,((KB.out.setCell (p:=⟨b2,0,ε⟩) a8.out (γ ε 0 0)).setCell (p:=⟨b2,1,ε⟩) a8.out (γ ε 0 0)).setCell (p:=⟨b2,2,ε⟩) a8.out (γ ε 0 0)⟩
  subst hx
  have HA2:Hid (hY S0 L=hY K1 (L.drop (j+1))):=qh (by
   have:=xQ HA.out HOj.out (by rw[WI.out])
   rwa [WI.out] at this)
  clear HA;have a0:=pG.out.cell (i:=0) rfl;have a1:=pG.out.cell (i:=1) rfl;have a2:=pG.out.cell (i:=2) rfl;have z0:=K0.out.cell (i:=0) rfl;have z1:=K0.out.cell (i:=1) rfl;have z2:=K0.out.cell (i:=2) rfl;have y0:=K0.out.free 0;have y1:=K0.out.free 1;have y2:=K0.out.free 2;go_upto_region 6 with fail
  clear a0 a1 a2 z0 z1 z2 y0 y1 y2;have s0:=K0.out;have s1:=s0.set_ 0 (γ A8 n8 c8);have s2:=s1.set_ 1 (γ B8 m8 k8);have q0:=aP (a:=γ A1 n1 c1) (b:=γ B1 m1 k1) (d:=γ C1 r1 mH) (fun i=>by simp) (fun i=>by simp) (fun i=>by simp);have q1:=aP (a:=γ A8 n8 c8) (b:=γ B1 m1 k1) (d:=γ C1 r1 mH) (fun i=>by simp) (fun i=>by simp) (fun i=>by simp);have q2:=aP (a:=γ A8 n8 c8) (b:=γ B8 m8 k8) (d:=γ C1 r1 mH) (fun i=>by simp) (fun i=>by simp) (fun i=>by simp);have J0:=qh (s2.set_ 2 (γ C8 r8 tw));have J1:=qh (((K1_.out.far (p:=⟨b0,0,ε⟩) (fun e=>kY.out e.symm) (γ A8 n8 c8)).far (p:=⟨b0,1,ε⟩) (fun e=>kY.out e.symm) (γ B8 m8 k8)).far (p:=⟨b0,2,ε⟩) (fun e=>kY.out e.symm) (γ C8 r8 tw));have J2:=qh (((K2.out.far (p:=⟨b0,0,ε⟩) (fun e=>mJ.out e.symm) (γ A8 n8 c8)).far (p:=⟨b0,1,ε⟩) (fun e=>mJ.out e.symm) (γ B8 m8 k8)).far (p:=⟨b0,2,ε⟩) (fun e=>mJ.out e.symm) (γ C8 r8 tw));have JD:=qh (bf (bf (bf zk.out s0 q0 0 (γ A8 n8 c8)) s1 q1 1 (γ B8 m8 k8)) s2 q2 2 (γ C8 r8 tw));have JG:=qh (bu (bu (bu CV.out s0 q0 0 (γ A8 n8 c8)) s1 q1 1 (γ B8 m8 k8)) s2 q2 2 (γ C8 r8 tw));have JB:=qh (((KB.out.setCell (p:=⟨b0,0,ε⟩) j4.out (γ A8 n8 c8)).setCell (p:=⟨b0,1,ε⟩) j4.out (γ B8 m8 k8)).setCell (p:=⟨b0,2,ε⟩) j4.out (γ C8 r8 tw));obtain⟨w9,gw9⟩:=az (((W8.setCell ⟨b0,0,ε⟩ (γ A8 n8 c8)).setCell ⟨b0,1,ε⟩ (γ B8 m8 k8)).setCell ⟨b0,2,ε⟩ (γ C8 r8 tw))
  rw[gw9] at J0 J1 J2 JD JG JB ⊢;clear gw9 s0 s1 s2 q0 q1 q2 K0 K1_ K2 KB zk CV pG;go_wp2;go_roundw
  case rel=>exact⟨j+1,K1,A8,n8,c8,B8,m8,k8,C8,r8,tw,Ws8,by omega,by go_num,J0,J1,J2,JB,JD,Wi,JG,Uc,HA2⟩
  case measure=>simp[intOf];omega
def IJ (W:ο) (R:SS) (e:Ending) (w':ο):Prop:=
 ∃A n c B m k C r rc Ws,e=.returned (φ #[γ A n c,γ B m k,γ C r rc])∧aO w' A n c Ws B m k R.2.1∧Ws.map vS=R.1∧aS w' w'.heap.size 6 C r rc (ao cj R.2.2)∧σ W.heap.size W w'
theorem KI {W:ο} {A:Option Κ} {n c:Nat} {Vs:List VC} {B:Option Κ} {m k:Nat} {Es:List EC} {C:Option Κ} {r rc:Nat} {G:List Gn} (h:aO W A n c Vs B m k Es) (hg:aS W W.heap.size 6 C r rc (ao cj G)) (hS:il (Vs.map vS,Es,G)) (PA:Option Κ) (pn pc:Nat) (L:List cO) (hL:aS W W.heap.size 20 PA pn pc (ao aa L)) (MV:pn≤Jap) (ht:∀o∈L,o.t.size≤Jap):
 Ζ η 22 #[φ #[γ A n c,γ B m k,γ C r rc],φ #[γ PA pn pc]] W (IJ W (x5 (Vs.map vS,Es,G) L)):=by
 have HP:Hid (∀X,σ W.heap.size W X→Ζ η 20 #[φ #[γ A n c,γ B m k,γ C r rc],φ #[γ PA pn pc]] X (dH X (fS (Vs.map vS,Es,G) L))):=qh (fun X hX=>Ch (h.below hX) (hg.bl hX) hS PA pn pc L (hL.bl hX) MV ht);have HO:=qh h;have xJ:=qh hg;have HR:Hid (x5 (Vs.map vS,Es,G) L=if (fS (Vs.map vS,Es,G) L).2=0 then(fS (Vs.map vS,Es,G) L).1 else(Vs.map vS,Es,G)):=qh rfl;obtain⟨T,gT⟩:=az (x5 (Vs.map vS,Es,G) L);obtain⟨⟨R1,x⟩,gR⟩:∃z,fS (Vs.map vS,Es,G) L=z:=⟨_,rfl⟩
 rw[gR] at HP HR;rw[gT] at HR ⊢;clear gT gR h hg hS hL MV ht;go_enter Tryz.func22,Tryz.ntmps22;go_upto_region 1 with fail
 obtain⟨W0,b0,b1,b2,bJ,bS,cJ,dA,aR,aQ,bj,bn,-,-,j4,-,fD,-,a8,kY,mJ,ni⟩:=jm W 28 [γ A n c,γ B m k,γ C r rc] 49 [γ PA pn pc] 28 [γ ε 0 0,γ ε 0 0,γ ε 0 0];rw[bJ,dA,cJ,bS];clear bJ bS cJ dA;have dN:=aR.out.cell (i:=0) rfl;have dZ:=aR.out.cell (i:=1) rfl;have AH:=aR.out.cell (i:=2) rfl;have TG:=aQ.out.cell (i:=0) rfl
 go_upto_region 2 with (first
  |(go_at_call 20
    refine(HP.out _ bn.out).mono ?_
    rintro e w2 ⟨A9,n9,c9,B9,m9,k9,C9,r9,pL,Aj,rfl,hd,hm,vQ,ar⟩;have cX:=qh ar;have HD:=qh hd;have HM:=qh hm;have HG:=qh vQ;clear ar hd hm vQ dN dZ AH TG))
 have ar:=cX.out;have cp:=qh (aF (af bn.out ar) (δ #[γ A9 n9 c9,γ B9 m9 k9,γ C9 r9 pL] 28));have aZ:=qh ((aR.out.bl ar).al (δ #[γ A9 n9 c9,γ B9 m9 k9,γ C9 r9 pL] 28));have aY:=qh ((aQ.out.bl ar).al (δ #[γ A9 n9 c9,γ B9 m9 k9,γ C9 r9 pL] 28));have ay:=qh ((bj.out.bl ar).al (δ #[γ A9 n9 c9,γ B9 m9 k9,γ C9 r9 pL] 28));have Pf:=qh (HD.out.bl (ax _ (δ #[γ A9 n9 c9,γ B9 m9 k9,γ C9 r9 pL] 28)));have PN:=qh (HG.out.bl (ax _ (δ #[γ A9 n9 c9,γ B9 m9 k9,γ C9 r9 pL] 28)));have aX:=qh (Whole.new_ w2 28 [γ A9 n9 c9,γ B9 m9 k9,γ C9 r9 pL]);have la:Hid (W.heap.size≤w2.heap.size):=qh (af bn.out ar).size;have iC:Hid (b0≠w2.heap.size):=qh (by have:=(aR.out.bl ar).lt;omega);have iz:Hid (b1≠w2.heap.size):=qh (by have:=(aQ.out.bl ar).lt;omega);have iB:Hid (b2≠w2.heap.size):=qh (by have:=(bj.out.bl ar).lt;omega);obtain⟨o9,di⟩:=az (w2.alloc (δ #[γ A9 n9 c9,γ B9 m9 k9,γ C9 r9 pL] 28));obtain⟨b3,dD⟩:=az w2.heap.size;rw[di] at cp aZ aY ay Pf PN aX ⊢;rw[dD] at aX la iC iz iB ⊢;clear di dD bn aR aQ bj HD HG ar cX;clear HP
 by_cases hx:x=0
 ·obtain rfl:=(HR.out.trans (if_pos hx)).symm;subst hx;have z0:=ay.out.cell (i:=0) rfl;have y0:=ay.out.free 0;have z1:=ay.out.cell (i:=1) rfl;have y1:=ay.out.free 1;have z2:=ay.out.cell (i:=2) rfl;have y2:=ay.out.free 2;have v0:=aX.out.cell (i:=0) rfl;have w0:=aZ.out.cell (i:=0) rfl;have v1:=aX.out.cell (i:=1) rfl;have w1:=aZ.out.cell (i:=1) rfl;have v2:=aX.out.cell (i:=2) rfl;have w2:=aZ.out.cell (i:=2) rfl;go_wp2;have s0:=ay.out;have k0:=aP (a:=γ ε 0 0) (b:=γ ε 0 0) (d:=γ ε 0 0) (fun i=>by simp) (fun i=>by simp) (fun i=>by simp);have Cr:=aP (a:=γ A9 n9 c9) (b:=γ ε 0 0) (d:=γ ε 0 0) (fun i=>by simp) (fun i=>by simp) (fun i=>by simp);have lZ:=aP (a:=γ A9 n9 c9) (b:=γ B9 m9 k9) (d:=γ ε 0 0) (fun i=>by simp) (fun i=>by simp) (fun i=>by simp);have s1:=s0.set_ 0 (γ A9 n9 c9);have s2:=s1.set_ 1 (γ B9 m9 k9);exact bz rfl b2 rfl (s2.set_ 2 (γ C9 r9 pL)) Tryz.underlying28 rfl (by kernel_rfl) rfl ⟨A9,n9,c9,B9,m9,k9,C9,r9,pL,Aj,rfl,bf (bf (bf Pf.out s0 k0 0 _) s1 Cr 1 _) s2 lZ 2 _,HM.out,bu (bu (bu PN.out s0 k0 0 _) s1 Cr 1 _) s2 lZ 2 _,((cp.out.setCell (p:=⟨b2,0,ε⟩) a8.out (γ A9 n9 c9)).setCell (p:=⟨b2,1,ε⟩) a8.out (γ B9 m9 k9)).setCell (p:=⟨b2,2,ε⟩) a8.out (γ C9 r9 pL)⟩
 ·obtain rfl:=(HR.out.trans (if_neg hx)).symm;have z0:=ay.out.cell (i:=0) rfl;have y0:=ay.out.free 0;have z1:=ay.out.cell (i:=1) rfl;have y1:=ay.out.free 1;have z2:=ay.out.cell (i:=2) rfl;have y2:=ay.out.free 2;have v0:=aX.out.cell (i:=0) rfl;have w0:=aZ.out.cell (i:=0) rfl;have v1:=aX.out.cell (i:=1) rfl;have w1:=aZ.out.cell (i:=1) rfl;have v2:=aX.out.cell (i:=2) rfl;have w2:=aZ.out.cell (i:=2) rfl;have HDo:=qh (HO.out.below cp.out);have Ij:=qh (xJ.out.bl cp.out);go_wp2;have s0:=ay.out;have k0:=aP (a:=γ ε 0 0) (b:=γ ε 0 0) (d:=γ ε 0 0) (fun i=>by simp) (fun i=>by simp) (fun i=>by simp);have Cr:=aP (a:=γ A n c) (b:=γ ε 0 0) (d:=γ ε 0 0) (fun i=>by simp) (fun i=>by simp) (fun i=>by simp);have lZ:=aP (a:=γ A n c) (b:=γ B m k) (d:=γ ε 0 0) (fun i=>by simp) (fun i=>by simp) (fun i=>by simp);have s1:=s0.set_ 0 (γ A n c);have s2:=s1.set_ 1 (γ B m k);exact bz rfl b2 rfl (s2.set_ 2 (γ C r rc)) Tryz.underlying28 rfl (by kernel_rfl) rfl ⟨A,n,c,B,m,k,C,r,rc,Vs,rfl,bf (bf (bf HDo.out s0 k0 0 _) s1 Cr 1 _) s2 lZ 2 _,rfl,bu (bu (bu Ij.out s0 k0 0 _) s1 Cr 1 _) s2 lZ 2 _,((cp.out.setCell (p:=⟨b2,0,ε⟩) a8.out (γ A n c)).setCell (p:=⟨b2,1,ε⟩) a8.out (γ B m k)).setCell (p:=⟨b2,2,ε⟩) a8.out (γ C r rc)⟩
def OF (n:Int):cO:=⟨1,1,n,0,0,0,0,0,0,0,0,0,0,0,0,0,0,ρ,⟨#[]⟩,0⟩
def X0:cO:=⟨2,1,1,0,0,0,0,0,0,0,0,0,0,0,0,0,0,ρ,⟨#[]⟩,0⟩
theorem Q3:fS cC [OF 1]=(([((1,1),[],Jaf,0)],[],[]),0):=rfl
theorem Qh:lM ([((1,1),[],Jaf,0)],[],[]) X0=(cC,0):=rfl
theorem Uw:il ([((1,1),[],Jaf,0)],[],[]):=dt.kind (o:=OF 1) rfl
theorem Sq (W:ο):aO W ε 0 0 [] ε 0 0 []:=⟨x6 _ _ _,x6 _ _ _,fun x hx=>by cases hx⟩
theorem wY.gone {W:ο} {lo:Nat} {A:Option Κ} {n c:Nat} {Vs:List VC} {B:Option Κ} {m k:Nat} {Es:List EC} {C:Option Κ} {r rc:Nat} {G:List Gn} (h:wY W lo A n c Vs B m k Es C r rc G):aS W W.heap.size 6 C r rc (ao cj G):=bk h.gn
theorem yQ (n:Int) (W:ο):Ζ η 42 #[J n] W fun e w'=>∃g,e=.returned (φ #[γ (ζ ⟨g,0,ε⟩) 1 1])∧Whole w' g 36 (aa (OF n))∧σ W.heap.size W w':=by
 go_enter Tryz.func42,Tryz.ntmps42;go_wp2;have h0:Whole ((W.alloc (δ #[γ (ζ ⟨W.heap.size+1,0,ε⟩) 1 1] 49)).alloc (δ (aa (OF n)).toArray 36)) W.heap.size 49 [γ (ζ ⟨W.heap.size+1,0,ε⟩) 1 1]:=(Whole.new_ W 49 [_]).al _;have h1:Whole ((W.alloc (δ #[γ (ζ ⟨W.heap.size+1,0,ε⟩) 1 1] 49)).alloc (δ (aa (OF n)).toArray 36)) (W.heap.size+1) 36 (aa (OF n)):=Whole.new2 (by simp);have hb:=aF (ax W (δ #[γ (ζ ⟨W.heap.size+1,0,ε⟩) 1 1] 49)) (δ (aa (OF n)).toArray 36);exact bz rfl W.heap.size rfl h0 Tryz.underlying49 rfl (by kernel_rfl) rfl ⟨_,rfl,h1,hb⟩
theorem Om {o:cO} (hk:o.k=1):RS o:=fun _ _ _ _ _ _ _ _ _ _ _ _ _ _ _ _ _ h hS=>Jg h hS o hk
theorem uh {o:cO} (hk:o.k=2):RS o:=fun _ _ _ _ _ _ _ _ _ _ _ _ _ _ _ _ _ h hS=>Li h hS o hk
theorem zN (W:ο):Ζ η 12 #[] W fun e w'=>e=.returned (.bool τ)∧σ W.heap.size W w':=by
 have bn:Hid (σ W.heap.size W W):=qh (Θ _ _);go_enter Tryz.func12,Tryz.ntmps12
 go_upto_region 2 with (first
  |(go_at_call 17
    refine(Ab _).mono ?_
    rintro e w1 ⟨rfl,fe⟩;have iT:=qh (af bn.out fe);clear fe bn)
  |(go_at_call 42
    refine(yQ 1 _).mono ?_
    rintro e w2 ⟨g,rfl,jU,ar⟩;have cL:=qh (af iT.out ar);have Ta:=qh jU;clear jU ar iT)
  |(go_at_call 18
    refine(xX (Sq _) (x6 _ _ _) dt _ 1 1 [OF 1] (by rw[uw];exact aS.of_whole Ta.out rfl) (by decide) (fun u hu=>by obtain rfl:=List.mem_singleton.1 hu;exact Om rfl)).mono ?_
    rintro e w3 ⟨bw,h3⟩;have hE:fS (([]:List VC).map vS,[],[]) [OF 1]=_:=Q3;rw[hE] at h3;obtain⟨-,A,n,c,Vs,B,m,k,Es,C,r,rc,G,rfl,xb,Fp⟩:=h3.resolve_right (fun h=>h.1 rfl);have cY:=qh (af cL.out bw);have ye:=qh xb;have sC:=qh Fp;clear bw h3 hE xb Fp cL Ta))
 have hn:n=1:=by
  have h1:=ye.out.dg.v.rlen aN (by decide);have h2:=congrArg (fun z:SS=>z.1.length) sC.out;have h3:(Vs.map vS).length=1:=h2;rw[Ρ] at h3;omega
 subst hn;have Cn:=qh (ye.out.up (ax w3 (δ #[γ A 1 c,γ B m k,γ C r rc] 28)));have jJ:=qh (aF cY.out (δ #[γ A 1 c,γ B m k,γ C r rc] 28));have mK:=qh (Whole.new_ w3 28 [γ A 1 c,γ B m k,γ C r rc]);obtain⟨w4,IY⟩:=az (w3.alloc (δ #[γ A 1 c,γ B m k,γ C r rc] 28));obtain⟨b4,Md⟩:=az w3.heap.size;rw[IY] at Cn jJ mK ⊢;rw[Md] at mK ⊢;have BV:Hid (W.heap.size≤b4):=qh (Md▸cY.out.size);clear IY Md ye cY;have x0:=mK.out.cell (i:=0) rfl;have x1:=mK.out.cell (i:=1) rfl;have x2:=mK.out.cell (i:=2) rfl;have lJ:Hid (il (Vs.map vS,Es,G)):=qh (by rw[sC.out];exact Uw)
 go_upto_region 3 with (first
  |(go_at_call 14
    refine(yS Cn.out.dg Cn.out.gone lJ.out X0 (uh rfl)).mono ?_
    rintro e w5 ⟨fM,h5⟩;have hE:lM (Vs.map vS,Es,G) X0=_:=(congrArg (fun z=>lM z X0) sC.out).trans Qh;rw[hE] at h5;obtain⟨-,A',n',c',Wq,B',m',k',Yq,C',r',p9,G',rfl,VB,he5⟩:=h5.resolve_right (fun h=>h.1 rfl);have js:=qh (af jJ.out fM);have dQ:=qh (mK.out.bl fM)
    have hn':n'=0:=by
     have h1:=VB.dg.v.rlen aN (by decide);have h2:=congrArg (fun z:SS=>z.1.length) he5;have h3:(Wq.map vS).length=0:=h2;rw[Ρ] at h3;omega
    subst hn';clear fM h5 hE VB he5 jJ mK Cn lJ x0 x1 x2))
 have y0:=(dQ.out.al (δ #[γ A' 0 c',γ B' m' k',γ C' r' p9] 28)).cell (i:=0) rfl;have qX:=qh (aF js.out (δ #[γ A' 0 c',γ B' m' k',γ C' r' p9] 28));clear js dQ;go_wp2;go_ret;exact⟨rfl,qX.out⟩
theorem il.all:∀(L:List cO) {S:SS},il S→(∀o∈L,cW o=0)→il (hY S L).1
 |[],S,h,_=>h
 |o::L,S,h,ho=>by
  have e:hY S (o::L)=if (bO S o).2=0 then hY (bO S o).1 L else(cC,(bO S o).2):=rfl
  by_cases hk:(bO S o).2=0
  ·rw[e,if_pos hk];exact il.all L (h.kind (ho o (List.mem_cons_self))) (fun u hu=>ho u (List.mem_cons_of_mem _ hu))
  ·rw[e,if_neg hk];exact dt
theorem xV:∀{L:List cO},fG L=0→∀o∈L,cW o=0
 |[],_,_,ho=>by cases ho
 |u::L,h,o,ho=>by
  have h1:(if cW u=0 then fG L else cW u)=0:=h
  by_cases q:cW u=0
  ·rw[if_pos q] at h1;rcases Η.1 ho with rfl|ho
   ·exact q
   ·exact xV h1 o ho
  ·rw[if_neg q] at h1;exact absurd h1 q
theorem Jb {L:List cO} (h:iS L=0):∀o∈L,cW o=0:=by
 unfold iS at h;split at h
 ·exact absurd h (by decide)
 ·exact xV h
theorem il.edit {S:SS} (h:il S) (L:List cO):il (fS S L).1:=by
 unfold fS
 by_cases q:iS L=0
 ·rw[if_pos q];exact h.all L (Jb q)
 ·rw[if_neg q];exact dt
theorem il.try_ {S:SS} (h:il S) (L:List cO):il (x5 S L):=by
 unfold x5;split
 ·exact h.edit L
 ·exact h
abbrev Wl:=Option Κ × Nat × Nat × List cO
def edL (e:Wl):List ψ:=[γ e.1 e.2.1 e.2.2.1]
theorem Fu (e:Wl):(edL e).length=1:=rfl
structure J9 (W:ο) (A:Option Κ) (n c:Nat) (Ls:List Wl):Prop where
 row:aS W W.heap.size 1 A n c (ao edL Ls)
 few:n≤Jap
 ops:∀e∈Ls,aS W W.heap.size 20 e.1 e.2.1 e.2.2.1 (ao aa e.2.2.2)∧e.2.1≤Jap∧∀o∈e.2.2.2,o.t.size≤Jap
def Reach (Q:SS→Prop) (W:ο) (e:Ending) (w':ο):Prop:=∃S,Q S∧IJ W S e w'
theorem F7 (Q:SS→Prop) (q0:Q cC) (qs:∀S L,Q S→Q (x5 S L)) (qok:∀S,Q S→il S) (Al:Option Κ) (nl cl:Nat) (Ls:List Wl) (w:ο) (h:J9 w Al nl cl Ls):
 Ζ η 26 #[γ Al nl cl] w (Reach Q w):=by
 have HR:=qh h.row;have HE:=qh h.ops;have Hl:Hid (Ls.length=nl):=qh (h.row.rlen Fu (by decide));have YJ:=h.few;have jn:=aF (ax w (δ #[γ ε 0 0,γ ε 0 0,γ ε 0 0] 28)) (δ #[γ ε 0 0,γ ε 0 0,γ ε 0 0] 28);have bn:=qh jn;have bj:Hid (Whole ((w.alloc (δ #[γ ε 0 0,γ ε 0 0,γ ε 0 0] 28)).alloc (δ #[γ ε 0 0,γ ε 0 0,γ ε 0 0] 28)) w.heap.size 28 [γ ε 0 0,γ ε 0 0,γ ε 0 0]):=qh ((Whole.new_ _ _ [_,_,_]).al _);have ff:Hid (Whole ((w.alloc (δ #[γ ε 0 0,γ ε 0 0,γ ε 0 0] 28)).alloc (δ #[γ ε 0 0,γ ε 0 0,γ ε 0 0] 28)) (w.heap.size+1) 28 [γ ε 0 0,γ ε 0 0,γ ε 0 0]):=qh (Whole.new2 (by simp));clear h jn;go_enter Tryz.func26,Tryz.ntmps26;go_upto_region 3 with fail
 obtain⟨W0,bJ⟩:=az ((w.alloc (δ #[γ ε 0 0,γ ε 0 0,γ ε 0 0] 28)).alloc (δ #[γ ε 0 0,γ ε 0 0,γ ε 0 0] 28));obtain⟨b3,oR⟩:=az (w.heap.size+1);obtain⟨b2,dA⟩:=az w.heap.size;have la:Hid (w.heap.size≤b3):=qh (by omega);have a8:Hid (w.heap.size≤b2):=qh (by omega);have SI:Hid (b2≠b3):=qh (by omega);rw[bJ] at bn bj ff ⊢;rw[oR] at ff ⊢;rw[dA] at bj ⊢;clear bJ oR dA;have Tr:Hid (aO W0 ε 0 0 [] ε 0 0 cC.2.1):=qh (dM _);have im:Hid (aS W0 W0.heap.size 6 ε 0 0 (ao cj cC.2.2)):=qh (aS.no _ _ _);have Mi:Hid (([]:List VC).map vS=cC.1):=qh rfl;have HP0:=qh q0;have Hqs:=qh qs;have Hqo:=qh qok;clear q0 qs qok;go_loopw [4] (fun vi wr=>∃(i:Nat) (S:SS) (A1:Option Κ) (n1 c1:Nat) (B1:Option Κ) (m1 k1:Nat) (C1:Option Κ) (r1 mH:Nat) (kG:List VC),i≤30∧i≤nl∧vi=J (i:Int)∧Hid (σ w.heap.size w wr)∧Hid (Whole wr b2 28 [γ ε 0 0,γ ε 0 0,γ ε 0 0])∧Hid (Whole wr b3 28 [γ A1 n1 c1,γ B1 m1 k1,γ C1 r1 mH])∧Hid (aO wr A1 n1 c1 kG B1 m1 k1 S.2.1)∧Hid (kG.map vS=S.1)∧Hid (aS wr wr.heap.size 6 C1 r1 mH (ao cj S.2.2))∧Hid (Q S)) (fun vi _=>30 - (intOf vi).toNat)
 case atStart=>exact⟨0,cC,ε,0,0,ε,0,0,ε,0,0,[],Jas _,Jas _,rfl,bn,bj,ff,Tr,Mi,im,HP0⟩
 case round=>
  clear bn bj ff Tr Mi im HP0;obtain⟨i,S,A1,n1,c1,B1,m1,k1,C1,r1,mH,kG,afq,mA,rfl,HB,H2,H3,HD,HV,HG,HP⟩:=hrel;obtain⟨wo,dB⟩:=az wr;rw[dB] at HB H2 H3 HD HG ⊢;clear dB
  by_cases eS:i<nl∧i<30
  ·obtain⟨pC,nD⟩:=eS;have Xa:(i:Int)<(nl:Int):=by omega
   have Xk:(i:Int)<30:=by omega
   have wz:Ls[i]? =ζ (Ls[i]'(by have:=Hl.out;omega)):=θ _;obtain⟨⟨Ae,ne,ce,Le⟩,ge0⟩:∃e,Ls[i]'(by have:=Hl.out;omega)=e:=⟨_,rfl⟩
   rw[ge0] at wz;obtain⟨bb,off,rfl,bZ,bD⟩:=HR.out.place Fu (by decide) (by omega);have q0:=bD i _ wz 0 _ rfl;simp only[Addr.add_lit,Nat.add_zero,Nat.mul_one] at q0;have HQ:=qh q0;have Iz:=qh bZ;obtain⟨hle,hln,eS⟩:=HE.out _ (ω wz);have Jh:=qh hle;have HLn:=qh hln;have sG:=qh eS;clear ge0 wz bD q0 bZ hle hln eS;go_upto_region 5 with fail
   have B4:∀w',Kept aT wo.drew w'→w'.cell? ⟨bb,off+i,ε⟩=ζ (γ Ae ne ce):=fun w' h=>h.nil_cell (((ba HB.out).cell (p:=⟨bb,off+i,ε⟩) Iz.out).trans HQ.out)
   refine bK (aT) [7] (by kernel_rfl) ?_;refine fw 0 (hy:=bG (by rfl) 28 (.tmp 3) rfl b3 rfl 28 [γ A1 n1 c1,γ B1 m1 k1,γ C1 r1 mH] _ (fun w' h=>h.whole H3.out.dr (fun h=>h)) Tryz.underlying28 rfl (by kernel_rfl)) (h:=?_);refine bm 1 ?_;refine bm 2 ?_;refine bm 3 ?_;refine bm 4 ?_;refine kC 5 ?_;intro w' aC;have hx:=(Θ _ wo).drew.trans aC
   refine(FX Ae ne ce Le w' (Jh.out.bl (af HB.out hx)) HLn.out).mono ?_
   rintro e w9 ⟨n9,rfl,mO,hn9,nM⟩
   refine⟨_,rfl,Kept.of_below nM,?_⟩
   have pg:=qh mO;have Ki:=qh hn9;have sy:Hid (σ wo.heap.size wo w9):=qh (Ext.trans hx nM);clear hx aC mO hn9 nM;simp only[ξ,ak,aj,ah];refine kC 6 ?_;intro w' aC;have hx:σ wo.heap.size wo w':=Ext.trans sy.out aC;have e0:(kG.map vS,S.2.1,S.2.2)=S:=by rw[HV.out]
   have Xx:il (kG.map vS,S.2.1,S.2.2):=by rw[e0];exact(Hqo.out _ HP.out)
   have YW:=KI (HD.out.bl hx) (HG.out.bl hx) Xx Ae n9 ce _ (pg.out.bl aC) (by have:=Ki.out;unfold Jap;omega) (fun o ho=>sG.out o (List.mem_of_mem_take ho));rw[e0] at YW;refine YW.mono ?_;rintro e vG ⟨A6,n6,c6,B6,m6,k6,C6,r6,wV,OZ,rfl,hd,hm,hg,hb⟩
   refine⟨_,rfl,Kept.of_below hb,?_⟩
   have HD6:=qh hd;have HM6:=qh hm;have HG6:=qh hg;have VV:=qh (Hqs.out _ (Le.take 8) HP.out);have BO:Hid (σ wo.heap.size wo vG):=qh (Ext.trans hx hb);clear hx aC e0 Xx YW hd hm hg hb sy pg Ki;simp only[ξ,ak,aj,ah];refine lA 7 ?_;intro w' aC;have hx:σ wo.heap.size wo w':=Ext.trans BO.out aC;have hZ:=H3.out.bl hx;have s1:=hZ.set_ 0 (γ A6 n6 c6);have s2:=s1.set_ 1 (γ B6 m6 k6);have k0:=aP (a:=γ A1 n1 c1) (b:=γ B1 m1 k1) (d:=γ C1 r1 mH) (fun i=>by simp) (fun i=>by simp) (fun i=>by simp);have Cr:=aP (a:=γ A6 n6 c6) (b:=γ B1 m1 k1) (d:=γ C1 r1 mH) (fun i=>by simp) (fun i=>by simp) (fun i=>by simp);have lZ:=aP (a:=γ A6 n6 c6) (b:=γ B6 m6 k6) (d:=γ C1 r1 mH) (fun i=>by simp) (fun i=>by simp) (fun i=>by simp)
   refine⟨w'.setCells b3 0 [γ A6 n6 c6,γ B6 m6 k6,γ C6 r6 wV],ey 28 (.tmp 3) (.tmp 22) rfl b3 0 rfl [γ A6 n6 c6,γ B6 m6 k6,γ C6 r6 wV] rfl (hZ.there_ 0 3 (by simp)) (by kernel_rfl) (by simp[Τ]),?_⟩
   have K3:Hid (Whole (w'.setCells b3 0 [γ A6 n6 c6,γ B6 m6 k6,γ C6 r6 wV]) b3 28 [γ A6 n6 c6,γ B6 m6 k6,γ C6 r6 wV]):=qh (s2.set_ 2 (γ C6 r6 wV));have K2:Hid (Whole (w'.setCells b3 0 [γ A6 n6 c6,γ B6 m6 k6,γ C6 r6 wV]) b2 28 [γ ε 0 0,γ ε 0 0,γ ε 0 0]):=qh ((((H2.out.bl hx).far (p:=⟨b3,0,ε⟩) SI.out (γ A6 n6 c6)).far (p:=⟨b3,1,ε⟩) SI.out (γ B6 m6 k6)).far (p:=⟨b3,2,ε⟩) SI.out (γ C6 r6 wV));have KD:Hid (aO (w'.setCells b3 0 [γ A6 n6 c6,γ B6 m6 k6,γ C6 r6 wV]) A6 n6 c6 OZ B6 m6 k6 (x5 S (Le.take 8)).2.1):=qh (bf (bf (bf (HD6.out.bl aC) hZ k0 0 (γ A6 n6 c6)) s1 Cr 1 (γ B6 m6 k6)) s2 lZ 2 (γ C6 r6 wV));have KG:Hid (aS (w'.setCells b3 0 [γ A6 n6 c6,γ B6 m6 k6,γ C6 r6 wV]) (w'.setCells b3 0 [γ A6 n6 c6,γ B6 m6 k6,γ C6 r6 wV]).heap.size 6 C6 r6 wV (ao cj (x5 S (Le.take 8)).2.2)):=qh (bu (bu (bu (HG6.out.bl aC) hZ k0 0 (γ A6 n6 c6)) s1 Cr 1 (γ B6 m6 k6)) s2 lZ 2 (γ C6 r6 wV));have KB:Hid (σ w.heap.size w (w'.setCells b3 0 [γ A6 n6 c6,γ B6 m6 k6,γ C6 r6 wV])):=qh ((((af HB.out hx).setCell (p:=⟨b3,0,ε⟩) la.out (γ A6 n6 c6)).setCell (p:=⟨b3,1,ε⟩) la.out (γ B6 m6 k6)).setCell (p:=⟨b3,2,ε⟩) la.out (γ C6 r6 wV));obtain⟨V5,rb⟩:=az (w'.setCells b3 0 [γ A6 n6 c6,γ B6 m6 k6,γ C6 r6 wV]);rw[rb] at K3 K2 KD KG KB ⊢
   clear rb aC hx hZ s1 s2 k0 Cr lZ HD6 HG6 BO;(try simp only[ξ,ak,aj,ah]);refine eU (by kernel_rfl) ?_ _;intro w8 ch;have J2:=qh (K2.out.bl ch);have J3:=qh (K3.out.bl ch);have JD:=qh (KD.out.bl ch);have JG:=qh (KG.out.bl ch);have JB:=qh (af KB.out ch);clear ch K2 K3 KD KG KB B4;go_wp2;go_roundw
   case rel=>exact⟨i+1,x5 S (Le.take 8),A6,n6,c6,B6,m6,k6,C6,r6,wV,OZ,by omega,by omega,by go_num,JB,J2,J3,JD,HM6,JG,VV⟩
   case measure=>simp[intOf];omega
  ·have ui:¬((i:Int)<(nl:Int)∧(i:Int)<30):=by omega
   have x0:=H3.out.cell (i:=0) rfl;have x1:=H3.out.cell (i:=1) rfl;have x2:=H3.out.cell (i:=2) rfl;have z0:=H2.out.cell (i:=0) rfl;have z1:=H2.out.cell (i:=1) rfl;have z2:=H2.out.cell (i:=2) rfl;have y0:=H2.out.free 0;have y1:=H2.out.free 1;have y2:=H2.out.free 2;have k0:=aP (a:=γ ε 0 0) (b:=γ ε 0 0) (d:=γ ε 0 0) (fun i=>by simp) (fun i=>by simp) (fun i=>by simp);have Cr:=aP (a:=γ A1 n1 c1) (b:=γ ε 0 0) (d:=γ ε 0 0) (fun i=>by simp) (fun i=>by simp) (fun i=>by simp);have lZ:=aP (a:=γ A1 n1 c1) (b:=γ B1 m1 k1) (d:=γ ε 0 0) (fun i=>by simp) (fun i=>by simp) (fun i=>by simp);have nc:=(fun s0 s1 s2=>⟨S,HP.out,A1,n1,c1,B1,m1,k1,C1,r1,mH,kG,rfl,bf (bf (bf HD.out s0 k0 0 _) s1 Cr 1 _) s2 lZ 2 _,HV.out,bu (bu (bu HG.out s0 k0 0 _) s1 Cr 1 _) s2 lZ 2 _,((HB.out.setCell (p:=⟨b2,0,ε⟩) a8.out (γ A1 n1 c1)).setCell (p:=⟨b2,1,ε⟩) a8.out (γ B1 m1 k1)).setCell (p:=⟨b2,2,ε⟩) a8.out (γ C1 r1 mH)⟩:Whole wo b2 28 [γ ε 0 0,γ ε 0 0,γ ε 0 0]→Whole (wo.setCell ⟨b2,0,ε⟩ (γ A1 n1 c1)) b2 28 [γ A1 n1 c1,γ ε 0 0,γ ε 0 0]→Whole ((wo.setCell ⟨b2,0,ε⟩ (γ A1 n1 c1)).setCell ⟨b2,1,ε⟩ (γ B1 m1 k1)) b2 28 [γ A1 n1 c1,γ B1 m1 k1,γ ε 0 0]→Reach Q w (.returned (φ #[γ A1 n1 c1,γ B1 m1 k1,γ C1 r1 mH])) (((wo.setCell ⟨b2,0,ε⟩ (γ A1 n1 c1)).setCell ⟨b2,1,ε⟩ (γ B1 m1 k1)).setCell ⟨b2,2,ε⟩ (γ C1 r1 mH)))
   have s0:=H2.out;have s1:=s0.set_ 0 (γ A1 n1 c1);have s2:=s1.set_ 1 (γ B1 m1 k1);have UK:=qh (nc s0 s1 s2);have ye:=qh (s2.set_ 2 (γ C1 r1 mH));clear nc s0 s1 s2
   by_cases h1:i<nl
   ·have q1:(i:Int)<(nl:Int):=by omega
    have q2:¬(i:Int)<30:=by omega
    clear ui;go_wp2;exact bz rfl b2 rfl ye.out Tryz.underlying28 rfl (by kernel_rfl) rfl UK.out
   ·have q1:¬(i:Int)<(nl:Int):=by omega
    clear ui;go_wp2;exact bz rfl b2 rfl ye.out Tryz.underlying28 rfl (by kernel_rfl) rfl UK.out
def ig (x:Nm):cO:=⟨2,x.1,x.2,0,0,0,0,0,0,0,0,0,0,0,0,0,0,ρ,⟨#[]⟩,0⟩
theorem Ai (x:Nm):cW (ig x)=if bB x.1 x.2=τ then 0 else 1:=by
 show(if bB x.1 x.2=τ∧eH (ig x)=τ∧ig x=j5 (ig x) then(if dv (ByteArray.mk #[])=τ then(0:Int) else 4) else 1)=_
 rw[if_pos (show dv (ByteArray.mk #[])=τ from rfl)]
 by_cases h:bB x.1 x.2=τ
 ·rw[if_pos h,if_pos ⟨h,rfl,rfl⟩]
 ·rw[if_neg h,if_neg (fun q=>h q.1)]
theorem Ee (S:SS) {x:Nm} (h:bB x.1 x.2=τ):lM S (ig x)=fX S x:=by
 unfold lM;rw[if_pos (by rw[Ai,if_pos h])];rfl
theorem Bs:∀{Vs:List VC} {x:Nm},(aU Vs x).2=τ→(aU Vs x).1.1=x
 |[],_,h=>by cases h
 |v::Vs,x,h=>by
  by_cases hv:v.1=x
  ·have e:aU (v::Vs) x=(v,τ):=by unfold aU BL;simp[hv]
   rw[e];exact hv
  ·have e:aU (v::Vs) x=aU Vs x:=by unfold aU BL;simp[hv]
   rw[e] at h ⊢;exact Bs h
theorem Lf {Vs:List VC} {x:Nm} (h:bH (Vs.map vS) x=τ):(aU Vs x).1∈Vs∧(aU Vs x).1.1=x∧(aU Vs x).2=τ:=by
 have h2:(aU Vs x).2=τ:=(dh Vs x).1.trans h;exact⟨zT h2,Bs h2,h2⟩
def S4 (V:List VS) (g:Nm→Int):Prop:=∀u∈V,∀v∈V,∀d∈u.2.1,∀e∈v.2.1,cN d=cN e→g u.1=g v.1
def lW (V:List VS) (x y:Nm):Prop:=∀g,S4 V g→g x=g y
theorem lW.refl (V:List VS) (x:Nm):lW V x x:=fun _ _=>rfl
theorem lW.symm {V:List VS} {x y:Nm} (h:lW V x y):lW V y x:=fun g hg=>(h g hg).symm
theorem lW.trans {V:List VS} {x y z:Nm} (h:lW V x y) (k:lW V y z):lW V x z:=fun g hg=>(h g hg).trans (k g hg)
structure zw (V:List VS) (P:List Nm):Prop where
 nd:P.Nodup
 sub:∀p∈P,p∈V.map (·.1)
 all:∀u∈V,∃p∈P,lW V p u.1
 one:∀p∈P,∀q∈P,lW V p q→p=q
theorem zw.len {V:List VS} {P Q:List Nm} (h:zw V P) (k:zw V Q):P.length=Q.length:=by
 have key:∀{P Q:List Nm},zw V P→zw V Q→P.length≤Q.length:=fun {P Q} h k=>
  zg (fun p q=>lW V p q) P Q h.nd (fun p hp=>by
   obtain⟨u,hu,e⟩:=Α.1 (h.sub p hp);obtain⟨q,hq,t⟩:=k.all u hu;have e:u.1=p:=e;rw[e] at t;exact⟨q,hq,t.symm⟩) (fun a ha b hb q _ r1 r2=>h.one a ha b hb (r1.trans r2.symm))
 exact Nat.le_antisymm (key h k) (key k h)
theorem yj {V:List VS} (hk:(V.map (·.1)).Nodup) {i k:Nat} {u v:VS} (hu:V[i]? =ζ u) (hv:V[k]? =ζ v) (e:u.1=v.1):i=k:=by
 have h1:(V.map (·.1))[i]? =ζ u.1:=by rw[Ψ,hu];rfl
 have h2:(V.map (·.1))[k]? =ζ u.1:=by rw[Ψ,hv,e];rfl
 have hi:=(ν.1 h1).1;exact(List.getElem?_inj hi hk).1 (h1.trans h2.symm)
theorem EY {Vs:List VC} {i:Nat} {y:I2}:PX Vs i y↔∃u,(Vs.map vS)[i]? =ζ u∧∃d∈u.2.1,y=cN d:=by
 constructor
 ·rintro⟨v,hv,d,hd,e⟩;exact⟨vS v,by rw[Ψ,hv];rfl,d,hd,e⟩
 ·rintro⟨u,hu,d,hd,e⟩;rw[Ψ] at hu;obtain⟨v,hv,rfl⟩:=Option.map_eq_some_iff.1 hu;exact⟨v,hv,d,hd,e⟩
theorem Ns {Vs:List VC} (hk:(Vs.map (·.1)).Nodup) {i k:Nat} {u v:VS} (hu:(Vs.map vS)[i]? =ζ u) (hv:(Vs.map vS)[k]? =ζ v):(fP Vs).getD i 0=(fP Vs).getD k 0↔lW (Vs.map vS) u.1 v.1:=by
 have hL:=nZ Vs;have Mv:((Vs.map vS).map (·.1)).Nodup:=by rw[kx];exact hk
 have hl:(Vs.map vS).length=Vs.length:=Ρ ..;have hi:=(ν.1 hu).1;have Xb:=(ν.1 hv).1;constructor
 ·intro e g hg
  have hc:Co Vs.length (Sh Vs) (fun j=>g ((Vs.map vS).getD j (vS zV)).1):=by
   rintro a b ha hb ⟨y,h1,h2⟩;obtain⟨p,hp,d,hd,e1⟩:=EY.1 h1;obtain⟨q,hq,d2,xN,e2⟩:=EY.1 h2;show g ((Vs.map vS).getD a _).1=g ((Vs.map vS).getD b _).1;rw[χ,χ,hp,hq];exact hg p (ω hp) q (ω hq) d hd d2 xN (e1.symm.trans e2)
  have:=hL.fin _ hc i k (by omega) (by omega) e
  simp only[χ,hu,hv,Option.getD_some] at this;exact this
 ·intro h
  have hg:S4 (Vs.map vS) (fun x=>(fP Vs).getD ((Vs.map vS).findIdx (fun w=>decide (w.1=x))) 0):=by
   intro p hp q hq d hd d2 xN e;obtain⟨a,ha⟩:=List.getElem?_of_mem hp;obtain⟨b,hb⟩:=List.getElem?_of_mem hq
   have f:∀{a:Nat} {p:VS},(Vs.map vS)[a]? =ζ p→(Vs.map vS).findIdx (fun w=>decide (w.1=p.1))=a:=fun {a p} ha=>by
    obtain⟨hi,Ti⟩:=ν.1 ha
    refine(List.findIdx_eq hi).2 ⟨by rw[Ti];exact decide_eq_true rfl,fun j hj=>decide_eq_false (fun e=>?_)⟩
    have:=yj Mv (θ (show j<(Vs.map vS).length by omega)) ha e
    omega
   show(fP Vs).getD _ 0=(fP Vs).getD _ 0
   rw[f ha,f hb];have h1:=(ν.1 ha).1;have h2:=(ν.1 hb).1;exact hL.co a b (by omega) (by omega) ⟨cN d,EY.2 ⟨p,ha,d,hd,rfl⟩,EY.2 ⟨q,hb,d2,xN,e⟩⟩
  have f:∀{a:Nat} {p:VS},(Vs.map vS)[a]? =ζ p→(Vs.map vS).findIdx (fun w=>decide (w.1=p.1))=a:=fun {a p} ha=>by
   obtain⟨hi,Ti⟩:=ν.1 ha
   refine(List.findIdx_eq hi).2 ⟨by rw[Ti];exact decide_eq_true rfl,fun j hj=>decide_eq_false (fun e=>?_)⟩
   have:=yj Mv (θ (show j<(Vs.map vS).length by omega)) ha e
   omega
  have:=h _ hg
  simp only[f hu,f hv] at this;exact this
theorem E7 {Vs:List VC} (hk:(Vs.map (·.1)).Nodup):∃P,zw (Vs.map vS) P∧mN (fP Vs)=P.length:=by
 have hL:=nZ Vs;have Mv:((Vs.map vS).map (·.1)).Nodup:=by rw[kx];exact hk
 have hl:(Vs.map vS).length=Vs.length:=Ρ ..;obtain⟨V,gV⟩:=az (Vs.map vS);have T:=fun {i k:Nat} {u v:VS}=>Ns hk (i:=i) (k:=k) (u:=u) (v:=v)
 rw[gV] at Mv hl T ⊢;obtain⟨L,gL⟩:=az (fP Vs);rw[gL] at T hL ⊢
 have gt:∀{i:Nat},i<Vs.length→V[i]? =ζ (V[i]?.getD default):=fun {i} hi=>by
  rw[θ (by omega:i<V.length)];rfl
 obtain⟨Q,gQ⟩:=az ((List.range L.length).filter (nH L))
 have hQ:∀i,i∈Q↔i<Vs.length∧L.getD i 0=(i:Int):=fun i=>by
  rw[←gQ,List.mem_filter,List.mem_range,hL.len,nH,beq_iff_eq]
 refine⟨Q.map (fun i=>(V[i]?.getD default).1),⟨?_,fun p hp=>?_,fun u hu=>?_,fun p hp q hq t=>?_⟩,?_⟩
 ·rw[List.Nodup,List.pairwise_map]
  have:Q.Nodup:=gQ▸List.nodup_range.filter _
  refine this.imp_of_mem (fun {a b} ha hb Ad e=>Ad ?_);exact yj Mv (gt ((hQ a).1 ha).1) (gt ((hQ b).1 hb).1) e
 ·obtain⟨i,hi,rfl⟩:=Α.1 hp;exact Α.2 ⟨_,ω (gt ((hQ i).1 hi).1),rfl⟩
 ·obtain⟨i,hi⟩:=List.getElem?_of_mem hu;have mA:=(ν.1 hi).1;obtain⟨h0,h1,h2⟩:=hL.ok i (by rw[hL.len];omega);obtain⟨r,hr⟩:∃r:Nat,L.getD i 0=(r:Int):=⟨(L.getD i 0).toNat,by omega⟩
  rw[hr] at h1 h2;rw[Int.toNat_natCast] at h2;have nP:r<Vs.length:=by omega
  refine⟨_,Α.2 ⟨r,(hQ r).2 ⟨nP,h2⟩,rfl⟩,?_⟩
  exact(T (gt nP) hi).1 (by rw[h2,hr])
 ·obtain⟨i,hi,rfl⟩:=Α.1 hp;obtain⟨k,hk,rfl⟩:=Α.1 hq;obtain⟨i1,i2⟩:=(hQ i).1 hi;obtain⟨k1,k2⟩:=(hQ k).1 hk
  have:=(T (gt i1) (gt k1)).2 t
  rw[i2,k2] at this
  have:i=k:=by omega
  rw[this]
 ·rw[Ρ,←gQ,mN,List.countP_eq_length_filter]
theorem F5 {Vs:List VC} (hk:(Vs.map (·.1)).Nodup) {P:List Nm} (h:zw (Vs.map vS) P):mN (fP Vs)=P.length:=by
 obtain⟨Q,hQ,e⟩:=E7 hk;rw[e,hQ.len h]
theorem vY {Vs:List VC} {Es:List EC} (h:aV Vs Es):((Vs.map vS).map (·.1)).Nodup:=by rw[kx];exact nf h.rv
theorem Aa {V:List VS} {f g:List D→List D} (h:∀v∈V,f v.2.1=g v.2.1):rings V f=rings V g:=
 List.map_congr_left (fun v hv=>by show rr v (f v.2.1)=rr v (g v.2.1);rw[h v hv])
theorem KL {l:List D} (hn:l.Nodup) (x:D):kd l x=ft l x:=by
 rw[kW,hn.erase_eq_filter];unfold kd;refine List.filter_congr (fun y _=>?_)
 by_cases q:y=x<;>simp[q]
end Go.Proofs.YtpdpbfmiahjiiaaGreat
