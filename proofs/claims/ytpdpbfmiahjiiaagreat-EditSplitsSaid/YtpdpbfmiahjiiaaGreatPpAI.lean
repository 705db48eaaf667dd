/- Several texts in one. -/
import Derived.Test.YtpdpbfmiahjiiaaGreatPpAA
import Derived.Test.YtpdpbfmiahjiiaaGreatPpAB
import Derived.Test.YtpdpbfmiahjiiaaGreatPpAC
import Derived.Test.YtpdpbfmiahjiiaaGreatPpAH
import Derived.Maps.OwnSet
import Derived.Laws.MakeOwn
import Derived.Laws.OwnMore
import Derived.Maps.AppendAt
set_option linter.unusedSectionVars false
set_option linter.unusedSimpArgs false
set_option linter.unusedVariables false
set_option maxRecDepth 100000
set_option maxHeartbeats 16000000
namespace Go.Proofs.YtpdpbfmiahjiiaaGreat
open Go.RowKit
open _root_.Go.Value renaming slice→γ,string→μ,pointer→υ,agg→φ,slice→Ο
open _root_.Go.Obj renaming cells→δ
open _root_.Option renaming none→ε,some→ζ,some→Jae
open _root_.Go.Proofs.Tryz renaming prog→η
open _root_.List renaming getElem?_eq_getElem→θ,getElem?_eq_some_iff→ν,getD_eq_getElem?_getD→χ,mem_of_getElem?→ω,mem_map→Α,mem_cons→Η,range→Ω,mem_cons_of_mem→Jad,mem_cons_self→Jai,length_cons→JaH,nodup_cons→JaJ
open _root_.Go.Act renaming put→ξ
open _root_.Go renaming World→ο,Value→ψ,Calls→Ζ,Addr→Κ,TypeId→Υ
open _root_.Bool renaming false→ρ
open _root_.Go.RowKit renaming Below→σ
open _root_.Go.RowKit.Below renaming refl→Θ
open _root_.Option.some renaming inj→Μ
open _root_.ByteArray renaming empty→Jaf
open _root_.Go.IntKind renaming i64→Jaw,wrap_i64→JaT
open _root_.And renaming intro→Jax
open _root_.Exists renaming intro→JaG
open _root_.Nat renaming lt_or_ge→JaM
open _root_.Int renaming toNat_natCast→Jbn
section
variable {w W:ο} {lo g:Nat} {A:Option Κ} {n c:Nat} {Vs:List VC} {B:Option Κ} {m k:Nat} {Es:List EC} {C:Option Κ} {r rc:Nat} {G:List Gn}
theorem CK {W W1 W2:ο} {r:Option Nat} (h:W.grownBy W1 r) (hb:σ W1.heap.size W1 W2):W.grownBy W2 r:=⟨hb.os.trans h.os,hb.tape.trans h.tape,hb.output.trans h.output,Nat.le_trans h.size hb.size,fun q hq hn=>(hb.block q (Nat.lt_of_lt_of_le hq h.size)).trans (h.block q hq hn)⟩
theorem Cv (h:dK w lo g A n c Vs B m k Es C r rc G W) (v:VC) (hv:rb W v.2.1) (hn:n≤1000) (hu:pW (fun v:VC=>v.1) Vs) (hx:∀u∈Vs,¬u.1=v.1):Ζ η 111 #[υ (ζ ⟨g,0,ε⟩),φ (vC v).toArray] W fun e w'=>e=.returned (.tuple #[])∧∃A' c',dK w lo g A' (n+1) c' (eS (fun v:VC=>v.1) Vs v) B m k Es C r rc G w'∧aY g W w':=by
 obtain⟨⟨i1,i2⟩,⟨rA,rn,bR,rL⟩,lb,at_⟩:=v;have Hv:=qh hv;clear hv;have Py:Hid (∀t x,Vs[t]? =ζ x→dF x.1 (i1,i2)=dF (Vs.getD t ((i1,i2),(rA,rn,bR,rL),lb,at_)).1 (i1,i2)):=qh (fun t x ht=>by rw[χ,ht];rfl);have hlen:=h.vlen;have Td:=qh (fun q e=>(h.v.lt q e).2)
 have Du:Hid (∀a b,a≤b→b<n→dF (Vs.getD b ((i1,i2),(rA,rn,bR,rL),lb,at_)).1 (i1,i2)<0→dF (Vs.getD a ((i1,i2),(rA,rn,bR,rL),lb,at_)).1 (i1,i2)<0):=qh (fun a b Ey hb h0=>by
  rcases JaM a b with h1|h1
  ·have ea:=θ (l:=Vs) (i:=a) (by omega);have eb:=θ (l:=Vs) (i:=b) (by omega);rw[χ,ea];rw[χ,eb] at h0;exact mQ ((List.pairwise_iff_getElem.1 hu) a b (by omega) (by omega) h1) h0
  ·obtain rfl:a=b:=by omega
   exact h0)
 have Nt:Hid (∀i,i≤n→(∀t,t<i→dF (Vs.getD t ((i1,i2),(rA,rn,bR,rL),lb,at_)).1 (i1,i2)<0)→(∀t,i≤t→t<n→0≤dF (Vs.getD t ((i1,i2),(rA,rn,bR,rL),lb,at_)).1 (i1,i2))→Vs.take i++((i1,i2),(rA,rn,bR,rL),lb,at_)::Vs.drop i=eS (fun v:VC=>v.1) Vs ((i1,i2),(rA,rn,bR,rL),lb,at_)):=qh (fun i hi h1 h2=>by
  refine(Bo (k:=(fun v:VC=>v.1)) (v:=((i1,i2),(rA,rn,bR,rL),lb,at_)) (by omega) (fun t u ht fh=>?_) (fun t u ht hle=>?_)).symm
  ·have:=h1 t fh
   rw[χ,ht] at this;exact this
  ·have h3:=h2 t hle (by have:=(ν.1 ht).1;omega);rw[χ,ht] at h3;have h4:¬dF u.1 (i1,i2)=0:=fun e=>hx u (ω ht) ((jR _ _).1 e)
   have h5:0≤dF u.1 (i1,i2):=h3;show 0<dF u.1 (i1,i2);omega)
 have kx:=ax W (δ #[J i1,J i2,γ rA rn bR,μ lb,J at_] 59);have H0:=qh (h.up kx);have aN:Hid (Whole (W.alloc (δ #[J i1,J i2,γ rA rn bR,μ lb,J at_] 59)) W.heap.size 59 [J i1,J i2,γ rA rn bR,μ lb,J at_]):=qh (Whole.new_ _ _ _);have a8:=qh kx;clear h kx hu hx hlen;show Ζ η 111 #[υ (ζ ⟨g,0,ε⟩),φ #[J i1,J i2,γ rA rn bR,μ lb,J at_]] W _;go_enter Tryz.func111,Tryz.ntmps111;go_upto_region 1 with fail
 obtain⟨W0,bP⟩:=ay (W.alloc (δ #[J i1,J i2,γ rA rn bR,μ lb,J at_] 59));obtain⟨b0,bK⟩:=ay W.heap.size;rw[bP] at H0 aN a8 ⊢;rw[bK] at aN;rw[bK];have Hlt:Hid (∀q,(Ο A n c).ownBlock=ζ q→q<b0):=qh (fun q e=>by have:=(Td.out q e);omega);clear bP bK;have fv:∀w',Kept aF W0.drew w'→w'.cell? ⟨g,0,ε⟩=ζ (γ A n c):=fun w' h=>h.nil_cell (H0.out.dr.s.cell (i:=0) rfl)
 have ld1:=dm (i:=0) aN.out rfl;have kO:=dm (i:=1) aN.out rfl;refine aw (aF) (by kernel_rfl) ?_;refine ag 0 ?_;refine ag 1 ?_;refine ag 2 ?_;refine ag 3 ?_;refine ag 4 ?_;refine ag 5 ?_;refine ag 6 ?_;refine sE 7 ?_;intro w' aB
 refine(QP A n c Vs i1 i2 w' (aJ (H0.out.dr.bl aB).v) (by omega) _ Py.out Du.out).mono ?_
 rintro e w2 ⟨i,hi,h1,h2,rfl,ar⟩
 refine⟨_,rfl,Kept.of_below ar,?_⟩
 have HI:=qh (Nt.out i hi h1 h2);have H2:=qh ((H0.out.dr.bl aB).bl ar);have aV:=qh ((aN.out.dr.bl aB).bl ar);have bX:=qh (af (af (aL a8.out) aB) ar);clear ar aB h1 h2 fv ld1 kO H0 aN a8 Nt Py Du;simp only[ξ,aq,ak,ao];refine ag 8 ?_;refine ag 9 ?_;refine ag 10 ?_;refine ag 11 ?_;refine ag 12 ?_;refine aD (by kernel_rfl) ?_ _;intro w3 fu;have H3:=qh (H2.out.bl fu);have dp:=qh (aV.out.bl fu);have cI:=qh (af bX.out fu);clear fu H2 aV bX;go_upto_region 2 with fail
 obtain⟨OB,RH⟩:=ay ((Ο A n c).ownBlock);have ZD:¬ζ g=OB:=by rw[←RH];exact ch H3.out.v H3.out.s (by decide)
 have Bw:¬ζ b0=OB:=fun e=>by have:=Hlt.out b0 (RH.trans e.symm);omega
 have GOB:=qh RH;clear RH;have fv:∀w',Kept (fun x=>ζ x=OB) w3.drew w'→w'.cell? ⟨g,0,ε⟩=ζ (γ A n c):=fun w' h=>h.cell (H3.out.dr.s.cell (i:=0) rfl) ZD
 have l0:∀w',Kept (fun x=>ζ x=OB) w3.drew w'→w'.cell? ⟨b0,0,ε⟩=ζ (J i1):=fun w' h=>h.cell (dp.out.dr.cell (i:=0) rfl) Bw
 have l1:∀w',Kept (fun x=>ζ x=OB) w3.drew w'→w'.cell? ⟨b0,1,ε⟩=ζ (J i2):=fun w' h=>h.cell (dp.out.dr.cell (i:=1) rfl) Bw
 have l2:∀w',Kept (fun x=>ζ x=OB) w3.drew w'→w'.cell? ⟨b0,2,ε⟩=ζ (γ rA rn bR):=fun w' h=>h.cell (dp.out.dr.cell (i:=2) rfl) Bw
 have l3:∀w',Kept (fun x=>ζ x=OB) w3.drew w'→w'.cell? ⟨b0,3,ε⟩=ζ (μ lb):=fun w' h=>h.cell (dp.out.dr.cell (i:=3) rfl) Bw
 have l4:∀w',Kept (fun x=>ζ x=OB) w3.drew w'→w'.cell? ⟨b0,4,ε⟩=ζ (J at_):=fun w' h=>h.cell (dp.out.dr.cell (i:=4) rfl) Bw
 refine bT (fun x=>ζ x=OB) [13] (by kernel_rfl) ?_;refine bf 0 ?_;refine bf 1 ?_;refine bf 2 ?_;refine bf 3 ?_;refine bf 4 ?_;refine bf 5 ?_;refine bf 6 ?_;refine bf 7 ?_;refine kn 8 ?_;intro w' aB;have kZ:=qh ((H3.out.dr.bl aB).al (δ #[J i1,J i2,γ rA rn bR,μ lb,J at_] 59));have Ci:Hid (Whole (w'.alloc (δ #[J i1,J i2,γ rA rn bR,μ lb,J at_] 59)) w'.heap.size 59 [J i1,J i2,γ rA rn bR,μ lb,J at_]):=qh (Whole.new_ _ _ _)
 have AD:Hid (ζ w'.heap.size≠(Ο A n c).ownBlock):=qh (fun e=>by
  have:=((H3.out.dr.bl aB).v.lt w'.heap.size e.symm).2
  omega)
 have gW:=qh (aE (af (aL cI.out) aB) (δ #[J i1,J i2,γ rA rn bR,μ lb,J at_] 59))
 refine⟨_,w'.alloc (δ #[J i1,J i2,γ rA rn bR,μ lb,J at_] 59),by(go_simp;first|done|exact rfl|exact⟨rfl,rfl⟩),Kept.of_below (ax _ _),?_⟩
 obtain⟨b4,Iw⟩:=ay w'.heap.size;obtain⟨W4,EK⟩:=ay (w'.alloc (δ #[J i1,J i2,γ rA rn bR,μ lb,J at_] 59));rw[EK] at kZ Ci gW;rw[Iw] at Ci AD;rw[EK,Iw];clear aB EK Iw fv l0 l1 l2 l3 l4 H3 dp cI;simp only[ξ,aq,ak,ao];refine kP 9 ?_;intro w' aB
 refine(Bi (w:=w) (B:=lo) (G:=Vs) ((i1,i2),(rA,rn,bR,rL),lb,at_) ⟨(kZ.out.bl aB).v,(kZ.out.bl aB).below,kZ.out.lo_,(kZ.out.bl aB).hi⟩ (by exact Ci.out.bl aB) AD.out (by omega) hi).mono ?_
 rintro e w5 ⟨A5,c5,rfl,Lo,vT⟩;rw[HI.out] at Lo
 have XD:Hid (∀W5,σ w5.heap.size w5 W5→dK w lo g A5 (n+1) c5 (eS (fun v:VC=>v.1) Vs ((i1,i2),(rA,rn,bR,rL),lb,at_)) B m k Es C r rc G (W5.setCell ⟨g,0,ε⟩ (γ A5 (n+1) c5))∧(∃u,W5.cell? ⟨g,0,ε⟩=ζ u)∧W5.frozen? ⟨g,0,ε⟩=ρ∧aY g W (W5.setCell ⟨g,0,ε⟩ (γ A5 (n+1) c5))):=qh (fun W5 fB=>by
  have hS:=kZ.out.bl aB;have hg:=CK vT fB;have hs:=hS.s.grown hg (ch hS.v hS.s (by decide))
  refine⟨hS.setV hg (bO Lo.own fB) (fun x hx=>by
   rcases dx.1 hx with rfl|hx
   ·exact .inr ((((Hv.out.bl gW.out).bl aB).grown hS.v (by decide) hg))
   ·exact .inl hx),⟨_,hs.cell (i:=0) rfl⟩,hs.free _,?_⟩
  exact((aY.of_below gW.out).trans ((aY.of_below aB).trans (aY.grown hS.v (.inl rfl) hg))).setS _ _)
 refine⟨_,rfl,⟨vT.os,vT.tape,vT.output,vT.size,fun q hq hn=>vT.block q hq (fun e=>hn (e.trans GOB.out))⟩,?_⟩
 clear aB Lo vT kZ Ci AD gW HI;simp only[ξ,aq,ak,ao];refine kn 10 ?_;intro w' aB;apply JaG;apply JaG;apply Jax
 ·go_simp;first|done|exact⟨rfl,rfl⟩|exact rfl
 apply Jax
 ·exact Kept.refl _ _
 have Is:=aB;clear aB;simp only[ξ,aq,ak,ao];refine kn 11 ?_;intro w' aB;replace aB:=Ext.trans Is aB;apply JaG;apply JaG;apply Jax
 ·go_simp;first|done|exact⟨rfl,rfl⟩|exact rfl
 apply Jax
 ·exact Kept.refl _ _
 have Iu:=aB;clear aB;simp only[ξ,aq,ak,ao];refine bf 12 ?_;refine lK 13 ?_;intro w' aB;replace aB:=Ext.trans Iu aB;clear Iu;obtain⟨ph,⟨u5,qU⟩,X7,Cm⟩:=XD.out w' aB;have Oq:=qh ph;have ru:=qh Cm;clear ph Cm
 refine⟨w'.setCell ⟨g,0,ε⟩ (γ A5 (n+1) c5),by(go_simp;first|done|exact rfl|exact⟨rfl,rfl⟩),?_⟩
 clear qU X7;obtain⟨W7,Fk⟩:=ay (w'.setCell ⟨g,0,ε⟩ (γ A5 (n+1) c5));rw[Fk] at Oq ru ⊢;clear Fk aB XD;(try simp only[ξ,aq,ak,ao]);refine eX (by kernel_rfl) ?_ _;intro w8 cE;have RT:=qh (Oq.out.bl cE);have EM:=qh (ru.out.trans (aY.of_below cE));clear cE Oq ru;go_wp2;go_end0;exact⟨rfl,by first|exact⟨_,_,RT.out,EM.out⟩|exact⟨⟨_,_,RT.out⟩,EM.out⟩⟩
theorem NQ (h:dK w lo g A n c Vs B m k Es C r rc G W) (i1 i2:Int) (hn:m≤1000) (hu:pW (fun v:EC=>v.1) Es) (hx:∀u∈Es,¬u.1=(i1,i2)):Ζ η 116 #[υ (ζ ⟨g,0,ε⟩),φ #[J i1,J i2]] W fun e w'=>e=.returned (.tuple #[])∧∃A' c',dK w lo g A n c Vs A' (m+1) c' (eS (fun v:EC=>v.1) Es ((i1,i2),Jaf,0)) C r rc G w'∧aY g W w':=by
 have Py:Hid (∀t x,Es[t]? =ζ x→dF x.1 (i1,i2)=dF (Es.getD t ((i1,i2),Jaf,0)).1 (i1,i2)):=qh (fun t x ht=>by rw[χ,ht];rfl);have hlen:=h.elen;have Td:=qh (fun q e=>(h.e.lt q e).2)
 have Du:Hid (∀a b,a≤b→b<m→dF (Es.getD b ((i1,i2),Jaf,0)).1 (i1,i2)<0→dF (Es.getD a ((i1,i2),Jaf,0)).1 (i1,i2)<0):=qh (fun a b Ey hb h0=>by
  rcases JaM a b with h1|h1
  ·have ea:=θ (l:=Es) (i:=a) (by omega);have eb:=θ (l:=Es) (i:=b) (by omega);rw[χ,ea];rw[χ,eb] at h0;exact mQ ((List.pairwise_iff_getElem.1 hu) a b (by omega) (by omega) h1) h0
  ·obtain rfl:a=b:=by omega
   exact h0)
 have Nt:Hid (∀i,i≤m→(∀t,t<i→dF (Es.getD t ((i1,i2),Jaf,0)).1 (i1,i2)<0)→(∀t,i≤t→t<m→0≤dF (Es.getD t ((i1,i2),Jaf,0)).1 (i1,i2))→Es.take i++((i1,i2),Jaf,0)::Es.drop i=eS (fun v:EC=>v.1) Es ((i1,i2),Jaf,0)):=qh (fun i hi h1 h2=>by
  refine(Bo (k:=(fun v:EC=>v.1)) (v:=((i1,i2),Jaf,0)) (by omega) (fun t u ht fh=>?_) (fun t u ht hle=>?_)).symm
  ·have:=h1 t fh
   rw[χ,ht] at this;exact this
  ·have h3:=h2 t hle (by have:=(ν.1 ht).1;omega);rw[χ,ht] at h3;have h4:¬dF u.1 (i1,i2)=0:=fun e=>hx u (ω ht) ((jR _ _).1 e)
   have h5:0≤dF u.1 (i1,i2):=h3;show 0<dF u.1 (i1,i2);omega)
 have kx:=ax W (δ #[J i1,J i2] 30);have H0:=qh (h.up kx);have aN:Hid (Whole (W.alloc (δ #[J i1,J i2] 30)) W.heap.size 30 [J i1,J i2]):=qh (Whole.new_ _ _ _);have a8:=qh kx;clear h kx hu hx hlen;go_enter Tryz.func116,Tryz.ntmps116;go_upto_region 1 with fail
 obtain⟨W0,bP⟩:=ay (W.alloc (δ #[J i1,J i2] 30));obtain⟨b0,bK⟩:=ay W.heap.size;rw[bP] at H0 aN a8 ⊢;rw[bK] at aN;rw[bK];have Hlt:Hid (∀q,(Ο B m k).ownBlock=ζ q→q<b0):=qh (fun q e=>by have:=(Td.out q e);omega);clear bP bK;have fv:∀w',Kept aF W0.drew w'→w'.cell? ⟨g,1,ε⟩=ζ (γ B m k):=fun w' h=>h.nil_cell (H0.out.dr.s.cell (i:=1) rfl)
 have ld1:=dm (i:=0) aN.out rfl;have kO:=dm (i:=1) aN.out rfl;refine aw (aF) (by kernel_rfl) ?_;refine ag 0 ?_;refine ag 1 ?_;refine ag 2 ?_;refine ag 3 ?_;refine ag 4 ?_;refine ag 5 ?_;refine sE 6 ?_;intro w' aB
 refine(RE B m k Es i1 i2 w' (aJ (H0.out.dr.bl aB).e) (by omega) _ Py.out Du.out).mono ?_
 rintro e w2 ⟨i,hi,h1,h2,rfl,ar⟩
 refine⟨_,rfl,Kept.of_below ar,?_⟩
 have HI:=qh (Nt.out i hi h1 h2);have H2:=qh ((H0.out.dr.bl aB).bl ar);have aV:=qh ((aN.out.dr.bl aB).bl ar);have bX:=qh (af (af (aL a8.out) aB) ar);clear ar aB h1 h2 fv ld1 kO H0 aN a8 Nt Py Du;simp only[ξ,aq,ak,ao];refine ag 7 ?_;refine ag 8 ?_;refine ag 9 ?_;refine ag 10 ?_;refine ag 11 ?_;refine aD (by kernel_rfl) ?_ _;intro w3 fu;have H3:=qh (H2.out.bl fu);have dp:=qh (aV.out.bl fu);have cI:=qh (af bX.out fu);clear fu H2 aV bX;go_upto_region 2 with fail
 obtain⟨OB,RH⟩:=ay ((Ο B m k).ownBlock);have ZD:¬ζ g=OB:=by rw[←RH];exact ch H3.out.e H3.out.s (by decide)
 have Bw:¬ζ b0=OB:=fun e=>by have:=Hlt.out b0 (RH.trans e.symm);omega
 have GOB:=qh RH;clear RH;have fv:∀w',Kept (fun x=>ζ x=OB) w3.drew w'→w'.cell? ⟨g,1,ε⟩=ζ (γ B m k):=fun w' h=>h.cell (H3.out.dr.s.cell (i:=1) rfl) ZD
 have l0:∀w',Kept (fun x=>ζ x=OB) w3.drew w'→w'.cell? ⟨b0,0,ε⟩=ζ (J i1):=fun w' h=>h.cell (dp.out.dr.cell (i:=0) rfl) Bw
 have l1:∀w',Kept (fun x=>ζ x=OB) w3.drew w'→w'.cell? ⟨b0,1,ε⟩=ζ (J i2):=fun w' h=>h.cell (dp.out.dr.cell (i:=1) rfl) Bw
 refine bT (fun x=>ζ x=OB) [14] (by kernel_rfl) ?_;refine bf 0 ?_;refine bf 1 ?_;refine bf 2 ?_;refine bf 3 ?_;refine bf 4 ?_;refine bf 5 ?_;refine bf 6 ?_;refine bf 7 ?_;refine bf 8 ?_;refine kn 9 ?_;intro w' aB;have kZ:=qh ((H3.out.dr.bl aB).al (δ #[J i1,J i2,μ {data:=#[]},J 0] 67));have Ci:Hid (Whole (w'.alloc (δ #[J i1,J i2,μ {data:=#[]},J 0] 67)) w'.heap.size 67 [J i1,J i2,μ {data:=#[]},J 0]):=qh (Whole.new_ _ _ _)
 have AD:Hid (ζ w'.heap.size≠(Ο B m k).ownBlock):=qh (fun e=>by
  have:=((H3.out.dr.bl aB).e.lt w'.heap.size e.symm).2
  omega)
 have gW:=qh (aE (af (aL cI.out) aB) (δ #[J i1,J i2,μ {data:=#[]},J 0] 67))
 refine⟨_,w'.alloc (δ #[J i1,J i2,μ {data:=#[]},J 0] 67),by(go_simp;first|done|exact rfl|exact⟨rfl,rfl⟩),Kept.of_below (ax _ _),?_⟩
 obtain⟨b4,Iw⟩:=ay w'.heap.size;obtain⟨W4,EK⟩:=ay (w'.alloc (δ #[J i1,J i2,μ {data:=#[]},J 0] 67));rw[EK] at kZ Ci gW;rw[Iw] at Ci AD;rw[EK,Iw];clear aB EK Iw fv l0 l1 H3 dp cI;simp only[ξ,aq,ak,ao];refine kP 10 ?_;intro w' aB
 refine(BQ (w:=w) (B:=lo) (G:=Es) ((i1,i2),Jaf,0) ⟨(kZ.out.bl aB).e,(kZ.out.bl aB).below,kZ.out.lo_,(kZ.out.bl aB).hi⟩ (by exact Ci.out.bl aB) AD.out (by omega) hi).mono ?_
 rintro e w5 ⟨A5,c5,rfl,Lo,vT⟩;rw[HI.out] at Lo
 have XD:Hid (∀W5,σ w5.heap.size w5 W5→dK w lo g A n c Vs A5 (m+1) c5 (eS (fun v:EC=>v.1) Es ((i1,i2),Jaf,0)) C r rc G (W5.setCell ⟨g,1,ε⟩ (γ A5 (m+1) c5))∧(∃u,W5.cell? ⟨g,1,ε⟩=ζ u)∧W5.frozen? ⟨g,1,ε⟩=ρ∧aY g W (W5.setCell ⟨g,1,ε⟩ (γ A5 (m+1) c5))):=qh (fun W5 fB=>by
  have hS:=kZ.out.bl aB;have hg:=CK vT fB;have hs:=hS.s.grown hg (ch hS.e hS.s (by decide))
  refine⟨hS.setE hg (bO Lo.own fB),⟨_,hs.cell (i:=1) rfl⟩,hs.free _,?_⟩
  exact((aY.of_below gW.out).trans ((aY.of_below aB).trans (aY.grown hS.e (.inr (.inl rfl)) hg))).setS _ _)
 refine⟨_,rfl,⟨vT.os,vT.tape,vT.output,vT.size,fun q hq hn=>vT.block q hq (fun e=>hn (e.trans GOB.out))⟩,?_⟩
 clear aB Lo vT kZ Ci AD gW HI;simp only[ξ,aq,ak,ao];refine kn 11 ?_;intro w' aB;apply JaG;apply JaG;apply Jax
 ·go_simp;first|done|exact⟨rfl,rfl⟩|exact rfl
 apply Jax
 ·exact Kept.refl _ _
 have Iu:=aB;clear aB;simp only[ξ,aq,ak,ao];refine kn 12 ?_;intro w' aB;replace aB:=Ext.trans Iu aB;apply JaG;apply JaG;apply Jax
 ·go_simp;first|done|exact⟨rfl,rfl⟩|exact rfl
 apply Jax
 ·exact Kept.refl _ _
 have S4:=aB;clear aB;simp only[ξ,aq,ak,ao];refine bf 13 ?_;refine lK 14 ?_;intro w' aB;replace aB:=Ext.trans S4 aB;clear S4;obtain⟨ph,⟨u5,qU⟩,X7,Cm⟩:=XD.out w' aB;have Oq:=qh ph;have ru:=qh Cm;clear ph Cm
 refine⟨w'.setCell ⟨g,1,ε⟩ (γ A5 (m+1) c5),by(go_simp;first|done|exact rfl|exact⟨rfl,rfl⟩),?_⟩
 clear qU X7;obtain⟨W7,Fk⟩:=ay (w'.setCell ⟨g,1,ε⟩ (γ A5 (m+1) c5));rw[Fk] at Oq ru ⊢;clear Fk aB XD;(try simp only[ξ,aq,ak,ao]);refine eX (by kernel_rfl) ?_ _;intro w8 cE;have RT:=qh (Oq.out.bl cE);have EM:=qh (ru.out.trans (aY.of_below cE));clear cE Oq ru;go_wp2;go_end0;exact⟨rfl,by first|exact⟨_,_,RT.out,EM.out⟩|exact⟨⟨_,_,RT.out⟩,EM.out⟩⟩
end
section
variable {w W:ο} {lo g:Nat} {A:Option Κ} {n c:Nat} {Vs:List VC} {B:Option Κ} {m k:Nat} {Es:List EC} {C:Option Κ} {r rc:Nat} {G:List Gn}
theorem yh (s n c:Int) (h:c=0∨c=1):Pure 127 #[φ #[J s,J n,J c]] (φ #[J s,J n,J (1 - c)]):=fun w=>by
 have h1:Jaw.wrap (1 - c)=1 - c:=by rw[JaT];omega
 go_enter Tryz.func127,Tryz.ntmps127;go_wp2;exact bodyPost_ret (v:=φ #[J s,J n,J (1 - c)]) (by simp[results,Tryz.results127,go_sem]) rfl ⟨rfl,cG _ _ _⟩
theorem uJ (s n c:Int) (h:c=0∨c=1):Pure 32 #[φ #[J s,J n,J c]] (φ #[J s,J n,J (1 - c)]):=fun w=>by
 have h1:Jaw.wrap (1 - c)=1 - c:=by rw[JaT];omega
 go_enter Tryz.func32,Tryz.ntmps32;go_wp2;exact bodyPost_ret (v:=φ #[J s,J n,J (1 - c)]) (by simp[results,Tryz.results32,go_sem]) rfl ⟨rfl,cG _ _ _⟩
theorem tR (h:dK w lo g A n c Vs B m k Es C r rc G W) (x y:D) (hr:r≤400) (hG:ft G):Ζ η 119 #[υ (ζ ⟨g,0,ε⟩),φ #[J x.1,J x.2.1,J x.2.2],φ #[J y.1,J y.2.1,J y.2.2]] W fun e w'=>e=.returned (.tuple #[])∧∃C' r' rE,dK w lo g A n c Vs B m k Es C' r' rE (dJ G (x,y)) w'∧(dJ G (x,y)).length=r'∧aY g W w'∧Kept (fun b=>b=g) W w':=by
 have hl:=h.glen
 have Ul:Hid (∀W',σ W.heap.size W W'→Ζ η 150 #[γ C r rc,φ #[J x.1,J x.2.1,J x.2.2,J y.1,J y.2.1,J y.2.2]] W' fun e w'=>∃A' c',e=.returned (.slice A' (dJ G (x,y)).length c')∧w'.ownsRow W'.heap.size 98 6 (.slice A' (dJ G (x,y)).length c') (dJ G (x,y)).length (aj cB (dJ G (x,y)))∧σ W'.heap.size W' w'):=qh (fun W' hb=>
  Mg C r rc G (x,y) W' (aJ (h.bl hb).gn) hr (Wx G (x,y)) (xR G (x,y)) (Nv hG (x,y) hl) (fun t ht h0 s hs=>by
   have es:=θ (l:=G) (i:=s) (by omega);have et:=θ (l:=G) (i:=t) (by omega);rw[←xR G (x,y) s _ es];rw[←xR G (x,y) t _ et] at h0;have h1:=(List.pairwise_iff_getElem.1 (sQ hG)) s t (by omega) (by omega) hs;have h2:cU G[s] (x,y)=cU G[s] G[t]:=by unfold cU;rw[(iB _ _).1 h0]
   rw[h2];exact h1))
 obtain⟨N,gN⟩:=ay ((dJ G (x,y)).length);rw[gN] at Ul;have GN:=qh gN;have kx:=aE (ax W (δ #[J x.1,J x.2.1,J x.2.2] 32)) (δ #[J y.1,J y.2.1,J y.2.2] 32);have a8:=qh kx;have H0:=qh (h.up kx);have aN:Hid (Whole ((W.alloc (δ #[J x.1,J x.2.1,J x.2.2] 32)).alloc (δ #[J y.1,J y.2.1,J y.2.2] 32)) W.heap.size 32 [J x.1,J x.2.1,J x.2.2]):=qh ((Whole.new_ _ _ [_,_,_]).al _);have eU:Hid (Whole ((W.alloc (δ #[J x.1,J x.2.1,J x.2.2] 32)).alloc (δ #[J y.1,J y.2.1,J y.2.2] 32)) (W.heap.size+1) 32 [J y.1,J y.2.1,J y.2.2]):=qh (Whole.new2 (by simp));clear h kx hl gN;go_enter Tryz.func119,Tryz.ntmps119;go_upto_region 1 with fail
 obtain⟨W0,bP⟩:=ay ((W.alloc (δ #[J x.1,J x.2.1,J x.2.2] 32)).alloc (δ #[J y.1,J y.2.1,J y.2.2] 32));obtain⟨b1,cX⟩:=ay (W.heap.size+1);obtain⟨b0,bK⟩:=ay W.heap.size;rw[bP] at H0 aN eU a8 ⊢;rw[cX] at eU ⊢;rw[bK] at aN ⊢;clear bP bK cX;have fv:∀w',Kept aF W0.drew w'→w'.cell? ⟨g,2,ε⟩=ζ (γ C r rc):=fun w' h=>h.nil_cell (H0.out.dr.s.cell (i:=2) rfl)
 have p0:=dm (i:=0) aN.out rfl;have q0:=dm (i:=0) eU.out rfl;have p1:=dm (i:=1) aN.out rfl;have q1:=dm (i:=1) eU.out rfl;have p2:=dm (i:=2) aN.out rfl;have q2:=dm (i:=2) eU.out rfl;refine bT (aF) [11] (by kernel_rfl) ?_;refine bf 0 ?_;refine bf 1 ?_;refine bf 2 ?_;refine bf 3 ?_;refine bf 4 ?_;refine bf 5 ?_;refine bf 6 ?_;refine bf 7 ?_;refine kP 8 ?_;intro w' aB
 refine(Ul.out w' (af (aL a8.out) aB)).mono ?_
 rintro e w2 ⟨C2,oI,rfl,ho2,ar⟩
 refine⟨_,rfl,Kept.of_below ar,?_⟩
 have HF2:Hid (∀W5,σ w2.heap.size w2 W5→dK w lo g A n c Vs B m k Es C2 N oI (dJ G (x,y)) (W5.setCell ⟨g,2,ε⟩ (γ C2 N oI))∧(∃u,W5.cell? ⟨g,2,ε⟩=ζ u)∧W5.frozen? ⟨g,2,ε⟩=ρ∧aY g W (W5.setCell ⟨g,2,ε⟩ (γ C2 N oI))∧Kept (fun b=>b=g) W (W5.setCell ⟨g,2,ε⟩ (γ C2 N oI))):=qh (fun W5 fB=>by
  have hS:=H0.out.dr.bl aB;have hs:=(hS.bl (af ar fB)).s
  refine⟨hS.setG (af ar fB) (bO (fj ho2 hS.hi) fB),⟨_,hs.cell (i:=2) rfl⟩,hs.free _,?_⟩
  exact⟨(aY.of_below (af (af (aL a8.out) aB) (af ar fB))).setS _ _,(Kept.of_below (S:=fun b=>b=g) (af (af (aL a8.out) aB) (af ar fB))).setCell (p:=⟨g,2,ε⟩) (.inl rfl) _⟩)
 clear aB ho2 ar fv p0 q0 p1 q1 p2 q2 H0 aN eU a8 Ul;simp only[ξ,aq,ak,ao];refine kn 9 ?_;intro w' aB;apply JaG;apply JaG;apply Jax
 ·go_simp;first|done|exact⟨rfl,rfl⟩|exact rfl
 apply Jax
 ·exact Kept.refl _ _
 have Wt:=aB;clear aB;simp only[ξ,aq,ak,ao];refine bf 10 ?_;refine lK 11 ?_;intro w' aB;replace aB:=Ext.trans Wt aB;clear Wt;obtain⟨ph,⟨u5,qU⟩,X7,Cm,hp5⟩:=HF2.out w' aB;have Oq:=qh ph;have ru:=qh Cm;have Xl:=qh hp5;clear ph Cm hp5
 refine⟨w'.setCell ⟨g,2,ε⟩ (γ C2 N oI),by(go_simp;first|done|exact rfl|exact⟨rfl,rfl⟩),?_⟩
 clear qU X7;obtain⟨W7,Fk⟩:=ay (w'.setCell ⟨g,2,ε⟩ (γ C2 N oI));rw[Fk] at Oq ru Xl ⊢;clear Fk aB HF2;(try simp only[ξ,aq,ak,ao]);refine eX (by kernel_rfl) ?_ _;intro w8 cE;have RT:=qh (Oq.out.bl cE);have EM:=qh (ru.out.trans (aY.of_below cE));have HP8:=qh (Xl.out.trans (Kept.of_below cE));clear cE Oq ru Xl;go_wp2;go_end0;exact⟨rfl,by first|exact⟨_,_,_,RT.out,GN.out,EM.out,HP8.out⟩|exact⟨⟨_,_,_,RT.out,GN.out⟩,EM.out,HP8.out⟩⟩
theorem LY (A:Option Κ) (n c bx OG:Nat) (L:List D) (x y:D) (w:ο) (h:aX w w.heap.size 3 A n c (aA L)) (hx:Whole w bx 32 [J x.1,J x.2.1,J x.2.2]) (hy:Whole w OG 32 [J y.1,J y.2.1,J y.2.2]) (hs:y.2.2=0∨y.2.2=1) (hn:n≤1000):Ζ η 125 #[γ A n c,υ (ζ ⟨bx,0,ε⟩),υ (ζ ⟨OG,0,ε⟩)] w (pC w (aS (fo L x (y.1,y.2.1,1 - y.2.2)))):=by
 have H:=qh h;have HO:=qh (yh y.1 y.2.1 y.2.2 hs);go_enter Tryz.func125,Tryz.ntmps125;go_upto_region 1 with fail
 have p0:∀w',Kept aF w.drew w'→w'.cell? ⟨bx,0,ε⟩=ζ (J x.1):=fun w' h=>h.nil_cell (hx.dr.cell (i:=0) rfl)
 have q0:∀w',Kept aF w.drew w'→w'.cell? ⟨OG,0,ε⟩=ζ (J y.1):=fun w' h=>h.nil_cell (hy.dr.cell (i:=0) rfl)
 have p1:∀w',Kept aF w.drew w'→w'.cell? ⟨bx,1,ε⟩=ζ (J x.2.1):=fun w' h=>h.nil_cell (hx.dr.cell (i:=1) rfl)
 have q1:∀w',Kept aF w.drew w'→w'.cell? ⟨OG,1,ε⟩=ζ (J y.2.1):=fun w' h=>h.nil_cell (hy.dr.cell (i:=1) rfl)
 have p2:∀w',Kept aF w.drew w'→w'.cell? ⟨bx,2,ε⟩=ζ (J x.2.2):=fun w' h=>h.nil_cell (hx.dr.cell (i:=2) rfl)
 have q2:∀w',Kept aF w.drew w'→w'.cell? ⟨OG,2,ε⟩=ζ (J y.2.2):=fun w' h=>h.nil_cell (hy.dr.cell (i:=2) rfl)
 clear h hx hy;refine aw (aF) (by kernel_rfl) ?_;refine ag 0 ?_;refine ag 1 ?_;refine ag 2 ?_;refine bY 3 (hy:=by apply ck;rfl;rotate_left;intro w' aB;exact HO.out w';intro w';go_simp) (h:=?_);refine sE 4 ?_;intro w' aB
 refine(xI A n c L x (y.1,y.2.1,1 - y.2.2) w' (H.out.dr.bl aB) (by omega)).mono ?_
 rintro e w3 ⟨A3,c3,rfl,sw,bC⟩
 refine⟨_,rfl,Kept.of_below bC,?_⟩
 have lk:=qh sw;have cI:=qh (af (af (aL (Θ w.heap.size w)) aB) bC);clear sw bC aB p0 p1 p2 q0 q1 q2 H;simp only[ξ,aq,ak,ao];refine ag 5 ?_;refine aD (by kernel_rfl) ?_ _;intro w8 cE;have X5:=qh (lk.out.bl cE);have oR:=qh (af cI.out cE);clear cE lk cI;go_wp2;go_ret;exact⟨A3,c3,rfl,X5.out,oR.out⟩
theorem OE (A:Option Κ) (n c bx OG:Nat) (L:List D) (x y:D) (w:ο) (h:aX w w.heap.size 3 A n c (aA L)) (hx:Whole w bx 32 [J x.1,J x.2.1,J x.2.2]) (hy:Whole w OG 32 [J y.1,J y.2.1,J y.2.2]) (hs:x.2.2=0∨x.2.2=1) (hn:n≤1000):Ζ η 130 #[γ A n c,υ (ζ ⟨bx,0,ε⟩),υ (ζ ⟨OG,0,ε⟩)] w (pC w (aS (fo L (x.1,x.2.1,1 - x.2.2) y))):=by
 have H:=qh h;have HO:=qh (yh x.1 x.2.1 x.2.2 hs);go_enter Tryz.func130,Tryz.ntmps130;go_upto_region 1 with fail
 have p0:∀w',Kept aF w.drew w'→w'.cell? ⟨bx,0,ε⟩=ζ (J x.1):=fun w' h=>h.nil_cell (hx.dr.cell (i:=0) rfl)
 have q0:∀w',Kept aF w.drew w'→w'.cell? ⟨OG,0,ε⟩=ζ (J y.1):=fun w' h=>h.nil_cell (hy.dr.cell (i:=0) rfl)
 have p1:∀w',Kept aF w.drew w'→w'.cell? ⟨bx,1,ε⟩=ζ (J x.2.1):=fun w' h=>h.nil_cell (hx.dr.cell (i:=1) rfl)
 have q1:∀w',Kept aF w.drew w'→w'.cell? ⟨OG,1,ε⟩=ζ (J y.2.1):=fun w' h=>h.nil_cell (hy.dr.cell (i:=1) rfl)
 have p2:∀w',Kept aF w.drew w'→w'.cell? ⟨bx,2,ε⟩=ζ (J x.2.2):=fun w' h=>h.nil_cell (hx.dr.cell (i:=2) rfl)
 have q2:∀w',Kept aF w.drew w'→w'.cell? ⟨OG,2,ε⟩=ζ (J y.2.2):=fun w' h=>h.nil_cell (hy.dr.cell (i:=2) rfl)
 clear h hx hy;refine aw (aF) (by kernel_rfl) ?_;refine ag 0 ?_;refine ag 1 ?_;refine bY 2 (hy:=by apply ck;rfl;rotate_left;intro w' aB;exact HO.out w';intro w';go_simp) (h:=?_);refine ag 3 ?_;refine sE 4 ?_;intro w' aB
 refine(xI A n c L (x.1,x.2.1,1 - x.2.2) y w' (H.out.dr.bl aB) (by omega)).mono ?_
 rintro e w3 ⟨A3,c3,rfl,sw,bC⟩
 refine⟨_,rfl,Kept.of_below bC,?_⟩
 have lk:=qh sw;have cI:=qh (af (af (aL (Θ w.heap.size w)) aB) bC);clear sw bC aB p0 p1 p2 q0 q1 q2 H;simp only[ξ,aq,ak,ao];refine ag 5 ?_;refine aD (by kernel_rfl) ?_ _;intro w8 cE;have X5:=qh (lk.out.bl cE);have oR:=qh (af cI.out cE);clear cE lk cI;go_wp2;go_ret;exact⟨A3,c3,rfl,X5.out,oR.out⟩
end
def o9 {α:Type} (f:α→α):Nat→α→α
 |0,x=>x
 |k+1,x=>o9 f k (f x)
structure Pm {α:Type} (f:α→α) (L:List α):Prop where
 nd:L.Nodup
 cl:∀x∈L,f x∈L
 inj:∀x∈L,∀y∈L,f x=f y→x=y
def Rl {α:Type} (f:α→α) (x y:α):Prop:=∃i,o9 f i x=y
structure lU {α:Type} (f:α→α) (x:α) (p:Nat):Prop where
 pos:0<p
 back:o9 f p x=x
 ne:∀i,0<i→i<p→o9 f i x≠x
def mi {α:Type} (f:α→α) (x:α) (p:Nat):List α:=(Ω p).map fun i=>o9 f i x
def o5 {α:Type} [DecidableEq α] (f:α→α) (x:α):Nat→α→List α
 |0,_=>[]
 |k+1,y=>y::(if f y=x then[] else o5 f x k (f y))
structure yo {α:Type} (f:α→α) (L P:List α):Prop where
 nd:P.Nodup
 sub:∀p∈P,p∈L
 all:∀x∈L,∃p∈P,Rl f p x
 one:∀p∈P,∀q∈P,Rl f p q→p=q
theorem GZ {α β:Type} [DecidableEq β] (r:α→β→Prop):∀(A:List α) (B:List β),A.Nodup→(∀a∈A,∃b∈B,r a b)→(∀a∈A,∀a'∈A,∀b∈B,r a b→r a' b→a=a')→A.length≤B.length
 |[],_,_,_,_=>Nat.zero_le _
 |a::A,B,hn,he,hi=>by
  rw[JaJ] at hn;obtain⟨b,hb,hr⟩:=he a (Jai ..)
  have h1:=GZ r A (B.erase b) hn.2 (fun a' ha'=>by
   obtain⟨b',IT,Ch⟩:=he a' (Jad _ ha')
   refine⟨b',(List.mem_erase_of_ne (fun e=>?_)).2 IT,Ch⟩
   subst e;exact hn.1 (hi a (Jai ..) a' (Jad _ ha') b' IT hr Ch▸ha')) (fun x hx y hy z hz=>hi x (Jad _ hx) y (Jad _ hy) z (List.mem_of_mem_erase hz))
  rw[List.length_erase_of_mem hb] at h1
  have:=List.length_pos_of_mem hb
  simp only[JaH];omega
theorem Ii {α:Type} [DecidableEq α] {A B:List α} (h:A.Nodup) (hs:∀x∈A,x∈B):A.length≤B.length:=
 GZ (fun a b=>a=b) A B h (fun a ha=>⟨a,hs a ha,rfl⟩) (fun _ _ _ _ _ _ e e'=>e.trans e'.symm)
theorem least {p:Nat→Prop} (h:∃n,p n):∃n,p n∧∀m,m<n→¬p m:=by
 obtain⟨n,hn⟩:=h
 induction n using Nat.strongRecOn with
 |_ n ih=>
  by_cases q:∃m,m<n∧p m
  ·obtain⟨m,h1,h2⟩:=q;exact ih m h1 h2
  ·exact⟨n,hn,fun m h1 h2=>q ⟨m,h1,h2⟩⟩
section
variable {α:Type} {f:α→α} {L P Q:List α}
theorem sF (i j:Nat) (x:α):o9 f (i+j) x=o9 f j (o9 f i x):=by
 induction i generalizing x with
 |zero=>rw[Nat.zero_add];rfl
 |succ i ih=>rw[Nat.succ_add];exact ih (f x)
theorem nY (k:Nat) (x:α):o9 f (k+1) x=f (o9 f k x):=sF k 1 x
theorem Pm.it (h:Pm f L) {x:α} (hx:x∈L):∀k,o9 f k x∈L
 |0=>hx
 |k+1=>by rw[nY];exact h.cl _ (h.it hx k)
theorem Pm.it_inj (h:Pm f L) {x y:α} (hx:x∈L) (hy:y∈L):∀k,o9 f k x=o9 f k y→x=y
 |0,e=>e
 |k+1,e=>by
  rw[nY,nY] at e;exact h.it_inj hx hy k (h.inj _ (h.it hx k) _ (h.it hy k) e)
theorem Pm.per [DecidableEq α] (h:Pm f L) {x:α} (hx:x∈L):∃p,lU f x p∧p≤L.length:=by
 have h0:∃n,0<n∧o9 f n x=x∧n≤L.length:=by
  refine Classical.byContradiction fun yE=>?_
  have hnd:((Ω (L.length+1)).map fun i=>o9 f i x).Nodup:=by
   rw[List.Nodup,List.pairwise_map];refine List.Pairwise.imp_of_mem ?_ (List.pairwise_lt_range (n:=L.length+1));intro i j hi hj fh e;rw[List.mem_range] at hi hj;refine yE ⟨j - i,by omega,?_,by omega⟩
   have e1:o9 f i (o9 f (j - i) x)=o9 f i x:=by
    rw[←sF,Nat.sub_add_cancel (by omega)];exact e.symm
   exact h.it_inj (h.it hx _) hx i e1
  have:=Ii hnd (B:=L) (fun y hy=>by
   obtain⟨i,_,rfl⟩:=Α.1 hy;exact h.it hx i)
  rw[List.length_map,List.length_range] at this;omega
 obtain⟨n,⟨h1,h2,h3⟩,h4⟩:=least h0;exact⟨n,⟨h1,h2,fun i hi fh e=>h4 i fh ⟨hi,e,by omega⟩⟩,h3⟩
theorem lU.mul {x:α} {p:Nat} (h:lU f x p) (k:Nat):o9 f (p*k) x=x:=by
 induction k with
 |zero=>rfl
 |succ k ih=>rw[Nat.mul_succ,sF,ih,h.back]
theorem lU.mod {x:α} {p:Nat} (h:lU f x p) (k:Nat):o9 f k x=o9 f (k % p) x:=by
 have:=sF (f:=f) (p*(k / p)) (k % p) x
 rw[Nat.div_add_mod,h.mul] at this;exact this
theorem lU.inj (h:Pm f L) {x:α} (hx:x∈L) {p:Nat} (hp:lU f x p) {i j:Nat} (hi:i<p) (hj:j<p) (e:o9 f i x=o9 f j x):i=j:=by
 have key:∀{i j:Nat},i<j→j<p→o9 f i x=o9 f j x→False:=fun {i j} fh hj e=>by
  have e1:o9 f i (o9 f (j - i) x)=o9 f i x:=by
   rw[←sF,Nat.sub_add_cancel (by omega)];exact e.symm
  exact hp.ne (j - i) (by omega) (by omega) (h.it_inj (h.it hx _) hx i e1)
 rcases Nat.lt_trichotomy i j with q|q|q
 ·exact(key q hj e).elim
 ·exact q
 ·exact(key q hi e.symm).elim
theorem lU.uniq {x:α} {p q:Nat} (h:lU f x p) (k:lU f x q):p=q:=by
 rcases Nat.lt_trichotomy p q with e|e|e
 ·exact(k.ne p h.pos e h.back).elim
 ·exact e
 ·exact(h.ne q k.pos e k.back).elim
theorem Rl.refl (x:α):Rl f x x:=⟨0,rfl⟩
theorem Rl.trans {x y z:α} (h:Rl f x y) (k:Rl f y z):Rl f x z:=by
 obtain⟨i,rfl⟩:=h;obtain⟨j,rfl⟩:=k;exact⟨i+j,sF i j x⟩
theorem Rl.one (x:α):Rl f x (f x):=⟨1,rfl⟩
theorem Rl.mem (h:Pm f L) {x y:α} (hx:x∈L) (r:Rl f x y):y∈L:=by
 obtain⟨i,rfl⟩:=r;exact h.it hx i
theorem Rl.symm [DecidableEq α] (h:Pm f L) {x y:α} (hx:x∈L) (r:Rl f x y):Rl f y x:=by
 obtain⟨i,rfl⟩:=r;obtain⟨p,hp,_⟩:=h.per hx
 refine⟨p*i - i,?_⟩
 rw[←sF]
 have:i≤p*i:=Nat.le_mul_of_pos_left i hp.pos
 rw[show i+(p*i - i)=p*i by omega,hp.mul]
theorem Hq (x:α) (p:Nat):(mi f x p).length=p:=by simp[mi]
theorem QE {x y:α} {p:Nat} (hp:lU f x p):y∈mi f x p↔Rl f x y:=by
 unfold mi;rw[Α];constructor
 ·rintro⟨i,_,rfl⟩;exact⟨i,rfl⟩
 ·rintro⟨i,rfl⟩;exact⟨i % p,List.mem_range.2 (Nat.mod_lt _ hp.pos),(hp.mod i).symm⟩
theorem Je [DecidableEq α] {x:α} {p:Nat} (hp:lU f x p):∀(k j:Nat),j<p→p - j≤k→o5 f x k (o9 f j x)=(mi f x p).drop j
 |0,j,hj,hk=>by omega
 |k+1,j,hj,hk=>by
  have e1:(mi f x p).drop j=o9 f j x::(mi f x p).drop (j+1):=by
   rw[List.drop_eq_getElem_cons (by simp[mi];omega)];simp[mi]
  rw[o5,e1,←nY (f:=f) j x]
  by_cases q:j+1=p
  ·rw[q,if_pos hp.back,List.drop_eq_nil_of_le (by simp[mi])]
  ·rw[if_neg (hp.ne (j+1) (by omega) (by omega)),Je hp k (j+1) (by omega) (by omega)]
theorem xx [DecidableEq α] {x:α} {p k:Nat} (hp:lU f x p) (hk:p≤k):o5 f x k x=mi f x p:=Je hp k 0 hp.pos (by omega)
theorem yo.le [DecidableEq α] (h:Pm f L) (h1:yo f L P) (h2:yo f L Q):P.length≤Q.length:=
 GZ (fun p q=>Rl f q p) P Q h1.nd (fun p hp=>h2.all p (h1.sub p hp)) (fun p hp p' hp' q hq r r'=>h1.one p hp p' hp' ((r.symm h (h2.sub q hq)).trans r'))
theorem yo.len [DecidableEq α] (h:Pm f L) (h1:yo f L P) (h2:yo f L Q):P.length=Q.length:=Nat.le_antisymm (h1.le h h2) (h2.le h h1)
def lN [DecidableEq α] (f:α→α) (N:Nat):List α→List α→List (List α)
 |[],_=>[]
 |x::r,T=>if x∈T then lN f N r T else o5 f x N x::lN f N r (T++o5 f x N x)
theorem sJ [DecidableEq α] (h:Pm f L) {N:Nat} (hN:L.length≤N):∀(l T:List α),(∀x∈l,x∈L)→(∀x∈T,x∈L)→(∀x∈T,∀y,Rl f x y→y∈T)→
 ∃P:List α,P.Sublist l∧lN f N l T=P.map (fun x=>o5 f x N x)∧(∀p∈P,p∉T)∧(∀x∈l,x∈T∨∃p∈P,Rl f p x)∧(∀p∈P,∀q∈P,Rl f p q→p=q)∧P.Nodup
 |[],T,_,_,_=>⟨[],List.Sublist.refl _,rfl,by simp,by simp,by simp,List.nodup_nil⟩
 |x::r,T,hl,hT,hc=>by
  have hxL:=hl x (Jai ..);have hr:=fun y hy=>hl y (Jad _ hy)
  by_cases hx:x∈T
  ·obtain⟨P,h1,h2,h3,h4,h5,h6⟩:=sJ h hN r T hr hT hc
   refine⟨P,h1.cons _,by rw[lN,if_pos hx,h2],h3,fun y hy=>?_,h5,h6⟩
   rcases Η.1 hy with rfl|hy
   ·exact .inl hx
   ·exact h4 y hy
  ·obtain⟨p,hp,bM⟩:=h.per hxL;have eo:o5 f x N x=mi f x p:=xx hp (by omega);have kW:∀y,y∈T++mi f x p↔y∈T∨Rl f x y:=fun y=>by rw[List.mem_append,QE hp]
   obtain⟨P,h1,h2,h3,h4,h5,h6⟩:=sJ h hN r (T++o5 f x N x) hr (fun y hy=>by
    rw[eo,kW] at hy;exact hy.elim (hT y) (fun q=>q.mem h hxL)) (fun y hy z hz=>by
    rw[eo,kW] at hy ⊢;exact hy.elim (fun q=>.inl (hc y q z hz)) (fun q=>.inr (q.trans hz)))
   rw[eo] at h3 h4;have hxP:∀q∈P,¬Rl f x q:=fun q hq r=>h3 q hq ((kW q).2 (.inr r))
   refine⟨x::P,h1.cons_cons _,by rw[lN,if_neg hx,h2];rfl,fun q hq=>?_,fun y hy=>?_,fun a ha b hb r=>?_,?_⟩
   ·rcases Η.1 hq with rfl|hq
    ·exact hx
    ·exact fun m=>h3 q hq ((kW q).2 (.inl m))
   ·rcases Η.1 hy with rfl|hy
    ·exact .inr ⟨y,Jai ..,Rl.refl _⟩
    ·rcases h4 y hy with q|⟨p',hp',r⟩
     ·rcases (kW y).1 q with q|q
      ·exact .inl q
      ·exact .inr ⟨x,Jai ..,q⟩
     ·exact .inr ⟨p',Jad _ hp',r⟩
   ·rcases Η.1 ha with ea|VB
    ·rcases Η.1 hb with eb|ar
     ·rw[ea,eb]
     ·exact(hxP b ar (ea▸r)).elim
    ·rcases Η.1 hb with eb|ar
     ·exact(hxP a VB (eb▸r.symm h (hr a (h1.subset VB)))).elim
     ·exact h5 a VB b ar r
   ·exact JaJ.2 ⟨fun hq=>hxP x hq (Rl.refl x),h6⟩
theorem KU [DecidableEq α] (h:Pm f L) {N:Nat} (hN:L.length≤N) (l:List α) (hl:∀x,x∈l↔x∈L):∃P,yo f L P∧lN f N l []=P.map (fun x=>o5 f x N x):=by
 obtain⟨P,h1,h2,h3,h4,h5,h6⟩:=sJ h hN l [] (fun x hx=>(hl x).1 hx) (by simp) (by simp)
 refine⟨P,⟨h6,fun p hp=>(hl p).1 (h1.subset hp),fun x hx=>?_,h5⟩,h2⟩
 rcases h4 x ((hl x).2 hx) with q|q
 ·cases q
 ·exact q
end
section
variable {α:Type} [DecidableEq α] {f f':α→α} {L L' P:List α}
theorem lU.up {x:α} {p:Nat} (hp:lU f x p) {y:α} (r:Rl f x y):∃i,0<i∧i≤p∧o9 f i x=y:=by
 obtain⟨i,rfl⟩:=r
 by_cases q:i % p=0
 ·exact⟨p,hp.pos,Nat.le_refl _,by rw[hp.back,hp.mod i,q];rfl⟩
 ·exact⟨i % p,by omega,Nat.le_of_lt (Nat.mod_lt _ hp.pos),(hp.mod i).symm⟩
end
section
open Go.RowKit Go.Maps
structure akG (P:Program) (K:TypeId) (κ:Type) where
 enc:κ→Value
 kl:κ→Lit
 wf:κ→Prop
 keyed:Keyed P K
 key:∀x,wf x→keyOf P K (enc x)=some (kl x)
 inj:∀x y,wf x→wf y→kl x=kl y→x=y
 lit:∀x,wf x→WideAt.IsKeyLit (kl x)
end
section
open Go.RowKit Go.Maps
abbrev I2:=Int × Int
end
def n1 (x:Int):List ψ:=[J x]
theorem xk (x:Int):(n1 x).length=1:=rfl
def nv (L:List Int) (a b:Int):List Int:=L.map fun x=>if x=a∨x=b then min a b else x
abbrev St:=List Int × (I2→Option Nat)
def oV (i:Nat) (s:St) (x:D):St:=match s.2 (x.1,x.2.1) with
 |some j=>(nv s.1 (s.1.getD i 0) (s.1.getD j 0),s.2)
 |none=>(s.1,fun y=>if y=(x.1,x.2.1) then ζ i else s.2 y)
def F9:Nat→List VC→St→St
 |_,[],s=>s
 |i,v::r,s=>F9 (i+1) r (v.2.1.2.2.2.foldl (oV i) s)
def zb (n:Nat):List Int:=(Ω n).map fun k:Nat=>(k:Int)
def kR (Vs:List VC):List Int:=(F9 0 Vs (zb Vs.length,fun _=>ε)).1
theorem nk (L:List Int) (a b:Int):(nv L a b).length=L.length:=by simp[nv]
structure uz (n:Nat) (s:St):Prop where
 len:s.1.length=n
 lt:∀y j,s.2 y=ζ j→j<n
theorem uz.step {n i:Nat} {s:St} (h:uz n s) (hi:i<n) (x:D):uz n (oV i s x):=by
 unfold oV;split
 ·exact⟨by rw[nk];exact h.len,h.lt⟩
 ·refine⟨h.len,fun y j hy=>?_⟩
  simp only at hy;split at hy
  ·obtain rfl:=Μ hy;exact hi
  ·exact h.lt y j hy
def gh:Nat→List VC→I2→Int
 |_,[],_=> -1
 |j,v::r,x=>if v.1=x then(j:Int) else gh (j+1) r x
theorem Ea:∀(Vs:List VC) (i:Nat) (s:St),(F9 i Vs s).1.length=s.1.length
 |[],_,_=>rfl
 |v::r,i,s=>by
  rw[F9,Ea r];generalize v.2.1.2.2.2=R
  induction R generalizing s with
  |nil=>rfl
  |cons x R ih=>
   rw[List.foldl_cons,ih];unfold oV;split
   ·exact nk _ _ _
   ·rfl
theorem tj (Vs:List VC):(kR Vs).length=Vs.length:=by
 rw[kR,Ea];simp[zb]
def jf (a b x:Int):Int:=if x=a∨x=b then min a b else x
theorem ur (L:List Int) (a b:Int) {i:Nat} (h:i<L.length):(nv L a b).getD i 0=jf a b (L.getD i 0):=by
 have h2:i<(nv L a b).length:=by rw[nk];exact h
 rw[χ,χ,θ h2,θ h];simp[nv,jf]
theorem YJ (a b x:Int):jf a b x≤x:=by
 unfold jf;split
 ·rename_i h;rcases h with rfl|rfl<;>omega
 ·omega
theorem Xk (a b x:Int):jf a b x=x∨jf a b x=a∨jf a b x=b:=by
 unfold jf;split
 ·by_cases h:a≤b
  ·exact .inr (.inl (by omega))
  ·exact .inr (.inr (by omega))
 ·exact .inl rfl
theorem ZM (a b x:Int):jf a b (jf a b x)=jf a b x:=by
 by_cases h:x=a∨x=b
 ·have e:jf a b x=min a b:=if_pos h;rw[e];exact if_pos (by omega)
 ·have e:jf a b x=x:=if_neg h;rw[e,e]
def qV (L:List Int):Prop:=∀i,i<L.length→0≤L.getD i 0∧L.getD i 0≤i∧L.getD (L.getD i 0).toNat 0=L.getD i 0
theorem wQ (n i:Nat) (h:i<n):(zb n).getD i 0=(i:Int):=by
 rw[χ,zb,List.getElem?_map,List.getElem?_range h];rfl
theorem qV.up (n:Nat):qV (zb n):=fun i hi=>by
 have hl:(zb n).length=n:=by simp[zb]
 rw[hl] at hi;rw[wQ n i hi,Jbn,wQ n i hi];omega
theorem qV.join {L:List Int} (h:qV L) {p q:Nat} (hp:p<L.length) (hq:q<L.length):qV (nv L (L.getD p 0) (L.getD q 0)):=fun i hi=>by
 rw[nk] at hi;obtain⟨a0,a1,a2⟩:=h p hp;obtain⟨b0,b1,b2⟩:=h q hq;obtain⟨x0,x1,x2⟩:=h i hi;rw[ur L _ _ hi];obtain⟨a,ga⟩:=ay (L.getD p 0);obtain⟨b,gb⟩:=ay (L.getD q 0);obtain⟨x,gx⟩:=ay (L.getD i 0);rw[ga] at a0 a1 a2 ⊢;rw[gb] at b0 b1 b2 ⊢;rw[gx] at x0 x1 x2 ⊢;have hle:=YJ a b x;have hj:=Xk a b x;have hjj:=ZM a b x
 have key:0≤jf a b x∧L.getD (jf a b x).toNat 0=jf a b x:=by
  rcases hj with e|e|e
  ·rw[e];exact⟨x0,x2⟩
  ·rw[e];exact⟨a0,a2⟩
  ·rw[e];exact⟨b0,b2⟩
 refine⟨key.1,by omega,?_⟩
 rw[ur L _ _ (by omega),key.2,hjj]
theorem qV.step {n i:Nat} {s:St} (h:qV s.1) (hs:uz n s) (hi:i<n) (x:D):qV (oV i s x).1:=by
 unfold oV;split
 ·rename_i j hj;exact h.join (by rw[hs.len];exact hi) (by rw[hs.len];exact hs.lt _ _ hj)
 ·exact h
theorem IH {n i:Nat} (hi:i<n):∀(R:List D) (s:St),qV s.1→uz n s→qV (R.foldl (oV i) s).1∧uz n (R.foldl (oV i) s)
 |[],s,h,hs=>⟨h,hs⟩
 |x::R,s,h,hs=>IH hi R _ (h.step hs hi x) (hs.step hi x)
theorem I0 {n:Nat}:∀(Vs:List VC) (i:Nat) (s:St),i+Vs.length≤n→qV s.1→uz n s→qV (F9 i Vs s).1∧uz n (F9 i Vs s)
 |[],_,s,_,h,hs=>⟨h,hs⟩
 |v::r,i,s,hn,h,hs=>by
  rw[JaH] at hn;obtain⟨h1,h2⟩:=IH (n:=n) (i:=i) (by omega) v.2.1.2.2.2 s h hs;exact I0 r (i+1) _ (by omega) h1 h2
theorem PM (Vs:List VC):qV (kR Vs):=
 (I0 (n:=Vs.length) Vs 0 _ (by omega) (qV.up _) ⟨by simp[zb],fun y j h=>(by cases h)⟩).1
theorem D6:∀(Vs:List VC) (j k:Nat) (v:VC),(Vs.map (·.1)).Nodup→Vs[k]? =ζ v→gh j Vs v.1=((j+k:Nat):Int)
 |[],_,_,_,_,h=>by simp at h
 |u::r,j,0,v,_,h=>by
  obtain rfl:u=v:=by simpa using h
  rw[gh,if_pos rfl];simp
 |u::r,j,k+1,v,hn,h=>by
  have h1:r[k]? =ζ v:=by simpa using h
  rw[List.map_cons,JaJ] at hn;have cu:u.1≠v.1:=fun e=>hn.1 (e▸Α.2 ⟨v,ω h1,rfl⟩)
  rw[gh,if_neg cu,D6 r (j+1) k v hn.2 h1];congr 1;omega
def Co (n:Nat) (R:Nat→Nat→Prop) (f:Nat→Int):Prop:=∀i k,i<n→k<n→R i k→f i=f k
structure AH (n:Nat) (R:Nat→Nat→Prop) (L:List Int):Prop where
 len:L.length=n
 ok:qV L
 co:Co n R (fun i=>L.getD i 0)
 fin:∀f:Nat→Int,Co n R f→∀i k,i<n→k<n→L.getD i 0=L.getD k 0→f i=f k
theorem AH.of_iff {n:Nat} {R R':Nat→Nat→Prop} {L:List Int} (h:AH n R L) (hR:∀f,Co n R f↔Co n R' f):AH n R' L:=
 ⟨h.len,h.ok,(hR _).1 h.co,fun f hf=>h.fin f ((hR f).2 hf)⟩
theorem AH.up (n:Nat):AH n (fun _ _=>False) (zb n):=by
 refine⟨by simp[zb],qV.up n,fun i k _ _ h=>h.elim,fun f _ i k hi hk e=>?_⟩
 rw[wQ n i hi,wQ n k hk] at e;rw[Int.ofNat_inj.1 e]
theorem Bv {a b x:Int} (h:x=a∨x=b):jf a b x=min a b:=if_pos h
theorem Im {a b x:Int} (h:¬(x=a∨x=b)):jf a b x=x:=if_neg h
theorem Ph (a b:Int):min a b=a∨min a b=b:=by omega
theorem AH.join {n p q:Nat} {R:Nat→Nat→Prop} {L:List Int} (h:AH n R L) (hp:p<n) (hq:q<n):
 AH n (fun i k=>R i k∨(i=p∧k=q)) (nv L (L.getD p 0) (L.getD q 0)):=by
 have hl:=h.len;have hg:∀i,i<n→(nv L (L.getD p 0) (L.getD q 0)).getD i 0=jf (L.getD p 0) (L.getD q 0) (L.getD i 0):=fun i hi=>ur L _ _ (by omega)
 refine⟨by rw[nk];exact hl,h.ok.join (by omega) (by omega),?_,?_⟩
 ·rintro i k hi hk (hr|⟨rfl,rfl⟩)
  ·show(nv L _ _).getD i 0=(nv L _ _).getD k 0
   rw[hg i hi,hg k hk];exact congrArg _ (h.co i k hi hk hr)
  ·show(nv L _ _).getD i 0=(nv L _ _).getD k 0
   rw[hg i hi,hg k hk,Bv (.inl rfl),Bv (.inr rfl)]
 ·intro f hf i k hi hk e;rw[hg i hi,hg k hk] at e;have ph:Co n R f:=fun a b ha hb hr=>hf a b ha hb (.inl hr)
  have hpq:f p=f q:=hf p q hp hq (.inr ⟨rfl,rfl⟩)
  have yes:∀j,j<n→(L.getD j 0=L.getD p 0∨L.getD j 0=L.getD q 0)→f j=f p:=by
   rintro j hj (e|e)
   ·exact h.fin f ph j p hj hp e
   ·exact(h.fin f ph j q hj hq e).trans hpq.symm
  by_cases h1:L.getD i 0=L.getD p 0∨L.getD i 0=L.getD q 0
  ·by_cases h2:L.getD k 0=L.getD p 0∨L.getD k 0=L.getD q 0
   ·rw[yes i hi h1,yes k hk h2]
   ·rw[Bv h1,Im h2] at e;exact absurd (by rw[←e];exact Ph _ _) h2
  ·by_cases h2:L.getD k 0=L.getD p 0∨L.getD k 0=L.getD q 0
   ·rw[Bv h2,Im h1] at e;exact absurd (by rw[e];exact Ph _ _) h1
   ·rw[Im h1,Im h2] at e;exact h.fin f ph i k hi hk e
theorem AH.le {n:Nat} {R:Nat→Nat→Prop} {L L':List Int} (h:AH n R L) (k:AH n R L') {i:Nat} (hi:i<n):L'.getD i 0≤L.getD i 0:=by
 obtain⟨h0,h1,h2⟩:=h.ok i (by rw[h.len];exact hi);obtain⟨x,hx⟩:∃x:Nat,L.getD i 0=(x:Int):=⟨(L.getD i 0).toNat,by omega⟩
 rw[hx] at h1 h2 ⊢;rw[Jbn] at h2;have hxn:x<n:=by omega
 have e:=h.fin _ k.co x i hxn hi (by rw[h2,hx]);obtain⟨k0,k1,k2⟩:=k.ok x (by rw[k.len];exact hxn);omega
theorem AH.uniq {n:Nat} {R:Nat→Nat→Prop} {L L':List Int} (h:AH n R L) (k:AH n R L'):L=L':=by
 refine List.ext_getElem (by rw[h.len,k.len]) fun i h1 h2=>?_
 have hi:i<n:=by rw[←h.len];exact h1
 have e1:=h.le k hi;have e2:=k.le h hi;have e:L.getD i 0=L'.getD i 0:=by omega
 rw[χ,χ,θ h1,θ h2] at e;exact e
def Vi (Vs:List VC) (i:Nat) (y:I2):Prop:=∃v,Vs[i]? =ζ v∧∃x∈v.2.1.2.2.2,y=(x.1,x.2.1)
def Sh (Vs:List VC) (i k:Nat):Prop:=∃y,Vi Vs i y∧Vi Vs k y
structure Met (n:Nat) (T:Nat→I2→Prop) (s:St):Prop where
 lab:AH n (fun i k=>∃y,T i y∧T k y) s.1
 yes:∀y j,s.2 y=ζ j→T j y
 no:∀y,s.2 y=ε→∀i,¬T i y
theorem Met.step {n i:Nat} {T:Nat→I2→Prop} {s:St} (h:Met n T s) (ok:uz n s) (hi:i<n) (x:D):Met n (fun k y=>T k y∨(k=i∧y=(x.1,x.2.1))) (oV i s x):=by
 unfold oV;split
 ·rename_i j hj;have hT:=h.yes _ _ hj;have o4:=ok.lt _ _ hj
  refine⟨(h.lab.join hi o4).of_iff fun f=>?_,fun y k hy=>.inl (h.yes y k hy),?_⟩
  ·constructor
   ·rintro hf a b ha hb ⟨y,h1,h2⟩;have Jh:f i=f j:=hf i j hi o4 (.inr ⟨rfl,rfl⟩);rcases h1 with h1|⟨rfl,rfl⟩<;>rcases h2 with h2|⟨rfl,e2⟩
    ·exact hf a b ha hb (.inl ⟨y,h1,h2⟩)
    ·subst e2;rw[Jh];exact hf a j ha o4 (.inl ⟨_,h1,hT⟩)
    ·rw[Jh];exact(hf b j hb o4 (.inl ⟨_,h2,hT⟩)).symm
    ·rfl
   ·rintro hf a b ha hb (⟨y,h1,h2⟩|⟨rfl,rfl⟩)
    ·exact hf a b ha hb ⟨y,.inl h1,.inl h2⟩
    ·exact hf _ _ ha hb ⟨_,.inr ⟨rfl,rfl⟩,.inl hT⟩
  ·rintro y hy k (h1|⟨rfl,rfl⟩)
   ·exact h.no y hy k h1
   ·simp only at hy;rw[hj] at hy;cases hy
 ·rename_i hj;have hT:=h.no _ hj
  refine⟨h.lab.of_iff fun f=>?_,fun y k hy=>?_,fun y hy k hk=>?_⟩
  ·constructor
   ·rintro hf a b ha hb ⟨y,h1,h2⟩;rcases h1 with h1|⟨rfl,e1⟩<;>rcases h2 with h2|⟨rfl,e2⟩
    ·exact hf a b ha hb ⟨y,h1,h2⟩
    ·subst e2;exact absurd h1 (hT a)
    ·subst e1;exact absurd h2 (hT b)
    ·rfl
   ·rintro hf a b ha hb ⟨y,h1,h2⟩;exact hf a b ha hb ⟨y,.inl h1,.inl h2⟩
  ·simp only at hy;split at hy
   ·rename_i e;exact .inr ⟨(Μ hy).symm,e⟩
   ·exact .inl (h.yes y k hy)
  ·simp only at hy;split at hy
   ·cases hy
   ·rename_i e;rcases hk with hk|⟨_,hk⟩
    ·exact h.no y hy k hk
    ·exact e hk
theorem Met.congr {n:Nat} {T T':Nat→I2→Prop} {s:St} (h:Met n T s) (e:∀k y,T k y↔T' k y):Met n T' s:=by
 have:T=T':=by
  funext k y
  exact propext (e k y)
 exact this▸h
theorem DT {n i:Nat} (hi:i<n):∀(R:List D) (T:Nat→I2→Prop) (s:St),Met n T s→uz n s→Met n (fun k y=>T k y∨(k=i∧∃x∈R,y=(x.1,x.2.1))) (R.foldl (oV i) s)
 |[],T,s,h,_=>h.congr fun k y=>by simp
 |x::R,T,s,h,ok=>(DT hi R _ _ (h.step ok hi x) (ok.step hi x)).congr fun k y=>by
   simp only[Η,exists_eq_or_imp];constructor
   ·rintro ((h1|⟨h1,h2⟩)|⟨h1,h2⟩)
    ·exact .inl h1
    ·exact .inr ⟨h1,.inl h2⟩
    ·exact .inr ⟨h1,.inr h2⟩
   ·rintro (h1|⟨h1,h2|h2⟩)
    ·exact .inl (.inl h1)
    ·exact .inl (.inr ⟨h1,h2⟩)
    ·exact .inr ⟨h1,h2⟩
theorem IU {n i:Nat} (hi:i<n):∀(R:List D) (s:St),uz n s→uz n (R.foldl (oV i) s)
 |[],s,hs=>hs
 |x::R,s,hs=>IU hi R _ (hs.step hi x)
theorem CJ {n:Nat}:∀(Vs:List VC) (i:Nat) (T:Nat→I2→Prop) (s:St),i+Vs.length≤n→Met n T s→uz n s→
 Met n (fun k y=>T k y∨∃j,k=i+j∧Vi Vs j y) (F9 i Vs s)
 |[],i,T,s,_,h,_=>h.congr fun k y=>by
   constructor
   ·exact .inl
   ·rintro (h1|⟨j,_,v,hv,_⟩)
    ·exact h1
    ·cases hv
 |v::r,i,T,s,hn,h,ok=>by
  rw[JaH] at hn;have hi:i<n:=by omega
  refine(CJ r (i+1) _ _ (by omega) (DT hi v.2.1.2.2.2 T s h ok) (IU hi _ s ok)).congr fun k y=>?_
  constructor
  ·rintro ((h1|⟨h1,h2⟩)|⟨j,h1,v',h2,h3⟩)
   ·exact .inl h1
   ·exact .inr ⟨0,by omega,v,rfl,h2⟩
   ·exact .inr ⟨j+1,by omega,v',by simpa using h2,h3⟩
  ·rintro (h1|⟨j,h1,v',h2,h3⟩)
   ·exact .inl (.inl h1)
   ·cases j with
    |zero=>
     obtain rfl:v=v':=by simpa using h2
     exact .inl (.inr ⟨by omega,h3⟩)
    |succ j=>exact .inr ⟨j,by omega,v',by simpa using h2,h3⟩
theorem xr (Vs:List VC):AH Vs.length (Sh Vs) (kR Vs):=by
 have h0:Met Vs.length (fun _ _=>False) ((zb Vs.length,fun _=>ε):St):=
  ⟨(AH.up _).of_iff fun f=>by simp[Co],fun y j h=>(by cases h),fun _ _ _ h=>h⟩
 have h1:=(CJ Vs 0 _ _ (by omega) h0 ⟨by simp[zb],fun y j h=>(by cases h)⟩).lab;refine h1.of_iff fun f=>?_
 constructor
 ·rintro hf a b ha hb ⟨y,h1,h2⟩;exact hf a b ha hb ⟨y,.inr ⟨a,by omega,h1⟩,.inr ⟨b,by omega,h2⟩⟩
 ·rintro hf a b ha hb ⟨y,h1|⟨j,h1,h3⟩,h2⟩
  ·exact h1.elim
  ·rcases h2 with h2|⟨j2,h2,h4⟩
   ·exact h2.elim
   ·obtain rfl:a=j:=by omega
    obtain rfl:b=j2:=by omega
    exact hf a b ha hb ⟨y,h3,h4⟩
theorem Jr {Vs Ws:List VC} (hl:Ws.length=Vs.length) (h:∀i y,Vi Ws i y↔Vi Vs i y):kR Ws=kR Vs:=by
 have h1:=xr Ws;rw[hl] at h1;refine h1.uniq ((xr Vs).of_iff fun f=>?_)
 have:Sh Vs=Sh Ws:=by
  funext i k
  refine propext ⟨?_,?_⟩<;>rintro⟨y,a,b⟩
  ·exact⟨y,(h i y).2 a,(h k y).2 b⟩
  ·exact⟨y,(h i y).1 a,(h k y).1 b⟩
 rw[this]
def rh (L:List Int) (i:Nat):Bool:=L.getD i 0==(i:Int)
def xU (L:List Int):Nat:=(Ω L.length).countP (rh L)
def rk (L:List Int) (r:Nat):Nat:=(Ω r).countP (rh L)
def wS (L:List Int) (j:Nat):List Nat:=(Ω j).filter (rh L)
theorem xA (L:List Int) (j:Nat):(wS L j).length=rk L j:=by rw[wS,rk,List.countP_eq_length_filter]
theorem CA (L:List Int) (j:Nat):wS L (j+1)=wS L j++(if rh L j then[j] else[]):=by
 unfold wS;rw[List.range_succ,List.filter_append];cases h:rh L j<;>simp[h]
theorem Rx (L:List Int) (j:Nat):rk L (j+1)=rk L j+(if rh L j then 1 else 0):=by
 rw[←xA,←xA,CA,List.length_append];cases rh L j<;>rfl
section
variable {α:Type}
abbrev Rw (α:Type):=Option Κ × Nat × List α
def IM (x:Rw α):ψ:=γ x.1 x.2.2.length x.2.1
def rwC (x:Rw α):List ψ:=[IM x]
structure RowsIn (W:ο) (lo:Nat) (TR TE:Υ) (s:Nat) (f:α→List ψ) (A:Option Κ) (n c:Nat) (X:List (Rw α)):Prop where
 row:W.ownsRow lo TR 1 (γ A n c) n (aj rwC X)
 len:X.length=n
 one:∀x∈X,W.ownsRow lo TE s (IM x) x.2.2.length (aj f x.2.2)
 ne:∀(i j:Nat) (x y:Rw α) (a b:Κ),i≠j→X[i]? =ζ x→X[j]? =ζ y→x.1=ζ a→y.1=ζ b→a.block≠b.block
variable {W W':ο} {lo:Nat} {TR TE:Υ} {s:Nat} {f:α→List ψ} {A:Option Κ} {n c:Nat} {X:List (Rw α)}
theorem RowsIn.up (h:RowsIn W lo TR TE s f A n c X) (hb:σ W.heap.size W W'):RowsIn W' lo TR TE s f A n c X:=
 ⟨bO h.row hb,h.len,fun x hx=>bO (h.one x hx) hb,h.ne⟩
theorem RowsIn.al (h:RowsIn W lo TR TE s f A n c X) (o:Obj):RowsIn (W.alloc o) lo TR TE s f A n c X:=h.up (ax W o)
theorem RowsIn.dr (h:RowsIn W lo TR TE s f A n c X):RowsIn W.drew lo TR TE s f A n c X:=h.up ((Θ _ _).drew)
theorem RowsIn.bl (h:RowsIn W lo TR TE s f A n c X) (hb:σ W.heap.size W W'):RowsIn W' lo TR TE s f A n c X:=h.up hb
theorem RowsIn.nil_ (W:ο) (lo:Nat):RowsIn W lo TR TE s f ε 0 0 ([]:List (Rw α)):=
 ⟨World.ownsRow_nil W lo TR 1,rfl,fun x hx=>(by cases hx),fun i j x y a b _ h=>(by simp at h)⟩
theorem tO {W:ο} {l1 l2 k1 k2 n1 n2 g:Nat} {T1 T2:Υ} {v1 v2:ψ} {xs ys:List ψ} (h:W.ownsRow l1 T1 k1 v1 n1 xs) (k:W.ownsRow l2 T2 k2 v2 n2 ys) (hT:T1≠T2) (e1:v1.ownBlock=ζ g) (e2:v2.ownBlock=ζ g):False:=by
 rcases h.2 with⟨rfl,h2⟩|⟨g',cap,cur,rfl,hb,hg,-⟩
 ·cases e1
 rcases k.2 with⟨rfl,k2⟩|⟨g2,ahJ,ai1,rfl,ar,qW,-⟩
 ·cases e2
 obtain rfl:g'=g:=Μ e1;obtain rfl:g2=g':=Μ e2;rw[hg] at qW;injection qW with q
 injection q with q1 q2
 exact hT q2
theorem LR (x:Rw α):(IM x).ownBlock=x.1.map (·.block):=by cases h:x.1<;>simp[IM,h,Value.ownBlock]
theorem RowsIn.far (h:RowsIn W lo TR TE s f A n c X) {r:Option Nat} (hg:W.grownBy W' r) (h1:∀g,r=ζ g→(Ο A n c).ownBlock≠ζ g) (h2:∀x∈X,∀g,r=ζ g→(IM x).ownBlock≠ζ g):RowsIn W' lo TR TE s f A n c X:=by
 refine⟨h.row.kept hg ?_,h.len,fun x hx=>(h.one x hx).kept hg ?_,h.ne⟩
 ·cases r with
  |none=>cases hh:(Ο A n c).ownBlock<;>simp
  |some g=>exact .inr (h1 g rfl)
 ·cases r with
  |none=>cases hh:(IM x).ownBlock<;>simp
  |some g=>exact .inr (h2 x hx g rfl)
end
end Go.Proofs.YtpdpbfmiahjiiaaGreat
