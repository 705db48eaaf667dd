/- Several texts in one. -/
import Derived.Test.YtpdpbfmiahjiiaaGreatPlAA
import Derived.Test.YtpdpbfmiahjiiaaGreatPlAB
import Derived.Test.YtpdpbfmiahjiiaaGreatPlAC
import Derived.Test.YtpdpbfmiahjiiaaGreatPlAG
import Derived.Maps.OwnSet
import Derived.Laws.MakeOwn
import Derived.Laws.OwnMore
import Derived.Maps.AppendAt
import Derived.Below
import Derived.Carry
import Derived.Deep.Slices
import Derived.KernelRfl
import Derived.OpenShut
import Derived.ProofKit
import Derived.Test.YtpdpbfmiahjiiaaGreatProg
import Derived.WideKeyArgs
import Derived.SizedLaws
set_option linter.unusedSectionVars false
set_option linter.unusedSimpArgs false
set_option linter.unusedVariables false
set_option maxRecDepth 100000
set_option maxHeartbeats 16000000
namespace Go.Proofs.YtpdpbfmiahjiiaaGreat
open Go.RowKit
open _root_.Go.Value renaming slice→γ,string→μ,pointer→υ,agg→φ,slice→Ο
open _root_.Go.Obj renaming cells→δ
open _root_.Option renaming none→ε,some→ζ,some→Jae
open _root_.Go.Proofs.Tryz renaming prog→η
open _root_.List renaming getElem?_eq_getElem→θ,getElem?_eq_some_iff→ν,getD_eq_getElem?_getD→χ,mem_of_getElem?→ω,mem_map→Α,length_append→Ε,mem_cons→Η,range→Ω,mem_cons_of_mem→Jad,mem_cons_self→Jai,mem_append→Jan,length_cons→JaH,nodup_cons→JaJ,pairwise_map→Jbg,length_pos_of_mem→Jbk
open _root_.Go.Act renaming put→ξ
open _root_.Go renaming World→ο,Value→ψ,Calls→Ζ,Addr→Κ,TypeId→Υ,Program→JaE
open _root_.Bool renaming false→ρ,true→τ
open _root_.Go.RowKit renaming Below→σ
open _root_.Nat renaming le_refl→Δ,lt_or_ge→JaM
open _root_.Option.some renaming inj→Μ
open _root_.And renaming intro→Jax
open _root_.Exists renaming intro→JaG
open _root_.Int renaming toNat_natCast→Jbn
section
variable {w W:ο} {lo g:Nat} {A:Option Κ} {n c:Nat} {Vs:List VC} {B:Option Κ} {m k:Nat} {Es:List EC} {C:Option Κ} {r rc:Nat} {G:List Gn}
theorem JK {W W1 W2:ο} {r:Option Nat} (h:W.grownBy W1 r) (hb:σ W1.heap.size W1 W2):W.grownBy W2 r:=⟨hb.os.trans h.os,hb.tape.trans h.tape,hb.output.trans h.output,Nat.le_trans h.size hb.size,fun q hq hn=>(hb.block q (Nat.lt_of_lt_of_le hq h.size)).trans (h.block q hq hn)⟩
theorem IS (h:fH w lo g A n c Vs B m k Es C r rc G W) (v:VC) (hv:lj W v.2.1) (hn:n≤1000) (hu:sv (fun v:VC=>v.1) Vs) (hx:∀u∈Vs,¬u.1=v.1):Ζ η 111 #[υ (ζ ⟨g,0,ε⟩),φ (vC v).toArray] W fun e w'=>e=.returned (.tuple #[])∧∃A' c',fH w lo g A' (n+1) c' (fp (fun v:VC=>v.1) Vs v) B m k Es C r rc G w'∧bc g W w':=by
 obtain⟨⟨i1,i2⟩,⟨rA,rn,bE,rL⟩,lb,at_⟩:=v;have Hv:=qh hv;clear hv;have Qw:Hid (∀t x,Vs[t]? =ζ x→eN x.1 (i1,i2)=eN (Vs.getD t ((i1,i2),(rA,rn,bE,rL),lb,at_)).1 (i1,i2)):=qh (fun t x ht=>by rw[χ,ht];rfl);have hlen:=h.vlen;have Z5:=qh (fun q e=>(h.v.lt q e).2)
 have PV:Hid (∀a b,a≤b→b<n→eN (Vs.getD b ((i1,i2),(rA,rn,bE,rL),lb,at_)).1 (i1,i2)<0→eN (Vs.getD a ((i1,i2),(rA,rn,bE,rL),lb,at_)).1 (i1,i2)<0):=qh (fun a b Ad hb h0=>by
  rcases JaM a b with h1|h1
  ·have ea:=θ (l:=Vs) (i:=a) (by omega);have eb:=θ (l:=Vs) (i:=b) (by omega);rw[χ,ea];rw[χ,eb] at h0;exact pY ((List.pairwise_iff_getElem.1 hu) a b (by omega) (by omega) h1) h0
  ·obtain rfl:a=b:=by omega
   exact h0)
 have UM:Hid (∀i,i≤n→(∀t,t<i→eN (Vs.getD t ((i1,i2),(rA,rn,bE,rL),lb,at_)).1 (i1,i2)<0)→(∀t,i≤t→t<n→0≤eN (Vs.getD t ((i1,i2),(rA,rn,bE,rL),lb,at_)).1 (i1,i2))→Vs.take i++((i1,i2),(rA,rn,bE,rL),lb,at_)::Vs.drop i=fp (fun v:VC=>v.1) Vs ((i1,i2),(rA,rn,bE,rL),lb,at_)):=qh (fun i hi h1 h2=>by
  refine(EP (k:=(fun v:VC=>v.1)) (v:=((i1,i2),(rA,rn,bE,rL),lb,at_)) (by omega) (fun t u ht eS=>?_) (fun t u ht hle=>?_)).symm
  ·have:=h1 t eS
   rw[χ,ht] at this;exact this
  ·have h3:=h2 t hle (by have:=(ν.1 ht).1;omega);rw[χ,ht] at h3;have h4:¬eN u.1 (i1,i2)=0:=fun e=>hx u (ω ht) ((km _ _).1 e)
   have h5:0≤eN u.1 (i1,i2):=h3;show 0<eN u.1 (i1,i2);omega)
 have jn:=ax W (δ #[J i1,J i2,γ rA rn bE,μ lb,J at_] 59);have H0:=qh (h.up jn);have aR:Hid (Whole (W.alloc (δ #[J i1,J i2,γ rA rn bE,μ lb,J at_] 59)) W.heap.size 59 [J i1,J i2,γ rA rn bE,μ lb,J at_]):=qh (Whole.new_ _ _ _);have bn:=qh jn;clear h jn hu hx hlen;show Ζ η 111 #[υ (ζ ⟨g,0,ε⟩),φ #[J i1,J i2,γ rA rn bE,μ lb,J at_]] W _;go_enter Tryz.func111,Tryz.ntmps111;go_upto_region 1 with fail
 obtain⟨W0,bJ⟩:=az (W.alloc (δ #[J i1,J i2,γ rA rn bE,μ lb,J at_] 59));obtain⟨b0,bS⟩:=az W.heap.size;rw[bJ] at H0 aR bn ⊢;rw[bS] at aR;rw[bS];have Hlt:Hid (∀q,(Ο A n c).ownBlock=ζ q→q<b0):=qh (fun q e=>by have:=(Z5.out q e);omega);clear bJ bS;have iM:∀w',Kept aT W0.drew w'→w'.cell? ⟨g,0,ε⟩=ζ (γ A n c):=fun w' h=>h.nil_cell (H0.out.dr.s.cell (i:=0) rfl)
 have ld1:=dX (i:=0) aR.out rfl;have rQ:=dX (i:=1) aR.out rfl;refine aw (aT) (by kernel_rfl) ?_;refine aq 0 ?_;refine aq 1 ?_;refine aq 2 ?_;refine aq 3 ?_;refine aq 4 ?_;refine aq 5 ?_;refine aq 6 ?_;refine rU 7 ?_;intro w' aC
 refine(OD A n c Vs i1 i2 w' (bk (H0.out.dr.bl aC).v) (by omega) _ Qw.out PV.out).mono ?_
 rintro e w2 ⟨i,hi,h1,h2,rfl,ar⟩
 refine⟨_,rfl,Kept.of_below ar,?_⟩
 have HI:=qh (UM.out i hi h1 h2);have H2:=qh ((H0.out.dr.bl aC).bl ar);have bj:=qh ((aR.out.dr.bl aC).bl ar);have cL:=qh (af (af (ba bn.out) aC) ar);clear ar aC h1 h2 iM ld1 rQ H0 aR bn UM Qw PV;simp only[ξ,ak,aj,ah];refine aq 8 ?_;refine aq 9 ?_;refine aq 10 ?_;refine aq 11 ?_;refine aq 12 ?_;refine aG (by kernel_rfl) ?_ _;intro w3 iu;have H3:=qh (H2.out.bl iu);have ff:=qh (bj.out.bl iu);have cY:=qh (af cL.out iu);clear iu H2 bj cL;go_upto_region 2 with fail
 obtain⟨OB,WV⟩:=az ((Ο A n c).ownBlock);have YU:¬ζ g=OB:=by rw[←WV];exact bM H3.out.v H3.out.s (by decide)
 have BQ:¬ζ b0=OB:=fun e=>by have:=Hlt.out b0 (WV.trans e.symm);omega
 have GOB:=qh WV;clear WV;have iM:∀w',Kept (fun x=>ζ x=OB) w3.drew w'→w'.cell? ⟨g,0,ε⟩=ζ (γ A n c):=fun w' h=>h.cell (H3.out.dr.s.cell (i:=0) rfl) YU
 have l0:∀w',Kept (fun x=>ζ x=OB) w3.drew w'→w'.cell? ⟨b0,0,ε⟩=ζ (J i1):=fun w' h=>h.cell (ff.out.dr.cell (i:=0) rfl) BQ
 have l1:∀w',Kept (fun x=>ζ x=OB) w3.drew w'→w'.cell? ⟨b0,1,ε⟩=ζ (J i2):=fun w' h=>h.cell (ff.out.dr.cell (i:=1) rfl) BQ
 have l2:∀w',Kept (fun x=>ζ x=OB) w3.drew w'→w'.cell? ⟨b0,2,ε⟩=ζ (γ rA rn bE):=fun w' h=>h.cell (ff.out.dr.cell (i:=2) rfl) BQ
 have l3:∀w',Kept (fun x=>ζ x=OB) w3.drew w'→w'.cell? ⟨b0,3,ε⟩=ζ (μ lb):=fun w' h=>h.cell (ff.out.dr.cell (i:=3) rfl) BQ
 have l4:∀w',Kept (fun x=>ζ x=OB) w3.drew w'→w'.cell? ⟨b0,4,ε⟩=ζ (J at_):=fun w' h=>h.cell (ff.out.dr.cell (i:=4) rfl) BQ
 refine bK (fun x=>ζ x=OB) [13] (by kernel_rfl) ?_;refine bm 0 ?_;refine bm 1 ?_;refine bm 2 ?_;refine bm 3 ?_;refine bm 4 ?_;refine bm 5 ?_;refine bm 6 ?_;refine bm 7 ?_;refine lG 8 ?_;intro w' aC;have Cn:=qh ((H3.out.dr.bl aC).al (δ #[J i1,J i2,γ rA rn bE,μ lb,J at_] 59));have FN:Hid (Whole (w'.alloc (δ #[J i1,J i2,γ rA rn bE,μ lb,J at_] 59)) w'.heap.size 59 [J i1,J i2,γ rA rn bE,μ lb,J at_]):=qh (Whole.new_ _ _ _)
 have DP:Hid (ζ w'.heap.size≠(Ο A n c).ownBlock):=qh (fun e=>by
  have:=((H3.out.dr.bl aC).v.lt w'.heap.size e.symm).2
  omega)
 have jJ:=qh (aF (af (ba cY.out) aC) (δ #[J i1,J i2,γ rA rn bE,μ lb,J at_] 59))
 refine⟨_,w'.alloc (δ #[J i1,J i2,γ rA rn bE,μ lb,J at_] 59),by(go_simp;first|done|exact rfl|exact⟨rfl,rfl⟩),Kept.of_below (ax _ _),?_⟩
 obtain⟨b4,Md⟩:=az w'.heap.size;obtain⟨W4,SG⟩:=az (w'.alloc (δ #[J i1,J i2,γ rA rn bE,μ lb,J at_] 59));rw[SG] at Cn FN jJ;rw[Md] at FN DP;rw[SG,Md];clear aC SG Md iM l0 l1 l2 l3 l4 H3 ff cY;simp only[ξ,ak,aj,ah];refine kC 9 ?_;intro w' aC
 refine(yh (w:=w) (B:=lo) (G:=Vs) ((i1,i2),(rA,rn,bE,rL),lb,at_) ⟨(Cn.out.bl aC).v,(Cn.out.bl aC).below,Cn.out.lo_,(Cn.out.bl aC).hi⟩ (by exact FN.out.bl aC) DP.out (by omega) hi).mono ?_
 rintro e w5 ⟨A5,c5,rfl,OY,BR⟩;rw[HI.out] at OY
 have HF5:Hid (∀W5,σ w5.heap.size w5 W5→fH w lo g A5 (n+1) c5 (fp (fun v:VC=>v.1) Vs ((i1,i2),(rA,rn,bE,rL),lb,at_)) B m k Es C r rc G (W5.setCell ⟨g,0,ε⟩ (γ A5 (n+1) c5))∧(∃u,W5.cell? ⟨g,0,ε⟩=ζ u)∧W5.frozen? ⟨g,0,ε⟩=ρ∧bc g W (W5.setCell ⟨g,0,ε⟩ (γ A5 (n+1) c5))):=qh (fun W5 fM=>by
  have hS:=Cn.out.bl aC;have hg:=JK BR fM;have hs:=hS.s.grown hg (bM hS.v hS.s (by decide))
  refine⟨hS.setV hg (bF OY.own fM) (fun x hx=>by
   rcases dL.1 hx with rfl|hx
   ·exact .inr ((((Hv.out.bl jJ.out).bl aC).grown hS.v (by decide) hg))
   ·exact .inl hx),⟨_,hs.cell (i:=0) rfl⟩,hs.free _,?_⟩
  exact((bc.of_below jJ.out).trans ((bc.of_below aC).trans (bc.grown hS.v (.inl rfl) hg))).setS _ _)
 refine⟨_,rfl,⟨BR.os,BR.tape,BR.output,BR.size,fun q hq hn=>BR.block q hq (fun e=>hn (e.trans GOB.out))⟩,?_⟩
 clear aC OY BR Cn FN DP jJ HI;simp only[ξ,ak,aj,ah];refine lG 10 ?_;intro w' aC;apply JaG;apply JaG;apply Jax
 ·go_simp;first|done|exact⟨rfl,rfl⟩|exact rfl
 apply Jax
 ·exact Kept.refl _ _
 have Et:=aC;clear aC;simp only[ξ,ak,aj,ah];refine lG 11 ?_;intro w' aC;replace aC:=Ext.trans Et aC;apply JaG;apply JaG;apply Jax
 ·go_simp;first|done|exact⟨rfl,rfl⟩|exact rfl
 apply Jax
 ·exact Kept.refl _ _
 have PF:=aC;clear aC;simp only[ξ,ak,aj,ah];refine bm 12 ?_;refine lA 13 ?_;intro w' aC;replace aC:=Ext.trans PF aC;clear PF;obtain⟨rF,⟨u5,qH⟩,hz5,DN⟩:=HF5.out w' aC;have RT:=qh rF;have Ia:=qh DN;clear rF DN
 refine⟨w'.setCell ⟨g,0,ε⟩ (γ A5 (n+1) c5),by(go_simp;first|done|exact rfl|exact⟨rfl,rfl⟩),?_⟩
 clear qH hz5;obtain⟨W7,Is⟩:=az (w'.setCell ⟨g,0,ε⟩ (γ A5 (n+1) c5));rw[Is] at RT Ia ⊢;clear Is aC HF5;(try simp only[ξ,ak,aj,ah]);refine eU (by kernel_rfl) ?_ _;intro w8 ch;have UF:=qh (RT.out.bl ch);have Cq:=qh (Ia.out.trans (bc.of_below ch));clear ch RT Ia;go_wp2;go_end0;exact⟨rfl,by first|exact⟨_,_,UF.out,Cq.out⟩|exact⟨⟨_,_,UF.out⟩,Cq.out⟩⟩
end
section
variable {w W:ο} {lo g:Nat} {A:Option Κ} {n c:Nat} {Vs:List VC} {B:Option Κ} {m k:Nat} {Es:List EC} {C:Option Κ} {r rc:Nat} {G:List Gn}
theorem te (s n c:Int) (h:c=0∨c=1):Pure 32 #[φ #[J s,J n,J c]] (φ #[J s,J n,J (1 - c)]):=fun w=>by
 have h1:IntKind.i64.wrap (1 - c)=1 - c:=by rw[IntKind.wrap_i64];omega
 go_enter Tryz.func32,Tryz.ntmps32;go_wp2;exact bodyPost_ret (v:=φ #[J s,J n,J (1 - c)]) (by simp[results,Tryz.results32,go_sem]) rfl ⟨rfl,bT _ _ _⟩
theorem zv (h:fH w lo g A n c Vs B m k Es C r rc G W) (x y:D) (hr:r≤400) (hG:fi G):Ζ η 119 #[υ (ζ ⟨g,0,ε⟩),φ #[J x.1,J x.2.1,J x.2.2],φ #[J y.1,J y.2.1,J y.2.2]] W fun e w'=>e=.returned (.tuple #[])∧∃C' r' p9,fH w lo g A n c Vs B m k Es C' r' p9 (eA G (x,y)) w'∧(eA G (x,y)).length=r'∧bc g W w'∧Kept (fun b=>b=g) W w':=by
 have hl:=h.glen
 have Qm:Hid (∀W',σ W.heap.size W W'→Ζ η 150 #[γ C r rc,φ #[J x.1,J x.2.1,J x.2.2,J y.1,J y.2.1,J y.2.2]] W' fun e w'=>∃A' c',e=.returned (.slice A' (eA G (x,y)).length c')∧w'.ownsRow W'.heap.size 98 6 (.slice A' (eA G (x,y)).length c') (eA G (x,y)).length (ao cj (eA G (x,y)))∧σ W'.heap.size W' w'):=qh (fun W' hb=>
  Kg C r rc G (x,y) W' (bk (h.bl hb).gn) hr (Wb G (x,y)) (vz G (x,y)) (I0 hG (x,y) hl) (fun t ht h0 s hs=>by
   have es:=θ (l:=G) (i:=s) (by omega);have et:=θ (l:=G) (i:=t) (by omega);rw[←vz G (x,y) s _ es];rw[←vz G (x,y) t _ et] at h0;have h1:=(List.pairwise_iff_getElem.1 (qF hG)) s t (by omega) (by omega) hs;have h2:cB G[s] (x,y)=cB G[s] G[t]:=by unfold cB;rw[(hD _ _).1 h0]
   rw[h2];exact h1))
 obtain⟨N,gN⟩:=az ((eA G (x,y)).length);rw[gN] at Qm;have GN:=qh gN;have jn:=aF (ax W (δ #[J x.1,J x.2.1,J x.2.2] 32)) (δ #[J y.1,J y.2.1,J y.2.2] 32);have bn:=qh jn;have H0:=qh (h.up jn);have aR:Hid (Whole ((W.alloc (δ #[J x.1,J x.2.1,J x.2.2] 32)).alloc (δ #[J y.1,J y.2.1,J y.2.2] 32)) W.heap.size 32 [J x.1,J x.2.1,J x.2.2]):=qh ((Whole.new_ _ _ [_,_,_]).al _);have gG:Hid (Whole ((W.alloc (δ #[J x.1,J x.2.1,J x.2.2] 32)).alloc (δ #[J y.1,J y.2.1,J y.2.2] 32)) (W.heap.size+1) 32 [J y.1,J y.2.1,J y.2.2]):=qh (Whole.new2 (by simp));clear h jn hl gN;go_enter Tryz.func119,Tryz.ntmps119;go_upto_region 1 with fail
 obtain⟨W0,bJ⟩:=az ((W.alloc (δ #[J x.1,J x.2.1,J x.2.2] 32)).alloc (δ #[J y.1,J y.2.1,J y.2.2] 32));obtain⟨b1,cJ⟩:=az (W.heap.size+1);obtain⟨b0,bS⟩:=az W.heap.size;rw[bJ] at H0 aR gG bn ⊢;rw[cJ] at gG ⊢;rw[bS] at aR ⊢;clear bJ bS cJ;have iM:∀w',Kept aT W0.drew w'→w'.cell? ⟨g,2,ε⟩=ζ (γ C r rc):=fun w' h=>h.nil_cell (H0.out.dr.s.cell (i:=2) rfl)
 have p0:=dX (i:=0) aR.out rfl;have q0:=dX (i:=0) gG.out rfl;have p1:=dX (i:=1) aR.out rfl;have q1:=dX (i:=1) gG.out rfl;have p2:=dX (i:=2) aR.out rfl;have q2:=dX (i:=2) gG.out rfl;refine bK (aT) [11] (by kernel_rfl) ?_;refine bm 0 ?_;refine bm 1 ?_;refine bm 2 ?_;refine bm 3 ?_;refine bm 4 ?_;refine bm 5 ?_;refine bm 6 ?_;refine bm 7 ?_;refine kC 8 ?_;intro w' aC
 refine(Qm.out w' (af (ba bn.out) aC)).mono ?_
 rintro e w2 ⟨C2,mW,rfl,XD,ar⟩
 refine⟨_,rfl,Kept.of_below ar,?_⟩
 have XO:Hid (∀W5,σ w2.heap.size w2 W5→fH w lo g A n c Vs B m k Es C2 N mW (eA G (x,y)) (W5.setCell ⟨g,2,ε⟩ (γ C2 N mW))∧(∃u,W5.cell? ⟨g,2,ε⟩=ζ u)∧W5.frozen? ⟨g,2,ε⟩=ρ∧bc g W (W5.setCell ⟨g,2,ε⟩ (γ C2 N mW))∧Kept (fun b=>b=g) W (W5.setCell ⟨g,2,ε⟩ (γ C2 N mW))):=qh (fun W5 fM=>by
  have hS:=H0.out.dr.bl aC;have hs:=(hS.bl (af ar fM)).s
  refine⟨hS.setG (af ar fM) (bF (e8 XD hS.hi) fM),⟨_,hs.cell (i:=2) rfl⟩,hs.free _,?_⟩
  exact⟨(bc.of_below (af (af (ba bn.out) aC) (af ar fM))).setS _ _,(Kept.of_below (S:=fun b=>b=g) (af (af (ba bn.out) aC) (af ar fM))).setCell (p:=⟨g,2,ε⟩) (.inl rfl) _⟩)
 clear aC XD ar iM p0 q0 p1 q1 p2 q2 H0 aR gG bn Qm;simp only[ξ,ak,aj,ah];refine lG 9 ?_;intro w' aC;apply JaG;apply JaG;apply Jax
 ·go_simp;first|done|exact⟨rfl,rfl⟩|exact rfl
 apply Jax
 ·exact Kept.refl _ _
 have UN:=aC;clear aC;simp only[ξ,ak,aj,ah];refine bm 10 ?_;refine lA 11 ?_;intro w' aC;replace aC:=Ext.trans UN aC;clear UN;obtain⟨rF,⟨u5,qH⟩,hz5,DN,hp5⟩:=XO.out w' aC;have RT:=qh rF;have Ia:=qh DN;have VV:=qh hp5;clear rF DN hp5
 refine⟨w'.setCell ⟨g,2,ε⟩ (γ C2 N mW),by(go_simp;first|done|exact rfl|exact⟨rfl,rfl⟩),?_⟩
 clear qH hz5;obtain⟨W7,Is⟩:=az (w'.setCell ⟨g,2,ε⟩ (γ C2 N mW));rw[Is] at RT Ia VV ⊢;clear Is aC XO;(try simp only[ξ,ak,aj,ah]);refine eU (by kernel_rfl) ?_ _;intro w8 ch;have UF:=qh (RT.out.bl ch);have Cq:=qh (Ia.out.trans (bc.of_below ch));have XI:=qh (VV.out.trans (Kept.of_below ch));clear ch RT Ia VV;go_wp2;go_end0;exact⟨rfl,by first|exact⟨_,_,_,UF.out,GN.out,Cq.out,XI.out⟩|exact⟨⟨_,_,_,UF.out,GN.out⟩,Cq.out,XI.out⟩⟩
theorem zt (A:Option Κ) (n c bd:Nat) (L:List D) (x:D) (w:ο) (h:aS w w.heap.size 3 A n c (aA L)) (hb:Whole w bd 32 [J x.1,J x.2.1,J x.2.2]) (hn:n≤1000):Ζ η 122 #[γ A n c,υ (ζ ⟨bd,0,ε⟩)] w (sL w (aJ (ft L x))):=by
 have H:=qh h;have c0:=hb.cell (i:=0) rfl;have c1:=hb.cell (i:=1) rfl;have c2:=hb.cell (i:=2) rfl;clear h hb;go_enter Tryz.func122,Tryz.ntmps122
 go_wp2_with (first
  |(go_at_call 123
    refine(zf A n c L x _ (by exact H.out) (by omega)).mono ?_
    rintro e w3 ⟨A3,c3,rfl,rz,bw⟩;have mc:=qh rz;have cY:=qh bw;clear rz bw))
 go_ret;exact⟨A3,c3,rfl,mc.out,cY.out⟩
end
def jY {α:Type} (f:α→α):Nat→α→α
 |0,x=>x
 |k+1,x=>jY f k (f x)
structure Pm {α:Type} (f:α→α) (L:List α):Prop where
 nd:L.Nodup
 cl:∀x∈L,f x∈L
 inj:∀x∈L,∀y∈L,f x=f y→x=y
def Rl {α:Type} (f:α→α) (x y:α):Prop:=∃i,jY f i x=y
structure kM {α:Type} (f:α→α) (x:α) (p:Nat):Prop where
 pos:0<p
 back:jY f p x=x
 ne:∀i,0<i→i<p→jY f i x≠x
def lk {α:Type} (f:α→α) (x:α) (p:Nat):List α:=(Ω p).map fun i=>jY f i x
def nO {α:Type} [DecidableEq α] (f:α→α) (x:α):Nat→α→List α
 |0,_=>[]
 |k+1,y=>y::(if f y=x then[] else nO f x k (f y))
structure sO {α:Type} (f:α→α) (L P:List α):Prop where
 nd:P.Nodup
 sub:∀p∈P,p∈L
 all:∀x∈L,∃p∈P,Rl f p x
 one:∀p∈P,∀q∈P,Rl f p q→p=q
theorem zg {α β:Type} [DecidableEq β] (r:α→β→Prop):∀(A:List α) (B:List β),A.Nodup→(∀a∈A,∃b∈B,r a b)→(∀a∈A,∀a'∈A,∀b∈B,r a b→r a' b→a=a')→A.length≤B.length
 |[],_,_,_,_=>Nat.zero_le _
 |a::A,B,hn,he,hi=>by
  rw[JaJ] at hn;obtain⟨b,hb,hr⟩:=he a (Jai ..)
  have h1:=zg r A (B.erase b) hn.2 (fun a' Qy=>by
   obtain⟨b',Er,zp⟩:=he a' (Jad _ Qy)
   refine⟨b',(List.mem_erase_of_ne (fun e=>?_)).2 Er,zp⟩
   subst e;exact hn.1 (hi a (Jai ..) a' (Jad _ Qy) b' Er hr zp▸Qy)) (fun x hx y hy z hz=>hi x (Jad _ hx) y (Jad _ hy) z (List.mem_of_mem_erase hz))
  rw[List.length_erase_of_mem hb] at h1
  have:=Jbk hb
  simp only[JaH];omega
theorem FC {α:Type} [DecidableEq α] {A B:List α} (h:A.Nodup) (hs:∀x∈A,x∈B):A.length≤B.length:=
 zg (fun a b=>a=b) A B h (fun a ha=>⟨a,hs a ha,rfl⟩) (fun _ _ _ _ _ _ e e'=>e.trans e'.symm)
theorem least {p:Nat→Prop} (h:∃n,p n):∃n,p n∧∀m,m<n→¬p m:=by
 obtain⟨n,hn⟩:=h
 induction n using Nat.strongRecOn with
 |_ n ih=>
  by_cases q:∃m,m<n∧p m
  ·obtain⟨m,h1,h2⟩:=q;exact ih m h1 h2
  ·exact⟨n,hn,fun m h1 h2=>q ⟨m,h1,h2⟩⟩
section
variable {α:Type} {f:α→α} {L P Q:List α}
theorem qA (i j:Nat) (x:α):jY f (i+j) x=jY f j (jY f i x):=by
 induction i generalizing x with
 |zero=>rw[Nat.zero_add];rfl
 |succ i ih=>rw[Nat.succ_add];exact ih (f x)
theorem iI (k:Nat) (x:α):jY f (k+1) x=f (jY f k x):=qA k 1 x
theorem Pm.it (h:Pm f L) {x:α} (hx:x∈L):∀k,jY f k x∈L
 |0=>hx
 |k+1=>by rw[iI];exact h.cl _ (h.it hx k)
theorem Pm.it_inj (h:Pm f L) {x y:α} (hx:x∈L) (hy:y∈L):∀k,jY f k x=jY f k y→x=y
 |0,e=>e
 |k+1,e=>by
  rw[iI,iI] at e;exact h.it_inj hx hy k (h.inj _ (h.it hx k) _ (h.it hy k) e)
theorem Pm.per [DecidableEq α] (h:Pm f L) {x:α} (hx:x∈L):∃p,kM f x p∧p≤L.length:=by
 have h0:∃n,0<n∧jY f n x=x∧n≤L.length:=by
  refine Classical.byContradiction fun ui=>?_
  have ZQ:((Ω (L.length+1)).map fun i=>jY f i x).Nodup:=by
   rw[List.Nodup,Jbg];refine List.Pairwise.imp_of_mem ?_ (List.pairwise_lt_range (n:=L.length+1));intro i j hi hj eS e;rw[List.mem_range] at hi hj;refine ui ⟨j - i,by omega,?_,by omega⟩
   have e1:jY f i (jY f (j - i) x)=jY f i x:=by
    rw[←qA,Nat.sub_add_cancel (by omega)];exact e.symm
   exact h.it_inj (h.it hx _) hx i e1
  have:=FC ZQ (B:=L) (fun y hy=>by
   obtain⟨i,_,rfl⟩:=Α.1 hy;exact h.it hx i)
  rw[List.length_map,List.length_range] at this;omega
 obtain⟨n,⟨h1,h2,h3⟩,h4⟩:=least h0;exact⟨n,⟨h1,h2,fun i hi eS e=>h4 i eS ⟨hi,e,by omega⟩⟩,h3⟩
theorem kM.mul {x:α} {p:Nat} (h:kM f x p) (k:Nat):jY f (p*k) x=x:=by
 induction k with
 |zero=>rfl
 |succ k ih=>rw[Nat.mul_succ,qA,ih,h.back]
theorem kM.mod {x:α} {p:Nat} (h:kM f x p) (k:Nat):jY f k x=jY f (k % p) x:=by
 have:=qA (f:=f) (p*(k / p)) (k % p) x
 rw[Nat.div_add_mod,h.mul] at this;exact this
theorem kM.inj (h:Pm f L) {x:α} (hx:x∈L) {p:Nat} (hp:kM f x p) {i j:Nat} (hi:i<p) (hj:j<p) (e:jY f i x=jY f j x):i=j:=by
 have key:∀{i j:Nat},i<j→j<p→jY f i x=jY f j x→False:=fun {i j} eS hj e=>by
  have e1:jY f i (jY f (j - i) x)=jY f i x:=by
   rw[←qA,Nat.sub_add_cancel (by omega)];exact e.symm
  exact hp.ne (j - i) (by omega) (by omega) (h.it_inj (h.it hx _) hx i e1)
 rcases Nat.lt_trichotomy i j with q|q|q
 ·exact(key q hj e).elim
 ·exact q
 ·exact(key q hi e.symm).elim
theorem kM.uniq {x:α} {p q:Nat} (h:kM f x p) (k:kM f x q):p=q:=by
 rcases Nat.lt_trichotomy p q with e|e|e
 ·exact(k.ne p h.pos e h.back).elim
 ·exact e
 ·exact(h.ne q k.pos e k.back).elim
theorem Rl.refl (x:α):Rl f x x:=⟨0,rfl⟩
theorem Rl.trans {x y z:α} (h:Rl f x y) (k:Rl f y z):Rl f x z:=by
 obtain⟨i,rfl⟩:=h;obtain⟨j,rfl⟩:=k;exact⟨i+j,qA i j x⟩
theorem Rl.one (x:α):Rl f x (f x):=⟨1,rfl⟩
theorem Rl.mem (h:Pm f L) {x y:α} (hx:x∈L) (r:Rl f x y):y∈L:=by
 obtain⟨i,rfl⟩:=r;exact h.it hx i
theorem Rl.symm [DecidableEq α] (h:Pm f L) {x y:α} (hx:x∈L) (r:Rl f x y):Rl f y x:=by
 obtain⟨i,rfl⟩:=r;obtain⟨p,hp,_⟩:=h.per hx
 refine⟨p*i - i,?_⟩
 rw[←qA]
 have:i≤p*i:=Nat.le_mul_of_pos_left i hp.pos
 rw[show i+(p*i - i)=p*i by omega,hp.mul]
theorem Ff (x:α) (p:Nat):(lk f x p).length=p:=by simp[lk]
theorem MG {x y:α} {p:Nat} (hp:kM f x p):y∈lk f x p↔Rl f x y:=by
 unfold lk;rw[Α];constructor
 ·rintro⟨i,_,rfl⟩;exact⟨i,rfl⟩
 ·rintro⟨i,rfl⟩;exact⟨i % p,List.mem_range.2 (Nat.mod_lt _ hp.pos),(hp.mod i).symm⟩
theorem E5 [DecidableEq α] {x:α} {p:Nat} (hp:kM f x p):∀(k j:Nat),j<p→p - j≤k→nO f x k (jY f j x)=(lk f x p).drop j
 |0,j,hj,hk=>by omega
 |k+1,j,hj,hk=>by
  have e1:(lk f x p).drop j=jY f j x::(lk f x p).drop (j+1):=by
   rw[List.drop_eq_getElem_cons (by simp[lk];omega)];simp[lk]
  rw[nO,e1,←iI (f:=f) j x]
  by_cases q:j+1=p
  ·rw[q,if_pos hp.back,List.drop_eq_nil_of_le (by simp[lk])]
  ·rw[if_neg (hp.ne (j+1) (by omega) (by omega)),E5 hp k (j+1) (by omega) (by omega)]
theorem uO [DecidableEq α] {x:α} {p k:Nat} (hp:kM f x p) (hk:p≤k):nO f x k x=lk f x p:=E5 hp k 0 hp.pos (by omega)
theorem sO.le [DecidableEq α] (h:Pm f L) (h1:sO f L P) (h2:sO f L Q):P.length≤Q.length:=
 zg (fun p q=>Rl f q p) P Q h1.nd (fun p hp=>h2.all p (h1.sub p hp)) (fun p hp p' TL q hq r r'=>h1.one p hp p' TL ((r.symm h (h2.sub q hq)).trans r'))
theorem sO.len [DecidableEq α] (h:Pm f L) (h1:sO f L P) (h2:sO f L Q):P.length=Q.length:=Nat.le_antisymm (h1.le h h2) (h2.le h h1)
def kK [DecidableEq α] (f:α→α) (N:Nat):List α→List α→List (List α)
 |[],_=>[]
 |x::r,T=>if x∈T then kK f N r T else nO f x N x::kK f N r (T++nO f x N x)
theorem qD [DecidableEq α] (h:Pm f L) {N:Nat} (hN:L.length≤N):∀(l T:List α),(∀x∈l,x∈L)→(∀x∈T,x∈L)→(∀x∈T,∀y,Rl f x y→y∈T)→
 ∃P:List α,P.Sublist l∧kK f N l T=P.map (fun x=>nO f x N x)∧(∀p∈P,p∉T)∧(∀x∈l,x∈T∨∃p∈P,Rl f p x)∧(∀p∈P,∀q∈P,Rl f p q→p=q)∧P.Nodup
 |[],T,_,_,_=>⟨[],List.Sublist.refl _,rfl,by simp,by simp,by simp,List.nodup_nil⟩
 |x::r,T,hl,hT,hc=>by
  have hxL:=hl x (Jai ..);have hr:=fun y hy=>hl y (Jad _ hy)
  by_cases hx:x∈T
  ·obtain⟨P,h1,h2,h3,h4,h5,h6⟩:=qD h hN r T hr hT hc
   refine⟨P,h1.cons _,by rw[kK,if_pos hx,h2],h3,fun y hy=>?_,h5,h6⟩
   rcases Η.1 hy with rfl|hy
   ·exact .inl hx
   ·exact h4 y hy
  ·obtain⟨p,hp,bD⟩:=h.per hxL;have eo:nO f x N x=lk f x p:=uO hp (by omega);have ij:∀y,y∈T++lk f x p↔y∈T∨Rl f x y:=fun y=>by rw[Jan,MG hp]
   obtain⟨P,h1,h2,h3,h4,h5,h6⟩:=qD h hN r (T++nO f x N x) hr (fun y hy=>by
    rw[eo,ij] at hy;exact hy.elim (hT y) (fun q=>q.mem h hxL)) (fun y hy z hz=>by
    rw[eo,ij] at hy ⊢;exact hy.elim (fun q=>.inl (hc y q z hz)) (fun q=>.inr (q.trans hz)))
   rw[eo] at h3 h4;have hxP:∀q∈P,¬Rl f x q:=fun q hq r=>h3 q hq ((ij q).2 (.inr r))
   refine⟨x::P,h1.cons_cons _,by rw[kK,if_neg hx,h2];rfl,fun q hq=>?_,fun y hy=>?_,fun a ha b hb r=>?_,?_⟩
   ·rcases Η.1 hq with rfl|hq
    ·exact hx
    ·exact fun m=>h3 q hq ((ij q).2 (.inl m))
   ·rcases Η.1 hy with rfl|hy
    ·exact .inr ⟨y,Jai ..,Rl.refl _⟩
    ·rcases h4 y hy with q|⟨p',TL,r⟩
     ·rcases (ij y).1 q with q|q
      ·exact .inl q
      ·exact .inr ⟨x,Jai ..,q⟩
     ·exact .inr ⟨p',Jad _ TL,r⟩
   ·rcases Η.1 ha with ea|SE
    ·rcases Η.1 hb with eb|ar
     ·rw[ea,eb]
     ·exact(hxP b ar (ea▸r)).elim
    ·rcases Η.1 hb with eb|ar
     ·exact(hxP a SE (eb▸r.symm h (hr a (h1.subset SE)))).elim
     ·exact h5 a SE b ar r
   ·exact JaJ.2 ⟨fun hq=>hxP x hq (Rl.refl x),h6⟩
theorem Hi [DecidableEq α] (h:Pm f L) {N:Nat} (hN:L.length≤N) (l:List α) (hl:∀x,x∈l↔x∈L):∃P,sO f L P∧kK f N l []=P.map (fun x=>nO f x N x):=by
 obtain⟨P,h1,h2,h3,h4,h5,h6⟩:=qD h hN l [] (fun x hx=>(hl x).1 hx) (by simp) (by simp)
 refine⟨P,⟨h6,fun p hp=>(hl p).1 (h1.subset hp),fun x hx=>?_,h5⟩,h2⟩
 rcases h4 x ((hl x).2 hx) with q|q
 ·cases q
 ·exact q
end
section
variable {α:Type} [DecidableEq α] {f f':α→α} {L L' P:List α}
theorem kM.up {x:α} {p:Nat} (hp:kM f x p) {y:α} (r:Rl f x y):∃i,0<i∧i≤p∧jY f i x=y:=by
 obtain⟨i,rfl⟩:=r
 by_cases q:i % p=0
 ·exact⟨p,hp.pos,Δ _,by rw[hp.back,hp.mod i,q];rfl⟩
 ·exact⟨i % p,by omega,Nat.le_of_lt (Nat.mod_lt _ hp.pos),(hp.mod i).symm⟩
end
section
variable {α:Type} {f f':α→α} {L L' P:List α}
theorem Qr [DecidableEq α] (h:Pm f L) {a:α} (ha:a∈L) (hn:L'.Nodup) (hL:∀y,y∈L'↔y∈L∧y≠a) (hf:∀z∈L',f' z=if f z=a then f a else f z):Pm f' L':=by
 refine⟨hn,fun z hz=>?_,fun z hz w hw e=>?_⟩
 ·obtain⟨z1,z2⟩:=(hL z).1 hz;rw[hf z hz];split
  ·rename_i q
   refine(hL _).2 ⟨h.cl a ha,fun q2=>z2 (h.inj _ z1 _ ha (q.trans q2.symm))⟩
  ·rename_i q;exact(hL _).2 ⟨h.cl z z1,q⟩
 ·obtain⟨z1,z2⟩:=(hL z).1 hz;obtain⟨w1,w2⟩:=(hL w).1 hw;rw[hf z hz,hf w hw] at e
  by_cases q:f z=a
  ·by_cases r:f w=a
   ·exact h.inj _ z1 _ w1 (q.trans r.symm)
   ·rw[if_pos q,if_neg r] at e;exact absurd (h.inj _ ha _ w1 e).symm w2
  ·by_cases r:f w=a
   ·rw[if_neg q,if_pos r] at e;exact absurd (h.inj _ z1 _ ha e) z2
   ·rw[if_neg q,if_neg r] at e;exact h.inj _ z1 _ w1 e
theorem QS [DecidableEq α] (h:Pm f L) {a:α} (ha:a∈L) (hL:∀y,y∈L'↔y∈L∧y≠a) (hf:∀z∈L',f' z=if f z=a then f a else f z) {x:α} (hx:x∈L'):
 ∀n i,i≤n→jY f i x≠a→Rl f' x (jY f i x):=by
 obtain⟨x1,x2⟩:=(hL x).1 hx;intro n
 induction n with
 |zero=>
  intro i hi _;obtain rfl:i=0:=by omega
  exact Rl.refl x
 |succ n ih=>
  intro i hi bQ;cases i with
  |zero=>exact Rl.refl x
  |succ j=>
   by_cases q:jY f j x=a
   ·cases j with
    |zero=>exact absurd q x2
    |succ k=>
     have e1:f (jY f k x)=a:=(iI k x).symm.trans q;have e2:jY f (k+1+1) x=f a:=by rw[iI,q]
     rw[e2] at bQ ⊢;have hk:jY f k x≠a:=fun r=>bQ (by rw[←e1,r];rw[r] at e1;rw[e1];exact e1)
     have r1:=ih k (by omega) hk;have hm:jY f k x∈L':=(hL _).2 ⟨h.it x1 k,hk⟩;have e3:f' (jY f k x)=f a:=by rw[hf _ hm,if_pos e1]
     exact r1.trans (e3▸Rl.one (f:=f') (jY f k x))
   ·have r1:=ih j (by omega) q;have hm:jY f j x∈L':=(hL _).2 ⟨h.it x1 j,q⟩;rw[iI] at bQ ⊢;have e3:f' (jY f j x)=f (jY f j x):=by rw[hf _ hm,if_neg bQ]
    exact r1.trans (e3▸Rl.one (f:=f') (jY f j x))
theorem Ja [DecidableEq α] (h:Pm f L) (h':Pm f' L') {a:α} (hL:∀y,y∈L'↔y∈L∧y≠a) (hf:∀z∈L',f' z=if f z=a then f a else f z) {x:α} (hx:x∈L'):
 ∀i,Rl f x (jY f' i x)
 |0=>Rl.refl x
 |i+1=>by
  have r:=Ja h h' hL hf hx i;refine r.trans ?_;rw[iI,hf _ (h'.it hx i)];split
  ·rename_i q;exact(q▸Rl.one (f:=f) (jY f' i x)).trans (Rl.one (f:=f) a)
  ·exact Rl.one _
theorem Ro [DecidableEq α] (h:Pm f L) (h':Pm f' L') {a:α} (ha:a∈L) (hL:∀y,y∈L'↔y∈L∧y≠a) (hf:∀z∈L',f' z=if f z=a then f a else f z) {x y:α} (hx:x∈L') (hy:y≠a):Rl f' x y↔Rl f x y:=by
 constructor
 ·rintro⟨i,rfl⟩;exact Ja h h' hL hf hx i
 ·rintro⟨i,rfl⟩;exact QS h ha hL hf hx i i (Δ _) hy
theorem zA [DecidableEq α] (h:Pm f L) {a:α} (ha:a∈L) (hn:L'.Nodup) (hL:∀y,y∈L'↔y∈L∧y≠a) (hf:∀z∈L',f' z=if f z=a then f a else f z) (hP:sO f L P):
 Pm f' L'∧∃P',sO f' L' P'∧P'.length+(if f a=a then 1 else 0)=P.length:=by
 have h':=Qr h ha hn hL hf;have hr:∀{x y:α},x∈L'→y≠a→(Rl f' x y↔Rl f x y):=fun hx hy=>Ro h h' ha hL hf hx hy
 refine⟨h',?_⟩
 by_cases q:f a=a
 ·rw[if_pos q]
  have VP:∀i,jY f i a=a:=fun i=>by
   induction i with
   |zero=>rfl
   |succ i ih=>rw[iI,ih,q]
  have Xy:∀{p},p∈L→Rl f p a→p=a:=fun {p} hp r=>by
   obtain⟨i,e⟩:=r.symm h hp;rw[←e,VP]
  have haP:a∈P:=by
   obtain⟨p,hp,r⟩:=hP.all a ha;exact Xy (hP.sub p hp) r▸hp
  have ij:∀p,p∈P.erase a↔p≠a∧p∈P:=fun p=>hP.nd.mem_erase_iff
  refine⟨P.erase a,⟨hP.nd.erase a,fun p hp=>?_,fun x hx=>?_,fun p hp r tP e=>?_⟩,?_⟩
  ·obtain⟨p1,p2⟩:=(ij p).1 hp;exact(hL p).2 ⟨hP.sub p p2,p1⟩
  ·obtain⟨x1,x2⟩:=(hL x).1 hx;obtain⟨p,hp,r⟩:=hP.all x x1
   have Vf:p≠a:=fun e=>by
    obtain⟨i,e2⟩:=r;rw[e,VP] at e2;exact x2 e2.symm
   exact⟨p,(ij p).2 ⟨Vf,hp⟩,(hr ((hL p).2 ⟨hP.sub p hp,Vf⟩) x2).2 r⟩
  ·obtain⟨p1,p2⟩:=(ij p).1 hp;obtain⟨r1,r2⟩:=(ij r).1 tP;exact hP.one p p2 r r2 ((hr ((hL p).2 ⟨hP.sub p p2,p1⟩) r1).1 e)
  ·have:=List.length_erase_of_mem haP
   have:=Jbk haP
   omega
 ·rw[if_neg q];have Y7:f a∈L':=(hL _).2 ⟨h.cl a ha,q⟩
  have hg:∀p∈P,(if p=a then f a else p)∈L':=fun p hp=>by
   split
   ·exact Y7
   ·rename_i e;exact(hL p).2 ⟨hP.sub p hp,e⟩
  have KX:∀p,p∈P→Rl f p (if p=a then f a else p):=fun p hp=>by
   split
   ·rename_i e;rw[e];exact Rl.one a
   ·exact Rl.refl p
  have sR:∀p∈P,∀r∈P,Rl f (if p=a then f a else p) (if r=a then f a else r)→p=r:=fun p hp r tP e=>
   hP.one p hp r tP (((KX p hp).trans e).trans ((KX r tP).symm h (hP.sub r tP)))
  refine⟨P.map fun p=>if p=a then f a else p,⟨?_,fun x hx=>?_,fun x hx=>?_,fun p hp r tP e=>?_⟩,by simp⟩
  ·rw[List.nodup_iff_pairwise_ne,Jbg];exact(List.nodup_iff_pairwise_ne.1 hP.nd).imp_of_mem (fun {p r} hp tP bQ e=>bQ (sR p hp r tP (e▸Rl.refl _)))
  ·obtain⟨p,hp,rfl⟩:=Α.1 hx;exact hg p hp
  ·obtain⟨x1,x2⟩:=(hL x).1 hx;obtain⟨p,hp,r⟩:=hP.all x x1
   refine⟨_,Α.2 ⟨p,hp,rfl⟩,(hr (hg p hp) x2).2 ?_⟩
   exact((KX p hp).symm h (hP.sub p hp)).trans r
  ·obtain⟨p,hp3,rfl⟩:=Α.1 hp;obtain⟨r,rz,rfl⟩:=Α.1 tP;have h2:=((hL _).1 (hg r rz)).2;rw[sR p hp3 r rz ((hr (hg p hp3) h2).1 e)]
end
section
open Go.RowKit Go.Maps
structure afl (P:Program) (K:TypeId) (κ:Type) where
 enc:κ→Value
 kl:κ→Lit
 wf:κ→Prop
 keyed:Keyed P K
 key:∀x,wf x→keyOf P K (enc x)=some (kl x)
 inj:∀x y,wf x→wf y→kl x=kl y→x=y
 lit:∀x,wf x→WideAt.IsKeyLit (kl x)
end
section
open Go.RowKit Go.Maps
abbrev I2:=Int × Int
end
def n1 (x:Int):List ψ:=[J x]
theorem vr (x:Int):(n1 x).length=1:=rfl
def mE (L:List Int) (a b:Int):List Int:=L.map fun x=>if x=a∨x=b then min a b else x
abbrev St:=List Int × (I2→Option Nat)
def nJ (i:Nat) (s:St) (x:D):St:=match s.2 (x.1,x.2.1) with
 |some j=>(mE s.1 (s.1.getD i 0) (s.1.getD j 0),s.2)
 |none=>(s.1,fun y=>if y=(x.1,x.2.1) then ζ i else s.2 y)
def CC:Nat→List VC→St→St
 |_,[],s=>s
 |i,v::r,s=>CC (i+1) r (v.2.1.2.2.2.foldl (nJ i) s)
def wP (n:Nat):List Int:=(Ω n).map fun k:Nat=>(k:Int)
def fP (Vs:List VC):List Int:=(CC 0 Vs (wP Vs.length,fun _=>ε)).1
theorem mi (L:List Int) (a b:Int):(mE L a b).length=L.length:=by simp[mE]
structure sV (n:Nat) (s:St):Prop where
 len:s.1.length=n
 lt:∀y j,s.2 y=ζ j→j<n
theorem sV.step {n i:Nat} {s:St} (h:sV n s) (hi:i<n) (x:D):sV n (nJ i s x):=by
 unfold nJ;split
 ·exact⟨by rw[mi];exact h.len,h.lt⟩
 ·refine⟨h.len,fun y j hy=>?_⟩
  simp only at hy;split at hy
  ·obtain rfl:=Μ hy;exact hi
  ·exact h.lt y j hy
def fO:Nat→List VC→I2→Int
 |_,[],_=> -1
 |j,v::r,x=>if v.1=x then(j:Int) else fO (j+1) r x
theorem BD:∀(Vs:List VC) (i:Nat) (s:St),(CC i Vs s).1.length=s.1.length
 |[],_,_=>rfl
 |v::r,i,s=>by
  rw[CC,BD r];generalize v.2.1.2.2.2=R
  induction R generalizing s with
  |nil=>rfl
  |cons x R ih=>
   rw[List.foldl_cons,ih];unfold nJ;split
   ·exact mi _ _ _
   ·rfl
theorem ry (Vs:List VC):(fP Vs).length=Vs.length:=by
 rw[fP,BD];simp[wP]
def jf (a b x:Int):Int:=if x=a∨x=b then min a b else x
theorem sA (L:List Int) (a b:Int) {i:Nat} (h:i<L.length):(mE L a b).getD i 0=jf a b (L.getD i 0):=by
 have h2:i<(mE L a b).length:=by rw[mi];exact h
 rw[χ,χ,θ h2,θ h];simp[mE,jf]
theorem U1 (a b x:Int):jf a b x≤x:=by
 unfold jf;split
 ·rename_i h;rcases h with rfl|rfl<;>omega
 ·omega
theorem TV (a b x:Int):jf a b x=x∨jf a b x=a∨jf a b x=b:=by
 unfold jf;split
 ·by_cases h:a≤b
  ·exact .inr (.inl (by omega))
  ·exact .inr (.inr (by omega))
 ·exact .inl rfl
theorem T4 (a b x:Int):jf a b (jf a b x)=jf a b x:=by
 by_cases h:x=a∨x=b
 ·have e:jf a b x=min a b:=if_pos h;rw[e];exact if_pos (by omega)
 ·have e:jf a b x=x:=if_neg h;rw[e,e]
def pE (L:List Int):Prop:=∀i,i<L.length→0≤L.getD i 0∧L.getD i 0≤i∧L.getD (L.getD i 0).toNat 0=L.getD i 0
theorem u6 (n i:Nat) (h:i<n):(wP n).getD i 0=(i:Int):=by
 rw[χ,wP,List.getElem?_map,List.getElem?_range h];rfl
theorem pE.up (n:Nat):pE (wP n):=fun i hi=>by
 have hl:(wP n).length=n:=by simp[wP]
 rw[hl] at hi;rw[u6 n i hi,Jbn,u6 n i hi];omega
theorem pE.join {L:List Int} (h:pE L) {p q:Nat} (hp:p<L.length) (hq:q<L.length):pE (mE L (L.getD p 0) (L.getD q 0)):=fun i hi=>by
 rw[mi] at hi;obtain⟨a0,a1,a2⟩:=h p hp;obtain⟨b0,b1,b2⟩:=h q hq;obtain⟨x0,x1,x2⟩:=h i hi;rw[sA L _ _ hi];obtain⟨a,ga⟩:=az (L.getD p 0);obtain⟨b,gb⟩:=az (L.getD q 0);obtain⟨x,gx⟩:=az (L.getD i 0);rw[ga] at a0 a1 a2 ⊢;rw[gb] at b0 b1 b2 ⊢;rw[gx] at x0 x1 x2 ⊢;have hle:=U1 a b x;have hj:=TV a b x;have hjj:=T4 a b x
 have key:0≤jf a b x∧L.getD (jf a b x).toNat 0=jf a b x:=by
  rcases hj with e|e|e
  ·rw[e];exact⟨x0,x2⟩
  ·rw[e];exact⟨a0,a2⟩
  ·rw[e];exact⟨b0,b2⟩
 refine⟨key.1,by omega,?_⟩
 rw[sA L _ _ (by omega),key.2,hjj]
theorem pE.step {n i:Nat} {s:St} (h:pE s.1) (hs:sV n s) (hi:i<n) (x:D):pE (nJ i s x).1:=by
 unfold nJ;split
 ·rename_i j hj;exact h.join (by rw[hs.len];exact hi) (by rw[hs.len];exact hs.lt _ _ hj)
 ·exact h
theorem ED {n i:Nat} (hi:i<n):∀(R:List D) (s:St),pE s.1→sV n s→pE (R.foldl (nJ i) s).1∧sV n (R.foldl (nJ i) s)
 |[],s,h,hs=>⟨h,hs⟩
 |x::R,s,h,hs=>ED hi R _ (h.step hs hi x) (hs.step hi x)
theorem Fz {n:Nat}:∀(Vs:List VC) (i:Nat) (s:St),i+Vs.length≤n→pE s.1→sV n s→pE (CC i Vs s).1∧sV n (CC i Vs s)
 |[],_,s,_,h,hs=>⟨h,hs⟩
 |v::r,i,s,hn,h,hs=>by
  rw[JaH] at hn;obtain⟨h1,h2⟩:=ED (n:=n) (i:=i) (by omega) v.2.1.2.2.2 s h hs;exact Fz r (i+1) _ (by omega) h1 h2
theorem Ol (Vs:List VC):pE (fP Vs):=
 (Fz (n:=Vs.length) Vs 0 _ (by omega) (pE.up _) ⟨by simp[wP],fun y j h=>(by cases h)⟩).1
theorem zS:∀(Vs:List VC) (j k:Nat) (v:VC),(Vs.map (·.1)).Nodup→Vs[k]? =ζ v→fO j Vs v.1=((j+k:Nat):Int)
 |[],_,_,_,_,h=>by simp at h
 |u::r,j,0,v,_,h=>by
  obtain rfl:u=v:=by simpa using h
  rw[fO,if_pos rfl];simp
 |u::r,j,k+1,v,hn,h=>by
  have h1:r[k]? =ζ v:=by simpa using h
  rw[List.map_cons,JaJ] at hn;have bQ:u.1≠v.1:=fun e=>hn.1 (e▸Α.2 ⟨v,ω h1,rfl⟩)
  rw[fO,if_neg bQ,zS r (j+1) k v hn.2 h1];congr 1;omega
def Co (n:Nat) (R:Nat→Nat→Prop) (f:Nat→Int):Prop:=∀i k,i<n→k<n→R i k→f i=f k
structure yi (n:Nat) (R:Nat→Nat→Prop) (L:List Int):Prop where
 len:L.length=n
 ok:pE L
 co:Co n R (fun i=>L.getD i 0)
 fin:∀f:Nat→Int,Co n R f→∀i k,i<n→k<n→L.getD i 0=L.getD k 0→f i=f k
theorem yi.of_iff {n:Nat} {R R':Nat→Nat→Prop} {L:List Int} (h:yi n R L) (hR:∀f,Co n R f↔Co n R' f):yi n R' L:=
 ⟨h.len,h.ok,(hR _).1 h.co,fun f hf=>h.fin f ((hR f).2 hf)⟩
theorem yi.up (n:Nat):yi n (fun _ _=>False) (wP n):=by
 refine⟨by simp[wP],pE.up n,fun i k _ _ h=>h.elim,fun f _ i k hi hk e=>?_⟩
 rw[u6 n i hi,u6 n k hk] at e;rw[Int.ofNat_inj.1 e]
theorem zj {a b x:Int} (h:x=a∨x=b):jf a b x=min a b:=if_pos h
theorem Ft {a b x:Int} (h:¬(x=a∨x=b)):jf a b x=x:=if_neg h
theorem LN (a b:Int):min a b=a∨min a b=b:=by omega
theorem yi.join {n p q:Nat} {R:Nat→Nat→Prop} {L:List Int} (h:yi n R L) (hp:p<n) (hq:q<n):
 yi n (fun i k=>R i k∨(i=p∧k=q)) (mE L (L.getD p 0) (L.getD q 0)):=by
 have hl:=h.len;have hg:∀i,i<n→(mE L (L.getD p 0) (L.getD q 0)).getD i 0=jf (L.getD p 0) (L.getD q 0) (L.getD i 0):=fun i hi=>sA L _ _ (by omega)
 refine⟨by rw[mi];exact hl,h.ok.join (by omega) (by omega),?_,?_⟩
 ·rintro i k hi hk (hr|⟨rfl,rfl⟩)
  ·show(mE L _ _).getD i 0=(mE L _ _).getD k 0
   rw[hg i hi,hg k hk];exact congrArg _ (h.co i k hi hk hr)
  ·show(mE L _ _).getD i 0=(mE L _ _).getD k 0
   rw[hg i hi,hg k hk,zj (.inl rfl),zj (.inr rfl)]
 ·intro f hf i k hi hk e;rw[hg i hi,hg k hk] at e;have rF:Co n R f:=fun a b ha hb hr=>hf a b ha hb (.inl hr)
  have hpq:f p=f q:=hf p q hp hq (.inr ⟨rfl,rfl⟩)
  have yes:∀j,j<n→(L.getD j 0=L.getD p 0∨L.getD j 0=L.getD q 0)→f j=f p:=by
   rintro j hj (e|e)
   ·exact h.fin f rF j p hj hp e
   ·exact(h.fin f rF j q hj hq e).trans hpq.symm
  by_cases h1:L.getD i 0=L.getD p 0∨L.getD i 0=L.getD q 0
  ·by_cases h2:L.getD k 0=L.getD p 0∨L.getD k 0=L.getD q 0
   ·rw[yes i hi h1,yes k hk h2]
   ·rw[zj h1,Ft h2] at e;exact absurd (by rw[←e];exact LN _ _) h2
  ·by_cases h2:L.getD k 0=L.getD p 0∨L.getD k 0=L.getD q 0
   ·rw[zj h2,Ft h1] at e;exact absurd (by rw[e];exact LN _ _) h1
   ·rw[Ft h1,Ft h2] at e;exact h.fin f rF i k hi hk e
theorem yi.le {n:Nat} {R:Nat→Nat→Prop} {L L':List Int} (h:yi n R L) (k:yi n R L') {i:Nat} (hi:i<n):L'.getD i 0≤L.getD i 0:=by
 obtain⟨h0,h1,h2⟩:=h.ok i (by rw[h.len];exact hi);obtain⟨x,hx⟩:∃x:Nat,L.getD i 0=(x:Int):=⟨(L.getD i 0).toNat,by omega⟩
 rw[hx] at h1 h2 ⊢;rw[Jbn] at h2;have RI:x<n:=by omega
 have e:=h.fin _ k.co x i RI hi (by rw[h2,hx]);obtain⟨k0,k1,k2⟩:=k.ok x (by rw[k.len];exact RI);omega
theorem yi.uniq {n:Nat} {R:Nat→Nat→Prop} {L L':List Int} (h:yi n R L) (k:yi n R L'):L=L':=by
 refine List.ext_getElem (by rw[h.len,k.len]) fun i h1 h2=>?_
 have hi:i<n:=by rw[←h.len];exact h1
 have e1:=h.le k hi;have e2:=k.le h hi;have e:L.getD i 0=L'.getD i 0:=by omega
 rw[χ,χ,θ h1,θ h2] at e;exact e
def PX (Vs:List VC) (i:Nat) (y:I2):Prop:=∃v,Vs[i]? =ζ v∧∃x∈v.2.1.2.2.2,y=(x.1,x.2.1)
def Sh (Vs:List VC) (i k:Nat):Prop:=∃y,PX Vs i y∧PX Vs k y
structure Met (n:Nat) (T:Nat→I2→Prop) (s:St):Prop where
 lab:yi n (fun i k=>∃y,T i y∧T k y) s.1
 yes:∀y j,s.2 y=ζ j→T j y
 no:∀y,s.2 y=ε→∀i,¬T i y
theorem Met.step {n i:Nat} {T:Nat→I2→Prop} {s:St} (h:Met n T s) (ok:sV n s) (hi:i<n) (x:D):Met n (fun k y=>T k y∨(k=i∧y=(x.1,x.2.1))) (nJ i s x):=by
 unfold nJ;split
 ·rename_i j hj;have hT:=h.yes _ _ hj;have nF:=ok.lt _ _ hj
  refine⟨(h.lab.join hi nF).of_iff fun f=>?_,fun y k hy=>.inl (h.yes y k hy),?_⟩
  ·constructor
   ·rintro hf a b ha hb ⟨y,h1,h2⟩;have Fo:f i=f j:=hf i j hi nF (.inr ⟨rfl,rfl⟩);rcases h1 with h1|⟨rfl,rfl⟩<;>rcases h2 with h2|⟨rfl,e2⟩
    ·exact hf a b ha hb (.inl ⟨y,h1,h2⟩)
    ·subst e2;rw[Fo];exact hf a j ha nF (.inl ⟨_,h1,hT⟩)
    ·rw[Fo];exact(hf b j hb nF (.inl ⟨_,h2,hT⟩)).symm
    ·rfl
   ·rintro hf a b ha hb (⟨y,h1,h2⟩|⟨rfl,rfl⟩)
    ·exact hf a b ha hb ⟨y,.inl h1,.inl h2⟩
    ·exact hf _ _ ha hb ⟨_,.inr ⟨rfl,rfl⟩,.inl hT⟩
  ·rintro y hy k (h1|⟨rfl,rfl⟩)
   ·exact h.no y hy k h1
   ·simp only at hy;rw[hj] at hy;cases hy
 ·rename_i hj;have hT:=h.no _ hj
  refine⟨h.lab.of_iff fun f=>?_,fun y k hy=>?_,fun y hy k hk=>?_⟩
  ·constructor
   ·rintro hf a b ha hb ⟨y,h1,h2⟩;rcases h1 with h1|⟨rfl,e1⟩<;>rcases h2 with h2|⟨rfl,e2⟩
    ·exact hf a b ha hb ⟨y,h1,h2⟩
    ·subst e2;exact absurd h1 (hT a)
    ·subst e1;exact absurd h2 (hT b)
    ·rfl
   ·rintro hf a b ha hb ⟨y,h1,h2⟩;exact hf a b ha hb ⟨y,.inl h1,.inl h2⟩
  ·simp only at hy;split at hy
   ·rename_i e;exact .inr ⟨(Μ hy).symm,e⟩
   ·exact .inl (h.yes y k hy)
  ·simp only at hy;split at hy
   ·cases hy
   ·rename_i e;rcases hk with hk|⟨_,hk⟩
    ·exact h.no y hy k hk
    ·exact e hk
theorem Met.congr {n:Nat} {T T':Nat→I2→Prop} {s:St} (h:Met n T s) (e:∀k y,T k y↔T' k y):Met n T' s:=by
 have:T=T':=by
  funext k y
  exact propext (e k y)
 exact this▸h
theorem Bm {n i:Nat} (hi:i<n):∀(R:List D) (T:Nat→I2→Prop) (s:St),Met n T s→sV n s→Met n (fun k y=>T k y∨(k=i∧∃x∈R,y=(x.1,x.2.1))) (R.foldl (nJ i) s)
 |[],T,s,h,_=>h.congr fun k y=>by simp
 |x::R,T,s,h,ok=>(Bm hi R _ _ (h.step ok hi x) (ok.step hi x)).congr fun k y=>by
   simp only[Η,exists_eq_or_imp];constructor
   ·rintro ((h1|⟨h1,h2⟩)|⟨h1,h2⟩)
    ·exact .inl h1
    ·exact .inr ⟨h1,.inl h2⟩
    ·exact .inr ⟨h1,.inr h2⟩
   ·rintro (h1|⟨h1,h2|h2⟩)
    ·exact .inl (.inl h1)
    ·exact .inl (.inr ⟨h1,h2⟩)
    ·exact .inr ⟨h1,h2⟩
theorem En {n i:Nat} (hi:i<n):∀(R:List D) (s:St),sV n s→sV n (R.foldl (nJ i) s)
 |[],s,hs=>hs
 |x::R,s,hs=>En hi R _ (hs.step hi x)
theorem Bw {n:Nat}:∀(Vs:List VC) (i:Nat) (T:Nat→I2→Prop) (s:St),i+Vs.length≤n→Met n T s→sV n s→
 Met n (fun k y=>T k y∨∃j,k=i+j∧PX Vs j y) (CC i Vs s)
 |[],i,T,s,_,h,_=>h.congr fun k y=>by
   constructor
   ·exact .inl
   ·rintro (h1|⟨j,_,v,hv,_⟩)
    ·exact h1
    ·cases hv
 |v::r,i,T,s,hn,h,ok=>by
  rw[JaH] at hn;have hi:i<n:=by omega
  refine(Bw r (i+1) _ _ (by omega) (Bm hi v.2.1.2.2.2 T s h ok) (En hi _ s ok)).congr fun k y=>?_
  constructor
  ·rintro ((h1|⟨h1,h2⟩)|⟨j,h1,v',h2,h3⟩)
   ·exact .inl h1
   ·exact .inr ⟨0,by omega,v,rfl,h2⟩
   ·exact .inr ⟨j+1,by omega,v',by simpa using h2,h3⟩
  ·rintro (h1|⟨j,h1,v',h2,h3⟩)
   ·exact .inl (.inl h1)
   ·cases j with
    |zero=>
     obtain rfl:v=v':=by simpa using h2
     exact .inl (.inr ⟨by omega,h3⟩)
    |succ j=>exact .inr ⟨j,by omega,v',by simpa using h2,h3⟩
theorem nZ (Vs:List VC):yi Vs.length (Sh Vs) (fP Vs):=by
 have h0:Met Vs.length (fun _ _=>False) ((wP Vs.length,fun _=>ε):St):=
  ⟨(yi.up _).of_iff fun f=>by simp[Co],fun y j h=>(by cases h),fun _ _ _ h=>h⟩
 have h1:=(Bw Vs 0 _ _ (by omega) h0 ⟨by simp[wP],fun y j h=>(by cases h)⟩).lab;refine h1.of_iff fun f=>?_
 constructor
 ·rintro hf a b ha hb ⟨y,h1,h2⟩;exact hf a b ha hb ⟨y,.inr ⟨a,by omega,h1⟩,.inr ⟨b,by omega,h2⟩⟩
 ·rintro hf a b ha hb ⟨y,h1|⟨j,h1,h3⟩,h2⟩
  ·exact h1.elim
  ·rcases h2 with h2|⟨j2,h2,h4⟩
   ·exact h2.elim
   ·obtain rfl:a=j:=by omega
    obtain rfl:b=j2:=by omega
    exact hf a b ha hb ⟨y,h3,h4⟩
theorem Gl {Vs Ws:List VC} (hl:Ws.length=Vs.length) (h:∀i y,PX Ws i y↔PX Vs i y):fP Ws=fP Vs:=by
 have h1:=nZ Ws;rw[hl] at h1;refine h1.uniq ((nZ Vs).of_iff fun f=>?_)
 have:Sh Vs=Sh Ws:=by
  funext i k
  refine propext ⟨?_,?_⟩<;>rintro⟨y,a,b⟩
  ·exact⟨y,(h i y).2 a,(h k y).2 b⟩
  ·exact⟨y,(h i y).1 a,(h k y).1 b⟩
 rw[this]
def nH (L:List Int) (i:Nat):Bool:=L.getD i 0==(i:Int)
def mN (L:List Int):Nat:=(Ω L.length).countP (nH L)
def rk (L:List Int) (r:Nat):Nat:=(Ω r).countP (nH L)
def wv (L:List Int) (j:Nat):List Nat:=(Ω j).filter (nH L)
theorem uU (L:List Int) (j:Nat):(wv L j).length=rk L j:=by rw[wv,rk,List.countP_eq_length_filter]
theorem AI (L:List Int) (j:Nat):wv L (j+1)=wv L j++(if nH L j then[j] else[]):=by
 unfold wv;rw[List.range_succ,List.filter_append];cases h:nH L j<;>simp[h]
theorem NV (L:List Int) (j:Nat):rk L (j+1)=rk L j+(if nH L j then 1 else 0):=by
 rw[←uU,←uU,AI,Ε];cases nH L j<;>rfl
section
variable {α:Type}
abbrev Rw (α:Type):=Option Κ × Nat × List α
def Fl (x:Rw α):ψ:=γ x.1 x.2.2.length x.2.1
def YX (x:Rw α):List ψ:=[Fl x]
structure RowsIn (W:ο) (lo:Nat) (TR TE:Υ) (s:Nat) (f:α→List ψ) (A:Option Κ) (n c:Nat) (X:List (Rw α)):Prop where
 row:W.ownsRow lo TR 1 (γ A n c) n (ao YX X)
 len:X.length=n
 one:∀x∈X,W.ownsRow lo TE s (Fl x) x.2.2.length (ao f x.2.2)
 ne:∀(i j:Nat) (x y:Rw α) (a b:Κ),i≠j→X[i]? =ζ x→X[j]? =ζ y→x.1=ζ a→y.1=ζ b→a.block≠b.block
variable {W W':ο} {lo:Nat} {TR TE:Υ} {s:Nat} {f:α→List ψ} {A:Option Κ} {n c:Nat} {X:List (Rw α)}
theorem RowsIn.up (h:RowsIn W lo TR TE s f A n c X) (hb:σ W.heap.size W W'):RowsIn W' lo TR TE s f A n c X:=
 ⟨bF h.row hb,h.len,fun x hx=>bF (h.one x hx) hb,h.ne⟩
theorem RowsIn.al (h:RowsIn W lo TR TE s f A n c X) (o:Obj):RowsIn (W.alloc o) lo TR TE s f A n c X:=h.up (ax W o)
theorem RowsIn.dr (h:RowsIn W lo TR TE s f A n c X):RowsIn W.drew lo TR TE s f A n c X:=h.up ((Below.refl _ _).drew)
theorem RowsIn.bl (h:RowsIn W lo TR TE s f A n c X) (hb:σ W.heap.size W W'):RowsIn W' lo TR TE s f A n c X:=h.up hb
theorem RowsIn.nil_ (W:ο) (lo:Nat):RowsIn W lo TR TE s f ε 0 0 ([]:List (Rw α)):=
 ⟨World.ownsRow_nil W lo TR 1,rfl,fun x hx=>(by cases hx),fun i j x y a b _ h=>(by simp at h)⟩
theorem rY {W:ο} {l1 l2 k1 k2 n1 n2 g:Nat} {T1 T2:Υ} {v1 v2:ψ} {xs ys:List ψ} (h:W.ownsRow l1 T1 k1 v1 n1 xs) (k:W.ownsRow l2 T2 k2 v2 n2 ys) (hT:T1≠T2) (e1:v1.ownBlock=ζ g) (e2:v2.ownBlock=ζ g):False:=by
 rcases h.2 with⟨rfl,h2⟩|⟨g',cap,cur,rfl,hb,hg,-⟩
 ·cases e1
 rcases k.2 with⟨rfl,k2⟩|⟨g2,aeQ,aha,rfl,ar,lF,-⟩
 ·cases e2
 obtain rfl:g'=g:=Μ e1;obtain rfl:g2=g':=Μ e2;rw[hg] at lF;injection lF with q
 injection q with q1 q2
 exact hT q2
theorem IN (x:Rw α):(Fl x).ownBlock=x.1.map (·.block):=by cases h:x.1<;>simp[Fl,h,Value.ownBlock]
theorem RowsIn.far (h:RowsIn W lo TR TE s f A n c X) {r:Option Nat} (hg:W.grownBy W' r) (h1:∀g,r=ζ g→(Ο A n c).ownBlock≠ζ g) (h2:∀x∈X,∀g,r=ζ g→(Fl x).ownBlock≠ζ g):RowsIn W' lo TR TE s f A n c X:=by
 refine⟨h.row.kept hg ?_,h.len,fun x hx=>(h.one x hx).kept hg ?_,h.ne⟩
 ·cases r with
  |none=>cases hh:(Ο A n c).ownBlock<;>simp
  |some g=>exact .inr (h1 g rfl)
 ·cases r with
  |none=>cases hh:(Fl x).ownBlock<;>simp
  |some g=>exact .inr (h2 x hx g rfl)
end
section
open Go.ChangeShapes Go.WideShapes Go.ChangeAt Go.RowKit
section
variable {H:Type} {enc:TypeId × Value→H} {P:Program}
theorem pS (hl:laidOutB P=true) {W W':World} (hb:Below W.heap.size W W'):∀(ts:List TypeId) (vs:List Value) (ds:List (DataW H)) (ps:List MemPlace) (sp:Nat→Bool),
 (∀t∈ts,P.readableRec t=true∧t<P.types.size)→DataW.TrodAll enc P W 0 (fun _=>true) true ts vs ds ps→
 (∀p∈ps,p.block<W.heap.size)→(∀p∈ps,sp p.block=true)→DataW.TrodAll enc P W' 0 sp true ts vs ds ps
 |[],_,_,_,_,_,h,_,_=>by
  obtain⟨rfl,rfl,rfl⟩:=trodAll_nil h;exact rfl
 |t::ts,vs,ds,ps,sp,ht,h,eS,hs=>by
  obtain⟨v,vs',d,ds',p,q,rfl,rfl,rfl,h1,h2⟩:=trodAll_cons h
  have⟨hr,Sc⟩:=ht t (by simp)
  refine⟨p,q,WideElems.Trod_stays hl hr Sc h1 (fun x hx=>hb.same (eS x (by simp[hx]))) (fun x hx=>hs x (by simp[hx])),?_,rfl⟩
  exact pS hl hb ts vs' ds' q sp (fun t' h'=>ht t' (by simp[h'])) h2 (fun x hx=>eS x (by simp[hx])) (fun x hx=>hs x (by simp[hx]))
theorem J4 {f:Func} {s:ChangeSpec} {tb:TypeId} {W W':World} {args:Array Value} {ds gs:List (DataW H)} {before:List MemPlace}
 (hl:laidOutB P=true) (ZL:f.params.toList.all (fun t=>P.readableRec t && decide (t<P.types.size))=true) (hr:f.resultTypes=#[tb]) (htb:P.underlying tb=some .bool) (hv:s.vars=[])
 (hfn:(s.fn H (ds++gs)).results=[.lit (.bool true)]∧(s.fn H (ds++gs)).args=ds∧(s.fn H (ds++gs)).vars=[])
 (hW:DataW.Whole enc P f.params.toList s.vars false W args.toList ds gs before) (hb:Below W.heap.size W W'):
 s.post enc P f false true false false W args (.bool true) W':=by
 have aav:∀t∈f.params.toList,P.readableRec t=true∧t<P.types.size:=fun t ht=>by
  have h:=List.all_eq_true.1 ZL t ht;simpa using h
 have eS:∀p∈before,p.block<W.heap.size:=fun p hp=>hW.lt p hp
 have ZY:=hW;obtain⟨p,q,hA,hV,rfl,hfz,ZQ⟩:=hW;rw[hv] at hV;obtain⟨rfl,rfl⟩:=trodVars_none hV;obtain⟨e1,e2,e3⟩:=hfn
 refine⟨ds,[],p++[],[],p,[],ZY,?_,?_,?_,?_,fun h=>by cases h⟩
 ·rw[e1,hr];exact trodAll_mk1 (shut_bool htb _)
 ·rw[e2];exact pS hl hb _ _ _ _ _ aav hA (fun x hx=>eS x (by simp[hx])) (fun x hx=>by simpa using eS x (by simp[hx]))
 ·rw[e3,hv];rfl
 ·exact World.keptBut_mono (fun x hx=>⟨hx,by simpa using hx⟩) (hb.frame (·∈p++[]))
end
end
section
open Go.ChangeShapes Go.WideShapes Go.ChangeAt Go.RowKit
section
variable {H:Type} {P:Program}
def In64 (n:Int):Prop:= -9223372036854775808≤n∧n≤9223372036854775807
end
end
section
open Go.ChangeShapes Go.WideShapes Go.ChangeAt Go.RowKit
theorem Tryz.own:ownKnob Tryz.prog.godebug=none:=by kernel_rfl
theorem Tryz.laidOut:laidOutB Tryz.prog=true:=by kernel_rfl
end
section
open Go.ChangeShapes Go.WideShapes Go.ChangeAt Go.RowKit Go.Deep
end
section
open Go.ChangeShapes Go.WideShapes Go.ChangeAt Go.RowKit Go.Deep
section
variable {H:Type} {P:Program} {α β:Type}
def Row1 (H:Type) (P:Program) (t:TypeId) (f:α→List Value) (p:World→α→Prop):Prop:=
 ∀(enc:TypeId × Value→H) (w:World) (held:Bool) (fuel:Nat) (cs:List Value) (x:DataW H × List MemPlace),
  DataW.trod enc P w 0 (fun _=>true) held fuel t cs=some x→∃a,cs=f a∧p w a
theorem nU {t:TypeId} (ht:P.underlying t=some (.int .i64)):Row1 H P t (fun n:Int=>[J n]) (fun _ n=>In64 n):=by
 intro enc w held fuel cs x h;obtain⟨n,rfl,_,hw⟩:=DataW.trod_int ht h;exact⟨n,rfl,bounds_i64 hw⟩
theorem Hf {t:TypeId} (ht:P.underlying t=some .bool):Row1 H P t (fun b:Bool=>[.bool b]) (fun _ _=>True):=by
 intro enc w held fuel cs x h;cases fuel with
 |zero=>simp[DataW.trod] at h
 |succ m=>
  unfold DataW.trod at h;rw[ht] at h;split at h<;>simp_all
theorem AE {t:TypeId} (ht:P.underlying t=some .string):Row1 H P t (fun s:ByteArray=>[.string s]) (fun _ s=>s.size≤maxLen):=by
 intro enc w held fuel cs x h;obtain⟨s,rfl,_,hs⟩:=DataW.trod_string ht h;exact⟨s,rfl,hs⟩
theorem Row1.map {t:TypeId} {f:α→List Value} {p:World→α→Prop} (h:Row1 H P t f p) (g:α→β) {f':β→List Value} {p':World→β→Prop} (hf:∀a,f a=f' (g a)) (hp:∀w a,p w a→p' w (g a)):Row1 H P t f' p':=by
 intro enc w held fuel cs x hx;obtain⟨a,rfl,ha⟩:=h enc w held fuel cs x hx;exact⟨g a,hf a,hp w a ha⟩
def ue (H:Type) (P:Program) (fs:List Field) (off m:Nat) (g:α→List Value) (q:World→α→Prop):Prop:=
 ∀(enc:TypeId × Value→H) (w:World) (held:Bool) (n:Nat) (cs:List Value),
  (∀fl∈fs,∃y,DataW.trod enc P w 0 (fun _=>true) held n fl.type ((cs.drop fl.offset).take (P.cellsOf fl.type))=some y)→∃a,(cs.drop off).take m=g a∧q w a
theorem kQ (off:Nat):ue H P [] off 0 (fun _:Unit=>[]) (fun _ _=>True):=fun _ _ _ _ cs _=>⟨(),by simp,trivial⟩
theorem cu {fl:Field} {fs:List Field} {off k m:Nat} {f:α→List Value} {p:World→α→Prop} {g:β→List Value} {q:World→β→Prop}
 (h:Row1 H P fl.type f p) (ho:fl.offset=off) (hc:P.cellsOf fl.type=k) (hr:ue H P fs (off+k) m g q):
 ue H P (fl::fs) off (k+m) (fun ab:α × β=>f ab.1++g ab.2) (fun w ab=>p w ab.1∧q w ab.2):=by
 intro enc w held n cs bW;obtain⟨y,hy⟩:=bW fl (by simp);obtain⟨a,ha,pa⟩:=h _ _ _ _ _ _ hy;obtain⟨b,hb,qb⟩:=hr enc w held n cs (fun fl' h'=>bW fl' (by simp[h']));rw[ho,hc] at ha
 refine⟨(a,b),?_,pa,qb⟩
 show _=f a++g b;rw[←ha,←hb,List.take_add,List.drop_drop]
theorem jH {t:TypeId} {fs:List Field} {m:Nat} {g:α→List Value} {q:World→α→Prop} (ht:P.underlying t=some (.struct fs.toArray)) (hc:P.cellsOf t=m) (h:ue H P fs 0 m g q):Row1 H P t g q:=by
 intro enc w held fuel cs x hx;obtain⟨xs,n,_,_,hl,hlen,hg⟩:=DataW.trod_struct ht hx
 obtain⟨a,ha,qa⟩:=h enc w held n cs (fun fl Tn=>by
  obtain⟨i,hi⟩:=List.getElem?_of_mem Tn;have h1:=hg i fl (by simpa using hi)
  have eS:i<xs.length:=by
   rw[hlen];simpa using (List.getElem?_eq_some_iff.1 hi).1
  exact⟨xs[i],by rw[h1,List.getElem?_eq_getElem eS]⟩)
 refine⟨a,?_,qa⟩
 rw[←ha,List.drop_zero,List.take_of_length_le (by omega)]
theorem xx {e:TypeId} {k:Nat} {f:α→List Value} {p:World→α→Prop} (hi:Row1 H P e f p) (hc:P.cellsOf e=k) (hk:∀a,(f a).length=k) (enc:TypeId × Value→H) (W:World) (held:Bool) (a:Addr) (nn:Nat):
 ∀n:Nat,(∀i,i<n→∃qN D,W.cells? 0 (a.add (i*P.cellsOf e)) (P.cellsOf e)=some qN∧DataW.trod enc P W 0 (fun _=>true) held nn e qN=some D)→
  ∃l:List α,l.length=n∧(∀j u,(ao f l)[j]? =some u→W.cell? (a.add j)=some u)∧∀x∈l,p W x
 |0,_=>⟨[],rfl,fun j u h=>(by simp[ao] at h),fun x h=>(by cases h)⟩
 |n+1,h=>by
  obtain⟨l,hl,hq,hp⟩:=xx hi hc hk enc W held a nn n (fun i hi=>h i (by omega));obtain⟨qN,D,h1,h2⟩:=h n (by omega);obtain⟨x,rfl,hx⟩:=hi _ _ _ _ _ _ h2;rw[hc] at h1;obtain⟨_,hln,BY⟩:=World.cells?_some h1;have hlen:(ao f l).length=n*k:=by rw[cy f hk,hl]
  refine⟨l++[x],by simp[hl],fun j u hj=>?_,fun y hy=>?_⟩
  ·rw[bX] at hj;rcases Nat.lt_or_ge j (n*k) with eS|Pg
   ·rw[List.getElem?_append_left (by omega)] at hj;exact hq j u hj
   ·rw[List.getElem?_append_right (by omega),hlen] at hj;simp only[ao,List.append_nil] at hj
    have QU:j - n*k<k:=by
     rcases Nat.lt_or_ge (j - n*k) k with h3|h3
     ·exact h3
     ·rw[List.getElem?_eq_none (by rw[hk];exact h3)] at hj;cases hj
    have h4:=BY (j - n*k) QU;rw[hj,add_add,show n*k+(j - n*k)=j by omega] at h4;exact h4
  ·rcases List.mem_append.1 hy with hy|hy
   ·exact hp y hy
   ·obtain rfl:=List.mem_singleton.1 hy;exact hx
def Rt (k:Nat) (f:α→List Value) (p:World→α→Prop) (w:World) (s:Option Addr × Nat × Nat × List α):Prop:=
 s.2.2.1≤maxLen∧aS w w.heap.size k s.1 s.2.1 s.2.2.1 (ao f s.2.2.2)∧∀x∈s.2.2.2,p w x
def x7 (s:Option Addr × Nat × Nat × List α):List Value:=[.slice s.1 s.2.1 s.2.2.1]
theorem uH {t e:TypeId} {k:Nat} {f:α→List Value} {p:World→α→Prop} (hi:Row1 H P e f p) (ht:P.underlying t=some (.slice e)) (hc:P.cellsOf e=k) (hk:∀a,(f a).length=k) (h0:0<k):
 Row1 H P t (x7 (α:=α)) (Rt k f p):=by
 intro enc W held fuel cs x hf;rcases open_slice ht hf with⟨rfl,_⟩|⟨a,n,c,m,q,D,Pl,rfl,hb,hl,hm,hmm,hx,qJ⟩
 ·exact⟨(none,0,0,[]),rfl,Nat.zero_le _,⟨by simp[ao],fun _=>⟨rfl,rfl⟩,Nat.le_refl _,fun a ha=>(by cases ha),fun a ha=>(by cases ha)⟩,fun x hx=>(by cases hx)⟩
 ·have hmc:m=c:=by simpa using hmm
  clear hmm;subst m
  obtain⟨l,hlen,nA,hp⟩:=xx hi hc hk enc W held a q n (fun i him=>by
   obtain⟨qN,h1,h2⟩:=qJ i (by omega);exact⟨qN,_,h1,h2⟩)
  refine⟨(some a,n,c,l),rfl,hm,⟨by rw[cy f hk,hlen],fun e=>(by cases e),hl,fun a' ha hn=>?_,fun a' ha j u hu=>?_⟩,hp⟩
  ·obtain rfl:=Option.some.inj ha;have h0':0<(ao f l).length:=by rw[cy f hk,hlen];exact Nat.mul_pos hn h0
   have:=World.block_lt_of_cell? W _ (nA 0 _ (List.getElem?_eq_getElem h0'))
   simpa [Addr.add] using this
  ·obtain rfl:=Option.some.inj ha;exact nA j u hu
theorem sx {w W:World} {t:TypeId} {fs:Array Field} {f:α→List Value} {p:World→α→Prop} {r:Reach} {b0:Nat} {enc:TypeId × Value→H} {held:Bool} {v:Value} {d:DataW H} {ps:List MemPlace}
 (hi:Row1 H P t f p) (ht:P.underlying t=some (.struct fs)) (hv:Value.okWide P w r b0 t v) (hd:DataW.Trod enc P W 0 (fun _=>true) held t v d ps):
 ∃a,v=.agg (f a).toArray∧p W a:=by
 simp only[Value.okWide,ht] at hv;obtain⟨cs,rfl,_,_⟩:=hv;obtain⟨fuel,hf⟩:=hd;obtain⟨a,q,ha⟩:=hi _ _ _ _ _ _ hf
 refine⟨a,?_,ha⟩
 simp only[Value.cells] at q;rw[←q,Array.toArray_toList]
theorem tI {w W:World} {t e:TypeId} {k:Nat} {f:α→List Value} {p:World→α→Prop} {r:Reach} {b0:Nat} {enc:TypeId × Value→H} {held:Bool} {v:Value} {d:DataW H} {ps:List MemPlace}
 (hi:Row1 H P e f p) (ht:P.underlying t=some (.slice e)) (hc:P.cellsOf e=k) (hk:∀a,(f a).length=k) (h0:0<k)
 (hv:Value.okWide P w r b0 t v) (hd:DataW.Trod enc P W 0 (fun _=>true) held t v d ps):
 ∃s:Option Addr × Nat × Nat × List α,v=.slice s.1 s.2.1 s.2.2.1∧Rt k f p W s:=by
 obtain⟨A0,n0,c0,rfl⟩:=okWide_slice ht hv;obtain⟨fuel,hf⟩:=hd;obtain⟨s,q,hs⟩:=uH hi ht hc hk h0 _ _ _ _ _ _ hf
 refine⟨s,?_,hs⟩
 simpa [Value.cells,x7] using q
end
end
section
open Go.ChangeShapes Go.WideShapes Go.ChangeAt Go.RowKit Go.Deep
section
variable {H:Type} {P:JaE} {α β:Type}
def EU (H:Type) (P:JaE) (t:Υ) (f:α→List ψ) (p:ο→α→Prop):Prop:=
 ∀(enc:Υ × ψ→H) (w:ο) (held:Bool) (fuel:Nat) (cs:List ψ) (x:DataW H × List MemPlace),
  DataW.trod enc P w 0 (fun _=>τ) held fuel t cs=ζ x→(∀n∈x.1.weights P t,n≤reachBytes)→∃a,cs=f a∧p w a
theorem Row1.z {t:Υ} {f:α→List ψ} {p:ο→α→Prop} (h:Row1 H P t f p):EU H P t f p:=fun enc w held fuel cs x hx _=>h enc w held fuel cs x hx
theorem EU.map {t:Υ} {f:α→List ψ} {p:ο→α→Prop} (h:EU H P t f p) (g:α→β) {f':β→List ψ} {p':ο→β→Prop} (hf:∀a,f a=f' (g a)) (hp:∀w a,p w a→p' w (g a)):EU H P t f' p':=by
 intro enc w held fuel cs x hx hz;obtain⟨a,rfl,ha⟩:=h enc w held fuel cs x hx hz;exact⟨g a,hf a,hp w a ha⟩
end
end
theorem aV.small {A:Option Κ} {n c:Nat} {Vs:List VC} {B:Option Κ} {m k:Nat} {Es:List EC} {w:ο} (hf:aV Vs Es) (h:aO w A n c Vs B m k Es):n≤24∧m≤40∧∀x∈Vs,x.2.1.2.1≤80:=by
 have h1:=h.v.rlen aN (by decide);have h2:=h.e.rlen cM (by decide);have h3:=hf.v24;have h4:=hf.e40
 refine⟨by omega,by omega,fun x hx=>?_⟩
 have h5:=(h.r x hx).2.dlen;have h6:=hf.len
 have h7:x.2.1.2.2.2.length≤(aD Vs).length:=by
  clear h1 h2 h3 h4 h5 h6 h hf
  induction Vs with
  |nil=>cases hx
  |cons v r ih=>
   rw[iY,Ε];rcases Η.1 hx with rfl|hx
   ·omega
   ·have:=ih hx;omega
 omega
def Rm (R:List D):Nat→(D→Option D)→D→Option D
 |0,f=>f
 |k+1,f=>fun y=>if y=R.getD k (0,0,0) then ζ (R.getD ((k+1) % R.length) (0,0,0)) else Rm R k f y
def I8:List VC→(D→Option D)→D→Option D
 |[],f=>f
 |v::r,f=>I8 r (Rm v.2.1.2.2.2 v.2.1.2.2.2.length f)
def Ba (Vs:List VC):D→Option D:=I8 Vs (fun _=>ε)
end Go.Proofs.YtpdpbfmiahjiiaaGreat
