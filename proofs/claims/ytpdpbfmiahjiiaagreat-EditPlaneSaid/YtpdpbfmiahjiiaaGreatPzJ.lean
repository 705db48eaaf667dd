/- Several texts in one. -/
import Derived.Test.YtpdpbfmiahjiiaaGreatPzA
import Derived.Test.YtpdpbfmiahjiiaaGreatPzG
import Derived.Test.YtpdpbfmiahjiiaaGreatPzI
set_option linter.unusedSectionVars false
set_option linter.unusedSimpArgs false
set_option linter.unusedVariables false
set_option maxRecDepth 100000
set_option maxHeartbeats 16000000
namespace Go.Proofs.YtpdpbfmiahjiiaaGreat
open Go.RowKit
open _root_.Go.Value renaming slice→γ,string→μ,pointer→υ,agg→φ,bool→Β,tuple→Ξ,oneCell'→Τ
open _root_.Go.Obj renaming cells→δ
open _root_.Option renaming none→ε,some→ζ,some→Jae
open _root_.Go.Proofs.Tryz renaming prog→η
open _root_.List renaming getElem?_eq_getElem→θ,map_cons→ι,getElem?_eq_some_iff→ν,map_nil→π,mem_of_getElem?→ω,mem_map→Α,mem_cons→Η,take_of_length_le→Ι,length_map→Ρ,getElem?_map→Ψ,getElem?_cons_succ→Jag,getElem?_cons_zero→Jah,getElem?_toArray→Jaj,drop_of_length_le→Jak,getElem?_append_right→Jal,length_take→JaA,getElem?_drop→JaS,not_mem_nil→Jbh,append_nil→Jbi,getElem?_set→Jbz
open _root_.Go.Act renaming put→ξ
open _root_.Go renaming World→ο,Value→ψ,Calls→Ζ,Addr→Κ,wp_region_lit→Jam
open _root_.Bool renaming false→ρ,true→τ
open _root_.Go.RowKit renaming Below→σ
open _root_.Nat renaming le_refl→Δ,le_trans→Λ,add_zero→Jac,zero_add→JaI,sub_self→JaP
open _root_.Go.RowKit.Below renaming refl→Θ
open _root_.Option.some renaming inj→Μ
open _root_.Go.Addr renaming add_lit→Ν
open _root_.ByteArray renaming empty→Jaf
open _root_.And renaming intro→Jax
open _root_.Exists renaming intro→JaG
open _root_.Prod.mk renaming injEq→Jba
open _root_.Int renaming tdiv_eq_ediv_of_nonneg→Jbp
theorem wH {V X:List VS} {F:List D→List D} {j:Nat} {v:VS} (hX:X=rings (V.take j) F++V.drop j) (hv:X[j]? =ζ v) (hj:j<V.length):X.set j (tN v (F v.2.1))=rings (V.take (j+1)) F++V.drop (j+1):=by
 have hl:(rings (V.take j) F).length=j:=by unfold rings;rw[Ρ,JaA];omega
 have hd:V.drop j=V[j]::V.drop (j+1):=List.drop_eq_getElem_cons hj
 have ev:v=V[j]:=by
  rw[hX,Jal (by omega),hl,JaP,hd] at hv;exact(Μ hv).symm
 rw[hX,List.set_append_right _ _ (by omega),hl,JaP,hd,List.set_cons_zero,ev,List.take_succ_eq_append_getElem hj];unfold rings;rw[List.map_append,List.append_assoc];rfl
section
variable {w W:ο} {lo g:Nat} {A:Option Κ} {n c:Nat} {Vs:List VC} {B:Option Κ} {m k:Nat} {Es:List EC} {C:Option Κ} {r rc:Nat} {G:List Gn}
theorem vP (h:bK w lo g A n c Vs B m k Es C r rc G W) (hn:n≤1000) (fy:∀x∈Vs,x.2.1.2.1≤1000) (f:Nat) (p:Option Κ) (F:List D→List D) (P:ο→Prop) (hP:P W) (KI:∀X Y,P X→aJ g X Y→P Y) (he:M8 f) (hF:∀X A n c L,P X→bg X X.heap.size 3 A n c (aA L)→n≤1000→Ζ η f #[γ A n c,.pointer p] X (jx X (F L))):
 Ζ η 121 #[υ (ζ ⟨g,0,ε⟩),.func (.func f) #[] #[.pointer p]] W fun e w'=>e=.returned (Ξ #[])∧∃Us,bK w lo g A n c Us B m k Es C r rc G w'∧Us.map vS=rings (Vs.map vS) F∧aJ g W w':=by
 have H:=qh h;have Hup:=qh KI;have HF:=qh hF;have HP:=qh hP;have Hl:=qh h.vlen;have BG:=qh fy;have c0:=h.s.cell (i:=0) rfl;clear h KI hF hP fy;go_enter Tryz.func121,Tryz.ntmps121;go_wp2;clear c0;go_loopw [12] (fun i wr=>∃(j:Nat) (Us:List VC),j≤n∧i=J (j:Int)∧Hid (bK w lo g A n c Us B m k Es C r rc G wr)∧Hid (Us.map vS=rings ((Vs.map vS).take j) F++(Vs.map vS).drop j)∧Hid (aJ g W wr)) (fun i _=>n - (intOf i).toNat)
 case atStart=>exact⟨0,Vs,Nat.zero_le _,rfl,H,qh (by simp[rings]),qh (aJ.refl g W)⟩
 case round=>
  obtain⟨j,Us,hj,rfl,HS,HU,HK⟩:=hrel;obtain⟨wo,cS⟩:=aB wr;rw[cS] at HS HK ⊢;clear cS
  by_cases dz:j<n
  ·have hUl:Us.length=n:=HS.out.vlen;obtain⟨u,hu⟩:∃u,Us[j]? =ζ u:=⟨_,θ (by omega)⟩
   obtain⟨b,junk,rfl,fw,-⟩:=cN HS.out.v (by omega)
   have Hj:Hid ((Vs.map vS)[j]? =ζ (vS u)):=qh (by
    have h1:(Us.map vS)[j]? =ζ (vS u):=by rw[Ψ,hu];rfl
    have hl:(rings ((Vs.map vS).take j) F).length=j:=by unfold rings;rw[Ρ,JaA,Ρ,Hl.out];omega
    rw[HU.out,Jal (by omega),hl,JaP,JaS,Jac] at h1;exact h1)
   have FM:u.2.1.2.1≤1000:=by
    have h1:=Hj.out;rw[Ψ] at h1;obtain⟨v0,h2,h3⟩:=Option.map_eq_some_iff.1 h1;have h4:=BG.out v0 (ω h2);have h5:=(H.out.rg v0 (ω h2)).2.1.dlen;have h6:=(HS.out.rg u (ω hu)).2.1.dlen;have h7:v0.2.1.2.2.2.length=u.2.1.2.2.2.length:=congrArg (fun z:VS=>z.2.1.length) h3;omega
   obtain⟨b2,off,e2,aY,a8⟩:=(aK HS.out.v).place aS (by decide) (by omega)
   have e3:b2=b∧off=0:=by
    injection e2 with e2
    injection e2 with e4 e5
    exact⟨e4.symm,e5.symm⟩
   obtain⟨rfl,rfl⟩:=e3;have hp:=a8 j u hu;have HV:=qh hu;have RG:(j:Int)<(n:Int):=by omega
   have ec:=HS.out.rg u (ω hu);clear a8 e2 hu aY fw hUl;obtain⟨⟨i1,i2⟩,⟨rA,rn,jg,rL⟩,lb,at_⟩:=u;have sw:Hid (ko wo (rA,rn,jg,rL)):=qh ec;have FM:rn≤1000:=FM;have l0:=hp 0 _ rfl;have l1:=hp 1 _ rfl;have l2:=hp 2 _ rfl;have l3:=hp 3 _ rfl;have l4:=hp 4 _ rfl;simp only[Ν,Jac,JaI] at l0 l1 l2 l3 l4;clear hp ec;go_upto_region 3 with fail
   have cB:=qh (HS.out.al (δ #[J i1,J i2,γ rA rn jg,μ lb,J at_] 59));have aL:Hid (Whole (wo.alloc (δ #[J i1,J i2,γ rA rn jg,μ lb,J at_] 59)) wo.heap.size 59 [J i1,J i2,γ rA rn jg,μ lb,J at_]):=qh (Whole.new_ _ _ _);have oM:=qh (HK.out.trans (aJ.of_below (az wo (δ #[J i1,J i2,γ rA rn jg,μ lb,J at_] 59))));have lR:=qh (sw.out.bl (az wo (δ #[J i1,J i2,γ rA rn jg,μ lb,J at_] 59)));obtain⟨W1,aV⟩:=aB (wo.alloc (δ #[J i1,J i2,γ rA rn jg,μ lb,J at_] 59));obtain⟨b5,FU⟩:=aB wo.heap.size;rw[aV] at cB aL oM lR ⊢;rw[FU] at aL ⊢;clear aV FU l0 l1 l2 l3 l4 HS HK sw;have fL:∀w',Kept aO W1.drew w'→w'.cell? ⟨g,0,ε⟩=ζ (γ (ζ ⟨b2,0,ε⟩) n c):=fun w' h=>h.nil_cell (cB.out.dr.s.cell (i:=0) rfl)
   have ld1:=cm (i:=2) aL.out rfl;refine cI (aO) [12] (by kernel_rfl) ?_;refine aU 0 ?_;refine aU 1 ?_;refine aU 2 ?_;refine aU 3 ?_;refine aU 4 ?_;refine aU 5 ?_;refine aU 6 ?_;refine aU 7 ?_;refine aU 8 ?_;apply vR 9 (ζ 26)
   ·rfl
   ·rfl
   ·kernel_rfl
   ·rfl
   ·intro w';go_simp;first|done|exact⟨rfl,rfl⟩|exact he _ _|with_reducible rfl
   intro w' aC
   refine(HF.out w' rA rn jg rL (Hup.out W _ HP.out (oM.out.trans ((aJ.of_below ((Θ _ W1).drew.trans (aC.mono (Δ _))))))) (lR.out.bl (((Θ _ W1).drew.trans (aC.mono (Δ _))))).2.1 FM).mono ?_
   rintro e w9 ⟨A9,c9,rfl,M6,sZ⟩
   refine⟨_,rfl,Kept.of_below sZ,?_⟩
   obtain⟨L9,LD⟩:=aB (F rL);rw[LD] at M6 ⊢;have XS:=qh LD;have fe:=qh ((cB.out.dr.bl aC).bl sZ);have km:=qh (oM.out.trans ((aJ.of_below ((Θ _ W1).drew.trans (aC.mono (Δ _)))).trans (aJ.of_below sZ)));have rK:=qh M6;obtain⟨N9,Si⟩:=aB L9.length;rw[Si] at rK ⊢;clear aC sZ M6 LD Si fL ld1 cB aL oM lR;simp only[ξ,aw,ar,aq];refine lM 10 ?_;intro w' aC;apply JaG;apply JaG;apply Jax
   ·go_simp;first|done|exact⟨rfl,rfl⟩|exact rfl
   apply Jax
   ·exact Kept.refl _ _
   have wW:=aC;clear aC;simp only[ξ,aw,ar,aq];refine aU 11 ?_;refine qu 12 ?_;intro w' aC;replace aC:=Ext.trans wW aC;clear wW;have hV:=HV.out;obtain⟨b9,Xy,e9,-,-,EU,PT,iS,ff⟩:=(fe.out.bl aC).cellV (v':=((i1,i2),(A9,N9,c9,L9),lb,at_)) (j:=2) (u:=γ A9 N9 c9) hV (by decide) rfl (.inr (rK.out.bl aC))
   obtain rfl:b2=b9:=by
    injection e9 with e9
    injection e9
   have EU:w'.cell? ⟨b2,j*5+2,ε⟩=ζ (γ rA rn jg):=EU;have nX:=qh iS;have oA:=qh (km.out.trans ((aJ.of_below aC).trans ff));clear iS ff e9
   refine⟨w'.setCell ⟨b2,j*5+2,ε⟩ (γ A9 N9 c9),by(go_simp;first|done|exact rfl|exact⟨rfl,rfl⟩),?_⟩
   clear EU PT hV;obtain⟨W7,tr⟩:=aB (w'.setCell ⟨b2,j*5+2,ε⟩ (γ A9 N9 c9));rw[tr] at nX oA ⊢;clear tr aC fe km;(try simp only[ξ,aw,ar,aq]);refine gG (by kernel_rfl) ?_ _;intro w8 cg;have kj:=qh (nX.out.bl cg);have mc:=qh (oA.out.trans (aJ.of_below cg))
   have Oo:Hid ((Us.set j ((i1,i2),(A9,N9,c9,L9),lb,at_)).map vS=rings ((Vs.map vS).take (j+1)) F++(Vs.map vS).drop (j+1)):=qh (by
    rw[List.map_set];have h1:(Us.map vS)[j]? =ζ (vS ((i1,i2),(rA,rn,jg,rL),lb,at_)):=by rw[Ψ,HV.out];rfl
    have:=wH (F:=F) HU.out h1 (by rw[Ρ,Hl.out];exact dz)
    rw[←this,←XS.out];rfl)
   clear cg nX oA HU;go_wp2;go_roundw
   case rel=>exact⟨j+1,_,by omega,by go_num,kj,Oo,mc⟩
   case measure=>simp[intOf];omega
  ·obtain rfl:j=n:=by omega
   have Kx:¬(j:Int)<(j:Int):=by omega
   have Oo:Hid (Us.map vS=rings (Vs.map vS) F):=qh (by
    have h1:=HU.out;rw[Ι (by rw[Ρ,Hl.out];exact Δ _),Jak (by rw[Ρ,Hl.out];exact Δ _),Jbi] at h1;exact h1)
   go_wp2;go_end0;exact⟨rfl,Us,HS.out,Oo.out,HK.out⟩
theorem vE (h:bK w lo g A n c Vs B m k Es C r rc G W) (hn:n≤1000) (fy:∀x∈Vs,x.2.1.2.1≤1000) (f:Nat) (p q:Option Κ) (F:List D→List D) (P:ο→Prop) (hP:P W) (KI:∀X Y,P X→aJ g X Y→P Y) (he:M8 f) (hF:∀X A n c L,P X→bg X X.heap.size 3 A n c (aA L)→n≤1000→Ζ η f #[γ A n c,.pointer p,.pointer q] X (jx X (F L))):
 Ζ η 121 #[υ (ζ ⟨g,0,ε⟩),.func (.func f) #[] #[.pointer p,.pointer q]] W fun e w'=>e=.returned (Ξ #[])∧∃Us,bK w lo g A n c Us B m k Es C r rc G w'∧Us.map vS=rings (Vs.map vS) F∧aJ g W w':=by
 have H:=qh h;have Hup:=qh KI;have HF:=qh hF;have HP:=qh hP;have Hl:=qh h.vlen;have BG:=qh fy;have c0:=h.s.cell (i:=0) rfl;clear h KI hF hP fy;go_enter Tryz.func121,Tryz.ntmps121;go_wp2;clear c0;go_loopw [12] (fun i wr=>∃(j:Nat) (Us:List VC),j≤n∧i=J (j:Int)∧Hid (bK w lo g A n c Us B m k Es C r rc G wr)∧Hid (Us.map vS=rings ((Vs.map vS).take j) F++(Vs.map vS).drop j)∧Hid (aJ g W wr)) (fun i _=>n - (intOf i).toNat)
 case atStart=>exact⟨0,Vs,Nat.zero_le _,rfl,H,qh (by simp[rings]),qh (aJ.refl g W)⟩
 case round=>
  obtain⟨j,Us,hj,rfl,HS,HU,HK⟩:=hrel;obtain⟨wo,cS⟩:=aB wr;rw[cS] at HS HK ⊢;clear cS
  by_cases dz:j<n
  ·have hUl:Us.length=n:=HS.out.vlen;obtain⟨u,hu⟩:∃u,Us[j]? =ζ u:=⟨_,θ (by omega)⟩
   obtain⟨b,junk,rfl,fw,-⟩:=cN HS.out.v (by omega)
   have Hj:Hid ((Vs.map vS)[j]? =ζ (vS u)):=qh (by
    have h1:(Us.map vS)[j]? =ζ (vS u):=by rw[Ψ,hu];rfl
    have hl:(rings ((Vs.map vS).take j) F).length=j:=by unfold rings;rw[Ρ,JaA,Ρ,Hl.out];omega
    rw[HU.out,Jal (by omega),hl,JaP,JaS,Jac] at h1;exact h1)
   have FM:u.2.1.2.1≤1000:=by
    have h1:=Hj.out;rw[Ψ] at h1;obtain⟨v0,h2,h3⟩:=Option.map_eq_some_iff.1 h1;have h4:=BG.out v0 (ω h2);have h5:=(H.out.rg v0 (ω h2)).2.1.dlen;have h6:=(HS.out.rg u (ω hu)).2.1.dlen;have h7:v0.2.1.2.2.2.length=u.2.1.2.2.2.length:=congrArg (fun z:VS=>z.2.1.length) h3;omega
   obtain⟨b2,off,e2,aY,a8⟩:=(aK HS.out.v).place aS (by decide) (by omega)
   have e3:b2=b∧off=0:=by
    injection e2 with e2
    injection e2 with e4 e5
    exact⟨e4.symm,e5.symm⟩
   obtain⟨rfl,rfl⟩:=e3;have hp:=a8 j u hu;have HV:=qh hu;have RG:(j:Int)<(n:Int):=by omega
   have ec:=HS.out.rg u (ω hu);clear a8 e2 hu aY fw hUl;obtain⟨⟨i1,i2⟩,⟨rA,rn,jg,rL⟩,lb,at_⟩:=u;have sw:Hid (ko wo (rA,rn,jg,rL)):=qh ec;have FM:rn≤1000:=FM;have l0:=hp 0 _ rfl;have l1:=hp 1 _ rfl;have l2:=hp 2 _ rfl;have l3:=hp 3 _ rfl;have l4:=hp 4 _ rfl;simp only[Ν,Jac,JaI] at l0 l1 l2 l3 l4;clear hp ec;go_upto_region 3 with fail
   have cB:=qh (HS.out.al (δ #[J i1,J i2,γ rA rn jg,μ lb,J at_] 59));have aL:Hid (Whole (wo.alloc (δ #[J i1,J i2,γ rA rn jg,μ lb,J at_] 59)) wo.heap.size 59 [J i1,J i2,γ rA rn jg,μ lb,J at_]):=qh (Whole.new_ _ _ _);have oM:=qh (HK.out.trans (aJ.of_below (az wo (δ #[J i1,J i2,γ rA rn jg,μ lb,J at_] 59))));have lR:=qh (sw.out.bl (az wo (δ #[J i1,J i2,γ rA rn jg,μ lb,J at_] 59)));obtain⟨W1,aV⟩:=aB (wo.alloc (δ #[J i1,J i2,γ rA rn jg,μ lb,J at_] 59));obtain⟨b5,FU⟩:=aB wo.heap.size;rw[aV] at cB aL oM lR ⊢;rw[FU] at aL ⊢;clear aV FU l0 l1 l2 l3 l4 HS HK sw;have fL:∀w',Kept aO W1.drew w'→w'.cell? ⟨g,0,ε⟩=ζ (γ (ζ ⟨b2,0,ε⟩) n c):=fun w' h=>h.nil_cell (cB.out.dr.s.cell (i:=0) rfl)
   have ld1:=cm (i:=2) aL.out rfl;refine cI (aO) [12] (by kernel_rfl) ?_;refine aU 0 ?_;refine aU 1 ?_;refine aU 2 ?_;refine aU 3 ?_;refine aU 4 ?_;refine aU 5 ?_;refine aU 6 ?_;refine aU 7 ?_;refine aU 8 ?_;apply vR 9 (ζ 26)
   ·rfl
   ·rfl
   ·kernel_rfl
   ·rfl
   ·intro w';go_simp;first|done|exact⟨rfl,rfl⟩|exact he _ _|with_reducible rfl
   intro w' aC
   refine(HF.out w' rA rn jg rL (Hup.out W _ HP.out (oM.out.trans ((aJ.of_below ((Θ _ W1).drew.trans (aC.mono (Δ _))))))) (lR.out.bl (((Θ _ W1).drew.trans (aC.mono (Δ _))))).2.1 FM).mono ?_
   rintro e w9 ⟨A9,c9,rfl,M6,sZ⟩
   refine⟨_,rfl,Kept.of_below sZ,?_⟩
   obtain⟨L9,LD⟩:=aB (F rL);rw[LD] at M6 ⊢;have XS:=qh LD;have fe:=qh ((cB.out.dr.bl aC).bl sZ);have km:=qh (oM.out.trans ((aJ.of_below ((Θ _ W1).drew.trans (aC.mono (Δ _)))).trans (aJ.of_below sZ)));have rK:=qh M6;obtain⟨N9,Si⟩:=aB L9.length;rw[Si] at rK ⊢;clear aC sZ M6 LD Si fL ld1 cB aL oM lR;simp only[ξ,aw,ar,aq];refine lM 10 ?_;intro w' aC;apply JaG;apply JaG;apply Jax
   ·go_simp;first|done|exact⟨rfl,rfl⟩|exact rfl
   apply Jax
   ·exact Kept.refl _ _
   have wW:=aC;clear aC;simp only[ξ,aw,ar,aq];refine aU 11 ?_;refine qu 12 ?_;intro w' aC;replace aC:=Ext.trans wW aC;clear wW;have hV:=HV.out;obtain⟨b9,Xy,e9,-,-,EU,PT,iS,ff⟩:=(fe.out.bl aC).cellV (v':=((i1,i2),(A9,N9,c9,L9),lb,at_)) (j:=2) (u:=γ A9 N9 c9) hV (by decide) rfl (.inr (rK.out.bl aC))
   obtain rfl:b2=b9:=by
    injection e9 with e9
    injection e9
   have EU:w'.cell? ⟨b2,j*5+2,ε⟩=ζ (γ rA rn jg):=EU;have nX:=qh iS;have oA:=qh (km.out.trans ((aJ.of_below aC).trans ff));clear iS ff e9
   refine⟨w'.setCell ⟨b2,j*5+2,ε⟩ (γ A9 N9 c9),by(go_simp;first|done|exact rfl|exact⟨rfl,rfl⟩),?_⟩
   clear EU PT hV;obtain⟨W7,tr⟩:=aB (w'.setCell ⟨b2,j*5+2,ε⟩ (γ A9 N9 c9));rw[tr] at nX oA ⊢;clear tr aC fe km;(try simp only[ξ,aw,ar,aq]);refine gG (by kernel_rfl) ?_ _;intro w8 cg;have kj:=qh (nX.out.bl cg);have mc:=qh (oA.out.trans (aJ.of_below cg))
   have Oo:Hid ((Us.set j ((i1,i2),(A9,N9,c9,L9),lb,at_)).map vS=rings ((Vs.map vS).take (j+1)) F++(Vs.map vS).drop (j+1)):=qh (by
    rw[List.map_set];have h1:(Us.map vS)[j]? =ζ (vS ((i1,i2),(rA,rn,jg,rL),lb,at_)):=by rw[Ψ,HV.out];rfl
    have:=wH (F:=F) HU.out h1 (by rw[Ρ,Hl.out];exact dz)
    rw[←this,←XS.out];rfl)
   clear cg nX oA HU;go_wp2;go_roundw
   case rel=>exact⟨j+1,_,by omega,by go_num,kj,Oo,mc⟩
   case measure=>simp[intOf];omega
  ·obtain rfl:j=n:=by omega
   have Kx:¬(j:Int)<(j:Int):=by omega
   have Oo:Hid (Us.map vS=rings (Vs.map vS) F):=qh (by
    have h1:=HU.out;rw[Ι (by rw[Ρ,Hl.out];exact Δ _),Jak (by rw[Ρ,Hl.out];exact Δ _),Jbi] at h1;exact h1)
   go_wp2;go_end0;exact⟨rfl,Us,HS.out,Oo.out,HK.out⟩
end
def tc (Ps:List (ψ→ο→Prop)) (i:Nat) (v:ψ) (W:ο):Prop:=match Ps[i]? with
 |some P=>P v W
 |none=>True
theorem jH {Ps:List (ψ→ο→Prop)} (h:∀P∈Ps,∀v w w',P v w→Ext w w'→P v w') (i:Nat) (v:ψ) (w w':ο) (hg:tc Ps i v w) (hx:Ext w w'):tc Ps i v w':=by
 unfold tc at hg ⊢;split at hg
 ·rename_i P e;exact h P (ω e) v w w' hg hx
 ·rename_i e;trivial
theorem R1 {a b:ο} (h:Kept aO a b):σ a.heap.size a b:=h.below (Δ _) (fun _ _ e=>e)
theorem ko.row {W:ο} {r:Rg} {g:Nat} {T:TypeId} {cs:List ψ} (h:ko W r) (hs:Whole W g T cs) (hT:32≠T) (qy:Array ψ):ko (W.setRow g qy) r:=by
 have bj:∀a,r.1=ζ a→a.block≠g:=fun a ha=>by
  obtain⟨cs,hw⟩:=h.2.2 a ha;exact hw.ne_ hs hT
 exact⟨h.1,h.2.1.row_far (fun a ha _ e=>bj a ha (Μ e)) _,fun a ha=>(h.2.2 a ha).imp fun cs hc=>hc.row_far (bj a ha) _⟩
section
variable {w W:ο} {lo g:Nat} {A:Option Κ} {n c:Nat} {Vs:List VC} {B:Option Κ} {m k:Nat} {Es:List EC} {C:Option Κ} {r rc:Nat} {G:List Gn}
theorem sN (h:bK w lo g A n c Vs B m k Es C r rc G W) (hn:n≤1000) (i:Nat) (u:VC) (hu:Vs[i]? =ζ u) (fy:u.2.1.2.1≤1000) (y:Nm × D) (x:D) (hid:dX (fun v:VC=>v.1) Vs y.1=(i:Int)):
 Ζ η 117 #[υ (ζ ⟨g,0,ε⟩),φ #[J y.1.1,J y.1.2,J y.2.1,J y.2.2.1,J y.2.2.2],φ #[J x.1,J x.2.1,J x.2.2]] W fun e w'=>e=.returned (Ξ #[])∧∃A9 N9 c9,bK w lo g A n c (Vs.set i (u.1,(A9,N9,c9,aM (ja u.2.1.2.2.2 y.2 x)),u.2.2)) B m k Es C r rc G w'∧aJ g W w':=by
 have hi:i<n:=by rw[←h.vlen];exact(ν.1 hu).1
 obtain⟨b,junk,rfl,-⟩:=cN h.v (by omega);have HV:Hid (∀X,bK w lo g (ζ ⟨b,0,ε⟩) n c Vs B m k Es C r rc G X→Ζ η 110 #[υ (ζ ⟨g,0,ε⟩),φ #[J y.1.1,J y.1.2]] X fun e w'=>e=.returned (J (i:Int))∧σ X.heap.size X w'):=qh (fun X hX=>by rw[←hid];exact fB g (ζ ⟨b,0,ε⟩) n c B m k C r rc y.1.1 y.1.2 Vs X hX.s (aK hX.v) (by omega));have fp:=aI (az W (δ #[J y.1.1,J y.1.2,J y.2.1,J y.2.2.1,J y.2.2.2] 34)) (δ #[J x.1,J x.2.1,J x.2.2] 32);have H0:=qh (h.up fp);have bw:=qh fp;have HU:=qh hu;have aQ:Hid (Whole ((W.alloc (δ #[J y.1.1,J y.1.2,J y.2.1,J y.2.2.1,J y.2.2.2] 34)).alloc (δ #[J x.1,J x.2.1,J x.2.2] 32)) W.heap.size 34 [J y.1.1,J y.1.2,J y.2.1,J y.2.2.1,J y.2.2.2]):=qh ((Whole.new_ _ _ [_,_,_,_,_]).al _);have fk:Hid (Whole ((W.alloc (δ #[J y.1.1,J y.1.2,J y.2.1,J y.2.2.1,J y.2.2.2] 34)).alloc (δ #[J x.1,J x.2.1,J x.2.2] 32)) (W.heap.size+1) 32 [J x.1,J x.2.1,J x.2.2]):=qh (Whole.new2 (by simp));obtain⟨b9,off,e9,aY,a8⟩:=(aK (h.up fp).v).place aS (by decide) (by omega)
 have e3:b9=b∧off=0:=by
  injection e9 with e9
  injection e9 with e4 e5
  exact⟨e4.symm,e5.symm⟩
 obtain⟨rfl,rfl⟩:=e3;have ob:=a8 i u hu 2 _ rfl;simp only[Ν,JaI] at ob;have D7:=qh ((h.rg u (ω hu)).bl fp);have hiI:(i:Int)<(n:Int):=by omega
 obtain⟨⟨i1,i2⟩,⟨rA,rn,jg,rL⟩,lb,at_⟩:=u;have fy:rn≤1000:=fy;have ob:((W.alloc (δ #[J y.1.1,J y.1.2,J y.2.1,J y.2.2.1,J y.2.2.2] 34)).alloc (δ #[J x.1,J x.2.1,J x.2.2] 32)).cell? ⟨b9,i*5+2,ε⟩=ζ (γ rA rn jg):=ob;have qW:=qh ob;clear h fp hu a8 ob e9 aY hid;go_enter Tryz.func117,Tryz.ntmps117;go_upto_region 1 with fail
 obtain⟨W0,bO⟩:=aB ((W.alloc (δ #[J y.1.1,J y.1.2,J y.2.1,J y.2.2.1,J y.2.2.2] 34)).alloc (δ #[J x.1,J x.2.1,J x.2.2] 32));obtain⟨b1,dE⟩:=aB (W.heap.size+1);obtain⟨b0,bp⟩:=aB W.heap.size;rw[bO] at H0 aQ fk bw D7 qW ⊢;rw[dE] at fk ⊢;rw[bp] at aQ ⊢;clear bO bp dE;have fL:∀w',Kept aO W0.drew w'→w'.cell? ⟨g,0,ε⟩=ζ (γ (ζ ⟨b9,0,ε⟩) n c):=fun w' h=>h.nil_cell (H0.out.dr.s.cell (i:=0) rfl)
 have p0:=cm (i:=0) aQ.out rfl;have p1:=cm (i:=1) aQ.out rfl;refine ay (aO) (by kernel_rfl) ?_;refine aa 0 ?_;refine aa 1 ?_;refine aa 2 ?_;refine aa 3 ?_;refine aa 4 ?_;refine aa 5 ?_;refine aa 6 ?_;refine aa 7 ?_;refine cV 8 (hy:=by apply bP;rfl;rotate_left;intro w' aC;exact HV.out w' (H0.out.dr.bl (R1 aC));intro w';go_simp) (h:=?_);refine aa 9 ?_;refine aa 10 ?_;refine aF (by kernel_rfl) ?_ _;intro w3 du;have RJ:Hid (w3.cell? ⟨b9,i*5+2,ε⟩=ζ (γ rA rn jg)):=qh ((Kept.of_below (S:=aO) du).nil_cell (show W0.drew.cell? _=_ from qW.out));have H3:=qh (H0.out.dr.bl du);have cF:=qh (aQ.out.dr.bl du);have nK:=qh (fk.out.dr.bl du);have o8:=qh (D7.out.bl ((Θ _ W0).drew.trans (du.mono (Δ _))));have bB:=qh (ag (aN bw.out) du);clear du H0 aQ fk D7 bw qW fL p0 p1;go_upto_region 2 with fail
 have fL:∀w',Kept aO w3.drew w'→w'.cell? ⟨b9,i*5+2,ε⟩=ζ (γ rA rn jg):=fun w' h=>h.nil_cell (show w3.drew.cell? _=_ from RJ.out)
 have p0:=cm (i:=2) cF.out rfl;have q0:=cm (i:=0) nK.out rfl;have p1:=cm (i:=3) cF.out rfl;have q1:=cm (i:=1) nK.out rfl;have p2:=cm (i:=4) cF.out rfl;have q2:=cm (i:=2) nK.out rfl;refine cI (aO) [11] (by kernel_rfl) ?_;refine aU 0 ?_;refine aU 1 ?_;refine aU 2 ?_;refine aU 3 ?_;refine aU 4 ?_;refine aU 5 ?_;refine aU 6 ?_;refine aU 7 ?_;refine CR 8 ?_;intro w' aC
 refine(Ap rA rn jg rL y.2 x w' (o8.out.bl ((Θ _ w3).drew.trans (aC.mono (Δ _)))).2.1 (by omega)).mono ?_
 rintro e w9 ⟨A9,c9,rfl,M6,sZ⟩
 refine⟨_,rfl,Kept.of_below sZ,?_⟩
 obtain⟨L9,LD⟩:=aB (aM (ja rL y.2 x));rw[LD] at M6 ⊢;have XS:=qh LD;have fe:=qh ((H3.out.dr.bl aC).bl sZ);have oC:=qh (ag (ag (aN bB.out) aC) sZ);have rK:=qh M6;obtain⟨N9,Si⟩:=aB L9.length;rw[Si] at rK ⊢;clear aC sZ M6 LD Si fL p0 p1 p2 q0 q1 q2 H3 cF nK o8 bB RJ;simp only[ξ,aw,ar,aq];refine lM 9 ?_;intro w' aC;apply JaG;apply JaG;apply Jax
 ·go_simp;first|done|exact⟨rfl,rfl⟩|exact rfl
 apply Jax
 ·exact Kept.refl _ _
 have Mi:=aC;clear aC;simp only[ξ,aw,ar,aq];refine aU 10 ?_;refine qu 11 ?_;intro w' aC;replace aC:=Ext.trans Mi aC;clear Mi;have hV:=HU.out;obtain⟨b8,Xy,e9,-,-,EU,PT,iS,ff⟩:=(fe.out.bl aC).cellV (v':=((i1,i2),(A9,N9,c9,L9),lb,at_)) (j:=2) (u:=γ A9 N9 c9) hV (by decide) rfl (.inr (rK.out.bl aC))
 obtain rfl:b9=b8:=by
  injection e9 with e9
  injection e9
 have EU:w'.cell? ⟨b9,i*5+2,ε⟩=ζ (γ rA rn jg):=EU;have nX:=qh iS;have oA:=qh ((aJ.of_below (ag oC.out aC)).trans ff);clear iS ff e9
 refine⟨w'.setCell ⟨b9,i*5+2,ε⟩ (γ A9 N9 c9),by(go_simp;first|done|exact rfl|exact⟨rfl,rfl⟩),?_⟩
 clear EU PT hV;obtain⟨W7,tr⟩:=aB (w'.setCell ⟨b9,i*5+2,ε⟩ (γ A9 N9 c9));rw[tr] at nX oA ⊢;clear tr aC fe oC;(try simp only[ξ,aw,ar,aq]);refine gG (by kernel_rfl) ?_ _;intro w8 cg;have kj:=qh (nX.out.bl cg);have mc:=qh (oA.out.trans (aJ.of_below cg));clear cg nX oA;go_wp2;go_end0;exact⟨rfl,by first|exact⟨A9,N9,c9,by rw[XS.out];exact kj.out,mc.out⟩|exact⟨⟨A9,N9,c9,by rw[XS.out];exact kj.out⟩,mc.out⟩⟩
end
section
variable {w W:ο} {lo g:Nat} {A:Option Κ} {n c:Nat} {Vs:List VC} {B:Option Κ} {m k:Nat} {Es:List EC} {C:Option Κ} {r rc:Nat} {G:List Gn}
theorem yy (h:bK w lo g A n c Vs B m k Es C r rc G W) (hn:n≤1000) (fy:∀v∈Vs,v.2.1.2.1≤1000) (x:D):
 Ζ η 120 #[υ (ζ ⟨g,0,ε⟩),φ #[J x.1,J x.2.1,J x.2.2]] W fun e w'=>e=.returned (φ #[J (kW (Vs.map vS) x).1,J (kW (Vs.map vS) x).2.1,J (kW (Vs.map vS) x).2.2])∧σ W.heap.size W w':=by
 have xT:∀v∈Vs,v.2.1.2.1≤1000000:=fun v hv=>by have:=fy v hv;omega
 obtain⟨a,ga⟩:=aB (D4 (Vs.map vS) x);obtain⟨Mm,ZM⟩:=aB (bX (Vs.map vS) x)
 have HA:Hid (∀X,bK w lo g A n c Vs B m k Es C r rc G X→Ζ η 151 #[φ #[γ A n c,γ B m k],φ #[J x.1,J x.2.1,J x.2.2]] X fun e w'=>e=.returned (Ξ #[φ #[J a.1,J a.2],Β Mm])∧σ X.heap.size X w'):=qh (fun X hX=>by
  have:=K3 A n c Vs B m k Es x.1 x.2.1 x.2.2 X hX.dg (by omega) xT
  rw[SO,show(x.1,x.2.1,x.2.2)=x from rfl,ga,ZM] at this;exact this)
 obtain⟨⟨u,GQ⟩,gu⟩:∃z,eP Vs a=z:=⟨_,rfl⟩
 have HV:Hid (∀X,bK w lo g A n c Vs B m k Es C r rc G X→Ζ η 142 #[φ #[γ A n c,γ B m k],φ #[J a.1,J a.2]] X fun e w'=>∃A' c',e=.returned (Ξ #[φ (vC (u.1,(A',u.2.1.2.1,c',u.2.1.2.2.2),u.2.2)).toArray,Β GQ])∧Ow X X.heap.size 32 3 (γ A' u.2.1.2.1 c') u.2.1.2.1 (aA u.2.1.2.2.2) w'):=qh (fun X hX=>qU A n c Vs B m k Es a.1 a.2 X hX.dg (by omega) xT u GQ gu);have ec:=(tK Vs a).2;have hul:=(mL h.dg xT a).2
 have eE:u.2.1.2.1≤1000:=by
  rcases II (fun v:VC=>v.1) zV Vs a with hm|he
  ·have e:(eP Vs a).1=u:=by rw[gu]
   rw[←e];exact fy _ hm
  ·have e:eP Vs a=(zV,ρ):=he;rw[gu] at e;injection e with e1 e2
   rw[e1];decide
 rw[gu] at ec;have ec:u.2.1.2.2.2=eS (Vs.map vS) a:=ec;obtain⟨⟨i1,i2⟩,⟨rA,rn,jg,rL⟩,lb,at_⟩:=u;have eE:rn≤1000:=eE;have ec:rL=eS (Vs.map vS) a:=ec
 have HD:Hid (kW (Vs.map vS) x=if dI (if dI (kT rL x)=dI x then kT rL (kT rL x) else kT rL x)=dI x then zD else(if dI (kT rL x)=dI x then kT rL (kT rL x) else kT rL x)):=qh (by
  unfold kW;rw[ga,←ec])
 replace HV:Hid (∀X,bK w lo g A n c Vs B m k Es C r rc G X→Ζ η 142 #[φ #[γ A n c,γ B m k],φ #[J a.1,J a.2]] X fun e w'=>∃A' c',e=.returned (Ξ #[φ #[J i1,J i2,γ A' rn c',μ lb,J at_],Β GQ])∧Ow X X.heap.size 32 3 (γ A' rn c') rn (aA rL) w'):=HV;obtain⟨z,gz⟩:=aB (kW (Vs.map vS) x);rw[gz] at HD ⊢;have fp:=aI (az W (δ #[J x.1,J x.2.1,J x.2.2] 32)) (δ #[J 0,J 0,J 0] 32);have H0:=qh (h.up fp);have bw:=qh fp;have aQ:Hid (Whole ((W.alloc (δ #[J x.1,J x.2.1,J x.2.2] 32)).alloc (δ #[J 0,J 0,J 0] 32)) W.heap.size 32 [J x.1,J x.2.1,J x.2.2]):=qh ((Whole.new_ _ _ [_,_,_]).al _);have mf:Hid (Whole ((W.alloc (δ #[J x.1,J x.2.1,J x.2.2] 32)).alloc (δ #[J 0,J 0,J 0] 32)) (W.heap.size+1) 32 [J 0,J 0,J 0]):=qh (Whole.new2 (by simp));clear h fp ga ZM gu ec fy xT hul gz;go_enter Tryz.func120,Tryz.ntmps120;go_upto_region 1 with fail
 obtain⟨W0,bO⟩:=aB ((W.alloc (δ #[J x.1,J x.2.1,J x.2.2] 32)).alloc (δ #[J 0,J 0,J 0] 32));obtain⟨b1,dE⟩:=aB (W.heap.size+1);obtain⟨b0,bp⟩:=aB W.heap.size;rw[bO] at H0 aQ mf bw ⊢;rw[dE] at mf ⊢;rw[bp] at aQ ⊢;have iP:Hid (W.heap.size≤b1):=qh (by omega);have Nb:Hid (b0≠b1):=qh (by omega);clear bO bp dE
 have jB:Hid (∀y,Ext W0.drew y→y.cell? ⟨g,0,ε⟩=ζ (γ A n c)∧y.cell? ⟨g,1,ε⟩=ζ (γ B m k)∧y.cell? ⟨b0,0,ε⟩=ζ (J x.1)∧y.cell? ⟨b0,1,ε⟩=ζ (J x.2.1)∧y.cell? ⟨b0,2,ε⟩=ζ (J x.2.2)):=qh (fun y hy=>
  ⟨(H0.out.dr.bl hy).s.cell (i:=0) rfl,(H0.out.dr.bl hy).s.cell (i:=1) rfl,(aQ.out.dr.bl hy).cell (i:=0) rfl,(aQ.out.dr.bl hy).cell (i:=1) rfl,(aQ.out.dr.bl hy).cell (i:=2) rfl⟩)
 refine cJ 10 8 (cw W0.heap.size) (tc [fun v W=>v=υ (ζ ⟨g,0,ε⟩),fun v W=>v=υ (ζ ⟨g,0,ε⟩),fun v W=>v=υ (ζ ⟨g,0,ε⟩),fun v W=>v=φ #[γ A n c,γ B m k],fun v W=>v=φ #[J x.1,J x.2.1,J x.2.2],fun v W=>v=Ξ #[φ #[J a.1,J a.2],Β Mm],fun v W=>v=Ξ #[φ #[J a.1,J a.2],Β Mm],fun v W=>v=φ #[J a.1,J a.2],fun v W=>v=Β Mm,fun v W=>∃q,v=υ (ζ ⟨q,0,ε⟩)∧W0.heap.size≤q∧Whole (W) q 30 [J 0,J 0]]) (Ext W0.drew) (by kernel_rfl) (by kernel_rfl) (by kernel_rfl) (by kernel_rfl) (by kernel_rfl) (by kernel_rfl) (by simp only[Jaj,Jag,Jah];exact rfl) (by kernel_rfl) (by kernel_rfl) (by kernel_rfl) ?_ (jH (by
  intro Q hQ v w1 w2 h hx;simp only[Η,Jbh,or_false] at hQ;rcases hQ with rfl|rfl|rfl|rfl|rfl|rfl|rfl|rfl|rfl|rfl
  ·exact(fun v w1 w2 h hx=>h) v w1 w2 h hx
  ·exact(fun v w1 w2 h hx=>h) v w1 w2 h hx
  ·exact(fun v w1 w2 h hx=>h) v w1 w2 h hx
  ·exact(fun v w1 w2 h hx=>h) v w1 w2 h hx
  ·exact(fun v w1 w2 h hx=>h) v w1 w2 h hx
  ·exact(fun v w1 w2 h hx=>h) v w1 w2 h hx
  ·exact(fun v w1 w2 h hx=>h) v w1 w2 h hx
  ·exact(fun v w1 w2 h hx=>h) v w1 w2 h hx
  ·exact(fun v w1 w2 h hx=>h) v w1 w2 h hx
  ·exact(fun v w1 w2 h hx=>(by obtain⟨q,e1,e2,e3⟩:=h;exact⟨q,e1,e2,e3.bl hx⟩)) v w1 w2 h hx)) (fun _ _ h k=>h.trans k) (Ext.refl _) ?_ ?_ ?_
 ·exact fun _ _ _ _ h=>h
 ·intro i Ef;have dF:i=0∨i=1∨i=2∨i=3∨i=4∨i=5∨i=6∨i=7∨i=8∨i=9:=by omega
  rcases dF with rfl|rfl|rfl|rfl|rfl|rfl|rfl|rfl|rfl|rfl
  ·refine aH ?_;intro xf y hg aD;simp only[aE,ι,π,aj,ξ,aw,ar,aq];refine .inl ⟨by rfl,?_⟩;go_simp;exact⟨Ext.refl _,rfl⟩
  ·refine aH ?_;intro xf y hg aD;have d0:xf 0=υ (ζ ⟨g,0,ε⟩):=aD 0 (by decide);simp only[aE,ι,π,aj,ξ,aw,ar,aq];simp only[d0];refine .inl ⟨by rfl,?_⟩;go_simp;exact⟨Ext.refl _,rfl⟩
  ·refine aH ?_;intro xf y hg aD;have d1:xf 1=υ (ζ ⟨g,0,ε⟩):=aD 1 (by decide);simp only[aE,ι,π,aj,ξ,aw,ar,aq];simp only[d1];refine .inl ⟨by rfl,?_⟩;go_simp;exact⟨Ext.refl _,rfl⟩
  ·refine aH ?_;intro xf y hg aD;have d2:xf 2=υ (ζ ⟨g,0,ε⟩):=aD 2 (by decide);obtain⟨qE,iQ,jd,qi,Lh⟩:=jB.out _ hg;simp only[aE,ι,π,aj,ξ,aw,ar,aq];simp only[d2];refine .inl ⟨by rfl,?_⟩;go_simp;exact⟨Ext.refl _,rfl⟩
  ·refine aH ?_;intro xf y hg aD;obtain⟨qE,iQ,jd,qi,Lh⟩:=jB.out _ hg;simp only[aE,ι,π,aj,ξ,aw,ar,aq];refine .inl ⟨by rfl,?_⟩;go_simp;exact⟨Ext.refl _,rfl⟩
  ·refine aH ?_;intro xf y hg aD;have d3:xf 3=φ #[γ A n c,γ B m k]:=aD 3 (by decide);have d4:xf 4=φ #[J x.1,J x.2.1,J x.2.2]:=aD 4 (by decide);simp only[aE,ι,π,aj,ξ,aw,ar,aq];simp only[d3,d4];refine .inl ⟨by rfl,cu (by go_simp;first|done|exact⟨rfl,rfl⟩|with_reducible rfl) ?_⟩
   refine(HA.out y (H0.out.dr.bl hg)).mono ?_
   rintro e w2 ⟨rfl,hb⟩
   refine⟨_,rfl,hb,?_⟩
   show(_:ψ)=Ξ #[φ #[J a.1,J a.2],Β Mm]
   exact rfl
  ·refine aH ?_;intro xf y hg aD;have d5:xf 5=Ξ #[φ #[J a.1,J a.2],Β Mm]:=aD 5 (by decide);simp only[aE,ι,π,aj,ξ,aw,ar,aq];simp only[d5];refine .inl ⟨by rfl,?_⟩;go_simp;exact⟨Ext.refl _,rfl⟩
  ·refine aH ?_;intro xf y hg aD;have d6:xf 6=Ξ #[φ #[J a.1,J a.2],Β Mm]:=aD 6 (by decide);simp only[aE,ι,π,aj,ξ,aw,ar,aq];simp only[d6];refine .inl ⟨by rfl,?_⟩;go_simp;exact⟨Ext.refl _,rfl⟩
  ·refine aH ?_;intro xf y hg aD;have d6:xf 6=Ξ #[φ #[J a.1,J a.2],Β Mm]:=aD 6 (by decide);simp only[aE,ι,π,aj,ξ,aw,ar,aq];simp only[d6];refine .inl ⟨by rfl,?_⟩;go_simp;exact⟨Ext.refl _,rfl⟩
  ·refine aH ?_;intro xf y hg aD;simp only[aE,ι,π,aj,ξ,aw,ar,aq];refine .inl ⟨by rfl,dZ (w':=y.alloc (δ #[J 0,J 0] 30)) (by go_simp;first|done|exact rfl|exact⟨rfl,rfl⟩) (az _ _) ?_⟩;show ∃q,(_:ψ)=υ (ζ ⟨q,0,ε⟩)∧W0.heap.size≤q∧Whole (y.alloc (δ #[J 0,J 0] 30)) q 30 [J 0,J 0]
   exact⟨y.heap.size,rfl,hg.size,Whole.new_ _ _ [J 0,J 0]⟩
 ·intro xf y hg aX;have d6:xf 6=Ξ #[φ #[J a.1,J a.2],Β Mm]:=aX 6 (by decide) (by decide);simp only[aE,ι,π,aj,ξ,aw,ar,aq];simp only[d6]
  refine⟨Β Mm,?_,rfl⟩
  apply dD;rfl;intro w' aC;go_simp;(try with_reducible rfl)
 intro xf y hg aX;have d7:xf 7=φ #[J a.1,J a.2]:=aX 7 (by decide);have d8:xf 8=Β Mm:=aX 8 (by decide);obtain⟨gr,d9,Ea,OZ⟩:∃q,xf 9=υ (ζ ⟨q,0,ε⟩)∧W0.heap.size≤q∧Whole (y) q 30 [J 0,J 0]:=aX 9 (by decide)
 simp only[aE,ι,π,aj,ξ,aw,ar,aq];simp only[d7,d8,d9];clear aX d7 d8 d9;have o9:=qh OZ;have qH:=qh (ag (aN (Θ _ W0)) hg);have Je:Hid (W0.heap.size≤gr):=qh Ea;clear Ea OZ;refine gI 10 ?_;intro w' aC
 refine⟨w'.setRow gr #[J a.1,J a.2],aR 30 (.tmp 5) (.tmp 18) rfl gr rfl [J a.1,J a.2] rfl 30 [J 0,J 0] (o9.out.bl aC) (by kernel_rfl) rfl (by simp[Τ]),bN (show W0.heap.size≤gr from Je.out) _,?_⟩
 have qP:Hid (Whole (w'.setRow gr #[J a.1,J a.2]) gr 30 [J a.1,J a.2]):=qh (Whole.row (o9.out.bl aC) [J a.1,J a.2]);have kn:Hid (σ W0.heap.size W0 (w'.setRow gr #[J a.1,J a.2])):=qh (bH (ag qH.out aC) Je.out _);obtain⟨V1,fD⟩:=aB (w'.setRow gr #[J a.1,J a.2]);rw[fD] at qP kn ⊢;clear aC fD o9 qH;refine aa 11 ?_;refine aF (by kernel_rfl) ?_ _;intro W8 cg;have KW:=qh (qP.out.bl cg);have rT:=qh (ag kn.out cg);clear cg qP kn;have H8:=qh (H0.out.bl rT.out);have ue:=qh (aQ.out.bl rT.out);have Tm:=qh (mf.out.bl rT.out);have nV:=qh (ag bw.out rT.out);clear H0 aQ mf bw rT jB Je;go_upto_region 2 with fail
 obtain⟨W9,Yh⟩:=aB W8;rw[Yh] at H8 ue Tm nV KW ⊢;clear Yh W8
 have jB:Hid (∀y,Ext W9.drew y→y.cell? ⟨g,0,ε⟩=ζ (γ A n c)∧y.cell? ⟨g,1,ε⟩=ζ (γ B m k)∧y.cell? ⟨gr,0,ε⟩=ζ (J a.1)∧y.cell? ⟨gr,1,ε⟩=ζ (J a.2)):=qh (fun y hy=>
  ⟨(H8.out.dr.bl hy).s.cell (i:=0) rfl,(H8.out.dr.bl hy).s.cell (i:=1) rfl,(KW.out.dr.bl hy).cell (i:=0) rfl,(KW.out.dr.bl hy).cell (i:=1) rfl⟩)
 refine cJ 10 8 (cw W9.heap.size) (tc [fun v W=>v=υ (ζ ⟨g,0,ε⟩),fun v W=>v=υ (ζ ⟨g,0,ε⟩),fun v W=>v=υ (ζ ⟨g,0,ε⟩),fun v W=>v=φ #[γ A n c,γ B m k],fun v W=>v=φ #[J a.1,J a.2],fun v W=>∃A' c',v=Ξ #[φ #[J i1,J i2,γ A' rn c',μ lb,J at_],Β GQ]∧ko W (A',rn,c',rL),fun v W=>∃A' c',v=Ξ #[φ #[J i1,J i2,γ A' rn c',μ lb,J at_],Β GQ]∧ko W (A',rn,c',rL),fun v W=>∃A' c',v=φ #[J i1,J i2,γ A' rn c',μ lb,J at_]∧ko W (A',rn,c',rL),fun v W=>v=Β GQ,fun v W=>∃q,v=υ (ζ ⟨q,0,ε⟩)∧W9.heap.size≤q∧Whole (W) q 59 [J 0,J 0,γ ε 0 0,μ {data:=#[]},J 0]]) (Ext W9.drew) (by kernel_rfl) (by kernel_rfl) (by kernel_rfl) (by kernel_rfl) (by kernel_rfl) (by kernel_rfl) (by simp only[Jaj,Jag,Jah];exact rfl) (by kernel_rfl) (by kernel_rfl) (by kernel_rfl) ?_ (jH (by
  intro Q hQ v w1 w2 h hx;simp only[Η,Jbh,or_false] at hQ;rcases hQ with rfl|rfl|rfl|rfl|rfl|rfl|rfl|rfl|rfl|rfl
  ·exact(fun v w1 w2 h hx=>h) v w1 w2 h hx
  ·exact(fun v w1 w2 h hx=>h) v w1 w2 h hx
  ·exact(fun v w1 w2 h hx=>h) v w1 w2 h hx
  ·exact(fun v w1 w2 h hx=>h) v w1 w2 h hx
  ·exact(fun v w1 w2 h hx=>h) v w1 w2 h hx
  ·exact(fun v w1 w2 h hx=>(by obtain⟨A',c',e,h⟩:=h;exact⟨A',c',e,h.bl hx⟩)) v w1 w2 h hx
  ·exact(fun v w1 w2 h hx=>(by obtain⟨A',c',e,h⟩:=h;exact⟨A',c',e,h.bl hx⟩)) v w1 w2 h hx
  ·exact(fun v w1 w2 h hx=>(by obtain⟨A',c',e,h⟩:=h;exact⟨A',c',e,h.bl hx⟩)) v w1 w2 h hx
  ·exact(fun v w1 w2 h hx=>h) v w1 w2 h hx
  ·exact(fun v w1 w2 h hx=>(by obtain⟨q,e1,e2,e3⟩:=h;exact⟨q,e1,e2,e3.bl hx⟩)) v w1 w2 h hx)) (fun _ _ h k=>h.trans k) (Ext.refl _) ?_ ?_ ?_
 ·exact fun _ _ _ _ h=>h
 ·intro i Ef;have dF:i=0∨i=1∨i=2∨i=3∨i=4∨i=5∨i=6∨i=7∨i=8∨i=9:=by omega
  rcases dF with rfl|rfl|rfl|rfl|rfl|rfl|rfl|rfl|rfl|rfl
  ·refine aH ?_;intro xf y hg aD;simp only[aE,ι,π,aj,ξ,aw,ar,aq];refine .inl ⟨by rfl,?_⟩;go_simp;exact⟨Ext.refl _,rfl⟩
  ·refine aH ?_;intro xf y hg aD;have d0:xf 0=υ (ζ ⟨g,0,ε⟩):=aD 0 (by decide);simp only[aE,ι,π,aj,ξ,aw,ar,aq];simp only[d0];refine .inl ⟨by rfl,?_⟩;go_simp;exact⟨Ext.refl _,rfl⟩
  ·refine aH ?_;intro xf y hg aD;have d1:xf 1=υ (ζ ⟨g,0,ε⟩):=aD 1 (by decide);simp only[aE,ι,π,aj,ξ,aw,ar,aq];simp only[d1];refine .inl ⟨by rfl,?_⟩;go_simp;exact⟨Ext.refl _,rfl⟩
  ·refine aH ?_;intro xf y hg aD;have d2:xf 2=υ (ζ ⟨g,0,ε⟩):=aD 2 (by decide);obtain⟨qE,iQ,jd,qi⟩:=jB.out _ hg;simp only[aE,ι,π,aj,ξ,aw,ar,aq];simp only[d2];refine .inl ⟨by rfl,?_⟩;go_simp;exact⟨Ext.refl _,rfl⟩
  ·refine aH ?_;intro xf y hg aD;obtain⟨qE,iQ,jd,qi⟩:=jB.out _ hg;simp only[aE,ι,π,aj,ξ,aw,ar,aq];refine .inl ⟨by rfl,?_⟩;go_simp;exact⟨Ext.refl _,rfl⟩
  ·refine aH ?_;intro xf y hg aD;have d3:xf 3=φ #[γ A n c,γ B m k]:=aD 3 (by decide);have d4:xf 4=φ #[J a.1,J a.2]:=aD 4 (by decide);simp only[aE,ι,π,aj,ξ,aw,ar,aq];simp only[d3,d4];refine .inl ⟨by rfl,cu (by go_simp;first|done|exact⟨rfl,rfl⟩|with_reducible rfl) ?_⟩
   refine(HV.out y (H8.out.dr.bl hg)).mono ?_
   rintro e w2 ⟨A5,c5,rfl,ho⟩;have hb:=ho.below
   refine⟨_,rfl,hb,?_⟩
   show ∃A' c',(_:ψ)=Ξ #[φ #[J i1,J i2,γ A' rn c',μ lb,J at_],Β GQ]∧ko w2 (A',rn,c',rL)
   exact⟨A5,c5,rfl,ko.of_own ho.own⟩
  ·refine aH ?_;intro xf y hg aD;obtain⟨A5,c5,d5,h5⟩:∃A' c',xf 5=Ξ #[φ #[J i1,J i2,γ A' rn c',μ lb,J at_],Β GQ]∧ko y (A',rn,c',rL):=aD 5 (by decide)
   simp only[aE,ι,π,aj,ξ,aw,ar,aq];simp only[d5];refine .inl ⟨by rfl,?_⟩;go_simp
   refine⟨Ext.refl _,?_⟩
   show ∃A' c',(_:ψ)=Ξ #[φ #[J i1,J i2,γ A' rn c',μ lb,J at_],Β GQ]∧ko y (A',rn,c',rL)
   exact⟨A5,c5,rfl,h5⟩
  ·refine aH ?_;intro xf y hg aD;obtain⟨A6,c6,d6,h6⟩:∃A' c',xf 6=Ξ #[φ #[J i1,J i2,γ A' rn c',μ lb,J at_],Β GQ]∧ko y (A',rn,c',rL):=aD 6 (by decide)
   simp only[aE,ι,π,aj,ξ,aw,ar,aq];simp only[d6];refine .inl ⟨by rfl,?_⟩;go_simp
   refine⟨Ext.refl _,?_⟩
   show ∃A' c',(_:ψ)=φ #[J i1,J i2,γ A' rn c',μ lb,J at_]∧ko y (A',rn,c',rL)
   exact⟨A6,c6,rfl,h6⟩
  ·refine aH ?_;intro xf y hg aD;obtain⟨A6,c6,d6,h6⟩:∃A' c',xf 6=Ξ #[φ #[J i1,J i2,γ A' rn c',μ lb,J at_],Β GQ]∧ko y (A',rn,c',rL):=aD 6 (by decide)
   simp only[aE,ι,π,aj,ξ,aw,ar,aq];simp only[d6];refine .inl ⟨by rfl,?_⟩;go_simp;exact⟨Ext.refl _,rfl⟩
  ·refine aH ?_;intro xf y hg aD;simp only[aE,ι,π,aj,ξ,aw,ar,aq];refine .inl ⟨by rfl,dZ (w':=y.alloc (δ #[J 0,J 0,γ ε 0 0,μ {data:=#[]},J 0] 59)) (by go_simp;first|done|exact rfl|exact⟨rfl,rfl⟩) (az _ _) ?_⟩;show ∃q,(_:ψ)=υ (ζ ⟨q,0,ε⟩)∧W9.heap.size≤q∧Whole (y.alloc (δ #[J 0,J 0,γ ε 0 0,μ {data:=#[]},J 0] 59)) q 59 [J 0,J 0,γ ε 0 0,μ {data:=#[]},J 0]
   exact⟨y.heap.size,rfl,hg.size,Whole.new_ _ _ [J 0,J 0,γ ε 0 0,μ {data:=#[]},J 0]⟩
 ·intro xf y hg aX;obtain⟨A6,c6,d6,h6⟩:∃A' c',xf 6=Ξ #[φ #[J i1,J i2,γ A' rn c',μ lb,J at_],Β GQ]∧ko y (A',rn,c',rL):=aX 6 (by decide) (by decide)
  simp only[aE,ι,π,aj,ξ,aw,ar,aq];simp only[d6]
  refine⟨Β GQ,?_,rfl⟩
  apply dD;rfl;intro w' aC;go_simp;(try with_reducible rfl)
 intro xf y hg aX;obtain⟨A7,c7,d7,h7⟩:∃A' c',xf 7=φ #[J i1,J i2,γ A' rn c',μ lb,J at_]∧ko y (A',rn,c',rL):=aX 7 (by decide)
 have d8:xf 8=Β GQ:=aX 8 (by decide);obtain⟨gv,d9,T9,hwv⟩:∃q,xf 9=υ (ζ ⟨q,0,ε⟩)∧W9.heap.size≤q∧Whole (y) q 59 [J 0,J 0,γ ε 0 0,μ {data:=#[]},J 0]:=aX 9 (by decide)
 simp only[aE,ι,π,aj,ξ,aw,ar,aq];simp only[d7,d8,d9];clear aX d7 d8 d9;have NT:=qh h7;clear h7;have o9:=qh hwv;have qH:=qh (ag (aN (Θ _ W9)) hg);have RI:Hid (W9.heap.size≤gv):=qh T9;clear T9 hwv;refine gI 10 ?_;intro w' aC
 refine⟨w'.setRow gv #[J i1,J i2,γ A7 rn c7,μ lb,J at_],aR 59 (.tmp 7) (.tmp 27) rfl gv rfl [J i1,J i2,γ A7 rn c7,μ lb,J at_] rfl 59 [J 0,J 0,γ ε 0 0,μ {data:=#[]},J 0] (o9.out.bl aC) (by kernel_rfl) rfl (by simp[Τ]),bN (show W9.heap.size≤gv from RI.out) _,?_⟩
 have qP:Hid (Whole (w'.setRow gv #[J i1,J i2,γ A7 rn c7,μ lb,J at_]) gv 59 [J i1,J i2,γ A7 rn c7,μ lb,J at_]):=qh (Whole.row (o9.out.bl aC) [J i1,J i2,γ A7 rn c7,μ lb,J at_]);have kn:Hid (σ W9.heap.size W9 (w'.setRow gv #[J i1,J i2,γ A7 rn c7,μ lb,J at_])):=qh (bH (ag qH.out aC) RI.out _);have Ol:=qh ((NT.out.bl aC).row (o9.out.bl aC) (by decide) #[J i1,J i2,γ A7 rn c7,μ lb,J at_]);obtain⟨V1,fD⟩:=aB (w'.setRow gv #[J i1,J i2,γ A7 rn c7,μ lb,J at_]);rw[fD] at qP kn Ol ⊢;clear aC fD o9 qH;refine aa 11 ?_;refine aF (by kernel_rfl) ?_ _;intro W8 cg;have KX:=qh (qP.out.bl cg);have Rh:=qh (ag kn.out cg);have NT:=qh (Ol.out.bl cg);clear Ol;clear cg qP kn;have mK:=qh (ue.out.bl Rh.out);have ED:=qh (Tm.out.bl Rh.out);have wS:=qh (ag nV.out Rh.out);clear H8 ue Tm nV Rh jB RI KW HA HV;obtain⟨V9,Tf⟩:=aB W8;rw[Tf] at mK ED wS KX NT ⊢;clear Tf W8;obtain⟨p,gp⟩:=aB (kT rL x);rw[gp] at HD
 have X8:Hid (∀X,ko X (A7,rn,c7,rL)→Ζ η 152 #[γ A7 rn c7,φ #[J x.1,J x.2.1,J x.2.2]] X fun e w'=>e=.returned (Ξ #[φ #[J p.1,J p.2.1,J p.2.2],Β (decide (x∈rL))])∧σ X.heap.size X w'):=qh (fun X hX=>by
  have:=yA A7 rn c7 rL x X hX.2.1 (by omega)
  rw[gp] at this;exact this)
 obtain⟨k1,Pt⟩:=aB (decide (x∈rL));rw[Pt] at X8;obtain⟨q,gq⟩:=aB (kT rL p);rw[gq] at HD
 have qW:Hid (∀X,ko X (A7,rn,c7,rL)→Ζ η 152 #[γ A7 rn c7,φ #[J p.1,J p.2.1,J p.2.2]] X fun e w'=>e=.returned (Ξ #[φ #[J q.1,J q.2.1,J q.2.2],Β (decide (p∈rL))])∧σ X.heap.size X w'):=qh (fun X hX=>by
  have:=yA A7 rn c7 rL p X hX.2.1 (by omega)
  rw[gq] at this;exact this)
 obtain⟨k2,gk2⟩:=aB (decide (p∈rL));rw[gk2] at qW;clear gp Pt gq gk2;obtain⟨x1,x2,x3⟩:=x;obtain⟨p1,p2,p3⟩:=p;obtain⟨q1,q2,q3⟩:=q;obtain⟨z1,z2,z3⟩:=z;have o0:=mK.out.cell (i:=0) rfl;have o1:=mK.out.cell (i:=1) rfl;have o2:=mK.out.cell (i:=2) rfl;have o3:=KX.out.cell (i:=2) rfl
 by_cases e1:p1=x1∧p2=x2
 ·have hz:=HD.out;rw[if_pos (show dI (p1,p2,p3)=dI (x1,x2,x3) from Prod.ext e1.1 e1.2)] at hz;obtain⟨rfl,rfl⟩:=e1;have HZz:=qh hz;clear HD hz
  go_upto_region 5 with (first
   |(go_at_call 152
     refine(X8.out _ NT.out).mono ?_
     rintro e DR ⟨rfl,jY⟩;have RW:=qh ((NT.out.bl jY).bl (az DR (δ #[J p1,J p2,J p3] 32)));have cK:=qh ((mK.out.bl jY).al (δ #[J p1,J p2,J p3] 32));have oV:=qh ((ED.out.bl jY).al (δ #[J p1,J p2,J p3] 32));have RD:=qh ((KX.out.bl jY).al (δ #[J p1,J p2,J p3] 32));have Og:=qh (aI (ag wS.out jY) (δ #[J p1,J p2,J p3] 32));have DE:Hid (Whole (DR.alloc (δ #[J p1,J p2,J p3] 32)) DR.heap.size 32 [J p1,J p2,J p3]):=qh (Whole.new_ _ _ _);have hlz:=ED.out.lt;have hlx:=mK.out.lt;have Ra:b0≠DR.heap.size:=by have:=jY.size;omega
     have Qb:b1≠DR.heap.size:=by have:=jY.size;omega
     have Lt:Hid (W.heap.size≤DR.heap.size):=qh (ag wS.out jY).size;have a0:=cK.out.cell (i:=0) rfl;have a1:=cK.out.cell (i:=1) rfl;have a2:=cK.out.cell (i:=2) rfl;have z0_:=oV.out.cell (i:=0) rfl;have z1_:=oV.out.cell (i:=1) rfl;have z2_:=oV.out.cell (i:=2) rfl;have y0_:=oV.out.free 0;have y1_:=oV.out.free 1;have y2_:=oV.out.free 2;clear jY NT mK ED KX wS hlz hlx o0 o1 o2 o3))
  clear a0 a1 a2 z0_ z1_ z2_ y0_ y1_ y2_;obtain⟨W11,Z0⟩:=aB (DR.alloc (δ #[J p1,J p2,J p3] 32));obtain⟨bt,xY⟩:=aB DR.heap.size;rw[Z0] at RW cK oV RD Og DE ⊢;rw[xY] at DE Ra Qb Lt ⊢;have Nx:=qh Ra;have Nz:=qh Qb;clear Z0 xY Ra Qb;have l0:=RD.out.cell (i:=2) rfl;have l1:=DE.out.cell (i:=0) rfl;have l2:=DE.out.cell (i:=1) rfl;have l3:=DE.out.cell (i:=2) rfl
  go_upto_region 6 with (first
   |(go_at_call 152
     refine(qW.out _ RW.out).mono ?_
     rintro e w12 ⟨rfl,Md⟩;have j7:=qh (cK.out.bl Md);have YY:=qh (oV.out.bl Md);have Cn:=qh (DE.out.bl Md);have aaH:=qh (ag Og.out Md);have t0_:=Cn.out.cell (i:=0) rfl;have t1_:=Cn.out.cell (i:=1) rfl;have t2_:=Cn.out.cell (i:=2) rfl;have u0_:=Cn.out.free 0;have u1_:=Cn.out.free 1;have u2_:=Cn.out.free 2;clear Md cK oV DE Og RW RD l0 l1 l2 l3))
  have mN:=qh (((j7.out.far (p:=⟨bt,0,ε⟩) Nx.out (J q1)).far (p:=⟨bt,1,ε⟩) Nx.out (J q2)).far (p:=⟨bt,2,ε⟩) Nx.out (J q3));have zO:=qh (((YY.out.far (p:=⟨bt,0,ε⟩) Nz.out (J q1)).far (p:=⟨bt,1,ε⟩) Nz.out (J q2)).far (p:=⟨bt,2,ε⟩) Nz.out (J q3));have Qo:=qh (((Cn.out.set_ 0 (J q1)).set_ 1 (J q2)).set_ 2 (J q3));have Uh:=qh (((aaH.out.setCell (p:=⟨bt,0,ε⟩) Lt.out (J q1)).setCell (p:=⟨bt,1,ε⟩) Lt.out (J q2)).setCell (p:=⟨bt,2,ε⟩) Lt.out (J q3));obtain⟨W14,YC⟩:=aB (((w12.setCell ⟨bt,0,ε⟩ (J q1)).setCell ⟨bt,1,ε⟩ (J q2)).setCell ⟨bt,2,ε⟩ (J q3));rw[YC] at mN zO Qo Uh ⊢;clear YC j7 YY Cn aaH t0_ t1_ t2_ u0_ u1_ u2_;have alc:=Nx.out;have anG:=Nz.out;have o0:=mN.out.cell (i:=0) rfl;have o1:=mN.out.cell (i:=1) rfl;have u0:=Qo.out.cell (i:=0) rfl;have u1:=Qo.out.cell (i:=1) rfl;have u2:=Qo.out.cell (i:=2) rfl;have z0:=zO.out.cell (i:=0) rfl;have z1_:=zO.out.cell (i:=1) rfl;have z2_:=zO.out.cell (i:=2) rfl;have y0:=zO.out.free 0;have y1:=zO.out.free 1;have y2:=zO.out.free 2;have hz:=HZz.out;clear HZz
  by_cases e2:q1=p1∧q2=p2
  ·rw[if_pos (show dI (q1,q2,q3)=dI (p1,p2,x3) from Prod.ext e2.1 e2.2)] at hz;unfold zD at hz;simp only[Jba] at hz;obtain⟨rfl,rfl,rfl⟩:=hz;obtain⟨rfl,rfl⟩:=e2;go_wp2_with fail
   exact xm rfl b1 rfl (((zO.out.set_ 0 (J 0)).set_ 1 (J 0)).set_ 2 (J 0)) Tryz.underlying32 rfl (by kernel_rfl) rfl ⟨rfl,(((Uh.out.setCell (p:=⟨b1,0,ε⟩) iP.out (J 0)).setCell (p:=⟨b1,1,ε⟩) iP.out (J 0)).setCell (p:=⟨b1,2,ε⟩) iP.out (J 0))⟩
  ·rw[if_neg (fun h:dI (q1,q2,q3)=dI (p1,p2,x3)=>e2 (by injection h with h1 h2;exact⟨h1,h2⟩))] at hz;simp only[Jba] at hz;obtain⟨rfl,rfl,rfl⟩:=hz
   have hq8:∀X:ο,(binOp .eql 30 (φ #[J z1,J z2]) (φ #[J p1,J p2])).run η X=.ok (Β ρ) X:=fun X=>by
    by_cases h1:z1=p1
    ·have h2:¬z2=p2:=fun h2=>e2 ⟨h1,h2⟩
     simp[go_sem,h1,h2]
    ·simp[go_sem,h1]
   clear e2;go_wp2_with fail
   exact xm rfl b1 rfl (((zO.out.set_ 0 (J z1)).set_ 1 (J z2)).set_ 2 (J z3)) Tryz.underlying32 rfl (by kernel_rfl) rfl ⟨rfl,(((Uh.out.setCell (p:=⟨b1,0,ε⟩) iP.out (J z1)).setCell (p:=⟨b1,1,ε⟩) iP.out (J z2)).setCell (p:=⟨b1,2,ε⟩) iP.out (J z3))⟩
 ·have hz:=HD.out;have To:¬dI (p1,p2,p3)=dI (x1,x2,x3):=fun h=>e1 (by injection h with h1 h2;exact⟨h1,h2⟩)
  rw[if_neg To,if_neg To] at hz;simp only[Jba] at hz;obtain⟨rfl,rfl,rfl⟩:=hz
  have hq8:∀X:ο,(binOp .eql 30 (φ #[J z1,J z2]) (φ #[J x1,J x2])).run η X=.ok (Β ρ) X:=fun X=>by
   by_cases h1:z1=x1
   ·have h2:¬z2=x2:=fun h2=>e1 ⟨h1,h2⟩
    simp[go_sem,h1,h2]
   ·simp[go_sem,h1]
  clear HD e1 To
  go_wp2_with (first
   |(go_at_call 152
     refine(X8.out _ NT.out).mono ?_
     rintro e DR ⟨rfl,jY⟩;have RW:=qh ((NT.out.bl jY).bl (az DR (δ #[J z1,J z2,J z3] 32)));have cK:=qh ((mK.out.bl jY).al (δ #[J z1,J z2,J z3] 32));have oV:=qh ((ED.out.bl jY).al (δ #[J z1,J z2,J z3] 32));have RD:=qh ((KX.out.bl jY).al (δ #[J z1,J z2,J z3] 32));have Og:=qh (aI (ag wS.out jY) (δ #[J z1,J z2,J z3] 32));have DE:Hid (Whole (DR.alloc (δ #[J z1,J z2,J z3] 32)) DR.heap.size 32 [J z1,J z2,J z3]):=qh (Whole.new_ _ _ _);have hlz:=ED.out.lt;have hlx:=mK.out.lt;have Ra:b0≠DR.heap.size:=by have:=jY.size;omega
     have Qb:b1≠DR.heap.size:=by have:=jY.size;omega
     have Lt:Hid (W.heap.size≤DR.heap.size):=qh (ag wS.out jY).size;have a0:=cK.out.cell (i:=0) rfl;have a1:=cK.out.cell (i:=1) rfl;have a2:=cK.out.cell (i:=2) rfl;have z0_:=oV.out.cell (i:=0) rfl;have z1_:=oV.out.cell (i:=1) rfl;have z2_:=oV.out.cell (i:=2) rfl;have y0_:=oV.out.free 0;have y1_:=oV.out.free 1;have y2_:=oV.out.free 2;clear jY NT mK ED KX wS hlz hlx o0 o1 o2 o3))
  exact xm rfl b1 rfl (((oV.out.set_ 0 (J z1)).set_ 1 (J z2)).set_ 2 (J z3)) Tryz.underlying32 rfl (by kernel_rfl) rfl ⟨rfl,(((Og.out.setCell (p:=⟨b1,0,ε⟩) iP.out (J z1)).setCell (p:=⟨b1,1,ε⟩) iP.out (J z2)).setCell (p:=⟨b1,2,ε⟩) iP.out (J z3))⟩
end
def sG (V:List VS) (x:Nm) (G:List Gn):Nat→List Gn
 |0=>G
 |j+1=>dP (sG V x G j) (bh x (j:Int),kW V (bh x (j:Int)))
def AE (V:List VS) (x:Nm):Nat→List VS
 |0=>V
 |j+1=>rings (AE V x j) (fun l=>aM (jy l (bh x (j:Int))))
theorem sK (V:List VS) (x:Nm) {G:List Gn} (h:cT G) (hl:G.length≤400):∀j,cT (sG V x G j)∧(sG V x G j).length≤400
 |0=>⟨h,hl⟩
 |j+1=>⟨fN _ (sK V x h hl j).1,mT _ _ (sK V x h hl j).2 (sK V x h hl j).1⟩
theorem wU (V:List VS) (x:Nm) (q:Nat) (h:∀v∈V,v.2.1.length≤q):∀j,∀v∈AE V x j,v.2.1.length≤q
 |0=>h
 |j+1=>fun v hv=>by
  obtain⟨u,hu,rfl⟩:=Α.1 (show v∈(AE V x j).map _ from hv);have h1:=wU V x q h j u hu
  show(aM (jy u.2.1 _)).length≤q
  rw[pP,nJ]
  have:=(List.erase_sublist (a:=bh x (j:Int)) (l:=u.2.1)).length_le
  omega
theorem LS {S:SS} (h:dx S) {x:Nm} (hx:bI S.2.1 x=τ):AE S.1 x 2=iU (iU S.1 (bh x 0)) (bh x 1):=by
 obtain⟨h0,h1⟩:=h.end_ hx;obtain⟨r1,m1⟩:=h.rg.rem h0
 have bj:bh x 1≠bh x 0:=fun e=>by
  unfold bh at e;injection e with _ e
  injection e with _ e
  exact absurd e (by decide)
 show rings (rings S.1 (fun l=>aM (jy l (bh x 0)))) (fun l=>aM (jy l (bh x 1)))=_;rw[nL h.rg.keys h.rg.once h.rg.turned h0,nL r1.keys r1.once r1.turned ((m1 _).2 ⟨bj,h1⟩)]
theorem rV {A B C:Option Κ} {w W:ο} {lo g n c m k r rc:Nat} {Us:List VC} {Es:List EC} {G:List Gn} (h:bK w lo g A n c Us B m k Es C r rc G W) {q:Nat} {V:List VS} (e:Us.map vS=V) (hv:∀v∈V,v.2.1.length≤q):∀u∈Us,u.2.1.2.1≤q:=fun u hu=>by
 have h1:=hv (vS u) (e▸Α.2 ⟨u,hu,rfl⟩);have h2:u.2.1.2.2.2.length=u.2.1.2.1:=(h.rg u hu).2.1.dlen;rw[←h2];exact h1
section
variable {w W:ο} {lo g:Nat} {A:Option Κ} {n c:Nat} {Vs:List VC} {B:Option Κ} {m k:Nat} {Es:List EC} {C:Option Κ} {r rc:Nat} {G:List Gn}
theorem I9 (h:bK w lo g A n c Vs B m k Es C r rc G W) (hS:gD (Vs.map vS,Es,G)) (x1 x2:Int):Ζ η 93 #[υ (ζ ⟨g,0,ε⟩),φ #[J x1,J x2]] W (cG w W lo g (jK (Vs.map vS,Es,G) (x1,x2))):=by
 obtain⟨hn,hm,hr,fy⟩:=hS.n24 h;have IH:(Vs.map (·.1)).Nodup:=iB Vs▸hS.fit.vup.nodup;have fp:=az W (δ #[J x1,J x2] 30);have HE:Hid (∀X,bK w lo g A n c Vs B m k Es C r rc G X→Ζ η 113 #[υ (ζ ⟨g,0,ε⟩),φ #[J x1,J x2]] X fun e w'=>e=.returned (J (dX (fun v:EC=>v.1) Es (x1,x2)))∧σ X.heap.size X w'):=qh (fun X hX=>dG g A n c B m k C r rc x1 x2 Es X hX.s (aK hX.e) (by omega));have H0:=qh (h.up fp);have HQ:=H0;have aQ:Hid (Whole (W.alloc (δ #[J x1,J x2] 30)) W.heap.size 30 [J x1,J x2]):=qh (Whole.new_ _ _ [_,_]);have yP:=qh (aJ.of_below (g:=g) fp);have tT:=qh hS;have O7:=aQ.out.cell (i:=0) rfl;have O1:=aQ.out.cell (i:=1) rfl;cases hh:bI Es (x1,x2) with
 |false=>
  have e1:=dH (k:=fun v:EC=>v.1) (l:=Es) hh;rw[e1] at HE;have HR:Hid (jK (Vs.map vS,Es,G) (x1,x2)=(dv,13)):=qh (by unfold jK;rw[if_pos hh]);clear h hS fy IH hh e1 fp;go_enter Tryz.func93,Tryz.ntmps93
  go_wp2_with (first
   |(go_at_call 113
     refine(HE.out _ HQ.out).mono ?_
     rintro e w2 ⟨rfl,aP⟩;have cY:=qh (H0.out.bl aP);have aZ:=qh (aQ.out.bl aP);have jG:=qh (yP.out.trans (aJ.of_below aP));have c0:=aZ.out.cell (i:=0) rfl;have c1:=aZ.out.cell (i:=1) rfl;have s0:=cY.out.s.cell (i:=0) rfl;clear aP H0 aQ yP O7 O1))
  go_ret;exact cG.no HR.out (by decide) rfl cY.out.below jG.out
 |true=>
  obtain⟨i,v,e1,e2,e3,e4⟩:=ck (k:=fun v:EC=>v.1) (l:=Es) hh;rw[e1] at HE;have hi:i<m:=by rw[←h.elen];exact e4
  have e3:v.1=(x1,x2):=e3;have OQ:=qh ((Hh hS.fit.eup e2).trans (by rw[e3]));have Uz:Hid (i<m):=qh hi
  have HR:Hid (jK (Vs.map vS,Es,G) (x1,x2)=((AE (Vs.map vS) (x1,x2) 2,jX Es (x1,x2),sG (Vs.map vS) (x1,x2) G 2),0)):=qh (by
   unfold jK;rw[if_neg (by rw[hh];decide),LS hS.fit hh];rfl)
  have HT:Hid (∀j,cT (sG (Vs.map vS) (x1,x2) G j)∧(sG (Vs.map vS) (x1,x2) G j).length≤400):=qh (sK (Vs.map vS) (x1,x2) hS.gr (by rw[h.glen];omega));have Iw:Hid (∀j,∀v∈AE (Vs.map vS) (x1,x2) j,v.2.1.length≤80):=qh (wU (Vs.map vS) (x1,x2) 80 hS.short);have BG:Hid (∀v∈Vs,v.2.1.2.1≤1000):=qh (fun v hv=>Λ (fy v hv) (by decide));have Eg:Hid (M8 122):=qh (nH Tryz.func122 (by kernel_rfl) rfl);clear h hS fy IH hh e1 fp e2 e3 e4;go_enter Tryz.func93,Tryz.ntmps93
  go_wp2_with (first
   |(go_at_call 113
     refine(HE.out _ HQ.out).mono ?_
     rintro e w2 ⟨rfl,aP⟩;have cY:=qh (H0.out.bl aP);have aZ:=qh (aQ.out.bl aP);have jG:=qh (yP.out.trans (aJ.of_below aP));have c0:=aZ.out.cell (i:=0) rfl;have c1:=aZ.out.cell (i:=1) rfl;have s0:=cY.out.s.cell (i:=0) rfl;clear aP H0 aQ yP O7 O1)
   |(go_at_call 115
     refine(lH x1 x2 _).mono ?_
     rintro e w3 ⟨rfl,bA⟩;have gE:=qh (cY.out.bl bA);have cF:=qh (aZ.out.bl bA);have BF:=qh (jG.out.trans (aJ.of_below bA));clear bA cY aZ jG c0 c1 s0 hi))
  obtain⟨w0,Pr⟩:=aB w3;obtain⟨bx,WQ⟩:=aB W.heap.size;have eh:Hid (W.heap.size≠g):=qh (cF.out.ne_ gE.out.s (by decide));rw[Pr] at gE cF BF;rw[WQ] at cF eh ⊢;clear WQ;go_loopw [17] (fun i wr=>∃(j:Nat) (C:Option Κ) (r rc:Nat),j≤2∧i=J (j:Int)∧Hid (bK w lo g A n c Vs B m k Es C r rc (sG (Vs.map vS) (x1,x2) G j) wr)∧Hid (aJ g w0 wr)) (fun i _=>2 - (intOf i).toNat)
  case atStart=>subst Pr;exact⟨0,C,r,rc,by omega,rfl,gE,qh (aJ.refl g _)⟩
  case round=>
   clear Pr;obtain⟨j,C,r,rc,dz,rfl,HS,HK⟩:=hrel;have H4:Hid (cT (sG (Vs.map vS) (x1,x2) G j)∧r≤400):=qh ⟨(HT.out j).1,by rw[←HS.out.glen];exact(HT.out j).2⟩;have hj:j=0∨j=1∨j=2:=by omega
   rcases hj with rfl|rfl|rfl
   ·clear dz;have ix0:∀w:ο,(Instr.index 141 (φ #[J x1,J x2,J 0,J x1,J x2,J 1]) (J 0)).run η w=.ok (φ #[J x1,J x2,J 0]) w:=fun _=>by kernel_rfl
    go_upto_region 7 with fail
    have l6:=qh (HS.out.al (δ #[J x1,J x2,J 0] 32));have xP:=qh (HK.out.trans (aJ.of_below (az wr (δ #[J x1,J x2,J 0] 32))));have kx:Hid (Whole (wr.alloc (δ #[J x1,J x2,J 0] 32)) wr.heap.size 32 [J x1,J x2,J 0]):=qh (Whole.new_ _ _ [_,_,_]);have Nd:Hid (wr.heap.size≠g):=qh (kx.out.ne_ l6.out.s (by decide));obtain⟨W5,sC⟩:=aB (wr.alloc (δ #[J x1,J x2,J 0] 32));obtain⟨bd,Cc⟩:=aB wr.heap.size;rw[sC] at l6 xP kx ⊢;rw[Cc] at kx Nd ⊢;clear sC Cc HS HK;have nd:=Nd.out;have q0:∀w',Kept (fun b=>b=g) W5.drew w'→w'.cell? ⟨bd,0,ε⟩=ζ (J x1):=fun w' h=>h.cell (kx.out.dr.cell (i:=0) rfl) nd
    have q1:∀w',Kept (fun b=>b=g) W5.drew w'→w'.cell? ⟨bd,1,ε⟩=ζ (J x2):=fun w' h=>h.cell (kx.out.dr.cell (i:=1) rfl) nd
    have q2:∀w',Kept (fun b=>b=g) W5.drew w'→w'.cell? ⟨bd,2,ε⟩=ζ (J 0):=fun w' h=>h.cell (kx.out.dr.cell (i:=2) rfl) nd
    obtain⟨td,zY⟩:=aB (kW (Vs.map vS) (bh (x1,x2) 0))
    have YQ:Hid (∀X C r rc G,bK w lo g A n c Vs B m k Es C r rc G X→Ζ η 120 #[υ (ζ ⟨g,0,ε⟩),φ #[J x1,J x2,J 0]] X fun e w'=>e=.returned (φ #[J td.1,J td.2.1,J td.2.2])∧σ X.heap.size X w'):=qh (fun X C r rc G hX=>by
     have:=yy hX (by omega) BG.out (bh (x1,x2) 0)
     rw[zY] at this;exact this)
    have GTd:=qh zY;clear zY;refine ay (fun b=>b=g) (by kernel_rfl) ?_;refine aa 0 ?_;refine aa 1 ?_;refine aa 2 ?_;refine aa 3 ?_;refine mw 4 ?_;intro w' aC
    refine(YQ.out w' _ _ _ _ (l6.out.dr.bl aC)).mono ?_
    rintro e w6 ⟨rfl,oE⟩
    refine⟨_,rfl,Kept.of_below oE,?_⟩
    have iF:=qh ((l6.out.dr.bl aC).bl oE);have ki:=qh (xP.out.trans ((aJ.of_below ((Θ _ W5).drew.trans (aC.mono (Δ _)))).trans (aJ.of_below oE)));clear aC oE l6 xP kx YQ q0 q1 q2;simp only[ξ,aw,ar,aq];refine mw 5 ?_;intro w' aC
    refine(my (iF.out.bl aC) (bh (x1,x2) 0) td H4.out.2 H4.out.1).mono ?_
    rintro e w9 ⟨rfl,C9,r9,rF,iS,GK,ff,Iu⟩
    refine⟨_,rfl,Iu,?_⟩
    have fe:=qh iS;have km:=qh (ki.out.trans ((aJ.of_below aC).trans ff));rw[←GTd.out] at fe;clear iS GK ff Iu aC iF ki;simp only[ξ,aw,ar,aq];refine aF (by kernel_rfl) ?_ _;intro w8 cg;have kj:=qh (fe.out.bl cg);have mc:=qh (km.out.trans (aJ.of_below cg));clear cg fe km;go_wp2;go_roundw
    case rel=>exact⟨1,_,_,_,by omega,by go_num,kj,mc⟩
    case measure=>simp[intOf]
   ·clear dz;have ix1:∀w:ο,(Instr.index 141 (φ #[J x1,J x2,J 0,J x1,J x2,J 1]) (J 1)).run η w=.ok (φ #[J x1,J x2,J 1]) w:=fun _=>by kernel_rfl
    go_upto_region 7 with fail
    have l6:=qh (HS.out.al (δ #[J x1,J x2,J 1] 32));have xP:=qh (HK.out.trans (aJ.of_below (az wr (δ #[J x1,J x2,J 1] 32))));have kx:Hid (Whole (wr.alloc (δ #[J x1,J x2,J 1] 32)) wr.heap.size 32 [J x1,J x2,J 1]):=qh (Whole.new_ _ _ [_,_,_]);have Nd:Hid (wr.heap.size≠g):=qh (kx.out.ne_ l6.out.s (by decide));obtain⟨W5,sC⟩:=aB (wr.alloc (δ #[J x1,J x2,J 1] 32));obtain⟨bd,Cc⟩:=aB wr.heap.size;rw[sC] at l6 xP kx ⊢;rw[Cc] at kx Nd ⊢;clear sC Cc HS HK;have nd:=Nd.out;have q0:∀w',Kept (fun b=>b=g) W5.drew w'→w'.cell? ⟨bd,0,ε⟩=ζ (J x1):=fun w' h=>h.cell (kx.out.dr.cell (i:=0) rfl) nd
    have q1:∀w',Kept (fun b=>b=g) W5.drew w'→w'.cell? ⟨bd,1,ε⟩=ζ (J x2):=fun w' h=>h.cell (kx.out.dr.cell (i:=1) rfl) nd
    have q2:∀w',Kept (fun b=>b=g) W5.drew w'→w'.cell? ⟨bd,2,ε⟩=ζ (J 1):=fun w' h=>h.cell (kx.out.dr.cell (i:=2) rfl) nd
    obtain⟨td,zY⟩:=aB (kW (Vs.map vS) (bh (x1,x2) 1))
    have YQ:Hid (∀X C r rc G,bK w lo g A n c Vs B m k Es C r rc G X→Ζ η 120 #[υ (ζ ⟨g,0,ε⟩),φ #[J x1,J x2,J 1]] X fun e w'=>e=.returned (φ #[J td.1,J td.2.1,J td.2.2])∧σ X.heap.size X w'):=qh (fun X C r rc G hX=>by
     have:=yy hX (by omega) BG.out (bh (x1,x2) 1)
     rw[zY] at this;exact this)
    have GTd:=qh zY;clear zY;refine ay (fun b=>b=g) (by kernel_rfl) ?_;refine aa 0 ?_;refine aa 1 ?_;refine aa 2 ?_;refine aa 3 ?_;refine mw 4 ?_;intro w' aC
    refine(YQ.out w' _ _ _ _ (l6.out.dr.bl aC)).mono ?_
    rintro e w6 ⟨rfl,oE⟩
    refine⟨_,rfl,Kept.of_below oE,?_⟩
    have iF:=qh ((l6.out.dr.bl aC).bl oE);have ki:=qh (xP.out.trans ((aJ.of_below ((Θ _ W5).drew.trans (aC.mono (Δ _)))).trans (aJ.of_below oE)));clear aC oE l6 xP kx YQ q0 q1 q2;simp only[ξ,aw,ar,aq];refine mw 5 ?_;intro w' aC
    refine(my (iF.out.bl aC) (bh (x1,x2) 1) td H4.out.2 H4.out.1).mono ?_
    rintro e w9 ⟨rfl,C9,r9,rF,iS,GK,ff,Iu⟩
    refine⟨_,rfl,Iu,?_⟩
    have fe:=qh iS;have km:=qh (ki.out.trans ((aJ.of_below aC).trans ff));rw[←GTd.out] at fe;clear iS GK ff Iu aC iF ki;simp only[ξ,aw,ar,aq];refine aF (by kernel_rfl) ?_ _;intro w8 cg;have kj:=qh (fe.out.bl cg);have mc:=qh (km.out.trans (aJ.of_below cg));clear cg fe km;go_wp2;go_roundw
    case rel=>exact⟨2,_,_,_,by omega,by go_num,kj,mc⟩
    case measure=>simp[intOf]
   ·have eY:=qh (HK.out.w _ _ _ cF.out eh.out (by decide) (by decide) (by decide));have Ar:=qh (BF.out.trans HK.out);have j8:=HS;have c0:=eY.out.cell (i:=0) rfl;have c1:=eY.out.cell (i:=1) rfl;clear HS HK cF BF gE dz H4
    go_wp2_with (first
     |(go_at_call 115
       refine(lH x1 x2 _).mono ?_
       rintro e w5 ⟨rfl,fP⟩;have l6:=qh (j8.out.bl fP);have xP:=qh (Ar.out.trans (aJ.of_below fP));clear fP j8 eY Ar c0 c1))
    go_loopw [29] (fun i wr=>∃(j:Nat) (Us:List VC),j≤2∧i=J (j:Int)∧Hid (bK w lo g A n c Us B m k Es C r rc (sG (Vs.map vS) (x1,x2) G 2) wr)∧Hid (Us.map vS=AE (Vs.map vS) (x1,x2) j)∧Hid (aJ g W wr)) (fun i _=>2 - (intOf i).toNat)
    case atStart=>exact⟨0,Vs,by omega,rfl,l6,qh rfl,xP⟩
    case round=>
     clear l6 xP;obtain⟨j,Us,dz,rfl,HS,HU,HK⟩:=hrel;have hj:j=0∨j=1∨j=2:=by omega
     rcases hj with rfl|rfl|rfl
     ·clear dz;have ix0:∀w:ο,(Instr.index 141 (φ #[J x1,J x2,J 0,J x1,J x2,J 1]) (J 0)).run η w=.ok (φ #[J x1,J x2,J 0]) w:=fun _=>by kernel_rfl
      go_upto_region 12 with fail
      have l6:=qh (HS.out.al (δ #[J x1,J x2,J 0] 32));have xP:=qh (HK.out.trans (aJ.of_below (az wr (δ #[J x1,J x2,J 0] 32))));have kx:Hid (Whole (wr.alloc (δ #[J x1,J x2,J 0] 32)) wr.heap.size 32 [J x1,J x2,J 0]):=qh (Whole.new_ _ _ [_,_,_]);have Nd:Hid (wr.heap.size≠g):=qh (kx.out.ne_ l6.out.s (by decide));obtain⟨W5,sC⟩:=aB (wr.alloc (δ #[J x1,J x2,J 0] 32));obtain⟨bd,Cc⟩:=aB wr.heap.size;rw[sC] at l6 xP kx ⊢;rw[Cc] at kx Nd ⊢;clear sC Cc HS HK
      go_wp2_with (first
       |(go_at_call 121
         refine(vP l6.out (by omega) (fun u hu=>Λ (rV l6.out HU.out (Iw.out 0) u hu) (by decide)) 122 (ζ ⟨bd,0,ε⟩) (fun l=>aM (jy l (bh (x1,x2) 0))) (fun X=>Whole X bd 32 [J x1,J x2,J 0]) kx.out (fun X Y hx hk=>hk.w _ _ _ hx Nd.out (by decide) (by decide) (by decide)) Eg.out (fun X A n c L hx hr hn=>Dm A n c bd L (bh (x1,x2) 0) X hr hx hn)).mono ?_
         rintro e w9 ⟨rfl,Us9,iS,hu9,ff⟩;have kj:=qh iS;have mc:=qh (xP.out.trans ff);have Oo:Hid (Us9.map vS=AE (Vs.map vS) (x1,x2) 1):=qh (by rw[hu9,HU.out];rfl);clear iS hu9 ff l6 xP kx HU))
      go_roundw
      case rel=>exact⟨1,_,by omega,by go_num,kj,Oo,mc⟩
      case measure=>simp[intOf]
     ·clear dz;have ix1:∀w:ο,(Instr.index 141 (φ #[J x1,J x2,J 0,J x1,J x2,J 1]) (J 1)).run η w=.ok (φ #[J x1,J x2,J 1]) w:=fun _=>by kernel_rfl
      go_upto_region 12 with fail
      have l6:=qh (HS.out.al (δ #[J x1,J x2,J 1] 32));have xP:=qh (HK.out.trans (aJ.of_below (az wr (δ #[J x1,J x2,J 1] 32))));have kx:Hid (Whole (wr.alloc (δ #[J x1,J x2,J 1] 32)) wr.heap.size 32 [J x1,J x2,J 1]):=qh (Whole.new_ _ _ [_,_,_]);have Nd:Hid (wr.heap.size≠g):=qh (kx.out.ne_ l6.out.s (by decide));obtain⟨W5,sC⟩:=aB (wr.alloc (δ #[J x1,J x2,J 1] 32));obtain⟨bd,Cc⟩:=aB wr.heap.size;rw[sC] at l6 xP kx ⊢;rw[Cc] at kx Nd ⊢;clear sC Cc HS HK
      go_wp2_with (first
       |(go_at_call 121
         refine(vP l6.out (by omega) (fun u hu=>Λ (rV l6.out HU.out (Iw.out 1) u hu) (by decide)) 122 (ζ ⟨bd,0,ε⟩) (fun l=>aM (jy l (bh (x1,x2) 1))) (fun X=>Whole X bd 32 [J x1,J x2,J 1]) kx.out (fun X Y hx hk=>hk.w _ _ _ hx Nd.out (by decide) (by decide) (by decide)) Eg.out (fun X A n c L hx hr hn=>Dm A n c bd L (bh (x1,x2) 1) X hr hx hn)).mono ?_
         rintro e w9 ⟨rfl,Us9,iS,hu9,ff⟩;have kj:=qh iS;have mc:=qh (xP.out.trans ff);have Oo:Hid (Us9.map vS=AE (Vs.map vS) (x1,x2) 2):=qh (by rw[hu9,HU.out];rfl);clear iS hu9 ff l6 xP kx HU))
      go_roundw
      case rel=>exact⟨2,_,by omega,by go_num,kj,Oo,mc⟩
      case measure=>simp[intOf]
     ·go_wp2_with (first
       |(go_at_call 124
         refine(Ds HS.out i Uz.out (by omega)).mono ?_
         rintro e w9 ⟨rfl,B9,k9,iS,ff⟩;have fe:=qh iS;have km:=qh (HK.out.trans ff);clear iS ff HS HK))
      go_ret;exact cG.yes HR.out rfl km.out fe.out (by rw[HU.out,OQ.out])
end
theorem Dl {Es:List EC} (hu:od (fun e:EC=>e.1) Es) {i:Nat} {v:EC} {x:Nm} (hv:Es[i]? =ζ v) (hx:v.1=x) (f:ByteArray × Int→ByteArray × Int):Es.set i (v.1,f v.2)=o6 Es x f:=by
 subst hx;apply List.ext_getElem?;intro j;unfold o6;rw[Jbz,Ψ];have hi:=(ν.1 hv).1
 by_cases ur:i=j
 ·subst ur;rw[if_pos rfl,if_pos hi,hv];show _=ζ (if v.1=v.1 then _ else _);rw[if_pos rfl]
 ·rw[if_neg ur];cases hj:Es[j]? with
  |none=>rfl
  |some u=>
   have bj:¬u.1=v.1:=fun e=>by
    have h1:(Es.map (·.1))[j]? =ζ u.1:=by rw[Ψ,hj];rfl
    have h2:(Es.map (·.1))[i]? =ζ v.1:=by rw[Ψ,hv];rfl
    have hj':=(ν.1 hj).1;exact ur ((List.getElem?_inj (by simpa using hi) hu.nodup).1 (h2.trans (by rw[h1,e])))
   show ζ u=ζ (if u.1=v.1 then _ else u);rw[if_neg bj]
theorem DM {Vs:List VC} (hu:od (fun v:VS=>v.1) (Vs.map vS)) {i:Nat} {v:VC} {x:Nm} (hv:Vs[i]? =ζ v) (hx:v.1=x) (f:ByteArray × Int→ByteArray × Int):(Vs.set i (v.1,v.2.1,f v.2.2)).map vS=lg (Vs.map vS) x f:=by
 subst hx;apply List.ext_getElem?;intro j;unfold lg;rw[List.map_set,Jbz,Ψ,Ψ,Ψ,Ρ];have hi:=(ν.1 hv).1
 by_cases ur:i=j
 ·subst ur;rw[if_pos rfl,if_pos hi,hv];show _=ζ (if v.1=v.1 then _ else _);rw[if_pos rfl];rfl
 ·rw[if_neg ur];cases hj:Vs[j]? with
  |none=>rfl
  |some u=>
   have bj:¬u.1=v.1:=fun e=>by
    have h1:(Vs.map (·.1))[j]? =ζ u.1:=by rw[Ψ,hj];rfl
    have h2:(Vs.map (·.1))[i]? =ζ v.1:=by rw[Ψ,hv];rfl
    exact ur ((List.getElem?_inj (by simpa using hi) (iB Vs▸hu.nodup)).1 (h2.trans (by rw[h1,e])))
   show ζ (vS u)=ζ (if u.1=v.1 then _ else vS u);rw[if_neg bj]
section
variable {w W:ο} {lo g:Nat} {A:Option Κ} {n c:Nat} {Vs:List VC} {B:Option Κ} {m k:Nat} {Es:List EC} {C:Option Κ} {r rc:Nat} {G:List Gn}
theorem tY (h:bK w lo g A n c Vs B m k Es C r rc G W) (hn:m≤1000) (o:dR) (he:o.e=τ) (i:Nat) (hi:i<m) (hid:dX (fun v:EC=>v.1) Es (o.s,o.n)=(i:Int)):Ζ η 131 #[υ (ζ ⟨g,0,ε⟩),φ (ak o).toArray] W fun e w'=>∃b,B=ζ ⟨b,0,ε⟩∧e=.returned (Ξ #[υ (ζ ⟨b,i*4+2,ε⟩),υ (ζ ⟨b,i*4+3,ε⟩)])∧σ W.heap.size W w':=by
 obtain⟨b,junk,rfl,fw,-⟩:=cN h.e (by omega);have hiI:(i:Int)<(m:Int):=by omega
 have HI:Hid (∀X,bK w lo g A n c Vs (ζ ⟨b,0,ε⟩) m k Es C r rc G X→Ζ η 113 #[υ (ζ ⟨g,0,ε⟩),φ #[J o.s,J o.n]] X fun e w'=>e=.returned (J ((i:Int)))∧σ X.heap.size X w'):=qh (fun X hX=>by rw[←hid];exact dG g A n c (ζ ⟨b,0,ε⟩) m k C r rc o.s o.n Es X hX.s (aK hX.e) (by omega));clear hid;have H:=qh h;clear h;go_enter Tryz.func131,Tryz.ntmps131;go_upto_region 1 with fail
 obtain⟨W1,aV⟩:=aB (W.alloc (δ (ak o).toArray 36));have aL:Hid (Whole W1 W.heap.size 36 (ak o)):=qh (by rw[←aV];exact Whole.new_ _ _ _);have cB:Hid (bK w lo g A n c Vs (ζ ⟨b,0,ε⟩) m k Es C r rc G W1):=qh (by rw[←aV];exact H.out.al _);have bE:Hid (σ W.heap.size W W1):=qh (by rw[←aV];exact az _ _);rw[aV];clear aV H;have Nb:Hid (W.heap.size≠g):=qh (aL.out.ne_ cB.out.s (by decide));obtain⟨b0,bp⟩:=aB W.heap.size;rw[bp] at aL Nb ⊢;clear bp;have rD:=aL.out.cell (i:=1) rfl;have sW:=aL.out.cell (i:=2) rfl;have AN:=aL.out.cell (i:=17) rfl
 go_upto_region 4 with (first
  |(go_at_call 113
    refine(HI.out _ cB.out).mono ?_
    rintro e w2 ⟨rfl,aP⟩;have cY:=qh (cB.out.bl aP);have bG:=qh (ag bE.out aP);clear aP cB aL bE rD sW AN))
 obtain⟨W3,kh⟩:=aB w2;rw[kh] at cY bG ⊢;clear kh;have fL:∀w',Kept aO W3.drew w'→w'.cell? ⟨g,1,ε⟩=ζ (γ (ζ ⟨b,0,ε⟩) m k):=fun w' h=>h.nil_cell (cY.out.dr.s.cell (i:=1) rfl)
 refine ay (aO) (by kernel_rfl) ?_;refine aa 0 ?_;refine aa 1 ?_;refine aa 2 ?_;refine aa 3 ?_;refine aa 4 ?_;refine aa 5 ?_;refine aa 6 ?_;refine aa 7 ?_;refine aa 8 ?_;refine aa 9 ?_;refine aa 10 ?_;refine aa 11 ?_;refine aa 12 ?_;refine aa 13 ?_;refine aa 14 ?_;refine aa 15 ?_;refine aa 16 ?_;refine aa 17 ?_;refine aF (by kernel_rfl) ?_ _;intro w8 cg;have nV:=qh (ag (aN bG.out) cg);clear cg bG cY fL;go_wp2;go_ret2
 first|exact⟨b,rfl,rfl,nV.out⟩|exact⟨b,rfl,by simp,nV.out⟩
theorem Az (h:bK w lo g A n c Vs B m k Es C r rc G W) (hn:m≤1000) (o:dR) (he:o.e=τ) (hid:dX (fun v:EC=>v.1) Es (o.s,o.n)= -1):Ζ η 131 #[υ (ζ ⟨g,0,ε⟩),φ (ak o).toArray] W fun e w'=>e=.returned (Ξ #[υ ε,υ ε])∧σ W.heap.size W w':=by
 have HI:Hid (∀X,bK w lo g A n c Vs B m k Es C r rc G X→Ζ η 113 #[υ (ζ ⟨g,0,ε⟩),φ #[J o.s,J o.n]] X fun e w'=>e=.returned (J (-1))∧σ X.heap.size X w'):=qh (fun X hX=>by rw[←hid];exact dG g A n c B m k C r rc o.s o.n Es X hX.s (aK hX.e) (by omega));clear hid;have H:=qh h;clear h;go_enter Tryz.func131,Tryz.ntmps131;go_upto_region 1 with fail
 obtain⟨W1,aV⟩:=aB (W.alloc (δ (ak o).toArray 36));have aL:Hid (Whole W1 W.heap.size 36 (ak o)):=qh (by rw[←aV];exact Whole.new_ _ _ _);have cB:Hid (bK w lo g A n c Vs B m k Es C r rc G W1):=qh (by rw[←aV];exact H.out.al _);have bE:Hid (σ W.heap.size W W1):=qh (by rw[←aV];exact az _ _);rw[aV];clear aV H;have Nb:Hid (W.heap.size≠g):=qh (aL.out.ne_ cB.out.s (by decide));obtain⟨b0,bp⟩:=aB W.heap.size;rw[bp] at aL Nb ⊢;clear bp;have rD:=aL.out.cell (i:=1) rfl;have sW:=aL.out.cell (i:=2) rfl;have AN:=aL.out.cell (i:=17) rfl
 go_wp2_with (first
  |(go_at_call 113
    refine(HI.out _ cB.out).mono ?_
    rintro e w2 ⟨rfl,aP⟩;have cY:=qh (cB.out.bl aP);have bG:=qh (ag bE.out aP);clear aP cB aL bE rD sW AN))
 go_ret2;exact⟨rfl,bG.out⟩
theorem uE (h:bK w lo g A n c Vs B m k Es C r rc G W) (hn:n≤1000) (o:dR) (he:o.e=ρ) (i:Nat) (hi:i<n) (hid:dX (fun v:VC=>v.1) Vs (o.s,o.n)=(i:Int)):Ζ η 131 #[υ (ζ ⟨g,0,ε⟩),φ (ak o).toArray] W fun e w'=>∃b,A=ζ ⟨b,0,ε⟩∧e=.returned (Ξ #[υ (ζ ⟨b,i*5+3,ε⟩),υ (ζ ⟨b,i*5+4,ε⟩)])∧σ W.heap.size W w':=by
 obtain⟨b,junk,rfl,fw,-⟩:=cN h.v (by omega);have hiI:(i:Int)<(n:Int):=by omega
 have HI:Hid (∀X,bK w lo g (ζ ⟨b,0,ε⟩) n c Vs B m k Es C r rc G X→Ζ η 110 #[υ (ζ ⟨g,0,ε⟩),φ #[J o.s,J o.n]] X fun e w'=>e=.returned (J ((i:Int)))∧σ X.heap.size X w'):=qh (fun X hX=>by rw[←hid];exact fB g (ζ ⟨b,0,ε⟩) n c B m k C r rc o.s o.n Vs X hX.s (aK hX.v) (by omega));clear hid;have H:=qh h;clear h;go_enter Tryz.func131,Tryz.ntmps131;go_upto_region 1 with fail
 obtain⟨W1,aV⟩:=aB (W.alloc (δ (ak o).toArray 36));have aL:Hid (Whole W1 W.heap.size 36 (ak o)):=qh (by rw[←aV];exact Whole.new_ _ _ _);have cB:Hid (bK w lo g (ζ ⟨b,0,ε⟩) n c Vs B m k Es C r rc G W1):=qh (by rw[←aV];exact H.out.al _);have bE:Hid (σ W.heap.size W W1):=qh (by rw[←aV];exact az _ _);rw[aV];clear aV H;have Nb:Hid (W.heap.size≠g):=qh (aL.out.ne_ cB.out.s (by decide));obtain⟨b0,bp⟩:=aB W.heap.size;rw[bp] at aL Nb ⊢;clear bp;have rD:=aL.out.cell (i:=1) rfl;have sW:=aL.out.cell (i:=2) rfl;have AN:=aL.out.cell (i:=17) rfl
 go_upto_region 8 with (first
  |(go_at_call 110
    refine(HI.out _ cB.out).mono ?_
    rintro e w2 ⟨rfl,aP⟩;have cY:=qh (cB.out.bl aP);have bG:=qh (ag bE.out aP);clear aP cB aL bE rD sW AN))
 obtain⟨W3,kh⟩:=aB w2;rw[kh] at cY bG ⊢;clear kh;have fL:∀w',Kept aO W3.drew w'→w'.cell? ⟨g,0,ε⟩=ζ (γ (ζ ⟨b,0,ε⟩) n c):=fun w' h=>h.nil_cell (cY.out.dr.s.cell (i:=0) rfl)
 refine ay (aO) (by kernel_rfl) ?_;refine aa 0 ?_;refine aa 1 ?_;refine aa 2 ?_;refine aa 3 ?_;refine aa 4 ?_;refine aa 5 ?_;refine aa 6 ?_;refine aa 7 ?_;refine aa 8 ?_;refine aa 9 ?_;refine aa 10 ?_;refine aa 11 ?_;refine aa 12 ?_;refine aa 13 ?_;refine aa 14 ?_;refine aa 15 ?_;refine aa 16 ?_;refine aa 17 ?_;refine aF (by kernel_rfl) ?_ _;intro w8 cg;have nV:=qh (ag (aN bG.out) cg);clear cg bG cY fL;go_wp2;go_ret2
 first|exact⟨b,rfl,rfl,nV.out⟩|exact⟨b,rfl,by simp,nV.out⟩
theorem AB (h:bK w lo g A n c Vs B m k Es C r rc G W) (hn:n≤1000) (o:dR) (he:o.e=ρ) (hid:dX (fun v:VC=>v.1) Vs (o.s,o.n)= -1):Ζ η 131 #[υ (ζ ⟨g,0,ε⟩),φ (ak o).toArray] W fun e w'=>e=.returned (Ξ #[υ ε,υ ε])∧σ W.heap.size W w':=by
 have HI:Hid (∀X,bK w lo g A n c Vs B m k Es C r rc G X→Ζ η 110 #[υ (ζ ⟨g,0,ε⟩),φ #[J o.s,J o.n]] X fun e w'=>e=.returned (J (-1))∧σ X.heap.size X w'):=qh (fun X hX=>by rw[←hid];exact fB g A n c B m k C r rc o.s o.n Vs X hX.s (aK hX.v) (by omega));clear hid;have H:=qh h;clear h;go_enter Tryz.func131,Tryz.ntmps131;go_upto_region 1 with fail
 obtain⟨W1,aV⟩:=aB (W.alloc (δ (ak o).toArray 36));have aL:Hid (Whole W1 W.heap.size 36 (ak o)):=qh (by rw[←aV];exact Whole.new_ _ _ _);have cB:Hid (bK w lo g A n c Vs B m k Es C r rc G W1):=qh (by rw[←aV];exact H.out.al _);have bE:Hid (σ W.heap.size W W1):=qh (by rw[←aV];exact az _ _);rw[aV];clear aV H;have Nb:Hid (W.heap.size≠g):=qh (aL.out.ne_ cB.out.s (by decide));obtain⟨b0,bp⟩:=aB W.heap.size;rw[bp] at aL Nb ⊢;clear bp;have rD:=aL.out.cell (i:=1) rfl;have sW:=aL.out.cell (i:=2) rfl;have AN:=aL.out.cell (i:=17) rfl
 go_wp2_with (first
  |(go_at_call 110
    refine(HI.out _ cB.out).mono ?_
    rintro e w2 ⟨rfl,aP⟩;have cY:=qh (cB.out.bl aP);have bG:=qh (ag bE.out aP);clear aP cB aL bE rD sW AN))
 go_ret2;exact⟨rfl,bG.out⟩
theorem zi (h:bK w lo g A n c Vs B m k Es C r rc G W) (hS:gD (Vs.map vS,Es,G)) (o:dR) (kZ:(o.e=τ∧bI Es (o.s,o.n)=ρ)∨(o.e=ρ∧bu (Vs.map vS) (o.s,o.n)=ρ)):Ζ η 96 #[υ (ζ ⟨g,0,ε⟩),φ (ak o).toArray] W (cG w W lo g (setS (Vs.map vS,Es,G) (bL o) o.e (fV o))):=by
 obtain⟨hn,hm,hr,fy⟩:=hS.n24 h;have ni:n≤1000:=by omega
 have KZ:m≤1000:=by omega
 have HR:Hid (setS (Vs.map vS,Es,G) (bL o) o.e (fV o)=(dv,13)):=qh (by
  unfold setS bL;rcases kZ with⟨h1,h2⟩|⟨h1,h2⟩
  ·rw[if_pos h1,if_neg (by rw[h2];decide)]
  ·rw[if_neg (by rw[h1];decide),if_neg (by rw[h2];decide)])
 have HF:Hid (∀X,bK w lo g A n c Vs B m k Es C r rc G X→Ζ η 131 #[υ (ζ ⟨g,0,ε⟩),φ (ak o).toArray] X fun e w'=>e=.returned (Ξ #[υ ε,υ ε])∧σ X.heap.size X w'):=qh (fun X hX=>by
  rcases kZ with⟨h1,h2⟩|⟨h1,h2⟩
  ·exact Az hX KZ o h1 (dH (k:=fun v:EC=>v.1) (l:=Es) h2)
  ·exact AB hX ni o h1 (dH (k:=fun v:VC=>v.1) (l:=Vs) ((cx Vs _).trans h2)))
 clear kZ hS fy;have H:=qh h;clear h;go_enter Tryz.func96,Tryz.ntmps96;go_upto_region 1 with fail
 obtain⟨W1,aV⟩:=aB (W.alloc (δ (ak o).toArray 36));have aL:Hid (Whole W1 W.heap.size 36 (ak o)):=qh (by rw[←aV];exact Whole.new_ _ _ _);have cB:Hid (bK w lo g A n c Vs B m k Es C r rc G W1):=qh (by rw[←aV];exact H.out.al _);have bE:Hid (σ W.heap.size W W1):=qh (by rw[←aV];exact az _ _);rw[aV];clear aV H;have Nb:Hid (W.heap.size≠g):=qh (aL.out.ne_ cB.out.s (by decide));obtain⟨b0,bp⟩:=aB W.heap.size;rw[bp] at aL Nb ⊢;clear bp;refine Jam ?_;refine a7 (v:=?_) (ζ 8) rfl (by rfl) ?_ ?_;rotate_left
 ·go_simp;(try with_reducible rfl)
 simp only[ξ,aw,ar,aq];refine eJ (ζ 9) rfl (by rfl) 36 (.tmp 3) rfl b0 rfl 36 (ak o) _ aL.out Tryz.underlying36 rfl (by kernel_rfl) ?_;simp only[ξ,aw,ar,aq]
 go_wp2_with (first
  |(go_at_call 131
    refine(HF.out _ cB.out).mono ?_
    rintro e w2 ⟨rfl,aP⟩;have cY:=qh (cB.out.bl aP);have jG:=qh (aJ.of_below (g:=g) (ag bE.out aP));clear cB aP))
 go_ret;exact cG.no HR.out (by decide) rfl cY.out.below jG.out
theorem Ky (h:bK w lo g A n c Vs B m k Es C r rc G W) (hS:gD (Vs.map vS,Es,G)) (o:dR) (he:o.e=τ) (hh:bI Es (o.s,o.n)=τ) (hk:o.k=7):Ζ η 96 #[υ (ζ ⟨g,0,ε⟩),φ (ak o).toArray] W (cG w W lo g (setS (Vs.map vS,Es,G) (bL o) o.e (fV o))):=by
 obtain⟨hn,hm,hr,fy⟩:=hS.n24 h;have ni:n≤1000:=by omega
 have KZ:m≤1000:=by omega
 obtain⟨i,v,e1,e2,e3,e4⟩:=(ck (k:=fun v:EC=>v.1) (l:=Es) hh);have hi:i<m:=by rw[←h.elen];exact e4
 have e3:v.1=(o.s,o.n):=e3
 have HR:Hid (setS (Vs.map vS,Es,G) (bL o) o.e (fV o)=((Vs.map vS,o6 Es (o.s,o.n) (fV o),G),0)):=qh (by
  unfold setS bL;rw[if_pos he,if_pos hh])
 have hp:fV o v.2=(o.t,v.2.2):=(by unfold fV;rw[if_pos hk]);have HU:=qh (Dl hS.fit.eup e2 e3 (fV o));rw[hp] at HU;have HV:=qh e2;have HF:Hid (∀X,bK w lo g A n c Vs B m k Es C r rc G X→Ζ η 131 #[υ (ζ ⟨g,0,ε⟩),φ (ak o).toArray] X fun e w'=>∃b,B=ζ ⟨b,0,ε⟩∧e=.returned (Ξ #[υ (ζ ⟨b,i*4+2,ε⟩),υ (ζ ⟨b,i*4+3,ε⟩)])∧σ X.heap.size X w'):=qh (fun X hX=>tY hX KZ o he i hi e1);clear hS fy hh e1 e2 e3 e4 hp;have H:=qh h;clear h;go_enter Tryz.func96,Tryz.ntmps96;go_upto_region 1 with fail
 obtain⟨W1,aV⟩:=aB (W.alloc (δ (ak o).toArray 36));have aL:Hid (Whole W1 W.heap.size 36 (ak o)):=qh (by rw[←aV];exact Whole.new_ _ _ _);have cB:Hid (bK w lo g A n c Vs B m k Es C r rc G W1):=qh (by rw[←aV];exact H.out.al _);have bE:Hid (σ W.heap.size W W1):=qh (by rw[←aV];exact az _ _);rw[aV];clear aV H;have Nb:Hid (W.heap.size≠g):=qh (aL.out.ne_ cB.out.s (by decide));obtain⟨b0,bp⟩:=aB W.heap.size;rw[bp] at aL Nb ⊢;clear bp;refine Jam ?_;refine a7 (v:=?_) (ζ 8) rfl (by rfl) ?_ ?_;rotate_left
 ·go_simp;(try with_reducible rfl)
 simp only[ξ,aw,ar,aq];refine eJ (ζ 9) rfl (by rfl) 36 (.tmp 3) rfl b0 rfl 36 (ak o) _ aL.out Tryz.underlying36 rfl (by kernel_rfl) ?_;simp only[ξ,aw,ar,aq]
 go_wp2_with (first
  |(go_at_call 131
    refine(HF.out _ cB.out).mono ?_
    rintro e w2 ⟨b,hb,rfl,aP⟩;have cY:=qh (cB.out.bl aP);have aZ:=qh (aL.out.bl aP);have jG:=qh (aJ.of_below (g:=g) (ag bE.out aP));clear cB aP aL bE;obtain⟨b8,Xy,e9,-,-,EU,PT,iS,ff⟩:=cY.out.cellE (v':=(v.1,o.t,v.2.2)) (j:=2) (u:=μ o.t) HV.out (by decide) rfl
    obtain rfl:b=b8:=by
     rw[hb] at e9;injection e9 with e9
     injection e9
    have fe:=qh iS;have km:=qh (jG.out.trans ff);clear iS ff e9 hb;have lk:=aZ.out.cell (i:=0) rfl;have lt:=aZ.out.cell (i:=18) rfl;have lm:=aZ.out.cell (i:=19) rfl))
 go_ret;exact cG.yes HR.out rfl km.out fe.out (by rw[←HU.out])
theorem Kh (h:bK w lo g A n c Vs B m k Es C r rc G W) (hS:gD (Vs.map vS,Es,G)) (o:dR) (he:o.e=τ) (hh:bI Es (o.s,o.n)=τ) (hk:¬o.k=7):Ζ η 96 #[υ (ζ ⟨g,0,ε⟩),φ (ak o).toArray] W (cG w W lo g (setS (Vs.map vS,Es,G) (bL o) o.e (fV o))):=by
 obtain⟨hn,hm,hr,fy⟩:=hS.n24 h;have ni:n≤1000:=by omega
 have KZ:m≤1000:=by omega
 obtain⟨i,v,e1,e2,e3,e4⟩:=(ck (k:=fun v:EC=>v.1) (l:=Es) hh);have hi:i<m:=by rw[←h.elen];exact e4
 have e3:v.1=(o.s,o.n):=e3
 have HR:Hid (setS (Vs.map vS,Es,G) (bL o) o.e (fV o)=((Vs.map vS,o6 Es (o.s,o.n) (fV o),G),0)):=qh (by
  unfold setS bL;rw[if_pos he,if_pos hh])
 have hp:fV o v.2=(v.2.1,o.m):=(by unfold fV;rw[if_neg hk]);have HU:=qh (Dl hS.fit.eup e2 e3 (fV o));rw[hp] at HU;have HV:=qh e2;have HF:Hid (∀X,bK w lo g A n c Vs B m k Es C r rc G X→Ζ η 131 #[υ (ζ ⟨g,0,ε⟩),φ (ak o).toArray] X fun e w'=>∃b,B=ζ ⟨b,0,ε⟩∧e=.returned (Ξ #[υ (ζ ⟨b,i*4+2,ε⟩),υ (ζ ⟨b,i*4+3,ε⟩)])∧σ X.heap.size X w'):=qh (fun X hX=>tY hX KZ o he i hi e1);clear hS fy hh e1 e2 e3 e4 hp;have H:=qh h;clear h;go_enter Tryz.func96,Tryz.ntmps96;go_upto_region 1 with fail
 obtain⟨W1,aV⟩:=aB (W.alloc (δ (ak o).toArray 36));have aL:Hid (Whole W1 W.heap.size 36 (ak o)):=qh (by rw[←aV];exact Whole.new_ _ _ _);have cB:Hid (bK w lo g A n c Vs B m k Es C r rc G W1):=qh (by rw[←aV];exact H.out.al _);have bE:Hid (σ W.heap.size W W1):=qh (by rw[←aV];exact az _ _);rw[aV];clear aV H;have Nb:Hid (W.heap.size≠g):=qh (aL.out.ne_ cB.out.s (by decide));obtain⟨b0,bp⟩:=aB W.heap.size;rw[bp] at aL Nb ⊢;clear bp;refine Jam ?_;refine a7 (v:=?_) (ζ 8) rfl (by rfl) ?_ ?_;rotate_left
 ·go_simp;(try with_reducible rfl)
 simp only[ξ,aw,ar,aq];refine eJ (ζ 9) rfl (by rfl) 36 (.tmp 3) rfl b0 rfl 36 (ak o) _ aL.out Tryz.underlying36 rfl (by kernel_rfl) ?_;simp only[ξ,aw,ar,aq]
 go_wp2_with (first
  |(go_at_call 131
    refine(HF.out _ cB.out).mono ?_
    rintro e w2 ⟨b,hb,rfl,aP⟩;have cY:=qh (cB.out.bl aP);have aZ:=qh (aL.out.bl aP);have jG:=qh (aJ.of_below (g:=g) (ag bE.out aP));clear cB aP aL bE;obtain⟨b8,Xy,e9,-,-,EU,PT,iS,ff⟩:=cY.out.cellE (v':=(v.1,v.2.1,o.m)) (j:=3) (u:=J o.m) HV.out (by decide) rfl
    obtain rfl:b=b8:=by
     rw[hb] at e9;injection e9 with e9
     injection e9
    have fe:=qh iS;have km:=qh (jG.out.trans ff);clear iS ff e9 hb;have lk:=aZ.out.cell (i:=0) rfl;have lt:=aZ.out.cell (i:=18) rfl;have lm:=aZ.out.cell (i:=19) rfl))
 go_ret;exact cG.yes HR.out rfl km.out fe.out (by rw[←HU.out])
theorem JB (h:bK w lo g A n c Vs B m k Es C r rc G W) (hS:gD (Vs.map vS,Es,G)) (o:dR) (he:o.e=ρ) (hh:bu (Vs.map vS) (o.s,o.n)=τ) (hk:o.k=7):Ζ η 96 #[υ (ζ ⟨g,0,ε⟩),φ (ak o).toArray] W (cG w W lo g (setS (Vs.map vS,Es,G) (bL o) o.e (fV o))):=by
 obtain⟨hn,hm,hr,fy⟩:=hS.n24 h;have ni:n≤1000:=by omega
 have KZ:m≤1000:=by omega
 obtain⟨i,v,e1,e2,e3,e4⟩:=(ck (k:=fun v:VC=>v.1) (l:=Vs) ((cx Vs _).trans hh));have hi:i<n:=by rw[←h.vlen];exact e4
 have e3:v.1=(o.s,o.n):=e3
 have HR:Hid (setS (Vs.map vS,Es,G) (bL o) o.e (fV o)=((lg (Vs.map vS) (o.s,o.n) (fV o),Es,G),0)):=qh (by
  unfold setS bL;rw[if_neg (by rw[he];decide),if_pos hh])
 have hp:fV o v.2.2=(o.t,v.2.2.2):=(by unfold fV;rw[if_pos hk]);have HU:=qh (DM hS.fit.vup e2 e3 (fV o));rw[hp] at HU;have HV:=qh e2;have HF:Hid (∀X,bK w lo g A n c Vs B m k Es C r rc G X→Ζ η 131 #[υ (ζ ⟨g,0,ε⟩),φ (ak o).toArray] X fun e w'=>∃b,A=ζ ⟨b,0,ε⟩∧e=.returned (Ξ #[υ (ζ ⟨b,i*5+3,ε⟩),υ (ζ ⟨b,i*5+4,ε⟩)])∧σ X.heap.size X w'):=qh (fun X hX=>uE hX ni o he i hi e1);clear hS fy hh e1 e2 e3 e4 hp;have H:=qh h;clear h;go_enter Tryz.func96,Tryz.ntmps96;go_upto_region 1 with fail
 obtain⟨W1,aV⟩:=aB (W.alloc (δ (ak o).toArray 36));have aL:Hid (Whole W1 W.heap.size 36 (ak o)):=qh (by rw[←aV];exact Whole.new_ _ _ _);have cB:Hid (bK w lo g A n c Vs B m k Es C r rc G W1):=qh (by rw[←aV];exact H.out.al _);have bE:Hid (σ W.heap.size W W1):=qh (by rw[←aV];exact az _ _);rw[aV];clear aV H;have Nb:Hid (W.heap.size≠g):=qh (aL.out.ne_ cB.out.s (by decide));obtain⟨b0,bp⟩:=aB W.heap.size;rw[bp] at aL Nb ⊢;clear bp;refine Jam ?_;refine a7 (v:=?_) (ζ 8) rfl (by rfl) ?_ ?_;rotate_left
 ·go_simp;(try with_reducible rfl)
 simp only[ξ,aw,ar,aq];refine eJ (ζ 9) rfl (by rfl) 36 (.tmp 3) rfl b0 rfl 36 (ak o) _ aL.out Tryz.underlying36 rfl (by kernel_rfl) ?_;simp only[ξ,aw,ar,aq]
 go_wp2_with (first
  |(go_at_call 131
    refine(HF.out _ cB.out).mono ?_
    rintro e w2 ⟨b,hb,rfl,aP⟩;have cY:=qh (cB.out.bl aP);have aZ:=qh (aL.out.bl aP);have jG:=qh (aJ.of_below (g:=g) (ag bE.out aP));clear cB aP aL bE;obtain⟨b8,Xy,e9,-,-,EU,PT,iS,ff⟩:=cY.out.cellV (v':=(v.1,v.2.1,o.t,v.2.2.2)) (j:=3) (u:=μ o.t) HV.out (by decide) rfl (.inl rfl)
    obtain rfl:b=b8:=by
     rw[hb] at e9;injection e9 with e9
     injection e9
    have fe:=qh iS;have km:=qh (jG.out.trans ff);clear iS ff e9 hb;have lk:=aZ.out.cell (i:=0) rfl;have lt:=aZ.out.cell (i:=18) rfl;have lm:=aZ.out.cell (i:=19) rfl))
 go_ret;exact cG.yes HR.out rfl km.out fe.out (by rw[←HU.out])
theorem J5 (h:bK w lo g A n c Vs B m k Es C r rc G W) (hS:gD (Vs.map vS,Es,G)) (o:dR) (he:o.e=ρ) (hh:bu (Vs.map vS) (o.s,o.n)=τ) (hk:¬o.k=7):Ζ η 96 #[υ (ζ ⟨g,0,ε⟩),φ (ak o).toArray] W (cG w W lo g (setS (Vs.map vS,Es,G) (bL o) o.e (fV o))):=by
 obtain⟨hn,hm,hr,fy⟩:=hS.n24 h;have ni:n≤1000:=by omega
 have KZ:m≤1000:=by omega
 obtain⟨i,v,e1,e2,e3,e4⟩:=(ck (k:=fun v:VC=>v.1) (l:=Vs) ((cx Vs _).trans hh));have hi:i<n:=by rw[←h.vlen];exact e4
 have e3:v.1=(o.s,o.n):=e3
 have HR:Hid (setS (Vs.map vS,Es,G) (bL o) o.e (fV o)=((lg (Vs.map vS) (o.s,o.n) (fV o),Es,G),0)):=qh (by
  unfold setS bL;rw[if_neg (by rw[he];decide),if_pos hh])
 have hp:fV o v.2.2=(v.2.2.1,o.m):=(by unfold fV;rw[if_neg hk]);have HU:=qh (DM hS.fit.vup e2 e3 (fV o));rw[hp] at HU;have HV:=qh e2;have HF:Hid (∀X,bK w lo g A n c Vs B m k Es C r rc G X→Ζ η 131 #[υ (ζ ⟨g,0,ε⟩),φ (ak o).toArray] X fun e w'=>∃b,A=ζ ⟨b,0,ε⟩∧e=.returned (Ξ #[υ (ζ ⟨b,i*5+3,ε⟩),υ (ζ ⟨b,i*5+4,ε⟩)])∧σ X.heap.size X w'):=qh (fun X hX=>uE hX ni o he i hi e1);clear hS fy hh e1 e2 e3 e4 hp;have H:=qh h;clear h;go_enter Tryz.func96,Tryz.ntmps96;go_upto_region 1 with fail
 obtain⟨W1,aV⟩:=aB (W.alloc (δ (ak o).toArray 36));have aL:Hid (Whole W1 W.heap.size 36 (ak o)):=qh (by rw[←aV];exact Whole.new_ _ _ _);have cB:Hid (bK w lo g A n c Vs B m k Es C r rc G W1):=qh (by rw[←aV];exact H.out.al _);have bE:Hid (σ W.heap.size W W1):=qh (by rw[←aV];exact az _ _);rw[aV];clear aV H;have Nb:Hid (W.heap.size≠g):=qh (aL.out.ne_ cB.out.s (by decide));obtain⟨b0,bp⟩:=aB W.heap.size;rw[bp] at aL Nb ⊢;clear bp;refine Jam ?_;refine a7 (v:=?_) (ζ 8) rfl (by rfl) ?_ ?_;rotate_left
 ·go_simp;(try with_reducible rfl)
 simp only[ξ,aw,ar,aq];refine eJ (ζ 9) rfl (by rfl) 36 (.tmp 3) rfl b0 rfl 36 (ak o) _ aL.out Tryz.underlying36 rfl (by kernel_rfl) ?_;simp only[ξ,aw,ar,aq]
 go_wp2_with (first
  |(go_at_call 131
    refine(HF.out _ cB.out).mono ?_
    rintro e w2 ⟨b,hb,rfl,aP⟩;have cY:=qh (cB.out.bl aP);have aZ:=qh (aL.out.bl aP);have jG:=qh (aJ.of_below (g:=g) (ag bE.out aP));clear cB aP aL bE;obtain⟨b8,Xy,e9,-,-,EU,PT,iS,ff⟩:=cY.out.cellV (v':=(v.1,v.2.1,v.2.2.1,o.m)) (j:=4) (u:=J o.m) HV.out (by decide) rfl (.inl rfl)
    obtain rfl:b=b8:=by
     rw[hb] at e9;injection e9 with e9
     injection e9
    have fe:=qh iS;have km:=qh (jG.out.trans ff);clear iS ff e9 hb;have lk:=aZ.out.cell (i:=0) rfl;have lt:=aZ.out.cell (i:=18) rfl;have lm:=aZ.out.cell (i:=19) rfl))
 go_ret;exact cG.yes HR.out rfl km.out fe.out (by rw[←HU.out])
theorem ON (h:bK w lo g A n c Vs B m k Es C r rc G W) (hS:gD (Vs.map vS,Es,G)) (o:dR):Ζ η 96 #[υ (ζ ⟨g,0,ε⟩),φ (ak o).toArray] W (cG w W lo g (setS (Vs.map vS,Es,G) (bL o) o.e (fV o))):=by
 cases he:o.e with
 |true=>
  rw[←he];cases hh:bI Es (o.s,o.n) with
  |true=>by_cases hk:o.k=7;exact Ky h hS o he hh hk;exact Kh h hS o he hh hk
  |false=>exact zi h hS o (.inl ⟨he,hh⟩)
 |false=>
  rw[←he];cases hh:bu (Vs.map vS) (o.s,o.n) with
  |true=>by_cases hk:o.k=7;exact JB h hS o he hh hk;exact J5 h hS o he hh hk
  |false=>exact zi h hS o (.inr ⟨he,hh⟩)
end
theorem J2 (A:Option Κ) (n c:Nat) (L:List D) (w:ο) (h:bg w w.heap.size 3 A n c (aA L)) (hn:n≤1000000):
 Ζ η 128 #[γ A n c] w (jx w (aM L)):=by
 have HT:=qh (fun W g t hg hr=>oP A n c L W g t hg hr hn);have H:=qh h;clear h;go_enter Tryz.func128,Tryz.ntmps128;go_wp2_with (go_at_call 153;refine(HT.out _ _ _ (by exact Whole.new_ w _ _) (by exact H.out.up (az _ _) (by simp))).mono ?_;rintro e w2 ⟨A2,c2,rfl,oJ,aP⟩)
 go_ret;exact⟨A2,c2,rfl,oJ,bc aP⟩
theorem OH {w W W':ο} {lo g:Nat} {A:Option Κ} {n c:Nat} {Vs:List VC} {B:Option Κ} {m k:Nat} {Es:List EC} {C:Option Κ} {r rc:Nat} {G:List Gn} {A':Option Κ} {n' c':Nat} {Vs':List VC} {B':Option Κ} {m' k':Nat} {Es':List EC} {C':Option Κ} {r' iv:Nat} {G':List Gn}
 (h:bK w lo g A n c Vs B m k Es C r rc G W) (h':bK w lo g A' n' c' Vs' B' m' k' Es' C' r' iv G' W') (hk:aJ g W W') (S:Nat→Prop) (hP:∀b,¬S b→∃cs,Whole W b 32 cs∨Whole W b 36 cs):Kept S W W':=
 ⟨h'.below.os.trans h.below.os.symm,h'.below.tape.trans h.below.tape.symm,h'.below.output.trans h.below.output.symm,hk.s,fun b _ hb=>by
  obtain⟨cs,hw|hw⟩:=hP b hb
  ·exact(hk.box hw h.s).trans hw.symm
  ·exact(hk.box hw h.s).trans hw.symm⟩
theorem JH {Vs Us:List VC} {F:List D→List D} (e:Us.map vS=rings (Vs.map vS) F) (h:od (fun v:VS=>v.1) (Vs.map vS)):od (fun v:VC=>v.1) Us:=by
 rw[←G5,e];exact mM h (xc _ _)
theorem Jh {Vs Us:List VC} {F:List D→List D} (e:Us.map vS=rings (Vs.map vS) F) (x:Nm):bu (Us.map vS) x=bu (Vs.map vS) x:=by
 have h:∀U:List VS,bu U x=(U.map (·.1)).any (fun k=>decide (k=x)):=fun U=>by
  unfold bu pf;rw[List.any_map];rfl
 rw[h,h,e,xc]
section
variable {w W:ο} {lo g:Nat} {A:Option Κ} {n c:Nat} {Vs:List VC} {B:Option Κ} {m k:Nat} {Es:List EC} {C:Option Κ} {r rc:Nat} {G:List Gn}
theorem T4 (h:bK w lo g A n c Vs B m k Es C r rc G W) (hS:gD (Vs.map vS,Es,G)) (o:dR) (h1:bI Es (bL o)=ρ):Ζ η 94 #[υ (ζ ⟨g,0,ε⟩),φ (ak o).toArray] W (cG w W lo g (dJ (Vs.map vS,Es,G) (bL o) (rz o) (cX o) o.m)):=by
 obtain⟨hn,hm,hr,fy⟩:=hS.n24 h;have mj:(Vs.map vS).length=n:=by rw[Ρ];exact h.vlen
 have gK:Es.length=m:=h.elen;have qR:Hid (∀X,bK w lo g A n c Vs B m k Es C r rc G X→Ζ η 113 #[υ (ζ ⟨g,0,ε⟩),φ #[J o.s,J o.n]] X fun e w'=>e=.returned (J (dX (fun v:EC=>v.1) Es (bL o)))∧σ X.heap.size X w'):=qh (fun X hX=>dG g A n c B m k C r rc o.s o.n Es X hX.s (aK hX.e) (by omega));have HV:Hid (∀X,bK w lo g A n c Vs B m k Es C r rc G X→Ζ η 110 #[υ (ζ ⟨g,0,ε⟩),φ #[J o.s1,J o.n1]] X fun e w'=>e=.returned (J (dX (fun v:VC=>v.1) Vs (rz o)))∧σ X.heap.size X w'):=qh (fun X hX=>fB g A n c B m k C r rc o.s1 o.n1 Vs X hX.s (aK hX.v) (by omega));have xR:Hid (∀X,bK w lo g A n c Vs B m k Es C r rc G X→Ζ η 113 #[υ (ζ ⟨g,0,ε⟩),φ #[J o.s2,J o.n2]] X fun e w'=>e=.returned (J (dX (fun v:EC=>v.1) Es (cX o)))∧σ X.heap.size X w'):=qh (fun X hX=>dG g A n c B m k C r rc o.s2 o.n2 Es X hX.s (aK hX.e) (by omega));have HR:Hid (dJ (Vs.map vS,Es,G) (bL o) (rz o) (cX o) o.m=(dv,13)):=qh (by unfold dJ;rw[if_pos h1]);have e1:=dH (k:=fun v:EC=>v.1) (l:=Es) h1;rw[e1] at qR;clear e1;clear hS fy mj gK;have H:=qh h;clear h;go_enter Tryz.func94,Tryz.ntmps94;go_upto_region 1 with fail
 obtain⟨W1,aV⟩:=aB (W.alloc (δ (ak o).toArray 36));have aL:Hid (Whole W1 W.heap.size 36 (ak o)):=qh (by rw[←aV];exact Whole.new_ _ _ _);have cB:Hid (bK w lo g A n c Vs B m k Es C r rc G W1):=qh (by rw[←aV];exact H.out.al _);have bE:Hid (σ W.heap.size W W1):=qh (by rw[←aV];exact az _ _);rw[aV];clear aV H;have Nb:Hid (W.heap.size≠g):=qh (aL.out.ne_ cB.out.s (by decide));obtain⟨b0,bp⟩:=aB W.heap.size;rw[bp] at aL Nb ⊢;clear bp;have gM:=aL.out.cell (i:=1) rfl;have gO:=aL.out.cell (i:=2) rfl
 go_wp2_with (first
  |(go_at_call 113
    refine(qR.out _ cB.out).mono ?_
    rintro e w2 ⟨rfl,aP⟩;have cY:=qh (cB.out.bl aP);have aZ:=qh (aL.out.bl aP);have bG:=qh (ag bE.out aP);clear aP cB aL bE gM gO;have mr:=aZ.out.cell (i:=1) rfl;have mS:=aZ.out.cell (i:=2) rfl;have qD:=aZ.out.cell (i:=3) rfl;have qC:=aZ.out.cell (i:=4) rfl;have mO:=aZ.out.cell (i:=5) rfl;have mq:=aZ.out.cell (i:=6) rfl;have lY:=aZ.out.cell (i:=19) rfl;have s0:=cY.out.s.cell (i:=0) rfl;have s1:=cY.out.s.cell (i:=1) rfl))
 go_ret;exact cG.no HR.out (by decide) rfl cY.out.below (aJ.of_below bG.out)
theorem TX (h:bK w lo g A n c Vs B m k Es C r rc G W) (hS:gD (Vs.map vS,Es,G)) (o:dR) (h1:bI Es (bL o)=τ) (h2:bu (Vs.map vS) (rz o)=τ):Ζ η 94 #[υ (ζ ⟨g,0,ε⟩),φ (ak o).toArray] W (cG w W lo g (dJ (Vs.map vS,Es,G) (bL o) (rz o) (cX o) o.m)):=by
 obtain⟨hn,hm,hr,fy⟩:=hS.n24 h;have mj:(Vs.map vS).length=n:=by rw[Ρ];exact h.vlen
 have gK:Es.length=m:=h.elen;have qR:Hid (∀X,bK w lo g A n c Vs B m k Es C r rc G X→Ζ η 113 #[υ (ζ ⟨g,0,ε⟩),φ #[J o.s,J o.n]] X fun e w'=>e=.returned (J (dX (fun v:EC=>v.1) Es (bL o)))∧σ X.heap.size X w'):=qh (fun X hX=>dG g A n c B m k C r rc o.s o.n Es X hX.s (aK hX.e) (by omega));have HV:Hid (∀X,bK w lo g A n c Vs B m k Es C r rc G X→Ζ η 110 #[υ (ζ ⟨g,0,ε⟩),φ #[J o.s1,J o.n1]] X fun e w'=>e=.returned (J (dX (fun v:VC=>v.1) Vs (rz o)))∧σ X.heap.size X w'):=qh (fun X hX=>fB g A n c B m k C r rc o.s1 o.n1 Vs X hX.s (aK hX.v) (by omega));have xR:Hid (∀X,bK w lo g A n c Vs B m k Es C r rc G X→Ζ η 113 #[υ (ζ ⟨g,0,ε⟩),φ #[J o.s2,J o.n2]] X fun e w'=>e=.returned (J (dX (fun v:EC=>v.1) Es (cX o)))∧σ X.heap.size X w'):=qh (fun X hX=>dG g A n c B m k C r rc o.s2 o.n2 Es X hX.s (aK hX.e) (by omega));have HR:Hid (dJ (Vs.map vS,Es,G) (bL o) (rz o) (cX o) o.m=(dv,12)):=qh (by unfold dJ;rw[if_neg (by rw[h1];decide),if_pos (.inl h2)]);obtain⟨i1,v1,e1,-,-,-⟩:=ck (k:=fun v:EC=>v.1) (l:=Es) h1;rw[e1] at qR;clear e1;obtain⟨i2,v2,e2,-,-,-⟩:=ck (k:=fun v:VC=>v.1) (l:=Vs) ((cx Vs _).trans h2);rw[e2] at HV;clear e2;clear hS fy mj gK;have H:=qh h;clear h;go_enter Tryz.func94,Tryz.ntmps94;go_upto_region 1 with fail
 obtain⟨W1,aV⟩:=aB (W.alloc (δ (ak o).toArray 36));have aL:Hid (Whole W1 W.heap.size 36 (ak o)):=qh (by rw[←aV];exact Whole.new_ _ _ _);have cB:Hid (bK w lo g A n c Vs B m k Es C r rc G W1):=qh (by rw[←aV];exact H.out.al _);have bE:Hid (σ W.heap.size W W1):=qh (by rw[←aV];exact az _ _);rw[aV];clear aV H;have Nb:Hid (W.heap.size≠g):=qh (aL.out.ne_ cB.out.s (by decide));obtain⟨b0,bp⟩:=aB W.heap.size;rw[bp] at aL Nb ⊢;clear bp;have gM:=aL.out.cell (i:=1) rfl;have gO:=aL.out.cell (i:=2) rfl
 go_wp2_with (first
  |(go_at_call 113
    refine(qR.out _ cB.out).mono ?_
    rintro e w2 ⟨rfl,aP⟩;have cY:=qh (cB.out.bl aP);have aZ:=qh (aL.out.bl aP);have bG:=qh (ag bE.out aP);clear aP cB aL bE gM gO;have mr:=aZ.out.cell (i:=1) rfl;have mS:=aZ.out.cell (i:=2) rfl;have qD:=aZ.out.cell (i:=3) rfl;have qC:=aZ.out.cell (i:=4) rfl;have mO:=aZ.out.cell (i:=5) rfl;have mq:=aZ.out.cell (i:=6) rfl;have lY:=aZ.out.cell (i:=19) rfl;have s0:=cY.out.s.cell (i:=0) rfl;have s1:=cY.out.s.cell (i:=1) rfl)
  |(go_at_call 110
    refine(HV.out _ cY.out).mono ?_
    rintro e w3 ⟨rfl,bA⟩;have gE:=qh (cY.out.bl bA);have cF:=qh (aZ.out.bl bA);have bB:=qh (ag bG.out bA);clear bA cY aZ bG mr mS qD qC mO mq lY s0 s1;have uv:=cF.out.cell (i:=1) rfl;have uA:=cF.out.cell (i:=2) rfl;have uI:=cF.out.cell (i:=3) rfl;have ug:=cF.out.cell (i:=4) rfl;have ui:=cF.out.cell (i:=5) rfl;have uo:=cF.out.cell (i:=6) rfl;have px:=cF.out.cell (i:=19) rfl;have s0:=gE.out.s.cell (i:=0) rfl;have s1:=gE.out.s.cell (i:=1) rfl))
 go_ret;exact cG.no HR.out (by decide) rfl gE.out.below (aJ.of_below bB.out)
theorem Wj (h:bK w lo g A n c Vs B m k Es C r rc G W) (hS:gD (Vs.map vS,Es,G)) (o:dR) (h1:bI Es (bL o)=τ) (h2:bu (Vs.map vS) (rz o)=ρ) (h3:bI Es (cX o)=τ):Ζ η 94 #[υ (ζ ⟨g,0,ε⟩),φ (ak o).toArray] W (cG w W lo g (dJ (Vs.map vS,Es,G) (bL o) (rz o) (cX o) o.m)):=by
 obtain⟨hn,hm,hr,fy⟩:=hS.n24 h;have mj:(Vs.map vS).length=n:=by rw[Ρ];exact h.vlen
 have gK:Es.length=m:=h.elen;have qR:Hid (∀X,bK w lo g A n c Vs B m k Es C r rc G X→Ζ η 113 #[υ (ζ ⟨g,0,ε⟩),φ #[J o.s,J o.n]] X fun e w'=>e=.returned (J (dX (fun v:EC=>v.1) Es (bL o)))∧σ X.heap.size X w'):=qh (fun X hX=>dG g A n c B m k C r rc o.s o.n Es X hX.s (aK hX.e) (by omega));have HV:Hid (∀X,bK w lo g A n c Vs B m k Es C r rc G X→Ζ η 110 #[υ (ζ ⟨g,0,ε⟩),φ #[J o.s1,J o.n1]] X fun e w'=>e=.returned (J (dX (fun v:VC=>v.1) Vs (rz o)))∧σ X.heap.size X w'):=qh (fun X hX=>fB g A n c B m k C r rc o.s1 o.n1 Vs X hX.s (aK hX.v) (by omega));have xR:Hid (∀X,bK w lo g A n c Vs B m k Es C r rc G X→Ζ η 113 #[υ (ζ ⟨g,0,ε⟩),φ #[J o.s2,J o.n2]] X fun e w'=>e=.returned (J (dX (fun v:EC=>v.1) Es (cX o)))∧σ X.heap.size X w'):=qh (fun X hX=>dG g A n c B m k C r rc o.s2 o.n2 Es X hX.s (aK hX.e) (by omega));have HR:Hid (dJ (Vs.map vS,Es,G) (bL o) (rz o) (cX o) o.m=(dv,12)):=qh (by unfold dJ;rw[if_neg (by rw[h1];decide),if_pos (.inr h3)]);obtain⟨i1,v1,e1,-,-,-⟩:=ck (k:=fun v:EC=>v.1) (l:=Es) h1;rw[e1] at qR;clear e1;have e2:=dH (k:=fun v:VC=>v.1) (l:=Vs) ((cx Vs _).trans h2);rw[e2] at HV;clear e2;obtain⟨i3,v3,e3,-,-,-⟩:=ck (k:=fun v:EC=>v.1) (l:=Es) h3;rw[e3] at xR;clear e3;clear hS fy mj gK;have H:=qh h;clear h;go_enter Tryz.func94,Tryz.ntmps94
 go_upto_region 1 with fail
 obtain⟨W1,aV⟩:=aB (W.alloc (δ (ak o).toArray 36));have aL:Hid (Whole W1 W.heap.size 36 (ak o)):=qh (by rw[←aV];exact Whole.new_ _ _ _);have cB:Hid (bK w lo g A n c Vs B m k Es C r rc G W1):=qh (by rw[←aV];exact H.out.al _);have bE:Hid (σ W.heap.size W W1):=qh (by rw[←aV];exact az _ _);rw[aV];clear aV H;have Nb:Hid (W.heap.size≠g):=qh (aL.out.ne_ cB.out.s (by decide));obtain⟨b0,bp⟩:=aB W.heap.size;rw[bp] at aL Nb ⊢;clear bp;have gM:=aL.out.cell (i:=1) rfl;have gO:=aL.out.cell (i:=2) rfl
 go_wp2_with (first
  |(go_at_call 113
    refine(qR.out _ cB.out).mono ?_
    rintro e w2 ⟨rfl,aP⟩;have cY:=qh (cB.out.bl aP);have aZ:=qh (aL.out.bl aP);have bG:=qh (ag bE.out aP);clear aP cB aL bE gM gO;have mr:=aZ.out.cell (i:=1) rfl;have mS:=aZ.out.cell (i:=2) rfl;have qD:=aZ.out.cell (i:=3) rfl;have qC:=aZ.out.cell (i:=4) rfl;have mO:=aZ.out.cell (i:=5) rfl;have mq:=aZ.out.cell (i:=6) rfl;have lY:=aZ.out.cell (i:=19) rfl;have s0:=cY.out.s.cell (i:=0) rfl;have s1:=cY.out.s.cell (i:=1) rfl)
  |(go_at_call 110
    refine(HV.out _ cY.out).mono ?_
    rintro e w3 ⟨rfl,bA⟩;have gE:=qh (cY.out.bl bA);have cF:=qh (aZ.out.bl bA);have bB:=qh (ag bG.out bA);clear bA cY aZ bG mr mS qD qC mO mq lY s0 s1;have uv:=cF.out.cell (i:=1) rfl;have uA:=cF.out.cell (i:=2) rfl;have uI:=cF.out.cell (i:=3) rfl;have ug:=cF.out.cell (i:=4) rfl;have ui:=cF.out.cell (i:=5) rfl;have uo:=cF.out.cell (i:=6) rfl;have px:=cF.out.cell (i:=19) rfl;have s0:=gE.out.s.cell (i:=0) rfl;have s1:=gE.out.s.cell (i:=1) rfl)
  |(go_at_call 113
    refine(xR.out _ gE.out).mono ?_
    rintro e w4 ⟨rfl,ns⟩;have j8:=qh (gE.out.bl ns);have eY:=qh (cF.out.bl ns);have kC:=qh (ag bB.out ns);clear ns gE cF bB uv uA uI ug ui uo px s0 s1;have Hf:=eY.out.cell (i:=1) rfl;have G4:=eY.out.cell (i:=2) rfl;have Im:=eY.out.cell (i:=3) rfl;have Gf:=eY.out.cell (i:=4) rfl;have Gh:=eY.out.cell (i:=5) rfl;have Gk:=eY.out.cell (i:=6) rfl;have Av:=eY.out.cell (i:=19) rfl;have s0:=j8.out.s.cell (i:=0) rfl;have s1:=j8.out.s.cell (i:=1) rfl))
 go_ret;exact cG.no HR.out (by decide) rfl j8.out.below (aJ.of_below kC.out)
theorem TK (h:bK w lo g A n c Vs B m k Es C r rc G W) (hS:gD (Vs.map vS,Es,G)) (o:dR) (h1:bI Es (bL o)=τ) (h2:bu (Vs.map vS) (rz o)=ρ) (h3:bI Es (cX o)=ρ) (h4:24≤n):Ζ η 94 #[υ (ζ ⟨g,0,ε⟩),φ (ak o).toArray] W (cG w W lo g (dJ (Vs.map vS,Es,G) (bL o) (rz o) (cX o) o.m)):=by
 obtain⟨hn,hm,hr,fy⟩:=hS.n24 h;have mj:(Vs.map vS).length=n:=by rw[Ρ];exact h.vlen
 have gK:Es.length=m:=h.elen;have qR:Hid (∀X,bK w lo g A n c Vs B m k Es C r rc G X→Ζ η 113 #[υ (ζ ⟨g,0,ε⟩),φ #[J o.s,J o.n]] X fun e w'=>e=.returned (J (dX (fun v:EC=>v.1) Es (bL o)))∧σ X.heap.size X w'):=qh (fun X hX=>dG g A n c B m k C r rc o.s o.n Es X hX.s (aK hX.e) (by omega));have HV:Hid (∀X,bK w lo g A n c Vs B m k Es C r rc G X→Ζ η 110 #[υ (ζ ⟨g,0,ε⟩),φ #[J o.s1,J o.n1]] X fun e w'=>e=.returned (J (dX (fun v:VC=>v.1) Vs (rz o)))∧σ X.heap.size X w'):=qh (fun X hX=>fB g A n c B m k C r rc o.s1 o.n1 Vs X hX.s (aK hX.v) (by omega));have xR:Hid (∀X,bK w lo g A n c Vs B m k Es C r rc G X→Ζ η 113 #[υ (ζ ⟨g,0,ε⟩),φ #[J o.s2,J o.n2]] X fun e w'=>e=.returned (J (dX (fun v:EC=>v.1) Es (cX o)))∧σ X.heap.size X w'):=qh (fun X hX=>dG g A n c B m k C r rc o.s2 o.n2 Es X hX.s (aK hX.e) (by omega));have HR:Hid (dJ (Vs.map vS,Es,G) (bL o) (rz o) (cX o) o.m=(dv,3)):=qh (by unfold dJ;rw[if_neg (by rw[h1];decide),if_neg (by rw[h2,h3];decide),if_pos (.inl (by rw[mj];exact h4))]);obtain⟨i1,v1,e1,-,-,-⟩:=ck (k:=fun v:EC=>v.1) (l:=Es) h1;rw[e1] at qR;clear e1;have e2:=dH (k:=fun v:VC=>v.1) (l:=Vs) ((cx Vs _).trans h2);rw[e2] at HV;clear e2;have e3:=dH (k:=fun v:EC=>v.1) (l:=Es) h3;rw[e3] at xR;clear e3;have h4i:(24:Int)≤(n:Int):=by omega
 clear hS fy mj gK;have H:=qh h;clear h;go_enter Tryz.func94,Tryz.ntmps94;go_upto_region 1 with fail
 obtain⟨W1,aV⟩:=aB (W.alloc (δ (ak o).toArray 36));have aL:Hid (Whole W1 W.heap.size 36 (ak o)):=qh (by rw[←aV];exact Whole.new_ _ _ _);have cB:Hid (bK w lo g A n c Vs B m k Es C r rc G W1):=qh (by rw[←aV];exact H.out.al _);have bE:Hid (σ W.heap.size W W1):=qh (by rw[←aV];exact az _ _);rw[aV];clear aV H;have Nb:Hid (W.heap.size≠g):=qh (aL.out.ne_ cB.out.s (by decide));obtain⟨b0,bp⟩:=aB W.heap.size;rw[bp] at aL Nb ⊢;clear bp;have gM:=aL.out.cell (i:=1) rfl;have gO:=aL.out.cell (i:=2) rfl
 go_wp2_with (first
  |(go_at_call 113
    refine(qR.out _ cB.out).mono ?_
    rintro e w2 ⟨rfl,aP⟩;have cY:=qh (cB.out.bl aP);have aZ:=qh (aL.out.bl aP);have bG:=qh (ag bE.out aP);clear aP cB aL bE gM gO;have mr:=aZ.out.cell (i:=1) rfl;have mS:=aZ.out.cell (i:=2) rfl;have qD:=aZ.out.cell (i:=3) rfl;have qC:=aZ.out.cell (i:=4) rfl;have mO:=aZ.out.cell (i:=5) rfl;have mq:=aZ.out.cell (i:=6) rfl;have lY:=aZ.out.cell (i:=19) rfl;have s0:=cY.out.s.cell (i:=0) rfl;have s1:=cY.out.s.cell (i:=1) rfl)
  |(go_at_call 110
    refine(HV.out _ cY.out).mono ?_
    rintro e w3 ⟨rfl,bA⟩;have gE:=qh (cY.out.bl bA);have cF:=qh (aZ.out.bl bA);have bB:=qh (ag bG.out bA);clear bA cY aZ bG mr mS qD qC mO mq lY s0 s1;have uv:=cF.out.cell (i:=1) rfl;have uA:=cF.out.cell (i:=2) rfl;have uI:=cF.out.cell (i:=3) rfl;have ug:=cF.out.cell (i:=4) rfl;have ui:=cF.out.cell (i:=5) rfl;have uo:=cF.out.cell (i:=6) rfl;have px:=cF.out.cell (i:=19) rfl;have s0:=gE.out.s.cell (i:=0) rfl;have s1:=gE.out.s.cell (i:=1) rfl)
  |(go_at_call 113
    refine(xR.out _ gE.out).mono ?_
    rintro e w4 ⟨rfl,ns⟩;have j8:=qh (gE.out.bl ns);have eY:=qh (cF.out.bl ns);have kC:=qh (ag bB.out ns);clear ns gE cF bB uv uA uI ug ui uo px s0 s1;have Hf:=eY.out.cell (i:=1) rfl;have G4:=eY.out.cell (i:=2) rfl;have Im:=eY.out.cell (i:=3) rfl;have Gf:=eY.out.cell (i:=4) rfl;have Gh:=eY.out.cell (i:=5) rfl;have Gk:=eY.out.cell (i:=6) rfl;have Av:=eY.out.cell (i:=19) rfl;have s0:=j8.out.s.cell (i:=0) rfl;have s1:=j8.out.s.cell (i:=1) rfl))
 go_ret;exact cG.no HR.out (by decide) rfl j8.out.below (aJ.of_below kC.out)
theorem VO (h:bK w lo g A n c Vs B m k Es C r rc G W) (hS:gD (Vs.map vS,Es,G)) (o:dR) (h1:bI Es (bL o)=τ) (h2:bu (Vs.map vS) (rz o)=ρ) (h3:bI Es (cX o)=ρ) (h4:¬24≤n) (h5:40≤m):Ζ η 94 #[υ (ζ ⟨g,0,ε⟩),φ (ak o).toArray] W (cG w W lo g (dJ (Vs.map vS,Es,G) (bL o) (rz o) (cX o) o.m)):=by
 obtain⟨hn,hm,hr,fy⟩:=hS.n24 h;have mj:(Vs.map vS).length=n:=by rw[Ρ];exact h.vlen
 have gK:Es.length=m:=h.elen;have qR:Hid (∀X,bK w lo g A n c Vs B m k Es C r rc G X→Ζ η 113 #[υ (ζ ⟨g,0,ε⟩),φ #[J o.s,J o.n]] X fun e w'=>e=.returned (J (dX (fun v:EC=>v.1) Es (bL o)))∧σ X.heap.size X w'):=qh (fun X hX=>dG g A n c B m k C r rc o.s o.n Es X hX.s (aK hX.e) (by omega));have HV:Hid (∀X,bK w lo g A n c Vs B m k Es C r rc G X→Ζ η 110 #[υ (ζ ⟨g,0,ε⟩),φ #[J o.s1,J o.n1]] X fun e w'=>e=.returned (J (dX (fun v:VC=>v.1) Vs (rz o)))∧σ X.heap.size X w'):=qh (fun X hX=>fB g A n c B m k C r rc o.s1 o.n1 Vs X hX.s (aK hX.v) (by omega));have xR:Hid (∀X,bK w lo g A n c Vs B m k Es C r rc G X→Ζ η 113 #[υ (ζ ⟨g,0,ε⟩),φ #[J o.s2,J o.n2]] X fun e w'=>e=.returned (J (dX (fun v:EC=>v.1) Es (cX o)))∧σ X.heap.size X w'):=qh (fun X hX=>dG g A n c B m k C r rc o.s2 o.n2 Es X hX.s (aK hX.e) (by omega));have HR:Hid (dJ (Vs.map vS,Es,G) (bL o) (rz o) (cX o) o.m=(dv,3)):=qh (by unfold dJ;rw[if_neg (by rw[h1];decide),if_neg (by rw[h2,h3];decide),if_pos (.inr (by rw[gK];exact h5))]);obtain⟨i1,v1,e1,-,-,-⟩:=ck (k:=fun v:EC=>v.1) (l:=Es) h1;rw[e1] at qR;clear e1;have e2:=dH (k:=fun v:VC=>v.1) (l:=Vs) ((cx Vs _).trans h2);rw[e2] at HV;clear e2;have e3:=dH (k:=fun v:EC=>v.1) (l:=Es) h3;rw[e3] at xR;clear e3;have h4i:¬(24:Int)≤(n:Int):=by omega
 have h5i:(40:Int)≤(m:Int):=by omega
 clear hS fy mj gK;have H:=qh h;clear h;go_enter Tryz.func94,Tryz.ntmps94;go_upto_region 1 with fail
 obtain⟨W1,aV⟩:=aB (W.alloc (δ (ak o).toArray 36));have aL:Hid (Whole W1 W.heap.size 36 (ak o)):=qh (by rw[←aV];exact Whole.new_ _ _ _);have cB:Hid (bK w lo g A n c Vs B m k Es C r rc G W1):=qh (by rw[←aV];exact H.out.al _);have bE:Hid (σ W.heap.size W W1):=qh (by rw[←aV];exact az _ _);rw[aV];clear aV H;have Nb:Hid (W.heap.size≠g):=qh (aL.out.ne_ cB.out.s (by decide));obtain⟨b0,bp⟩:=aB W.heap.size;rw[bp] at aL Nb ⊢;clear bp;have gM:=aL.out.cell (i:=1) rfl;have gO:=aL.out.cell (i:=2) rfl
 go_wp2_with (first
  |(go_at_call 113
    refine(qR.out _ cB.out).mono ?_
    rintro e w2 ⟨rfl,aP⟩;have cY:=qh (cB.out.bl aP);have aZ:=qh (aL.out.bl aP);have bG:=qh (ag bE.out aP);clear aP cB aL bE gM gO;have mr:=aZ.out.cell (i:=1) rfl;have mS:=aZ.out.cell (i:=2) rfl;have qD:=aZ.out.cell (i:=3) rfl;have qC:=aZ.out.cell (i:=4) rfl;have mO:=aZ.out.cell (i:=5) rfl;have mq:=aZ.out.cell (i:=6) rfl;have lY:=aZ.out.cell (i:=19) rfl;have s0:=cY.out.s.cell (i:=0) rfl;have s1:=cY.out.s.cell (i:=1) rfl)
  |(go_at_call 110
    refine(HV.out _ cY.out).mono ?_
    rintro e w3 ⟨rfl,bA⟩;have gE:=qh (cY.out.bl bA);have cF:=qh (aZ.out.bl bA);have bB:=qh (ag bG.out bA);clear bA cY aZ bG mr mS qD qC mO mq lY s0 s1;have uv:=cF.out.cell (i:=1) rfl;have uA:=cF.out.cell (i:=2) rfl;have uI:=cF.out.cell (i:=3) rfl;have ug:=cF.out.cell (i:=4) rfl;have ui:=cF.out.cell (i:=5) rfl;have uo:=cF.out.cell (i:=6) rfl;have px:=cF.out.cell (i:=19) rfl;have s0:=gE.out.s.cell (i:=0) rfl;have s1:=gE.out.s.cell (i:=1) rfl)
  |(go_at_call 113
    refine(xR.out _ gE.out).mono ?_
    rintro e w4 ⟨rfl,ns⟩;have j8:=qh (gE.out.bl ns);have eY:=qh (cF.out.bl ns);have kC:=qh (ag bB.out ns);clear ns gE cF bB uv uA uI ug ui uo px s0 s1;have Hf:=eY.out.cell (i:=1) rfl;have G4:=eY.out.cell (i:=2) rfl;have Im:=eY.out.cell (i:=3) rfl;have Gf:=eY.out.cell (i:=4) rfl;have Gh:=eY.out.cell (i:=5) rfl;have Gk:=eY.out.cell (i:=6) rfl;have Av:=eY.out.cell (i:=19) rfl;have s0:=j8.out.s.cell (i:=0) rfl;have s1:=j8.out.s.cell (i:=1) rfl))
 go_ret;exact cG.no HR.out (by decide) rfl j8.out.below (aJ.of_below kC.out)
theorem Wf (h:bK w lo g A n c Vs B m k Es C r rc G W) (hS:gD (Vs.map vS,Es,G)) (o:dR) (h1:bI Es (bL o)=τ) (h2:bu (Vs.map vS) (rz o)=ρ) (h3:bI Es (cX o)=ρ) (h4:¬24≤n) (h5:¬40≤m) (Hw:0≤o.m∧o.m≤3):Ζ η 94 #[υ (ζ ⟨g,0,ε⟩),φ (ak o).toArray] W (cG w W lo g (dJ (Vs.map vS,Es,G) (bL o) (rz o) (cX o) o.m)):=by
 obtain⟨hn,hm,hr,fy⟩:=hS.n24 h;have mj:(Vs.map vS).length=n:=by rw[Ρ];exact h.vlen
 have gK:Es.length=m:=h.elen;have qR:Hid (∀X,bK w lo g A n c Vs B m k Es C r rc G X→Ζ η 113 #[υ (ζ ⟨g,0,ε⟩),φ #[J o.s,J o.n]] X fun e w'=>e=.returned (J (dX (fun v:EC=>v.1) Es (bL o)))∧σ X.heap.size X w'):=qh (fun X hX=>dG g A n c B m k C r rc o.s o.n Es X hX.s (aK hX.e) (by omega));have HV:Hid (∀X,bK w lo g A n c Vs B m k Es C r rc G X→Ζ η 110 #[υ (ζ ⟨g,0,ε⟩),φ #[J o.s1,J o.n1]] X fun e w'=>e=.returned (J (dX (fun v:VC=>v.1) Vs (rz o)))∧σ X.heap.size X w'):=qh (fun X hX=>fB g A n c B m k C r rc o.s1 o.n1 Vs X hX.s (aK hX.v) (by omega));have xR:Hid (∀X,bK w lo g A n c Vs B m k Es C r rc G X→Ζ η 113 #[υ (ζ ⟨g,0,ε⟩),φ #[J o.s2,J o.n2]] X fun e w'=>e=.returned (J (dX (fun v:EC=>v.1) Es (cX o)))∧σ X.heap.size X w'):=qh (fun X hX=>dG g A n c B m k C r rc o.s2 o.n2 Es X hX.s (aK hX.e) (by omega));obtain⟨p,gp⟩:=aB (1 - o.m.tmod 2);obtain⟨q,gq⟩:=aB (o.m.tdiv 2)
 have hp:p=0∨p=1:=by
  rw[←gp,Int.tmod_eq_emod_of_nonneg Hw.1];omega
 have hq:q=0∨q=1:=by
  rw[←gq,Jbp Hw.1];omega
 have HR:Hid (dJ (Vs.map vS,Es,G) (bL o) (rz o) (cX o) o.m=((fx (rings (Vs.map vS) (fun l=>aM (j4 l (bh (bL o) p) (bh (cX o) (1 - q))))) (rz o,aM [bh (bL o) p,bh (cX o) q],Jaf,0),gH Es (cX o,Jaf,0),G),0)):=qh (by
  unfold dJ;rw[if_neg (by rw[h1];decide),if_neg (by rw[h2,h3];decide),if_neg (by rw[mj,gK];omega)]
  show((fx (dL (Vs.map vS) (bh (bL o) (1 - o.m.tmod 2)) (bh (cX o) (1 - o.m.tdiv 2))) (rz o,aM [bh (bL o) (1 - o.m.tmod 2),bh (cX o) (o.m.tdiv 2)],Jaf,0),gH Es (cX o,Jaf,0),G),(0:Int))=_
  rw[gp,gq,yz hS.fit.rg.keys hS.fit.rg.once hS.fit.rg.turned (by rcases hp with rfl|rfl;exact(hS.fit.end_ h1).1;exact(hS.fit.end_ h1).2)])
 have HUV:Hid (od (fun v:VS=>v.1) (Vs.map vS)):=qh hS.fit.vup;have XC:Hid (od (fun e:EC=>e.1) Es):=qh hS.fit.eup;have HH2:=qh h2;have HH3:=qh h3;have BG:Hid (∀v∈Vs,v.2.1.2.1≤1000):=qh (fun v hv=>Λ (fy v hv) (by decide));have Eg:Hid (M8 125):=qh (nH Tryz.func125 (by kernel_rfl) rfl);have h4i:¬(24:Int)≤(n:Int):=by omega
 have h5i:¬(40:Int)≤(m:Int):=by omega
 have HM:=qh Hw;obtain⟨i1,v1,e1,-,-,-⟩:=ck (k:=fun v:EC=>v.1) (l:=Es) h1;rw[e1] at qR;clear e1;have e2:=dH (k:=fun v:VC=>v.1) (l:=Vs) ((cx Vs _).trans h2);rw[e2] at HV;clear e2;have e3:=dH (k:=fun v:EC=>v.1) (l:=Es) h3;rw[e3] at xR;clear e3;clear hS fy mj gK h1 h2 h3;have H:=qh h;clear h;go_enter Tryz.func94,Tryz.ntmps94;go_upto_region 1 with fail
 obtain⟨W1,aV⟩:=aB (W.alloc (δ (ak o).toArray 36));have aL:Hid (Whole W1 W.heap.size 36 (ak o)):=qh (by rw[←aV];exact Whole.new_ _ _ _);have cB:Hid (bK w lo g A n c Vs B m k Es C r rc G W1):=qh (by rw[←aV];exact H.out.al _);have bE:Hid (σ W.heap.size W W1):=qh (by rw[←aV];exact az _ _);rw[aV];clear aV H;have Nb:Hid (W.heap.size≠g):=qh (aL.out.ne_ cB.out.s (by decide));obtain⟨b0,bp⟩:=aB W.heap.size;rw[bp] at aL Nb ⊢;clear bp;have gM:=aL.out.cell (i:=1) rfl;have gO:=aL.out.cell (i:=2) rfl
 go_upto_region 7 with (first
  |(go_at_call 113
    refine(qR.out _ cB.out).mono ?_
    rintro e w2 ⟨rfl,aP⟩;have cY:=qh (cB.out.bl aP);have aZ:=qh (aL.out.bl aP);have bG:=qh (ag bE.out aP);clear aP cB aL bE gM gO;have mr:=aZ.out.cell (i:=1) rfl;have mS:=aZ.out.cell (i:=2) rfl;have qD:=aZ.out.cell (i:=3) rfl;have qC:=aZ.out.cell (i:=4) rfl;have mO:=aZ.out.cell (i:=5) rfl;have mq:=aZ.out.cell (i:=6) rfl;have lY:=aZ.out.cell (i:=19) rfl;have s0:=cY.out.s.cell (i:=0) rfl;have s1:=cY.out.s.cell (i:=1) rfl)
  |(go_at_call 110
    refine(HV.out _ cY.out).mono ?_
    rintro e w3 ⟨rfl,bA⟩;have gE:=qh (cY.out.bl bA);have cF:=qh (aZ.out.bl bA);have bB:=qh (ag bG.out bA);clear bA cY aZ bG mr mS qD qC mO mq lY s0 s1;have uv:=cF.out.cell (i:=1) rfl;have uA:=cF.out.cell (i:=2) rfl;have uI:=cF.out.cell (i:=3) rfl;have ug:=cF.out.cell (i:=4) rfl;have ui:=cF.out.cell (i:=5) rfl;have uo:=cF.out.cell (i:=6) rfl;have px:=cF.out.cell (i:=19) rfl;have s0:=gE.out.s.cell (i:=0) rfl;have s1:=gE.out.s.cell (i:=1) rfl)
  |(go_at_call 113
    refine(xR.out _ gE.out).mono ?_
    rintro e w4 ⟨rfl,ns⟩;have j8:=qh (gE.out.bl ns);have eY:=qh (cF.out.bl ns);have kC:=qh (ag bB.out ns);clear ns gE cF bB uv uA uI ug ui uo px s0 s1;have Hf:=eY.out.cell (i:=1) rfl;have G4:=eY.out.cell (i:=2) rfl;have Im:=eY.out.cell (i:=3) rfl;have Gf:=eY.out.cell (i:=4) rfl;have Gh:=eY.out.cell (i:=5) rfl;have Gk:=eY.out.cell (i:=6) rfl;have Av:=eY.out.cell (i:=19) rfl;have s0:=j8.out.s.cell (i:=0) rfl;have s1:=j8.out.s.cell (i:=1) rfl))
 clear Hf G4 Im Gf Gh Gk Av s0 s1;have agi:=eY.out.cell (i:=1) rfl;have afC:=eY.out.cell (i:=2) rfl;have aa7:=eY.out.cell (i:=19) rfl;go_upto_region 8 with fail
 have ep:1 - o.m % 2=p:=by rw[←gp,Int.tmod_eq_emod_of_nonneg Hw.1]
 have eq_:o.m / 2=q:=by rw[←gq,Jbp Hw.1]
 have l6:=qh (j8.out.al (δ #[J o.s,J o.n,J p] 32));have oK:=qh (eY.out.al (δ #[J o.s,J o.n,J p] 32));have kF:=qh (aI kC.out (δ #[J o.s,J o.n,J p] 32));have Qm:Hid (Whole (w4.alloc (δ #[J o.s,J o.n,J p] 32)) w4.heap.size 32 [J o.s,J o.n,J p]):=qh (Whole.new_ _ _ [_,_,_]);rw[ep];obtain⟨W5,sC⟩:=aB (w4.alloc (δ #[J o.s,J o.n,J p] 32));obtain⟨bm,EP⟩:=aB w4.heap.size;rw[sC] at l6 oK kF Qm ⊢;rw[EP] at Qm ⊢;clear sC EP j8 eY kC;clear agi afC aa7;have ag5:=oK.out.cell (i:=5) rfl;have afm:=oK.out.cell (i:=6) rfl;have aay:=oK.out.cell (i:=19) rfl;go_upto_region 9 with fail
 have iF:=qh (l6.out.al (δ #[J o.s2,J o.n2,J q] 32));have p9:=qh (oK.out.al (δ #[J o.s2,J o.n2,J q] 32));have Eb:=qh (Qm.out.al (δ #[J o.s2,J o.n2,J q] 32));have s7:=qh (aI kF.out (δ #[J o.s2,J o.n2,J q] 32));have ki:Hid (Whole (W5.alloc (δ #[J o.s2,J o.n2,J q] 32)) W5.heap.size 32 [J o.s2,J o.n2,J q]):=qh (Whole.new_ _ _ [_,_,_]);(try rw[eq_]);obtain⟨W6,Dr⟩:=aB (W5.alloc (δ #[J o.s2,J o.n2,J q] 32));obtain⟨bk,gbk⟩:=aB W5.heap.size;rw[Dr] at iF p9 Eb s7 ki ⊢;rw[gbk] at ki ⊢;clear Dr gbk l6 oK Qm kF ag5 afm aay;have HQ:=qh hq;clear hq hp gp gq ep eq_;have Nm_:Hid (bm≠g):=qh (Eb.out.ne_ iF.out.s (by decide));have Nk:Hid (bk≠g):=qh (ki.out.ne_ iF.out.s (by decide));have XF:=qh (aJ.of_below (g:=g) s7.out)
 go_wp2_with (first
  |(go_at_call 121
    refine(vE iF.out (by omega) BG.out 125 (ζ ⟨bm,0,ε⟩) (ζ ⟨bk,0,ε⟩) (fun l=>aM (j4 l (bh (bL o) p) (bh (cX o) (1 - q)))) (fun X=>Whole X bm 32 [J o.s,J o.n,J p]∧Whole X bk 32 [J o.s2,J o.n2,J q]) ⟨Eb.out,ki.out⟩ (fun X Y hx hk=>⟨hk.w _ _ _ hx.1 Nm_.out (by decide) (by decide) (by decide),hk.w _ _ _ hx.2 Nk.out (by decide) (by decide) (by decide)⟩) Eg.out (fun X A n c L hx hr hn=>L5 A n c bm bk L (bh (bL o) p) (bh (cX o) q) X hr hx.1 hx.2 HQ.out hn)).mono ?_
    rintro e w7 ⟨rfl,Us7,ye,hu7,xU⟩;have pT:=qh ye;have Z8:=qh hu7;have O9:=qh (xU.box p9.out iF.out.s);have WX:=qh (xU.box Eb.out iF.out.s);have PE:=qh (xU.box ki.out iF.out.s);have HJ7:=qh (XF.out.trans xU);clear ye hu7 xU iF p9 Eb ki s7 XF;have ae6:=O9.out.cell (i:=5) rfl;have aet:w7.cell? ⟨b0,6,ε⟩=ζ (J o.n2):=O9.out.cell (i:=6) rfl)
  |(go_at_call 116
    refine(wh pT.out o.s2 o.n2 (by omega) XC.out (gY.1 HH3.out)).mono ?_
    rintro e w8 ⟨rfl,B8,k8,LL,yp⟩;have kj:=qh LL;have ue:=qh (yp.box O9.out pT.out.s);have yu:=qh (yp.box WX.out pT.out.s);have mc:=qh (yp.box PE.out pT.out.s);have LP:=qh (HJ7.out.trans yp);clear LL yp pT O9 WX PE HJ7 ae6 aet))
 clear BG Eg XC HH3 HM qR xR HV;obtain⟨S3,hS3⟩:∃S:Nat→Prop,∀b,S b↔¬(b=b0∨b=bm∨b=bk):=⟨_,fun _=>Iff.rfl⟩
 have gE:=qh hS3;clear hS3;have afu:∀w',Kept (S3) w8.drew w'→w'.cell? ⟨b0,3,ε⟩=ζ (J o.s1):=fun w' h=>h.cell (ue.out.dr.cell (i:=3) rfl) (fun k=>(gE.out _).1 k (.inl rfl))
 have acY:∀w',Kept (S3) w8.drew w'→w'.cell? ⟨b0,4,ε⟩=ζ (J o.n1):=fun w' h=>h.cell (ue.out.dr.cell (i:=4) rfl) (fun k=>(gE.out _).1 k (.inl rfl))
 have aeb:∀w',Kept (S3) w8.drew w'→w'.cell? ⟨bm,0,ε⟩=ζ (J o.s):=fun w' h=>h.cell (yu.out.dr.cell (i:=0) rfl) (fun k=>(gE.out _).1 k (.inr (.inl rfl)))
 have afn:∀w',Kept (S3) w8.drew w'→w'.cell? ⟨bk,0,ε⟩=ζ (J o.s2):=fun w' h=>h.cell (mc.out.dr.cell (i:=0) rfl) (fun k=>(gE.out _).1 k (.inr (.inr rfl)))
 have af1:∀w',Kept (S3) w8.drew w'→w'.cell? ⟨bm,1,ε⟩=ζ (J o.n):=fun w' h=>h.cell (yu.out.dr.cell (i:=1) rfl) (fun k=>(gE.out _).1 k (.inr (.inl rfl)))
 have acM:∀w',Kept (S3) w8.drew w'→w'.cell? ⟨bk,1,ε⟩=ζ (J o.n2):=fun w' h=>h.cell (mc.out.dr.cell (i:=1) rfl) (fun k=>(gE.out _).1 k (.inr (.inr rfl)))
 have afi:∀w',Kept (S3) w8.drew w'→w'.cell? ⟨bm,2,ε⟩=ζ (J p):=fun w' h=>h.cell (yu.out.dr.cell (i:=2) rfl) (fun k=>(gE.out _).1 k (.inr (.inl rfl)))
 have acK:∀w',Kept (S3) w8.drew w'→w'.cell? ⟨bk,2,ε⟩=ζ (J q):=fun w' h=>h.cell (mc.out.dr.cell (i:=2) rfl) (fun k=>(gE.out _).1 k (.inr (.inr rfl)))
 refine ay (S3) (by kernel_rfl) ?_;refine aa 0 ?_;refine aa 1 ?_;refine aa 2 ?_;refine aa 3 ?_;refine aa 4 ?_;refine yq 5 ?_;intro w' aC;have fe:=qh ((kj.out.dr.bl aC).al (δ #[J o.s,J o.n,J p,J o.s2,J o.n2,J q] 32));have xK:=qh ((ue.out.dr.bl aC).al (δ #[J o.s,J o.n,J p,J o.s2,J o.n2,J q] 32));have EX:=qh ((yu.out.dr.bl aC).al (δ #[J o.s,J o.n,J p,J o.s2,J o.n2,J q] 32));have km:=qh ((mc.out.dr.bl aC).al (δ #[J o.s,J o.n,J p,J o.s2,J o.n2,J q] 32));have Xi:=qh (LP.out.trans ((aJ.of_below ((Θ _ w8).drew.trans (aC.mono (Δ _)))).trans (aJ.of_below (az w' (δ #[J o.s,J o.n,J p,J o.s2,J o.n2,J q] 32)))));have rK:Hid (Whole (w'.alloc (δ #[J o.s,J o.n,J p,J o.s2,J o.n2,J q] 32)) w'.heap.size 32 [J o.s,J o.n,J p,J o.s2,J o.n2,J q]):=qh (Whole.new_ _ _ [_,_,_,_,_,_])
 refine⟨_,w'.alloc (δ #[J o.s,J o.n,J p,J o.s2,J o.n2,J q] 32),by(go_simp;first|done|exact rfl|exact⟨rfl,rfl⟩),Kept.of_below (az _ _),?_⟩
 obtain⟨b9,gb9⟩:=aB w'.heap.size;obtain⟨W9,Yh⟩:=aB (w'.alloc (δ #[J o.s,J o.n,J p,J o.s2,J o.n2,J q] 32));rw[Yh] at fe xK EX km Xi rK;rw[gb9] at rK;rw[Yh,gb9];clear aC Yh gb9 afu acY aeb af1 afi afn acM acK kj ue yu mc LP;simp only[ξ,aw,ar,aq];refine mw 6 ?_;intro w' aC
 refine(J2 (ζ ⟨b9,0,ε⟩) 2 2 [bh (bL o) p,bh (cX o) q] w' (bg.whole3 (L:=[bh (bL o) p,bh (cX o) q]) (t:=32) (by exact rK.out.bl aC)) (by omega)).mono ?_
 rintro e Nw ⟨A10,c10,rfl,QA,oD⟩
 refine⟨_,rfl,Kept.of_below oD,?_⟩
 obtain⟨L10,UN⟩:=aB (aM [bh (bL o) p,bh (cX o) q]);rw[UN] at QA ⊢;have GL:=qh UN;obtain⟨N10,aan⟩:=aB L10.length;rw[aan] at QA ⊢;have JW:=qh QA;have nX:=qh ((fe.out.bl aC).bl oD);have mK:=qh ((xK.out.bl aC).bl oD);have Jc:=qh ((EX.out.bl aC).bl oD);have oA:=qh ((km.out.bl aC).bl oD);have NU:=qh (Xi.out.trans ((aJ.of_below aC).trans (aJ.of_below oD)));clear aC oD QA UN aan rK fe xK EX km Xi;simp only[ξ,aw,ar,aq];refine aa 7 ?_;refine mw 8 ?_;intro w' aC
 refine(CU (nX.out.bl aC) ((o.s1,o.n1),(A10,N10,c10,L10),⟨#[]⟩,0) (JW.out.bl aC) (by omega) (JH Z8.out HUV.out) (gY.1 ((cx Us7 _).trans ((Jh Z8.out _).trans HH2.out)))).mono ?_
 rintro e DR ⟨rfl,A11,c11,U9,Vc⟩
 refine⟨_,rfl,OH (nX.out.bl aC) U9 Vc S3 (fun b hb=>by
  rcases Classical.not_not.1 (fun k=>hb ((gE.out b).2 k)) with rfl|rfl|rfl
  ·exact⟨_,.inr (mK.out.bl aC)⟩
  ·exact⟨_,.inl (Jc.out.bl aC)⟩
  ·exact⟨_,.inl (oA.out.bl aC)⟩),?_⟩
 have DG:=qh U9;have N5:=qh (NU.out.trans ((aJ.of_below aC).trans Vc));clear aC U9 Vc nX mK Jc oA NU JW;simp only[ξ,aw,ar,aq];refine aF (by kernel_rfl) ?_ _;intro w12 T8;have R7:=qh (DG.out.bl T8);have Q5:=qh (N5.out.trans (aJ.of_below T8));clear T8 DG N5;go_wp2;go_ret;exact cG.yes HR.out rfl Q5.out R7.out (by rw[wG,Z8.out,←GL.out];rfl)
theorem K7 (h:bK w lo g A n c Vs B m k Es C r rc G W) (hS:gD (Vs.map vS,Es,G)) (o:dR) (Hw:0≤o.m∧o.m≤3):Ζ η 94 #[υ (ζ ⟨g,0,ε⟩),φ (ak o).toArray] W (cG w W lo g (dJ (Vs.map vS,Es,G) (bL o) (rz o) (cX o) o.m)):=by
 by_cases h1:bI Es (bL o)=τ
 ·by_cases h2:bu (Vs.map vS) (rz o)=τ
  ·exact TX h hS o h1 h2
  ·have h2:=eq_false_of_ne_true h2
   by_cases h3:bI Es (cX o)=τ
   ·exact Wj h hS o h1 h2 h3
   ·have h3:=eq_false_of_ne_true h3
    by_cases h4:24≤n
    ·exact TK h hS o h1 h2 h3 h4
    ·by_cases h5:40≤m
     ·exact VO h hS o h1 h2 h3 h4 h5
     ·exact Wf h hS o h1 h2 h3 h4 h5 Hw
 ·exact T4 h hS o (eq_false_of_ne_true h1)
end
end Go.Proofs.YtpdpbfmiahjiiaaGreat
