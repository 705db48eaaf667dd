/- Several texts in one. -/
import Derived.Test.YtpdpbfmiahjiiaaGreatPpAB
import Derived.Test.YtpdpbfmiahjiiaaGreatPpAK
import Derived.Below
import Derived.BigQuiet
import Derived.Carry
import Derived.Deep.AppendLies
import Derived.Deep.CutBlock
import Derived.Deep.DeepCutAuto
import Derived.Deep.MidRow
import Derived.Deep.QuietTactic
import Derived.Deep.Slices
import Derived.Deep.WholeRow
import Derived.DeepKeys4
import Derived.Great.Walk
import Derived.IntWalk
import Derived.KernelRfl
import Derived.Laws.AppendOwnNone
import Derived.Laws.MakeOwn
import Derived.Laws.NewBlocks
import Derived.Laws.OwnMore
import Derived.Laws.RangeAny
import Derived.Laws.RangeString
import Derived.Laws.ResultCell
import Derived.Laws.Rows
import Derived.Laws.Tables
import Derived.Lib.Hide
import Derived.Lib.SmallJoins
import Derived.LoopIn
import Derived.LoopNIn
import Derived.LoopTactic
import Derived.Maps.AppendAt
import Derived.Maps.OwnIn
import Derived.Maps.OwnSet
import Derived.OpenShut
import Derived.OrdersHeld
import Derived.Outline
import Derived.OwnWalkIn
import Derived.ProofKit
import Derived.RangeFuncBound
import Derived.RangeFuncCalls
import Derived.RangeFuncLeaves
import Derived.RangeFuncNested
import Derived.Shelf.Abstract
import Derived.Shelf.RegionOpen
import Derived.Shelf.SlSortCmp.NoneTotal
import Derived.Shelf.SlSortCmp.WholeK
import Derived.SizedLaws
import Derived.TacticsInMore
import Derived.WalkKit
import Derived.WalkLawsBesides
import Derived.WalkSpells
import Derived.WideKeyArgs
set_option linter.unusedSectionVars false
set_option linter.unusedSimpArgs false
set_option linter.unusedVariables false
set_option maxRecDepth 100000
set_option maxHeartbeats 16000000
namespace Go.Proofs.YtpdpbfmiahjiiaaGreat
open Go.RowKit
open _root_.Go.Value renaming slice→γ,string→μ,pointer→υ,agg→φ,bool→Β,tuple→Ξ,slice→Ο,oneCell'→Τ
open _root_.Go.Obj renaming cells→δ
open _root_.Option renaming none→ε,some→ζ
open _root_.Go.Proofs.Tryz renaming prog→η
open _root_.List renaming getElem?_eq_getElem→θ,map_cons→ι,getElem?_eq_some_iff→ν,map_nil→π,getD_eq_getElem?_getD→χ,mem_of_getElem?→ω,length_append→Ε,take_of_length_le→Ι,length_map→Ρ,drop_eq_getElem_cons→Χ,getElem?_cons_succ→Jag,getElem?_cons_zero→Jah,getElem?_toArray→Jaj
open _root_.Go.Act renaming put→ξ
open _root_.Go renaming World→ο,Calls→Ζ,Addr→Κ,maxLen→Jap
open _root_.Bool renaming false→ρ
open _root_.Go.RowKit renaming Below→σ
open _root_.Nat renaming le_refl→Δ,add_zero→Jac,zero_le→Jas
open _root_.Go.RowKit.Below renaming refl→Θ
open _root_.Option.some renaming inj→Μ
open _root_.Go.Addr renaming add_lit→Ν
open _root_.Go.IntKind renaming i64→Jaw
open _root_.Prod.mk renaming injEq→Jba
open _root_.Go.IntWalk renaming i64_in→Jbb
open _root_.Int renaming tdiv_eq_ediv_of_nonneg→Jbp
open _root_.Go.World renaming block_lt_of_cell?→Jbx
theorem FC (A:Option Κ) (n c:Nat) (Vs:List VC) (B:Option Κ) (m k:Nat) (x1 x2:Int) (w:ο) (h:aX w w.heap.size 5 A n c (aj vC Vs)) (hn:n≤1000000):
 Ζ η 60 #[φ #[γ A n c,γ B m k],φ #[J x1,J x2]] w fun e w'=>e=.returned (J (gh 0 Vs (x1,x2)))∧σ w.heap.size w w':=by
 have HV:=qh h;have FP:=qh (h.rlen aQ (by decide));obtain⟨p,gp⟩:=ay (gh 0 Vs (x1,x2));have HP:=qh gp;rw[gp];clear h gp;go_enter Tryz.func60,Tryz.ntmps60;go_upto_region 1 with fail
 obtain⟨W0,b0,b1,bP,bK,cX,aN,aI,a8,xj,DA,kQ,EH,jK,mj⟩:=E6 w 25 [γ A n c,γ B m k] 30 [J x1,J x2];rw[bP,cX,bK];clear bP bK cX;go_wp2;go_loopw [5] (fun si wr=>∃j:Nat,j≤n∧si=J j∧Hid (σ W0.heap.size W0 wr)∧Hid (p=gh j (Vs.drop j) (x1,x2))) (fun si _=>n - (intOf si).toNat)
 case atStart=>exact⟨0,by omega,rfl,qh (Θ _ _),qh HP.out.symm⟩
 case round=>
  obtain⟨j,hj,rfl,mB,HE⟩:=hrel;obtain⟨wo,ec⟩:=ay wr;rw[ec] at mB ⊢;clear ec;have vl:=qh (aN.out.bl mB.out);have HYo:=qh (aI.out.bl mB.out);have cb:=vl.out.cell (i:=0) rfl
  by_cases o4:j<n
  ·obtain⟨v,hx⟩:∃v,Vs[j]? =ζ v:=⟨_,θ (by have:=FP.out;omega)⟩
   have wE:Vs.drop j=v::Vs.drop (j+1):=by
    rw[Χ (ν.1 hx).1,(ν.1 hx).2]
   have pQ:=HE.out;rw[wE,gh] at pQ;have sO:=qh pQ;have HB:=qh (a8.out.trans (mB.out.mono a8.out.size));obtain⟨bb,off,rfl,bD,bM⟩:=HV.out.place aQ (by decide) (by omega);have cR:=HB.out;have q0:=bM j _ hx 0 _ rfl;have q1:=bM j _ hx 1 _ rfl;have q2:=bM j _ hx 2 _ rfl;have q3:=bM j _ hx 3 _ rfl;have q4:=bM j _ hx 4 _ rfl;simp only[Ν,Jac] at q0 q1 q2 q3 q4;have l0:=(cR.cell (p:=⟨bb,off+j*5,ε⟩) bD).trans q0;have l1:=(cR.cell (p:=⟨bb,off+j*5+1,ε⟩) bD).trans q1;have l2:=(cR.cell (p:=⟨bb,off+j*5+2,ε⟩) bD).trans q2;have l3:=(cR.cell (p:=⟨bb,off+j*5+3,ε⟩) bD).trans q3;have l4:=(cR.cell (p:=⟨bb,off+j*5+4,ε⟩) bD).trans q4;clear cR q0 q1 q2 q3 q4;obtain⟨⟨i1,i2⟩,⟨rA,rn,rc,rL⟩,lb,at_⟩:=v;have he:=Oz i1 i2 x1 x2
   have hd:(i1==x1 && i2==x2)=decide (((i1,i2):I2)=(x1,x2)):=by
    by_cases h1:i1=x1<;>by_cases h2:i2=x2<;>simp[h1,h2]
   obtain⟨b,gb⟩:=ay (decide (((i1,i2):I2)=(x1,x2)));rw[hd,gb] at he;have Hb:=qh gb;clear hx wE pQ bM bD HE hd gb;go_upto_region 4 with fail
   clear cb;have fv:=dm (i:=0) vl.out rfl;have ld1:=dm (i:=0) HYo.out rfl;have kO:=dm (i:=1) HYo.out rfl;have pt:∀w',Kept aF wo.drew w'→w'.cell? ⟨bb,off+j*5,ε⟩=ζ (J i1):=fun w' h=>h.nil_cell (show wo.drew.cell? _=_ from l0)
   have sU:∀w',Kept aF wo.drew w'→w'.cell? ⟨bb,off+j*5+1,ε⟩=ζ (J i2):=fun w' h=>h.nil_cell (show wo.drew.cell? _=_ from l1)
   refine aw (aF) (by kernel_rfl) ?_;refine ag 0 ?_;refine ag 1 ?_;refine ag 2 ?_;refine ag 3 ?_;refine ag 4 ?_;refine ag 5 ?_;refine ag 6 ?_;refine bY 7 (hy:=dG (by rfl) (fun w' aB=>bE .eql 30 (.tmp 18) (.tmp 19) 30 rfl rfl rfl (by kernel_rfl) (he w'))) (h:=?_);refine aD (by kernel_rfl) ?_ _;intro W8 cE;have oR:=qh (af (aL mB.out) cE);clear cE fv ld1 kO pt sU l0 l1 l2 l3 l4;cases b with
   |true=>
    have hp:p=(j:Int):=by rw[sO.out,if_pos (of_decide_eq_true Hb.out)]
    clear sO;subst hp;go_wp2;go_ret;exact⟨rfl,a8.out.trans (oR.out.mono a8.out.size)⟩
   |false=>
    have HE4:Hid (p=gh (j+1) (Vs.drop (j+1)) (x1,x2)):=qh (by rw[sO.out,if_neg (of_decide_eq_false Hb.out)]);go_wp2;go_roundw
    case rel=>exact⟨j+1,by omega,by go_num,oR,HE4⟩
    case measure=>simp[intOf]<;>omega
  ·obtain rfl:n=j:=by omega
   have hp:p= -1:=by
    rw[HE.out,List.drop_eq_nil_of_le (by have:=FP.out;omega)];rfl
   clear HE;subst hp;go_wp2;go_ret;exact⟨rfl,a8.out.trans (mB.out.mono a8.out.size)⟩
theorem Dw (A:Option Κ) (n c:Nat) (Vs:List VC) (B:Option Κ) (m k:Nat) (Es:List EC) (w:ο) (h:aR w A n c Vs B m k Es) (hf:bc Vs Es):
 Ζ η 61 #[φ #[γ A n c,γ B m k]] w fun e w'=>∃A2 c2,e=.returned (γ A2 n c2)∧aX w' w'.heap.size 1 A2 n c2 (aj n1 (kR Vs))∧σ w.heap.size w w':=by
 obtain⟨yQ,UX,E7⟩:=hf.small h;have FP:=qh (h.v.rlen aQ (by decide));have Hlw:=qh (h.e.rlen bF (by decide));have HD:=qh h;obtain⟨P,gP⟩:=ay (vj Vs Es);have HRn:Hid (ek P n n=kR Vs):=qh (by rw[←gP,←FP.out];exact KQ hf);have VZ:Hid (P.length=m):=qh (by rw[←gP,vj,Ρ];exact Hlw.out)
 have Uz:Hid (∀(i:Nat) (e:EC),Es[i]? =ζ e→∃a b:Nat,P[i]? =ζ (a,b)∧a<n∧b<n∧gh 0 Vs (kj Vs (e.1.1,e.1.2,0)).1=(a:Int)∧gh 0 Vs (kj Vs (e.1.1,e.1.2,1)).1=(b:Int)):=qh (fun i e he=>by
  obtain⟨a,v,hv,hd,ha⟩:=hf.dart (ω he) 0 (.inl rfl);obtain⟨b,u,hu,ze,hb⟩:=hf.dart (ω he) 1 (.inr rfl);have h1:=hf.stands hv hd;have h2:=hf.stands hu ze
  refine⟨a,b,?_,by rw[←FP.out];exact ha,by rw[←FP.out];exact hb,by rw[h1.1,h1.2],by rw[h2.1,h2.2]⟩
  rw[←gP,vj,List.getElem?_map,he,Option.map_some,hf.plc hv hd,hf.plc hu ze])
 have yF:Hid (∀a1 a2 a3 W,aR W A n c Vs B m k Es→Ζ η 29 #[φ #[γ A n c,γ B m k],φ #[J a1,J a2,J a3]] W fun e w'=>e=.returned (Ξ #[φ #[J (kj Vs (a1,a2,a3)).1.1,J (kj Vs (a1,a2,a3)).1.2],Β (kj Vs (a1,a2,a3)).2])∧σ W.heap.size W w'):=qh (fun a1 a2 a3 W h=>oN A n c Vs B m k Es a1 a2 a3 W h (by omega) (fun x hx=>by have:=E7 x hx;omega));have HPc:Hid (∀a1 a2 W,aR W A n c Vs B m k Es→Ζ η 60 #[φ #[γ A n c,γ B m k],φ #[J a1,J a2]] W fun e w'=>e=.returned (J (gh 0 Vs (a1,a2)))∧σ W.heap.size W w'):=qh (fun a1 a2 W h=>FC A n c Vs B m k a1 a2 W h.v (by omega));obtain⟨i0,hi,oX,jL,kd⟩:=aW KR;clear h hf E7 gP;go_enter Tryz.func61,Tryz.ntmps61;go_upto_region 1 with fail
 obtain⟨W0,b0,bP,bK,aN,a8,xj,DA,kQ⟩:=LV w 25 [γ A n c,γ B m k];rw[bP,bK];clear bP bK;have La:Hid (Ow W0 W0.heap.size 3 1 (γ (ζ ⟨W0.heap.size,0,ε⟩) 0 0) 0 (aj n1 (zb 0)) (W0.alloc (δ #[] 3))):=qh (Ow.new_ (cs:=#[]) (Θ _ _) (Δ _) (Δ _) (Jas _) rfl);go_wp2;go_loopw [3,4] (fun so si wr=>∃j:Nat,j≤n∧si=J j∧Hid (Ow W0 W0.heap.size 3 1 so j (aj n1 (zb j)) wr)) (fun _ si _=>n - (intOf si).toNat)
 case atStart=>exact⟨0,by omega,rfl,La⟩
 case round=>
  clear La;obtain⟨j,hj,rfl,HO⟩:=hrel;have vl:=qh (aN.out.bl HO.out.below);have cb:=vl.out.cell (i:=0) rfl
  by_cases o4:j<n
  ·go_wp2_with (first
    |(at_builtin
      refine fb rfl (.tmp 22) (.tmp 24) _ rfl _ 3 i0 _ 1 8 Tryz.underlying101 hi oX jL kd rfl (by decide) _ _ _ rfl (by exact HO.out.up (ax _ _)) _ (ζ ⟨wr.heap.size,0,ε⟩) 1 1 (n1 (j:Int)) rfl (by exact aX.of_whole (Whole.new_ _ _ _) rfl) (by simp[n1,Τ]) (by unfold Jap;omega) (by omega) ?_;intro v1 w1 fg e8;have mX:=qh fg;clear fg e8))
   go_roundw
   case rel=>
    refine⟨j+1,by omega,by go_num,?_⟩
    rw[PZ,bV];exact mX
   case measure=>simp[intOf]<;>omega
  ·obtain rfl:n=j:=by omega
   obtain⟨Wj,co,eso,-⟩:=HO.out.rds;subst eso;have QN:Hid (wr.ownsRow W0.heap.size 3 1 (γ Wj n co) n (aj n1 (ek P n 0))):=qh HO.out.own;have yV:=qh HO.out.below;obtain⟨wl,gwl⟩:=ay wr;rw[gwl] at QN yV cb ⊢;clear gwl HO vl;go_wp2;clear cb;go_loopw [5] (fun sj wr=>∃j:Nat,j≤n∧sj=J j∧Hid (σ W0.heap.size W0 wr)∧Hid (wr.ownsRow W0.heap.size 3 1 (γ Wj n co) n (aj n1 (ek P n j)))) (fun sj _=>n - (intOf sj).toNat)
   case atStart=>exact⟨0,by omega,rfl,yV,QN⟩
   case round=>
    clear yV QN;obtain⟨j,hj,rfl,yV,QN⟩:=hrel;obtain⟨wo,ec⟩:=ay wr;rw[ec] at yV QN ⊢;clear ec;have cb:=(aN.out.bl yV.out).cell (i:=0) rfl
    by_cases o4:j<n
    ·have Z8:Hid (wo.ownsRow W0.heap.size 3 1 (γ Wj n co) n (aj n1 ((P.take 0).foldl xX (ek P n j)))):=QN;clear QN;go_wp2;clear cb;go_loopw [6] (fun si wr=>∃i:Nat,i≤m∧si=J i∧Hid (σ W0.heap.size W0 wr)∧Hid (wr.ownsRow W0.heap.size 3 1 (γ Wj n co) n (aj n1 ((P.take i).foldl xX (ek P n j))))) (fun si _=>m - (intOf si).toNat)
     case atStart=>exact⟨0,by omega,rfl,yV,Z8⟩
     case round=>
      clear yV Z8;obtain⟨i,RZ,rfl,Yb,Zd⟩:=hrel;obtain⟨wi,Yw⟩:=ay wr;rw[Yw] at Yb Zd ⊢;clear Yw;have HXi:=qh (aN.out.bl Yb.out);have cb:=HXi.out.cell (i:=1) rfl
      by_cases him:i<m
      ·obtain⟨e,he⟩:∃e,Es[i]? =ζ e:=⟨_,θ (by have:=Hlw.out;omega)⟩
       obtain⟨pa,pb,hpi,hpa,Wp,Qu,Sf⟩:=Uz.out i e he;have HDi:=qh ((HD.out.bl a8.out).bl Yb.out);obtain⟨bb,off,rfl,bD,bM⟩:=HDi.out.e.place bF (by decide) (by omega);have q0:=bM i _ he 0 _ rfl;have q1:=bM i _ he 1 _ rfl;simp only[Ν,Jac] at q0 q1;obtain⟨⟨e1,e2⟩,er⟩:=e;have HA0:=qh (yF.out e1 e2 0);have Wa:=qh (yF.out e1 e2 1);replace Qu:gh 0 Vs (kj Vs (e1,e2,0)).1=(pa:Int):=Qu;replace Sf:gh 0 Vs (kj Vs (e1,e2,1)).1=(pb:Int):=Sf;obtain⟨⟨⟨p1,p2⟩,pk⟩,gp⟩:∃z,kj Vs (e1,e2,0)=z:=⟨_,rfl⟩
       obtain⟨⟨⟨s1,s2⟩,sk⟩,gs⟩:∃z,kj Vs (e1,e2,1)=z:=⟨_,rfl⟩
       rw[gp] at HA0 Qu;rw[gs] at Wa Sf;have uX:=qh (HPc.out p1 p2);have Lq:=qh (HPc.out s1 s2);rw[show gh 0 Vs (p1,p2)=(pa:Int) from Qu] at uX;rw[show gh 0 Vs (s1,s2)=(pb:Int) from Sf] at Lq;have Hpi:=qh hpi;have sV:Hid (∀W,σ wi.heap.size wi W→W.cell? ⟨b0,0,ε⟩=ζ (γ A n c)∧W.cell? ⟨b0,1,ε⟩=ζ (γ (ζ ⟨bb,off,ε⟩) m k)∧W.cell? ⟨bb,off+i*4,ε⟩=ζ (J e1)∧W.cell? ⟨bb,off+i*4+1,ε⟩=ζ (J e2)):=qh (fun W hb=>⟨(HXi.out.bl hb).cell (i:=0) rfl,(HXi.out.bl hb).cell (i:=1) rfl,(hb.cell (p:=⟨bb,off+i*4,ε⟩) (Jbx _ _ q0)).trans q0,(hb.cell (p:=⟨bb,off+i*4+1,ε⟩) (Jbx _ _ q1)).trans q1⟩);have MS:Hid (∀W,Ext wi.drew W→W.cell? ⟨b0,0,ε⟩=ζ (γ A n c)∧W.cell? ⟨b0,1,ε⟩=ζ (γ (ζ ⟨bb,off,ε⟩) m k)∧W.cell? ⟨bb,off+i*4,ε⟩=ζ (J e1)∧W.cell? ⟨bb,off+i*4+1,ε⟩=ζ (J e2)):=qh (fun W hb=>sV.out W (af (aL (Θ _ _)) hb));clear he Qu Sf gp gs bD bM q0 q1 hpi;go_upto_region 12 with fail
       clear cb;refine mP 13 11 (de wi.heap.size) (KV [ζ (φ #[γ A n c,γ (ζ ⟨bb,off,ε⟩) m k]),ζ (υ (ζ ⟨b0,1,ε⟩)),ζ (γ (ζ ⟨bb,off,ε⟩) m k),ζ (J (i:Int)),ζ (υ (ζ ⟨bb,off+i*4,ε⟩)),ζ (υ (ζ ⟨bb,off+i*4,ε⟩)),ζ (φ #[J e1,J e2]),ζ (φ #[J e1,J e2,J 0]),ζ (Ξ #[φ #[J p1,J p2],Β pk]),ζ (Ξ #[φ #[J p1,J p2],Β pk]),ζ (φ #[J p1,J p2]),ζ (Β pk),ε] 12 wi.heap.size 30 [J 0,J 0]) (Ext wi.drew) (by kernel_rfl) (by kernel_rfl) (by kernel_rfl) (by kernel_rfl) (by kernel_rfl) (by kernel_rfl) (by simp only[Jaj,Jag,Jah];exact rfl) (by kernel_rfl) (by kernel_rfl) (by kernel_rfl) ?_ (fun i v w1 w2 h hx=>Bt i v w1 w2 h hx) (fun _ _ h k=>h.trans k) (Ext.refl _) ?_ ?_ ?_
       ·exact fun _ _ _ _ h=>h
       ·intro i RZ;have lJ:i=0∨i=1∨i=2∨i=3∨i=4∨i=5∨i=6∨i=7∨i=8∨i=9∨i=10∨i=11∨i=12:=by omega
        rcases lJ with rfl|rfl|rfl|rfl|rfl|rfl|rfl|rfl|rfl|rfl|rfl|rfl|rfl
        ·refine bj ?_;intro x y hg aK;obtain⟨Af,qR,ox,zT⟩:=MS.out _ hg;simp only[aP,ι,π,aC,ξ,aq,ak,ao];refine .inl ⟨by rfl,?_⟩;go_simp;exact⟨Ext.refl _,rfl⟩
        ·refine bj ?_;intro x y hg aK;simp only[aP,ι,π,aC,ξ,aq,ak,ao];refine .inl ⟨by rfl,?_⟩;go_simp;exact⟨Ext.refl _,rfl⟩
        ·refine bj ?_;intro x y hg aK;have d1:x 1=υ (ζ ⟨b0,1,ε⟩):=aK 1 (by decide);obtain⟨Af,qR,ox,zT⟩:=MS.out _ hg;simp only[aP,ι,π,aC,ξ,aq,ak,ao];simp only[d1];refine .inl ⟨by rfl,?_⟩;go_simp;exact⟨Ext.refl _,rfl⟩
        ·refine bj ?_;intro x y hg aK;simp only[aP,ι,π,aC,ξ,aq,ak,ao];refine .inl ⟨by rfl,?_⟩;go_simp;exact⟨Ext.refl _,rfl⟩
        ·refine bj ?_;intro x y hg aK;have d2:x 2=γ (ζ ⟨bb,off,ε⟩) m k:=aK 2 (by decide);have d3:x 3=J (i:Int):=aK 3 (by decide);simp only[aP,ι,π,aC,ξ,aq,ak,ao];simp only[d2,d3];refine .inl ⟨by rfl,?_⟩;go_simp;exact⟨Ext.refl _,rfl⟩
        ·refine bj ?_;intro x y hg aK;have d4:x 4=υ (ζ ⟨bb,off+i*4,ε⟩):=aK 4 (by decide);simp only[aP,ι,π,aC,ξ,aq,ak,ao];simp only[d4];refine .inl ⟨by rfl,?_⟩;go_simp;exact⟨Ext.refl _,rfl⟩
        ·refine bj ?_;intro x y hg aK;have d5:x 5=υ (ζ ⟨bb,off+i*4,ε⟩):=aK 5 (by decide);obtain⟨Af,qR,ox,zT⟩:=MS.out _ hg;simp only[aP,ι,π,aC,ξ,aq,ak,ao];simp only[d5];refine .inl ⟨by rfl,?_⟩;go_simp;exact⟨Ext.refl _,rfl⟩
        ·refine bj ?_;intro x y hg aK;have d6:x 6=φ #[J e1,J e2]:=aK 6 (by decide);simp only[aP,ι,π,aC,ξ,aq,ak,ao];simp only[d6];refine .inl ⟨by rfl,?_⟩;go_simp;exact⟨Ext.refl _,rfl⟩
        ·refine bj ?_;intro x y hg aK;have d0:x 0=φ #[γ A n c,γ (ζ ⟨bb,off,ε⟩) m k]:=aK 0 (by decide);have d7:x 7=φ #[J e1,J e2,J 0]:=aK 7 (by decide);simp only[aP,ι,π,aC,ξ,aq,ak,ao];simp only[d0,d7];refine .inl ⟨by rfl,eR (by go_simp;first|done|exact⟨rfl,rfl⟩|with_reducible rfl) ?_⟩
         refine(HA0.out y (HDi.out.dr.bl hg)).mono ?_
         rintro e w2 ⟨rfl,hb⟩;exact⟨_,rfl,hb,rfl⟩
        ·refine bj ?_;intro x y hg aK;have d8:x 8=Ξ #[φ #[J p1,J p2],Β pk]:=aK 8 (by decide);simp only[aP,ι,π,aC,ξ,aq,ak,ao];simp only[d8];refine .inl ⟨by rfl,?_⟩;go_simp;exact⟨Ext.refl _,rfl⟩
        ·refine bj ?_;intro x y hg aK;have d9:x 9=Ξ #[φ #[J p1,J p2],Β pk]:=aK 9 (by decide);simp only[aP,ι,π,aC,ξ,aq,ak,ao];simp only[d9];refine .inl ⟨by rfl,?_⟩;go_simp;exact⟨Ext.refl _,rfl⟩
        ·refine bj ?_;intro x y hg aK;have d9:x 9=Ξ #[φ #[J p1,J p2],Β pk]:=aK 9 (by decide);simp only[aP,ι,π,aC,ξ,aq,ak,ao];simp only[d9];refine .inl ⟨by rfl,?_⟩;go_simp;exact⟨Ext.refl _,rfl⟩
        ·refine bj ?_;intro x y hg aK;simp only[aP,ι,π,aC,ξ,aq,ak,ao];refine .inl ⟨by rfl,jy (w':=y.alloc (δ #[J 0,J 0] 30)) (by go_simp;first|done|exact rfl|exact⟨rfl,rfl⟩) (ax _ _) ?_⟩;exact⟨y.heap.size,rfl,hg.size,Whole.new_ _ _ [J 0,J 0]⟩
       ·intro x y hg cN;have d9:x 9=Ξ #[φ #[J p1,J p2],Β pk]:=cN 9 (by decide) (by decide);simp only[aP,ι,π,aC,ξ,aq,ak,ao];simp only[d9]
        refine⟨Β pk,?_,rfl⟩
        apply dG;rfl;intro w' aB;go_simp;(try with_reducible rfl)
       intro x y hg cN;have d10:x 10=φ #[J p1,J p2]:=cN 10 (by decide);have d11:x 11=Β pk:=cN 11 (by decide);obtain⟨gr,d12,It,Cg⟩:∃g,x 12=υ (ζ ⟨g,0,ε⟩)∧wi.heap.size≤g∧Whole y g 30 [J 0,J 0]:=cN 12 (by decide)
       simp only[aP,ι,π,aC,ξ,aq,ak,ao];simp only[d10,d11,d12];have vW:=qh Cg;have zK:=qh (af (aL (Θ _ wi)) hg);have kJ:Hid (wi.heap.size≤gr):=qh It;have WV:Hid (wi.heap.size≤wi.heap.size):=qh (by omega);clear hg cN d10 d11 d12 It Cg;refine kI 13 ?_;intro w' aB
       refine⟨w'.setRow gr #[J p1,J p2],bn 30 (.tmp 7) (.tmp 50) rfl gr rfl [J p1,J p2] rfl 30 [J 0,J 0] (vW.out.bl aB) (by kernel_rfl) rfl (by simp[Τ]),dV (show wi.heap.size≤gr by have:=kJ.out;have:=WV.out;omega) _,?_⟩
       have By:Hid (Whole (w'.setRow gr #[J p1,J p2]) gr 30 [J p1,J p2]):=qh (Whole.row (vW.out.bl aB) [J p1,J p2]);have oZ:Hid (σ wi.heap.size wi (w'.setRow gr #[J p1,J p2])):=qh (cC (af zK.out aB) kJ.out _);obtain⟨V1,kN⟩:=ay (w'.setRow gr #[J p1,J p2]);rw[kN] at By oZ ⊢;clear aB kN vW zK;refine ag 14 ?_;refine aD (by kernel_rfl) ?_ _;intro W8 cE;have tY:=qh (By.out.bl cE);have mB:=qh (af oZ.out cE);clear cE By oZ WV;obtain⟨ga,gga⟩:=ay gr;rw[gga] at tY ⊢;obtain⟨wa,gwa⟩:=ay W8;rw[gwa] at tY mB ⊢;clear gga gwa MS kJ gr;have VR:=tY;have zk:=mB;have Zf:=qh (HDi.out.bl zk.out);have MS:Hid (∀W,Ext wa.drew W→W.cell? ⟨b0,0,ε⟩=ζ (γ A n c)∧W.cell? ⟨b0,1,ε⟩=ζ (γ (ζ ⟨bb,off,ε⟩) m k)∧W.cell? ⟨bb,off+i*4,ε⟩=ζ (J e1)∧W.cell? ⟨bb,off+i*4+1,ε⟩=ζ (J e2)):=qh (fun W hb=>sV.out W (af zk.out (af (aL (Θ _ _)) hb)));clear tY mB;go_upto_region 13 with fail
       refine mP 13 11 (de wa.heap.size) (KV [ζ (φ #[γ A n c,γ (ζ ⟨bb,off,ε⟩) m k]),ζ (υ (ζ ⟨b0,1,ε⟩)),ζ (γ (ζ ⟨bb,off,ε⟩) m k),ζ (J (i:Int)),ζ (υ (ζ ⟨bb,off+i*4,ε⟩)),ζ (υ (ζ ⟨bb,off+i*4,ε⟩)),ζ (φ #[J e1,J e2]),ζ (φ #[J e1,J e2,J 1]),ζ (Ξ #[φ #[J s1,J s2],Β sk]),ζ (Ξ #[φ #[J s1,J s2],Β sk]),ζ (φ #[J s1,J s2]),ζ (Β sk),ε] 12 wa.heap.size 30 [J 0,J 0]) (Ext wa.drew) (by kernel_rfl) (by kernel_rfl) (by kernel_rfl) (by kernel_rfl) (by kernel_rfl) (by kernel_rfl) (by simp only[Jaj,Jag,Jah];exact rfl) (by kernel_rfl) (by kernel_rfl) (by kernel_rfl) ?_ (fun i v w1 w2 h hx=>Bt i v w1 w2 h hx) (fun _ _ h k=>h.trans k) (Ext.refl _) ?_ ?_ ?_
       ·exact fun _ _ _ _ h=>h
       ·intro i RZ;have lJ:i=0∨i=1∨i=2∨i=3∨i=4∨i=5∨i=6∨i=7∨i=8∨i=9∨i=10∨i=11∨i=12:=by omega
        rcases lJ with rfl|rfl|rfl|rfl|rfl|rfl|rfl|rfl|rfl|rfl|rfl|rfl|rfl
        ·refine bj ?_;intro x y hg aK;obtain⟨Af,qR,ox,zT⟩:=MS.out _ hg;simp only[aP,ι,π,aC,ξ,aq,ak,ao];refine .inl ⟨by rfl,?_⟩;go_simp;exact⟨Ext.refl _,rfl⟩
        ·refine bj ?_;intro x y hg aK;simp only[aP,ι,π,aC,ξ,aq,ak,ao];refine .inl ⟨by rfl,?_⟩;go_simp;exact⟨Ext.refl _,rfl⟩
        ·refine bj ?_;intro x y hg aK;have d1:x 1=υ (ζ ⟨b0,1,ε⟩):=aK 1 (by decide);obtain⟨Af,qR,ox,zT⟩:=MS.out _ hg;simp only[aP,ι,π,aC,ξ,aq,ak,ao];simp only[d1];refine .inl ⟨by rfl,?_⟩;go_simp;exact⟨Ext.refl _,rfl⟩
        ·refine bj ?_;intro x y hg aK;simp only[aP,ι,π,aC,ξ,aq,ak,ao];refine .inl ⟨by rfl,?_⟩;go_simp;exact⟨Ext.refl _,rfl⟩
        ·refine bj ?_;intro x y hg aK;have d2:x 2=γ (ζ ⟨bb,off,ε⟩) m k:=aK 2 (by decide);have d3:x 3=J (i:Int):=aK 3 (by decide);simp only[aP,ι,π,aC,ξ,aq,ak,ao];simp only[d2,d3];refine .inl ⟨by rfl,?_⟩;go_simp;exact⟨Ext.refl _,rfl⟩
        ·refine bj ?_;intro x y hg aK;have d4:x 4=υ (ζ ⟨bb,off+i*4,ε⟩):=aK 4 (by decide);simp only[aP,ι,π,aC,ξ,aq,ak,ao];simp only[d4];refine .inl ⟨by rfl,?_⟩;go_simp;exact⟨Ext.refl _,rfl⟩
        ·refine bj ?_;intro x y hg aK;have d5:x 5=υ (ζ ⟨bb,off+i*4,ε⟩):=aK 5 (by decide);obtain⟨Af,qR,ox,zT⟩:=MS.out _ hg;simp only[aP,ι,π,aC,ξ,aq,ak,ao];simp only[d5];refine .inl ⟨by rfl,?_⟩;go_simp;exact⟨Ext.refl _,rfl⟩
        ·refine bj ?_;intro x y hg aK;have d6:x 6=φ #[J e1,J e2]:=aK 6 (by decide);simp only[aP,ι,π,aC,ξ,aq,ak,ao];simp only[d6];refine .inl ⟨by rfl,?_⟩;go_simp;exact⟨Ext.refl _,rfl⟩
        ·refine bj ?_;intro x y hg aK;have d0:x 0=φ #[γ A n c,γ (ζ ⟨bb,off,ε⟩) m k]:=aK 0 (by decide);have d7:x 7=φ #[J e1,J e2,J 1]:=aK 7 (by decide);simp only[aP,ι,π,aC,ξ,aq,ak,ao];simp only[d0,d7];refine .inl ⟨by rfl,eR (by go_simp;first|done|exact⟨rfl,rfl⟩|with_reducible rfl) ?_⟩
         refine(Wa.out y (Zf.out.dr.bl hg)).mono ?_
         rintro e w2 ⟨rfl,hb⟩;exact⟨_,rfl,hb,rfl⟩
        ·refine bj ?_;intro x y hg aK;have d8:x 8=Ξ #[φ #[J s1,J s2],Β sk]:=aK 8 (by decide);simp only[aP,ι,π,aC,ξ,aq,ak,ao];simp only[d8];refine .inl ⟨by rfl,?_⟩;go_simp;exact⟨Ext.refl _,rfl⟩
        ·refine bj ?_;intro x y hg aK;have d9:x 9=Ξ #[φ #[J s1,J s2],Β sk]:=aK 9 (by decide);simp only[aP,ι,π,aC,ξ,aq,ak,ao];simp only[d9];refine .inl ⟨by rfl,?_⟩;go_simp;exact⟨Ext.refl _,rfl⟩
        ·refine bj ?_;intro x y hg aK;have d9:x 9=Ξ #[φ #[J s1,J s2],Β sk]:=aK 9 (by decide);simp only[aP,ι,π,aC,ξ,aq,ak,ao];simp only[d9];refine .inl ⟨by rfl,?_⟩;go_simp;exact⟨Ext.refl _,rfl⟩
        ·refine bj ?_;intro x y hg aK;simp only[aP,ι,π,aC,ξ,aq,ak,ao];refine .inl ⟨by rfl,jy (w':=y.alloc (δ #[J 0,J 0] 30)) (by go_simp;first|done|exact rfl|exact⟨rfl,rfl⟩) (ax _ _) ?_⟩;exact⟨y.heap.size,rfl,hg.size,Whole.new_ _ _ [J 0,J 0]⟩
       ·intro x y hg cN;have d9:x 9=Ξ #[φ #[J s1,J s2],Β sk]:=cN 9 (by decide) (by decide);simp only[aP,ι,π,aC,ξ,aq,ak,ao];simp only[d9]
        refine⟨Β sk,?_,rfl⟩
        apply dG;rfl;intro w' aB;go_simp;(try with_reducible rfl)
       intro x y hg cN;have d10:x 10=φ #[J s1,J s2]:=cN 10 (by decide);have d11:x 11=Β sk:=cN 11 (by decide);obtain⟨gr,d12,It,Cg⟩:∃g,x 12=υ (ζ ⟨g,0,ε⟩)∧wa.heap.size≤g∧Whole y g 30 [J 0,J 0]:=cN 12 (by decide)
       simp only[aP,ι,π,aC,ξ,aq,ak,ao];simp only[d10,d11,d12];have vW:=qh Cg;have zK:=qh (af (aL (Θ _ wa)) hg);have kJ:Hid (wa.heap.size≤gr):=qh It;have WV:Hid (wa.heap.size≤wa.heap.size):=qh (by omega);clear hg cN d10 d11 d12 It Cg;refine kI 13 ?_;intro w' aB
       refine⟨w'.setRow gr #[J s1,J s2],bn 30 (.tmp 9) (.tmp 62) rfl gr rfl [J s1,J s2] rfl 30 [J 0,J 0] (vW.out.bl aB) (by kernel_rfl) rfl (by simp[Τ]),dV (show wa.heap.size≤gr by have:=kJ.out;have:=WV.out;omega) _,?_⟩
       have By:Hid (Whole (w'.setRow gr #[J s1,J s2]) gr 30 [J s1,J s2]):=qh (Whole.row (vW.out.bl aB) [J s1,J s2]);have oZ:Hid (σ wa.heap.size wa (w'.setRow gr #[J s1,J s2])):=qh (cC (af zK.out aB) kJ.out _);obtain⟨V1,kN⟩:=ay (w'.setRow gr #[J s1,J s2]);rw[kN] at By oZ ⊢;clear aB kN vW zK;refine ag 14 ?_;refine aD (by kernel_rfl) ?_ _;intro W8 cE;have tY:=qh (By.out.bl cE);have mB:=qh (af oZ.out cE);clear cE By oZ WV;have XU:=tY;have Vg:=qh (VR.out.bl mB.out);have Qh:=qh (af zk.out mB.out);have Wd:=qh (HDi.out.bl Qh.out);obtain⟨c0,c1,-,-⟩:=sV.out _ Qh.out;have k0:=Vg.out.cell (i:=0) rfl;have k1:=Vg.out.cell (i:=1) rfl;clear tY mB MS kJ VR zk Zf;go_wp2_with fail
       clear c0 c1 k0 k1
       refine(uX.out _ Wd.out).mono ?_
       rintro e w9 ⟨rfl,o6⟩;have te:=qh (af Qh.out o6);have uU:=qh (Wd.out.bl o6);have HW9:=qh (XU.out.bl o6);obtain⟨c0,c1,-,-⟩:=sV.out _ te.out;have k0:=HW9.out.cell (i:=0) rfl;have k1:=HW9.out.cell (i:=1) rfl;clear o6 Qh Wd XU Vg;go_wp2_with fail
       clear c0 c1 k0 k1
       refine(Lq.out _ uU.out).mono ?_
       rintro e vB ⟨rfl,e6⟩;have Vr:=qh (af te.out e6);have Rs:=qh (bO Zd.out Vr.out);have Li:=qh (af Yb.out Vr.out);clear e6 te uU HW9 Vr sV Zd;have tV:((P.take i).foldl xX (ek P n j)).length=n:=by rw[xF,ob]
       have GV:(P.take (i+1)).foldl xX (ek P n j)=xX ((P.take i).foldl xX (ek P n j)) (pa,pb):=by
        rw[List.take_add_one,Hpi.out,List.foldl_append];rfl
       obtain⟨L,gL⟩:=ay ((P.take i).foldl xX (ek P n j));rw[gL] at tV GV Rs;have hxa:L[pa]? =ζ (L.getD pa 0):=by rw[χ,θ (by omega)];rfl
       have hxb:L[pb]? =ζ (L.getD pb 0):=by rw[χ,θ (by omega)];rfl
       obtain⟨gq,junk,eq,fV,hw,hc,-,-⟩:=kh (i:=0) (y:=0) (u:=J 0) xk Rs.out hxa hpa (by omega) rfl;subst eq;obtain⟨gq2,agW,eq2,-,jd,Y8,-,-⟩:=kh (i:=0) (y:=0) (u:=J 0) xk Rs.out hxb Wp (by omega) rfl
       obtain rfl:gq=gq2:=by
        injection eq2 with eq2
        injection eq2
       simp only[Nat.mul_one,Jac] at hc Y8;obtain⟨va,gva⟩:=ay (L.getD pa 0);obtain⟨vb,gvb⟩:=ay (L.getD pb 0);replace hc:vB.cell? ⟨gq,pa,ε⟩=ζ (J va):=by rw[hc,←gva];rfl
       replace Y8:vB.cell? ⟨gq,pb,ε⟩=ζ (J vb):=by rw[Y8,←gvb];rfl
       obtain⟨mn,gmn⟩:=ay (min va vb);have Io:Hid (xX L (pa,pb)=(L.set pa mn).set pb mn):=qh (by rw[xX,gva,gvb,gmn]);have t0:decide ((0:Int)≤(pa:Int))=true:=decide_eq_true (by omega);have t1:decide ((0:Int)≤(pb:Int))=true:=decide_eq_true (by omega);have Hc:=qh hc;have Hcb:=qh Y8;have Q9:=qh fV;have Hll:=qh tV;have Hst:=qh GV;have Hxa:=qh hxa;clear gL hxa hxb fV hw jd eq2 hc Y8 tV GV gva gvb;go_upto_region 17 with fail
       have fv:∀w',Kept aF vB.drew w'→w'.cell? ⟨gq,pa,ε⟩=ζ (J va):=fun w' h=>h.nil_cell (show vB.drew.cell? _=_ from Hc.out)
       have ld1:∀w',Kept aF vB.drew w'→w'.cell? ⟨gq,pb,ε⟩=ζ (J vb):=fun w' h=>h.nil_cell (show vB.drew.cell? _=_ from Hcb.out)
       refine aw (aF) (by kernel_rfl) ?_;refine ag 0 ?_;refine ag 1 ?_;refine ag 2 ?_;refine ag 3 ?_;refine ag 4 ?_;refine ag 5 ?_;refine ag 6 ?_;refine ag 7 ?_;refine ag 8 ?_;refine ag 9 ?_;refine aD (by kernel_rfl) ?_ _;intro W8 cE;have El:=qh (bO Rs.out (af (aL (Θ _ _)) cE));have oR:=qh (af (aL Li.out) cE);clear cE Rs Li fv ld1 Hc Hcb;obtain⟨gq1,aeV,eq1,Xs,-,vP,za,ho⟩:=kh (i:=0) (y:=mn) (u:=J mn) xk El.out Hxa.out hpa (by omega) rfl
       obtain rfl:gq=gq1:=by
        injection eq1 with eq1
        injection eq1
       have hyb:(L.set pa mn)[pb]? =ζ ((L.set pa mn).getD pb 0):=by rw[χ,θ (by rw[List.length_set,Hll.out];exact Wp)];rfl
       obtain⟨gq3,ahf,eq3,-,fu,WO,SF,yx⟩:=kh (i:=0) (y:=mn) (u:=J mn) xk ho hyb Wp (by omega) rfl
       obtain rfl:gq=gq3:=by
        injection eq3 with eq3
        injection eq3
       simp only[Nat.mul_one,Jac] at vP za ho WO SF yx;rw[←Io.out,←Hst.out] at yx;obtain⟨vc,gvc⟩:=ay ((L.set pa mn).getD pb 0);obtain⟨vd,gvd⟩:=ay (L.getD pa 0);replace vP:W8.cell? ⟨gq,pa,ε⟩=ζ (J vd):=by rw[vP,←gvd];rfl
       replace WO:(W8.setCell ⟨gq,pa,ε⟩ (J mn)).cell? ⟨gq,pb,ε⟩=ζ (J vc):=by rw[WO,←gvc];rfl
       have kB:=qh yx;have cI:=qh ((oR.out.setCell (p:=⟨gq,pa,ε⟩) Xs (J mn)).setCell (p:=⟨gq,pb,ε⟩) Xs (J mn));clear eq1 eq3 ho hyb fu yx gvc gvd El oR Hll Hst Hxa Io;go_wp2;go_roundw
       case rel=>exact⟨i+1,by omega,by go_num,cI,kB⟩
       case measure=>simp[intOf]<;>omega
      ·obtain rfl:m=i:=by omega
       have hO:=Zd.out;rw[Ι (by rw[VZ.out];exact Δ _)] at hO;have Rs:Hid (wi.ownsRow W0.heap.size 3 1 (γ Wj n co) n (aj n1 (ek P n (j+1)))):=qh hO;clear hO Zd;go_wp2;go_roundw
       case rel=>exact⟨j+1,by omega,by go_num,Yb,Rs⟩
       case measure=>simp[intOf]<;>omega
    ·obtain rfl:n=j:=by omega
     have hO:=QN.out;rw[HRn.out] at hO;have Vo:=qh hO;clear hO QN;go_wp2;go_ret;exact⟨Wj,co,rfl,aJ Vo.out,a8.out.trans (yV.out.mono a8.out.size)⟩
theorem Fi (A:Option Κ) (n c:Nat) (Vs:List VC) (B:Option Κ) (m k:Nat) (Es:List EC) (w:ο) (h:aR w A n c Vs B m k Es) (hf:bc Vs Es):
 Ζ η 41 #[φ #[γ A n c,γ B m k]] w fun e w'=>e=.returned (J ((xU (kR Vs):Nat):Int))∧σ w.heap.size w w':=by
 obtain⟨yQ,UX,E7⟩:=hf.small h;have FP:=qh (h.v.rlen aQ (by decide));have HD:=qh h;have aiu:=qh (PM Vs);obtain⟨L,gL⟩:=ay (kR Vs);have VE:Hid (L.length=n):=qh (by rw[←gL,tj];exact FP.out);have HLb:Hid (∀W,aR W A n c Vs B m k Es→Ζ η 61 #[φ #[γ A n c,γ B m k]] W fun e w'=>∃A2 c2,e=.returned (γ A2 n c2)∧aX w' w'.heap.size 1 A2 n c2 (aj n1 L)∧σ W.heap.size W w'):=qh (fun W h=>gL▸Dw A n c Vs B m k Es W h hf);have YU:xU (kR Vs)=rk L n:=by rw[xU,tj,FP.out,gL];rfl
 rw[YU];clear h hf E7 gL YU;go_enter Tryz.func41,Tryz.ntmps41;go_upto_region 1 with fail
 obtain⟨W0,b0,bP,bK,aN,a8,xj,DA,kQ⟩:=LV w 25 [γ A n c,γ B m k];rw[bP,bK];clear bP bK;have c0:=aN.out.cell (i:=0) rfl;have c1:=aN.out.cell (i:=1) rfl;go_wp2_with fail
 clear c0 c1
 refine(HLb.out _ (HD.out.bl a8.out)).mono ?_
 rintro e w3 ⟨A2,c2,rfl,sw,bC⟩;have lk:=qh sw;have cI:=qh (af a8.out bC);clear sw bC;go_wp2;go_loopw [4,5] (fun sn si wr=>∃j:Nat,j≤n∧si=J j∧sn=J ((rk L j:Nat):Int)∧Hid (σ w3.heap.size w3 wr)) (fun _ si _=>n - (intOf si).toNat)
 case atStart=>exact⟨0,by omega,rfl,rfl,qh (Θ _ _)⟩
 case round=>
  obtain⟨j,hj,rfl,rfl,mB⟩:=hrel
  by_cases o4:j<n
  ·obtain⟨x,hx⟩:∃x,L[j]? =ζ x:=⟨_,θ (by have:=VE.out;omega)⟩
   obtain⟨bb,off,rfl,bD,bM⟩:=lk.out.place xk (by decide) (by omega);have q0:=bM j x hx 0 _ rfl;simp only[Ν,Jac,Nat.mul_one] at q0;have l0:=(mB.out.cell (p:=⟨bb,off+j,ε⟩) bD).trans q0
   have hk:rk L (j+1)=rk L j+(if x==(j:Int) then 1 else 0):=by
    rw[Rx,rh,χ,hx];rfl
   have hkj:rk L j≤j:=by rw[rk];have:=List.countP_le_length (p:=rh L) (l:=List.range j);simpa using this
   obtain⟨t,gt⟩:=ay (rk L j);rw[gt] at hk hkj;rw[gt];obtain⟨b,gb⟩:=ay ((x==(j:Int)));rw[gb] at hk;have Hk:=qh hk;clear hx bD bM q0 hk gt;cases b with
   |true=>
    go_wp2;go_roundw
    case rel=>exact⟨j+1,by omega,by go_num,by rw[Hk.out];go_num,mB⟩
    case measure=>simp[intOf]<;>omega
   |false=>
    go_wp2;go_roundw
    case rel=>exact⟨j+1,by omega,by go_num,by rw[Hk.out];rfl,mB⟩
    case measure=>simp[intOf]<;>omega
  ·obtain rfl:n=j:=by omega
   go_wp2;go_ret;exact⟨rfl,cI.out.trans (mB.out.mono cI.out.size)⟩
theorem DY (A:Option Κ) (n c:Nat) (Vs:List VC) (B:Option Κ) (m k:Nat) (Es:List EC) (w:ο) (h:aR w A n c Vs B m k Es) (hm:m≤1000000):
 Ζ η 63 #[φ #[γ A n c,γ B m k]] w fun e w'=>∃A' c',e=.returned (γ A' (2*m) c')∧w'.ownsRow w.heap.size 32 3 (γ A' (2*m) c') (2*m) (aA (yU Es))∧σ w.heap.size w w':=by
 have HE:=qh h.e;have Hle:=qh (h.e.rlen bF (by decide));obtain⟨i0,FG,oX,jL,kd⟩:=aW oJ;clear h;go_enter Tryz.func63,Tryz.ntmps63;go_upto_region 1 with fail
 obtain⟨W0,b0,bP,bK,aN,a8,xj,DA,kQ⟩:=LV w 25 [γ A n c,γ B m k];rw[bP,bK];clear bP bK;have aI:=qh (aN.out.al (δ #[] 32));have mX:Hid (Ow w (b0+1) 32 3 (γ (ζ ⟨W0.heap.size,0,ε⟩) 0 0) 0 [] (W0.alloc (δ #[] 32))):=qh (Ow.new_ (cs:=#[]) a8.out (by have:=kQ.out;omega) (by have:=aN.out.lt;omega) (by unfold Jap;omega) rfl);go_wp2;clear aN a8;obtain⟨W1,aO⟩:=ay (W0.alloc (δ #[] 32));obtain⟨g1,Ib⟩:=ay W0.heap.size;rw[aO] at aI mX ⊢;rw[Ib] at mX ⊢;clear aO Ib;go_loopw [3,4] (fun sl si wr=>∃(i:Nat) (A2:Option Κ) (c2:Nat),i≤m∧si=J i∧sl=γ A2 (2*i) c2∧Hid (Whole wr b0 25 [γ A n c,γ B m k])∧Hid (Ow w (b0+1) 32 3 (γ A2 (2*i) c2) (2*i) (aA (yU (Es.take i))) wr)) (fun _ si _=>m - (intOf si).toNat)
 case atStart=>exact⟨0,_,_,by omega,rfl,rfl,aI,mX⟩
 case round=>
  clear aI mX;obtain⟨i,A2,c2,hi,rfl,rfl,HX,HO⟩:=hrel;obtain⟨wo,ec⟩:=ay wr;rw[ec] at HX HO ⊢;clear ec;have c1:=HX.out.cell (i:=1) rfl
  by_cases him:i<m
  ·obtain⟨x,hx⟩:∃x,Es[i]? =ζ x:=⟨_,θ (by have:=Hle.out;omega)⟩
   have S7:=NP Es i x hx;obtain⟨bb,off,rfl,bD,bM⟩:=HE.out.place bF (by decide) (by omega);have HB:=qh HO.out.below;have cR:=HB.out;have q0:=bM i _ hx 0 _ rfl;have q1:=bM i _ hx 1 _ rfl;have q2:=bM i _ hx 2 _ rfl;have q3:=bM i _ hx 3 _ rfl;simp only[Ν,Jac] at q0 q1 q2 q3;have l0:=(cR.cell (p:=⟨bb,off+i*4,ε⟩) bD).trans q0;have l1:=(cR.cell (p:=⟨bb,off+i*4+1,ε⟩) bD).trans q1;have l2:=(cR.cell (p:=⟨bb,off+i*4+2,ε⟩) bD).trans q2;have l3:=(cR.cell (p:=⟨bb,off+i*4+3,ε⟩) bD).trans q3;clear cR q0 q1 q2 q3;obtain⟨⟨i1,i2⟩,lb,at_⟩:=x;replace S7:yU (Es.take (i+1))=yU (Es.take i)++[(i1,i2,0),(i1,i2,1)]:=S7;have q0:wo.cell? ⟨bb,off+i*4,ε⟩=ζ (J i1):=l0;have q1:wo.cell? ⟨bb,off+i*4+1,ε⟩=ζ (J i2):=l1;have Hbb:Hid (bb<b0+1):=qh (by have:=kQ.out;omega);have HOd:=qh (HO.out.up ((Θ _ _).drew));have yC:=qh HX.out.dr;have HDn:=qh S7;clear l0 l1 l2 l3 hx bD bM S7;go_upto_region 5 with fail
   have ld1:∀w',Kept (de (b0+1)) wo.drew w'→w'.cell? ⟨b0,1,ε⟩=ζ (γ (ζ ⟨bb,off,ε⟩) m k):=fun w' h=>h.from_cell (Nat.lt_succ_self _) (yC.out.cell (i:=1) rfl)
   have kO:∀w',Kept (de (b0+1)) wo.drew w'→w'.cell? ⟨bb,off+i*4,ε⟩=ζ (J i1):=fun w' h=>h.from_cell Hbb.out (show wo.drew.cell? _=_ from q0)
   have pt:∀w',Kept (de (b0+1)) wo.drew w'→w'.cell? ⟨bb,off+i*4+1,ε⟩=ζ (J i2):=fun w' h=>h.from_cell Hbb.out (show wo.drew.cell? _=_ from q1)
   clear q0 q1 c1 HX HO HB;refine aw (de (b0+1)) (by kernel_rfl) ?_;refine ag 0 ?_;refine ag 1 ?_;refine ag 2 ?_;refine ag 3 ?_;refine ag 4 ?_;refine ag 5 ?_;refine ag 6 ?_;refine ag 7 ?_;refine ag 8 ?_;refine ag 9 ?_;refine ag 10 ?_;refine ag 11 ?_;refine ag 12 ?_;refine ag 13 ?_;refine ag 14 ?_;refine Kd 15 ?_;intro w' aB
   refine⟨γ (ζ ⟨w'.heap.size,0,ε⟩) 2 2,w'.alloc (δ #[J i1,J i2,J 0,J i1,J i2,J 1] 32),fa 57 32 2 #[(0,.tmp 20),(1,.tmp 27)] (by rfl) Tryz.underlying57 _ (by kernel_rfl),Kept.of_below (ax _ _),?_⟩
   have HL:Hid (aX (w'.alloc (δ #[J i1,J i2,J 0,J i1,J i2,J 1] 32)) (w'.alloc (δ #[J i1,J i2,J 0,J i1,J i2,J 1] 32)).heap.size 3 (ζ ⟨w'.heap.size,0,ε⟩) 2 2 (aA [(i1,i2,0),(i1,i2,1)])):=qh (aX.of_whole (Whole.new_ _ _ _) rfl);have Da:=qh (HOd.out.up (aE aB (δ #[J i1,J i2,J 0,J i1,J i2,J 1] 32)));have HXe:=qh ((yC.out.bl aB).al (δ #[J i1,J i2,J 0,J i1,J i2,J 1] 32));obtain⟨W3,lZ⟩:=ay (w'.alloc (δ #[J i1,J i2,J 0,J i1,J i2,J 1] 32));obtain⟨g3,Ie⟩:=ay w'.heap.size;rw[lZ] at HL Da HXe ⊢;rw[Ie] at HL ⊢;clear aB lZ Ie HOd yC;simp only[ξ,aq,ak,ao];refine Kd 16 ?_;intro w' aB;obtain⟨v8,cT,cj,TM,qX⟩:=Ow.app (P:=η) 57 57 32 i0 _ 3 24 (b0+1) Tryz.underlying57 FG oX jL kd rfl (by decide) _ (2*i) _ (Da.out.up aB) _ _ 2 _ _ (HL.out.bl aB) (by simp[aA,Τ]) (by unfold Jap;omega) (by omega);obtain⟨A8,c8,rfl,-⟩:=TM.rds
   refine⟨_,cT,cA (by rfl) (by rfl) (by rfl) cj,Kept.of_from qX,?_⟩
   have Vo:Hid (Ow w (b0+1) 32 3 (γ A8 (2*i+2) c8) (2*i+2) (aA (yU (Es.take (i+1)))) cT):=qh (by
    rw[HDn.out,fm];exact TM)
   have tX:=qh ((Kept.of_from qX).whole (HXe.out.bl aB) (by unfold de;omega));obtain⟨W4,EK⟩:=ay cT;rw[EK] at Vo tX ⊢;clear aB cj qX TM EK HL Da HXe;simp only[ξ,aq,ak,ao];refine ag 17 ?_;refine aD (by kernel_rfl) ?_ _;intro W8 cE;have acM:=qh (Vo.out.up cE);have Bn:=qh (tX.out.bl cE);clear cE Vo tX;go_wp2;go_roundw
   case rel=>exact⟨i+1,A8,c8,by omega,by go_num,by rw[show 2*(i+1)=2*i+2 by omega],Bn,by rw[show 2*(i+1)=2*i+2 by omega];exact acM⟩
   case measure=>simp[intOf];omega
  ·obtain rfl:m=i:=by omega
   have hO:=HO.out;rw[Ι (by have:=Hle.out;omega)] at hO;have fW:=qh hO;clear hO HO HX;go_wp2;go_ret;exact⟨A2,c2,rfl,ql fW.out.own (by have:=kQ.out;omega),fW.out.below⟩
theorem Og (x1 x2 x3:Int) (w:ο):Ζ η 32 #[φ #[J x1,J x2,J x3]] w fun e w'=>e=.returned (φ #[J (othW (x1,x2,x3)).1,J (othW (x1,x2,x3)).2.1,J (othW (x1,x2,x3)).2.2])∧σ w.heap.size w w':=by
 go_enter Tryz.func32,Tryz.ntmps32;go_wp2;exact bodyPost_ret (v:=φ #[J x1,J x2,J (Jaw.wrap (1 - x3))]) (by simp[results,Tryz.results32,go_sem,IntWalk.i64_left]) rfl ⟨rfl,cG _ _ _⟩
theorem G0 (A:Option Κ) (n c:Nat) (Vs:List VC) (B:Option Κ) (m k:Nat) (Es:List EC) (x1 x2 x3:Int) (w:ο) (h:aR w A n c Vs B m k Es) (hf:bc Vs Es):
 Ζ η 86 #[φ #[γ A n c,γ B m k],φ #[J x1,J x2,J x3]] w (uc w (Ce Vs (x1,x2,x3)) (decide ((x1,x2,x3)∈aH Vs))):=by
 have rG:=qh h;have hr:∀x∈Vs,x.2.1.2.1≤1000000:=fun x hx=>by have:=(hf.small h).2.2 x hx;omega
 have hn:n≤1000000:=by have:=(hf.small h).1;omega
 obtain⟨p1,p2,p3⟩:=LZ hf (x1,x2,x3);have yF:=qh (fun W (h:aR W A n c Vs B m k Es)=>oN A n c Vs B m k Es x1 x2 x3 W h (by omega) (fun x hx=>by have:=hr x hx;omega));obtain⟨⟨⟨a1,a2⟩,ok⟩,ga⟩:∃z,kj Vs (x1,x2,x3)=z:=⟨_,rfl⟩
 rw[ga] at yF p1 p2 p3;have q1:=fun W (h:aR W A n c Vs B m k Es)=>JW h hr (a1,a2)
 obtain⟨⟨⟨⟨i1,i2⟩,⟨rA,rn,rc,rL⟩,lb,at_⟩,YP⟩,gv⟩:∃z,bu Vs (a1,a2)=z:=⟨_,rfl⟩
 have q2:=fun W (h:aR W A n c Vs B m k Es)=>fJ A n c Vs B m k Es a1 a2 W (aR.v h) (by omega)
 rw[show bu Vs ((a1,a2),ok).1=_ from gv] at p1 p2;simp only[gv] at q1;replace p1:(x1,x2,x3)∈rL↔(x1,x2,x3)∈aH Vs:=p1;replace p2:tT rL (x1,x2,x3)=Ce Vs (x1,x2,x3):=p2;replace p3:ok=decide ((x1,x2,x3)∈aH Vs):=p3;have sK:∀W,aR W A n c Vs B m k Es→aX W W.heap.size 3 rA rn rc (aA rL)∧rn≤1000000:=fun W h=>⟨(q1 W h).1.2,(q1 W h).2⟩
 have HRn:=qh sK
 have hNx:∀W A' c',aX W W.heap.size 3 A' rn c' (aA rL)→Ζ η 108 #[γ A' rn c',φ #[J x1,J x2,J x3]] W (uc W (Ce Vs (x1,x2,x3)) (decide ((x1,x2,x3)∈aH Vs))):=fun W A' c' h'=>by
  have:=GI A' rn c' rL (x1,x2,x3) W h' (sK _ h).2
  rw[p2,decide_eq_decide.2 p1] at this;exact this
 have ik:=qh hNx;have P3:=qh p3
 have hV:∀W,aR W A n c Vs B m k Es→Ζ η 27 #[φ #[γ A n c,γ B m k],φ #[J a1,J a2]] W fun e w'=>∃A' c',e=.returned (Ξ #[φ #[J i1,J i2,γ A' rn c',μ lb,J at_],Β YP])∧aX w' w'.heap.size 3 A' rn c' (aA rL)∧σ W.heap.size W w':=fun W h=>by
  have h1:=q2 W h;rw[gv] at h1;refine Calls.mono h1 ?_;rintro e w' ⟨rfl,hb⟩;exact⟨rA,rc,rfl,(sK _ (h.bl hb)).1,hb⟩
 have HV:=qh hV
 have hyz:ok=ρ→Ce Vs (x1,x2,x3)=(0,0,0):=fun e=>by
  have hx:(x1,x2,x3)∉aH Vs:=of_decide_eq_false (p3.symm.trans e);rw[Ce,wb hf.once hx];rfl
 have X6:=qh hyz;clear hyz q1 q2 p1 p2 p3 ga gv sK hNx hV h hf hr hn;obtain⟨⟨y1,y2,y3⟩,gy⟩:∃z,Ce Vs (x1,x2,x3)=z:=⟨_,rfl⟩
 obtain⟨oy,PQ⟩:=ay (decide ((x1,x2,x3)∈aH Vs));rw[gy,PQ] at ik;rw[gy] at X6;rw[PQ] at P3;rw[gy,PQ];clear gy PQ;go_enter Tryz.func86,Tryz.ntmps86;have lV:((((w.alloc (δ #[γ A n c,γ B m k] 25)).alloc (δ #[J x1,J x2,J x3] 32)).alloc (δ #[J 0,J 0,J 0] 32))).cell? ⟨w.heap.size,0,ε⟩=ζ (γ A n c):=(((show Whole (w.alloc (δ #[γ A n c,γ B m k] 25)) (w.heap.size) (25) ([γ A n c,γ B m k]) from Whole.new2 (by first|rfl|simp)).al (δ #[J x1,J x2,J x3] 32)).al (δ #[J 0,J 0,J 0] 32)).cell (i:=0) rfl;have lX:((((w.alloc (δ #[γ A n c,γ B m k] 25)).alloc (δ #[J x1,J x2,J x3] 32)).alloc (δ #[J 0,J 0,J 0] 32))).cell? ⟨w.heap.size,1,ε⟩=ζ (γ B m k):=(((show Whole (w.alloc (δ #[γ A n c,γ B m k] 25)) (w.heap.size) (25) ([γ A n c,γ B m k]) from Whole.new2 (by first|rfl|simp)).al (δ #[J x1,J x2,J x3] 32)).al (δ #[J 0,J 0,J 0] 32)).cell (i:=1) rfl;have lw3:((((w.alloc (δ #[γ A n c,γ B m k] 25)).alloc (δ #[J x1,J x2,J x3] 32)).alloc (δ #[J 0,J 0,J 0] 32))).cell? ⟨w.heap.size+1,0,ε⟩=ζ (J x1):=((show Whole ((w.alloc (δ #[γ A n c,γ B m k] 25)).alloc (δ #[J x1,J x2,J x3] 32)) ((w.heap.size+1)) (32) ([J x1,J x2,J x3]) from Whole.new2 (by first|rfl|simp)).al (δ #[J 0,J 0,J 0] 32)).cell (i:=0) rfl
 have lw4:((((w.alloc (δ #[γ A n c,γ B m k] 25)).alloc (δ #[J x1,J x2,J x3] 32)).alloc (δ #[J 0,J 0,J 0] 32))).cell? ⟨w.heap.size+1,1,ε⟩=ζ (J x2):=((show Whole ((w.alloc (δ #[γ A n c,γ B m k] 25)).alloc (δ #[J x1,J x2,J x3] 32)) ((w.heap.size+1)) (32) ([J x1,J x2,J x3]) from Whole.new2 (by first|rfl|simp)).al (δ #[J 0,J 0,J 0] 32)).cell (i:=1) rfl;have oY:((((w.alloc (δ #[γ A n c,γ B m k] 25)).alloc (δ #[J x1,J x2,J x3] 32)).alloc (δ #[J 0,J 0,J 0] 32))).cell? ⟨w.heap.size+1,2,ε⟩=ζ (J x3):=((show Whole ((w.alloc (δ #[γ A n c,γ B m k] 25)).alloc (δ #[J x1,J x2,J x3] 32)) ((w.heap.size+1)) (32) ([J x1,J x2,J x3]) from Whole.new2 (by first|rfl|simp)).al (δ #[J 0,J 0,J 0] 32)).cell (i:=2) rfl;go_wp2_with fail
 clear lV lX lw3 lw4 oY
 refine(yF.out _ (((rG.out.al (δ #[γ A n c,γ B m k] 25)).al (δ #[J x1,J x2,J x3] 32)).al (δ #[J 0,J 0,J 0] 32))).mono ?_
 rintro e w6 ⟨rfl,eP⟩;have Kk:=qh ((((rG.out.al (δ #[γ A n c,γ B m k] 25)).al (δ #[J x1,J x2,J x3] 32)).al (δ #[J 0,J 0,J 0] 32)).bl eP);have ET:=qh ((((show Whole (w.alloc (δ #[γ A n c,γ B m k] 25)) (w.heap.size) (25) ([γ A n c,γ B m k]) from Whole.new2 (by first|rfl|simp)).al (δ #[J x1,J x2,J x3] 32)).al (δ #[J 0,J 0,J 0] 32)).bl eP);have Ya:=qh (((show Whole ((w.alloc (δ #[γ A n c,γ B m k] 25)).alloc (δ #[J x1,J x2,J x3] 32)) ((w.heap.size+1)) (32) ([J x1,J x2,J x3]) from Whole.new2 (by first|rfl|simp)).al (δ #[J 0,J 0,J 0] 32)).bl eP);have Br:=qh ((show Whole (((w.alloc (δ #[γ A n c,γ B m k] 25)).alloc (δ #[J x1,J x2,J x3] 32)).alloc (δ #[J 0,J 0,J 0] 32)) ((w.heap.size+1+1)) (32) ([J 0,J 0,J 0]) from Whole.new2 (by first|rfl|simp)).bl eP);have dD:=qh (af (aE (aE (aE (Θ _ w) (δ #[γ A n c,γ B m k] 25)) (δ #[J x1,J x2,J x3] 32)) (δ #[J 0,J 0,J 0] 32)) eP);clear rG;clear eP;have Rb:Hid (w.heap.size≤w.heap.size):=qh (by omega);have Vh:Hid (w.heap.size≤(w.heap.size+1)):=qh (by omega);have QZ:Hid (w.heap.size≠(w.heap.size+1)):=qh (by omega)
 have Qy:Hid (w.heap.size≤(w.heap.size+1+1)):=qh (by omega);have Q2:Hid (w.heap.size≠(w.heap.size+1+1)):=qh (by omega);have Tn:Hid ((w.heap.size+1)≠(w.heap.size+1+1)):=qh (by omega);cases ok with
 |false=>
  obtain rfl:ρ=oy:=P3.out;have hyz:Hid ((y1,y2,y3)=((0,0,0):D)):=qh (X6.out rfl)
  obtain⟨hy1,Zo,hy3⟩:y1=0∧y2=0∧y3=0:=by
   have:=hyz.out
   simp only[Jba] at this;exact this
  subst hy1 Zo hy3;have z0:=(Br.out.al (δ #[J a1,J a2] 30)).cell (i:=0) rfl;have z1:=(Br.out.al (δ #[J a1,J a2] 30)).cell (i:=1) rfl;have z2:=(Br.out.al (δ #[J a1,J a2] 30)).cell (i:=2) rfl;have f0:=(Br.out.al (δ #[J a1,J a2] 30)).free 0;have f1:=(Br.out.al (δ #[J a1,J a2] 30)).free 1;have f2:=(Br.out.al (δ #[J a1,J a2] 30)).free 2;have HY:=qh ((((Br.out.al (δ #[J a1,J a2] 30)).set_ 0 (J 0)).set_ 1 (J 0)).set_ 2 (J 0));have oZ:=qh ((((aE dD.out (δ #[J a1,J a2] 30)).setCell (p:=⟨w.heap.size+1+1,0,ε⟩) (show w.heap.size≤w.heap.size+1+1 by omega) (J 0)).setCell (p:=⟨w.heap.size+1+1,1,ε⟩) (show w.heap.size≤w.heap.size+1+1 by omega) (J 0)).setCell (p:=⟨w.heap.size+1+1,2,ε⟩) (show w.heap.size≤w.heap.size+1+1 by omega) (J 0));go_wp2;exact aG rfl (w.heap.size+1+1) rfl rfl HY.out Tryz.underlying32 rfl (by kernel_rfl) rfl ⟨rfl,oZ.out⟩
 |true=>
 skip
 have GD:((w6.alloc (δ #[J a1,J a2] 30))).cell? ⟨w.heap.size,0,ε⟩=ζ (γ A n c):=(ET.out.al (δ #[J a1,J a2] 30)).cell (i:=0) rfl;have xT:((w6.alloc (δ #[J a1,J a2] 30))).cell? ⟨w.heap.size,1,ε⟩=ζ (γ B m k):=(ET.out.al (δ #[J a1,J a2] 30)).cell (i:=1) rfl;have oc:((w6.alloc (δ #[J a1,J a2] 30))).cell? ⟨w6.heap.size,0,ε⟩=ζ (J a1):=(show Whole (w6.alloc (δ #[J a1,J a2] 30)) (w6.heap.size) (30) ([J a1,J a2]) from Whole.new2 (by first|rfl|simp)).cell (i:=0) rfl;have wW:((w6.alloc (δ #[J a1,J a2] 30))).cell? ⟨w6.heap.size,1,ε⟩=ζ (J a2):=(show Whole (w6.alloc (δ #[J a1,J a2] 30)) (w6.heap.size) (30) ([J a1,J a2]) from Whole.new2 (by first|rfl|simp)).cell (i:=1) rfl;go_wp2_with fail
 clear GD xT oc wW
 refine(HV.out _ (Kk.out.al (δ #[J a1,J a2] 30))).mono ?_
 rintro e RF ⟨A1,c1,rfl,hR,FR⟩;have S5:=qh ((Kk.out.al (δ #[J a1,J a2] 30)).bl FR);have SV:=qh ((ET.out.al (δ #[J a1,J a2] 30)).bl FR);have Mx:=qh ((Ya.out.al (δ #[J a1,J a2] 30)).bl FR);have X8:=qh ((Br.out.al (δ #[J a1,J a2] 30)).bl FR);have Yh:=qh ((show Whole (w6.alloc (δ #[J a1,J a2] 30)) (w6.heap.size) (30) ([J a1,J a2]) from Whole.new2 (by first|rfl|simp)).bl FR);have NF:=qh (af (aE dD.out (δ #[J a1,J a2] 30)) FR);clear Kk ET Ya Br dD;clear FR;have NV:=qh hR;clear hR;have FA:((RF.alloc (δ #[J i1,J i2,γ A1 rn c1,μ lb,J at_] 59))).cell? ⟨w.heap.size+1,0,ε⟩=ζ (J x1):=(Mx.out.al (δ #[J i1,J i2,γ A1 rn c1,μ lb,J at_] 59)).cell (i:=0) rfl;have vH:((RF.alloc (δ #[J i1,J i2,γ A1 rn c1,μ lb,J at_] 59))).cell? ⟨w.heap.size+1,1,ε⟩=ζ (J x2):=(Mx.out.al (δ #[J i1,J i2,γ A1 rn c1,μ lb,J at_] 59)).cell (i:=1) rfl;have vz:((RF.alloc (δ #[J i1,J i2,γ A1 rn c1,μ lb,J at_] 59))).cell? ⟨w.heap.size+1,2,ε⟩=ζ (J x3):=(Mx.out.al (δ #[J i1,J i2,γ A1 rn c1,μ lb,J at_] 59)).cell (i:=2) rfl;have FD:((RF.alloc (δ #[J i1,J i2,γ A1 rn c1,μ lb,J at_] 59))).cell? ⟨RF.heap.size,2,ε⟩=ζ (γ A1 rn c1):=(show Whole (RF.alloc (δ #[J i1,J i2,γ A1 rn c1,μ lb,J at_] 59)) (RF.heap.size) (59) ([J i1,J i2,γ A1 rn c1,μ lb,J at_]) from Whole.new2 (by first|rfl|simp)).cell (i:=2) rfl
 go_wp2_with fail
 clear FA vH vz FD
 refine(ik.out _ _ _ (NV.out.al (δ #[J i1,J i2,γ A1 rn c1,μ lb,J at_] 59))).mono ?_
 rintro e w21 ⟨rfl,BE⟩;have aeU:=qh ((S5.out.al (δ #[J i1,J i2,γ A1 rn c1,μ lb,J at_] 59)).bl BE);have afG:=qh ((SV.out.al (δ #[J i1,J i2,γ A1 rn c1,μ lb,J at_] 59)).bl BE);have aiF:=qh ((Mx.out.al (δ #[J i1,J i2,γ A1 rn c1,μ lb,J at_] 59)).bl BE);have FZ:=qh ((X8.out.al (δ #[J i1,J i2,γ A1 rn c1,μ lb,J at_] 59)).bl BE);have aiQ:=qh ((Yh.out.al (δ #[J i1,J i2,γ A1 rn c1,μ lb,J at_] 59)).bl BE);have aga:=qh ((NV.out.al (δ #[J i1,J i2,γ A1 rn c1,μ lb,J at_] 59)).bl BE);have ahE:=qh ((show Whole (RF.alloc (δ #[J i1,J i2,γ A1 rn c1,μ lb,J at_] 59)) (RF.heap.size) (59) ([J i1,J i2,γ A1 rn c1,μ lb,J at_]) from Whole.new2 (by first|rfl|simp)).bl BE);have Vd:=qh (af (aE NF.out (δ #[J i1,J i2,γ A1 rn c1,μ lb,J at_] 59)) BE);clear S5 SV Mx X8 Yh NV NF;clear BE;have z0:=FZ.out.cell (i:=0) rfl;have z1:=FZ.out.cell (i:=1) rfl;have z2:=FZ.out.cell (i:=2) rfl;have f0:=FZ.out.free 0;have f1:=FZ.out.free 1;have f2:=FZ.out.free 2;have HY:=qh (((FZ.out.set_ 0 (J y1)).set_ 1 (J y2)).set_ 2 (J y3));have oZ:=qh (((Vd.out.setCell (p:=⟨w.heap.size+1+1,0,ε⟩) (show w.heap.size≤w.heap.size+1+1 by omega) (J y1)).setCell (p:=⟨w.heap.size+1+1,1,ε⟩) (show w.heap.size≤w.heap.size+1+1 by omega) (J y2)).setCell (p:=⟨w.heap.size+1+1,2,ε⟩) (show w.heap.size≤w.heap.size+1+1 by omega) (J y3))
 go_wp2;exact aG rfl (w.heap.size+1+1) rfl rfl HY.out Tryz.underlying32 rfl (by kernel_rfl) rfl ⟨rfl,oZ.out⟩
theorem Cn (A:Option Κ) (n c:Nat) (Vs:List VC) (B:Option Κ) (m k:Nat) (Es:List EC) (x1 x2 x3:Int) (w:ο) (h:aR w A n c Vs B m k Es) (hf:bc Vs Es) (hb:-9223372036854775808≤x3∧x3≤9223372036854775807):
 Ζ η 59 #[φ #[γ A n c,γ B m k],φ #[J x1,J x2,J x3]] w (uc w (if (x1,x2,x3)∈aH Vs then o8 Vs (x1,x2,x3) else(0,0,0)) (decide ((x1,x2,x3)∈aH Vs))):=by
 have rG:=qh h;obtain⟨w1_,w2_⟩:=hf.othW (d:=(x1,x2,x3)) hb;have SN:=qh (Og x1 x2 x3);have US:=fun W (h:aR W A n c Vs B m k Es)=>G0 A n c Vs B m k Es (othW (x1,x2,x3)).1 (othW (x1,x2,x3)).2.1 (othW (x1,x2,x3)).2.2 W h hf
 have hv:Ce Vs (othW (x1,x2,x3))=if (x1,x2,x3)∈aH Vs then o8 Vs (x1,x2,x3) else(0,0,0):=by
  by_cases q:(x1,x2,x3)∈aH Vs
  ·rw[if_pos q,w2_ q];rfl
  ·rw[if_neg q,Ce,wb hf.once (fun h=>q (w1_.1 h))];rfl
 have hd:decide (othW (x1,x2,x3)∈aH Vs)=decide ((x1,x2,x3)∈aH Vs):=decide_eq_decide.2 w1_
 replace US:∀W,aR W A n c Vs B m k Es→Ζ η 86 #[φ #[γ A n c,γ B m k],φ #[J (othW (x1,x2,x3)).1,J (othW (x1,x2,x3)).2.1,J (othW (x1,x2,x3)).2.2]] W (uc W (if (x1,x2,x3)∈aH Vs then o8 Vs (x1,x2,x3) else(0,0,0)) (decide ((x1,x2,x3)∈aH Vs))):=fun W h=>by
  rw[←hv,←hd];exact US W h
 have hr:∀x∈Vs,x.2.1.2.1≤1000000:=fun x hx=>by have:=(hf.small h).2.2 x hx;omega
 have hn:n≤1000000:=by have:=(hf.small h).1;omega
 have yF:=fun W (h:aR W A n c Vs B m k Es)=>oN A n c Vs B m k Es x1 x2 x3 W h (by omega) (fun x hx=>by have:=hr x hx;omega)
 obtain⟨⟨⟨a1,a2⟩,ok⟩,ga⟩:∃z,kj Vs (x1,x2,x3)=z:=⟨_,rfl⟩
 have P3:ok=decide ((x1,x2,x3)∈aH Vs):=by
  have:=(LZ hf (x1,x2,x3)).2.2
  rwa [ga] at this
 rw[ga] at yF;replace yF:=qh yF;clear ga hr hn;have mU:Hid (decide ((x1,x2,x3)∈aH Vs)=ρ→(if (x1,x2,x3)∈aH Vs then o8 Vs (x1,x2,x3) else(0,0,0))=((0,0,0):D)):=qh (fun e=>if_neg (of_decide_eq_false e));clear w1_ w2_ hv hd h hf hb;obtain⟨⟨y1,y2,y3⟩,gy⟩:∃z,(if (x1,x2,x3)∈aH Vs then o8 Vs (x1,x2,x3) else(0,0,0))=z:=⟨_,rfl⟩
 obtain⟨oy,PQ⟩:=ay (decide ((x1,x2,x3)∈aH Vs));rw[gy,PQ] at US mU;rw[PQ] at P3;replace P3:=qh P3;rw[gy,PQ];clear gy PQ;obtain⟨⟨u1,u2,u3⟩,gu⟩:∃z,othW (x1,x2,x3)=z:=⟨_,rfl⟩
 rw[gu] at SN US;clear gu;replace US:=qh US;go_enter Tryz.func59,Tryz.ntmps59;have lV:((((w.alloc (δ #[γ A n c,γ B m k] 25)).alloc (δ #[J x1,J x2,J x3] 32)).alloc (δ #[J 0,J 0,J 0] 32))).cell? ⟨w.heap.size,0,ε⟩=ζ (γ A n c):=(((show Whole (w.alloc (δ #[γ A n c,γ B m k] 25)) (w.heap.size) (25) ([γ A n c,γ B m k]) from Whole.new2 (by first|rfl|simp)).al (δ #[J x1,J x2,J x3] 32)).al (δ #[J 0,J 0,J 0] 32)).cell (i:=0) rfl;have lX:((((w.alloc (δ #[γ A n c,γ B m k] 25)).alloc (δ #[J x1,J x2,J x3] 32)).alloc (δ #[J 0,J 0,J 0] 32))).cell? ⟨w.heap.size,1,ε⟩=ζ (γ B m k):=(((show Whole (w.alloc (δ #[γ A n c,γ B m k] 25)) (w.heap.size) (25) ([γ A n c,γ B m k]) from Whole.new2 (by first|rfl|simp)).al (δ #[J x1,J x2,J x3] 32)).al (δ #[J 0,J 0,J 0] 32)).cell (i:=1) rfl;have lw3:((((w.alloc (δ #[γ A n c,γ B m k] 25)).alloc (δ #[J x1,J x2,J x3] 32)).alloc (δ #[J 0,J 0,J 0] 32))).cell? ⟨w.heap.size+1,0,ε⟩=ζ (J x1):=((show Whole ((w.alloc (δ #[γ A n c,γ B m k] 25)).alloc (δ #[J x1,J x2,J x3] 32)) ((w.heap.size+1)) (32) ([J x1,J x2,J x3]) from Whole.new2 (by first|rfl|simp)).al (δ #[J 0,J 0,J 0] 32)).cell (i:=0) rfl
 have lw4:((((w.alloc (δ #[γ A n c,γ B m k] 25)).alloc (δ #[J x1,J x2,J x3] 32)).alloc (δ #[J 0,J 0,J 0] 32))).cell? ⟨w.heap.size+1,1,ε⟩=ζ (J x2):=((show Whole ((w.alloc (δ #[γ A n c,γ B m k] 25)).alloc (δ #[J x1,J x2,J x3] 32)) ((w.heap.size+1)) (32) ([J x1,J x2,J x3]) from Whole.new2 (by first|rfl|simp)).al (δ #[J 0,J 0,J 0] 32)).cell (i:=1) rfl;have oY:((((w.alloc (δ #[γ A n c,γ B m k] 25)).alloc (δ #[J x1,J x2,J x3] 32)).alloc (δ #[J 0,J 0,J 0] 32))).cell? ⟨w.heap.size+1,2,ε⟩=ζ (J x3):=((show Whole ((w.alloc (δ #[γ A n c,γ B m k] 25)).alloc (δ #[J x1,J x2,J x3] 32)) ((w.heap.size+1)) (32) ([J x1,J x2,J x3]) from Whole.new2 (by first|rfl|simp)).al (δ #[J 0,J 0,J 0] 32)).cell (i:=2) rfl;go_wp2_with fail
 clear lV lX lw3 lw4 oY
 refine(yF.out _ (((rG.out.al (δ #[γ A n c,γ B m k] 25)).al (δ #[J x1,J x2,J x3] 32)).al (δ #[J 0,J 0,J 0] 32))).mono ?_
 rintro e w6 ⟨rfl,eP⟩;have Kk:=qh ((((rG.out.al (δ #[γ A n c,γ B m k] 25)).al (δ #[J x1,J x2,J x3] 32)).al (δ #[J 0,J 0,J 0] 32)).bl eP);have ET:=qh ((((show Whole (w.alloc (δ #[γ A n c,γ B m k] 25)) (w.heap.size) (25) ([γ A n c,γ B m k]) from Whole.new2 (by first|rfl|simp)).al (δ #[J x1,J x2,J x3] 32)).al (δ #[J 0,J 0,J 0] 32)).bl eP);have Ya:=qh (((show Whole ((w.alloc (δ #[γ A n c,γ B m k] 25)).alloc (δ #[J x1,J x2,J x3] 32)) ((w.heap.size+1)) (32) ([J x1,J x2,J x3]) from Whole.new2 (by first|rfl|simp)).al (δ #[J 0,J 0,J 0] 32)).bl eP);have Br:=qh ((show Whole (((w.alloc (δ #[γ A n c,γ B m k] 25)).alloc (δ #[J x1,J x2,J x3] 32)).alloc (δ #[J 0,J 0,J 0] 32)) ((w.heap.size+1+1)) (32) ([J 0,J 0,J 0]) from Whole.new2 (by first|rfl|simp)).bl eP);have dD:=qh (af (aE (aE (aE (Θ _ w) (δ #[γ A n c,γ B m k] 25)) (δ #[J x1,J x2,J x3] 32)) (δ #[J 0,J 0,J 0] 32)) eP);clear rG;clear eP;have Rb:Hid (w.heap.size≤w.heap.size):=qh (by omega);have Vh:Hid (w.heap.size≤(w.heap.size+1)):=qh (by omega);have QZ:Hid (w.heap.size≠(w.heap.size+1)):=qh (by omega)
 have Qy:Hid (w.heap.size≤(w.heap.size+1+1)):=qh (by omega);have Q2:Hid (w.heap.size≠(w.heap.size+1+1)):=qh (by omega);have Tn:Hid ((w.heap.size+1)≠(w.heap.size+1+1)):=qh (by omega);cases ok with
 |false=>
  obtain rfl:ρ=oy:=P3.out
  obtain⟨hy1,Zo,hy3⟩:y1=0∧y2=0∧y3=0:=by
   have:=mU.out rfl
   simp only[Jba] at this;exact this
  subst hy1 Zo hy3;have z0:=(Br.out.al (δ #[J a1,J a2] 30)).cell (i:=0) rfl;have z1:=(Br.out.al (δ #[J a1,J a2] 30)).cell (i:=1) rfl;have z2:=(Br.out.al (δ #[J a1,J a2] 30)).cell (i:=2) rfl;have f0:=(Br.out.al (δ #[J a1,J a2] 30)).free 0;have f1:=(Br.out.al (δ #[J a1,J a2] 30)).free 1;have f2:=(Br.out.al (δ #[J a1,J a2] 30)).free 2;have HY:=qh ((((Br.out.al (δ #[J a1,J a2] 30)).set_ 0 (J 0)).set_ 1 (J 0)).set_ 2 (J 0));have oZ:=qh ((((aE dD.out (δ #[J a1,J a2] 30)).setCell (p:=⟨w.heap.size+1+1,0,ε⟩) (show w.heap.size≤w.heap.size+1+1 by omega) (J 0)).setCell (p:=⟨w.heap.size+1+1,1,ε⟩) (show w.heap.size≤w.heap.size+1+1 by omega) (J 0)).setCell (p:=⟨w.heap.size+1+1,2,ε⟩) (show w.heap.size≤w.heap.size+1+1 by omega) (J 0));go_wp2;exact aG rfl (w.heap.size+1+1) rfl rfl HY.out Tryz.underlying32 rfl (by kernel_rfl) rfl ⟨rfl,oZ.out⟩
 |true=>
 clear P3 yF mU;go_upto_region 4 with fail
 have SM:=qh ((Kk.out.al (δ #[J a1,J a2] 30)));have Pg:=qh ((ET.out.al (δ #[J a1,J a2] 30)));have RA:=qh ((Ya.out.al (δ #[J a1,J a2] 30)));have Xj:=qh ((Br.out.al (δ #[J a1,J a2] 30)));have acO:=qh ((show Whole (w6.alloc (δ #[J a1,J a2] 30)) (w6.heap.size) (30) ([J a1,J a2]) from Whole.new2 (by first|rfl|simp)));have mT:=qh (aE dD.out (δ #[J a1,J a2] 30));obtain⟨v11,Xt⟩:=ay ((w6.alloc (δ #[J a1,J a2] 30)));rw[Xt] at SM Pg RA Xj acO mT ⊢;clear Xt;clear Kk ET Ya Br dD
 have sV:Hid (∀W',Ext v11.drew W'→W'.cell? ⟨w.heap.size,0,ε⟩=ζ (γ A n c)∧W'.cell? ⟨w.heap.size,1,ε⟩=ζ (γ B m k)∧W'.cell? ⟨w.heap.size+1,0,ε⟩=ζ (J x1)∧W'.cell? ⟨w.heap.size+1,1,ε⟩=ζ (J x2)∧W'.cell? ⟨w.heap.size+1,2,ε⟩=ζ (J x3)):=
  qh (fun W' h=>⟨(Pg.out.dr.bl h).cell (i:=0) rfl,(Pg.out.dr.bl h).cell (i:=1) rfl,(RA.out.dr.bl h).cell (i:=0) rfl,(RA.out.dr.bl h).cell (i:=1) rfl,(RA.out.dr.bl h).cell (i:=2) rfl⟩)
 refine kc 6 (fun i=>i=w.heap.size+1+1) (KV [ζ (φ #[γ A n c,γ B m k]),ζ (φ #[J x1,J x2,J x3]),ζ (φ #[J u1,J u2,J u3]),ζ (Ξ #[φ #[J y1,J y2,J y3],Β oy]),ζ (φ #[J y1,J y2,J y3]),ζ (Β oy)] 99 0 0 []) (Ext v11.drew) (by kernel_rfl) (by kernel_rfl) (by kernel_rfl) (by kernel_rfl) (by kernel_rfl) (fun i v w1 w2 h hx=>Bt i v w1 w2 h hx) (fun _ _ h k=>h.trans k) (Ext.refl _) ?_ ?_
 ·intro i RZ;have lJ:i=0∨i=1∨i=2∨i=3∨i=4∨i=5:=by omega
  rcases lJ with rfl|rfl|rfl|rfl|rfl|rfl
  ·refine bj ?_;intro x y hg aK;obtain⟨Af,qR,ox,zT,SE⟩:=sV.out _ hg;simp only[aP,ι,π,aC,ξ,aq,ak,ao];refine .inl ⟨by rfl,?_⟩;go_simp;exact⟨Ext.refl _,rfl⟩
  ·refine bj ?_;intro x y hg aK;obtain⟨Af,qR,ox,zT,SE⟩:=sV.out _ hg;simp only[aP,ι,π,aC,ξ,aq,ak,ao];refine .inl ⟨by rfl,?_⟩;go_simp;exact⟨Ext.refl _,rfl⟩
  ·refine bj ?_;intro x y hg aK;have d1:x 1=φ #[J x1,J x2,J x3]:=aK 1 (by decide);simp only[aP,ι,π,aC,ξ,aq,ak,ao];simp only[d1];refine .inl ⟨by rfl,eR (by go_simp;first|done|exact⟨rfl,rfl⟩|with_reducible rfl) ?_⟩
   refine(SN.out y).mono ?_
   rintro e w2 ⟨rfl,hb⟩;exact⟨_,rfl,hb,rfl⟩
  ·refine bj ?_;intro x y hg aK;have d0:x 0=φ #[γ A n c,γ B m k]:=aK 0 (by decide);have d2:x 2=φ #[J u1,J u2,J u3]:=aK 2 (by decide);have d2:x 2=φ #[J u1,J u2,J u3]:=aK 2 (by decide);simp only[aP,ι,π,aC,ξ,aq,ak,ao];simp only[d0,d2,d2];refine .inl ⟨by rfl,eR (by go_simp;first|done|exact⟨rfl,rfl⟩|with_reducible rfl) ?_⟩
   refine(US.out y (SM.out.dr.bl hg)).mono ?_
   rintro e w2 ⟨rfl,hb⟩;exact⟨_,rfl,hb,rfl⟩
  ·refine bj ?_;intro x y hg aK;have d3:x 3=Ξ #[φ #[J y1,J y2,J y3],Β oy]:=aK 3 (by decide);simp only[aP,ι,π,aC,ξ,aq,ak,ao];simp only[d3];refine .inl ⟨by rfl,?_⟩;go_simp;exact⟨Ext.refl _,rfl⟩
  ·refine bj ?_;intro x y hg aK;have d3:x 3=Ξ #[φ #[J y1,J y2,J y3],Β oy]:=aK 3 (by decide);simp only[aP,ι,π,aC,ξ,aq,ak,ao];simp only[d3];refine .inl ⟨by rfl,?_⟩;go_simp;exact⟨Ext.refl _,rfl⟩
 intro x y hg cN;have d0:x 0=φ #[γ A n c,γ B m k]:=cN 0 (by decide);have d1:x 1=φ #[J x1,J x2,J x3]:=cN 1 (by decide);have d2:x 2=φ #[J u1,J u2,J u3]:=cN 2 (by decide);have d3:x 3=Ξ #[φ #[J y1,J y2,J y3],Β oy]:=cN 3 (by decide);have d4:x 4=φ #[J y1,J y2,J y3]:=cN 4 (by decide);have d5:x 5=Β oy:=cN 5 (by decide);simp only[aP,ι,π,aC,ξ,aq,ak,ao];simp only[d0,d1,d2,d3,d4,d5];clear cN d0 d1 d2 d3 d4 d5;refine kI 6 ?_;intro w' aB;have HYw:=qh ((Xj.out.dr.bl hg).bl aB);have Pz:=qh (af (af (aL mT.out) hg) aB)
 refine⟨w'.setRow (w.heap.size+1+1) #[J y1,J y2,J y3],bn 32 (.tmp 4) (.tmp 21) rfl (w.heap.size+1+1) rfl [J y1,J y2,J y3] rfl 32 [J 0,J 0,J 0] HYw.out (by kernel_rfl) rfl (by simp[Τ]),dV (S:=fun i=>i=w.heap.size+1+1) rfl _,?_⟩
 have HYs:Hid (Whole (w'.setRow (w.heap.size+1+1) #[J y1,J y2,J y3]) (w.heap.size+1+1) 32 [J y1,J y2,J y3]):=qh (Whole.row HYw.out [J y1,J y2,J y3]);have AX:Hid (σ w.heap.size w (w'.setRow (w.heap.size+1+1) #[J y1,J y2,J y3])):=qh (cC Pz.out (by omega) _);obtain⟨V1,kN⟩:=ay (w'.setRow (w.heap.size+1+1) #[J y1,J y2,J y3]);rw[kN] at HYs AX ⊢;clear aB hg kN HYw Pz sV;refine ag 7 ?_;refine aD (by kernel_rfl) ?_ _;intro W8 cE;have HY:=qh (HYs.out.bl cE);have oZ:=qh (af AX.out cE);clear cE HYs AX;go_wp2;exact aG rfl (w.heap.size+1+1) rfl rfl HY.out Tryz.underlying32 rfl (by kernel_rfl) rfl ⟨rfl,oZ.out⟩
theorem EY (A:Option Κ) (n c:Nat) (Vs:List VC) (B:Option Κ) (m k:Nat) (Es:List EC) (x1 x2 x3:Int) (w:ο) (h:aR w A n c Vs B m k Es) (hf:bc Vs Es) (hb:-9223372036854775808≤x3∧x3≤9223372036854775807):
 Ζ η 31 #[φ #[γ A n c,γ B m k],φ #[J x1,J x2,J x3]] w fun e w'=>∃A' c',e=.returned (.slice A' (oU Vs (x1,x2,x3)).length c')∧w'.ownsRow w.heap.size 32 3 (.slice A' (oU Vs (x1,x2,x3)).length c') (oU Vs (x1,x2,x3)).length (aA (oU Vs (x1,x2,x3)))∧σ w.heap.size w w':=by
 have rG:=qh h;have HFm:=qh hf;obtain⟨i0,FG,oX,jL,kd⟩:=aW oJ;have Vz:=fun W (h:aR W A n c Vs B m k Es)=>Cn A n c Vs B m k Es x1 x2 x3 W h hf hb
 have IX:Hid (∀y1 y2 y3:Int,(y1,y2,y3)∈aH Vs→∀W,aR W A n c Vs B m k Es→Ζ η 59 #[φ #[γ A n c,γ B m k],φ #[J y1,J y2,J y3]] W (uc W (o8 Vs (y1,y2,y3)) true)):=qh (fun y1 y2 y3 hy W h=>by
  obtain⟨e,_,_,q⟩:=(hf.mem _).1 hy
  have:=Cn A n c Vs B m k Es y1 y2 y3 W h hf (by simp only at q;omega)
  rwa [if_pos hy,decide_eq_true hy] at this)
 by_cases hx:(x1,x2,x3)∈aH Vs
 ·obtain⟨p,hp,bM⟩:=hf.phi.per hx;have h80:=hf.l80;have ef:oU Vs (x1,x2,x3)=mi (o8 Vs) (x1,x2,x3) p:=by rw[oU,if_pos hx,xx hp (by omega)]
  have ajG:p≤80:=by omega
  simp only[if_pos hx,decide_eq_true hx] at Vz;rw[ef,Hq];have HPx:=qh Vz;have Hp:=qh hp;have Hx:=qh hx;obtain⟨⟨p1,p2,p3⟩,gp⟩:∃z,o8 Vs (x1,x2,x3)=z:=⟨_,rfl⟩
  rw[gp] at HPx;have Gp:=qh gp;have adk:=hp.pos;clear h hf hb Vz hx hp bM h80 ef gp;go_enter Tryz.func31,Tryz.ntmps31;go_upto_region 1 with fail
  obtain⟨W0,b0,b1,bP,bK,cX,aN,aI,a8,xj,DA,kQ,EH,jK,mj⟩:=E6 w 25 [γ A n c,γ B m k] 32 [J x1,J x2,J x3];rw[bP,cX,bK];clear bP bK cX;have yZ:=qh (aN.out.al (δ #[] 32));have aI:=qh (aI.out.al (δ #[] 32));have mX:Hid (Ow w (b1+1) 32 3 (γ (ζ ⟨W0.heap.size,0,ε⟩) 0 0) 0 [] (W0.alloc (δ #[] 32))):=qh (Ow.new_ (cs:=#[]) a8.out (by have:=jK.out;omega) (by have:=aI.out.lt;simp at this;have:=xj.out;have:=EH.out;omega) (by unfold Jap;omega) rfl);have c0:=yZ.out.cell (i:=0) rfl;have c1:=yZ.out.cell (i:=1) rfl;have d0:=aI.out.cell (i:=0) rfl;have d1:=aI.out.cell (i:=1) rfl;have d2:=aI.out.cell (i:=2) rfl;go_wp2_with fail
  refine(HPx.out _ (rG.out.bl mX.out.below)).mono ?_
  rintro e w2 ⟨rfl,ar⟩;have yX:=qh (yZ.out.bl ar);have aV:=qh (aI.out.bl ar);have fW:=qh (mX.out.up ar);clear c0 c1 d0 d1 d2 yZ aI mX aN a8;have Kc:Hid (ζ w2.heap.size≠(Ο (ζ ⟨W0.heap.size,0,ε⟩) 0 0).ownBlock):=qh (fW.out.ne_ (Δ _));clear ar;have PJ:=qh (yX.out.al (δ #[J p1,J p2,J p3] 32));have Wk:=qh (aV.out.al (δ #[J p1,J p2,J p3] 32));have Ez:=qh (Whole.new_ w2 32 [J p1,J p2,J p3]);have kB:=qh (fW.out.up (ax w2 (δ #[J p1,J p2,J p3] 32)));go_upto_region 5 with fail
  have L3a:w.heap.size≤w2.heap.size:=fW.out.below.size;have N3a:b1<w2.heap.size:=aV.out.lt;obtain⟨W3,lZ⟩:=ay (w2.alloc (δ #[J p1,J p2,J p3] 32));obtain⟨b3,p9⟩:=ay w2.heap.size;obtain⟨g1,Ib⟩:=ay W0.heap.size;rw[lZ] at PJ Wk Ez kB ⊢;rw[p9] at Ez Kc L3a N3a ⊢;rw[Ib] at kB Kc ⊢;have L3:=qh L3a;have N3:=qh N3a;obtain⟨v0,gv0⟩:=ay (Ο (ζ ⟨g1,0,ε⟩) 0 0);rw[gv0] at kB Kc ⊢;clear lZ p9 Ib gv0 yX aV fW L3a N3a;have d0:=Wk.out.cell (i:=0) rfl;have d1:=Wk.out.cell (i:=1) rfl;have d2:=Wk.out.cell (i:=2) rfl;obtain⟨v5,w5,cj,jY,fB,vT,Lo⟩:=Ow.app2 (P:=η) 57 57 32 i0 _ 3 24 (b1+1) Tryz.underlying57 FG oX jL kd rfl (by decide) _ 0 _ (kB.out.up (ax _ _)) _ (ζ ⟨W3.heap.size,0,ε⟩) 1 1 (aA [(x1,x2,x3)]) (aX.whole3 (L:=[(x1,x2,x3)]) (Whole.new_ W3 32 [J x1,J x2,J x3])) (eH _) (by unfold Jap;omega) (by omega);obtain⟨A5,c5,rfl,-⟩:=jY.rds;have wg:Hid (ζ b3≠(Ο A5 1 c5).ownBlock):=qh (Ow.ne2 Kc.out (by have:=Ez.out.lt;simp;omega) Lo);have vD:=qh ((PJ.out.al (δ #[J x1,J x2,J x3] 32)).at_ (fB.block b0 (by have:=DA.out;have:=EH.out;omega)));have dY:=qh ((Wk.out.al (δ #[J x1,J x2,J x3] 32)).at_ (fB.block b1 (by omega)));have JR:=qh ((Ez.out.al (δ #[J x1,J x2,J x3] 32)).grown vT Kc.out);have ku:Hid (Ow w (b1+1) 32 3 (γ A5 1 c5) 1 (aA (mi (o8 Vs) (x1,x2,x3) 1)) w5):=qh jY
  have Nr:=qh cj;clear cj jY fB vT Lo PJ Wk Ez kB Kc
  go_wp2_with (first
   |(at_builtin
     refine sM rfl (.tmp 18) (.tmp 20) _ rfl rfl rfl Nr.out ?_;clear d0 d1 d2 Nr))
  skip
  go_loopw [5] (fun so wr=>∃(j:Nat) (A2:Option Κ) (c2:Nat) (y1 y2 y3:Int),1≤j∧j≤p∧so=γ A2 j c2∧Hid (Whole wr b0 25 [γ A n c,γ B m k])∧Hid (Whole wr b1 32 [J x1,J x2,J x3])∧Hid (Whole wr b3 32 [J y1,J y2,J y3])∧Hid (Ow w (b1+1) 32 3 (γ A2 j c2) j (aA (mi (o8 Vs) (x1,x2,x3) j)) wr)∧Hid (ζ b3≠(Ο A2 j c2).ownBlock)∧Hid (o9 (o8 Vs) j (x1,x2,x3)=(y1,y2,y3))) (fun so _=>p - (Yt so))
  case atStart=>exact⟨1,A5,c5,p1,p2,p3,by omega,adk,rfl,vD,dY,JR,ku,wg,qh Gp.out⟩
  case round=>
   clear vD dY JR ku wg;obtain⟨j,A2,c2,y1,y2,y3,Px,hj,rfl,HD,HX,HY,HO,HN,HI⟩:=hrel;obtain⟨wo,ec⟩:=ay wr;rw[ec] at HD HX HY HO ⊢;clear ec;have c0:=HD.out.cell (i:=0) rfl;have c1:=HD.out.cell (i:=1) rfl;have d0:=HX.out.cell (i:=0) rfl;have d1:=HX.out.cell (i:=1) rfl;have d2:=HX.out.cell (i:=2) rfl;have e0:=HY.out.cell (i:=0) rfl;have e1:=HY.out.cell (i:=1) rfl;have e2:=HY.out.cell (i:=2) rfl
   by_cases hjp:j<p
   ·have cu:¬(y1,y2,y3)=(x1,x2,x3):=fun e=>Hp.out.ne j (by omega) hjp (HI.out.trans e)
    have hyr:(y1,y2,y3)∈aH Vs:=HI.out▸HFm.out.phi.it Hx.out j;have fh:decide ((j:Int)<82)=true:=decide_eq_true (by omega);have HPj:=qh (IX.out y1 y2 y3 hyr);obtain⟨⟨q1,q2,q3⟩,gq⟩:∃z,o8 Vs (y1,y2,y3)=z:=⟨_,rfl⟩
    rw[gq] at HPj;have wA:Hid (o9 (o8 Vs) (j+1) (x1,x2,x3)=(q1,q2,q3)):=qh (by rw[nY,HI.out,gq]);have Rs:Hid (aA (mi (o8 Vs) (x1,x2,x3) j)++aA [(y1,y2,y3)]=aA (mi (o8 Vs) (x1,x2,x3) (j+1))):=qh (by rw[Nl,HI.out,fm])
    have ht:∀W,(binOp .neq 32 (φ #[J y1,J y2,J y3]) (φ #[J x1,J x2,J x3])).run η W=.ok (Β true) W:=fun W=>by
     have e:=jr (y1,y2,y3) (x1,x2,x3) W;rw[decide_eq_false cu] at e;exact e
    clear cu hyr gq;go_upto_region 7 with fail
    clear ht fh;obtain⟨v7,w7,cj,TU,Lt,VM,ho7⟩:=Ow.app2 (P:=η) 57 57 32 i0 _ 3 24 (b1+1) Tryz.underlying57 FG oX jL kd rfl (by decide) _ j _ (HO.out.up (ax _ _)) _ (ζ ⟨wo.heap.size,0,ε⟩) 1 1 (aA [(y1,y2,y3)]) (aX.whole3 (L:=[(y1,y2,y3)]) (Whole.new_ wo 32 [J y1,J y2,J y3])) (eH _) (by unfold Jap;omega) (by omega);obtain⟨A7,c7,rfl,-⟩:=TU.rds;have HN7:Hid (ζ b3≠(Ο A7 (j+1) c7).ownBlock):=qh (Ow.ne2 HN.out (by have:=HY.out.lt;simp;omega) ho7);have HD7:=qh ((HD.out.al (δ #[J y1,J y2,J y3] 32)).at_ (Lt.block b0 (by have:=DA.out;have:=EH.out;omega)));have BO:=qh ((HX.out.al (δ #[J y1,J y2,J y3] 32)).at_ (Lt.block b1 (by omega)));have P6:=qh ((HY.out.al (δ #[J y1,J y2,J y3] 32)).grown VM HN.out);have HO7:Hid (Ow w (b1+1) 32 3 (γ A7 (j+1) c7) (j+1) (aA (mi (o8 Vs) (x1,x2,x3) (j+1))) w7):=qh (by rw[←Rs.out];exact TU);have Nr:=qh cj;clear cj TU Lt VM ho7 HD HX HY HO HN
    go_upto_region 8 with (first
     |(at_builtin
       refine sM rfl (.tmp 30) (.tmp 32) _ rfl rfl rfl Nr.out ?_;clear c0 c1 d0 d1 d2 e0 e1 e2 Nr))
    have c0:=HD7.out.cell (i:=0) rfl;have c1:=HD7.out.cell (i:=1) rfl;have e0:=P6.out.cell (i:=0) rfl;have e1:=P6.out.cell (i:=1) rfl;have e2:=P6.out.cell (i:=2) rfl;go_wp2_with fail
    refine(HPj.out _ (rG.out.bl HO7.out.below)).mono ?_
    rintro e w8 ⟨rfl,qX⟩;have Cf:=qh (HD7.out.bl qX);have vY:=qh (BO.out.bl qX);have UB:=qh (P6.out.bl qX);have El:=qh (HO7.out.up qX);clear qX c0 c1 e0 e1 e2 HD7 BO P6 HO7;have f0:=UB.out.free 0;have f1:=UB.out.free 1;have f2:=UB.out.free 2;have e0:=UB.out.cell (i:=0) rfl;have e1:=UB.out.cell (i:=1) rfl;have e2:=UB.out.cell (i:=2) rfl;go_wp2;have PC:b0≠b3:=by have:=N3.out;have:=DA.out;have:=EH.out;omega
    have vN:b1≠b3:=by have:=N3.out;omega
    have uU:=qh (((Cf.out.far (p:=⟨b3,0,ε⟩) PC (J q1)).far (p:=⟨b3,1,ε⟩) PC (J q2)).far (p:=⟨b3,2,ε⟩) PC (J q3));have tX:=qh (((vY.out.far (p:=⟨b3,0,ε⟩) vN (J q1)).far (p:=⟨b3,1,ε⟩) vN (J q2)).far (p:=⟨b3,2,ε⟩) vN (J q3));have MD:=qh (((UB.out.set_ 0 (J q1)).set_ 1 (J q2)).set_ 2 (J q3));have Vo:=qh (((El.out.cell_ HN7.out L3.out 0 (J q1)).cell_ HN7.out L3.out 1 (J q2)).cell_ HN7.out L3.out 2 (J q3));clear e0 e1 e2 f0 f1 f2;go_roundw
    case rel=>exact⟨j+1,A7,c7,q1,q2,q3,by omega,hjp,by go_num,uU,tX,MD,Vo,HN7,wA⟩
    case measure=>simp[Yt];omega
   ·obtain rfl:p=j:=by omega
    have he:(y1,y2,y3)=(x1,x2,x3):=HI.out.symm.trans Hp.out.back;simp only[Jba] at he;obtain⟨rfl,rfl,rfl⟩:=he
    have ht:∀W,(binOp .neq 32 (φ #[J y1,J y2,J y3]) (φ #[J y1,J y2,J y3])).run η W=.ok (Β ρ) W:=fun W=>by
     have e:=jr (y1,y2,y3) (y1,y2,y3) W;rw[decide_eq_true rfl] at e;exact e
    go_wp2;go_ret;exact⟨A2,c2,rfl,ql HO.out.own (by have:=jK.out;omega),HO.out.below⟩
 ·have ef:oU Vs (x1,x2,x3)=[]:=by rw[oU,if_neg hx]
  simp only[if_neg hx,decide_eq_false hx] at Vz;rw[ef];have HPx:=qh Vz;clear h hf hb Vz hx ef IX;go_enter Tryz.func31,Tryz.ntmps31;go_upto_region 1 with fail
  obtain⟨W0,b0,b1,bP,bK,cX,aN,aI,a8,xj,DA,kQ,EH,jK,mj⟩:=E6 w 25 [γ A n c,γ B m k] 32 [J x1,J x2,J x3];rw[bP,cX,bK];clear bP bK cX;have yZ:=qh (aN.out.al (δ #[] 32));have aI:=qh (aI.out.al (δ #[] 32));have mX:Hid (Ow w (b1+1) 32 3 (γ (ζ ⟨W0.heap.size,0,ε⟩) 0 0) 0 [] (W0.alloc (δ #[] 32))):=qh (Ow.new_ (cs:=#[]) a8.out (by have:=jK.out;omega) (by have:=aI.out.lt;simp at this;have:=xj.out;have:=EH.out;omega) (by unfold Jap;omega) rfl);have c0:=yZ.out.cell (i:=0) rfl;have c1:=yZ.out.cell (i:=1) rfl;have d0:=aI.out.cell (i:=0) rfl;have d1:=aI.out.cell (i:=1) rfl;have d2:=aI.out.cell (i:=2) rfl;go_wp2_with fail
  refine(HPx.out _ (rG.out.bl mX.out.below)).mono ?_
  rintro e w2 ⟨rfl,ar⟩;have yX:=qh (yZ.out.bl ar);have aV:=qh (aI.out.bl ar);have fW:=qh (mX.out.up ar);clear c0 c1 d0 d1 d2 yZ aI mX aN a8;go_wp2;go_ret;exact⟨_,_,rfl,ql (fW.out.up (ax _ _)).own (by have:=jK.out;omega),(fW.out.up (ax _ _)).below⟩
theorem F1 (A:Option Κ) (n c:Nat) (Vs:List VC) (B:Option Κ) (m k:Nat) (Es:List EC) (w:ο) (h:aR w A n c Vs B m k Es) (hf:bc Vs Es):
 Ζ η 40 #[φ #[γ A n c,γ B m k]] w fun e w'=>∃A' c' X,e=.returned (γ A' X.length c')∧RowsIn w' (w.heap.size+1) 57 32 3 J7 A' X.length c' X∧X.map (·.2.2)=lN (o8 Vs) 80 (yU Es) []∧σ w.heap.size w w':=by
 have rG:=qh h;have HFm:=qh hf;have hm:m≤40:=(hf.small h).2.1;have hme:Es.length=m:=h.e.rlen bF (by decide);have HDs:=qh (fun W (h:aR W A n c Vs B m k Es)=>DY A n c Vs B m k Es W h (by omega))
 have HTr:Hid (∀y1 y2 y3:Int,(y1,y2,y3)∈aH Vs→∀W,aR W A n c Vs B m k Es→Ζ η 31 #[φ #[γ A n c,γ B m k],φ #[J y1,J y2,J y3]] W fun e w'=>∃A' c',e=.returned (.slice A' (o5 (o8 Vs) (y1,y2,y3) 80 (y1,y2,y3)).length c')∧w'.ownsRow W.heap.size 32 3 (.slice A' (o5 (o8 Vs) (y1,y2,y3) 80 (y1,y2,y3)).length c') (o5 (o8 Vs) (y1,y2,y3) 80 (y1,y2,y3)).length (aA (o5 (o8 Vs) (y1,y2,y3) 80 (y1,y2,y3)))∧(o5 (o8 Vs) (y1,y2,y3) 80 (y1,y2,y3)).length≤80∧σ W.heap.size W w'):=qh (fun y1 y2 y3 hy W h=>by
  obtain⟨e,_,_,q⟩:=(hf.mem _).1 hy;have h1:=EY A n c Vs B m k Es y1 y2 y3 W h hf (by simp only at q;omega);have e1:oU Vs (y1,y2,y3)=o5 (o8 Vs) (y1,y2,y3) 80 (y1,y2,y3):=by rw[oU,if_pos hy]
  have h8:=Jz hf (y1,y2,y3);rw[e1] at h1 h8;refine h1.mono ?_;rintro e w' ⟨A',c',r1,r2,r3⟩;exact⟨A',c',r1,r2,h8,r3⟩)
 have xH:=hf.ds;have kU:=Iq Es;obtain⟨L,gL⟩:=ay (yU Es);rw[gL] at HDs xH kU ⊢;rw[hme] at kU;rw[←kU] at HDs;have ai9:L.length≤80:=by omega
 have HLm:=qh xH;clear h hf gL xH kU hme hm;go_enter Tryz.func40,Tryz.ntmps40;go_upto_region 1 with fail
 obtain⟨W0,b0,bP,bK,aN,a8,xj,DA,kQ⟩:=LV w 25 [γ A n c,γ B m k];rw[bP,bK];clear bP bK;have c0:=(aN.out.al (δ #[] 57)).al (δ #[] 32)|>.cell (i:=0) rfl;have c1:=(aN.out.al (δ #[] 57)).al (δ #[] 32)|>.cell (i:=1) rfl;have eA:=qh (aE (aE a8.out (δ #[] 57)) (δ #[] 32));have aI:=qh ((aN.out.al (δ #[] 57)).al (δ #[] 32))
 have mX:Hid (Ow w (b0+1) 32 3 (γ (ζ ⟨W0.heap.size+1,0,ε⟩) 0 0) 0 [] ((W0.alloc (δ #[] 57)).alloc (δ #[] 32))):=qh (by
  have h1:=Ow.new_ (W:=W0.alloc (δ #[] 57)) (cs:=#[]) (e:=32) (size:=3) (n:=0) (B:=b0+1) (aE a8.out (δ #[] 57)) (by have:=kQ.out;omega) (by have:=aN.out.lt;simp;omega) (by unfold Jap;omega) rfl;rw[World.size_alloc] at h1;exact h1)
 have uu:Hid (RowsIn ((W0.alloc (δ #[] 57)).alloc (δ #[] 32)) (b0+1) 57 32 3 J7 (ζ ⟨W0.heap.size,0,ε⟩) 0 0 []):=qh ⟨bO (World.ownsRow_made W0 #[] 0 aN.out.lt (Jas _) (by simp)) (ax _ _),rfl,fun x hx=>(by cases hx),fun i j x y a b _ h=>(by simp at h)⟩;go_wp2_with fail
 refine(HDs.out _ (rG.out.bl eA.out)).mono ?_
 rintro e w3 ⟨Al,cl,rfl,hol,bC⟩;have mo:w.heap.size≤b0:=kQ.out
 have HP3:Hid (PR w (b0+1) (ζ ⟨W0.heap.size+1,0,ε⟩) 0 [] Al cl L (ζ ⟨W0.heap.size,0,ε⟩) 0 [] w3):=qh ⟨mX.out.up bC,ql hol (by have:=aI.out.lt;omega),uu.out.up bC,fun g e q=>by
  have h1:=(hol.lt g e).1;have h2:W0.heap.size+1=g:=Μ q;simp at h1 h2;omega,fun x hx=>(by cases hx)⟩
 have dp:=qh (aI.out.bl bC);clear c0 c1 aN a8 eA aI mX uu hol bC mo HDs;obtain⟨A0,gA0⟩:=ay (ζ (⟨W0.heap.size,0,ε⟩:Κ));obtain⟨T0,gT0⟩:=ay (ζ (⟨W0.heap.size+1,0,ε⟩:Κ));rw[gA0,gT0] at HP3;rw[gA0,gT0];clear gA0 gT0;go_wp2;go_loopw [3,4,6] (fun so st si wr=>∃(i:Nat) (Ao:Option Κ) (co:Nat) (At:Option Κ) (ct:Nat) (T:List D) (X:List (Rw D)),i≤L.length∧si=J i∧so=γ Ao X.length co∧st=γ At T.length ct∧Hid (Whole wr b0 25 [γ A n c,γ B m k])∧Hid (PR w (b0+1) At ct T Al cl L Ao co X wr)∧Hid (lN (o8 Vs) 80 L []=X.map (·.2.2)++lN (o8 Vs) 80 (L.drop i) T)∧Hid (X.length≤i∧T.length≤i*80)) (fun _ _ si _=>L.length - (intOf si).toNat)
 case atStart=>exact⟨0,A0,0,T0,0,[],[],by omega,rfl,rfl,rfl,dp,HP3,qh rfl,qh ⟨Jas _,Jas _⟩⟩
 case round=>
  clear dp HP3;obtain⟨i,Ao,co,At,ct,T,X,hi,rfl,rfl,rfl,HX,HP,HI,Hn⟩:=hrel;obtain⟨wo,ec⟩:=ay wr;rw[ec] at HX HP ⊢;clear ec
  by_cases lh:i<L.length
  ·obtain⟨bd,PG,rfl,YM,hc⟩:=(aJ HP.out.l).darts (by omega);obtain⟨d1,d2,d3⟩:=hc i lh
   have wE:L.drop i=L.getD i (0,0,0)::L.drop (i+1):=by
    rw[Χ lh,χ,θ lh];rfl
   have hxr:L.getD i (0,0,0)∈aH Vs:=(HLm.out _).1 (by rw[χ,θ lh];exact List.getElem_mem lh);obtain⟨x,gx⟩:=ay (L.getD i (0,0,0));rw[gx] at d1 d2 d3 wE hxr;obtain⟨x1,x2,x3⟩:=x;have hI:=HI.out;rw[wE,lN] at hI;obtain⟨hXi,hTi⟩:=Hn.out;have Pk:Hid (∀W,aX W W.heap.size 3 At T.length ct (aA T)→Ζ η 33 #[γ At T.length ct,φ #[J x1,J x2,J x3]] W fun e w'=>e=.returned (J (iM T (x1,x2,x3)))∧σ W.heap.size W w'):=qh (fun W h=>gZ At T.length ct T (x1,x2,x3) W h (by omega))
   by_cases We:(x1,x2,x3)∈T
   ·rw[if_pos We] at hI;obtain⟨e1,e2⟩:=ib We;rw[e1] at Pk;have ht:decide ((0:Int)≤((T.idxOf (x1,x2,x3):Nat):Int))=true:=decide_eq_true (by omega);obtain⟨q,gq⟩:=ay (T.idxOf (x1,x2,x3));rw[gq] at Pk ht;have wA:=qh hI;clear hI HI wE gx hc YM e1 e2 gq We
    go_wp2_with (first
     |(go_at_call 33;refine(Pk.out _ (aJ HP.out.ow.own)).mono ?_;rintro e w5 ⟨rfl,fB⟩
       have HP5:=qh (HP.out.bl fB);have dY:=qh (HX.out.bl fB);clear fB d1 d2 d3 HP HX))
    go_roundw
    case rel=>exact⟨i+1,Ao,co,At,ct,T,X,by omega,by go_num,rfl,rfl,dY,HP5,wA,qh ⟨by omega,by omega⟩⟩
    case measure=>simp[intOf];omega
   ·rw[if_neg We] at hI;rw[j8 We] at Pk;have ht:decide ((0:Int)≤(-1:Int))=ρ:=by decide
    have HTx:=qh (HTr.out x1 x2 x3 hxr);obtain⟨F,gF⟩:=ay (o5 (o8 Vs) (x1,x2,x3) 80 (x1,x2,x3));rw[gF] at HTx hI;have wA:=qh hI;have HCx:Hid (∀W,σ wo.heap.size wo W→W.cell? ⟨bd,PG+i*3,ε⟩=ζ (J x1)∧W.cell? ⟨bd,PG+i*3+1,ε⟩=ζ (J x2)∧W.cell? ⟨bd,PG+i*3+2,ε⟩=ζ (J x3)):=qh (fun W hb=>⟨(hb.cell (p:=⟨bd,PG+i*3,ε⟩) YM).trans d1,(hb.cell (p:=⟨bd,PG+i*3+1,ε⟩) YM).trans d2,(hb.cell (p:=⟨bd,PG+i*3+2,ε⟩) YM).trans d3⟩);clear hI HI wE gx hc YM gF We hxr
    go_upto_region 8 with (first
     |(go_at_call 33;refine(Pk.out _ (aJ HP.out.ow.own)).mono ?_;rintro e w5 ⟨rfl,fB⟩
       have HP5:=qh (HP.out.bl fB);have dY:=qh (HX.out.bl fB);have gI:Hid (σ wo.heap.size wo w5):=qh fB;clear fB d1 d2 d3 HP HX ht))
    have pY:=qh (dY.out.dr);have G5:=qh (HP5.out.dr);have qF:=qh (aL gI.out);have Oy:∀w',Kept aF w5.drew w'→w'.cell? ⟨b0,0,ε⟩=ζ (γ A n c):=fun w' h=>h.nil_cell (pY.out.cell (i:=0) rfl)
    have NN:∀w',Kept aF w5.drew w'→w'.cell? ⟨b0,1,ε⟩=ζ (γ B m k):=fun w' h=>h.nil_cell (pY.out.cell (i:=1) rfl)
    have Zs:∀w',Kept aF w5.drew w'→w'.cell? ⟨bd,PG+i*3,ε⟩=ζ (J x1):=fun w' h=>h.nil_cell ((HCx.out _ qF.out).1)
    have Sz:∀w',Kept aF w5.drew w'→w'.cell? ⟨bd,PG+i*3+1,ε⟩=ζ (J x2):=fun w' h=>h.nil_cell ((HCx.out _ qF.out).2.1)
    have Sb:∀w',Kept aF w5.drew w'→w'.cell? ⟨bd,PG+i*3+2,ε⟩=ζ (J x3):=fun w' h=>h.nil_cell ((HCx.out _ qF.out).2.2)
    refine aw aF (by kernel_rfl) ?_;refine ag 0 ?_;refine ag 1 ?_;refine ag 2 ?_;refine ag 3 ?_;refine ag 4 ?_;refine sE 5 ?_;intro w' aB
    refine(HTx.out _ (rG.out.bl (G5.out.bl aB).ow.below)).mono ?_
    rintro e FO ⟨A9,c9,rfl,ho9,Ip,rB⟩;have Hl9:=qh Ip;have hF:QS (b0+1) A9 c9 F FO:=⟨ql ho9 (by have:=(pY.out.bl aB).lt;omega)⟩
    have HNt:Hid (∀g,(Ο A9 F.length c9).ownBlock=ζ g→(Ο At T.length ct).ownBlock≠ζ g):=qh (fun g e q=>by
     have h1:=(ho9.lt g e).1;have h2:=((G5.out.bl aB).ow.own.lt g q).2;omega)
    have ik:Hid (∀y∈X,∀a b:Κ,y.1=ζ a→A9=ζ b→a.block≠b.block):=qh (fun y hy a b ha hb q=>by
     have h1:=(ho9.lt b.block (by rw[hb];rfl)).1;have h2:=(((G5.out.bl aB).r.one y hy).lt a.block (by rw[LR,ha];rfl)).2;omega)
    clear ho9 Ip;have M7:=qh ((pY.out.bl aB).bl rB);have Si:=qh ((G5.out.bl aB).bl rB);have Iv:=qh (af (af qF.out aB) rB);have ae0:=fun cT (h:Kept aF FO cT)=>Oy cT ((Kept.of_ext aB).trans ((Kept.of_below rB).trans h))
    have aeO:=fun cT (h:Kept aF FO cT)=>NN cT ((Kept.of_ext aB).trans ((Kept.of_below rB).trans h))
    have ahw:=fun cT (h:Kept aF FO cT)=>Zs cT ((Kept.of_ext aB).trans ((Kept.of_below rB).trans h))
    have agl:=fun cT (h:Kept aF FO cT)=>Sz cT ((Kept.of_ext aB).trans ((Kept.of_below rB).trans h))
    have agO:=fun cT (h:Kept aF FO cT)=>Sb cT ((Kept.of_ext aB).trans ((Kept.of_below rB).trans h))
    refine⟨_,rfl,Kept.of_below rB,?_⟩
    clear aB rB;have R9:=qh hF;clear hF;simp only[ξ,aq,ak,ao];refine ag 6 ?_;refine aD (by kernel_rfl) ?_ _;intro Ua aB;have LH:=qh (M7.out.bl aB);have SO:=qh (Si.out.bl aB);have SC:=qh (R9.out.bl aB);have Qk:=qh (af Iv.out aB);clear M7 Si R9 Iv;clear aB;go_upto_region 9 with fail
    refine wp_region_lit ?_;refine ah (v:=?_) (ζ 31) rfl (by rfl) ?_ ?_;rotate_left
    ·go_simp;(try with_reducible rfl)
    simp only[ξ,aq,ak,ao];refine ah (v:=?_) (ζ 32) rfl (by rfl) ?_ ?_;rotate_left
    ·go_simp;(try with_reducible rfl)
    simp only[ξ,aq,ak,ao];refine dz (ζ 33) rfl (by rfl) 86 57 1 #[(0,.tmp 32)] (by rfl) Tryz.underlying86 #[γ A9 F.length c9] (by kernel_rfl) ?_;simp only[ξ,aq,ak,ao];have HLs:Hid (aX (Ua.alloc (δ #[γ A9 F.length c9] 57)) (Ua.alloc (δ #[γ A9 F.length c9] 57)).heap.size 1 (ζ ⟨Ua.heap.size,0,ε⟩) 1 1 [γ A9 F.length c9]):=qh (aX.of_whole (cs:=[γ A9 F.length c9]) (Whole.new_ _ _ _) rfl);obtain⟨A7,c7,w7,cj,hp7,Lt⟩:=(SO.out.al (δ #[γ A9 F.length c9] 57)).out A9 c9 F (bO SC.out.own (ax _ _)) ik.out HNt.out (by omega) _ _ HLs.out;refine jU (ζ 34) rfl (by rfl) (cA (by rfl) (by rfl) (by rfl) cj) ?_;simp only[ξ,aq,ak,ao];have BO:=qh ((LH.out.al (δ #[γ A9 F.length c9] 57)).at_ (Lt.block b0 (by omega)));obtain⟨A8,c8,w8,RU,hp8,qX⟩:=hp7.tell (List.mem_append.2 (.inr (List.mem_singleton.2 rfl))) (by have:=Hl9.out;omega);have vY:=qh (BO.out.at_ (qX.block b0 (by omega)));have HP8:Hid (PR w (b0+1) A8 c8 (T++F) (ζ ⟨bd,PG,ε⟩) cl L A7 c7 (X++[(A9,c9,F)]) w8):=qh hp8;have RM:=qh RU;have HI8:Hid (lN (o8 Vs) 80 L []=(X++[((A9,c9,F):Rw D)]).map (·.2.2)++lN (o8 Vs) 80 (L.drop (i+1)) (T++F)):=qh (by rw[wA.out,List.map_append];simp);have Hn8:Hid ((X++[((A9,c9,F):Rw D)]).length≤i+1∧(T++F).length≤(i+1)*80):=qh ⟨by simp;omega,by have:=Hl9.out;rw[Ε];omega⟩;have na:(X++[((A9,c9,F):Rw D)]).length=X.length+1:=by simp
    clear cj hp7 Lt BO RU hp8 qX HLs ik HNt Hl9 wA LH SO SC Qk;go_upto_region 10 with fail
    go_wp2_with (first
     |(at_builtin
       refine sM rfl (.tmp 35) (.tmp 36) _ rfl rfl rfl RM.out ?_;clear RM))
    go_roundw
    case rel=>exact⟨i+1,A7,c7,A8,c8,T++F,_,by omega,by go_num,by rw[na],by rw[Ε],vY,HP8,HI8,Hn8⟩
    case measure=>simp[intOf];omega
  ·obtain rfl:L.length=i:=by omega
   have hI:=HI.out;rw[List.drop_length] at hI;have wA:Hid (lN (o8 Vs) 80 L []=X.map (·.2.2)):=qh (by rw[hI];simp[lN]);clear hI HI;go_wp2;go_ret;exact⟨Ao,co,X,rfl,by have:=DA.out;rw[this];exact HP.out.r,wA.out.symm,HP.out.ow.below⟩
theorem Oo (A:Option Κ) (n c:Nat) (Vs:List VC) (B:Option Κ) (m k:Nat) (Es:List EC) (F C:Nat) (w:ο) (h:aR w A n c Vs B m k Es) (hn:n≤1000000) (hm:m≤1000000) (hF:F≤1000000) (hC:C≤1000000) (HF:∀W,aR W A n c Vs B m k Es→Ζ η 40 #[φ #[γ A n c,γ B m k]] W fun e w'=>∃A' c',e=.returned (γ A' F c')∧σ W.heap.size W w') (HC:∀W,aR W A n c Vs B m k Es→Ζ η 41 #[φ #[γ A n c,γ B m k]] W fun e w'=>e=.returned (J ((C:Nat):Int))∧σ W.heap.size W w'):
 Ζ η 85 #[φ #[γ A n c,γ B m k]] w fun e w'=>e=.returned (Ξ #[J (n:Int),J (m:Int),J ((F+lA Vs:Nat):Int),J (C:Int)])∧σ w.heap.size w w':=by
 have rG:=qh h;have H:=qh h.v;have hr:∀v∈Vs,v.2.1.2.2.2.length=v.2.1.2.1:=fun v hv=>(h.r v hv).2.dlen
 have Hr:=qh hr;have hl:=h.v.rlen aQ (by decide);have Hl:=qh hl;have HG:Hid (lA Vs=((Vs.take n).filter Rm).length):=qh (by rw[Ι (by omega)];rfl);obtain⟨an,gan⟩:=ay (lA Vs);rw[gan] at HG ⊢;have HFf:=qh HF;have HCc:=qh HC;clear h hr hl gan HF HC;go_enter Tryz.func85,Tryz.ntmps85;have lV:((w.alloc (δ #[γ A n c,γ B m k] 25))).cell? ⟨w.heap.size,0,ε⟩=ζ (γ A n c):=(show Whole (w.alloc (δ #[γ A n c,γ B m k] 25)) (w.heap.size) (25) ([γ A n c,γ B m k]) from Whole.new2 (by first|rfl|simp)).cell (i:=0) rfl;have lX:((w.alloc (δ #[γ A n c,γ B m k] 25))).cell? ⟨w.heap.size,1,ε⟩=ζ (γ B m k):=(show Whole (w.alloc (δ #[γ A n c,γ B m k] 25)) (w.heap.size) (25) ([γ A n c,γ B m k]) from Whole.new2 (by first|rfl|simp)).cell (i:=1) rfl;go_wp2_with fail
 clear lV lX
 refine(HFf.out _ (rG.out.al (δ #[γ A n c,γ B m k] 25))).mono ?_
 rintro e w3 ⟨A5,c5,rfl,bC⟩;have Tl:=qh ((rG.out.al (δ #[γ A n c,γ B m k] 25)).bl bC);have S9:=qh ((show Whole (w.alloc (δ #[γ A n c,γ B m k] 25)) (w.heap.size) (25) ([γ A n c,γ B m k]) from Whole.new2 (by first|rfl|simp)).bl bC);have dv:=qh (af (aE (Θ _ w) (δ #[γ A n c,γ B m k] 25)) bC);clear rG;clear bC;have vD:=qh (Tl.out);have dY:=qh (S9.out);have gI:=qh (dv.out);clear Tl S9 dv;go_wp2;go_loopw [6,7] (fun sn si wr=>∃(j q:Nat),j≤n∧si=J j∧sn=J ((F+q:Nat):Int)∧Hid (wr=w3)∧Hid (((Vs.take j).filter Rm).length=q)) (fun _ si _=>n - (intOf si).toNat)
 case atStart=>exact⟨0,0,by omega,rfl,rfl,by first|exact qh rfl|exact qh trivial,qh rfl⟩
 case round=>
  obtain⟨j,q,hj,rfl,rfl,HW,HQ⟩:=hrel;have Cg:=HW.out.symm;subst Cg
  have hqj:q≤j:=by
   have h1:=List.length_filter_le Rm (Vs.take j);rw[HQ.out,List.length_take] at h1;omega
  have c0:=dY.out.cell (i:=0) rfl
  by_cases o4:j<n
  ·obtain⟨v,hx⟩:∃v,Vs[j]? =ζ v:=⟨_,θ (by have:=Hl.out;omega)⟩
   have VN:=EZ hx;rw[HQ.out] at VN;have qL:=P9 (Hr.out v (ω hx));obtain⟨b,gb⟩:=ay (Rm v);rw[gb] at qL VN;obtain⟨bb,off,rfl,bD,bM⟩:=H.out.place aQ (by decide) (by omega);have cR:=gI.out;have q0:=bM j _ hx 0 _ rfl;have q1:=bM j _ hx 1 _ rfl;have q2:=bM j _ hx 2 _ rfl;have q3:=bM j _ hx 3 _ rfl;have q4:=bM j _ hx 4 _ rfl;simp only[Ν,Jac] at q0 q1 q2 q3 q4;have l0:=(cR.cell (p:=⟨bb,off+j*5,ε⟩) bD).trans q0;have l1:=(cR.cell (p:=⟨bb,off+j*5+1,ε⟩) bD).trans q1;have l2:=(cR.cell (p:=⟨bb,off+j*5+2,ε⟩) bD).trans q2;have l3:=(cR.cell (p:=⟨bb,off+j*5+3,ε⟩) bD).trans q3;have l4:=(cR.cell (p:=⟨bb,off+j*5+4,ε⟩) bD).trans q4;clear cR q0 q1 q2 q3 q4;obtain⟨⟨i1,i2⟩,⟨rA,rn,rc,rL⟩,lb,at_⟩:=v;replace qL:((rn:Int)==0)=b:=qL;have q2:w3.cell? ⟨bb,off+j*5+2,ε⟩=ζ (γ rA rn rc):=l2;have Hnx:=qh VN;clear hx bM bD gb VN l0 l1 l2 l3 l4;cases b with
   |false=>
    go_wp2;go_roundw
    case rel=>exact⟨j+1,q,by omega,by go_num,rfl,by first|exact qh rfl|exact qh trivial,qh Hnx.out⟩
    case measure=>simp[intOf];omega
   |true=>
    have hwq:Jaw.wrap (((F+q:Nat):Int)+1)=((F+(q+1):Nat):Int):=by rw[Jbb _ (by omega)];omega
    obtain⟨fq,VU⟩:=ay (F+q);have Vv:F+(q+1)=fq+1:=by omega
    rw[VU,Vv] at hwq;rw[VU];have Gfq:=qh Vv;clear VU Vv;go_wp2;go_roundw
    case rel=>exact⟨j+1,q+1,by omega,by go_num,by rw[Gfq.out];go_num,by first|exact qh rfl|exact qh trivial,qh Hnx.out⟩
    case measure=>simp[intOf];omega
  ·obtain rfl:n=j:=by omega
   have hq:q=an:=by rw[HG.out,HQ.out]
   subst hq;obtain⟨fq,VU⟩:=ay (F+q);have Gfz:Hid ((F:Int)+(q:Int)=(fq:Int)):=qh (by omega);rw[VU];clear VU;go_upto_region 7 with fail
   have Mm:=qh (vD.out.dr);have pY:=qh (dY.out.dr);have qF:=qh (aL gI.out);have Oy:∀w',Kept aF w3.drew w'→w'.cell? ⟨w.heap.size,0,ε⟩=ζ (γ A n c):=fun w' h=>h.nil_cell (pY.out.cell (i:=0) rfl)
   have NN:∀w',Kept aF w3.drew w'→w'.cell? ⟨w.heap.size,1,ε⟩=ζ (γ B m k):=fun w' h=>h.nil_cell (pY.out.cell (i:=1) rfl)
   refine aw aF (by kernel_rfl) ?_;refine ag 0 ?_;refine ag 1 ?_;refine ag 2 ?_;refine ag 3 ?_;refine ag 4 ?_;refine ag 5 ?_;refine ag 6 ?_;refine ag 7 ?_;refine sE 8 ?_;intro w' aB
   refine(HCc.out _ (Mm.out.bl aB)).mono ?_
   rintro e Xo ⟨rfl,wL⟩;have Nh:=qh ((Mm.out.bl aB).bl wL);have Ob:=qh ((pY.out.bl aB).bl wL);have G7:=qh (af (af qF.out aB) wL);have Sz:=fun cT (h:Kept aF Xo cT)=>Oy cT ((Kept.of_ext aB).trans ((Kept.of_below wL).trans h))
   have Sb:=fun cT (h:Kept aF Xo cT)=>NN cT ((Kept.of_ext aB).trans ((Kept.of_below wL).trans h))
   refine⟨_,rfl,Kept.of_below wL,?_⟩
   clear aB wL;simp only[ξ,aq,ak,ao];refine ag 9 ?_;refine ag 10 ?_;refine ag 11 ?_;refine ag 12 ?_;refine aD (by kernel_rfl) ?_ _;intro FO aB;have abv:=qh (Nh.out.bl aB);have ade:=qh (Ob.out.bl aB);have Q6:=qh (af G7.out aB);clear Nh Ob G7;clear aB;go_wp2;exact bodyPost_ret (v:=Ξ #[J (n:Int),J (m:Int),J (fq:Int),J (C:Int)]) (by simp[results,Tryz.results85,go_sem]) rfl ⟨by rw[Gfz.out],Q6.out⟩
theorem Ff (A:Option Κ) (n c:Nat) (Vs:List VC) (B:Option Κ) (m k:Nat) (Es:List EC) (f C:Nat) (g:Int) (w:ο) (h:aR w A n c Vs B m k Es) (hn:n≤1000000) (hm:m≤1000000) (hf:f≤2000000) (hC:C≤1000000) (hg:(2*(C:Int) - n+m - f).tdiv 2=g)
 (HN:∀W,aR W A n c Vs B m k Es→Ζ η 85 #[φ #[γ A n c,γ B m k]] W fun e w'=>e=.returned (Ξ #[J (n:Int),J (m:Int),J (f:Int),J (C:Int)])∧σ W.heap.size W w'):
 Ζ η 58 #[φ #[γ A n c,γ B m k]] w fun e w'=>e=.returned (J g)∧σ w.heap.size w w':=by
 have rG:=qh h;have HNn:=qh HN;have h1:Jaw.wrap (2*(C:Int))=2*(C:Int):=Jbb _ (by omega);have h2:Jaw.wrap (2*(C:Int) - (n:Int))=2*(C:Int) - (n:Int):=Jbb _ (by omega);have h3:Jaw.wrap (2*(C:Int) - (n:Int)+(m:Int))=2*(C:Int) - (n:Int)+(m:Int):=Jbb _ (by omega);have h4:Jaw.wrap (2*(C:Int) - (n:Int)+(m:Int) - (f:Int))=2*(C:Int) - (n:Int)+(m:Int) - (f:Int):=Jbb _ (by omega)
 have hgb:-9223372036854775808≤g∧g≤9223372036854775807:=by
  rw[←hg];have q1:-(8000000:Int)≤(2*(C:Int) - n+m - f):=by omega
  have q2:(2*(C:Int) - n+m - f)≤8000000:=by omega
  generalize (2*(C:Int) - (n:Int)+m - f)=x at q1 q2;rcases Int.le_total 0 x with q|q
  ·rw[Jbp q];omega
  ·have e:x.tdiv 2= -((-x) / 2):=by rw[←Jbp (show(0:Int)≤-x by omega),Int.neg_tdiv,Int.neg_neg]
   rw[e];omega
 have h5:Jaw.wrap ((2*(C:Int) - (n:Int)+(m:Int) - (f:Int)).tdiv 2)=g:=by rw[hg];exact Jbb _ hgb
 clear h HN hg hgb;go_enter Tryz.func58,Tryz.ntmps58;have lV:((w.alloc (δ #[γ A n c,γ B m k] 25))).cell? ⟨w.heap.size,0,ε⟩=ζ (γ A n c):=(show Whole (w.alloc (δ #[γ A n c,γ B m k] 25)) (w.heap.size) (25) ([γ A n c,γ B m k]) from Whole.new2 (by first|rfl|simp)).cell (i:=0) rfl;have lX:((w.alloc (δ #[γ A n c,γ B m k] 25))).cell? ⟨w.heap.size,1,ε⟩=ζ (γ B m k):=(show Whole (w.alloc (δ #[γ A n c,γ B m k] 25)) (w.heap.size) (25) ([γ A n c,γ B m k]) from Whole.new2 (by first|rfl|simp)).cell (i:=1) rfl;go_wp2_with fail
 clear lV lX
 refine(HNn.out _ (rG.out.al (δ #[γ A n c,γ B m k] 25))).mono ?_
 rintro e w3 ⟨rfl,bC⟩;have Tl:=qh ((rG.out.al (δ #[γ A n c,γ B m k] 25)).bl bC);have S9:=qh ((show Whole (w.alloc (δ #[γ A n c,γ B m k] 25)) (w.heap.size) (25) ([γ A n c,γ B m k]) from Whole.new2 (by first|rfl|simp)).bl bC);have dv:=qh (af (aE (Θ _ w) (δ #[γ A n c,γ B m k] 25)) bC);clear rG;clear bC;go_wp2;go_ret;exact⟨by first|rfl|(rw[h5])|simp[h5],dv.out⟩
section
variable {A:Option Κ} {n c:Nat} {Vs:List VC} {B:Option Κ} {m k:Nat} {Es:List EC}
theorem Mv (hf:bc Vs Es):∀W,aR W A n c Vs B m k Es→Ζ η 40 #[φ #[γ A n c,γ B m k]] W fun e w'=>∃A' c',e=.returned (γ A' (vt Vs Es) c')∧σ W.heap.size W w':=fun W h=>by
 refine(F1 A n c Vs B m k Es W h hf).mono ?_
 rintro e w' ⟨A',c',X,rfl,-,hX,hb⟩;have hl:=congrArg List.length hX;rw[Ρ] at hl;rw[hl];exact⟨A',c',rfl,hb⟩
theorem Kg (hf:bc Vs Es) (hg:tJ Vs Es):∀W,aR W A n c Vs B m k Es→Ζ η 85 #[φ #[γ A n c,γ B m k]] W fun e w'=>e=.returned (Ξ #[J (n:Int),J (m:Int),J ((vt Vs Es+lA Vs:Nat):Int),J ((xU (kR Vs):Nat):Int)])∧σ W.heap.size W w':=fun W h=>by
 have hp:=hf.pre h hg;have h1:=hf.small h;exact Oo A n c Vs B m k Es (vt Vs Es) (xU (kR Vs)) W h hp.n (by omega) (by have:=zO hf;omega) (by have:=yn hf;omega) (Mv hf) (fun W h=>Fi A n c Vs B m k Es W h hf)
theorem Kb (hf:bc Vs Es) (hg:tJ Vs Es):∀W,aR W A n c Vs B m k Es→Ζ η 58 #[φ #[γ A n c,γ B m k]] W fun e w'=>e=.returned (J (Bs Vs Es))∧σ W.heap.size W w':=fun W h=>by
 have hp:=hf.pre h hg;have h1:=hf.small h;have h2:=Od Vs;have h3:=(I8 h).1;exact Ff A n c Vs B m k Es (vt Vs Es+lA Vs) (xU (kR Vs)) (Bs Vs Es) W h hp.n (by omega) (by have:=zO hf;omega) (by have:=yn hf;omega) (Ry h) (Kg hf hg)
end
end Go.Proofs.YtpdpbfmiahjiiaaGreat
