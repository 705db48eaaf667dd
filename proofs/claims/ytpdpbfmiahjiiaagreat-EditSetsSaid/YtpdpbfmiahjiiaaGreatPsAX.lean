/- Several texts in one. -/
import Derived.Test.YtpdpbfmiahjiiaaGreatPsAB
import Derived.Test.YtpdpbfmiahjiiaaGreatPsAJ
import Derived.Below
import Derived.BigQuiet
import Derived.Carry
import Derived.Deep.AppendLies
import Derived.Deep.CutBlock
import Derived.Deep.DeepCutAuto
import Derived.Deep.MidRow
import Derived.Deep.QuietTactic
import Derived.Deep.Slices
import Derived.Deep.WholeRow
import Derived.DeepKeys4
import Derived.Great.Walk
import Derived.IntWalk
import Derived.KernelRfl
import Derived.Laws.AppendOwnNone
import Derived.Laws.MakeOwn
import Derived.Laws.NewBlocks
import Derived.Laws.OwnMore
import Derived.Laws.RangeAny
import Derived.Laws.RangeString
import Derived.Laws.ResultCell
import Derived.Laws.Rows
import Derived.Laws.Tables
import Derived.Lib.Hide
import Derived.Lib.SmallJoins
import Derived.LoopIn
import Derived.LoopNIn
import Derived.LoopTactic
import Derived.Maps.AppendAt
import Derived.Maps.OwnIn
import Derived.Maps.OwnSet
import Derived.OpenShut
import Derived.OrdersHeld
import Derived.Outline
import Derived.OwnWalkIn
import Derived.ProofKit
import Derived.RangeFuncBound
import Derived.RangeFuncCalls
import Derived.RangeFuncLeaves
import Derived.RangeFuncNested
import Derived.Shelf.Abstract
import Derived.Shelf.RegionOpen
import Derived.Shelf.SlSortCmp.NoneTotal
import Derived.Shelf.SlSortCmp.WholeK
import Derived.SizedLaws
import Derived.TacticsInMore
import Derived.WalkKit
import Derived.WalkLawsBesides
import Derived.WalkSpells
import Derived.WideKeyArgs
set_option linter.unusedSectionVars false
set_option linter.unusedSimpArgs false
set_option linter.unusedVariables false
set_option maxRecDepth 100000
set_option maxHeartbeats 16000000
namespace Go.Proofs.YtpdpbfmiahjiiaaGreat
open Go.RowKit
open _root_.Go.Value renaming slice→γ,string→μ,pointer→υ,agg→φ,bool→Β,tuple→Ξ,slice→Ο,oneCell'→Τ
open _root_.Go.Obj renaming cells→δ
open _root_.Option renaming none→ε,some→ζ
open _root_.Go.Proofs.Tryz renaming prog→η
open _root_.List renaming getElem?_eq_getElem→θ,map_cons→ι,getElem?_eq_some_iff→ν,map_nil→π,getD_eq_getElem?_getD→χ,mem_of_getElem?→ω,length_append→Ε,take_of_length_le→Ι,length_map→Ρ,drop_eq_getElem_cons→Χ,getElem?_cons_succ→Jag,getElem?_cons_zero→Jah,getElem?_toArray→Jaj
open _root_.Go.Act renaming put→ξ
open _root_.Go renaming World→ο,Calls→Ζ,Addr→Κ,maxLen→Jap
open _root_.Bool renaming false→ρ
open _root_.Go.RowKit renaming Below→σ
open _root_.Nat renaming le_refl→Δ,add_zero→Jac,zero_le→Jas
open _root_.Go.RowKit.Below renaming refl→Θ
open _root_.Option.some renaming inj→Μ
open _root_.Go.Addr renaming add_lit→Ν
open _root_.Go.IntKind renaming i64→Jaw
open _root_.Prod.mk renaming injEq→Jba
open _root_.Go.IntWalk renaming i64_in→Jbb
open _root_.Int renaming tdiv_eq_ediv_of_nonneg→Jbp
open _root_.Go.World renaming block_lt_of_cell?→Jbx
theorem FJ (A:Option Κ) (n c:Nat) (Vs:List VC) (B:Option Κ) (m k:Nat) (x1 x2:Int) (w:ο) (h:bg w w.heap.size 5 A n c (ah vC Vs)) (hn:n≤1000000):
 Ζ η 60 #[φ #[γ A n c,γ B m k],φ #[J x1,J x2]] w fun e w'=>e=.returned (J (fm 0 Vs (x1,x2)))∧σ w.heap.size w w':=by
 have HV:=qh h;have oG:=qh (h.rlen aS (by decide));obtain⟨p,gp⟩:=aB (fm 0 Vs (x1,x2));have HP:=qh gp;rw[gp];clear h gp;go_enter Tryz.func60,Tryz.ntmps60;go_upto_region 1 with fail
 obtain⟨W0,b0,b1,bO,bp,dE,aQ,aL,bw,mQ,lZ,oa,uD,iP,uW⟩:=wT w 25 [γ A n c,γ B m k] 30 [J x1,J x2];rw[bO,dE,bp];clear bO bp dE;go_wp2;go_loopw [5] (fun si wr=>∃j:Nat,j≤n∧si=J j∧Hid (σ W0.heap.size W0 wr)∧Hid (p=fm j (Vs.drop j) (x1,x2))) (fun si _=>n - (intOf si).toNat)
 case atStart=>exact⟨0,by omega,rfl,qh (Θ _ _),qh HP.out.symm⟩
 case round=>
  obtain⟨j,hj,rfl,rT,HE⟩:=hrel;obtain⟨wo,cS⟩:=aB wr;rw[cS] at rT ⊢;clear cS;have FF:=qh (aQ.out.bl rT.out);have HYo:=qh (aL.out.bl rT.out);have cb:=FF.out.cell (i:=0) rfl
  by_cases nT:j<n
  ·obtain⟨v,hx⟩:∃v,Vs[j]? =ζ v:=⟨_,θ (by have:=oG.out;omega)⟩
   have kd:Vs.drop j=v::Vs.drop (j+1):=by
    rw[Χ (ν.1 hx).1,(ν.1 hx).2]
   have xR:=HE.out;rw[kd,fm] at xR;have sO:=qh xR;have HB:=qh (bw.out.trans (rT.out.mono bw.out.size));obtain⟨bb,off,rfl,aY,a8⟩:=HV.out.place aS (by decide) (by omega);have bC:=HB.out;have q0:=a8 j _ hx 0 _ rfl;have q1:=a8 j _ hx 1 _ rfl;have q2:=a8 j _ hx 2 _ rfl;have q3:=a8 j _ hx 3 _ rfl;have q4:=a8 j _ hx 4 _ rfl;simp only[Ν,Jac] at q0 q1 q2 q3 q4;have l0:=(bC.cell (p:=⟨bb,off+j*5,ε⟩) aY).trans q0;have l1:=(bC.cell (p:=⟨bb,off+j*5+1,ε⟩) aY).trans q1;have l2:=(bC.cell (p:=⟨bb,off+j*5+2,ε⟩) aY).trans q2;have l3:=(bC.cell (p:=⟨bb,off+j*5+3,ε⟩) aY).trans q3;have l4:=(bC.cell (p:=⟨bb,off+j*5+4,ε⟩) aY).trans q4;clear bC q0 q1 q2 q3 q4;obtain⟨⟨i1,i2⟩,⟨rA,rn,rc,rL⟩,lb,at_⟩:=v;have he:=Gw i1 i2 x1 x2
   have hd:(i1==x1 && i2==x2)=decide (((i1,i2):I2)=(x1,x2)):=by
    by_cases h1:i1=x1<;>by_cases h2:i2=x2<;>simp[h1,h2]
   obtain⟨b,gb⟩:=aB (decide (((i1,i2):I2)=(x1,x2)));rw[hd,gb] at he;have Hb:=qh gb;clear hx kd xR a8 aY HE hd gb;go_upto_region 4 with fail
   clear cb;have fL:=cm (i:=0) FF.out rfl;have ld1:=cm (i:=0) HYo.out rfl;have ka:=cm (i:=1) HYo.out rfl;have pV:∀w',Kept aO wo.drew w'→w'.cell? ⟨bb,off+j*5,ε⟩=ζ (J i1):=fun w' h=>h.nil_cell (show wo.drew.cell? _=_ from l0)
   have tX:∀w',Kept aO wo.drew w'→w'.cell? ⟨bb,off+j*5+1,ε⟩=ζ (J i2):=fun w' h=>h.nil_cell (show wo.drew.cell? _=_ from l1)
   refine ay (aO) (by kernel_rfl) ?_;refine aa 0 ?_;refine aa 1 ?_;refine aa 2 ?_;refine aa 3 ?_;refine aa 4 ?_;refine aa 5 ?_;refine aa 6 ?_;refine cV 7 (hy:=dD (by rfl) (fun w' aC=>dU .eql 30 (.tmp 18) (.tmp 19) 30 rfl rfl rfl (by kernel_rfl) (he w'))) (h:=?_);refine aF (by kernel_rfl) ?_ _;intro W8 cg;have nV:=qh (ag (aN rT.out) cg);clear cg fL ld1 ka pV tX l0 l1 l2 l3 l4;cases b with
   |true=>
    have hp:p=(j:Int):=by rw[sO.out,if_pos (of_decide_eq_true Hb.out)]
    clear sO;subst hp;go_wp2;go_ret;exact⟨rfl,bw.out.trans (nV.out.mono bw.out.size)⟩
   |false=>
    have HE4:Hid (p=fm (j+1) (Vs.drop (j+1)) (x1,x2)):=qh (by rw[sO.out,if_neg (of_decide_eq_false Hb.out)]);go_wp2;go_roundw
    case rel=>exact⟨j+1,by omega,by go_num,nV,HE4⟩
    case measure=>simp[intOf]<;>omega
  ·obtain rfl:n=j:=by omega
   have hp:p= -1:=by
    rw[HE.out,List.drop_eq_nil_of_le (by have:=oG.out;omega)];rfl
   clear HE;subst hp;go_wp2;go_ret;exact⟨rfl,bw.out.trans (rT.out.mono bw.out.size)⟩
theorem Ct (A:Option Κ) (n c:Nat) (Vs:List VC) (B:Option Κ) (m k:Nat) (Es:List EC) (w:ο) (h:bz w A n c Vs B m k Es) (hf:aG Vs Es):
 Ζ η 61 #[φ #[γ A n c,γ B m k]] w fun e w'=>∃A2 c2,e=.returned (γ A2 n c2)∧bg w' w'.heap.size 1 A2 n c2 (ah n1 (dm Vs))∧σ w.heap.size w w':=by
 obtain⟨P4,RF,FX⟩:=hf.small h;have oG:=qh (h.v.rlen aS (by decide));have Hlw:=qh (h.e.rlen bM (by decide));have HD:=qh h;obtain⟨P,gP⟩:=aB (ub Vs Es);have HRn:Hid (dq P n n=dm Vs):=qh (by rw[←gP,←oG.out];exact JT hf);have Wy:Hid (P.length=m):=qh (by rw[←gP,ub,Ρ];exact Hlw.out)
 have HPe:Hid (∀(i:Nat) (e:EC),Es[i]? =ζ e→∃a b:Nat,P[i]? =ζ (a,b)∧a<n∧b<n∧fm 0 Vs (lE Vs (e.1.1,e.1.2,0)).1=(a:Int)∧fm 0 Vs (lE Vs (e.1.1,e.1.2,1)).1=(b:Int)):=qh (fun i e he=>by
  obtain⟨a,v,hv,hd,ha⟩:=hf.dart (ω he) 0 (.inl rfl);obtain⟨b,u,hu,lB,hb⟩:=hf.dart (ω he) 1 (.inr rfl);have h1:=hf.stands hv hd;have h2:=hf.stands hu lB
  refine⟨a,b,?_,by rw[←oG.out];exact ha,by rw[←oG.out];exact hb,by rw[h1.1,h1.2],by rw[h2.1,h2.2]⟩
  rw[←gP,ub,List.getElem?_map,he,Option.map_some,hf.plc hv hd,hf.plc hu lB])
 have NO:Hid (∀a1 a2 a3 W,bz W A n c Vs B m k Es→Ζ η 29 #[φ #[γ A n c,γ B m k],φ #[J a1,J a2,J a3]] W fun e w'=>e=.returned (Ξ #[φ #[J (lE Vs (a1,a2,a3)).1.1,J (lE Vs (a1,a2,a3)).1.2],Β (lE Vs (a1,a2,a3)).2])∧σ W.heap.size W w'):=qh (fun a1 a2 a3 W h=>Bl A n c Vs B m k Es a1 a2 a3 W h (by omega) (fun x hx=>by have:=FX x hx;omega));have HPc:Hid (∀a1 a2 W,bz W A n c Vs B m k Es→Ζ η 60 #[φ #[γ A n c,γ B m k],φ #[J a1,J a2]] W fun e w'=>e=.returned (J (fm 0 Vs (a1,a2)))∧σ W.heap.size W w'):=qh (fun a1 a2 W h=>FJ A n c Vs B m k a1 a2 W h.v (by omega));obtain⟨i0,hi,qJ,ly,kK⟩:=aW Jp;clear h hf FX gP;go_enter Tryz.func61,Tryz.ntmps61;go_upto_region 1 with fail
 obtain⟨W0,b0,bO,bp,aQ,bw,mQ,lZ,oa⟩:=yj w 25 [γ A n c,γ B m k];rw[bO,bp];clear bO bp;have XE:Hid (Ow W0 W0.heap.size 3 1 (γ (ζ ⟨W0.heap.size,0,ε⟩) 0 0) 0 (ah n1 (lL 0)) (W0.alloc (δ #[] 3))):=qh (Ow.new_ (cs:=#[]) (Θ _ _) (Δ _) (Δ _) (Jas _) rfl);go_wp2;go_loopw [3,4] (fun so si wr=>∃j:Nat,j≤n∧si=J j∧Hid (Ow W0 W0.heap.size 3 1 so j (ah n1 (lL j)) wr)) (fun _ si _=>n - (intOf si).toNat)
 case atStart=>exact⟨0,by omega,rfl,XE⟩
 case round=>
  clear XE;obtain⟨j,hj,rfl,HO⟩:=hrel;have FF:=qh (aQ.out.bl HO.out.below);have cb:=FF.out.cell (i:=0) rfl
  by_cases nT:j<n
  ·go_wp2_with (first
    |(at_builtin
      refine oQ rfl (.tmp 22) (.tmp 24) _ rfl _ 3 i0 _ 1 8 Tryz.underlying101 hi qJ ly kK rfl (by decide) _ _ _ rfl (by exact HO.out.up (az _ _)) _ (ζ ⟨wr.heap.size,0,ε⟩) 1 1 (n1 (j:Int)) rfl (by exact bg.of_whole (Whole.new_ _ _ _) rfl) (by simp[n1,Τ]) (by unfold Jap;omega) (by omega) ?_;intro v1 w1 fh cP;have nb:=qh fh;clear fh cP))
   go_roundw
   case rel=>
    refine⟨j+1,by omega,by go_num,?_⟩
    rw[Qn,bY];exact nb
   case measure=>simp[intOf]<;>omega
  ·obtain rfl:n=j:=by omega
   obtain⟨XH,co,eso,-⟩:=HO.out.rds;subst eso;have R0:Hid (wr.ownsRow W0.heap.size 3 1 (γ XH n co) n (ah n1 (dq P n 0))):=qh HO.out.own;have ER:=qh HO.out.below;obtain⟨wl,gwl⟩:=aB wr;rw[gwl] at R0 ER cb ⊢;clear gwl HO FF;go_wp2;clear cb;go_loopw [5] (fun sj wr=>∃j:Nat,j≤n∧sj=J j∧Hid (σ W0.heap.size W0 wr)∧Hid (wr.ownsRow W0.heap.size 3 1 (γ XH n co) n (ah n1 (dq P n j)))) (fun sj _=>n - (intOf sj).toNat)
   case atStart=>exact⟨0,by omega,rfl,ER,R0⟩
   case round=>
    clear ER R0;obtain⟨j,hj,rfl,ER,R0⟩:=hrel;obtain⟨wo,cS⟩:=aB wr;rw[cS] at ER R0 ⊢;clear cS;have cb:=(aQ.out.bl ER.out).cell (i:=0) rfl
    by_cases nT:j<n
    ·have Zg:Hid (wo.ownsRow W0.heap.size 3 1 (γ XH n co) n (ah n1 ((P.take 0).foldl vI (dq P n j)))):=R0;clear R0;go_wp2;clear cb;go_loopw [6] (fun si wr=>∃i:Nat,i≤m∧si=J i∧Hid (σ W0.heap.size W0 wr)∧Hid (wr.ownsRow W0.heap.size 3 1 (γ XH n co) n (ah n1 ((P.take i).foldl vI (dq P n j))))) (fun si _=>m - (intOf si).toNat)
     case atStart=>exact⟨0,by omega,rfl,ER,Zg⟩
     case round=>
      clear ER Zg;obtain⟨i,Ef,rfl,Z1,HOi⟩:=hrel;obtain⟨wi,wE⟩:=aB wr;rw[wE] at Z1 HOi ⊢;clear wE;have HXi:=qh (aQ.out.bl Z1.out);have cb:=HXi.out.cell (i:=1) rfl
      by_cases him:i<m
      ·obtain⟨e,he⟩:∃e,Es[i]? =ζ e:=⟨_,θ (by have:=Hlw.out;omega)⟩
       obtain⟨pa,pb,hpi,Ui,hpb,PX,PM⟩:=HPe.out i e he;have HDi:=qh ((HD.out.bl bw.out).bl Z1.out);obtain⟨bb,off,rfl,aY,a8⟩:=HDi.out.e.place bM (by decide) (by omega);have q0:=a8 i _ he 0 _ rfl;have q1:=a8 i _ he 1 _ rfl;simp only[Ν,Jac] at q0 q1;obtain⟨⟨e1,e2⟩,er⟩:=e;have HA0:=qh (NO.out e1 e2 0);have Ny:=qh (NO.out e1 e2 1);replace PX:fm 0 Vs (lE Vs (e1,e2,0)).1=(pa:Int):=PX;replace PM:fm 0 Vs (lE Vs (e1,e2,1)).1=(pb:Int):=PM;obtain⟨⟨⟨p1,p2⟩,pk⟩,gp⟩:∃z,lE Vs (e1,e2,0)=z:=⟨_,rfl⟩
       obtain⟨⟨⟨s1,s2⟩,sk⟩,gs⟩:∃z,lE Vs (e1,e2,1)=z:=⟨_,rfl⟩
       rw[gp] at HA0 PX;rw[gs] at Ny PM;have uB:=qh (HPc.out p1 p2);have EF:=qh (HPc.out s1 s2);rw[show fm 0 Vs (p1,p2)=(pa:Int) from PX] at uB;rw[show fm 0 Vs (s1,s2)=(pb:Int) from PM] at EF;have Hpi:=qh hpi;have jB:Hid (∀W,σ wi.heap.size wi W→W.cell? ⟨b0,0,ε⟩=ζ (γ A n c)∧W.cell? ⟨b0,1,ε⟩=ζ (γ (ζ ⟨bb,off,ε⟩) m k)∧W.cell? ⟨bb,off+i*4,ε⟩=ζ (J e1)∧W.cell? ⟨bb,off+i*4+1,ε⟩=ζ (J e2)):=qh (fun W hb=>⟨(HXi.out.bl hb).cell (i:=0) rfl,(HXi.out.bl hb).cell (i:=1) rfl,(hb.cell (p:=⟨bb,off+i*4,ε⟩) (Jbx _ _ q0)).trans q0,(hb.cell (p:=⟨bb,off+i*4+1,ε⟩) (Jbx _ _ q1)).trans q1⟩);have KO:Hid (∀W,Ext wi.drew W→W.cell? ⟨b0,0,ε⟩=ζ (γ A n c)∧W.cell? ⟨b0,1,ε⟩=ζ (γ (ζ ⟨bb,off,ε⟩) m k)∧W.cell? ⟨bb,off+i*4,ε⟩=ζ (J e1)∧W.cell? ⟨bb,off+i*4+1,ε⟩=ζ (J e2)):=qh (fun W hb=>jB.out W (ag (aN (Θ _ _)) hb));clear he PX PM gp gs aY a8 q0 q1 hpi;go_upto_region 12 with fail
       clear cb;refine cJ 13 11 (cw wi.heap.size) (BQ [ζ (φ #[γ A n c,γ (ζ ⟨bb,off,ε⟩) m k]),ζ (υ (ζ ⟨b0,1,ε⟩)),ζ (γ (ζ ⟨bb,off,ε⟩) m k),ζ (J (i:Int)),ζ (υ (ζ ⟨bb,off+i*4,ε⟩)),ζ (υ (ζ ⟨bb,off+i*4,ε⟩)),ζ (φ #[J e1,J e2]),ζ (φ #[J e1,J e2,J 0]),ζ (Ξ #[φ #[J p1,J p2],Β pk]),ζ (Ξ #[φ #[J p1,J p2],Β pk]),ζ (φ #[J p1,J p2]),ζ (Β pk),ε] 12 wi.heap.size 30 [J 0,J 0]) (Ext wi.drew) (by kernel_rfl) (by kernel_rfl) (by kernel_rfl) (by kernel_rfl) (by kernel_rfl) (by kernel_rfl) (by simp only[Jaj,Jag,Jah];exact rfl) (by kernel_rfl) (by kernel_rfl) (by kernel_rfl) ?_ (fun i v w1 w2 h hx=>sJ i v w1 w2 h hx) (fun _ _ h k=>h.trans k) (Ext.refl _) ?_ ?_ ?_
       ·exact fun _ _ _ _ h=>h
       ·intro i Ef;have dF:i=0∨i=1∨i=2∨i=3∨i=4∨i=5∨i=6∨i=7∨i=8∨i=9∨i=10∨i=11∨i=12:=by omega
        rcases dF with rfl|rfl|rfl|rfl|rfl|rfl|rfl|rfl|rfl|rfl|rfl|rfl|rfl
        ·refine aH ?_;intro x y hg aD;obtain⟨qE,iQ,jd,qi⟩:=KO.out _ hg;simp only[aE,ι,π,aj,ξ,aw,ar,aq];refine .inl ⟨by rfl,?_⟩;go_simp;exact⟨Ext.refl _,rfl⟩
        ·refine aH ?_;intro x y hg aD;simp only[aE,ι,π,aj,ξ,aw,ar,aq];refine .inl ⟨by rfl,?_⟩;go_simp;exact⟨Ext.refl _,rfl⟩
        ·refine aH ?_;intro x y hg aD;have d1:x 1=υ (ζ ⟨b0,1,ε⟩):=aD 1 (by decide);obtain⟨qE,iQ,jd,qi⟩:=KO.out _ hg;simp only[aE,ι,π,aj,ξ,aw,ar,aq];simp only[d1];refine .inl ⟨by rfl,?_⟩;go_simp;exact⟨Ext.refl _,rfl⟩
        ·refine aH ?_;intro x y hg aD;simp only[aE,ι,π,aj,ξ,aw,ar,aq];refine .inl ⟨by rfl,?_⟩;go_simp;exact⟨Ext.refl _,rfl⟩
        ·refine aH ?_;intro x y hg aD;have d2:x 2=γ (ζ ⟨bb,off,ε⟩) m k:=aD 2 (by decide);have d3:x 3=J (i:Int):=aD 3 (by decide);simp only[aE,ι,π,aj,ξ,aw,ar,aq];simp only[d2,d3];refine .inl ⟨by rfl,?_⟩;go_simp;exact⟨Ext.refl _,rfl⟩
        ·refine aH ?_;intro x y hg aD;have d4:x 4=υ (ζ ⟨bb,off+i*4,ε⟩):=aD 4 (by decide);simp only[aE,ι,π,aj,ξ,aw,ar,aq];simp only[d4];refine .inl ⟨by rfl,?_⟩;go_simp;exact⟨Ext.refl _,rfl⟩
        ·refine aH ?_;intro x y hg aD;have d5:x 5=υ (ζ ⟨bb,off+i*4,ε⟩):=aD 5 (by decide);obtain⟨qE,iQ,jd,qi⟩:=KO.out _ hg;simp only[aE,ι,π,aj,ξ,aw,ar,aq];simp only[d5];refine .inl ⟨by rfl,?_⟩;go_simp;exact⟨Ext.refl _,rfl⟩
        ·refine aH ?_;intro x y hg aD;have d6:x 6=φ #[J e1,J e2]:=aD 6 (by decide);simp only[aE,ι,π,aj,ξ,aw,ar,aq];simp only[d6];refine .inl ⟨by rfl,?_⟩;go_simp;exact⟨Ext.refl _,rfl⟩
        ·refine aH ?_;intro x y hg aD;have d0:x 0=φ #[γ A n c,γ (ζ ⟨bb,off,ε⟩) m k]:=aD 0 (by decide);have d7:x 7=φ #[J e1,J e2,J 0]:=aD 7 (by decide);simp only[aE,ι,π,aj,ξ,aw,ar,aq];simp only[d0,d7];refine .inl ⟨by rfl,cu (by go_simp;first|done|exact⟨rfl,rfl⟩|with_reducible rfl) ?_⟩
         refine(HA0.out y (HDi.out.dr.bl hg)).mono ?_
         rintro e w2 ⟨rfl,hb⟩;exact⟨_,rfl,hb,rfl⟩
        ·refine aH ?_;intro x y hg aD;have d8:x 8=Ξ #[φ #[J p1,J p2],Β pk]:=aD 8 (by decide);simp only[aE,ι,π,aj,ξ,aw,ar,aq];simp only[d8];refine .inl ⟨by rfl,?_⟩;go_simp;exact⟨Ext.refl _,rfl⟩
        ·refine aH ?_;intro x y hg aD;have d9:x 9=Ξ #[φ #[J p1,J p2],Β pk]:=aD 9 (by decide);simp only[aE,ι,π,aj,ξ,aw,ar,aq];simp only[d9];refine .inl ⟨by rfl,?_⟩;go_simp;exact⟨Ext.refl _,rfl⟩
        ·refine aH ?_;intro x y hg aD;have d9:x 9=Ξ #[φ #[J p1,J p2],Β pk]:=aD 9 (by decide);simp only[aE,ι,π,aj,ξ,aw,ar,aq];simp only[d9];refine .inl ⟨by rfl,?_⟩;go_simp;exact⟨Ext.refl _,rfl⟩
        ·refine aH ?_;intro x y hg aD;simp only[aE,ι,π,aj,ξ,aw,ar,aq];refine .inl ⟨by rfl,dZ (w':=y.alloc (δ #[J 0,J 0] 30)) (by go_simp;first|done|exact rfl|exact⟨rfl,rfl⟩) (az _ _) ?_⟩;exact⟨y.heap.size,rfl,hg.size,Whole.new_ _ _ [J 0,J 0]⟩
       ·intro x y hg aX;have d9:x 9=Ξ #[φ #[J p1,J p2],Β pk]:=aX 9 (by decide) (by decide);simp only[aE,ι,π,aj,ξ,aw,ar,aq];simp only[d9]
        refine⟨Β pk,?_,rfl⟩
        apply dD;rfl;intro w' aC;go_simp;(try with_reducible rfl)
       intro x y hg aX;have d10:x 10=φ #[J p1,J p2]:=aX 10 (by decide);have d11:x 11=Β pk:=aX 11 (by decide);obtain⟨gr,d12,Ea,OZ⟩:∃g,x 12=υ (ζ ⟨g,0,ε⟩)∧wi.heap.size≤g∧Whole y g 30 [J 0,J 0]:=aX 12 (by decide)
       simp only[aE,ι,π,aj,ξ,aw,ar,aq];simp only[d10,d11,d12];have o9:=qh OZ;have qH:=qh (ag (aN (Θ _ wi)) hg);have Je:Hid (wi.heap.size≤gr):=qh Ea;have HW0:Hid (wi.heap.size≤wi.heap.size):=qh (by omega);clear hg aX d10 d11 d12 Ea OZ;refine gI 13 ?_;intro w' aC
       refine⟨w'.setRow gr #[J p1,J p2],aR 30 (.tmp 7) (.tmp 50) rfl gr rfl [J p1,J p2] rfl 30 [J 0,J 0] (o9.out.bl aC) (by kernel_rfl) rfl (by simp[Τ]),bN (show wi.heap.size≤gr by have:=Je.out;have:=HW0.out;omega) _,?_⟩
       have qP:Hid (Whole (w'.setRow gr #[J p1,J p2]) gr 30 [J p1,J p2]):=qh (Whole.row (o9.out.bl aC) [J p1,J p2]);have kn:Hid (σ wi.heap.size wi (w'.setRow gr #[J p1,J p2])):=qh (bH (ag qH.out aC) Je.out _);obtain⟨V1,fD⟩:=aB (w'.setRow gr #[J p1,J p2]);rw[fD] at qP kn ⊢;clear aC fD o9 qH;refine aa 14 ?_;refine aF (by kernel_rfl) ?_ _;intro W8 cg;have KW:=qh (qP.out.bl cg);have rT:=qh (ag kn.out cg);clear cg qP kn HW0;obtain⟨ga,gga⟩:=aB gr;rw[gga] at KW ⊢;obtain⟨wa,Sd⟩:=aB W8;rw[Sd] at KW rT ⊢;clear gga Sd KO Je gr;have uP:=KW;have lX:=rT;have Y6:=qh (HDi.out.bl lX.out);have KO:Hid (∀W,Ext wa.drew W→W.cell? ⟨b0,0,ε⟩=ζ (γ A n c)∧W.cell? ⟨b0,1,ε⟩=ζ (γ (ζ ⟨bb,off,ε⟩) m k)∧W.cell? ⟨bb,off+i*4,ε⟩=ζ (J e1)∧W.cell? ⟨bb,off+i*4+1,ε⟩=ζ (J e2)):=qh (fun W hb=>jB.out W (ag lX.out (ag (aN (Θ _ _)) hb)));clear KW rT;go_upto_region 13 with fail
       refine cJ 13 11 (cw wa.heap.size) (BQ [ζ (φ #[γ A n c,γ (ζ ⟨bb,off,ε⟩) m k]),ζ (υ (ζ ⟨b0,1,ε⟩)),ζ (γ (ζ ⟨bb,off,ε⟩) m k),ζ (J (i:Int)),ζ (υ (ζ ⟨bb,off+i*4,ε⟩)),ζ (υ (ζ ⟨bb,off+i*4,ε⟩)),ζ (φ #[J e1,J e2]),ζ (φ #[J e1,J e2,J 1]),ζ (Ξ #[φ #[J s1,J s2],Β sk]),ζ (Ξ #[φ #[J s1,J s2],Β sk]),ζ (φ #[J s1,J s2]),ζ (Β sk),ε] 12 wa.heap.size 30 [J 0,J 0]) (Ext wa.drew) (by kernel_rfl) (by kernel_rfl) (by kernel_rfl) (by kernel_rfl) (by kernel_rfl) (by kernel_rfl) (by simp only[Jaj,Jag,Jah];exact rfl) (by kernel_rfl) (by kernel_rfl) (by kernel_rfl) ?_ (fun i v w1 w2 h hx=>sJ i v w1 w2 h hx) (fun _ _ h k=>h.trans k) (Ext.refl _) ?_ ?_ ?_
       ·exact fun _ _ _ _ h=>h
       ·intro i Ef;have dF:i=0∨i=1∨i=2∨i=3∨i=4∨i=5∨i=6∨i=7∨i=8∨i=9∨i=10∨i=11∨i=12:=by omega
        rcases dF with rfl|rfl|rfl|rfl|rfl|rfl|rfl|rfl|rfl|rfl|rfl|rfl|rfl
        ·refine aH ?_;intro x y hg aD;obtain⟨qE,iQ,jd,qi⟩:=KO.out _ hg;simp only[aE,ι,π,aj,ξ,aw,ar,aq];refine .inl ⟨by rfl,?_⟩;go_simp;exact⟨Ext.refl _,rfl⟩
        ·refine aH ?_;intro x y hg aD;simp only[aE,ι,π,aj,ξ,aw,ar,aq];refine .inl ⟨by rfl,?_⟩;go_simp;exact⟨Ext.refl _,rfl⟩
        ·refine aH ?_;intro x y hg aD;have d1:x 1=υ (ζ ⟨b0,1,ε⟩):=aD 1 (by decide);obtain⟨qE,iQ,jd,qi⟩:=KO.out _ hg;simp only[aE,ι,π,aj,ξ,aw,ar,aq];simp only[d1];refine .inl ⟨by rfl,?_⟩;go_simp;exact⟨Ext.refl _,rfl⟩
        ·refine aH ?_;intro x y hg aD;simp only[aE,ι,π,aj,ξ,aw,ar,aq];refine .inl ⟨by rfl,?_⟩;go_simp;exact⟨Ext.refl _,rfl⟩
        ·refine aH ?_;intro x y hg aD;have d2:x 2=γ (ζ ⟨bb,off,ε⟩) m k:=aD 2 (by decide);have d3:x 3=J (i:Int):=aD 3 (by decide);simp only[aE,ι,π,aj,ξ,aw,ar,aq];simp only[d2,d3];refine .inl ⟨by rfl,?_⟩;go_simp;exact⟨Ext.refl _,rfl⟩
        ·refine aH ?_;intro x y hg aD;have d4:x 4=υ (ζ ⟨bb,off+i*4,ε⟩):=aD 4 (by decide);simp only[aE,ι,π,aj,ξ,aw,ar,aq];simp only[d4];refine .inl ⟨by rfl,?_⟩;go_simp;exact⟨Ext.refl _,rfl⟩
        ·refine aH ?_;intro x y hg aD;have d5:x 5=υ (ζ ⟨bb,off+i*4,ε⟩):=aD 5 (by decide);obtain⟨qE,iQ,jd,qi⟩:=KO.out _ hg;simp only[aE,ι,π,aj,ξ,aw,ar,aq];simp only[d5];refine .inl ⟨by rfl,?_⟩;go_simp;exact⟨Ext.refl _,rfl⟩
        ·refine aH ?_;intro x y hg aD;have d6:x 6=φ #[J e1,J e2]:=aD 6 (by decide);simp only[aE,ι,π,aj,ξ,aw,ar,aq];simp only[d6];refine .inl ⟨by rfl,?_⟩;go_simp;exact⟨Ext.refl _,rfl⟩
        ·refine aH ?_;intro x y hg aD;have d0:x 0=φ #[γ A n c,γ (ζ ⟨bb,off,ε⟩) m k]:=aD 0 (by decide);have d7:x 7=φ #[J e1,J e2,J 1]:=aD 7 (by decide);simp only[aE,ι,π,aj,ξ,aw,ar,aq];simp only[d0,d7];refine .inl ⟨by rfl,cu (by go_simp;first|done|exact⟨rfl,rfl⟩|with_reducible rfl) ?_⟩
         refine(Ny.out y (Y6.out.dr.bl hg)).mono ?_
         rintro e w2 ⟨rfl,hb⟩;exact⟨_,rfl,hb,rfl⟩
        ·refine aH ?_;intro x y hg aD;have d8:x 8=Ξ #[φ #[J s1,J s2],Β sk]:=aD 8 (by decide);simp only[aE,ι,π,aj,ξ,aw,ar,aq];simp only[d8];refine .inl ⟨by rfl,?_⟩;go_simp;exact⟨Ext.refl _,rfl⟩
        ·refine aH ?_;intro x y hg aD;have d9:x 9=Ξ #[φ #[J s1,J s2],Β sk]:=aD 9 (by decide);simp only[aE,ι,π,aj,ξ,aw,ar,aq];simp only[d9];refine .inl ⟨by rfl,?_⟩;go_simp;exact⟨Ext.refl _,rfl⟩
        ·refine aH ?_;intro x y hg aD;have d9:x 9=Ξ #[φ #[J s1,J s2],Β sk]:=aD 9 (by decide);simp only[aE,ι,π,aj,ξ,aw,ar,aq];simp only[d9];refine .inl ⟨by rfl,?_⟩;go_simp;exact⟨Ext.refl _,rfl⟩
        ·refine aH ?_;intro x y hg aD;simp only[aE,ι,π,aj,ξ,aw,ar,aq];refine .inl ⟨by rfl,dZ (w':=y.alloc (δ #[J 0,J 0] 30)) (by go_simp;first|done|exact rfl|exact⟨rfl,rfl⟩) (az _ _) ?_⟩;exact⟨y.heap.size,rfl,hg.size,Whole.new_ _ _ [J 0,J 0]⟩
       ·intro x y hg aX;have d9:x 9=Ξ #[φ #[J s1,J s2],Β sk]:=aX 9 (by decide) (by decide);simp only[aE,ι,π,aj,ξ,aw,ar,aq];simp only[d9]
        refine⟨Β sk,?_,rfl⟩
        apply dD;rfl;intro w' aC;go_simp;(try with_reducible rfl)
       intro x y hg aX;have d10:x 10=φ #[J s1,J s2]:=aX 10 (by decide);have d11:x 11=Β sk:=aX 11 (by decide);obtain⟨gr,d12,Ea,OZ⟩:∃g,x 12=υ (ζ ⟨g,0,ε⟩)∧wa.heap.size≤g∧Whole y g 30 [J 0,J 0]:=aX 12 (by decide)
       simp only[aE,ι,π,aj,ξ,aw,ar,aq];simp only[d10,d11,d12];have o9:=qh OZ;have qH:=qh (ag (aN (Θ _ wa)) hg);have Je:Hid (wa.heap.size≤gr):=qh Ea;have HW0:Hid (wa.heap.size≤wa.heap.size):=qh (by omega);clear hg aX d10 d11 d12 Ea OZ;refine gI 13 ?_;intro w' aC
       refine⟨w'.setRow gr #[J s1,J s2],aR 30 (.tmp 9) (.tmp 62) rfl gr rfl [J s1,J s2] rfl 30 [J 0,J 0] (o9.out.bl aC) (by kernel_rfl) rfl (by simp[Τ]),bN (show wa.heap.size≤gr by have:=Je.out;have:=HW0.out;omega) _,?_⟩
       have qP:Hid (Whole (w'.setRow gr #[J s1,J s2]) gr 30 [J s1,J s2]):=qh (Whole.row (o9.out.bl aC) [J s1,J s2]);have kn:Hid (σ wa.heap.size wa (w'.setRow gr #[J s1,J s2])):=qh (bH (ag qH.out aC) Je.out _);obtain⟨V1,fD⟩:=aB (w'.setRow gr #[J s1,J s2]);rw[fD] at qP kn ⊢;clear aC fD o9 qH;refine aa 14 ?_;refine aF (by kernel_rfl) ?_ _;intro W8 cg;have KW:=qh (qP.out.bl cg);have rT:=qh (ag kn.out cg);clear cg qP kn HW0;have YB:=KW;have Wl:=qh (uP.out.bl rT.out);have Gi:=qh (ag lX.out rT.out);have Wz:=qh (HDi.out.bl Gi.out);obtain⟨c0,c1,-,-⟩:=jB.out _ Gi.out;have k0:=Wl.out.cell (i:=0) rfl;have k1:=Wl.out.cell (i:=1) rfl;clear KW rT KO Je uP lX Y6;go_wp2_with fail
       clear c0 c1 k0 k1
       refine(uB.out _ Wz.out).mono ?_
       rintro e w9 ⟨rfl,sZ⟩;have oC:=qh (ag Gi.out sZ);have HD9:=qh (Wz.out.bl sZ);have HW9:=qh (YB.out.bl sZ);obtain⟨c0,c1,-,-⟩:=jB.out _ oC.out;have k0:=HW9.out.cell (i:=0) rfl;have k1:=HW9.out.cell (i:=1) rfl;clear sZ Gi Wz YB Wl;go_wp2_with fail
       clear c0 c1 k0 k1
       refine(EF.out _ HD9.out).mono ?_
       rintro e Nw ⟨rfl,oD⟩;have wS:=qh (ag oC.out oD);have QO:=qh (bo HOi.out wS.out);have QM:=qh (ag Z1.out wS.out);clear oD oC HD9 HW9 wS jB HOi;have wN:((P.take i).foldl vI (dq P n j)).length=n:=by rw[xt,nE]
       have Py:(P.take (i+1)).foldl vI (dq P n j)=vI ((P.take i).foldl vI (dq P n j)) (pa,pb):=by
        rw[List.take_add_one,Hpi.out,List.foldl_append];rfl
       obtain⟨L,gL⟩:=aB ((P.take i).foldl vI (dq P n j));rw[gL] at wN Py QO;have Ri:L[pa]? =ζ (L.getD pa 0):=by rw[χ,θ (by omega)];rfl
       have Ti:L[pb]? =ζ (L.getD pb 0):=by rw[χ,θ (by omega)];rfl
       obtain⟨gq,junk,eq,fw,hw,hc,-,-⟩:=eZ (i:=0) (y:=0) (u:=J 0) nW QO.out Ri Ui (by omega) rfl;subst eq;obtain⟨gq2,SK,eq2,-,fT,Pu,-,-⟩:=eZ (i:=0) (y:=0) (u:=J 0) nW QO.out Ti hpb (by omega) rfl
       obtain rfl:gq=gq2:=by
        injection eq2 with eq2
        injection eq2
       simp only[Nat.mul_one,Jac] at hc Pu;obtain⟨va,gva⟩:=aB (L.getD pa 0);obtain⟨vb,gvb⟩:=aB (L.getD pb 0);replace hc:Nw.cell? ⟨gq,pa,ε⟩=ζ (J va):=by rw[hc,←gva];rfl
       replace Pu:Nw.cell? ⟨gq,pb,ε⟩=ζ (J vb):=by rw[Pu,←gvb];rfl
       obtain⟨mn,gmn⟩:=aB (min va vb);have HRl:Hid (vI L (pa,pb)=(L.set pa mn).set pb mn):=qh (by rw[vI,gva,gvb,gmn]);have t0:decide ((0:Int)≤(pa:Int))=true:=decide_eq_true (by omega);have t1:decide ((0:Int)≤(pb:Int))=true:=decide_eq_true (by omega);have Hc:=qh hc;have Hcb:=qh Pu;have NI:=qh fw;have Hll:=qh wN;have Hst:=qh Py;have Hxa:=qh Ri;clear gL Ri Ti fw hw fT eq2 hc Pu wN Py gva gvb;go_upto_region 17 with fail
       have fL:∀w',Kept aO Nw.drew w'→w'.cell? ⟨gq,pa,ε⟩=ζ (J va):=fun w' h=>h.nil_cell (show Nw.drew.cell? _=_ from Hc.out)
       have ld1:∀w',Kept aO Nw.drew w'→w'.cell? ⟨gq,pb,ε⟩=ζ (J vb):=fun w' h=>h.nil_cell (show Nw.drew.cell? _=_ from Hcb.out)
       refine ay (aO) (by kernel_rfl) ?_;refine aa 0 ?_;refine aa 1 ?_;refine aa 2 ?_;refine aa 3 ?_;refine aa 4 ?_;refine aa 5 ?_;refine aa 6 ?_;refine aa 7 ?_;refine aa 8 ?_;refine aa 9 ?_;refine aF (by kernel_rfl) ?_ _;intro W8 cg;have XW:=qh (bo QO.out (ag (aN (Θ _ _)) cg));have nV:=qh (ag (aN QM.out) cg);clear cg QO QM fL ld1 Hc Hcb;obtain⟨gq1,ake,eq1,aap,-,DO,Iv,ho⟩:=eZ (i:=0) (y:=mn) (u:=J mn) nW XW.out Hxa.out Ui (by omega) rfl
       obtain rfl:gq=gq1:=by
        injection eq1 with eq1
        injection eq1
       have hyb:(L.set pa mn)[pb]? =ζ ((L.set pa mn).getD pb 0):=by rw[χ,θ (by rw[List.length_set,Hll.out];exact hpb)];rfl
       obtain⟨gq3,aiP,eq3,-,du,hc3,VI,Xf⟩:=eZ (i:=0) (y:=mn) (u:=J mn) nW ho hyb hpb (by omega) rfl
       obtain rfl:gq=gq3:=by
        injection eq3 with eq3
        injection eq3
       simp only[Nat.mul_one,Jac] at DO Iv ho hc3 VI Xf;rw[←HRl.out,←Hst.out] at Xf;obtain⟨vc,gvc⟩:=aB ((L.set pa mn).getD pb 0);obtain⟨vd,gvd⟩:=aB (L.getD pa 0);replace DO:W8.cell? ⟨gq,pa,ε⟩=ζ (J vd):=by rw[DO,←gvd];rfl
       replace hc3:(W8.setCell ⟨gq,pa,ε⟩ (J mn)).cell? ⟨gq,pb,ε⟩=ζ (J vc):=by rw[hc3,←gvc];rfl
       have Ck:=qh Xf;have bB:=qh ((nV.out.setCell (p:=⟨gq,pa,ε⟩) aap (J mn)).setCell (p:=⟨gq,pb,ε⟩) aap (J mn));clear eq1 eq3 ho hyb du Xf gvc gvd XW nV Hll Hst Hxa HRl;go_wp2;go_roundw
       case rel=>exact⟨i+1,by omega,by go_num,bB,Ck⟩
       case measure=>simp[intOf]<;>omega
      ·obtain rfl:m=i:=by omega
       have hO:=HOi.out;rw[Ι (by rw[Wy.out];exact Δ _)] at hO;have QO:Hid (wi.ownsRow W0.heap.size 3 1 (γ XH n co) n (ah n1 (dq P n (j+1)))):=qh hO;clear hO HOi;go_wp2;go_roundw
       case rel=>exact⟨j+1,by omega,by go_num,Z1,QO⟩
       case measure=>simp[intOf]<;>omega
    ·obtain rfl:n=j:=by omega
     have hO:=R0.out;rw[HRn.out] at hO;have xr:=qh hO;clear hO R0;go_wp2;go_ret;exact⟨XH,co,rfl,aK xr.out,bw.out.trans (ER.out.mono bw.out.size)⟩
theorem FD (A:Option Κ) (n c:Nat) (Vs:List VC) (B:Option Κ) (m k:Nat) (Es:List EC) (w:ο) (h:bz w A n c Vs B m k Es) (hf:aG Vs Es):
 Ζ η 41 #[φ #[γ A n c,γ B m k]] w fun e w'=>e=.returned (J ((fg (dm Vs):Nat):Int))∧σ w.heap.size w w':=by
 obtain⟨P4,RF,FX⟩:=hf.small h;have oG:=qh (h.v.rlen aS (by decide));have HD:=qh h;have MW:=qh (IK Vs);obtain⟨L,gL⟩:=aB (dm Vs);have WZ:Hid (L.length=n):=qh (by rw[←gL,mx];exact oG.out);have XX:Hid (∀W,bz W A n c Vs B m k Es→Ζ η 61 #[φ #[γ A n c,γ B m k]] W fun e w'=>∃A2 c2,e=.returned (γ A2 n c2)∧bg w' w'.heap.size 1 A2 n c2 (ah n1 L)∧σ W.heap.size W w'):=qh (fun W h=>gL▸Ct A n c Vs B m k Es W h hf);have Cw:fg (dm Vs)=rk L n:=by rw[fg,mx,oG.out,gL];rfl
 rw[Cw];clear h hf FX gL Cw;go_enter Tryz.func41,Tryz.ntmps41;go_upto_region 1 with fail
 obtain⟨W0,b0,bO,bp,aQ,bw,mQ,lZ,oa⟩:=yj w 25 [γ A n c,γ B m k];rw[bO,bp];clear bO bp;have c0:=aQ.out.cell (i:=0) rfl;have c1:=aQ.out.cell (i:=1) rfl;go_wp2_with fail
 clear c0 c1
 refine(XX.out _ (HD.out.bl bw.out)).mono ?_
 rintro e w3 ⟨A2,c2,rfl,mg,bA⟩;have o8:=qh mg;have bB:=qh (ag bw.out bA);clear mg bA;go_wp2;go_loopw [4,5] (fun sn si wr=>∃j:Nat,j≤n∧si=J j∧sn=J ((rk L j:Nat):Int)∧Hid (σ w3.heap.size w3 wr)) (fun _ si _=>n - (intOf si).toNat)
 case atStart=>exact⟨0,by omega,rfl,rfl,qh (Θ _ _)⟩
 case round=>
  obtain⟨j,hj,rfl,rfl,rT⟩:=hrel
  by_cases nT:j<n
  ·obtain⟨x,hx⟩:∃x,L[j]? =ζ x:=⟨_,θ (by have:=WZ.out;omega)⟩
   obtain⟨bb,off,rfl,aY,a8⟩:=o8.out.place nW (by decide) (by omega);have q0:=a8 j x hx 0 _ rfl;simp only[Ν,Jac,Nat.mul_one] at q0;have l0:=(rT.out.cell (p:=⟨bb,off+j,ε⟩) aY).trans q0
   have hk:rk L (j+1)=rk L j+(if x==(j:Int) then 1 else 0):=by
    rw[Ag,cv,χ,hx];rfl
   have Xw:rk L j≤j:=by rw[rk];have:=List.countP_le_length (p:=cv L) (l:=List.range j);simpa using this
   obtain⟨t,gt⟩:=aB (rk L j);rw[gt] at hk Xw;rw[gt];obtain⟨b,gb⟩:=aB ((x==(j:Int)));rw[gb] at hk;have Hk:=qh hk;clear hx aY a8 q0 hk gt;cases b with
   |true=>
    go_wp2;go_roundw
    case rel=>exact⟨j+1,by omega,by go_num,by rw[Hk.out];go_num,rT⟩
    case measure=>simp[intOf]<;>omega
   |false=>
    go_wp2;go_roundw
    case rel=>exact⟨j+1,by omega,by go_num,by rw[Hk.out];rfl,rT⟩
    case measure=>simp[intOf]<;>omega
  ·obtain rfl:n=j:=by omega
   go_wp2;go_ret;exact⟨rfl,bB.out.trans (rT.out.mono bB.out.size)⟩
theorem CX (A:Option Κ) (n c:Nat) (Vs:List VC) (B:Option Κ) (m k:Nat) (Es:List EC) (w:ο) (h:bz w A n c Vs B m k Es) (hm:m≤1000000):
 Ζ η 63 #[φ #[γ A n c,γ B m k]] w fun e w'=>∃A' c',e=.returned (γ A' (2*m) c')∧w'.ownsRow w.heap.size 32 3 (γ A' (2*m) c') (2*m) (aA (qt Es))∧σ w.heap.size w w':=by
 have HE:=qh h.e;have LB:=qh (h.e.rlen bM (by decide));obtain⟨i0,Bz,qJ,ly,kK⟩:=aW ju;clear h;go_enter Tryz.func63,Tryz.ntmps63;go_upto_region 1 with fail
 obtain⟨W0,b0,bO,bp,aQ,bw,mQ,lZ,oa⟩:=yj w 25 [γ A n c,γ B m k];rw[bO,bp];clear bO bp;have aL:=qh (aQ.out.al (δ #[] 32));have nb:Hid (Ow w (b0+1) 32 3 (γ (ζ ⟨W0.heap.size,0,ε⟩) 0 0) 0 [] (W0.alloc (δ #[] 32))):=qh (Ow.new_ (cs:=#[]) bw.out (by have:=oa.out;omega) (by have:=aQ.out.lt;omega) (by unfold Jap;omega) rfl);go_wp2;clear aQ bw;obtain⟨W1,aV⟩:=aB (W0.alloc (δ #[] 32));obtain⟨g1,Ka⟩:=aB W0.heap.size;rw[aV] at aL nb ⊢;rw[Ka] at nb ⊢;clear aV Ka;go_loopw [3,4] (fun sl si wr=>∃(i:Nat) (A2:Option Κ) (c2:Nat),i≤m∧si=J i∧sl=γ A2 (2*i) c2∧Hid (Whole wr b0 25 [γ A n c,γ B m k])∧Hid (Ow w (b0+1) 32 3 (γ A2 (2*i) c2) (2*i) (aA (qt (Es.take i))) wr)) (fun _ si _=>m - (intOf si).toNat)
 case atStart=>exact⟨0,_,_,by omega,rfl,rfl,aL,nb⟩
 case round=>
  clear aL nb;obtain⟨i,A2,c2,hi,rfl,rfl,HX,HO⟩:=hrel;obtain⟨wo,cS⟩:=aB wr;rw[cS] at HX HO ⊢;clear cS;have c1:=HX.out.cell (i:=1) rfl
  by_cases him:i<m
  ·obtain⟨x,hx⟩:∃x,Es[i]? =ζ x:=⟨_,θ (by have:=LB.out;omega)⟩
   have Rm:=OF Es i x hx;obtain⟨bb,off,rfl,aY,a8⟩:=HE.out.place bM (by decide) (by omega);have HB:=qh HO.out.below;have bC:=HB.out;have q0:=a8 i _ hx 0 _ rfl;have q1:=a8 i _ hx 1 _ rfl;have q2:=a8 i _ hx 2 _ rfl;have q3:=a8 i _ hx 3 _ rfl;simp only[Ν,Jac] at q0 q1 q2 q3;have l0:=(bC.cell (p:=⟨bb,off+i*4,ε⟩) aY).trans q0;have l1:=(bC.cell (p:=⟨bb,off+i*4+1,ε⟩) aY).trans q1;have l2:=(bC.cell (p:=⟨bb,off+i*4+2,ε⟩) aY).trans q2;have l3:=(bC.cell (p:=⟨bb,off+i*4+3,ε⟩) aY).trans q3;clear bC q0 q1 q2 q3;obtain⟨⟨i1,i2⟩,lb,at_⟩:=x;replace Rm:qt (Es.take (i+1))=qt (Es.take i)++[(i1,i2,0),(i1,i2,1)]:=Rm;have q0:wo.cell? ⟨bb,off+i*4,ε⟩=ζ (J i1):=l0;have q1:wo.cell? ⟨bb,off+i*4+1,ε⟩=ζ (J i2):=l1;have Qs:Hid (bb<b0+1):=qh (by have:=oa.out;omega);have HOd:=qh (HO.out.up ((Θ _ _).drew));have HXd:=qh HX.out.dr;have HDn:=qh Rm;clear l0 l1 l2 l3 hx aY a8 Rm;go_upto_region 5 with fail
   have ld1:∀w',Kept (cw (b0+1)) wo.drew w'→w'.cell? ⟨b0,1,ε⟩=ζ (γ (ζ ⟨bb,off,ε⟩) m k):=fun w' h=>h.from_cell (Nat.lt_succ_self _) (HXd.out.cell (i:=1) rfl)
   have ka:∀w',Kept (cw (b0+1)) wo.drew w'→w'.cell? ⟨bb,off+i*4,ε⟩=ζ (J i1):=fun w' h=>h.from_cell Qs.out (show wo.drew.cell? _=_ from q0)
   have pV:∀w',Kept (cw (b0+1)) wo.drew w'→w'.cell? ⟨bb,off+i*4+1,ε⟩=ζ (J i2):=fun w' h=>h.from_cell Qs.out (show wo.drew.cell? _=_ from q1)
   clear q0 q1 c1 HX HO HB;refine ay (cw (b0+1)) (by kernel_rfl) ?_;refine aa 0 ?_;refine aa 1 ?_;refine aa 2 ?_;refine aa 3 ?_;refine aa 4 ?_;refine aa 5 ?_;refine aa 6 ?_;refine aa 7 ?_;refine aa 8 ?_;refine aa 9 ?_;refine aa 10 ?_;refine aa 11 ?_;refine aa 12 ?_;refine aa 13 ?_;refine aa 14 ?_;refine yq 15 ?_;intro w' aC
   refine⟨γ (ζ ⟨w'.heap.size,0,ε⟩) 2 2,w'.alloc (δ #[J i1,J i2,J 0,J i1,J i2,J 1] 32),gW 57 32 2 #[(0,.tmp 20),(1,.tmp 27)] (by rfl) Tryz.underlying57 _ (by kernel_rfl),Kept.of_below (az _ _),?_⟩
   have HL:Hid (bg (w'.alloc (δ #[J i1,J i2,J 0,J i1,J i2,J 1] 32)) (w'.alloc (δ #[J i1,J i2,J 0,J i1,J i2,J 1] 32)).heap.size 3 (ζ ⟨w'.heap.size,0,ε⟩) 2 2 (aA [(i1,i2,0),(i1,i2,1)])):=qh (bg.of_whole (Whole.new_ _ _ _) rfl);have T6:=qh (HOd.out.up (aI aC (δ #[J i1,J i2,J 0,J i1,J i2,J 1] 32)));have HXe:=qh ((HXd.out.bl aC).al (δ #[J i1,J i2,J 0,J i1,J i2,J 1] 32));obtain⟨W3,kh⟩:=aB (w'.alloc (δ #[J i1,J i2,J 0,J i1,J i2,J 1] 32));obtain⟨g3,Sz⟩:=aB w'.heap.size;rw[kh] at HL T6 HXe ⊢;rw[Sz] at HL ⊢;clear aC kh Sz HOd HXd;simp only[ξ,aw,ar,aq];refine yq 16 ?_;intro w' aC;obtain⟨v8,bW,bV,VX,D9⟩:=Ow.app (P:=η) 57 57 32 i0 _ 3 24 (b0+1) Tryz.underlying57 Bz qJ ly kK rfl (by decide) _ (2*i) _ (T6.out.up aC) _ _ 2 _ _ (HL.out.bl aC) (by simp[aA,Τ]) (by unfold Jap;omega) (by omega);obtain⟨A8,c8,rfl,-⟩:=VX.rds
   refine⟨_,bW,dt (by rfl) (by rfl) (by rfl) bV,Kept.of_from D9,?_⟩
   have xr:Hid (Ow w (b0+1) 32 3 (γ A8 (2*i+2) c8) (2*i+2) (aA (qt (Es.take (i+1)))) bW):=qh (by
    rw[HDn.out,fM];exact VX)
   have xK:=qh ((Kept.of_from D9).whole (HXe.out.bl aC) (by unfold cw;omega));obtain⟨W4,uQ⟩:=aB bW;rw[uQ] at xr xK ⊢;clear aC bV D9 VX uQ HL T6 HXe;simp only[ξ,aw,ar,aq];refine aa 17 ?_;refine aF (by kernel_rfl) ?_ _;intro W8 cg;have agy:=qh (xr.out.up cg);have mK:=qh (xK.out.bl cg);clear cg xr xK;go_wp2;go_roundw
   case rel=>exact⟨i+1,A8,c8,by omega,by go_num,by rw[show 2*(i+1)=2*i+2 by omega],mK,by rw[show 2*(i+1)=2*i+2 by omega];exact agy⟩
   case measure=>simp[intOf];omega
  ·obtain rfl:m=i:=by omega
   have hO:=HO.out;rw[Ι (by have:=LB.out;omega)] at hO;have iN:=qh hO;clear hO HO HX;go_wp2;go_ret;exact⟨A2,c2,rfl,mi iN.out.own (by have:=oa.out;omega),iN.out.below⟩
theorem Oh (x1 x2 x3:Int) (w:ο):Ζ η 32 #[φ #[J x1,J x2,J x3]] w fun e w'=>e=.returned (φ #[J (othW (x1,x2,x3)).1,J (othW (x1,x2,x3)).2.1,J (othW (x1,x2,x3)).2.2])∧σ w.heap.size w w':=by
 go_enter Tryz.func32,Tryz.ntmps32;go_wp2;exact bodyPost_ret (v:=φ #[J x1,J x2,J (Jaw.wrap (1 - x3))]) (by simp[results,Tryz.results32,go_sem,IntWalk.i64_left]) rfl ⟨rfl,cr _ _ _⟩
theorem Ge (A:Option Κ) (n c:Nat) (Vs:List VC) (B:Option Κ) (m k:Nat) (Es:List EC) (x1 x2 x3:Int) (w:ο) (h:bz w A n c Vs B m k Es) (hf:aG Vs Es):
 Ζ η 86 #[φ #[γ A n c,γ B m k],φ #[J x1,J x2,J x3]] w (tk w (iO Vs (x1,x2,x3)) (decide ((x1,x2,x3)∈ao Vs))):=by
 have kH:=qh h;have hr:∀x∈Vs,x.2.1.2.1≤1000000:=fun x hx=>by have:=(hf.small h).2.2 x hx;omega
 have hn:n≤1000000:=by have:=(hf.small h).1;omega
 obtain⟨p1,p2,p3⟩:=Nt hf (x1,x2,x3);have NO:=qh (fun W (h:bz W A n c Vs B m k Es)=>Bl A n c Vs B m k Es x1 x2 x3 W h (by omega) (fun x hx=>by have:=hr x hx;omega));obtain⟨⟨⟨a1,a2⟩,ok⟩,ga⟩:∃z,lE Vs (x1,x2,x3)=z:=⟨_,rfl⟩
 rw[ga] at NO p1 p2 p3;have q1:=fun W (h:bz W A n c Vs B m k Es)=>mL h hr (a1,a2)
 obtain⟨⟨⟨⟨i1,i2⟩,⟨rA,rn,rc,rL⟩,lb,at_⟩,okv⟩,gv⟩:∃z,eP Vs (a1,a2)=z:=⟨_,rfl⟩
 have q2:=fun W (h:bz W A n c Vs B m k Es)=>Vr A n c Vs B m k Es a1 a2 W (bz.v h) (by omega)
 rw[show eP Vs ((a1,a2),ok).1=_ from gv] at p1 p2;simp only[gv] at q1;replace p1:(x1,x2,x3)∈rL↔(x1,x2,x3)∈ao Vs:=p1;replace p2:rR rL (x1,x2,x3)=iO Vs (x1,x2,x3):=p2;replace p3:ok=decide ((x1,x2,x3)∈ao Vs):=p3;have kc:∀W,bz W A n c Vs B m k Es→bg W W.heap.size 3 rA rn rc (aA rL)∧rn≤1000000:=fun W h=>⟨(q1 W h).1.2,(q1 W h).2⟩
 have HRn:=qh kc
 have hNx:∀W A' c',bg W W.heap.size 3 A' rn c' (aA rL)→Ζ η 108 #[γ A' rn c',φ #[J x1,J x2,J x3]] W (tk W (iO Vs (x1,x2,x3)) (decide ((x1,x2,x3)∈ao Vs))):=fun W A' c' h'=>by
  have:=Ex A' rn c' rL (x1,x2,x3) W h' (kc _ h).2
  rw[p2,decide_eq_decide.2 p1] at this;exact this
 have eh:=qh hNx;have P3:=qh p3
 have hV:∀W,bz W A n c Vs B m k Es→Ζ η 27 #[φ #[γ A n c,γ B m k],φ #[J a1,J a2]] W fun e w'=>∃A' c',e=.returned (Ξ #[φ #[J i1,J i2,γ A' rn c',μ lb,J at_],Β okv])∧bg w' w'.heap.size 3 A' rn c' (aA rL)∧σ W.heap.size W w':=fun W h=>by
  have h1:=q2 W h;rw[gv] at h1;refine Calls.mono h1 ?_;rintro e w' ⟨rfl,hb⟩;exact⟨rA,rc,rfl,(kc _ (h.bl hb)).1,hb⟩
 have HV:=qh hV
 have hyz:ok=ρ→iO Vs (x1,x2,x3)=(0,0,0):=fun e=>by
  have hx:(x1,x2,x3)∉ao Vs:=of_decide_eq_false (p3.symm.trans e);rw[iO,vf hf.once hx];rfl
 have abm:=qh hyz;clear hyz q1 q2 p1 p2 p3 ga gv kc hNx hV h hf hr hn;obtain⟨⟨y1,y2,y3⟩,gy⟩:∃z,iO Vs (x1,x2,x3)=z:=⟨_,rfl⟩
 obtain⟨oy,RL⟩:=aB (decide ((x1,x2,x3)∈ao Vs));rw[gy,RL] at eh;rw[gy] at abm;rw[RL] at P3;rw[gy,RL];clear gy RL;go_enter Tryz.func86,Tryz.ntmps86;have rD:((((w.alloc (δ #[γ A n c,γ B m k] 25)).alloc (δ #[J x1,J x2,J x3] 32)).alloc (δ #[J 0,J 0,J 0] 32))).cell? ⟨w.heap.size,0,ε⟩=ζ (γ A n c):=(((show Whole (w.alloc (δ #[γ A n c,γ B m k] 25)) (w.heap.size) (25) ([γ A n c,γ B m k]) from Whole.new2 (by first|rfl|simp)).al (δ #[J x1,J x2,J x3] 32)).al (δ #[J 0,J 0,J 0] 32)).cell (i:=0) rfl;have sW:((((w.alloc (δ #[γ A n c,γ B m k] 25)).alloc (δ #[J x1,J x2,J x3] 32)).alloc (δ #[J 0,J 0,J 0] 32))).cell? ⟨w.heap.size,1,ε⟩=ζ (γ B m k):=(((show Whole (w.alloc (δ #[γ A n c,γ B m k] 25)) (w.heap.size) (25) ([γ A n c,γ B m k]) from Whole.new2 (by first|rfl|simp)).al (δ #[J x1,J x2,J x3] 32)).al (δ #[J 0,J 0,J 0] 32)).cell (i:=1) rfl;have lw3:((((w.alloc (δ #[γ A n c,γ B m k] 25)).alloc (δ #[J x1,J x2,J x3] 32)).alloc (δ #[J 0,J 0,J 0] 32))).cell? ⟨w.heap.size+1,0,ε⟩=ζ (J x1):=((show Whole ((w.alloc (δ #[γ A n c,γ B m k] 25)).alloc (δ #[J x1,J x2,J x3] 32)) ((w.heap.size+1)) (32) ([J x1,J x2,J x3]) from Whole.new2 (by first|rfl|simp)).al (δ #[J 0,J 0,J 0] 32)).cell (i:=0) rfl
 have lw4:((((w.alloc (δ #[γ A n c,γ B m k] 25)).alloc (δ #[J x1,J x2,J x3] 32)).alloc (δ #[J 0,J 0,J 0] 32))).cell? ⟨w.heap.size+1,1,ε⟩=ζ (J x2):=((show Whole ((w.alloc (δ #[γ A n c,γ B m k] 25)).alloc (δ #[J x1,J x2,J x3] 32)) ((w.heap.size+1)) (32) ([J x1,J x2,J x3]) from Whole.new2 (by first|rfl|simp)).al (δ #[J 0,J 0,J 0] 32)).cell (i:=1) rfl;have Up:((((w.alloc (δ #[γ A n c,γ B m k] 25)).alloc (δ #[J x1,J x2,J x3] 32)).alloc (δ #[J 0,J 0,J 0] 32))).cell? ⟨w.heap.size+1,2,ε⟩=ζ (J x3):=((show Whole ((w.alloc (δ #[γ A n c,γ B m k] 25)).alloc (δ #[J x1,J x2,J x3] 32)) ((w.heap.size+1)) (32) ([J x1,J x2,J x3]) from Whole.new2 (by first|rfl|simp)).al (δ #[J 0,J 0,J 0] 32)).cell (i:=2) rfl;go_wp2_with fail
 clear rD sW lw3 lw4 Up
 refine(NO.out _ (((kH.out.al (δ #[γ A n c,γ B m k] 25)).al (δ #[J x1,J x2,J x3] 32)).al (δ #[J 0,J 0,J 0] 32))).mono ?_
 rintro e w6 ⟨rfl,oE⟩;have zZ:=qh ((((kH.out.al (δ #[γ A n c,γ B m k] 25)).al (δ #[J x1,J x2,J x3] 32)).al (δ #[J 0,J 0,J 0] 32)).bl oE);have Bd:=qh ((((show Whole (w.alloc (δ #[γ A n c,γ B m k] 25)) (w.heap.size) (25) ([γ A n c,γ B m k]) from Whole.new2 (by first|rfl|simp)).al (δ #[J x1,J x2,J x3] 32)).al (δ #[J 0,J 0,J 0] 32)).bl oE);have YA:=qh (((show Whole ((w.alloc (δ #[γ A n c,γ B m k] 25)).alloc (δ #[J x1,J x2,J x3] 32)) ((w.heap.size+1)) (32) ([J x1,J x2,J x3]) from Whole.new2 (by first|rfl|simp)).al (δ #[J 0,J 0,J 0] 32)).bl oE);have Bi:=qh ((show Whole (((w.alloc (δ #[γ A n c,γ B m k] 25)).alloc (δ #[J x1,J x2,J x3] 32)).alloc (δ #[J 0,J 0,J 0] 32)) ((w.heap.size+1+1)) (32) ([J 0,J 0,J 0]) from Whole.new2 (by first|rfl|simp)).bl oE);have rS:=qh (ag (aI (aI (aI (Θ _ w) (δ #[γ A n c,γ B m k] 25)) (δ #[J x1,J x2,J x3] 32)) (δ #[J 0,J 0,J 0] 32)) oE);clear kH;clear oE;have Qt:Hid (w.heap.size≤w.heap.size):=qh (by omega);have TP:Hid (w.heap.size≤(w.heap.size+1)):=qh (by omega);have Qj:Hid (w.heap.size≠(w.heap.size+1)):=qh (by omega)
 have PI:Hid (w.heap.size≤(w.heap.size+1+1)):=qh (by omega);have QN:Hid (w.heap.size≠(w.heap.size+1+1)):=qh (by omega);have VY:Hid ((w.heap.size+1)≠(w.heap.size+1+1)):=qh (by omega);cases ok with
 |false=>
  obtain rfl:ρ=oy:=P3.out;have hyz:Hid ((y1,y2,y3)=((0,0,0):D)):=qh (abm.out rfl)
  obtain⟨hy1,SN,hy3⟩:y1=0∧y2=0∧y3=0:=by
   have:=hyz.out
   simp only[Jba] at this;exact this
  subst hy1 SN hy3;have z0:=(Bi.out.al (δ #[J a1,J a2] 30)).cell (i:=0) rfl;have z1:=(Bi.out.al (δ #[J a1,J a2] 30)).cell (i:=1) rfl;have z2:=(Bi.out.al (δ #[J a1,J a2] 30)).cell (i:=2) rfl;have f0:=(Bi.out.al (δ #[J a1,J a2] 30)).free 0;have f1:=(Bi.out.al (δ #[J a1,J a2] 30)).free 1;have f2:=(Bi.out.al (δ #[J a1,J a2] 30)).free 2;have HY:=qh ((((Bi.out.al (δ #[J a1,J a2] 30)).set_ 0 (J 0)).set_ 1 (J 0)).set_ 2 (J 0));have kn:=qh ((((aI rS.out (δ #[J a1,J a2] 30)).setCell (p:=⟨w.heap.size+1+1,0,ε⟩) (show w.heap.size≤w.heap.size+1+1 by omega) (J 0)).setCell (p:=⟨w.heap.size+1+1,1,ε⟩) (show w.heap.size≤w.heap.size+1+1 by omega) (J 0)).setCell (p:=⟨w.heap.size+1+1,2,ε⟩) (show w.heap.size≤w.heap.size+1+1 by omega) (J 0));go_wp2;exact bS rfl (w.heap.size+1+1) rfl rfl HY.out Tryz.underlying32 rfl (by kernel_rfl) rfl ⟨rfl,kn.out⟩
 |true=>
 skip
 have afk:((w6.alloc (δ #[J a1,J a2] 30))).cell? ⟨w.heap.size,0,ε⟩=ζ (γ A n c):=(Bd.out.al (δ #[J a1,J a2] 30)).cell (i:=0) rfl;have adU:((w6.alloc (δ #[J a1,J a2] 30))).cell? ⟨w.heap.size,1,ε⟩=ζ (γ B m k):=(Bd.out.al (δ #[J a1,J a2] 30)).cell (i:=1) rfl;have adC:((w6.alloc (δ #[J a1,J a2] 30))).cell? ⟨w6.heap.size,0,ε⟩=ζ (J a1):=(show Whole (w6.alloc (δ #[J a1,J a2] 30)) (w6.heap.size) (30) ([J a1,J a2]) from Whole.new2 (by first|rfl|simp)).cell (i:=0) rfl;have afh:((w6.alloc (δ #[J a1,J a2] 30))).cell? ⟨w6.heap.size,1,ε⟩=ζ (J a2):=(show Whole (w6.alloc (δ #[J a1,J a2] 30)) (w6.heap.size) (30) ([J a1,J a2]) from Whole.new2 (by first|rfl|simp)).cell (i:=1) rfl;go_wp2_with fail
 clear afk adU adC afh
 refine(HV.out _ (zZ.out.al (δ #[J a1,J a2] 30))).mono ?_
 rintro e Qr ⟨A1,c1,rfl,hR,FT⟩;have SV:=qh ((zZ.out.al (δ #[J a1,J a2] 30)).bl FT);have Tj:=qh ((Bd.out.al (δ #[J a1,J a2] 30)).bl FT);have Mw:=qh ((YA.out.al (δ #[J a1,J a2] 30)).bl FT);have aa1:=qh ((Bi.out.al (δ #[J a1,J a2] 30)).bl FT);have aaY:=qh ((show Whole (w6.alloc (δ #[J a1,J a2] 30)) (w6.heap.size) (30) ([J a1,J a2]) from Whole.new2 (by first|rfl|simp)).bl FT);have LQ:=qh (ag (aI rS.out (δ #[J a1,J a2] 30)) FT);clear zZ Bd YA Bi rS;clear FT;have OI:=qh hR;clear hR;have AN:((Qr.alloc (δ #[J i1,J i2,γ A1 rn c1,μ lb,J at_] 59))).cell? ⟨w.heap.size+1,0,ε⟩=ζ (J x1):=(Mw.out.al (δ #[J i1,J i2,γ A1 rn c1,μ lb,J at_] 59)).cell (i:=0) rfl;have ad1:((Qr.alloc (δ #[J i1,J i2,γ A1 rn c1,μ lb,J at_] 59))).cell? ⟨w.heap.size+1,1,ε⟩=ζ (J x2):=(Mw.out.al (δ #[J i1,J i2,γ A1 rn c1,μ lb,J at_] 59)).cell (i:=1) rfl;have aeq:((Qr.alloc (δ #[J i1,J i2,γ A1 rn c1,μ lb,J at_] 59))).cell? ⟨w.heap.size+1,2,ε⟩=ζ (J x3):=(Mw.out.al (δ #[J i1,J i2,γ A1 rn c1,μ lb,J at_] 59)).cell (i:=2) rfl;have agM:((Qr.alloc (δ #[J i1,J i2,γ A1 rn c1,μ lb,J at_] 59))).cell? ⟨Qr.heap.size,2,ε⟩=ζ (γ A1 rn c1):=(show Whole (Qr.alloc (δ #[J i1,J i2,γ A1 rn c1,μ lb,J at_] 59)) (Qr.heap.size) (59) ([J i1,J i2,γ A1 rn c1,μ lb,J at_]) from Whole.new2 (by first|rfl|simp)).cell (i:=2) rfl
 go_wp2_with fail
 clear AN ad1 aeq agM
 refine(eh.out _ _ _ (OI.out.al (δ #[J i1,J i2,γ A1 rn c1,μ lb,J at_] 59))).mono ?_
 rintro e w21 ⟨rfl,AV⟩;have ajG:=qh ((SV.out.al (δ #[J i1,J i2,γ A1 rn c1,μ lb,J at_] 59)).bl AV);have ai3:=qh ((Tj.out.al (δ #[J i1,J i2,γ A1 rn c1,μ lb,J at_] 59)).bl AV);have aoc:=qh ((Mw.out.al (δ #[J i1,J i2,γ A1 rn c1,μ lb,J at_] 59)).bl AV);have Fw:=qh ((aa1.out.al (δ #[J i1,J i2,γ A1 rn c1,μ lb,J at_] 59)).bl AV);have amL:=qh ((aaY.out.al (δ #[J i1,J i2,γ A1 rn c1,μ lb,J at_] 59)).bl AV);have aiI:=qh ((OI.out.al (δ #[J i1,J i2,γ A1 rn c1,μ lb,J at_] 59)).bl AV);have anF:=qh ((show Whole (Qr.alloc (δ #[J i1,J i2,γ A1 rn c1,μ lb,J at_] 59)) (Qr.heap.size) (59) ([J i1,J i2,γ A1 rn c1,μ lb,J at_]) from Whole.new2 (by first|rfl|simp)).bl AV);have VJ:=qh (ag (aI LQ.out (δ #[J i1,J i2,γ A1 rn c1,μ lb,J at_] 59)) AV);clear SV Tj Mw aa1 aaY OI LQ;clear AV;have z0:=Fw.out.cell (i:=0) rfl;have z1:=Fw.out.cell (i:=1) rfl;have z2:=Fw.out.cell (i:=2) rfl;have f0:=Fw.out.free 0;have f1:=Fw.out.free 1;have f2:=Fw.out.free 2;have HY:=qh (((Fw.out.set_ 0 (J y1)).set_ 1 (J y2)).set_ 2 (J y3));have kn:=qh (((VJ.out.setCell (p:=⟨w.heap.size+1+1,0,ε⟩) (show w.heap.size≤w.heap.size+1+1 by omega) (J y1)).setCell (p:=⟨w.heap.size+1+1,1,ε⟩) (show w.heap.size≤w.heap.size+1+1 by omega) (J y2)).setCell (p:=⟨w.heap.size+1+1,2,ε⟩) (show w.heap.size≤w.heap.size+1+1 by omega) (J y3))
 go_wp2;exact bS rfl (w.heap.size+1+1) rfl rfl HY.out Tryz.underlying32 rfl (by kernel_rfl) rfl ⟨rfl,kn.out⟩
theorem B1 (A:Option Κ) (n c:Nat) (Vs:List VC) (B:Option Κ) (m k:Nat) (Es:List EC) (x1 x2 x3:Int) (w:ο) (h:bz w A n c Vs B m k Es) (hf:aG Vs Es) (hb:-9223372036854775808≤x3∧x3≤9223372036854775807):
 Ζ η 59 #[φ #[γ A n c,γ B m k],φ #[J x1,J x2,J x3]] w (tk w (if (x1,x2,x3)∈ao Vs then fQ Vs (x1,x2,x3) else(0,0,0)) (decide ((x1,x2,x3)∈ao Vs))):=by
 have kH:=qh h;obtain⟨w1_,w2_⟩:=hf.othW (d:=(x1,x2,x3)) hb;have HOt:=qh (Oh x1 x2 x3);have Pg:=fun W (h:bz W A n c Vs B m k Es)=>Ge A n c Vs B m k Es (othW (x1,x2,x3)).1 (othW (x1,x2,x3)).2.1 (othW (x1,x2,x3)).2.2 W h hf
 have hv:iO Vs (othW (x1,x2,x3))=if (x1,x2,x3)∈ao Vs then fQ Vs (x1,x2,x3) else(0,0,0):=by
  by_cases q:(x1,x2,x3)∈ao Vs
  ·rw[if_pos q,w2_ q];rfl
  ·rw[if_neg q,iO,vf hf.once (fun h=>q (w1_.1 h))];rfl
 have hd:decide (othW (x1,x2,x3)∈ao Vs)=decide ((x1,x2,x3)∈ao Vs):=decide_eq_decide.2 w1_
 replace Pg:∀W,bz W A n c Vs B m k Es→Ζ η 86 #[φ #[γ A n c,γ B m k],φ #[J (othW (x1,x2,x3)).1,J (othW (x1,x2,x3)).2.1,J (othW (x1,x2,x3)).2.2]] W (tk W (if (x1,x2,x3)∈ao Vs then fQ Vs (x1,x2,x3) else(0,0,0)) (decide ((x1,x2,x3)∈ao Vs))):=fun W h=>by
  rw[←hv,←hd];exact Pg W h
 have hr:∀x∈Vs,x.2.1.2.1≤1000000:=fun x hx=>by have:=(hf.small h).2.2 x hx;omega
 have hn:n≤1000000:=by have:=(hf.small h).1;omega
 have NO:=fun W (h:bz W A n c Vs B m k Es)=>Bl A n c Vs B m k Es x1 x2 x3 W h (by omega) (fun x hx=>by have:=hr x hx;omega)
 obtain⟨⟨⟨a1,a2⟩,ok⟩,ga⟩:∃z,lE Vs (x1,x2,x3)=z:=⟨_,rfl⟩
 have P3:ok=decide ((x1,x2,x3)∈ao Vs):=by
  have:=(Nt hf (x1,x2,x3)).2.2
  rwa [ga] at this
 rw[ga] at NO;replace NO:=qh NO;clear ga hr hn;have mf:Hid (decide ((x1,x2,x3)∈ao Vs)=ρ→(if (x1,x2,x3)∈ao Vs then fQ Vs (x1,x2,x3) else(0,0,0))=((0,0,0):D)):=qh (fun e=>if_neg (of_decide_eq_false e));clear w1_ w2_ hv hd h hf hb;obtain⟨⟨y1,y2,y3⟩,gy⟩:∃z,(if (x1,x2,x3)∈ao Vs then fQ Vs (x1,x2,x3) else(0,0,0))=z:=⟨_,rfl⟩
 obtain⟨oy,RL⟩:=aB (decide ((x1,x2,x3)∈ao Vs));rw[gy,RL] at Pg mf;rw[RL] at P3;replace P3:=qh P3;rw[gy,RL];clear gy RL;obtain⟨⟨u1,u2,u3⟩,gu⟩:∃z,othW (x1,x2,x3)=z:=⟨_,rfl⟩
 rw[gu] at HOt Pg;clear gu;replace Pg:=qh Pg;go_enter Tryz.func59,Tryz.ntmps59;have rD:((((w.alloc (δ #[γ A n c,γ B m k] 25)).alloc (δ #[J x1,J x2,J x3] 32)).alloc (δ #[J 0,J 0,J 0] 32))).cell? ⟨w.heap.size,0,ε⟩=ζ (γ A n c):=(((show Whole (w.alloc (δ #[γ A n c,γ B m k] 25)) (w.heap.size) (25) ([γ A n c,γ B m k]) from Whole.new2 (by first|rfl|simp)).al (δ #[J x1,J x2,J x3] 32)).al (δ #[J 0,J 0,J 0] 32)).cell (i:=0) rfl;have sW:((((w.alloc (δ #[γ A n c,γ B m k] 25)).alloc (δ #[J x1,J x2,J x3] 32)).alloc (δ #[J 0,J 0,J 0] 32))).cell? ⟨w.heap.size,1,ε⟩=ζ (γ B m k):=(((show Whole (w.alloc (δ #[γ A n c,γ B m k] 25)) (w.heap.size) (25) ([γ A n c,γ B m k]) from Whole.new2 (by first|rfl|simp)).al (δ #[J x1,J x2,J x3] 32)).al (δ #[J 0,J 0,J 0] 32)).cell (i:=1) rfl;have lw3:((((w.alloc (δ #[γ A n c,γ B m k] 25)).alloc (δ #[J x1,J x2,J x3] 32)).alloc (δ #[J 0,J 0,J 0] 32))).cell? ⟨w.heap.size+1,0,ε⟩=ζ (J x1):=((show Whole ((w.alloc (δ #[γ A n c,γ B m k] 25)).alloc (δ #[J x1,J x2,J x3] 32)) ((w.heap.size+1)) (32) ([J x1,J x2,J x3]) from Whole.new2 (by first|rfl|simp)).al (δ #[J 0,J 0,J 0] 32)).cell (i:=0) rfl
 have lw4:((((w.alloc (δ #[γ A n c,γ B m k] 25)).alloc (δ #[J x1,J x2,J x3] 32)).alloc (δ #[J 0,J 0,J 0] 32))).cell? ⟨w.heap.size+1,1,ε⟩=ζ (J x2):=((show Whole ((w.alloc (δ #[γ A n c,γ B m k] 25)).alloc (δ #[J x1,J x2,J x3] 32)) ((w.heap.size+1)) (32) ([J x1,J x2,J x3]) from Whole.new2 (by first|rfl|simp)).al (δ #[J 0,J 0,J 0] 32)).cell (i:=1) rfl;have Up:((((w.alloc (δ #[γ A n c,γ B m k] 25)).alloc (δ #[J x1,J x2,J x3] 32)).alloc (δ #[J 0,J 0,J 0] 32))).cell? ⟨w.heap.size+1,2,ε⟩=ζ (J x3):=((show Whole ((w.alloc (δ #[γ A n c,γ B m k] 25)).alloc (δ #[J x1,J x2,J x3] 32)) ((w.heap.size+1)) (32) ([J x1,J x2,J x3]) from Whole.new2 (by first|rfl|simp)).al (δ #[J 0,J 0,J 0] 32)).cell (i:=2) rfl;go_wp2_with fail
 clear rD sW lw3 lw4 Up
 refine(NO.out _ (((kH.out.al (δ #[γ A n c,γ B m k] 25)).al (δ #[J x1,J x2,J x3] 32)).al (δ #[J 0,J 0,J 0] 32))).mono ?_
 rintro e w6 ⟨rfl,oE⟩;have zZ:=qh ((((kH.out.al (δ #[γ A n c,γ B m k] 25)).al (δ #[J x1,J x2,J x3] 32)).al (δ #[J 0,J 0,J 0] 32)).bl oE);have Bd:=qh ((((show Whole (w.alloc (δ #[γ A n c,γ B m k] 25)) (w.heap.size) (25) ([γ A n c,γ B m k]) from Whole.new2 (by first|rfl|simp)).al (δ #[J x1,J x2,J x3] 32)).al (δ #[J 0,J 0,J 0] 32)).bl oE);have YA:=qh (((show Whole ((w.alloc (δ #[γ A n c,γ B m k] 25)).alloc (δ #[J x1,J x2,J x3] 32)) ((w.heap.size+1)) (32) ([J x1,J x2,J x3]) from Whole.new2 (by first|rfl|simp)).al (δ #[J 0,J 0,J 0] 32)).bl oE);have Bi:=qh ((show Whole (((w.alloc (δ #[γ A n c,γ B m k] 25)).alloc (δ #[J x1,J x2,J x3] 32)).alloc (δ #[J 0,J 0,J 0] 32)) ((w.heap.size+1+1)) (32) ([J 0,J 0,J 0]) from Whole.new2 (by first|rfl|simp)).bl oE);have rS:=qh (ag (aI (aI (aI (Θ _ w) (δ #[γ A n c,γ B m k] 25)) (δ #[J x1,J x2,J x3] 32)) (δ #[J 0,J 0,J 0] 32)) oE);clear kH;clear oE;have Qt:Hid (w.heap.size≤w.heap.size):=qh (by omega);have TP:Hid (w.heap.size≤(w.heap.size+1)):=qh (by omega);have Qj:Hid (w.heap.size≠(w.heap.size+1)):=qh (by omega)
 have PI:Hid (w.heap.size≤(w.heap.size+1+1)):=qh (by omega);have QN:Hid (w.heap.size≠(w.heap.size+1+1)):=qh (by omega);have VY:Hid ((w.heap.size+1)≠(w.heap.size+1+1)):=qh (by omega);cases ok with
 |false=>
  obtain rfl:ρ=oy:=P3.out
  obtain⟨hy1,SN,hy3⟩:y1=0∧y2=0∧y3=0:=by
   have:=mf.out rfl
   simp only[Jba] at this;exact this
  subst hy1 SN hy3;have z0:=(Bi.out.al (δ #[J a1,J a2] 30)).cell (i:=0) rfl;have z1:=(Bi.out.al (δ #[J a1,J a2] 30)).cell (i:=1) rfl;have z2:=(Bi.out.al (δ #[J a1,J a2] 30)).cell (i:=2) rfl;have f0:=(Bi.out.al (δ #[J a1,J a2] 30)).free 0;have f1:=(Bi.out.al (δ #[J a1,J a2] 30)).free 1;have f2:=(Bi.out.al (δ #[J a1,J a2] 30)).free 2;have HY:=qh ((((Bi.out.al (δ #[J a1,J a2] 30)).set_ 0 (J 0)).set_ 1 (J 0)).set_ 2 (J 0));have kn:=qh ((((aI rS.out (δ #[J a1,J a2] 30)).setCell (p:=⟨w.heap.size+1+1,0,ε⟩) (show w.heap.size≤w.heap.size+1+1 by omega) (J 0)).setCell (p:=⟨w.heap.size+1+1,1,ε⟩) (show w.heap.size≤w.heap.size+1+1 by omega) (J 0)).setCell (p:=⟨w.heap.size+1+1,2,ε⟩) (show w.heap.size≤w.heap.size+1+1 by omega) (J 0));go_wp2;exact bS rfl (w.heap.size+1+1) rfl rfl HY.out Tryz.underlying32 rfl (by kernel_rfl) rfl ⟨rfl,kn.out⟩
 |true=>
 clear P3 NO mf;go_upto_region 4 with fail
 have SQ:=qh ((zZ.out.al (δ #[J a1,J a2] 30)));have LF:=qh ((Bd.out.al (δ #[J a1,J a2] 30)));have RU:=qh ((YA.out.al (δ #[J a1,J a2] 30)));have aah:=qh ((Bi.out.al (δ #[J a1,J a2] 30)));have ae0:=qh ((show Whole (w6.alloc (δ #[J a1,J a2] 30)) (w6.heap.size) (30) ([J a1,J a2]) from Whole.new2 (by first|rfl|simp)));have M5:=qh (aI rS.out (δ #[J a1,J a2] 30));obtain⟨v11,Zl⟩:=aB ((w6.alloc (δ #[J a1,J a2] 30)));rw[Zl] at SQ LF RU aah ae0 M5 ⊢;clear Zl;clear zZ Bd YA Bi rS
 have jB:Hid (∀W',Ext v11.drew W'→W'.cell? ⟨w.heap.size,0,ε⟩=ζ (γ A n c)∧W'.cell? ⟨w.heap.size,1,ε⟩=ζ (γ B m k)∧W'.cell? ⟨w.heap.size+1,0,ε⟩=ζ (J x1)∧W'.cell? ⟨w.heap.size+1,1,ε⟩=ζ (J x2)∧W'.cell? ⟨w.heap.size+1,2,ε⟩=ζ (J x3)):=
  qh (fun W' h=>⟨(LF.out.dr.bl h).cell (i:=0) rfl,(LF.out.dr.bl h).cell (i:=1) rfl,(RU.out.dr.bl h).cell (i:=0) rfl,(RU.out.dr.bl h).cell (i:=1) rfl,(RU.out.dr.bl h).cell (i:=2) rfl⟩)
 refine jI 6 (fun i=>i=w.heap.size+1+1) (BQ [ζ (φ #[γ A n c,γ B m k]),ζ (φ #[J x1,J x2,J x3]),ζ (φ #[J u1,J u2,J u3]),ζ (Ξ #[φ #[J y1,J y2,J y3],Β oy]),ζ (φ #[J y1,J y2,J y3]),ζ (Β oy)] 99 0 0 []) (Ext v11.drew) (by kernel_rfl) (by kernel_rfl) (by kernel_rfl) (by kernel_rfl) (by kernel_rfl) (fun i v w1 w2 h hx=>sJ i v w1 w2 h hx) (fun _ _ h k=>h.trans k) (Ext.refl _) ?_ ?_
 ·intro i Ef;have dF:i=0∨i=1∨i=2∨i=3∨i=4∨i=5:=by omega
  rcases dF with rfl|rfl|rfl|rfl|rfl|rfl
  ·refine aH ?_;intro x y hg aD;obtain⟨qE,iQ,jd,qi,Lh⟩:=jB.out _ hg;simp only[aE,ι,π,aj,ξ,aw,ar,aq];refine .inl ⟨by rfl,?_⟩;go_simp;exact⟨Ext.refl _,rfl⟩
  ·refine aH ?_;intro x y hg aD;obtain⟨qE,iQ,jd,qi,Lh⟩:=jB.out _ hg;simp only[aE,ι,π,aj,ξ,aw,ar,aq];refine .inl ⟨by rfl,?_⟩;go_simp;exact⟨Ext.refl _,rfl⟩
  ·refine aH ?_;intro x y hg aD;have d1:x 1=φ #[J x1,J x2,J x3]:=aD 1 (by decide);simp only[aE,ι,π,aj,ξ,aw,ar,aq];simp only[d1];refine .inl ⟨by rfl,cu (by go_simp;first|done|exact⟨rfl,rfl⟩|with_reducible rfl) ?_⟩
   refine(HOt.out y).mono ?_
   rintro e w2 ⟨rfl,hb⟩;exact⟨_,rfl,hb,rfl⟩
  ·refine aH ?_;intro x y hg aD;have d0:x 0=φ #[γ A n c,γ B m k]:=aD 0 (by decide);have d2:x 2=φ #[J u1,J u2,J u3]:=aD 2 (by decide);have d2:x 2=φ #[J u1,J u2,J u3]:=aD 2 (by decide);simp only[aE,ι,π,aj,ξ,aw,ar,aq];simp only[d0,d2,d2];refine .inl ⟨by rfl,cu (by go_simp;first|done|exact⟨rfl,rfl⟩|with_reducible rfl) ?_⟩
   refine(Pg.out y (SQ.out.dr.bl hg)).mono ?_
   rintro e w2 ⟨rfl,hb⟩;exact⟨_,rfl,hb,rfl⟩
  ·refine aH ?_;intro x y hg aD;have d3:x 3=Ξ #[φ #[J y1,J y2,J y3],Β oy]:=aD 3 (by decide);simp only[aE,ι,π,aj,ξ,aw,ar,aq];simp only[d3];refine .inl ⟨by rfl,?_⟩;go_simp;exact⟨Ext.refl _,rfl⟩
  ·refine aH ?_;intro x y hg aD;have d3:x 3=Ξ #[φ #[J y1,J y2,J y3],Β oy]:=aD 3 (by decide);simp only[aE,ι,π,aj,ξ,aw,ar,aq];simp only[d3];refine .inl ⟨by rfl,?_⟩;go_simp;exact⟨Ext.refl _,rfl⟩
 intro x y hg aX;have d0:x 0=φ #[γ A n c,γ B m k]:=aX 0 (by decide);have d1:x 1=φ #[J x1,J x2,J x3]:=aX 1 (by decide);have d2:x 2=φ #[J u1,J u2,J u3]:=aX 2 (by decide);have d3:x 3=Ξ #[φ #[J y1,J y2,J y3],Β oy]:=aX 3 (by decide);have d4:x 4=φ #[J y1,J y2,J y3]:=aX 4 (by decide);have d5:x 5=Β oy:=aX 5 (by decide);simp only[aE,ι,π,aj,ξ,aw,ar,aq];simp only[d0,d1,d2,d3,d4,d5];clear aX d0 d1 d2 d3 d4 d5;refine gI 6 ?_;intro w' aC;have K1:=qh ((aah.out.dr.bl hg).bl aC);have nf:=qh (ag (ag (aN M5.out) hg) aC)
 refine⟨w'.setRow (w.heap.size+1+1) #[J y1,J y2,J y3],aR 32 (.tmp 4) (.tmp 21) rfl (w.heap.size+1+1) rfl [J y1,J y2,J y3] rfl 32 [J 0,J 0,J 0] K1.out (by kernel_rfl) rfl (by simp[Τ]),bN (S:=fun i=>i=w.heap.size+1+1) rfl _,?_⟩
 have Np:Hid (Whole (w'.setRow (w.heap.size+1+1) #[J y1,J y2,J y3]) (w.heap.size+1+1) 32 [J y1,J y2,J y3]):=qh (Whole.row K1.out [J y1,J y2,J y3]);have sx:Hid (σ w.heap.size w (w'.setRow (w.heap.size+1+1) #[J y1,J y2,J y3])):=qh (bH nf.out (by omega) _);obtain⟨V1,fD⟩:=aB (w'.setRow (w.heap.size+1+1) #[J y1,J y2,J y3]);rw[fD] at Np sx ⊢;clear aC hg fD K1 nf jB;refine aa 7 ?_;refine aF (by kernel_rfl) ?_ _;intro W8 cg;have HY:=qh (Np.out.bl cg);have kn:=qh (ag sx.out cg);clear cg Np sx;go_wp2;exact bS rfl (w.heap.size+1+1) rfl rfl HY.out Tryz.underlying32 rfl (by kernel_rfl) rfl ⟨rfl,kn.out⟩
theorem F1 (A:Option Κ) (n c:Nat) (Vs:List VC) (B:Option Κ) (m k:Nat) (Es:List EC) (x1 x2 x3:Int) (w:ο) (h:bz w A n c Vs B m k Es) (hf:aG Vs Es) (hb:-9223372036854775808≤x3∧x3≤9223372036854775807):
 Ζ η 31 #[φ #[γ A n c,γ B m k],φ #[J x1,J x2,J x3]] w fun e w'=>∃A' c',e=.returned (.slice A' (kU Vs (x1,x2,x3)).length c')∧w'.ownsRow w.heap.size 32 3 (.slice A' (kU Vs (x1,x2,x3)).length c') (kU Vs (x1,x2,x3)).length (aA (kU Vs (x1,x2,x3)))∧σ w.heap.size w w':=by
 have kH:=qh h;have HFm:=qh hf;obtain⟨i0,Bz,qJ,ly,kK⟩:=aW ju;have Xh:=fun W (h:bz W A n c Vs B m k Es)=>B1 A n c Vs B m k Es x1 x2 x3 W h hf hb
 have ZP:Hid (∀y1 y2 y3:Int,(y1,y2,y3)∈ao Vs→∀W,bz W A n c Vs B m k Es→Ζ η 59 #[φ #[γ A n c,γ B m k],φ #[J y1,J y2,J y3]] W (tk W (fQ Vs (y1,y2,y3)) true)):=qh (fun y1 y2 y3 hy W h=>by
  obtain⟨e,_,_,q⟩:=(hf.mem _).1 hy
  have:=B1 A n c Vs B m k Es y1 y2 y3 W h hf (by simp only at q;omega)
  rwa [if_pos hy,decide_eq_true hy] at this)
 by_cases hx:(x1,x2,x3)∈ao Vs
 ·obtain⟨p,hp,a8⟩:=hf.phi.per hx;have h80:=hf.l80;have ef:kU Vs (x1,x2,x3)=lA (fQ Vs) (x1,x2,x3) p:=by rw[kU,if_pos hx,pI hp (by omega)]
  have anM:p≤80:=by omega
  simp only[if_pos hx,decide_eq_true hx] at Xh;rw[ef,IF];have OE:=qh Xh;have Hp:=qh hp;have Hx:=qh hx;obtain⟨⟨p1,p2,p3⟩,gp⟩:∃z,fQ Vs (x1,x2,x3)=z:=⟨_,rfl⟩
  rw[gp] at OE;have Gp:=qh gp;have Uj:=hp.pos;clear h hf hb Xh hx hp a8 h80 ef gp;go_enter Tryz.func31,Tryz.ntmps31;go_upto_region 1 with fail
  obtain⟨W0,b0,b1,bO,bp,dE,aQ,aL,bw,mQ,lZ,oa,uD,iP,uW⟩:=wT w 25 [γ A n c,γ B m k] 32 [J x1,J x2,J x3];rw[bO,dE,bp];clear bO bp dE;have Ry:=qh (aQ.out.al (δ #[] 32));have aL:=qh (aL.out.al (δ #[] 32));have nb:Hid (Ow w (b1+1) 32 3 (γ (ζ ⟨W0.heap.size,0,ε⟩) 0 0) 0 [] (W0.alloc (δ #[] 32))):=qh (Ow.new_ (cs:=#[]) bw.out (by have:=iP.out;omega) (by have:=aL.out.lt;simp at this;have:=mQ.out;have:=uD.out;omega) (by unfold Jap;omega) rfl);have c0:=Ry.out.cell (i:=0) rfl;have c1:=Ry.out.cell (i:=1) rfl;have d0:=aL.out.cell (i:=0) rfl;have d1:=aL.out.cell (i:=1) rfl;have d2:=aL.out.cell (i:=2) rfl;go_wp2_with fail
  refine(OE.out _ (kH.out.bl nb.out.below)).mono ?_
  rintro e w2 ⟨rfl,aP⟩;have xN:=qh (Ry.out.bl aP);have aZ:=qh (aL.out.bl aP);have iN:=qh (nb.out.up aP);clear c0 c1 d0 d1 d2 Ry aL nb aQ bw;have Jj:Hid (ζ w2.heap.size≠(Ο (ζ ⟨W0.heap.size,0,ε⟩) 0 0).ownBlock):=qh (iN.out.ne_ (Δ _));clear aP;have HD3:=qh (xN.out.al (δ #[J p1,J p2,J p3] 32));have NL:=qh (aZ.out.al (δ #[J p1,J p2,J p3] 32));have nK:=qh (Whole.new_ w2 32 [J p1,J p2,J p3]);have Ck:=qh (iN.out.up (az w2 (δ #[J p1,J p2,J p3] 32)));go_upto_region 5 with fail
  have L3a:w.heap.size≤w2.heap.size:=iN.out.below.size;have N3a:b1<w2.heap.size:=aZ.out.lt;obtain⟨W3,kh⟩:=aB (w2.alloc (δ #[J p1,J p2,J p3] 32));obtain⟨b3,Z6⟩:=aB w2.heap.size;obtain⟨g1,Ka⟩:=aB W0.heap.size;rw[kh] at HD3 NL nK Ck ⊢;rw[Z6] at nK Jj L3a N3a ⊢;rw[Ka] at Ck Jj ⊢;have L3:=qh L3a;have N3:=qh N3a;obtain⟨v0,gv0⟩:=aB (Ο (ζ ⟨g1,0,ε⟩) 0 0);rw[gv0] at Ck Jj ⊢;clear kh Z6 Ka gv0 xN aZ iN L3a N3a;have d0:=NL.out.cell (i:=0) rfl;have d1:=NL.out.cell (i:=1) rfl;have d2:=NL.out.cell (i:=2) rfl;obtain⟨v5,w5,bV,jv,fP,uu,KS⟩:=Ow.app2 (P:=η) 57 57 32 i0 _ 3 24 (b1+1) Tryz.underlying57 Bz qJ ly kK rfl (by decide) _ 0 _ (Ck.out.up (az _ _)) _ (ζ ⟨W3.heap.size,0,ε⟩) 1 1 (aA [(x1,x2,x3)]) (bg.whole3 (L:=[(x1,x2,x3)]) (Whole.new_ W3 32 [J x1,J x2,J x3])) (im _) (by unfold Jap;omega) (by omega);obtain⟨A5,c5,rfl,-⟩:=jv.rds;have HN5:Hid (ζ b3≠(Ο A5 1 c5).ownBlock):=qh (Ow.ne2 Jj.out (by have:=nK.out.lt;simp;omega) KS);have kx:=qh ((HD3.out.al (δ #[J x1,J x2,J x3] 32)).at_ (fP.block b0 (by have:=lZ.out;have:=uD.out;omega)));have oK:=qh ((NL.out.al (δ #[J x1,J x2,J x3] 32)).at_ (fP.block b1 (by omega)));have TI:=qh ((nK.out.al (δ #[J x1,J x2,J x3] 32)).grown uu Jj.out);have BE:Hid (Ow w (b1+1) 32 3 (γ A5 1 c5) 1 (aA (lA (fQ Vs) (x1,x2,x3) 1)) w5):=qh jv
  have MI:=qh bV;clear bV jv fP uu KS HD3 NL nK Ck Jj
  go_wp2_with (first
   |(at_builtin
     refine rr rfl (.tmp 18) (.tmp 20) _ rfl rfl rfl MI.out ?_;clear d0 d1 d2 MI))
  skip
  go_loopw [5] (fun so wr=>∃(j:Nat) (A2:Option Κ) (c2:Nat) (y1 y2 y3:Int),1≤j∧j≤p∧so=γ A2 j c2∧Hid (Whole wr b0 25 [γ A n c,γ B m k])∧Hid (Whole wr b1 32 [J x1,J x2,J x3])∧Hid (Whole wr b3 32 [J y1,J y2,J y3])∧Hid (Ow w (b1+1) 32 3 (γ A2 j c2) j (aA (lA (fQ Vs) (x1,x2,x3) j)) wr)∧Hid (ζ b3≠(Ο A2 j c2).ownBlock)∧Hid (fR (fQ Vs) j (x1,x2,x3)=(y1,y2,y3))) (fun so _=>p - (abB so))
  case atStart=>exact⟨1,A5,c5,p1,p2,p3,by omega,Uj,rfl,kx,oK,TI,BE,HN5,qh Gp.out⟩
  case round=>
   clear kx oK TI BE HN5;obtain⟨j,A2,c2,y1,y2,y3,KV,hj,rfl,HD,HX,HY,HO,HN,HI⟩:=hrel;obtain⟨wo,cS⟩:=aB wr;rw[cS] at HD HX HY HO ⊢;clear cS;have c0:=HD.out.cell (i:=0) rfl;have c1:=HD.out.cell (i:=1) rfl;have d0:=HX.out.cell (i:=0) rfl;have d1:=HX.out.cell (i:=1) rfl;have d2:=HX.out.cell (i:=2) rfl;have e0:=HY.out.cell (i:=0) rfl;have e1:=HY.out.cell (i:=1) rfl;have e2:=HY.out.cell (i:=2) rfl
   by_cases hjp:j<p
   ·have bj:¬(y1,y2,y3)=(x1,x2,x3):=fun e=>Hp.out.ne j (by omega) hjp (HI.out.trans e)
    have hyr:(y1,y2,y3)∈ao Vs:=HI.out▸HFm.out.phi.it Hx.out j;have dz:decide ((j:Int)<82)=true:=decide_eq_true (by omega);have HPj:=qh (ZP.out y1 y2 y3 hyr);obtain⟨⟨q1,q2,q3⟩,gq⟩:∃z,fQ Vs (y1,y2,y3)=z:=⟨_,rfl⟩
    rw[gq] at HPj;have oF:Hid (fR (fQ Vs) (j+1) (x1,x2,x3)=(q1,q2,q3)):=qh (by rw[dp,HI.out,gq]);have QO:Hid (aA (lA (fQ Vs) (x1,x2,x3) j)++aA [(y1,y2,y3)]=aA (lA (fQ Vs) (x1,x2,x3) (j+1))):=qh (by rw[LH,HI.out,fM])
    have ht:∀W,(binOp .neq 32 (φ #[J y1,J y2,J y3]) (φ #[J x1,J x2,J x3])).run η W=.ok (Β true) W:=fun W=>by
     have e:=nz (y1,y2,y3) (x1,x2,x3) W;rw[decide_eq_false bj] at e;exact e
    clear bj hyr gq;go_upto_region 7 with fail
    clear ht dz;obtain⟨v7,w7,bV,UK,nh,hg7,ho7⟩:=Ow.app2 (P:=η) 57 57 32 i0 _ 3 24 (b1+1) Tryz.underlying57 Bz qJ ly kK rfl (by decide) _ j _ (HO.out.up (az _ _)) _ (ζ ⟨wo.heap.size,0,ε⟩) 1 1 (aA [(y1,y2,y3)]) (bg.whole3 (L:=[(y1,y2,y3)]) (Whole.new_ wo 32 [J y1,J y2,J y3])) (im _) (by unfold Jap;omega) (by omega);obtain⟨A7,c7,rfl,-⟩:=UK.rds;have HN7:Hid (ζ b3≠(Ο A7 (j+1) c7).ownBlock):=qh (Ow.ne2 HN.out (by have:=HY.out.lt;simp;omega) ho7);have HD7:=qh ((HD.out.al (δ #[J y1,J y2,J y3] 32)).at_ (nh.block b0 (by have:=lZ.out;have:=uD.out;omega)));have O9:=qh ((HX.out.al (δ #[J y1,J y2,J y3] 32)).at_ (nh.block b1 (by omega)));have HY7:=qh ((HY.out.al (δ #[J y1,J y2,J y3] 32)).grown hg7 HN.out);have YM:Hid (Ow w (b1+1) 32 3 (γ A7 (j+1) c7) (j+1) (aA (lA (fQ Vs) (x1,x2,x3) (j+1))) w7):=qh (by rw[←QO.out];exact UK);have MI:=qh bV;clear bV UK nh hg7 ho7 HD HX HY HO HN
    go_upto_region 8 with (first
     |(at_builtin
       refine rr rfl (.tmp 30) (.tmp 32) _ rfl rfl rfl MI.out ?_;clear c0 c1 d0 d1 d2 e0 e1 e2 MI))
    have c0:=HD7.out.cell (i:=0) rfl;have c1:=HD7.out.cell (i:=1) rfl;have e0:=HY7.out.cell (i:=0) rfl;have e1:=HY7.out.cell (i:=1) rfl;have e2:=HY7.out.cell (i:=2) rfl;go_wp2_with fail
    refine(HPj.out _ (kH.out.bl YM.out.below)).mono ?_
    rintro e w8 ⟨rfl,D9⟩;have HD8:=qh (HD7.out.bl D9);have ue:=qh (O9.out.bl D9);have D8:=qh (HY7.out.bl D9);have XW:=qh (YM.out.up D9);clear D9 c0 c1 e0 e1 e2 HD7 O9 HY7 YM;have f0:=D8.out.free 0;have f1:=D8.out.free 1;have f2:=D8.out.free 2;have e0:=D8.out.cell (i:=0) rfl;have e1:=D8.out.cell (i:=1) rfl;have e2:=D8.out.cell (i:=2) rfl;go_wp2;have FZ:b0≠b3:=by have:=N3.out;have:=lZ.out;have:=uD.out;omega
    have ni:b1≠b3:=by have:=N3.out;omega
    have HD9:=qh (((HD8.out.far (p:=⟨b3,0,ε⟩) FZ (J q1)).far (p:=⟨b3,1,ε⟩) FZ (J q2)).far (p:=⟨b3,2,ε⟩) FZ (J q3));have xK:=qh (((ue.out.far (p:=⟨b3,0,ε⟩) ni (J q1)).far (p:=⟨b3,1,ε⟩) ni (J q2)).far (p:=⟨b3,2,ε⟩) ni (J q3));have MB:=qh (((D8.out.set_ 0 (J q1)).set_ 1 (J q2)).set_ 2 (J q3));have xr:=qh (((XW.out.cell_ HN7.out L3.out 0 (J q1)).cell_ HN7.out L3.out 1 (J q2)).cell_ HN7.out L3.out 2 (J q3));clear e0 e1 e2 f0 f1 f2;go_roundw
    case rel=>exact⟨j+1,A7,c7,q1,q2,q3,by omega,hjp,by go_num,HD9,xK,MB,xr,HN7,oF⟩
    case measure=>simp[abB];omega
   ·obtain rfl:p=j:=by omega
    have he:(y1,y2,y3)=(x1,x2,x3):=HI.out.symm.trans Hp.out.back;simp only[Jba] at he;obtain⟨rfl,rfl,rfl⟩:=he
    have ht:∀W,(binOp .neq 32 (φ #[J y1,J y2,J y3]) (φ #[J y1,J y2,J y3])).run η W=.ok (Β ρ) W:=fun W=>by
     have e:=nz (y1,y2,y3) (y1,y2,y3) W;rw[decide_eq_true rfl] at e;exact e
    go_wp2;go_ret;exact⟨A2,c2,rfl,mi HO.out.own (by have:=iP.out;omega),HO.out.below⟩
 ·have ef:kU Vs (x1,x2,x3)=[]:=by rw[kU,if_neg hx]
  simp only[if_neg hx,decide_eq_false hx] at Xh;rw[ef];have OE:=qh Xh;clear h hf hb Xh hx ef ZP;go_enter Tryz.func31,Tryz.ntmps31;go_upto_region 1 with fail
  obtain⟨W0,b0,b1,bO,bp,dE,aQ,aL,bw,mQ,lZ,oa,uD,iP,uW⟩:=wT w 25 [γ A n c,γ B m k] 32 [J x1,J x2,J x3];rw[bO,dE,bp];clear bO bp dE;have Ry:=qh (aQ.out.al (δ #[] 32));have aL:=qh (aL.out.al (δ #[] 32));have nb:Hid (Ow w (b1+1) 32 3 (γ (ζ ⟨W0.heap.size,0,ε⟩) 0 0) 0 [] (W0.alloc (δ #[] 32))):=qh (Ow.new_ (cs:=#[]) bw.out (by have:=iP.out;omega) (by have:=aL.out.lt;simp at this;have:=mQ.out;have:=uD.out;omega) (by unfold Jap;omega) rfl);have c0:=Ry.out.cell (i:=0) rfl;have c1:=Ry.out.cell (i:=1) rfl;have d0:=aL.out.cell (i:=0) rfl;have d1:=aL.out.cell (i:=1) rfl;have d2:=aL.out.cell (i:=2) rfl;go_wp2_with fail
  refine(OE.out _ (kH.out.bl nb.out.below)).mono ?_
  rintro e w2 ⟨rfl,aP⟩;have xN:=qh (Ry.out.bl aP);have aZ:=qh (aL.out.bl aP);have iN:=qh (nb.out.up aP);clear c0 c1 d0 d1 d2 Ry aL nb aQ bw;go_wp2;go_ret;exact⟨_,_,rfl,mi (iN.out.up (az _ _)).own (by have:=iP.out;omega),(iN.out.up (az _ _)).below⟩
theorem FL (A:Option Κ) (n c:Nat) (Vs:List VC) (B:Option Κ) (m k:Nat) (Es:List EC) (w:ο) (h:bz w A n c Vs B m k Es) (hf:aG Vs Es):
 Ζ η 40 #[φ #[γ A n c,γ B m k]] w fun e w'=>∃A' c' X,e=.returned (γ A' X.length c')∧RowsIn w' (w.heap.size+1) 57 32 3 lf A' X.length c' X∧X.map (·.2.2)=js (fQ Vs) 80 (qt Es) []∧σ w.heap.size w w':=by
 have kH:=qh h;have HFm:=qh hf;have hm:m≤40:=(hf.small h).2.1;have yv:Es.length=m:=h.e.rlen bM (by decide);have HDs:=qh (fun W (h:bz W A n c Vs B m k Es)=>CX A n c Vs B m k Es W h (by omega))
 have HTr:Hid (∀y1 y2 y3:Int,(y1,y2,y3)∈ao Vs→∀W,bz W A n c Vs B m k Es→Ζ η 31 #[φ #[γ A n c,γ B m k],φ #[J y1,J y2,J y3]] W fun e w'=>∃A' c',e=.returned (.slice A' (l9 (fQ Vs) (y1,y2,y3) 80 (y1,y2,y3)).length c')∧w'.ownsRow W.heap.size 32 3 (.slice A' (l9 (fQ Vs) (y1,y2,y3) 80 (y1,y2,y3)).length c') (l9 (fQ Vs) (y1,y2,y3) 80 (y1,y2,y3)).length (aA (l9 (fQ Vs) (y1,y2,y3) 80 (y1,y2,y3)))∧(l9 (fQ Vs) (y1,y2,y3) 80 (y1,y2,y3)).length≤80∧σ W.heap.size W w'):=qh (fun y1 y2 y3 hy W h=>by
  obtain⟨e,_,_,q⟩:=(hf.mem _).1 hy;have h1:=F1 A n c Vs B m k Es y1 y2 y3 W h hf (by simp only at q;omega);have e1:kU Vs (y1,y2,y3)=l9 (fQ Vs) (y1,y2,y3) 80 (y1,y2,y3):=by rw[kU,if_pos hy]
  have h8:=JR hf (y1,y2,y3);rw[e1] at h1 h8;refine h1.mono ?_;rintro e w' ⟨A',c',r1,r2,r3⟩;exact⟨A',c',r1,r2,h8,r3⟩)
 have tq:=hf.ds;have jJ:=Ir Es;obtain⟨L,gL⟩:=aB (qt Es);rw[gL] at HDs tq jJ ⊢;rw[yv] at jJ;rw[←jJ] at HDs;have ak2:L.length≤80:=by omega
 have HLm:=qh tq;clear h hf gL tq jJ yv hm;go_enter Tryz.func40,Tryz.ntmps40;go_upto_region 1 with fail
 obtain⟨W0,b0,bO,bp,aQ,bw,mQ,lZ,oa⟩:=yj w 25 [γ A n c,γ B m k];rw[bO,bp];clear bO bp;have c0:=(aQ.out.al (δ #[] 57)).al (δ #[] 32)|>.cell (i:=0) rfl;have c1:=(aQ.out.al (δ #[] 57)).al (δ #[] 32)|>.cell (i:=1) rfl;have bE:=qh (aI (aI bw.out (δ #[] 57)) (δ #[] 32));have aL:=qh ((aQ.out.al (δ #[] 57)).al (δ #[] 32))
 have nb:Hid (Ow w (b0+1) 32 3 (γ (ζ ⟨W0.heap.size+1,0,ε⟩) 0 0) 0 [] ((W0.alloc (δ #[] 57)).alloc (δ #[] 32))):=qh (by
  have h1:=Ow.new_ (W:=W0.alloc (δ #[] 57)) (cs:=#[]) (e:=32) (size:=3) (n:=0) (B:=b0+1) (aI bw.out (δ #[] 57)) (by have:=oa.out;omega) (by have:=aQ.out.lt;simp;omega) (by unfold Jap;omega) rfl;rw[World.size_alloc] at h1;exact h1)
 have lR:Hid (RowsIn ((W0.alloc (δ #[] 57)).alloc (δ #[] 32)) (b0+1) 57 32 3 lf (ζ ⟨W0.heap.size,0,ε⟩) 0 0 []):=qh ⟨bo (World.ownsRow_made W0 #[] 0 aQ.out.lt (Jas _) (by simp)) (az _ _),rfl,fun x hx=>(by cases hx),fun i j x y a b _ h=>(by simp at h)⟩;go_wp2_with fail
 refine(HDs.out _ (kH.out.bl bE.out)).mono ?_
 rintro e w3 ⟨Al,cl,rfl,WS,bA⟩;have fU:w.heap.size≤b0:=oa.out
 have RJ:Hid (PR w (b0+1) (ζ ⟨W0.heap.size+1,0,ε⟩) 0 [] Al cl L (ζ ⟨W0.heap.size,0,ε⟩) 0 [] w3):=qh ⟨nb.out.up bA,mi WS (by have:=aL.out.lt;omega),lR.out.up bA,fun g e q=>by
  have h1:=(WS.lt g e).1;have h2:W0.heap.size+1=g:=Μ q;simp at h1 h2;omega,fun x hx=>(by cases hx)⟩
 have cF:=qh (aL.out.bl bA);clear c0 c1 aQ bw bE aL nb lR WS bA fU HDs;obtain⟨A0,gA0⟩:=aB (ζ (⟨W0.heap.size,0,ε⟩:Κ));obtain⟨T0,gT0⟩:=aB (ζ (⟨W0.heap.size+1,0,ε⟩:Κ));rw[gA0,gT0] at RJ;rw[gA0,gT0];clear gA0 gT0;go_wp2;go_loopw [3,4,6] (fun so st si wr=>∃(i:Nat) (Ao:Option Κ) (co:Nat) (At:Option Κ) (ct:Nat) (T:List D) (X:List (Rw D)),i≤L.length∧si=J i∧so=γ Ao X.length co∧st=γ At T.length ct∧Hid (Whole wr b0 25 [γ A n c,γ B m k])∧Hid (PR w (b0+1) At ct T Al cl L Ao co X wr)∧Hid (js (fQ Vs) 80 L []=X.map (·.2.2)++js (fQ Vs) 80 (L.drop i) T)∧Hid (X.length≤i∧T.length≤i*80)) (fun _ _ si _=>L.length - (intOf si).toNat)
 case atStart=>exact⟨0,A0,0,T0,0,[],[],by omega,rfl,rfl,rfl,cF,RJ,qh rfl,qh ⟨Jas _,Jas _⟩⟩
 case round=>
  clear cF RJ;obtain⟨i,Ao,co,At,ct,T,X,hi,rfl,rfl,rfl,HX,HP,HI,Hn⟩:=hrel;obtain⟨wo,cS⟩:=aB wr;rw[cS] at HX HP ⊢;clear cS
  by_cases jm:i<L.length
  ·obtain⟨bd,um,rfl,Po,hc⟩:=(aK HP.out.l).darts (by omega);obtain⟨d1,d2,d3⟩:=hc i jm
   have kd:L.drop i=L.getD i (0,0,0)::L.drop (i+1):=by
    rw[Χ jm,χ,θ jm];rfl
   have VV:L.getD i (0,0,0)∈ao Vs:=(HLm.out _).1 (by rw[χ,θ jm];exact List.getElem_mem jm);obtain⟨x,gx⟩:=aB (L.getD i (0,0,0));rw[gx] at d1 d2 d3 kd VV;obtain⟨x1,x2,x3⟩:=x;have hI:=HI.out;rw[kd,js] at hI;obtain⟨hXi,hTi⟩:=Hn.out;have ZF:Hid (∀W,bg W W.heap.size 3 At T.length ct (aA T)→Ζ η 33 #[γ At T.length ct,φ #[J x1,J x2,J x3]] W fun e w'=>e=.returned (J (fC T (x1,x2,x3)))∧σ W.heap.size W w'):=qh (fun W h=>oN At T.length ct T (x1,x2,x3) W h (by omega))
   by_cases Ln:(x1,x2,x3)∈T
   ·rw[if_pos Ln] at hI;obtain⟨e1,e2⟩:=j3 Ln;rw[e1] at ZF;have ht:decide ((0:Int)≤((T.idxOf (x1,x2,x3):Nat):Int))=true:=decide_eq_true (by omega);obtain⟨q,gq⟩:=aB (T.idxOf (x1,x2,x3));rw[gq] at ZF ht;have oF:=qh hI;clear hI HI kd gx hc Po e1 e2 gq Ln
    go_wp2_with (first
     |(go_at_call 33;refine(ZF.out _ (aK HP.out.ow.own)).mono ?_;rintro e w5 ⟨rfl,fP⟩
       have UC:=qh (HP.out.bl fP);have oK:=qh (HX.out.bl fP);clear fP d1 d2 d3 HP HX))
    go_roundw
    case rel=>exact⟨i+1,Ao,co,At,ct,T,X,by omega,by go_num,rfl,rfl,oK,UC,oF,qh ⟨by omega,by omega⟩⟩
    case measure=>simp[intOf];omega
   ·rw[if_neg Ln] at hI;rw[lK Ln] at ZF;have ht:decide ((0:Int)≤(-1:Int))=ρ:=by decide
    have Wu:=qh (HTr.out x1 x2 x3 VV);obtain⟨F,gF⟩:=aB (l9 (fQ Vs) (x1,x2,x3) 80 (x1,x2,x3));rw[gF] at Wu hI;have oF:=qh hI;have HCx:Hid (∀W,σ wo.heap.size wo W→W.cell? ⟨bd,um+i*3,ε⟩=ζ (J x1)∧W.cell? ⟨bd,um+i*3+1,ε⟩=ζ (J x2)∧W.cell? ⟨bd,um+i*3+2,ε⟩=ζ (J x3)):=qh (fun W hb=>⟨(hb.cell (p:=⟨bd,um+i*3,ε⟩) Po).trans d1,(hb.cell (p:=⟨bd,um+i*3+1,ε⟩) Po).trans d2,(hb.cell (p:=⟨bd,um+i*3+2,ε⟩) Po).trans d3⟩);clear hI HI kd gx hc Po gF Ln VV
    go_upto_region 8 with (first
     |(go_at_call 33;refine(ZF.out _ (aK HP.out.ow.own)).mono ?_;rintro e w5 ⟨rfl,fP⟩
       have UC:=qh (HP.out.bl fP);have oK:=qh (HX.out.bl fP);have kF:Hid (σ wo.heap.size wo w5):=qh fP;clear fP d1 d2 d3 HP HX ht))
    have oT:=qh (oK.out.dr);have ID:=qh (UC.out.dr);have pW:=qh (aN kF.out);have LC:∀w',Kept aO w5.drew w'→w'.cell? ⟨b0,0,ε⟩=ζ (γ A n c):=fun w' h=>h.nil_cell (oT.out.cell (i:=0) rfl)
    have Lb:∀w',Kept aO w5.drew w'→w'.cell? ⟨b0,1,ε⟩=ζ (γ B m k):=fun w' h=>h.nil_cell (oT.out.cell (i:=1) rfl)
    have abh:∀w',Kept aO w5.drew w'→w'.cell? ⟨bd,um+i*3,ε⟩=ζ (J x1):=fun w' h=>h.nil_cell ((HCx.out _ pW.out).1)
    have Ss:∀w',Kept aO w5.drew w'→w'.cell? ⟨bd,um+i*3+1,ε⟩=ζ (J x2):=fun w' h=>h.nil_cell ((HCx.out _ pW.out).2.1)
    have Th:∀w',Kept aO w5.drew w'→w'.cell? ⟨bd,um+i*3+2,ε⟩=ζ (J x3):=fun w' h=>h.nil_cell ((HCx.out _ pW.out).2.2)
    refine ay aO (by kernel_rfl) ?_;refine aa 0 ?_;refine aa 1 ?_;refine aa 2 ?_;refine aa 3 ?_;refine aa 4 ?_;refine mw 5 ?_;intro w' aC
    refine(Wu.out _ (kH.out.bl (ID.out.bl aC).ow.below)).mono ?_
    rintro e Fk ⟨A9,c9,rfl,U7,GK,qG⟩;have Hl9:=qh GK;have hF:Qk (b0+1) A9 c9 F Fk:=⟨mi U7 (by have:=(oT.out.bl aC).lt;omega)⟩
    have HNt:Hid (∀g,(Ο A9 F.length c9).ownBlock=ζ g→(Ο At T.length ct).ownBlock≠ζ g):=qh (fun g e q=>by
     have h1:=(U7.lt g e).1;have h2:=((ID.out.bl aC).ow.own.lt g q).2;omega)
    have eh:Hid (∀y∈X,∀a b:Κ,y.1=ζ a→A9=ζ b→a.block≠b.block):=qh (fun y hy a b ha hb q=>by
     have h1:=(U7.lt b.block (by rw[hb];rfl)).1;have h2:=(((ID.out.bl aC).r.one y hy).lt a.block (by rw[o7,ha];rfl)).2;omega)
    clear U7 GK;have K0:=qh ((oT.out.bl aC).bl qG);have Sc:=qh ((ID.out.bl aC).bl qG);have Gr:=qh (ag (ag pW.out aC) qG);have aki:=fun bW (h:Kept aO Fk bW)=>LC bW ((Kept.of_ext aC).trans ((Kept.of_below qG).trans h))
    have ahy:=fun bW (h:Kept aO Fk bW)=>Lb bW ((Kept.of_ext aC).trans ((Kept.of_below qG).trans h))
    have ah8:=fun bW (h:Kept aO Fk bW)=>abh bW ((Kept.of_ext aC).trans ((Kept.of_below qG).trans h))
    have ajI:=fun bW (h:Kept aO Fk bW)=>Ss bW ((Kept.of_ext aC).trans ((Kept.of_below qG).trans h))
    have aho:=fun bW (h:Kept aO Fk bW)=>Th bW ((Kept.of_ext aC).trans ((Kept.of_below qG).trans h))
    refine⟨_,rfl,Kept.of_below qG,?_⟩
    clear aC qG;have TB:=qh hF;clear hF;simp only[ξ,aw,ar,aq];refine aa 6 ?_;refine aF (by kernel_rfl) ?_ _;intro TW aC;have LX:=qh (K0.out.bl aC);have Tg:=qh (Sc.out.bl aC);have Ts:=qh (TB.out.bl aC);have Qw:=qh (ag Gr.out aC);clear K0 Sc TB Gr;clear aC;go_upto_region 9 with fail
    refine wp_region_lit ?_;refine a7 (v:=?_) (ζ 31) rfl (by rfl) ?_ ?_;rotate_left
    ·go_simp;(try with_reducible rfl)
    simp only[ξ,aw,ar,aq];refine a7 (v:=?_) (ζ 32) rfl (by rfl) ?_ ?_;rotate_left
    ·go_simp;(try with_reducible rfl)
    simp only[ξ,aw,ar,aq];refine gS (ζ 33) rfl (by rfl) 86 57 1 #[(0,.tmp 32)] (by rfl) Tryz.underlying86 #[γ A9 F.length c9] (by kernel_rfl) ?_;simp only[ξ,aw,ar,aq];have HLs:Hid (bg (TW.alloc (δ #[γ A9 F.length c9] 57)) (TW.alloc (δ #[γ A9 F.length c9] 57)).heap.size 1 (ζ ⟨TW.heap.size,0,ε⟩) 1 1 [γ A9 F.length c9]):=qh (bg.of_whole (cs:=[γ A9 F.length c9]) (Whole.new_ _ _ _) rfl);obtain⟨A7,c7,w7,bV,hp7,nh⟩:=(Tg.out.al (δ #[γ A9 F.length c9] 57)).out A9 c9 F (bo Ts.out.own (az _ _)) eh.out HNt.out (by omega) _ _ HLs.out;refine pC (ζ 34) rfl (by rfl) (dt (by rfl) (by rfl) (by rfl) bV) ?_;simp only[ξ,aw,ar,aq];have O9:=qh ((LX.out.al (δ #[γ A9 F.length c9] 57)).at_ (nh.block b0 (by omega)));obtain⟨A8,c8,w8,Sf,hp8,D9⟩:=hp7.tell (List.mem_append.2 (.inr (List.mem_singleton.2 rfl))) (by have:=Hl9.out;omega);have ue:=qh (O9.out.at_ (D9.block b0 (by omega)));have HP8:Hid (PR w (b0+1) A8 c8 (T++F) (ζ ⟨bd,um,ε⟩) cl L A7 c7 (X++[(A9,c9,F)]) w8):=qh hp8;have Ty:=qh Sf;have HI8:Hid (js (fQ Vs) 80 L []=(X++[((A9,c9,F):Rw D)]).map (·.2.2)++js (fQ Vs) 80 (L.drop (i+1)) (T++F)):=qh (by rw[oF.out,List.map_append];simp);have Hn8:Hid ((X++[((A9,c9,F):Rw D)]).length≤i+1∧(T++F).length≤(i+1)*80):=qh ⟨by simp;omega,by have:=Hl9.out;rw[Ε];omega⟩;have j9:(X++[((A9,c9,F):Rw D)]).length=X.length+1:=by simp
    clear bV hp7 nh O9 Sf hp8 D9 HLs eh HNt Hl9 oF LX Tg Ts Qw;go_upto_region 10 with fail
    go_wp2_with (first
     |(at_builtin
       refine rr rfl (.tmp 35) (.tmp 36) _ rfl rfl rfl Ty.out ?_;clear Ty))
    go_roundw
    case rel=>exact⟨i+1,A7,c7,A8,c8,T++F,_,by omega,by go_num,by rw[j9],by rw[Ε],ue,HP8,HI8,Hn8⟩
    case measure=>simp[intOf];omega
  ·obtain rfl:L.length=i:=by omega
   have hI:=HI.out;rw[List.drop_length] at hI;have oF:Hid (js (fQ Vs) 80 L []=X.map (·.2.2)):=qh (by rw[hI];simp[js]);clear hI HI;go_wp2;go_ret;exact⟨Ao,co,X,rfl,by have:=lZ.out;rw[this];exact HP.out.r,oF.out.symm,HP.out.ow.below⟩
theorem MG (A:Option Κ) (n c:Nat) (Vs:List VC) (B:Option Κ) (m k:Nat) (Es:List EC) (F C:Nat) (w:ο) (h:bz w A n c Vs B m k Es) (hn:n≤1000000) (hm:m≤1000000) (hF:F≤1000000) (hC:C≤1000000) (HF:∀W,bz W A n c Vs B m k Es→Ζ η 40 #[φ #[γ A n c,γ B m k]] W fun e w'=>∃A' c',e=.returned (γ A' F c')∧σ W.heap.size W w') (HC:∀W,bz W A n c Vs B m k Es→Ζ η 41 #[φ #[γ A n c,γ B m k]] W fun e w'=>e=.returned (J ((C:Nat):Int))∧σ W.heap.size W w'):
 Ζ η 85 #[φ #[γ A n c,γ B m k]] w fun e w'=>e=.returned (Ξ #[J (n:Int),J (m:Int),J ((F+bF Vs:Nat):Int),J (C:Int)])∧σ w.heap.size w w':=by
 have kH:=qh h;have H:=qh h.v;have hr:∀v∈Vs,v.2.1.2.2.2.length=v.2.1.2.1:=fun v hv=>(h.r v hv).2.dlen
 have Hr:=qh hr;have hl:=h.v.rlen aS (by decide);have Hl:=qh hl;have HG:Hid (bF Vs=((Vs.take n).filter Ek).length):=qh (by rw[Ι (by omega)];rfl);obtain⟨an,S5⟩:=aB (bF Vs);rw[S5] at HG ⊢;have HFf:=qh HF;have HCc:=qh HC;clear h hr hl S5 HF HC;go_enter Tryz.func85,Tryz.ntmps85;have rD:((w.alloc (δ #[γ A n c,γ B m k] 25))).cell? ⟨w.heap.size,0,ε⟩=ζ (γ A n c):=(show Whole (w.alloc (δ #[γ A n c,γ B m k] 25)) (w.heap.size) (25) ([γ A n c,γ B m k]) from Whole.new2 (by first|rfl|simp)).cell (i:=0) rfl;have sW:((w.alloc (δ #[γ A n c,γ B m k] 25))).cell? ⟨w.heap.size,1,ε⟩=ζ (γ B m k):=(show Whole (w.alloc (δ #[γ A n c,γ B m k] 25)) (w.heap.size) (25) ([γ A n c,γ B m k]) from Whole.new2 (by first|rfl|simp)).cell (i:=1) rfl;go_wp2_with fail
 clear rD sW
 refine(HFf.out _ (kH.out.al (δ #[γ A n c,γ B m k] 25))).mono ?_
 rintro e w3 ⟨A5,c5,rfl,bA⟩;have pD:=qh ((kH.out.al (δ #[γ A n c,γ B m k] 25)).bl bA);have mY:=qh ((show Whole (w.alloc (δ #[γ A n c,γ B m k] 25)) (w.heap.size) (25) ([γ A n c,γ B m k]) from Whole.new2 (by first|rfl|simp)).bl bA);have jo:=qh (ag (aI (Θ _ w) (δ #[γ A n c,γ B m k] 25)) bA);clear kH;clear bA;have kx:=qh (pD.out);have oK:=qh (mY.out);have kF:=qh (jo.out);clear pD mY jo;go_wp2;go_loopw [6,7] (fun sn si wr=>∃(j q:Nat),j≤n∧si=J j∧sn=J ((F+q:Nat):Int)∧Hid (wr=w3)∧Hid (((Vs.take j).filter Ek).length=q)) (fun _ si _=>n - (intOf si).toNat)
 case atStart=>exact⟨0,0,by omega,rfl,rfl,by first|exact qh rfl|exact qh trivial,qh rfl⟩
 case round=>
  obtain⟨j,q,hj,rfl,rfl,HW,HQ⟩:=hrel;have OZ:=HW.out.symm;subst OZ
  have hqj:q≤j:=by
   have h1:=List.length_filter_le Ek (Vs.take j);rw[HQ.out,List.length_take] at h1;omega
  have c0:=oK.out.cell (i:=0) rfl
  by_cases nT:j<n
  ·obtain⟨v,hx⟩:∃v,Vs[j]? =ζ v:=⟨_,θ (by have:=Hl.out;omega)⟩
   have tR:=xp hx;rw[HQ.out] at tR;have oI:=GD (Hr.out v (ω hx));obtain⟨b,gb⟩:=aB (Ek v);rw[gb] at oI tR;obtain⟨bb,off,rfl,aY,a8⟩:=H.out.place aS (by decide) (by omega);have bC:=kF.out;have q0:=a8 j _ hx 0 _ rfl;have q1:=a8 j _ hx 1 _ rfl;have q2:=a8 j _ hx 2 _ rfl;have q3:=a8 j _ hx 3 _ rfl;have q4:=a8 j _ hx 4 _ rfl;simp only[Ν,Jac] at q0 q1 q2 q3 q4;have l0:=(bC.cell (p:=⟨bb,off+j*5,ε⟩) aY).trans q0;have l1:=(bC.cell (p:=⟨bb,off+j*5+1,ε⟩) aY).trans q1;have l2:=(bC.cell (p:=⟨bb,off+j*5+2,ε⟩) aY).trans q2;have l3:=(bC.cell (p:=⟨bb,off+j*5+3,ε⟩) aY).trans q3;have l4:=(bC.cell (p:=⟨bb,off+j*5+4,ε⟩) aY).trans q4;clear bC q0 q1 q2 q3 q4;obtain⟨⟨i1,i2⟩,⟨rA,rn,rc,rL⟩,lb,at_⟩:=v;replace oI:((rn:Int)==0)=b:=oI;have q2:w3.cell? ⟨bb,off+j*5+2,ε⟩=ζ (γ rA rn rc):=l2;have TV:=qh tR;clear hx a8 aY gb tR l0 l1 l2 l3 l4;cases b with
   |false=>
    go_wp2;go_roundw
    case rel=>exact⟨j+1,q,by omega,by go_num,rfl,by first|exact qh rfl|exact qh trivial,qh TV.out⟩
    case measure=>simp[intOf];omega
   |true=>
    have Xo:Jaw.wrap (((F+q:Nat):Int)+1)=((F+(q+1):Nat):Int):=by rw[Jbb _ (by omega)];omega
    obtain⟨fq,Yc⟩:=aB (F+q);have WC:F+(q+1)=fq+1:=by omega
    rw[Yc,WC] at Xo;rw[Yc];have Gfq:=qh WC;clear Yc WC;go_wp2;go_roundw
    case rel=>exact⟨j+1,q+1,by omega,by go_num,by rw[Gfq.out];go_num,by first|exact qh rfl|exact qh trivial,qh TV.out⟩
    case measure=>simp[intOf];omega
  ·obtain rfl:n=j:=by omega
   have hq:q=an:=by rw[HG.out,HQ.out]
   subst hq;obtain⟨fq,Yc⟩:=aB (F+q);have Gfz:Hid ((F:Int)+(q:Int)=(fq:Int)):=qh (by omega);rw[Yc];clear Yc;go_upto_region 7 with fail
   have Na:=qh (kx.out.dr);have oT:=qh (oK.out.dr);have pW:=qh (aN kF.out);have LC:∀w',Kept aO w3.drew w'→w'.cell? ⟨w.heap.size,0,ε⟩=ζ (γ A n c):=fun w' h=>h.nil_cell (oT.out.cell (i:=0) rfl)
   have Lb:∀w',Kept aO w3.drew w'→w'.cell? ⟨w.heap.size,1,ε⟩=ζ (γ B m k):=fun w' h=>h.nil_cell (oT.out.cell (i:=1) rfl)
   refine ay aO (by kernel_rfl) ?_;refine aa 0 ?_;refine aa 1 ?_;refine aa 2 ?_;refine aa 3 ?_;refine aa 4 ?_;refine aa 5 ?_;refine aa 6 ?_;refine aa 7 ?_;refine mw 8 ?_;intro w' aC
   refine(HCc.out _ (Na.out.bl aC)).mono ?_
   rintro e Z7 ⟨rfl,wM⟩;have NS:=qh ((Na.out.bl aC).bl wM);have Lx:=qh ((oT.out.bl aC).bl wM);have He:=qh (ag (ag pW.out aC) wM);have Ss:=fun bW (h:Kept aO Z7 bW)=>LC bW ((Kept.of_ext aC).trans ((Kept.of_below wM).trans h))
   have Th:=fun bW (h:Kept aO Z7 bW)=>Lb bW ((Kept.of_ext aC).trans ((Kept.of_below wM).trans h))
   refine⟨_,rfl,Kept.of_below wM,?_⟩
   clear aC wM;simp only[ξ,aw,ar,aq];refine aa 9 ?_;refine aa 10 ?_;refine aa 11 ?_;refine aa 12 ?_;refine aF (by kernel_rfl) ?_ _;intro Fk aC;have afq:=qh (NS.out.bl aC);have adr:=qh (Lx.out.bl aC);have RS:=qh (ag He.out aC);clear NS Lx He;clear aC;go_wp2;exact bodyPost_ret (v:=Ξ #[J (n:Int),J (m:Int),J (fq:Int),J (C:Int)]) (by simp[results,Tryz.results85,go_sem]) rfl ⟨by rw[Gfz.out],RS.out⟩
theorem FE (A:Option Κ) (n c:Nat) (Vs:List VC) (B:Option Κ) (m k:Nat) (Es:List EC) (f C:Nat) (g:Int) (w:ο) (h:bz w A n c Vs B m k Es) (hn:n≤1000000) (hm:m≤1000000) (hf:f≤2000000) (hC:C≤1000000) (hg:(2*(C:Int) - n+m - f).tdiv 2=g)
 (HN:∀W,bz W A n c Vs B m k Es→Ζ η 85 #[φ #[γ A n c,γ B m k]] W fun e w'=>e=.returned (Ξ #[J (n:Int),J (m:Int),J (f:Int),J (C:Int)])∧σ W.heap.size W w'):
 Ζ η 58 #[φ #[γ A n c,γ B m k]] w fun e w'=>e=.returned (J g)∧σ w.heap.size w w':=by
 have kH:=qh h;have HNn:=qh HN;have h1:Jaw.wrap (2*(C:Int))=2*(C:Int):=Jbb _ (by omega);have h2:Jaw.wrap (2*(C:Int) - (n:Int))=2*(C:Int) - (n:Int):=Jbb _ (by omega);have h3:Jaw.wrap (2*(C:Int) - (n:Int)+(m:Int))=2*(C:Int) - (n:Int)+(m:Int):=Jbb _ (by omega);have h4:Jaw.wrap (2*(C:Int) - (n:Int)+(m:Int) - (f:Int))=2*(C:Int) - (n:Int)+(m:Int) - (f:Int):=Jbb _ (by omega)
 have hgb:-9223372036854775808≤g∧g≤9223372036854775807:=by
  rw[←hg];have q1:-(8000000:Int)≤(2*(C:Int) - n+m - f):=by omega
  have q2:(2*(C:Int) - n+m - f)≤8000000:=by omega
  generalize (2*(C:Int) - (n:Int)+m - f)=x at q1 q2;rcases Int.le_total 0 x with q|q
  ·rw[Jbp q];omega
  ·have e:x.tdiv 2= -((-x) / 2):=by rw[←Jbp (show(0:Int)≤-x by omega),Int.neg_tdiv,Int.neg_neg]
   rw[e];omega
 have h5:Jaw.wrap ((2*(C:Int) - (n:Int)+(m:Int) - (f:Int)).tdiv 2)=g:=by rw[hg];exact Jbb _ hgb
 clear h HN hg hgb;go_enter Tryz.func58,Tryz.ntmps58;have rD:((w.alloc (δ #[γ A n c,γ B m k] 25))).cell? ⟨w.heap.size,0,ε⟩=ζ (γ A n c):=(show Whole (w.alloc (δ #[γ A n c,γ B m k] 25)) (w.heap.size) (25) ([γ A n c,γ B m k]) from Whole.new2 (by first|rfl|simp)).cell (i:=0) rfl;have sW:((w.alloc (δ #[γ A n c,γ B m k] 25))).cell? ⟨w.heap.size,1,ε⟩=ζ (γ B m k):=(show Whole (w.alloc (δ #[γ A n c,γ B m k] 25)) (w.heap.size) (25) ([γ A n c,γ B m k]) from Whole.new2 (by first|rfl|simp)).cell (i:=1) rfl;go_wp2_with fail
 clear rD sW
 refine(HNn.out _ (kH.out.al (δ #[γ A n c,γ B m k] 25))).mono ?_
 rintro e w3 ⟨rfl,bA⟩;have pD:=qh ((kH.out.al (δ #[γ A n c,γ B m k] 25)).bl bA);have mY:=qh ((show Whole (w.alloc (δ #[γ A n c,γ B m k] 25)) (w.heap.size) (25) ([γ A n c,γ B m k]) from Whole.new2 (by first|rfl|simp)).bl bA);have jo:=qh (ag (aI (Θ _ w) (δ #[γ A n c,γ B m k] 25)) bA);clear kH;clear bA;go_wp2;go_ret;exact⟨by first|rfl|(rw[h5])|simp[h5],jo.out⟩
section
variable {A:Option Κ} {n c:Nat} {Vs:List VC} {B:Option Κ} {m k:Nat} {Es:List EC}
theorem MU (hf:aG Vs Es):∀W,bz W A n c Vs B m k Es→Ζ η 40 #[φ #[γ A n c,γ B m k]] W fun e w'=>∃A' c',e=.returned (γ A' (kp Vs Es) c')∧σ W.heap.size W w':=fun W h=>by
 refine(FL A n c Vs B m k Es W h hf).mono ?_
 rintro e w' ⟨A',c',X,rfl,-,hX,hb⟩;have hl:=congrArg List.length hX;rw[Ρ] at hl;rw[hl];exact⟨A',c',rfl,hb⟩
theorem JL (hf:aG Vs Es) (hg:mG Vs Es):∀W,bz W A n c Vs B m k Es→Ζ η 85 #[φ #[γ A n c,γ B m k]] W fun e w'=>e=.returned (Ξ #[J (n:Int),J (m:Int),J ((kp Vs Es+bF Vs:Nat):Int),J ((fg (dm Vs):Nat):Int)])∧σ W.heap.size W w':=fun W h=>by
 have hp:=hf.pre h hg;have h1:=hf.small h;exact MG A n c Vs B m k Es (kp Vs Es) (fg (dm Vs)) W h hp.n (by omega) (by have:=p8 hf;omega) (by have:=nR hf;omega) (MU hf) (fun W h=>FD A n c Vs B m k Es W h hf)
theorem Kb (hf:aG Vs Es) (hg:mG Vs Es):∀W,bz W A n c Vs B m k Es→Ζ η 58 #[φ #[γ A n c,γ B m k]] W fun e w'=>e=.returned (J (eM Vs Es))∧σ W.heap.size W w':=fun W h=>by
 have hp:=hf.pre h hg;have h1:=hf.small h;have h2:=wA Vs;have h3:=(zT h).1;exact FE A n c Vs B m k Es (kp Vs Es+bF Vs) (fg (dm Vs)) (eM Vs Es) W h hp.n (by omega) (by have:=p8 hf;omega) (by have:=nR hf;omega) (Io h) (JL hf hg)
end
end Go.Proofs.YtpdpbfmiahjiiaaGreat
