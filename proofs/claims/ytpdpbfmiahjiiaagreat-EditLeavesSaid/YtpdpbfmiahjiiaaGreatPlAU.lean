/- Several texts in one. -/
import Derived.Test.YtpdpbfmiahjiiaaGreatPlAB
import Derived.Test.YtpdpbfmiahjiiaaGreatPlAI
import Derived.Below
import Derived.BigQuiet
import Derived.Carry
import Derived.Deep.AppendLies
import Derived.Deep.CutBlock
import Derived.Deep.DeepCutAuto
import Derived.Deep.MidRow
import Derived.Deep.QuietTactic
import Derived.Deep.Slices
import Derived.Deep.WholeRow
import Derived.DeepKeys4
import Derived.Great.Walk
import Derived.IntWalk
import Derived.KernelRfl
import Derived.Laws.AppendOwnNone
import Derived.Laws.MakeOwn
import Derived.Laws.NewBlocks
import Derived.Laws.OwnMore
import Derived.Laws.RangeAny
import Derived.Laws.RangeString
import Derived.Laws.ResultCell
import Derived.Laws.Rows
import Derived.Laws.Tables
import Derived.Lib.Hide
import Derived.Lib.SmallJoins
import Derived.LoopIn
import Derived.LoopNIn
import Derived.LoopTactic
import Derived.Maps.AppendAt
import Derived.Maps.OwnIn
import Derived.Maps.OwnSet
import Derived.OpenShut
import Derived.OrdersHeld
import Derived.Outline
import Derived.OwnWalkIn
import Derived.ProofKit
import Derived.RangeFuncBound
import Derived.RangeFuncCalls
import Derived.RangeFuncLeaves
import Derived.RangeFuncNested
import Derived.Shelf.Abstract
import Derived.Shelf.RegionOpen
import Derived.Shelf.SlSortCmp.NoneTotal
import Derived.Shelf.SlSortCmp.WholeK
import Derived.SizedLaws
import Derived.TacticsInMore
import Derived.WalkKit
import Derived.WalkLawsBesides
import Derived.WalkSpells
import Derived.WideKeyArgs
set_option linter.unusedSectionVars false
set_option linter.unusedSimpArgs false
set_option linter.unusedVariables false
set_option maxRecDepth 100000
set_option maxHeartbeats 16000000
namespace Go.Proofs.YtpdpbfmiahjiiaaGreat
open Go.RowKit
open _root_.Go.Value renaming slice→γ,string→μ,pointer→υ,agg→φ,bool→Β,tuple→Ξ,slice→Ο,oneCell'→Τ
open _root_.Go.Obj renaming cells→δ
open _root_.Option renaming none→ε,some→ζ
open _root_.Go.Proofs.Tryz renaming prog→η
open _root_.List renaming getElem?_eq_getElem→θ,map_cons→ι,getElem?_eq_some_iff→ν,map_nil→π,getD_eq_getElem?_getD→χ,mem_of_getElem?→ω,length_append→Ε,take_of_length_le→Ι,length_map→Ρ,drop_eq_getElem_cons→Χ,getElem?_cons_succ→Jag,getElem?_cons_zero→Jah,getElem?_toArray→Jaj
open _root_.Go.Act renaming put→ξ
open _root_.Go renaming World→ο,Calls→Ζ,Addr→Κ,maxLen→Jap
open _root_.Bool renaming false→ρ
open _root_.Go.RowKit renaming Below→σ
open _root_.Nat renaming le_refl→Δ,add_zero→Jac,zero_le→Jas
open _root_.Go.RowKit.Below renaming refl→Θ
open _root_.Option.some renaming inj→Μ
open _root_.Go.Addr renaming add_lit→Ν
open _root_.Go.IntKind renaming i64→Jaw
open _root_.Prod.mk renaming injEq→Jba
open _root_.Go.IntWalk renaming i64_in→Jbb
open _root_.Int renaming tdiv_eq_ediv_of_nonneg→Jbp
open _root_.Go.World renaming block_lt_of_cell?→Jbx
theorem DR (A:Option Κ) (n c:Nat) (Vs:List VC) (B:Option Κ) (m k:Nat) (x1 x2:Int) (w:ο) (h:aS w w.heap.size 5 A n c (ao vC Vs)) (hn:n≤1000000):
 Ζ η 60 #[φ #[γ A n c,γ B m k],φ #[J x1,J x2]] w fun e w'=>e=.returned (J (fO 0 Vs (x1,x2)))∧σ w.heap.size w w':=by
 have HV:=qh h;have CQ:=qh (h.rlen aN (by decide));obtain⟨p,gp⟩:=az (fO 0 Vs (x1,x2));have HP:=qh gp;rw[gp];clear h gp;go_enter Tryz.func60,Tryz.ntmps60;go_upto_region 1 with fail
 obtain⟨W0,b0,b1,bJ,bS,cJ,aR,aQ,bn,uo,zl,j4,zY,fD,kY⟩:=D8 w 25 [γ A n c,γ B m k] 30 [J x1,J x2];rw[bJ,cJ,bS];clear bJ bS cJ;go_wp2;go_loopw [5] (fun si wr=>∃j:Nat,j≤n∧si=J j∧Hid (σ W0.heap.size W0 wr)∧Hid (p=fO j (Vs.drop j) (x1,x2))) (fun si _=>n - (intOf si).toNat)
 case atStart=>exact⟨0,by omega,rfl,qh (Θ _ _),qh HP.out.symm⟩
 case round=>
  obtain⟨j,hj,rfl,jX,HE⟩:=hrel;obtain⟨wo,dB⟩:=az wr;rw[dB] at jX ⊢;clear dB;have tc:=qh (aR.out.bl jX.out);have HYo:=qh (aQ.out.bl jX.out);have cb:=tc.out.cell (i:=0) rfl
  by_cases nF:j<n
  ·obtain⟨v,hx⟩:∃v,Vs[j]? =ζ v:=⟨_,θ (by have:=CQ.out;omega)⟩
   have qO:Vs.drop j=v::Vs.drop (j+1):=by
    rw[Χ (ν.1 hx).1,(ν.1 hx).2]
   have Af:=HE.out;rw[qO,fO] at Af;have sC:=qh Af;have HB:=qh (bn.out.trans (jX.out.mono bn.out.size));obtain⟨bb,off,rfl,bZ,bD⟩:=HV.out.place aN (by decide) (by omega);have cR:=HB.out;have q0:=bD j _ hx 0 _ rfl;have q1:=bD j _ hx 1 _ rfl;have q2:=bD j _ hx 2 _ rfl;have q3:=bD j _ hx 3 _ rfl;have q4:=bD j _ hx 4 _ rfl;simp only[Ν,Jac] at q0 q1 q2 q3 q4;have l0:=(cR.cell (p:=⟨bb,off+j*5,ε⟩) bZ).trans q0;have l1:=(cR.cell (p:=⟨bb,off+j*5+1,ε⟩) bZ).trans q1;have l2:=(cR.cell (p:=⟨bb,off+j*5+2,ε⟩) bZ).trans q2;have l3:=(cR.cell (p:=⟨bb,off+j*5+3,ε⟩) bZ).trans q3;have l4:=(cR.cell (p:=⟨bb,off+j*5+4,ε⟩) bZ).trans q4;clear cR q0 q1 q2 q3 q4;obtain⟨⟨i1,i2⟩,⟨rA,rn,rc,rL⟩,lb,at_⟩:=v;have he:=Ex i1 i2 x1 x2
   have hd:(i1==x1 && i2==x2)=decide (((i1,i2):I2)=(x1,x2)):=by
    by_cases h1:i1=x1<;>by_cases h2:i2=x2<;>simp[h1,h2]
   obtain⟨b,gb⟩:=az (decide (((i1,i2):I2)=(x1,x2)));rw[hd,gb] at he;have Hb:=qh gb;clear hx qO Af bD bZ HE hd gb;go_upto_region 4 with fail
   clear cb;have iM:=dX (i:=0) tc.out rfl;have ld1:=dX (i:=0) HYo.out rfl;have rQ:=dX (i:=1) HYo.out rfl;have BZ:∀w',Kept aT wo.drew w'→w'.cell? ⟨bb,off+j*5,ε⟩=ζ (J i1):=fun w' h=>h.nil_cell (show wo.drew.cell? _=_ from l0)
   have B4:∀w',Kept aT wo.drew w'→w'.cell? ⟨bb,off+j*5+1,ε⟩=ζ (J i2):=fun w' h=>h.nil_cell (show wo.drew.cell? _=_ from l1)
   refine aw (aT) (by kernel_rfl) ?_;refine aq 0 ?_;refine aq 1 ?_;refine aq 2 ?_;refine aq 3 ?_;refine aq 4 ?_;refine aq 5 ?_;refine aq 6 ?_;refine bN 7 (hy:=dm (by rfl) (fun w' aC=>bo .eql 30 (.tmp 18) (.tmp 19) 30 rfl rfl rfl (by kernel_rfl) (he w'))) (h:=?_);refine aG (by kernel_rfl) ?_ _;intro W8 ch;have pH:=qh (af (ba jX.out) ch);clear ch iM ld1 rQ BZ B4 l0 l1 l2 l3 l4;cases b with
   |true=>
    have hp:p=(j:Int):=by rw[sC.out,if_pos (of_decide_eq_true Hb.out)]
    clear sC;subst hp;go_wp2;go_ret;exact⟨rfl,bn.out.trans (pH.out.mono bn.out.size)⟩
   |false=>
    have HE4:Hid (p=fO (j+1) (Vs.drop (j+1)) (x1,x2)):=qh (by rw[sC.out,if_neg (of_decide_eq_false Hb.out)]);go_wp2;go_roundw
    case rel=>exact⟨j+1,by omega,by go_num,pH,HE4⟩
    case measure=>simp[intOf]<;>omega
  ·obtain rfl:n=j:=by omega
   have hp:p= -1:=by
    rw[HE.out,List.drop_eq_nil_of_le (by have:=CQ.out;omega)];rfl
   clear HE;subst hp;go_wp2;go_ret;exact⟨rfl,bn.out.trans (jX.out.mono bn.out.size)⟩
theorem AJ (A:Option Κ) (n c:Nat) (Vs:List VC) (B:Option Κ) (m k:Nat) (Es:List EC) (w:ο) (h:aO w A n c Vs B m k Es) (hf:aV Vs Es):
 Ζ η 61 #[φ #[γ A n c,γ B m k]] w fun e w'=>∃A2 c2,e=.returned (γ A2 n c2)∧aS w' w'.heap.size 1 A2 n c2 (ao n1 (fP Vs))∧σ w.heap.size w w':=by
 obtain⟨xa,R5,D9⟩:=hf.small h;have CQ:=qh (h.v.rlen aN (by decide));have Hlw:=qh (h.e.rlen cM (by decide));have HD:=qh h;obtain⟨P,gP⟩:=az (sX Vs Es);have HRn:Hid (dF P n n=fP Vs):=qh (by rw[←gP,←CQ.out];exact GD hf);have NO:Hid (P.length=m):=qh (by rw[←gP,sX,Ρ];exact Hlw.out)
 have RU:Hid (∀(i:Nat) (e:EC),Es[i]? =ζ e→∃a b:Nat,P[i]? =ζ (a,b)∧a<n∧b<n∧fO 0 Vs (jl Vs (e.1.1,e.1.2,0)).1=(a:Int)∧fO 0 Vs (jl Vs (e.1.1,e.1.2,1)).1=(b:Int)):=qh (fun i e he=>by
  obtain⟨a,v,hv,hd,ha⟩:=hf.dart (ω he) 0 (.inl rfl);obtain⟨b,u,hu,xN,hb⟩:=hf.dart (ω he) 1 (.inr rfl);have h1:=hf.stands hv hd;have h2:=hf.stands hu xN
  refine⟨a,b,?_,by rw[←CQ.out];exact ha,by rw[←CQ.out];exact hb,by rw[h1.1,h1.2],by rw[h2.1,h2.2]⟩
  rw[←gP,sX,List.getElem?_map,he,Option.map_some,hf.plc hv hd,hf.plc hu xN])
 have wD:Hid (∀a1 a2 a3 W,aO W A n c Vs B m k Es→Ζ η 29 #[φ #[γ A n c,γ B m k],φ #[J a1,J a2,J a3]] W fun e w'=>e=.returned (Ξ #[φ #[J (jl Vs (a1,a2,a3)).1.1,J (jl Vs (a1,a2,a3)).1.2],Β (jl Vs (a1,a2,a3)).2])∧σ W.heap.size W w'):=qh (fun a1 a2 a3 W h=>nv A n c Vs B m k Es a1 a2 a3 W h (by omega) (fun x hx=>by have:=D9 x hx;omega));have HPc:Hid (∀a1 a2 W,aO W A n c Vs B m k Es→Ζ η 60 #[φ #[γ A n c,γ B m k],φ #[J a1,J a2]] W fun e w'=>e=.returned (J (fO 0 Vs (a1,a2)))∧σ W.heap.size W w'):=qh (fun a1 a2 W h=>DR A n c Vs B m k a1 a2 W h.v (by omega));obtain⟨i0,hi,nz,j7,kZ⟩:=a6 GI;clear h hf D9 gP;go_enter Tryz.func61,Tryz.ntmps61;go_upto_region 1 with fail
 obtain⟨W0,b0,bJ,bS,aR,bn,uo,zl,j4⟩:=LJ w 25 [γ A n c,γ B m k];rw[bJ,bS];clear bJ bS;have Iv:Hid (Ow W0 W0.heap.size 3 1 (γ (ζ ⟨W0.heap.size,0,ε⟩) 0 0) 0 (ao n1 (wP 0)) (W0.alloc (δ #[] 3))):=qh (Ow.new_ (cs:=#[]) (Θ _ _) (Δ _) (Δ _) (Jas _) rfl);go_wp2;go_loopw [3,4] (fun so si wr=>∃j:Nat,j≤n∧si=J j∧Hid (Ow W0 W0.heap.size 3 1 so j (ao n1 (wP j)) wr)) (fun _ si _=>n - (intOf si).toNat)
 case atStart=>exact⟨0,by omega,rfl,Iv⟩
 case round=>
  clear Iv;obtain⟨j,hj,rfl,HO⟩:=hrel;have tc:=qh (aR.out.bl HO.out.below);have cb:=tc.out.cell (i:=0) rfl
  by_cases nF:j<n
  ·go_wp2_with (first
    |(at_builtin
      refine eZ rfl (.tmp 22) (.tmp 24) _ rfl _ 3 i0 _ 1 8 Tryz.underlying101 hi nz j7 kZ rfl (by decide) _ _ _ rfl (by exact HO.out.up (ax _ _)) _ (ζ ⟨wr.heap.size,0,ε⟩) 1 1 (n1 (j:Int)) rfl (by exact aS.of_whole (Whole.new_ _ _ _) rfl) (by simp[n1,Τ]) (by unfold Jap;omega) (by omega) ?_;intro v1 w1 eY fe;have lY:=qh eY;clear eY fe))
   go_roundw
   case rel=>
    refine⟨j+1,by omega,by go_num,?_⟩
    rw[MO,bX];exact lY
   case measure=>simp[intOf]<;>omega
  ·obtain rfl:n=j:=by omega
   obtain⟨SB,co,eso,-⟩:=HO.out.rds;subst eso;have Oc:Hid (wr.ownsRow W0.heap.size 3 1 (γ SB n co) n (ao n1 (dF P n 0))):=qh HO.out.own;have wR:=qh HO.out.below;obtain⟨wl,gwl⟩:=az wr;rw[gwl] at Oc wR cb ⊢;clear gwl HO tc;go_wp2;clear cb;go_loopw [5] (fun sj wr=>∃j:Nat,j≤n∧sj=J j∧Hid (σ W0.heap.size W0 wr)∧Hid (wr.ownsRow W0.heap.size 3 1 (γ SB n co) n (ao n1 (dF P n j)))) (fun sj _=>n - (intOf sj).toNat)
   case atStart=>exact⟨0,by omega,rfl,wR,Oc⟩
   case round=>
    clear wR Oc;obtain⟨j,hj,rfl,wR,Oc⟩:=hrel;obtain⟨wo,dB⟩:=az wr;rw[dB] at wR Oc ⊢;clear dB;have cb:=(aR.out.bl wR.out).cell (i:=0) rfl
    by_cases nF:j<n
    ·have Vh:Hid (wo.ownsRow W0.heap.size 3 1 (γ SB n co) n (ao n1 ((P.take 0).foldl uD (dF P n j)))):=Oc;clear Oc;go_wp2;clear cb;go_loopw [6] (fun si wr=>∃i:Nat,i≤m∧si=J i∧Hid (σ W0.heap.size W0 wr)∧Hid (wr.ownsRow W0.heap.size 3 1 (γ SB n co) n (ao n1 ((P.take i).foldl uD (dF P n j))))) (fun si _=>m - (intOf si).toNat)
     case atStart=>exact⟨0,by omega,rfl,wR,Vh⟩
     case round=>
      clear wR Vh;obtain⟨i,Mt,rfl,UY,Vu⟩:=hrel;obtain⟨wi,gwi⟩:=az wr;rw[gwi] at UY Vu ⊢;clear gwi;have Zi:=qh (aR.out.bl UY.out);have cb:=Zi.out.cell (i:=1) rfl
      by_cases him:i<m
      ·obtain⟨e,he⟩:∃e,Es[i]? =ζ e:=⟨_,θ (by have:=Hlw.out;omega)⟩
       obtain⟨pa,pb,hpi,Vf,Tg,Nk,Ph⟩:=RU.out i e he;have WS:=qh ((HD.out.bl bn.out).bl UY.out);obtain⟨bb,off,rfl,bZ,bD⟩:=WS.out.e.place cM (by decide) (by omega);have q0:=bD i _ he 0 _ rfl;have q1:=bD i _ he 1 _ rfl;simp only[Ν,Jac] at q0 q1;obtain⟨⟨e1,e2⟩,er⟩:=e;have HA0:=qh (wD.out e1 e2 0);have SO:=qh (wD.out e1 e2 1);replace Nk:fO 0 Vs (jl Vs (e1,e2,0)).1=(pa:Int):=Nk;replace Ph:fO 0 Vs (jl Vs (e1,e2,1)).1=(pb:Int):=Ph;obtain⟨⟨⟨p1,p2⟩,pk⟩,gp⟩:∃z,jl Vs (e1,e2,0)=z:=⟨_,rfl⟩
       obtain⟨⟨⟨s1,s2⟩,sk⟩,gs⟩:∃z,jl Vs (e1,e2,1)=z:=⟨_,rfl⟩
       rw[gp] at HA0 Nk;rw[gs] at SO Ph;have xz:=qh (HPc.out p1 p2);have ES:=qh (HPc.out s1 s2);rw[show fO 0 Vs (p1,p2)=(pa:Int) from Nk] at xz;rw[show fO 0 Vs (s1,s2)=(pb:Int) from Ph] at ES;have Hpi:=qh hpi;have mS:Hid (∀W,σ wi.heap.size wi W→W.cell? ⟨b0,0,ε⟩=ζ (γ A n c)∧W.cell? ⟨b0,1,ε⟩=ζ (γ (ζ ⟨bb,off,ε⟩) m k)∧W.cell? ⟨bb,off+i*4,ε⟩=ζ (J e1)∧W.cell? ⟨bb,off+i*4+1,ε⟩=ζ (J e2)):=qh (fun W hb=>⟨(Zi.out.bl hb).cell (i:=0) rfl,(Zi.out.bl hb).cell (i:=1) rfl,(hb.cell (p:=⟨bb,off+i*4,ε⟩) (Jbx _ _ q0)).trans q0,(hb.cell (p:=⟨bb,off+i*4+1,ε⟩) (Jbx _ _ q1)).trans q1⟩);have Jh:Hid (∀W,Ext wi.drew W→W.cell? ⟨b0,0,ε⟩=ζ (γ A n c)∧W.cell? ⟨b0,1,ε⟩=ζ (γ (ζ ⟨bb,off,ε⟩) m k)∧W.cell? ⟨bb,off+i*4,ε⟩=ζ (J e1)∧W.cell? ⟨bb,off+i*4+1,ε⟩=ζ (J e2)):=qh (fun W hb=>mS.out W (af (ba (Θ _ _)) hb));clear he Nk Ph gp gs bZ bD q0 q1 hpi;go_upto_region 12 with fail
       clear cb;refine fJ 13 11 (dS wi.heap.size) (F8 [ζ (φ #[γ A n c,γ (ζ ⟨bb,off,ε⟩) m k]),ζ (υ (ζ ⟨b0,1,ε⟩)),ζ (γ (ζ ⟨bb,off,ε⟩) m k),ζ (J (i:Int)),ζ (υ (ζ ⟨bb,off+i*4,ε⟩)),ζ (υ (ζ ⟨bb,off+i*4,ε⟩)),ζ (φ #[J e1,J e2]),ζ (φ #[J e1,J e2,J 0]),ζ (Ξ #[φ #[J p1,J p2],Β pk]),ζ (Ξ #[φ #[J p1,J p2],Β pk]),ζ (φ #[J p1,J p2]),ζ (Β pk),ε] 12 wi.heap.size 30 [J 0,J 0]) (Ext wi.drew) (by kernel_rfl) (by kernel_rfl) (by kernel_rfl) (by kernel_rfl) (by kernel_rfl) (by kernel_rfl) (by simp only[Jaj,Jag,Jah];exact rfl) (by kernel_rfl) (by kernel_rfl) (by kernel_rfl) ?_ (fun i v w1 w2 h hx=>yk i v w1 w2 h hx) (fun _ _ h k=>h.trans k) (Ext.refl _) ?_ ?_ ?_
       ·exact fun _ _ _ _ h=>h
       ·intro i Mt;have jc:i=0∨i=1∨i=2∨i=3∨i=4∨i=5∨i=6∨i=7∨i=8∨i=9∨i=10∨i=11∨i=12:=by omega
        rcases jc with rfl|rfl|rfl|rfl|rfl|rfl|rfl|rfl|rfl|rfl|rfl|rfl|rfl
        ·refine aL ?_;intro x y hg aH;obtain⟨tT,pC,nD,tW⟩:=Jh.out _ hg;simp only[aM,ι,π,aB,ξ,ak,aj,ah];refine .inl ⟨by rfl,?_⟩;go_simp;exact⟨Ext.refl _,rfl⟩
        ·refine aL ?_;intro x y hg aH;simp only[aM,ι,π,aB,ξ,ak,aj,ah];refine .inl ⟨by rfl,?_⟩;go_simp;exact⟨Ext.refl _,rfl⟩
        ·refine aL ?_;intro x y hg aH;have d1:x 1=υ (ζ ⟨b0,1,ε⟩):=aH 1 (by decide);obtain⟨tT,pC,nD,tW⟩:=Jh.out _ hg;simp only[aM,ι,π,aB,ξ,ak,aj,ah];simp only[d1];refine .inl ⟨by rfl,?_⟩;go_simp;exact⟨Ext.refl _,rfl⟩
        ·refine aL ?_;intro x y hg aH;simp only[aM,ι,π,aB,ξ,ak,aj,ah];refine .inl ⟨by rfl,?_⟩;go_simp;exact⟨Ext.refl _,rfl⟩
        ·refine aL ?_;intro x y hg aH;have d2:x 2=γ (ζ ⟨bb,off,ε⟩) m k:=aH 2 (by decide);have d3:x 3=J (i:Int):=aH 3 (by decide);simp only[aM,ι,π,aB,ξ,ak,aj,ah];simp only[d2,d3];refine .inl ⟨by rfl,?_⟩;go_simp;exact⟨Ext.refl _,rfl⟩
        ·refine aL ?_;intro x y hg aH;have d4:x 4=υ (ζ ⟨bb,off+i*4,ε⟩):=aH 4 (by decide);simp only[aM,ι,π,aB,ξ,ak,aj,ah];simp only[d4];refine .inl ⟨by rfl,?_⟩;go_simp;exact⟨Ext.refl _,rfl⟩
        ·refine aL ?_;intro x y hg aH;have d5:x 5=υ (ζ ⟨bb,off+i*4,ε⟩):=aH 5 (by decide);obtain⟨tT,pC,nD,tW⟩:=Jh.out _ hg;simp only[aM,ι,π,aB,ξ,ak,aj,ah];simp only[d5];refine .inl ⟨by rfl,?_⟩;go_simp;exact⟨Ext.refl _,rfl⟩
        ·refine aL ?_;intro x y hg aH;have d6:x 6=φ #[J e1,J e2]:=aH 6 (by decide);simp only[aM,ι,π,aB,ξ,ak,aj,ah];simp only[d6];refine .inl ⟨by rfl,?_⟩;go_simp;exact⟨Ext.refl _,rfl⟩
        ·refine aL ?_;intro x y hg aH;have d0:x 0=φ #[γ A n c,γ (ζ ⟨bb,off,ε⟩) m k]:=aH 0 (by decide);have d7:x 7=φ #[J e1,J e2,J 0]:=aH 7 (by decide);simp only[aM,ι,π,aB,ξ,ak,aj,ah];simp only[d0,d7];refine .inl ⟨by rfl,dy (by go_simp;first|done|exact⟨rfl,rfl⟩|with_reducible rfl) ?_⟩
         refine(HA0.out y (WS.out.dr.bl hg)).mono ?_
         rintro e w2 ⟨rfl,hb⟩;exact⟨_,rfl,hb,rfl⟩
        ·refine aL ?_;intro x y hg aH;have d8:x 8=Ξ #[φ #[J p1,J p2],Β pk]:=aH 8 (by decide);simp only[aM,ι,π,aB,ξ,ak,aj,ah];simp only[d8];refine .inl ⟨by rfl,?_⟩;go_simp;exact⟨Ext.refl _,rfl⟩
        ·refine aL ?_;intro x y hg aH;have d9:x 9=Ξ #[φ #[J p1,J p2],Β pk]:=aH 9 (by decide);simp only[aM,ι,π,aB,ξ,ak,aj,ah];simp only[d9];refine .inl ⟨by rfl,?_⟩;go_simp;exact⟨Ext.refl _,rfl⟩
        ·refine aL ?_;intro x y hg aH;have d9:x 9=Ξ #[φ #[J p1,J p2],Β pk]:=aH 9 (by decide);simp only[aM,ι,π,aB,ξ,ak,aj,ah];simp only[d9];refine .inl ⟨by rfl,?_⟩;go_simp;exact⟨Ext.refl _,rfl⟩
        ·refine aL ?_;intro x y hg aH;simp only[aM,ι,π,aB,ξ,ak,aj,ah];refine .inl ⟨by rfl,gZ (w':=y.alloc (δ #[J 0,J 0] 30)) (by go_simp;first|done|exact rfl|exact⟨rfl,rfl⟩) (ax _ _) ?_⟩;exact⟨y.heap.size,rfl,hg.size,Whole.new_ _ _ [J 0,J 0]⟩
       ·intro x y hg bW;have d9:x 9=Ξ #[φ #[J p1,J p2],Β pk]:=bW 9 (by decide) (by decide);simp only[aM,ι,π,aB,ξ,ak,aj,ah];simp only[d9]
        refine⟨Β pk,?_,rfl⟩
        apply dm;rfl;intro w' aC;go_simp;(try with_reducible rfl)
       intro x y hg bW;have d10:x 10=φ #[J p1,J p2]:=bW 10 (by decide);have d11:x 11=Β pk:=bW 11 (by decide);obtain⟨gr,d12,AD,wT⟩:∃g,x 12=υ (ζ ⟨g,0,ε⟩)∧wi.heap.size≤g∧Whole y g 30 [J 0,J 0]:=bW 12 (by decide)
       simp only[aM,ι,π,aB,ξ,ak,aj,ah];simp only[d10,d11,d12];have mV:=qh wT;have tg:=qh (af (ba (Θ _ wi)) hg);have jD:Hid (wi.heap.size≤gr):=qh AD;have Uv:Hid (wi.heap.size≤wi.heap.size):=qh (by omega);clear hg bW d10 d11 d12 AD wT;refine lp 13 ?_;intro w' aC
       refine⟨w'.setRow gr #[J p1,J p2],cn 30 (.tmp 7) (.tmp 50) rfl gr rfl [J p1,J p2] rfl 30 [J 0,J 0] (mV.out.bl aC) (by kernel_rfl) rfl (by simp[Τ]),eD (show wi.heap.size≤gr by have:=jD.out;have:=Uv.out;omega) _,?_⟩
       have qp:Hid (Whole (w'.setRow gr #[J p1,J p2]) gr 30 [J p1,J p2]):=qh (Whole.row (mV.out.bl aC) [J p1,J p2]);have j6:Hid (σ wi.heap.size wi (w'.setRow gr #[J p1,J p2])):=qh (eB (af tg.out aC) jD.out _);obtain⟨V1,jr⟩:=az (w'.setRow gr #[J p1,J p2]);rw[jr] at qp j6 ⊢;clear aC jr mV tg;refine aq 14 ?_;refine aG (by kernel_rfl) ?_ _;intro W8 ch;have pG:=qh (qp.out.bl ch);have jX:=qh (af j6.out ch);clear ch qp j6 Uv;obtain⟨ga,gga⟩:=az gr;rw[gga] at pG ⊢;obtain⟨wa,gwa⟩:=az W8;rw[gwa] at pG jX ⊢;clear gga gwa Jh jD gr;have HWa:=pG;have zq:=jX;have UI:=qh (WS.out.bl zq.out);have Jh:Hid (∀W,Ext wa.drew W→W.cell? ⟨b0,0,ε⟩=ζ (γ A n c)∧W.cell? ⟨b0,1,ε⟩=ζ (γ (ζ ⟨bb,off,ε⟩) m k)∧W.cell? ⟨bb,off+i*4,ε⟩=ζ (J e1)∧W.cell? ⟨bb,off+i*4+1,ε⟩=ζ (J e2)):=qh (fun W hb=>mS.out W (af zq.out (af (ba (Θ _ _)) hb)));clear pG jX;go_upto_region 13 with fail
       refine fJ 13 11 (dS wa.heap.size) (F8 [ζ (φ #[γ A n c,γ (ζ ⟨bb,off,ε⟩) m k]),ζ (υ (ζ ⟨b0,1,ε⟩)),ζ (γ (ζ ⟨bb,off,ε⟩) m k),ζ (J (i:Int)),ζ (υ (ζ ⟨bb,off+i*4,ε⟩)),ζ (υ (ζ ⟨bb,off+i*4,ε⟩)),ζ (φ #[J e1,J e2]),ζ (φ #[J e1,J e2,J 1]),ζ (Ξ #[φ #[J s1,J s2],Β sk]),ζ (Ξ #[φ #[J s1,J s2],Β sk]),ζ (φ #[J s1,J s2]),ζ (Β sk),ε] 12 wa.heap.size 30 [J 0,J 0]) (Ext wa.drew) (by kernel_rfl) (by kernel_rfl) (by kernel_rfl) (by kernel_rfl) (by kernel_rfl) (by kernel_rfl) (by simp only[Jaj,Jag,Jah];exact rfl) (by kernel_rfl) (by kernel_rfl) (by kernel_rfl) ?_ (fun i v w1 w2 h hx=>yk i v w1 w2 h hx) (fun _ _ h k=>h.trans k) (Ext.refl _) ?_ ?_ ?_
       ·exact fun _ _ _ _ h=>h
       ·intro i Mt;have jc:i=0∨i=1∨i=2∨i=3∨i=4∨i=5∨i=6∨i=7∨i=8∨i=9∨i=10∨i=11∨i=12:=by omega
        rcases jc with rfl|rfl|rfl|rfl|rfl|rfl|rfl|rfl|rfl|rfl|rfl|rfl|rfl
        ·refine aL ?_;intro x y hg aH;obtain⟨tT,pC,nD,tW⟩:=Jh.out _ hg;simp only[aM,ι,π,aB,ξ,ak,aj,ah];refine .inl ⟨by rfl,?_⟩;go_simp;exact⟨Ext.refl _,rfl⟩
        ·refine aL ?_;intro x y hg aH;simp only[aM,ι,π,aB,ξ,ak,aj,ah];refine .inl ⟨by rfl,?_⟩;go_simp;exact⟨Ext.refl _,rfl⟩
        ·refine aL ?_;intro x y hg aH;have d1:x 1=υ (ζ ⟨b0,1,ε⟩):=aH 1 (by decide);obtain⟨tT,pC,nD,tW⟩:=Jh.out _ hg;simp only[aM,ι,π,aB,ξ,ak,aj,ah];simp only[d1];refine .inl ⟨by rfl,?_⟩;go_simp;exact⟨Ext.refl _,rfl⟩
        ·refine aL ?_;intro x y hg aH;simp only[aM,ι,π,aB,ξ,ak,aj,ah];refine .inl ⟨by rfl,?_⟩;go_simp;exact⟨Ext.refl _,rfl⟩
        ·refine aL ?_;intro x y hg aH;have d2:x 2=γ (ζ ⟨bb,off,ε⟩) m k:=aH 2 (by decide);have d3:x 3=J (i:Int):=aH 3 (by decide);simp only[aM,ι,π,aB,ξ,ak,aj,ah];simp only[d2,d3];refine .inl ⟨by rfl,?_⟩;go_simp;exact⟨Ext.refl _,rfl⟩
        ·refine aL ?_;intro x y hg aH;have d4:x 4=υ (ζ ⟨bb,off+i*4,ε⟩):=aH 4 (by decide);simp only[aM,ι,π,aB,ξ,ak,aj,ah];simp only[d4];refine .inl ⟨by rfl,?_⟩;go_simp;exact⟨Ext.refl _,rfl⟩
        ·refine aL ?_;intro x y hg aH;have d5:x 5=υ (ζ ⟨bb,off+i*4,ε⟩):=aH 5 (by decide);obtain⟨tT,pC,nD,tW⟩:=Jh.out _ hg;simp only[aM,ι,π,aB,ξ,ak,aj,ah];simp only[d5];refine .inl ⟨by rfl,?_⟩;go_simp;exact⟨Ext.refl _,rfl⟩
        ·refine aL ?_;intro x y hg aH;have d6:x 6=φ #[J e1,J e2]:=aH 6 (by decide);simp only[aM,ι,π,aB,ξ,ak,aj,ah];simp only[d6];refine .inl ⟨by rfl,?_⟩;go_simp;exact⟨Ext.refl _,rfl⟩
        ·refine aL ?_;intro x y hg aH;have d0:x 0=φ #[γ A n c,γ (ζ ⟨bb,off,ε⟩) m k]:=aH 0 (by decide);have d7:x 7=φ #[J e1,J e2,J 1]:=aH 7 (by decide);simp only[aM,ι,π,aB,ξ,ak,aj,ah];simp only[d0,d7];refine .inl ⟨by rfl,dy (by go_simp;first|done|exact⟨rfl,rfl⟩|with_reducible rfl) ?_⟩
         refine(SO.out y (UI.out.dr.bl hg)).mono ?_
         rintro e w2 ⟨rfl,hb⟩;exact⟨_,rfl,hb,rfl⟩
        ·refine aL ?_;intro x y hg aH;have d8:x 8=Ξ #[φ #[J s1,J s2],Β sk]:=aH 8 (by decide);simp only[aM,ι,π,aB,ξ,ak,aj,ah];simp only[d8];refine .inl ⟨by rfl,?_⟩;go_simp;exact⟨Ext.refl _,rfl⟩
        ·refine aL ?_;intro x y hg aH;have d9:x 9=Ξ #[φ #[J s1,J s2],Β sk]:=aH 9 (by decide);simp only[aM,ι,π,aB,ξ,ak,aj,ah];simp only[d9];refine .inl ⟨by rfl,?_⟩;go_simp;exact⟨Ext.refl _,rfl⟩
        ·refine aL ?_;intro x y hg aH;have d9:x 9=Ξ #[φ #[J s1,J s2],Β sk]:=aH 9 (by decide);simp only[aM,ι,π,aB,ξ,ak,aj,ah];simp only[d9];refine .inl ⟨by rfl,?_⟩;go_simp;exact⟨Ext.refl _,rfl⟩
        ·refine aL ?_;intro x y hg aH;simp only[aM,ι,π,aB,ξ,ak,aj,ah];refine .inl ⟨by rfl,gZ (w':=y.alloc (δ #[J 0,J 0] 30)) (by go_simp;first|done|exact rfl|exact⟨rfl,rfl⟩) (ax _ _) ?_⟩;exact⟨y.heap.size,rfl,hg.size,Whole.new_ _ _ [J 0,J 0]⟩
       ·intro x y hg bW;have d9:x 9=Ξ #[φ #[J s1,J s2],Β sk]:=bW 9 (by decide) (by decide);simp only[aM,ι,π,aB,ξ,ak,aj,ah];simp only[d9]
        refine⟨Β sk,?_,rfl⟩
        apply dm;rfl;intro w' aC;go_simp;(try with_reducible rfl)
       intro x y hg bW;have d10:x 10=φ #[J s1,J s2]:=bW 10 (by decide);have d11:x 11=Β sk:=bW 11 (by decide);obtain⟨gr,d12,AD,wT⟩:∃g,x 12=υ (ζ ⟨g,0,ε⟩)∧wa.heap.size≤g∧Whole y g 30 [J 0,J 0]:=bW 12 (by decide)
       simp only[aM,ι,π,aB,ξ,ak,aj,ah];simp only[d10,d11,d12];have mV:=qh wT;have tg:=qh (af (ba (Θ _ wa)) hg);have jD:Hid (wa.heap.size≤gr):=qh AD;have Uv:Hid (wa.heap.size≤wa.heap.size):=qh (by omega);clear hg bW d10 d11 d12 AD wT;refine lp 13 ?_;intro w' aC
       refine⟨w'.setRow gr #[J s1,J s2],cn 30 (.tmp 9) (.tmp 62) rfl gr rfl [J s1,J s2] rfl 30 [J 0,J 0] (mV.out.bl aC) (by kernel_rfl) rfl (by simp[Τ]),eD (show wa.heap.size≤gr by have:=jD.out;have:=Uv.out;omega) _,?_⟩
       have qp:Hid (Whole (w'.setRow gr #[J s1,J s2]) gr 30 [J s1,J s2]):=qh (Whole.row (mV.out.bl aC) [J s1,J s2]);have j6:Hid (σ wa.heap.size wa (w'.setRow gr #[J s1,J s2])):=qh (eB (af tg.out aC) jD.out _);obtain⟨V1,jr⟩:=az (w'.setRow gr #[J s1,J s2]);rw[jr] at qp j6 ⊢;clear aC jr mV tg;refine aq 14 ?_;refine aG (by kernel_rfl) ?_ _;intro W8 ch;have pG:=qh (qp.out.bl ch);have jX:=qh (af j6.out ch);clear ch qp j6 Uv;have HWb:=pG;have Sr:=qh (HWa.out.bl jX.out);have Iz:=qh (af zq.out jX.out);have SM:=qh (WS.out.bl Iz.out);obtain⟨c0,c1,-,-⟩:=mS.out _ Iz.out;have k0:=Sr.out.cell (i:=0) rfl;have k1:=Sr.out.cell (i:=1) rfl;clear pG jX Jh jD HWa zq UI;go_wp2_with fail
       clear c0 c1 k0 k1
       refine(xz.out _ SM.out).mono ?_
       rintro e w9 ⟨rfl,nM⟩;have yB:=qh (af Iz.out nM);have tz:=qh (SM.out.bl nM);have Y6:=qh (HWb.out.bl nM);obtain⟨c0,c1,-,-⟩:=mS.out _ yB.out;have k0:=Y6.out.cell (i:=0) rfl;have k1:=Y6.out.cell (i:=1) rfl;clear nM Iz SM HWb Sr;go_wp2_with fail
       clear c0 c1 k0 k1
       refine(ES.out _ tz.out).mono ?_
       rintro e vG ⟨rfl,fF⟩;have uz:=qh (af yB.out fF);have Nf:=qh (bF Vu.out uz.out);have Il:=qh (af UY.out uz.out);clear fF yB tz Y6 uz mS Vu;have sw:((P.take i).foldl uD (dF P n j)).length=n:=by rw[wx,mX]
       have Gd:(P.take (i+1)).foldl uD (dF P n j)=uD ((P.take i).foldl uD (dF P n j)) (pa,pb):=by
        rw[List.take_add_one,Hpi.out,List.foldl_append];rfl
       obtain⟨L,gL⟩:=az ((P.take i).foldl uD (dF P n j));rw[gL] at sw Gd Nf;have hxa:L[pa]? =ζ (L.getD pa 0):=by rw[χ,θ (by omega)];rfl
       have hxb:L[pb]? =ζ (L.getD pb 0):=by rw[χ,θ (by omega)];rfl
       obtain⟨gq,junk,eq,gi,hw,hc,-,-⟩:=jI (i:=0) (y:=0) (u:=J 0) vr Nf.out hxa Vf (by omega) rfl;subst eq;obtain⟨WM,abH,WG,-,jU,Ts,-,-⟩:=jI (i:=0) (y:=0) (u:=J 0) vr Nf.out hxb Tg (by omega) rfl
       obtain rfl:gq=WM:=by
        injection WG with WG
        injection WG
       simp only[Nat.mul_one,Jac] at hc Ts;obtain⟨va,Yd⟩:=az (L.getD pa 0);obtain⟨vb,gvb⟩:=az (L.getD pb 0);replace hc:vG.cell? ⟨gq,pa,ε⟩=ζ (J va):=by rw[hc,←Yd];rfl
       replace Ts:vG.cell? ⟨gq,pb,ε⟩=ζ (J vb):=by rw[Ts,←gvb];rfl
       obtain⟨mn,gmn⟩:=az (min va vb);have Ez:Hid (uD L (pa,pb)=(L.set pa mn).set pb mn):=qh (by rw[uD,Yd,gvb,gmn]);have t0:decide ((0:Int)≤(pa:Int))=true:=decide_eq_true (by omega);have t1:decide ((0:Int)≤(pb:Int))=true:=decide_eq_true (by omega);have Hc:=qh hc;have Hcb:=qh Ts;have N0:=qh gi;have Hll:=qh sw;have Hst:=qh Gd;have Hxa:=qh hxa;clear gL hxa hxb gi hw jU WG hc Ts sw Gd Yd gvb;go_upto_region 17 with fail
       have iM:∀w',Kept aT vG.drew w'→w'.cell? ⟨gq,pa,ε⟩=ζ (J va):=fun w' h=>h.nil_cell (show vG.drew.cell? _=_ from Hc.out)
       have ld1:∀w',Kept aT vG.drew w'→w'.cell? ⟨gq,pb,ε⟩=ζ (J vb):=fun w' h=>h.nil_cell (show vG.drew.cell? _=_ from Hcb.out)
       refine aw (aT) (by kernel_rfl) ?_;refine aq 0 ?_;refine aq 1 ?_;refine aq 2 ?_;refine aq 3 ?_;refine aq 4 ?_;refine aq 5 ?_;refine aq 6 ?_;refine aq 7 ?_;refine aq 8 ?_;refine aq 9 ?_;refine aG (by kernel_rfl) ?_ _;intro W8 ch;have Bp:=qh (bF Nf.out (af (ba (Θ _ _)) ch));have pH:=qh (af (ba Il.out) ch);clear ch Nf Il iM ld1 Hc Hcb;obtain⟨WQ,ad6,XK,Ur,-,tN,yu,ho⟩:=jI (i:=0) (y:=mn) (u:=J mn) vr Bp.out Hxa.out Vf (by omega) rfl
       obtain rfl:gq=WQ:=by
        injection XK with XK
        injection XK
       have hyb:(L.set pa mn)[pb]? =ζ ((L.set pa mn).getD pb 0):=by rw[χ,θ (by rw[List.length_set,Hll.out];exact Tg)];rfl
       obtain⟨XT,ad4,Xv,-,iu,Ww,Xe,wC⟩:=jI (i:=0) (y:=mn) (u:=J mn) vr ho hyb Tg (by omega) rfl
       obtain rfl:gq=XT:=by
        injection Xv with Xv
        injection Xv
       simp only[Nat.mul_one,Jac] at tN yu ho Ww Xe wC;rw[←Ez.out,←Hst.out] at wC;obtain⟨vc,gvc⟩:=az ((L.set pa mn).getD pb 0);obtain⟨vd,gvd⟩:=az (L.getD pa 0);replace tN:W8.cell? ⟨gq,pa,ε⟩=ζ (J vd):=by rw[tN,←gvd];rfl
       replace Ww:(W8.setCell ⟨gq,pa,ε⟩ (J mn)).cell? ⟨gq,pb,ε⟩=ζ (J vc):=by rw[Ww,←gvc];rfl
       have j0:=qh wC;have cY:=qh ((pH.out.setCell (p:=⟨gq,pa,ε⟩) Ur (J mn)).setCell (p:=⟨gq,pb,ε⟩) Ur (J mn));clear XK Xv ho hyb iu wC gvc gvd Bp pH Hll Hst Hxa Ez;go_wp2;go_roundw
       case rel=>exact⟨i+1,by omega,by go_num,cY,j0⟩
       case measure=>simp[intOf]<;>omega
      ·obtain rfl:m=i:=by omega
       have hO:=Vu.out;rw[Ι (by rw[NO.out];exact Δ _)] at hO;have Nf:Hid (wi.ownsRow W0.heap.size 3 1 (γ SB n co) n (ao n1 (dF P n (j+1)))):=qh hO;clear hO Vu;go_wp2;go_roundw
       case rel=>exact⟨j+1,by omega,by go_num,UY,Nf⟩
       case measure=>simp[intOf]<;>omega
    ·obtain rfl:n=j:=by omega
     have hO:=Oc.out;rw[HRn.out] at hO;have Q9:=qh hO;clear hO Oc;go_wp2;go_ret;exact⟨SB,co,rfl,bk Q9.out,bn.out.trans (wR.out.mono bn.out.size)⟩
theorem qu (A:Option Κ) (n c:Nat) (Vs:List VC) (B:Option Κ) (m k:Nat) (Es:List EC) (w:ο) (h:aO w A n c Vs B m k Es) (hf:aV Vs Es):
 Ζ η 41 #[φ #[γ A n c,γ B m k]] w fun e w'=>e=.returned (J ((mN (fP Vs):Nat):Int))∧σ w.heap.size w w':=by
 obtain⟨xa,R5,D9⟩:=hf.small h;have CQ:=qh (h.v.rlen aN (by decide));have HD:=qh h;have af2:=qh (Ol Vs);obtain⟨L,gL⟩:=az (fP Vs);have S6:Hid (L.length=n):=qh (by rw[←gL,ry];exact CQ.out);have HLb:Hid (∀W,aO W A n c Vs B m k Es→Ζ η 61 #[φ #[γ A n c,γ B m k]] W fun e w'=>∃A2 c2,e=.returned (γ A2 n c2)∧aS w' w'.heap.size 1 A2 n c2 (ao n1 L)∧σ W.heap.size W w'):=qh (fun W h=>gL▸AJ A n c Vs B m k Es W h hf);have Xj:mN (fP Vs)=rk L n:=by rw[mN,ry,CQ.out,gL];rfl
 rw[Xj];clear h hf D9 gL Xj;go_enter Tryz.func41,Tryz.ntmps41;go_upto_region 1 with fail
 obtain⟨W0,b0,bJ,bS,aR,bn,uo,zl,j4⟩:=LJ w 25 [γ A n c,γ B m k];rw[bJ,bS];clear bJ bS;have c0:=aR.out.cell (i:=0) rfl;have c1:=aR.out.cell (i:=1) rfl;go_wp2_with fail
 clear c0 c1
 refine(HLb.out _ (HD.out.bl bn.out)).mono ?_
 rintro e w3 ⟨A2,c2,rfl,rz,bw⟩;have mc:=qh rz;have cY:=qh (af bn.out bw);clear rz bw;go_wp2;go_loopw [4,5] (fun sn si wr=>∃j:Nat,j≤n∧si=J j∧sn=J ((rk L j:Nat):Int)∧Hid (σ w3.heap.size w3 wr)) (fun _ si _=>n - (intOf si).toNat)
 case atStart=>exact⟨0,by omega,rfl,rfl,qh (Θ _ _)⟩
 case round=>
  obtain⟨j,hj,rfl,rfl,jX⟩:=hrel
  by_cases nF:j<n
  ·obtain⟨x,hx⟩:∃x,L[j]? =ζ x:=⟨_,θ (by have:=S6.out;omega)⟩
   obtain⟨bb,off,rfl,bZ,bD⟩:=mc.out.place vr (by decide) (by omega);have q0:=bD j x hx 0 _ rfl;simp only[Ν,Jac,Nat.mul_one] at q0;have l0:=(jX.out.cell (p:=⟨bb,off+j,ε⟩) bZ).trans q0
   have hk:rk L (j+1)=rk L j+(if x==(j:Int) then 1 else 0):=by
    rw[NV,nH,χ,hx];rfl
   have hkj:rk L j≤j:=by rw[rk];have:=List.countP_le_length (p:=nH L) (l:=List.range j);simpa using this
   obtain⟨t,gt⟩:=az (rk L j);rw[gt] at hk hkj;rw[gt];obtain⟨b,gb⟩:=az ((x==(j:Int)));rw[gb] at hk;have Hk:=qh hk;clear hx bZ bD q0 hk gt;cases b with
   |true=>
    go_wp2;go_roundw
    case rel=>exact⟨j+1,by omega,by go_num,by rw[Hk.out];go_num,jX⟩
    case measure=>simp[intOf]<;>omega
   |false=>
    go_wp2;go_roundw
    case rel=>exact⟨j+1,by omega,by go_num,by rw[Hk.out];rfl,jX⟩
    case measure=>simp[intOf]<;>omega
  ·obtain rfl:n=j:=by omega
   go_wp2;go_ret;exact⟨rfl,cY.out.trans (jX.out.mono cY.out.size)⟩
theorem AZ (A:Option Κ) (n c:Nat) (Vs:List VC) (B:Option Κ) (m k:Nat) (Es:List EC) (w:ο) (h:aO w A n c Vs B m k Es) (hm:m≤1000000):
 Ζ η 63 #[φ #[γ A n c,γ B m k]] w fun e w'=>∃A' c',e=.returned (γ A' (2*m) c')∧w'.ownsRow w.heap.size 32 3 (γ A' (2*m) c') (2*m) (aA (wM Es))∧σ w.heap.size w w':=by
 have HE:=qh h.e;have Hle:=qh (h.e.rlen cM (by decide));obtain⟨i0,EV,nz,j7,kZ⟩:=a6 nu;clear h;go_enter Tryz.func63,Tryz.ntmps63;go_upto_region 1 with fail
 obtain⟨W0,b0,bJ,bS,aR,bn,uo,zl,j4⟩:=LJ w 25 [γ A n c,γ B m k];rw[bJ,bS];clear bJ bS;have aQ:=qh (aR.out.al (δ #[] 32));have lY:Hid (Ow w (b0+1) 32 3 (γ (ζ ⟨W0.heap.size,0,ε⟩) 0 0) 0 [] (W0.alloc (δ #[] 32))):=qh (Ow.new_ (cs:=#[]) bn.out (by have:=j4.out;omega) (by have:=aR.out.lt;omega) (by unfold Jap;omega) rfl);go_wp2;clear aR bn;obtain⟨W1,a7⟩:=az (W0.alloc (δ #[] 32));obtain⟨g1,Ml⟩:=az W0.heap.size;rw[a7] at aQ lY ⊢;rw[Ml] at lY ⊢;clear a7 Ml;go_loopw [3,4] (fun sl si wr=>∃(i:Nat) (A2:Option Κ) (c2:Nat),i≤m∧si=J i∧sl=γ A2 (2*i) c2∧Hid (Whole wr b0 25 [γ A n c,γ B m k])∧Hid (Ow w (b0+1) 32 3 (γ A2 (2*i) c2) (2*i) (aA (wM (Es.take i))) wr)) (fun _ si _=>m - (intOf si).toNat)
 case atStart=>exact⟨0,_,_,by omega,rfl,rfl,aQ,lY⟩
 case round=>
  clear aQ lY;obtain⟨i,A2,c2,hi,rfl,rfl,HX,HO⟩:=hrel;obtain⟨wo,dB⟩:=az wr;rw[dB] at HX HO ⊢;clear dB;have c1:=HX.out.cell (i:=1) rfl
  by_cases him:i<m
  ·obtain⟨x,hx⟩:∃x,Es[i]? =ζ x:=⟨_,θ (by have:=Hle.out;omega)⟩
   have Sg:=JW Es i x hx;obtain⟨bb,off,rfl,bZ,bD⟩:=HE.out.place cM (by decide) (by omega);have HB:=qh HO.out.below;have cR:=HB.out;have q0:=bD i _ hx 0 _ rfl;have q1:=bD i _ hx 1 _ rfl;have q2:=bD i _ hx 2 _ rfl;have q3:=bD i _ hx 3 _ rfl;simp only[Ν,Jac] at q0 q1 q2 q3;have l0:=(cR.cell (p:=⟨bb,off+i*4,ε⟩) bZ).trans q0;have l1:=(cR.cell (p:=⟨bb,off+i*4+1,ε⟩) bZ).trans q1;have l2:=(cR.cell (p:=⟨bb,off+i*4+2,ε⟩) bZ).trans q2;have l3:=(cR.cell (p:=⟨bb,off+i*4+3,ε⟩) bZ).trans q3;clear cR q0 q1 q2 q3;obtain⟨⟨i1,i2⟩,lb,at_⟩:=x;replace Sg:wM (Es.take (i+1))=wM (Es.take i)++[(i1,i2,0),(i1,i2,1)]:=Sg;have q0:wo.cell? ⟨bb,off+i*4,ε⟩=ζ (J i1):=l0;have q1:wo.cell? ⟨bb,off+i*4+1,ε⟩=ζ (J i2):=l1;have Hbb:Hid (bb<b0+1):=qh (by have:=j4.out;omega);have HOd:=qh (HO.out.up ((Θ _ _).drew));have wE:=qh HX.out.dr;have HDn:=qh Sg;clear l0 l1 l2 l3 hx bZ bD Sg;go_upto_region 5 with fail
   have ld1:∀w',Kept (dS (b0+1)) wo.drew w'→w'.cell? ⟨b0,1,ε⟩=ζ (γ (ζ ⟨bb,off,ε⟩) m k):=fun w' h=>h.from_cell (Nat.lt_succ_self _) (wE.out.cell (i:=1) rfl)
   have rQ:∀w',Kept (dS (b0+1)) wo.drew w'→w'.cell? ⟨bb,off+i*4,ε⟩=ζ (J i1):=fun w' h=>h.from_cell Hbb.out (show wo.drew.cell? _=_ from q0)
   have BZ:∀w',Kept (dS (b0+1)) wo.drew w'→w'.cell? ⟨bb,off+i*4+1,ε⟩=ζ (J i2):=fun w' h=>h.from_cell Hbb.out (show wo.drew.cell? _=_ from q1)
   clear q0 q1 c1 HX HO HB;refine aw (dS (b0+1)) (by kernel_rfl) ?_;refine aq 0 ?_;refine aq 1 ?_;refine aq 2 ?_;refine aq 3 ?_;refine aq 4 ?_;refine aq 5 ?_;refine aq 6 ?_;refine aq 7 ?_;refine aq 8 ?_;refine aq 9 ?_;refine aq 10 ?_;refine aq 11 ?_;refine aq 12 ?_;refine aq 13 ?_;refine aq 14 ?_;refine N7 15 ?_;intro w' aC
   refine⟨γ (ζ ⟨w'.heap.size,0,ε⟩) 2 2,w'.alloc (δ #[J i1,J i2,J 0,J i1,J i2,J 1] 32),dV 57 32 2 #[(0,.tmp 20),(1,.tmp 27)] (by rfl) Tryz.underlying57 _ (by kernel_rfl),Kept.of_below (ax _ _),?_⟩
   have HL:Hid (aS (w'.alloc (δ #[J i1,J i2,J 0,J i1,J i2,J 1] 32)) (w'.alloc (δ #[J i1,J i2,J 0,J i1,J i2,J 1] 32)).heap.size 3 (ζ ⟨w'.heap.size,0,ε⟩) 2 2 (aA [(i1,i2,0),(i1,i2,1)])):=qh (aS.of_whole (Whole.new_ _ _ _) rfl);have Iq:=qh (HOd.out.up (aF aC (δ #[J i1,J i2,J 0,J i1,J i2,J 1] 32)));have HXe:=qh ((wE.out.bl aC).al (δ #[J i1,J i2,J 0,J i1,J i2,J 1] 32));obtain⟨W3,lu⟩:=az (w'.alloc (δ #[J i1,J i2,J 0,J i1,J i2,J 1] 32));obtain⟨g3,Eo⟩:=az w'.heap.size;rw[lu] at HL Iq HXe ⊢;rw[Eo] at HL ⊢;clear aC lu Eo HOd wE;simp only[ξ,ak,aj,ah];refine N7 16 ?_;intro w' aC;obtain⟨v8,cD,bL,QN,pI⟩:=Ow.app (P:=η) 57 57 32 i0 _ 3 24 (b0+1) Tryz.underlying57 EV nz j7 kZ rfl (by decide) _ (2*i) _ (Iq.out.up aC) _ _ 2 _ _ (HL.out.bl aC) (by simp[aA,Τ]) (by unfold Jap;omega) (by omega);obtain⟨A8,c8,rfl,-⟩:=QN.rds
   refine⟨_,cD,bV (by rfl) (by rfl) (by rfl) bL,Kept.of_from pI,?_⟩
   have Q9:Hid (Ow w (b0+1) 32 3 (γ A8 (2*i+2) c8) (2*i+2) (aA (wM (Es.take (i+1)))) cD):=qh (by
    rw[HDn.out,fa];exact QN)
   have sy:=qh ((Kept.of_from pI).whole (HXe.out.bl aC) (by unfold dS;omega));obtain⟨W4,SG⟩:=az cD;rw[SG] at Q9 sy ⊢;clear aC bL pI QN SG HL Iq HXe;simp only[ξ,ak,aj,ah];refine aq 17 ?_;refine aG (by kernel_rfl) ?_ _;intro W8 ch;have ZV:=qh (Q9.out.up ch);have tG:=qh (sy.out.bl ch);clear ch Q9 sy;go_wp2;go_roundw
   case rel=>exact⟨i+1,A8,c8,by omega,by go_num,by rw[show 2*(i+1)=2*i+2 by omega],tG,by rw[show 2*(i+1)=2*i+2 by omega];exact ZV⟩
   case measure=>simp[intOf];omega
  ·obtain rfl:m=i:=by omega
   have hO:=HO.out;rw[Ι (by have:=Hle.out;omega)] at hO;have gE:=qh hO;clear hO HO HX;go_wp2;go_ret;exact⟨A2,c2,rfl,oa gE.out.own (by have:=j4.out;omega),gE.out.below⟩
theorem Kh (x1 x2 x3:Int) (w:ο):Ζ η 32 #[φ #[J x1,J x2,J x3]] w fun e w'=>e=.returned (φ #[J (othW (x1,x2,x3)).1,J (othW (x1,x2,x3)).2.1,J (othW (x1,x2,x3)).2.2])∧σ w.heap.size w w':=by
 go_enter Tryz.func32,Tryz.ntmps32;go_wp2;exact bodyPost_ret (v:=φ #[J x1,J x2,J (Jaw.wrap (1 - x3))]) (by simp[results,Tryz.results32,go_sem,IntWalk.i64_left]) rfl ⟨rfl,bT _ _ _⟩
theorem Dt (A:Option Κ) (n c:Nat) (Vs:List VC) (B:Option Κ) (m k:Nat) (Es:List EC) (x1 x2 x3:Int) (w:ο) (h:aO w A n c Vs B m k Es) (hf:aV Vs Es):
 Ζ η 86 #[φ #[γ A n c,γ B m k],φ #[J x1,J x2,J x3]] w (sN w (pM Vs (x1,x2,x3)) (decide ((x1,x2,x3)∈aD Vs))):=by
 have pU:=qh h;have hr:∀x∈Vs,x.2.1.2.1≤1000000:=fun x hx=>by have:=(hf.small h).2.2 x hx;omega
 have hn:n≤1000000:=by have:=(hf.small h).1;omega
 obtain⟨p1,p2,p3⟩:=JE hf (x1,x2,x3);have wD:=qh (fun W (h:aO W A n c Vs B m k Es)=>nv A n c Vs B m k Es x1 x2 x3 W h (by omega) (fun x hx=>by have:=hr x hx;omega));obtain⟨⟨⟨a1,a2⟩,ok⟩,ga⟩:∃z,jl Vs (x1,x2,x3)=z:=⟨_,rfl⟩
 rw[ga] at wD p1 p2 p3;have q1:=fun W (h:aO W A n c Vs B m k Es)=>sS h hr (a1,a2)
 obtain⟨⟨⟨⟨i1,i2⟩,⟨rA,rn,rc,rL⟩,lb,at_⟩,okv⟩,gv⟩:∃z,aU Vs (a1,a2)=z:=⟨_,rfl⟩
 have q2:=fun W (h:aO W A n c Vs B m k Es)=>fN A n c Vs B m k Es a1 a2 W (aO.v h) (by omega)
 rw[show aU Vs ((a1,a2),ok).1=_ from gv] at p1 p2;simp only[gv] at q1;replace p1:(x1,x2,x3)∈rL↔(x1,x2,x3)∈aD Vs:=p1;replace p2:rD rL (x1,x2,x3)=pM Vs (x1,x2,x3):=p2;replace p3:ok=decide ((x1,x2,x3)∈aD Vs):=p3;have nP:∀W,aO W A n c Vs B m k Es→aS W W.heap.size 3 rA rn rc (aA rL)∧rn≤1000000:=fun W h=>⟨(q1 W h).1.2,(q1 W h).2⟩
 have HRn:=qh nP
 have hNx:∀W A' c',aS W W.heap.size 3 A' rn c' (aA rL)→Ζ η 108 #[γ A' rn c',φ #[J x1,J x2,J x3]] W (sN W (pM Vs (x1,x2,x3)) (decide ((x1,x2,x3)∈aD Vs))):=fun W A' c' h'=>by
  have:=CK A' rn c' rL (x1,x2,x3) W h' (nP _ h).2
  rw[p2,decide_eq_decide.2 p1] at this;exact this
 have gh:=qh hNx;have P3:=qh p3
 have hV:∀W,aO W A n c Vs B m k Es→Ζ η 27 #[φ #[γ A n c,γ B m k],φ #[J a1,J a2]] W fun e w'=>∃A' c',e=.returned (Ξ #[φ #[J i1,J i2,γ A' rn c',μ lb,J at_],Β okv])∧aS w' w'.heap.size 3 A' rn c' (aA rL)∧σ W.heap.size W w':=fun W h=>by
  have h1:=q2 W h;rw[gv] at h1;refine Calls.mono h1 ?_;rintro e w' ⟨rfl,hb⟩;exact⟨rA,rc,rfl,(nP _ (h.bl hb)).1,hb⟩
 have HV:=qh hV
 have WX:ok=ρ→pM Vs (x1,x2,x3)=(0,0,0):=fun e=>by
  have hx:(x1,x2,x3)∉aD Vs:=of_decide_eq_false (p3.symm.trans e);rw[pM,um hf.once hx];rfl
 have Ty:=qh WX;clear WX q1 q2 p1 p2 p3 ga gv nP hNx hV h hf hr hn;obtain⟨⟨y1,y2,y3⟩,gy⟩:∃z,pM Vs (x1,x2,x3)=z:=⟨_,rfl⟩
 obtain⟨oy,Nu⟩:=az (decide ((x1,x2,x3)∈aD Vs));rw[gy,Nu] at gh;rw[gy] at Ty;rw[Nu] at P3;rw[gy,Nu];clear gy Nu;go_enter Tryz.func86,Tryz.ntmps86;have ks:((((w.alloc (δ #[γ A n c,γ B m k] 25)).alloc (δ #[J x1,J x2,J x3] 32)).alloc (δ #[J 0,J 0,J 0] 32))).cell? ⟨w.heap.size,0,ε⟩=ζ (γ A n c):=(((show Whole (w.alloc (δ #[γ A n c,γ B m k] 25)) (w.heap.size) (25) ([γ A n c,γ B m k]) from Whole.new2 (by first|rfl|simp)).al (δ #[J x1,J x2,J x3] 32)).al (δ #[J 0,J 0,J 0] 32)).cell (i:=0) rfl;have ko:((((w.alloc (δ #[γ A n c,γ B m k] 25)).alloc (δ #[J x1,J x2,J x3] 32)).alloc (δ #[J 0,J 0,J 0] 32))).cell? ⟨w.heap.size,1,ε⟩=ζ (γ B m k):=(((show Whole (w.alloc (δ #[γ A n c,γ B m k] 25)) (w.heap.size) (25) ([γ A n c,γ B m k]) from Whole.new2 (by first|rfl|simp)).al (δ #[J x1,J x2,J x3] 32)).al (δ #[J 0,J 0,J 0] 32)).cell (i:=1) rfl;have Y9:((((w.alloc (δ #[γ A n c,γ B m k] 25)).alloc (δ #[J x1,J x2,J x3] 32)).alloc (δ #[J 0,J 0,J 0] 32))).cell? ⟨w.heap.size+1,0,ε⟩=ζ (J x1):=((show Whole ((w.alloc (δ #[γ A n c,γ B m k] 25)).alloc (δ #[J x1,J x2,J x3] 32)) ((w.heap.size+1)) (32) ([J x1,J x2,J x3]) from Whole.new2 (by first|rfl|simp)).al (δ #[J 0,J 0,J 0] 32)).cell (i:=0) rfl
 have ZN:((((w.alloc (δ #[γ A n c,γ B m k] 25)).alloc (δ #[J x1,J x2,J x3] 32)).alloc (δ #[J 0,J 0,J 0] 32))).cell? ⟨w.heap.size+1,1,ε⟩=ζ (J x2):=((show Whole ((w.alloc (δ #[γ A n c,γ B m k] 25)).alloc (δ #[J x1,J x2,J x3] 32)) ((w.heap.size+1)) (32) ([J x1,J x2,J x3]) from Whole.new2 (by first|rfl|simp)).al (δ #[J 0,J 0,J 0] 32)).cell (i:=1) rfl;have nE:((((w.alloc (δ #[γ A n c,γ B m k] 25)).alloc (δ #[J x1,J x2,J x3] 32)).alloc (δ #[J 0,J 0,J 0] 32))).cell? ⟨w.heap.size+1,2,ε⟩=ζ (J x3):=((show Whole ((w.alloc (δ #[γ A n c,γ B m k] 25)).alloc (δ #[J x1,J x2,J x3] 32)) ((w.heap.size+1)) (32) ([J x1,J x2,J x3]) from Whole.new2 (by first|rfl|simp)).al (δ #[J 0,J 0,J 0] 32)).cell (i:=2) rfl;go_wp2_with fail
 clear ks ko Y9 ZN nE
 refine(wD.out _ (((pU.out.al (δ #[γ A n c,γ B m k] 25)).al (δ #[J x1,J x2,J x3] 32)).al (δ #[J 0,J 0,J 0] 32))).mono ?_
 rintro e w6 ⟨rfl,dO⟩;have GJ:=qh ((((pU.out.al (δ #[γ A n c,γ B m k] 25)).al (δ #[J x1,J x2,J x3] 32)).al (δ #[J 0,J 0,J 0] 32)).bl dO);have Ce:=qh ((((show Whole (w.alloc (δ #[γ A n c,γ B m k] 25)) (w.heap.size) (25) ([γ A n c,γ B m k]) from Whole.new2 (by first|rfl|simp)).al (δ #[J x1,J x2,J x3] 32)).al (δ #[J 0,J 0,J 0] 32)).bl dO);have VF:=qh (((show Whole ((w.alloc (δ #[γ A n c,γ B m k] 25)).alloc (δ #[J x1,J x2,J x3] 32)) ((w.heap.size+1)) (32) ([J x1,J x2,J x3]) from Whole.new2 (by first|rfl|simp)).al (δ #[J 0,J 0,J 0] 32)).bl dO);have yb:=qh ((show Whole (((w.alloc (δ #[γ A n c,γ B m k] 25)).alloc (δ #[J x1,J x2,J x3] 32)).alloc (δ #[J 0,J 0,J 0] 32)) ((w.heap.size+1+1)) (32) ([J 0,J 0,J 0]) from Whole.new2 (by first|rfl|simp)).bl dO);have de:=qh (af (aF (aF (aF (Θ _ w) (δ #[γ A n c,γ B m k] 25)) (δ #[J x1,J x2,J x3] 32)) (δ #[J 0,J 0,J 0] 32)) dO);clear pU;clear dO;have No:Hid (w.heap.size≤w.heap.size):=qh (by omega);have RJ:Hid (w.heap.size≤(w.heap.size+1)):=qh (by omega);have Nr:Hid (w.heap.size≠(w.heap.size+1)):=qh (by omega)
 have NB:Hid (w.heap.size≤(w.heap.size+1+1)):=qh (by omega);have MR:Hid (w.heap.size≠(w.heap.size+1+1)):=qh (by omega);have QP:Hid ((w.heap.size+1)≠(w.heap.size+1+1)):=qh (by omega);cases ok with
 |false=>
  obtain rfl:ρ=oy:=P3.out;have WX:Hid ((y1,y2,y3)=((0,0,0):D)):=qh (Ty.out rfl)
  obtain⟨Z8,U5,Z0⟩:y1=0∧y2=0∧y3=0:=by
   have:=WX.out
   simp only[Jba] at this;exact this
  subst Z8 U5 Z0;have z0:=(yb.out.al (δ #[J a1,J a2] 30)).cell (i:=0) rfl;have z1:=(yb.out.al (δ #[J a1,J a2] 30)).cell (i:=1) rfl;have z2:=(yb.out.al (δ #[J a1,J a2] 30)).cell (i:=2) rfl;have f0:=(yb.out.al (δ #[J a1,J a2] 30)).free 0;have f1:=(yb.out.al (δ #[J a1,J a2] 30)).free 1;have f2:=(yb.out.al (δ #[J a1,J a2] 30)).free 2;have HY:=qh ((((yb.out.al (δ #[J a1,J a2] 30)).set_ 0 (J 0)).set_ 1 (J 0)).set_ 2 (J 0));have j6:=qh ((((aF de.out (δ #[J a1,J a2] 30)).setCell (p:=⟨w.heap.size+1+1,0,ε⟩) (show w.heap.size≤w.heap.size+1+1 by omega) (J 0)).setCell (p:=⟨w.heap.size+1+1,1,ε⟩) (show w.heap.size≤w.heap.size+1+1 by omega) (J 0)).setCell (p:=⟨w.heap.size+1+1,2,ε⟩) (show w.heap.size≤w.heap.size+1+1 by omega) (J 0));go_wp2;exact aE rfl (w.heap.size+1+1) rfl rfl HY.out Tryz.underlying32 rfl (by kernel_rfl) rfl ⟨rfl,j6.out⟩
 |true=>
 skip
 have DG:((w6.alloc (δ #[J a1,J a2] 30))).cell? ⟨w.heap.size,0,ε⟩=ζ (γ A n c):=(Ce.out.al (δ #[J a1,J a2] 30)).cell (i:=0) rfl;have vu:((w6.alloc (δ #[J a1,J a2] 30))).cell? ⟨w.heap.size,1,ε⟩=ζ (γ B m k):=(Ce.out.al (δ #[J a1,J a2] 30)).cell (i:=1) rfl;have mL:((w6.alloc (δ #[J a1,J a2] 30))).cell? ⟨w6.heap.size,0,ε⟩=ζ (J a1):=(show Whole (w6.alloc (δ #[J a1,J a2] 30)) (w6.heap.size) (30) ([J a1,J a2]) from Whole.new2 (by first|rfl|simp)).cell (i:=0) rfl;have wj:((w6.alloc (δ #[J a1,J a2] 30))).cell? ⟨w6.heap.size,1,ε⟩=ζ (J a2):=(show Whole (w6.alloc (δ #[J a1,J a2] 30)) (w6.heap.size) (30) ([J a1,J a2]) from Whole.new2 (by first|rfl|simp)).cell (i:=1) rfl;go_wp2_with fail
 clear DG vu mL wj
 refine(HV.out _ (GJ.out.al (δ #[J a1,J a2] 30))).mono ?_
 rintro e MH ⟨A1,c1,rfl,hR,CM⟩;have PI:=qh ((GJ.out.al (δ #[J a1,J a2] 30)).bl CM);have Pc:=qh ((Ce.out.al (δ #[J a1,J a2] 30)).bl CM);have JA:=qh ((VF.out.al (δ #[J a1,J a2] 30)).bl CM);have Wh:=qh ((yb.out.al (δ #[J a1,J a2] 30)).bl CM);have Wg:=qh ((show Whole (w6.alloc (δ #[J a1,J a2] 30)) (w6.heap.size) (30) ([J a1,J a2]) from Whole.new2 (by first|rfl|simp)).bl CM);have LK:=qh (af (aF de.out (δ #[J a1,J a2] 30)) CM);clear GJ Ce VF yb de;clear CM;have JN:=qh hR;clear hR;have Da:((MH.alloc (δ #[J i1,J i2,γ A1 rn c1,μ lb,J at_] 59))).cell? ⟨w.heap.size+1,0,ε⟩=ζ (J x1):=(JA.out.al (δ #[J i1,J i2,γ A1 rn c1,μ lb,J at_] 59)).cell (i:=0) rfl;have tY:((MH.alloc (δ #[J i1,J i2,γ A1 rn c1,μ lb,J at_] 59))).cell? ⟨w.heap.size+1,1,ε⟩=ζ (J x2):=(JA.out.al (δ #[J i1,J i2,γ A1 rn c1,μ lb,J at_] 59)).cell (i:=1) rfl;have tO:((MH.alloc (δ #[J i1,J i2,γ A1 rn c1,μ lb,J at_] 59))).cell? ⟨w.heap.size+1,2,ε⟩=ζ (J x3):=(JA.out.al (δ #[J i1,J i2,γ A1 rn c1,μ lb,J at_] 59)).cell (i:=2) rfl;have Dy:((MH.alloc (δ #[J i1,J i2,γ A1 rn c1,μ lb,J at_] 59))).cell? ⟨MH.heap.size,2,ε⟩=ζ (γ A1 rn c1):=(show Whole (MH.alloc (δ #[J i1,J i2,γ A1 rn c1,μ lb,J at_] 59)) (MH.heap.size) (59) ([J i1,J i2,γ A1 rn c1,μ lb,J at_]) from Whole.new2 (by first|rfl|simp)).cell (i:=2) rfl
 go_wp2_with fail
 clear Da tY tO Dy
 refine(gh.out _ _ _ (JN.out.al (δ #[J i1,J i2,γ A1 rn c1,μ lb,J at_] 59))).mono ?_
 rintro e w21 ⟨rfl,x8⟩;have ack:=qh ((PI.out.al (δ #[J i1,J i2,γ A1 rn c1,μ lb,J at_] 59)).bl x8);have abV:=qh ((Pc.out.al (δ #[J i1,J i2,γ A1 rn c1,μ lb,J at_] 59)).bl x8);have aet:=qh ((JA.out.al (δ #[J i1,J i2,γ A1 rn c1,μ lb,J at_] 59)).bl x8);have Cc:=qh ((Wh.out.al (δ #[J i1,J i2,γ A1 rn c1,μ lb,J at_] 59)).bl x8);have age:=qh ((Wg.out.al (δ #[J i1,J i2,γ A1 rn c1,μ lb,J at_] 59)).bl x8);have abe:=qh ((JN.out.al (δ #[J i1,J i2,γ A1 rn c1,μ lb,J at_] 59)).bl x8);have afv:=qh ((show Whole (MH.alloc (δ #[J i1,J i2,γ A1 rn c1,μ lb,J at_] 59)) (MH.heap.size) (59) ([J i1,J i2,γ A1 rn c1,μ lb,J at_]) from Whole.new2 (by first|rfl|simp)).bl x8);have Ql:=qh (af (aF LK.out (δ #[J i1,J i2,γ A1 rn c1,μ lb,J at_] 59)) x8);clear PI Pc JA Wh Wg JN LK;clear x8;have z0:=Cc.out.cell (i:=0) rfl;have z1:=Cc.out.cell (i:=1) rfl;have z2:=Cc.out.cell (i:=2) rfl;have f0:=Cc.out.free 0;have f1:=Cc.out.free 1;have f2:=Cc.out.free 2;have HY:=qh (((Cc.out.set_ 0 (J y1)).set_ 1 (J y2)).set_ 2 (J y3));have j6:=qh (((Ql.out.setCell (p:=⟨w.heap.size+1+1,0,ε⟩) (show w.heap.size≤w.heap.size+1+1 by omega) (J y1)).setCell (p:=⟨w.heap.size+1+1,1,ε⟩) (show w.heap.size≤w.heap.size+1+1 by omega) (J y2)).setCell (p:=⟨w.heap.size+1+1,2,ε⟩) (show w.heap.size≤w.heap.size+1+1 by omega) (J y3))
 go_wp2;exact aE rfl (w.heap.size+1+1) rfl rfl HY.out Tryz.underlying32 rfl (by kernel_rfl) rfl ⟨rfl,j6.out⟩
theorem Bk (A:Option Κ) (n c:Nat) (Vs:List VC) (B:Option Κ) (m k:Nat) (Es:List EC) (x1 x2 x3:Int) (w:ο) (h:aO w A n c Vs B m k Es) (hf:aV Vs Es) (hb:-9223372036854775808≤x3∧x3≤9223372036854775807):
 Ζ η 59 #[φ #[γ A n c,γ B m k],φ #[J x1,J x2,J x3]] w (sN w (if (x1,x2,x3)∈aD Vs then jF Vs (x1,x2,x3) else(0,0,0)) (decide ((x1,x2,x3)∈aD Vs))):=by
 have pU:=qh h;obtain⟨Z1,w2_⟩:=hf.othW (d:=(x1,x2,x3)) hb;have Pq:=qh (Kh x1 x2 x3);have P6:=fun W (h:aO W A n c Vs B m k Es)=>Dt A n c Vs B m k Es (othW (x1,x2,x3)).1 (othW (x1,x2,x3)).2.1 (othW (x1,x2,x3)).2.2 W h hf
 have hv:pM Vs (othW (x1,x2,x3))=if (x1,x2,x3)∈aD Vs then jF Vs (x1,x2,x3) else(0,0,0):=by
  by_cases q:(x1,x2,x3)∈aD Vs
  ·rw[if_pos q,w2_ q];rfl
  ·rw[if_neg q,pM,um hf.once (fun h=>q (Z1.1 h))];rfl
 have hd:decide (othW (x1,x2,x3)∈aD Vs)=decide ((x1,x2,x3)∈aD Vs):=decide_eq_decide.2 Z1
 replace P6:∀W,aO W A n c Vs B m k Es→Ζ η 86 #[φ #[γ A n c,γ B m k],φ #[J (othW (x1,x2,x3)).1,J (othW (x1,x2,x3)).2.1,J (othW (x1,x2,x3)).2.2]] W (sN W (if (x1,x2,x3)∈aD Vs then jF Vs (x1,x2,x3) else(0,0,0)) (decide ((x1,x2,x3)∈aD Vs))):=fun W h=>by
  rw[←hv,←hd];exact P6 W h
 have hr:∀x∈Vs,x.2.1.2.1≤1000000:=fun x hx=>by have:=(hf.small h).2.2 x hx;omega
 have hn:n≤1000000:=by have:=(hf.small h).1;omega
 have wD:=fun W (h:aO W A n c Vs B m k Es)=>nv A n c Vs B m k Es x1 x2 x3 W h (by omega) (fun x hx=>by have:=hr x hx;omega)
 obtain⟨⟨⟨a1,a2⟩,ok⟩,ga⟩:∃z,jl Vs (x1,x2,x3)=z:=⟨_,rfl⟩
 have P3:ok=decide ((x1,x2,x3)∈aD Vs):=by
  have:=(JE hf (x1,x2,x3)).2.2
  rwa [ga] at this
 rw[ga] at wD;replace wD:=qh wD;clear ga hr hn;have wk:Hid (decide ((x1,x2,x3)∈aD Vs)=ρ→(if (x1,x2,x3)∈aD Vs then jF Vs (x1,x2,x3) else(0,0,0))=((0,0,0):D)):=qh (fun e=>if_neg (of_decide_eq_false e));clear Z1 w2_ hv hd h hf hb;obtain⟨⟨y1,y2,y3⟩,gy⟩:∃z,(if (x1,x2,x3)∈aD Vs then jF Vs (x1,x2,x3) else(0,0,0))=z:=⟨_,rfl⟩
 obtain⟨oy,Nu⟩:=az (decide ((x1,x2,x3)∈aD Vs));rw[gy,Nu] at P6 wk;rw[Nu] at P3;replace P3:=qh P3;rw[gy,Nu];clear gy Nu;obtain⟨⟨u1,u2,u3⟩,gu⟩:∃z,othW (x1,x2,x3)=z:=⟨_,rfl⟩
 rw[gu] at Pq P6;clear gu;replace P6:=qh P6;go_enter Tryz.func59,Tryz.ntmps59;have ks:((((w.alloc (δ #[γ A n c,γ B m k] 25)).alloc (δ #[J x1,J x2,J x3] 32)).alloc (δ #[J 0,J 0,J 0] 32))).cell? ⟨w.heap.size,0,ε⟩=ζ (γ A n c):=(((show Whole (w.alloc (δ #[γ A n c,γ B m k] 25)) (w.heap.size) (25) ([γ A n c,γ B m k]) from Whole.new2 (by first|rfl|simp)).al (δ #[J x1,J x2,J x3] 32)).al (δ #[J 0,J 0,J 0] 32)).cell (i:=0) rfl;have ko:((((w.alloc (δ #[γ A n c,γ B m k] 25)).alloc (δ #[J x1,J x2,J x3] 32)).alloc (δ #[J 0,J 0,J 0] 32))).cell? ⟨w.heap.size,1,ε⟩=ζ (γ B m k):=(((show Whole (w.alloc (δ #[γ A n c,γ B m k] 25)) (w.heap.size) (25) ([γ A n c,γ B m k]) from Whole.new2 (by first|rfl|simp)).al (δ #[J x1,J x2,J x3] 32)).al (δ #[J 0,J 0,J 0] 32)).cell (i:=1) rfl;have Y9:((((w.alloc (δ #[γ A n c,γ B m k] 25)).alloc (δ #[J x1,J x2,J x3] 32)).alloc (δ #[J 0,J 0,J 0] 32))).cell? ⟨w.heap.size+1,0,ε⟩=ζ (J x1):=((show Whole ((w.alloc (δ #[γ A n c,γ B m k] 25)).alloc (δ #[J x1,J x2,J x3] 32)) ((w.heap.size+1)) (32) ([J x1,J x2,J x3]) from Whole.new2 (by first|rfl|simp)).al (δ #[J 0,J 0,J 0] 32)).cell (i:=0) rfl
 have ZN:((((w.alloc (δ #[γ A n c,γ B m k] 25)).alloc (δ #[J x1,J x2,J x3] 32)).alloc (δ #[J 0,J 0,J 0] 32))).cell? ⟨w.heap.size+1,1,ε⟩=ζ (J x2):=((show Whole ((w.alloc (δ #[γ A n c,γ B m k] 25)).alloc (δ #[J x1,J x2,J x3] 32)) ((w.heap.size+1)) (32) ([J x1,J x2,J x3]) from Whole.new2 (by first|rfl|simp)).al (δ #[J 0,J 0,J 0] 32)).cell (i:=1) rfl;have nE:((((w.alloc (δ #[γ A n c,γ B m k] 25)).alloc (δ #[J x1,J x2,J x3] 32)).alloc (δ #[J 0,J 0,J 0] 32))).cell? ⟨w.heap.size+1,2,ε⟩=ζ (J x3):=((show Whole ((w.alloc (δ #[γ A n c,γ B m k] 25)).alloc (δ #[J x1,J x2,J x3] 32)) ((w.heap.size+1)) (32) ([J x1,J x2,J x3]) from Whole.new2 (by first|rfl|simp)).al (δ #[J 0,J 0,J 0] 32)).cell (i:=2) rfl;go_wp2_with fail
 clear ks ko Y9 ZN nE
 refine(wD.out _ (((pU.out.al (δ #[γ A n c,γ B m k] 25)).al (δ #[J x1,J x2,J x3] 32)).al (δ #[J 0,J 0,J 0] 32))).mono ?_
 rintro e w6 ⟨rfl,dO⟩;have GJ:=qh ((((pU.out.al (δ #[γ A n c,γ B m k] 25)).al (δ #[J x1,J x2,J x3] 32)).al (δ #[J 0,J 0,J 0] 32)).bl dO);have Ce:=qh ((((show Whole (w.alloc (δ #[γ A n c,γ B m k] 25)) (w.heap.size) (25) ([γ A n c,γ B m k]) from Whole.new2 (by first|rfl|simp)).al (δ #[J x1,J x2,J x3] 32)).al (δ #[J 0,J 0,J 0] 32)).bl dO);have VF:=qh (((show Whole ((w.alloc (δ #[γ A n c,γ B m k] 25)).alloc (δ #[J x1,J x2,J x3] 32)) ((w.heap.size+1)) (32) ([J x1,J x2,J x3]) from Whole.new2 (by first|rfl|simp)).al (δ #[J 0,J 0,J 0] 32)).bl dO);have yb:=qh ((show Whole (((w.alloc (δ #[γ A n c,γ B m k] 25)).alloc (δ #[J x1,J x2,J x3] 32)).alloc (δ #[J 0,J 0,J 0] 32)) ((w.heap.size+1+1)) (32) ([J 0,J 0,J 0]) from Whole.new2 (by first|rfl|simp)).bl dO);have de:=qh (af (aF (aF (aF (Θ _ w) (δ #[γ A n c,γ B m k] 25)) (δ #[J x1,J x2,J x3] 32)) (δ #[J 0,J 0,J 0] 32)) dO);clear pU;clear dO;have No:Hid (w.heap.size≤w.heap.size):=qh (by omega);have RJ:Hid (w.heap.size≤(w.heap.size+1)):=qh (by omega);have Nr:Hid (w.heap.size≠(w.heap.size+1)):=qh (by omega)
 have NB:Hid (w.heap.size≤(w.heap.size+1+1)):=qh (by omega);have MR:Hid (w.heap.size≠(w.heap.size+1+1)):=qh (by omega);have QP:Hid ((w.heap.size+1)≠(w.heap.size+1+1)):=qh (by omega);cases ok with
 |false=>
  obtain rfl:ρ=oy:=P3.out
  obtain⟨Z8,U5,Z0⟩:y1=0∧y2=0∧y3=0:=by
   have:=wk.out rfl
   simp only[Jba] at this;exact this
  subst Z8 U5 Z0;have z0:=(yb.out.al (δ #[J a1,J a2] 30)).cell (i:=0) rfl;have z1:=(yb.out.al (δ #[J a1,J a2] 30)).cell (i:=1) rfl;have z2:=(yb.out.al (δ #[J a1,J a2] 30)).cell (i:=2) rfl;have f0:=(yb.out.al (δ #[J a1,J a2] 30)).free 0;have f1:=(yb.out.al (δ #[J a1,J a2] 30)).free 1;have f2:=(yb.out.al (δ #[J a1,J a2] 30)).free 2;have HY:=qh ((((yb.out.al (δ #[J a1,J a2] 30)).set_ 0 (J 0)).set_ 1 (J 0)).set_ 2 (J 0));have j6:=qh ((((aF de.out (δ #[J a1,J a2] 30)).setCell (p:=⟨w.heap.size+1+1,0,ε⟩) (show w.heap.size≤w.heap.size+1+1 by omega) (J 0)).setCell (p:=⟨w.heap.size+1+1,1,ε⟩) (show w.heap.size≤w.heap.size+1+1 by omega) (J 0)).setCell (p:=⟨w.heap.size+1+1,2,ε⟩) (show w.heap.size≤w.heap.size+1+1 by omega) (J 0));go_wp2;exact aE rfl (w.heap.size+1+1) rfl rfl HY.out Tryz.underlying32 rfl (by kernel_rfl) rfl ⟨rfl,j6.out⟩
 |true=>
 clear P3 wD wk;go_upto_region 4 with fail
 have OU:=qh ((GJ.out.al (δ #[J a1,J a2] 30)));have Kk:=qh ((Ce.out.al (δ #[J a1,J a2] 30)));have NS:=qh ((VF.out.al (δ #[J a1,J a2] 30)));have Wt:=qh ((yb.out.al (δ #[J a1,J a2] 30)));have YN:=qh ((show Whole (w6.alloc (δ #[J a1,J a2] 30)) (w6.heap.size) (30) ([J a1,J a2]) from Whole.new2 (by first|rfl|simp)));have lO:=qh (aF de.out (δ #[J a1,J a2] 30));obtain⟨v11,VU⟩:=az ((w6.alloc (δ #[J a1,J a2] 30)));rw[VU] at OU Kk NS Wt YN lO ⊢;clear VU;clear GJ Ce VF yb de
 have mS:Hid (∀W',Ext v11.drew W'→W'.cell? ⟨w.heap.size,0,ε⟩=ζ (γ A n c)∧W'.cell? ⟨w.heap.size,1,ε⟩=ζ (γ B m k)∧W'.cell? ⟨w.heap.size+1,0,ε⟩=ζ (J x1)∧W'.cell? ⟨w.heap.size+1,1,ε⟩=ζ (J x2)∧W'.cell? ⟨w.heap.size+1,2,ε⟩=ζ (J x3)):=
  qh (fun W' h=>⟨(Kk.out.dr.bl h).cell (i:=0) rfl,(Kk.out.dr.bl h).cell (i:=1) rfl,(NS.out.dr.bl h).cell (i:=0) rfl,(NS.out.dr.bl h).cell (i:=1) rfl,(NS.out.dr.bl h).cell (i:=2) rfl⟩)
 refine jG 6 (fun i=>i=w.heap.size+1+1) (F8 [ζ (φ #[γ A n c,γ B m k]),ζ (φ #[J x1,J x2,J x3]),ζ (φ #[J u1,J u2,J u3]),ζ (Ξ #[φ #[J y1,J y2,J y3],Β oy]),ζ (φ #[J y1,J y2,J y3]),ζ (Β oy)] 99 0 0 []) (Ext v11.drew) (by kernel_rfl) (by kernel_rfl) (by kernel_rfl) (by kernel_rfl) (by kernel_rfl) (fun i v w1 w2 h hx=>yk i v w1 w2 h hx) (fun _ _ h k=>h.trans k) (Ext.refl _) ?_ ?_
 ·intro i Mt;have jc:i=0∨i=1∨i=2∨i=3∨i=4∨i=5:=by omega
  rcases jc with rfl|rfl|rfl|rfl|rfl|rfl
  ·refine aL ?_;intro x y hg aH;obtain⟨tT,pC,nD,tW,Eu⟩:=mS.out _ hg;simp only[aM,ι,π,aB,ξ,ak,aj,ah];refine .inl ⟨by rfl,?_⟩;go_simp;exact⟨Ext.refl _,rfl⟩
  ·refine aL ?_;intro x y hg aH;obtain⟨tT,pC,nD,tW,Eu⟩:=mS.out _ hg;simp only[aM,ι,π,aB,ξ,ak,aj,ah];refine .inl ⟨by rfl,?_⟩;go_simp;exact⟨Ext.refl _,rfl⟩
  ·refine aL ?_;intro x y hg aH;have d1:x 1=φ #[J x1,J x2,J x3]:=aH 1 (by decide);simp only[aM,ι,π,aB,ξ,ak,aj,ah];simp only[d1];refine .inl ⟨by rfl,dy (by go_simp;first|done|exact⟨rfl,rfl⟩|with_reducible rfl) ?_⟩
   refine(Pq.out y).mono ?_
   rintro e w2 ⟨rfl,hb⟩;exact⟨_,rfl,hb,rfl⟩
  ·refine aL ?_;intro x y hg aH;have d0:x 0=φ #[γ A n c,γ B m k]:=aH 0 (by decide);have d2:x 2=φ #[J u1,J u2,J u3]:=aH 2 (by decide);have d2:x 2=φ #[J u1,J u2,J u3]:=aH 2 (by decide);simp only[aM,ι,π,aB,ξ,ak,aj,ah];simp only[d0,d2,d2];refine .inl ⟨by rfl,dy (by go_simp;first|done|exact⟨rfl,rfl⟩|with_reducible rfl) ?_⟩
   refine(P6.out y (OU.out.dr.bl hg)).mono ?_
   rintro e w2 ⟨rfl,hb⟩;exact⟨_,rfl,hb,rfl⟩
  ·refine aL ?_;intro x y hg aH;have d3:x 3=Ξ #[φ #[J y1,J y2,J y3],Β oy]:=aH 3 (by decide);simp only[aM,ι,π,aB,ξ,ak,aj,ah];simp only[d3];refine .inl ⟨by rfl,?_⟩;go_simp;exact⟨Ext.refl _,rfl⟩
  ·refine aL ?_;intro x y hg aH;have d3:x 3=Ξ #[φ #[J y1,J y2,J y3],Β oy]:=aH 3 (by decide);simp only[aM,ι,π,aB,ξ,ak,aj,ah];simp only[d3];refine .inl ⟨by rfl,?_⟩;go_simp;exact⟨Ext.refl _,rfl⟩
 intro x y hg bW;have d0:x 0=φ #[γ A n c,γ B m k]:=bW 0 (by decide);have d1:x 1=φ #[J x1,J x2,J x3]:=bW 1 (by decide);have d2:x 2=φ #[J u1,J u2,J u3]:=bW 2 (by decide);have d3:x 3=Ξ #[φ #[J y1,J y2,J y3],Β oy]:=bW 3 (by decide);have d4:x 4=φ #[J y1,J y2,J y3]:=bW 4 (by decide);have d5:x 5=Β oy:=bW 5 (by decide);simp only[aM,ι,π,aB,ξ,ak,aj,ah];simp only[d0,d1,d2,d3,d4,d5];clear bW d0 d1 d2 d3 d4 d5;refine lp 6 ?_;intro w' aC;have HYw:=qh ((Wt.out.dr.bl hg).bl aC);have My:=qh (af (af (ba lO.out) hg) aC)
 refine⟨w'.setRow (w.heap.size+1+1) #[J y1,J y2,J y3],cn 32 (.tmp 4) (.tmp 21) rfl (w.heap.size+1+1) rfl [J y1,J y2,J y3] rfl 32 [J 0,J 0,J 0] HYw.out (by kernel_rfl) rfl (by simp[Τ]),eD (S:=fun i=>i=w.heap.size+1+1) rfl _,?_⟩
 have YV:Hid (Whole (w'.setRow (w.heap.size+1+1) #[J y1,J y2,J y3]) (w.heap.size+1+1) 32 [J y1,J y2,J y3]):=qh (Whole.row HYw.out [J y1,J y2,J y3]);have yL:Hid (σ w.heap.size w (w'.setRow (w.heap.size+1+1) #[J y1,J y2,J y3])):=qh (eB My.out (by omega) _);obtain⟨V1,jr⟩:=az (w'.setRow (w.heap.size+1+1) #[J y1,J y2,J y3]);rw[jr] at YV yL ⊢;clear aC hg jr HYw My mS;refine aq 7 ?_;refine aG (by kernel_rfl) ?_ _;intro W8 ch;have HY:=qh (YV.out.bl ch);have j6:=qh (af yL.out ch);clear ch YV yL;go_wp2;exact aE rfl (w.heap.size+1+1) rfl rfl HY.out Tryz.underlying32 rfl (by kernel_rfl) rfl ⟨rfl,j6.out⟩
theorem DL (A:Option Κ) (n c:Nat) (Vs:List VC) (B:Option Κ) (m k:Nat) (Es:List EC) (x1 x2 x3:Int) (w:ο) (h:aO w A n c Vs B m k Es) (hf:aV Vs Es) (hb:-9223372036854775808≤x3∧x3≤9223372036854775807):
 Ζ η 31 #[φ #[γ A n c,γ B m k],φ #[J x1,J x2,J x3]] w fun e w'=>∃A' c',e=.returned (.slice A' (nB Vs (x1,x2,x3)).length c')∧w'.ownsRow w.heap.size 32 3 (.slice A' (nB Vs (x1,x2,x3)).length c') (nB Vs (x1,x2,x3)).length (aA (nB Vs (x1,x2,x3)))∧σ w.heap.size w w':=by
 have pU:=qh h;have HFm:=qh hf;obtain⟨i0,EV,nz,j7,kZ⟩:=a6 nu;have SQ:=fun W (h:aO W A n c Vs B m k Es)=>Bk A n c Vs B m k Es x1 x2 x3 W h hf hb
 have FF:Hid (∀y1 y2 y3:Int,(y1,y2,y3)∈aD Vs→∀W,aO W A n c Vs B m k Es→Ζ η 59 #[φ #[γ A n c,γ B m k],φ #[J y1,J y2,J y3]] W (sN W (jF Vs (y1,y2,y3)) true)):=qh (fun y1 y2 y3 hy W h=>by
  obtain⟨e,_,_,q⟩:=(hf.mem _).1 hy
  have:=Bk A n c Vs B m k Es y1 y2 y3 W h hf (by simp only at q;omega)
  rwa [if_pos hy,decide_eq_true hy] at this)
 by_cases hx:(x1,x2,x3)∈aD Vs
 ·obtain⟨p,hp,bD⟩:=hf.phi.per hx;have h80:=hf.l80;have ef:nB Vs (x1,x2,x3)=lk (jF Vs) (x1,x2,x3) p:=by rw[nB,if_pos hx,uO hp (by omega)]
  have aeI:p≤80:=by omega
  simp only[if_pos hx,decide_eq_true hx] at SQ;rw[ef,Ff];have WJ:=qh SQ;have Hp:=qh hp;have Hx:=qh hx;obtain⟨⟨p1,p2,p3⟩,gp⟩:∃z,jF Vs (x1,x2,x3)=z:=⟨_,rfl⟩
  rw[gp] at WJ;have Gp:=qh gp;have Sp:=hp.pos;clear h hf hb SQ hx hp bD h80 ef gp;go_enter Tryz.func31,Tryz.ntmps31;go_upto_region 1 with fail
  obtain⟨W0,b0,b1,bJ,bS,cJ,aR,aQ,bn,uo,zl,j4,zY,fD,kY⟩:=D8 w 25 [γ A n c,γ B m k] 32 [J x1,J x2,J x3];rw[bJ,cJ,bS];clear bJ bS cJ;have wG:=qh (aR.out.al (δ #[] 32));have aQ:=qh (aQ.out.al (δ #[] 32));have lY:Hid (Ow w (b1+1) 32 3 (γ (ζ ⟨W0.heap.size,0,ε⟩) 0 0) 0 [] (W0.alloc (δ #[] 32))):=qh (Ow.new_ (cs:=#[]) bn.out (by have:=fD.out;omega) (by have:=aQ.out.lt;simp at this;have:=uo.out;have:=zY.out;omega) (by unfold Jap;omega) rfl);have c0:=wG.out.cell (i:=0) rfl;have c1:=wG.out.cell (i:=1) rfl;have d0:=aQ.out.cell (i:=0) rfl;have d1:=aQ.out.cell (i:=1) rfl;have d2:=aQ.out.cell (i:=2) rfl;go_wp2_with fail
  refine(WJ.out _ (pU.out.bl lY.out.below)).mono ?_
  rintro e w2 ⟨rfl,ar⟩;have tC:=qh (wG.out.bl ar);have bj:=qh (aQ.out.bl ar);have gE:=qh (lY.out.up ar);clear c0 c1 d0 d1 d2 wG aQ lY aR bn;have G4:Hid (ζ w2.heap.size≠(Ο (ζ ⟨W0.heap.size,0,ε⟩) 0 0).ownBlock):=qh (gE.out.ne_ (Δ _));clear ar;have ZS:=qh (tC.out.al (δ #[J p1,J p2,J p3] 32));have SZ:=qh (bj.out.al (δ #[J p1,J p2,J p3] 32));have CU:=qh (Whole.new_ w2 32 [J p1,J p2,J p3]);have j0:=qh (gE.out.up (ax w2 (δ #[J p1,J p2,J p3] 32)));go_upto_region 5 with fail
  have L3a:w.heap.size≤w2.heap.size:=gE.out.below.size;have Yf:b1<w2.heap.size:=bj.out.lt;obtain⟨W3,lu⟩:=az (w2.alloc (δ #[J p1,J p2,J p3] 32));obtain⟨b3,oR⟩:=az w2.heap.size;obtain⟨g1,Ml⟩:=az W0.heap.size;rw[lu] at ZS SZ CU j0 ⊢;rw[oR] at CU G4 L3a Yf ⊢;rw[Ml] at j0 G4 ⊢;have L3:=qh L3a;have N3:=qh Yf;obtain⟨v0,gv0⟩:=az (Ο (ζ ⟨g1,0,ε⟩) 0 0);rw[gv0] at j0 G4 ⊢;clear lu oR Ml gv0 tC bj gE L3a Yf;have d0:=SZ.out.cell (i:=0) rfl;have d1:=SZ.out.cell (i:=1) rfl;have d2:=SZ.out.cell (i:=2) rfl;obtain⟨v5,w5,bL,mZ,fM,BR,OY⟩:=Ow.app2 (P:=η) 57 57 32 i0 _ 3 24 (b1+1) Tryz.underlying57 EV nz j7 kZ rfl (by decide) _ 0 _ (j0.out.up (ax _ _)) _ (ζ ⟨W3.heap.size,0,ε⟩) 1 1 (aA [(x1,x2,x3)]) (aS.whole3 (L:=[(x1,x2,x3)]) (Whole.new_ W3 32 [J x1,J x2,J x3])) (dW _) (by unfold Jap;omega) (by omega);obtain⟨A5,c5,rfl,-⟩:=mZ.rds;have ug:Hid (ζ b3≠(Ο A5 1 c5).ownBlock):=qh (Ow.ne2 G4.out (by have:=CU.out.lt;simp;omega) OY);have ob:=qh ((ZS.out.al (δ #[J x1,J x2,J x3] 32)).at_ (fM.block b0 (by have:=zl.out;have:=zY.out;omega)));have dQ:=qh ((SZ.out.al (δ #[J x1,J x2,J x3] 32)).at_ (fM.block b1 (by omega)));have Gj:=qh ((CU.out.al (δ #[J x1,J x2,J x3] 32)).grown BR G4.out);have kr:Hid (Ow w (b1+1) 32 3 (γ A5 1 c5) 1 (aA (lk (jF Vs) (x1,x2,x3) 1)) w5):=qh mZ
  have Js:=qh bL;clear bL mZ fM BR OY ZS SZ CU j0 G4
  go_wp2_with (first
   |(at_builtin
     refine ql rfl (.tmp 18) (.tmp 20) _ rfl rfl rfl Js.out ?_;clear d0 d1 d2 Js))
  skip
  go_loopw [5] (fun so wr=>∃(j:Nat) (A2:Option Κ) (c2:Nat) (y1 y2 y3:Int),1≤j∧j≤p∧so=γ A2 j c2∧Hid (Whole wr b0 25 [γ A n c,γ B m k])∧Hid (Whole wr b1 32 [J x1,J x2,J x3])∧Hid (Whole wr b3 32 [J y1,J y2,J y3])∧Hid (Ow w (b1+1) 32 3 (γ A2 j c2) j (aA (lk (jF Vs) (x1,x2,x3) j)) wr)∧Hid (ζ b3≠(Ο A2 j c2).ownBlock)∧Hid (jY (jF Vs) j (x1,x2,x3)=(y1,y2,y3))) (fun so _=>p - (UU so))
  case atStart=>exact⟨1,A5,c5,p1,p2,p3,by omega,Sp,rfl,ob,dQ,Gj,kr,ug,qh Gp.out⟩
  case round=>
   clear ob dQ Gj kr ug;obtain⟨j,A2,c2,y1,y2,y3,XU,hj,rfl,HD,HX,HY,HO,HN,HI⟩:=hrel;obtain⟨wo,dB⟩:=az wr;rw[dB] at HD HX HY HO ⊢;clear dB;have c0:=HD.out.cell (i:=0) rfl;have c1:=HD.out.cell (i:=1) rfl;have d0:=HX.out.cell (i:=0) rfl;have d1:=HX.out.cell (i:=1) rfl;have d2:=HX.out.cell (i:=2) rfl;have e0:=HY.out.cell (i:=0) rfl;have e1:=HY.out.cell (i:=1) rfl;have e2:=HY.out.cell (i:=2) rfl
   by_cases hjp:j<p
   ·have bQ:¬(y1,y2,y3)=(x1,x2,x3):=fun e=>Hp.out.ne j (by omega) hjp (HI.out.trans e)
    have hyr:(y1,y2,y3)∈aD Vs:=HI.out▸HFm.out.phi.it Hx.out j;have eS:decide ((j:Int)<82)=true:=decide_eq_true (by omega);have HPj:=qh (FF.out y1 y2 y3 hyr);obtain⟨⟨q1,q2,q3⟩,gq⟩:∃z,jF Vs (y1,y2,y3)=z:=⟨_,rfl⟩
    rw[gq] at HPj;have xU:Hid (jY (jF Vs) (j+1) (x1,x2,x3)=(q1,q2,q3)):=qh (by rw[iI,HI.out,gq]);have Nf:Hid (aA (lk (jF Vs) (x1,x2,x3) j)++aA [(y1,y2,y3)]=aA (lk (jF Vs) (x1,x2,x3) (j+1))):=qh (by rw[IG,HI.out,fa])
    have ht:∀W,(binOp .neq 32 (φ #[J y1,J y2,J y3]) (φ #[J x1,J x2,J x3])).run η W=.ok (Β true) W:=fun W=>by
     have e:=kj (y1,y2,y3) (x1,x2,x3) W;rw[decide_eq_false bQ] at e;exact e
    clear bQ hyr gq;go_upto_region 7 with fail
    clear ht eS;obtain⟨v7,w7,bL,Sl,Ir,S9,ho7⟩:=Ow.app2 (P:=η) 57 57 32 i0 _ 3 24 (b1+1) Tryz.underlying57 EV nz j7 kZ rfl (by decide) _ j _ (HO.out.up (ax _ _)) _ (ζ ⟨wo.heap.size,0,ε⟩) 1 1 (aA [(y1,y2,y3)]) (aS.whole3 (L:=[(y1,y2,y3)]) (Whole.new_ wo 32 [J y1,J y2,J y3])) (dW _) (by unfold Jap;omega) (by omega);obtain⟨A7,c7,rfl,-⟩:=Sl.rds;have X4:Hid (ζ b3≠(Ο A7 (j+1) c7).ownBlock):=qh (Ow.ne2 HN.out (by have:=HY.out.lt;simp;omega) ho7);have XP:=qh ((HD.out.al (δ #[J y1,J y2,J y3] 32)).at_ (Ir.block b0 (by have:=zl.out;have:=zY.out;omega)));have E8:=qh ((HX.out.al (δ #[J y1,J y2,J y3] 32)).at_ (Ir.block b1 (by omega)));have Oo:=qh ((HY.out.al (δ #[J y1,J y2,J y3] 32)).grown S9 HN.out);have HO7:Hid (Ow w (b1+1) 32 3 (γ A7 (j+1) c7) (j+1) (aA (lk (jF Vs) (x1,x2,x3) (j+1))) w7):=qh (by rw[←Nf.out];exact Sl);have Js:=qh bL;clear bL Sl Ir S9 ho7 HD HX HY HO HN
    go_upto_region 8 with (first
     |(at_builtin
       refine ql rfl (.tmp 30) (.tmp 32) _ rfl rfl rfl Js.out ?_;clear c0 c1 d0 d1 d2 e0 e1 e2 Js))
    have c0:=XP.out.cell (i:=0) rfl;have c1:=XP.out.cell (i:=1) rfl;have e0:=Oo.out.cell (i:=0) rfl;have e1:=Oo.out.cell (i:=1) rfl;have e2:=Oo.out.cell (i:=2) rfl;go_wp2_with fail
    refine(HPj.out _ (pU.out.bl HO7.out.below)).mono ?_
    rintro e w8 ⟨rfl,pI⟩;have zk:=qh (XP.out.bl pI);have xq:=qh (E8.out.bl pI);have Rk:=qh (Oo.out.bl pI);have Bp:=qh (HO7.out.up pI);clear pI c0 c1 e0 e1 e2 XP E8 Oo HO7;have f0:=Rk.out.free 0;have f1:=Rk.out.free 1;have f2:=Rk.out.free 2;have e0:=Rk.out.cell (i:=0) rfl;have e1:=Rk.out.cell (i:=1) rfl;have e2:=Rk.out.cell (i:=2) rfl;go_wp2;have Mh:b0≠b3:=by have:=N3.out;have:=zl.out;have:=zY.out;omega
    have rX:b1≠b3:=by have:=N3.out;omega
    have tz:=qh (((zk.out.far (p:=⟨b3,0,ε⟩) Mh (J q1)).far (p:=⟨b3,1,ε⟩) Mh (J q2)).far (p:=⟨b3,2,ε⟩) Mh (J q3));have sy:=qh (((xq.out.far (p:=⟨b3,0,ε⟩) rX (J q1)).far (p:=⟨b3,1,ε⟩) rX (J q2)).far (p:=⟨b3,2,ε⟩) rX (J q3));have HY9:=qh (((Rk.out.set_ 0 (J q1)).set_ 1 (J q2)).set_ 2 (J q3));have Q9:=qh (((Bp.out.cell_ X4.out L3.out 0 (J q1)).cell_ X4.out L3.out 1 (J q2)).cell_ X4.out L3.out 2 (J q3));clear e0 e1 e2 f0 f1 f2;go_roundw
    case rel=>exact⟨j+1,A7,c7,q1,q2,q3,by omega,hjp,by go_num,tz,sy,HY9,Q9,X4,xU⟩
    case measure=>simp[UU];omega
   ·obtain rfl:p=j:=by omega
    have he:(y1,y2,y3)=(x1,x2,x3):=HI.out.symm.trans Hp.out.back;simp only[Jba] at he;obtain⟨rfl,rfl,rfl⟩:=he
    have ht:∀W,(binOp .neq 32 (φ #[J y1,J y2,J y3]) (φ #[J y1,J y2,J y3])).run η W=.ok (Β ρ) W:=fun W=>by
     have e:=kj (y1,y2,y3) (y1,y2,y3) W;rw[decide_eq_true rfl] at e;exact e
    go_wp2;go_ret;exact⟨A2,c2,rfl,oa HO.out.own (by have:=fD.out;omega),HO.out.below⟩
 ·have ef:nB Vs (x1,x2,x3)=[]:=by rw[nB,if_neg hx]
  simp only[if_neg hx,decide_eq_false hx] at SQ;rw[ef];have WJ:=qh SQ;clear h hf hb SQ hx ef FF;go_enter Tryz.func31,Tryz.ntmps31;go_upto_region 1 with fail
  obtain⟨W0,b0,b1,bJ,bS,cJ,aR,aQ,bn,uo,zl,j4,zY,fD,kY⟩:=D8 w 25 [γ A n c,γ B m k] 32 [J x1,J x2,J x3];rw[bJ,cJ,bS];clear bJ bS cJ;have wG:=qh (aR.out.al (δ #[] 32));have aQ:=qh (aQ.out.al (δ #[] 32));have lY:Hid (Ow w (b1+1) 32 3 (γ (ζ ⟨W0.heap.size,0,ε⟩) 0 0) 0 [] (W0.alloc (δ #[] 32))):=qh (Ow.new_ (cs:=#[]) bn.out (by have:=fD.out;omega) (by have:=aQ.out.lt;simp at this;have:=uo.out;have:=zY.out;omega) (by unfold Jap;omega) rfl);have c0:=wG.out.cell (i:=0) rfl;have c1:=wG.out.cell (i:=1) rfl;have d0:=aQ.out.cell (i:=0) rfl;have d1:=aQ.out.cell (i:=1) rfl;have d2:=aQ.out.cell (i:=2) rfl;go_wp2_with fail
  refine(WJ.out _ (pU.out.bl lY.out.below)).mono ?_
  rintro e w2 ⟨rfl,ar⟩;have tC:=qh (wG.out.bl ar);have bj:=qh (aQ.out.bl ar);have gE:=qh (lY.out.up ar);clear c0 c1 d0 d1 d2 wG aQ lY aR bn;go_wp2;go_ret;exact⟨_,_,rfl,oa (gE.out.up (ax _ _)).own (by have:=fD.out;omega),(gE.out.up (ax _ _)).below⟩
theorem Ct (A:Option Κ) (n c:Nat) (Vs:List VC) (B:Option Κ) (m k:Nat) (Es:List EC) (w:ο) (h:aO w A n c Vs B m k Es) (hf:aV Vs Es):
 Ζ η 40 #[φ #[γ A n c,γ B m k]] w fun e w'=>∃A' c' X,e=.returned (γ A' X.length c')∧RowsIn w' (w.heap.size+1) 57 32 3 Gf A' X.length c' X∧X.map (·.2.2)=kK (jF Vs) 80 (wM Es) []∧σ w.heap.size w w':=by
 have pU:=qh h;have HFm:=qh hf;have hm:m≤40:=(hf.small h).2.1;have hme:Es.length=m:=h.e.rlen cM (by decide);have XN:=qh (fun W (h:aO W A n c Vs B m k Es)=>AZ A n c Vs B m k Es W h (by omega))
 have HTr:Hid (∀y1 y2 y3:Int,(y1,y2,y3)∈aD Vs→∀W,aO W A n c Vs B m k Es→Ζ η 31 #[φ #[γ A n c,γ B m k],φ #[J y1,J y2,J y3]] W fun e w'=>∃A' c',e=.returned (.slice A' (nO (jF Vs) (y1,y2,y3) 80 (y1,y2,y3)).length c')∧w'.ownsRow W.heap.size 32 3 (.slice A' (nO (jF Vs) (y1,y2,y3) 80 (y1,y2,y3)).length c') (nO (jF Vs) (y1,y2,y3) 80 (y1,y2,y3)).length (aA (nO (jF Vs) (y1,y2,y3) 80 (y1,y2,y3)))∧(nO (jF Vs) (y1,y2,y3) 80 (y1,y2,y3)).length≤80∧σ W.heap.size W w'):=qh (fun y1 y2 y3 hy W h=>by
  obtain⟨e,_,_,q⟩:=(hf.mem _).1 hy;have h1:=DL A n c Vs B m k Es y1 y2 y3 W h hf (by simp only at q;omega);have e1:nB Vs (y1,y2,y3)=nO (jF Vs) (y1,y2,y3) 80 (y1,y2,y3):=by rw[nB,if_pos hy]
  have h8:=Gk hf (y1,y2,y3);rw[e1] at h1 h8;refine h1.mono ?_;rintro e w' ⟨A',c',r1,r2,r3⟩;exact⟨A',c',r1,r2,h8,r3⟩)
 have DV:=hf.ds;have pj:=Ef Es;obtain⟨L,gL⟩:=az (wM Es);rw[gL] at XN DV pj ⊢;rw[hme] at pj;rw[←pj] at XN;have afd:L.length≤80:=by omega
 have HLm:=qh DV;clear h hf gL DV pj hme hm;go_enter Tryz.func40,Tryz.ntmps40;go_upto_region 1 with fail
 obtain⟨W0,b0,bJ,bS,aR,bn,uo,zl,j4⟩:=LJ w 25 [γ A n c,γ B m k];rw[bJ,bS];clear bJ bS;have c0:=(aR.out.al (δ #[] 57)).al (δ #[] 32)|>.cell (i:=0) rfl;have c1:=(aR.out.al (δ #[] 57)).al (δ #[] 32)|>.cell (i:=1) rfl;have iT:=qh (aF (aF bn.out (δ #[] 57)) (δ #[] 32));have aQ:=qh ((aR.out.al (δ #[] 57)).al (δ #[] 32))
 have lY:Hid (Ow w (b0+1) 32 3 (γ (ζ ⟨W0.heap.size+1,0,ε⟩) 0 0) 0 [] ((W0.alloc (δ #[] 57)).alloc (δ #[] 32))):=qh (by
  have h1:=Ow.new_ (W:=W0.alloc (δ #[] 57)) (cs:=#[]) (e:=32) (size:=3) (n:=0) (B:=b0+1) (aF bn.out (δ #[] 57)) (by have:=j4.out;omega) (by have:=aR.out.lt;simp;omega) (by unfold Jap;omega) rfl;rw[World.size_alloc] at h1;exact h1)
 have sQ:Hid (RowsIn ((W0.alloc (δ #[] 57)).alloc (δ #[] 32)) (b0+1) 57 32 3 Gf (ζ ⟨W0.heap.size,0,ε⟩) 0 0 []):=qh ⟨bF (World.ownsRow_made W0 #[] 0 aR.out.lt (Jas _) (by simp)) (ax _ _),rfl,fun x hx=>(by cases hx),fun i j x y a b _ h=>(by simp at h)⟩;go_wp2_with fail
 refine(XN.out _ (pU.out.bl iT.out)).mono ?_
 rintro e w3 ⟨Al,cl,rfl,ZF,bw⟩;have mf:w.heap.size≤b0:=j4.out
 have HP3:Hid (PR w (b0+1) (ζ ⟨W0.heap.size+1,0,ε⟩) 0 [] Al cl L (ζ ⟨W0.heap.size,0,ε⟩) 0 [] w3):=qh ⟨lY.out.up bw,oa ZF (by have:=aQ.out.lt;omega),sQ.out.up bw,fun g e q=>by
  have h1:=(ZF.lt g e).1;have h2:W0.heap.size+1=g:=Μ q;simp at h1 h2;omega,fun x hx=>(by cases hx)⟩
 have ff:=qh (aQ.out.bl bw);clear c0 c1 aR bn iT aQ lY sQ ZF bw mf XN;obtain⟨A0,Zp⟩:=az (ζ (⟨W0.heap.size,0,ε⟩:Κ));obtain⟨T0,Zs⟩:=az (ζ (⟨W0.heap.size+1,0,ε⟩:Κ));rw[Zp,Zs] at HP3;rw[Zp,Zs];clear Zp Zs;go_wp2;go_loopw [3,4,6] (fun so st si wr=>∃(i:Nat) (Ao:Option Κ) (co:Nat) (At:Option Κ) (ct:Nat) (T:List D) (X:List (Rw D)),i≤L.length∧si=J i∧so=γ Ao X.length co∧st=γ At T.length ct∧Hid (Whole wr b0 25 [γ A n c,γ B m k])∧Hid (PR w (b0+1) At ct T Al cl L Ao co X wr)∧Hid (kK (jF Vs) 80 L []=X.map (·.2.2)++kK (jF Vs) 80 (L.drop i) T)∧Hid (X.length≤i∧T.length≤i*80)) (fun _ _ si _=>L.length - (intOf si).toNat)
 case atStart=>exact⟨0,A0,0,T0,0,[],[],by omega,rfl,rfl,rfl,ff,HP3,qh rfl,qh ⟨Jas _,Jas _⟩⟩
 case round=>
  clear ff HP3;obtain⟨i,Ao,co,At,ct,T,X,hi,rfl,rfl,rfl,HX,HP,HI,Hn⟩:=hrel;obtain⟨wo,dB⟩:=az wr;rw[dB] at HX HP ⊢;clear dB
  by_cases mA:i<L.length
  ·obtain⟨bd,Mf,rfl,Tu,hc⟩:=(bk HP.out.l).darts (by omega);obtain⟨d1,d2,d3⟩:=hc i mA
   have qO:L.drop i=L.getD i (0,0,0)::L.drop (i+1):=by
    rw[Χ mA,χ,θ mA];rfl
   have ZE:L.getD i (0,0,0)∈aD Vs:=(HLm.out _).1 (by rw[χ,θ mA];exact List.getElem_mem mA);obtain⟨x,gx⟩:=az (L.getD i (0,0,0));rw[gx] at d1 d2 d3 qO ZE;obtain⟨x1,x2,x3⟩:=x;have hI:=HI.out;rw[qO,kK] at hI;obtain⟨hXi,hTi⟩:=Hn.out;have Mw:Hid (∀W,aS W W.heap.size 3 At T.length ct (aA T)→Ζ η 33 #[γ At T.length ct,φ #[J x1,J x2,J x3]] W fun e w'=>e=.returned (J (fI T (x1,x2,x3)))∧σ W.heap.size W w'):=qh (fun W h=>gJ At T.length ct T (x1,x2,x3) W h (by omega))
   by_cases S1:(x1,x2,x3)∈T
   ·rw[if_pos S1] at hI;obtain⟨e1,e2⟩:=gO S1;rw[e1] at Mw;have ht:decide ((0:Int)≤((T.idxOf (x1,x2,x3):Nat):Int))=true:=decide_eq_true (by omega);obtain⟨q,gq⟩:=az (T.idxOf (x1,x2,x3));rw[gq] at Mw ht;have xU:=qh hI;clear hI HI qO gx hc Tu e1 e2 gq S1
    go_wp2_with (first
     |(go_at_call 33;refine(Mw.out _ (bk HP.out.ow.own)).mono ?_;rintro e w5 ⟨rfl,fM⟩
       have HP5:=qh (HP.out.bl fM);have dQ:=qh (HX.out.bl fM);clear fM d1 d2 d3 HP HX))
    go_roundw
    case rel=>exact⟨i+1,Ao,co,At,ct,T,X,by omega,by go_num,rfl,rfl,dQ,HP5,xU,qh ⟨by omega,by omega⟩⟩
    case measure=>simp[intOf];omega
   ·rw[if_neg S1] at hI;rw[jE S1] at Mw;have ht:decide ((0:Int)≤(-1:Int))=ρ:=by decide
    have HTx:=qh (HTr.out x1 x2 x3 ZE);obtain⟨F,gF⟩:=az (nO (jF Vs) (x1,x2,x3) 80 (x1,x2,x3));rw[gF] at HTx hI;have xU:=qh hI;have ZM:Hid (∀W,σ wo.heap.size wo W→W.cell? ⟨bd,Mf+i*3,ε⟩=ζ (J x1)∧W.cell? ⟨bd,Mf+i*3+1,ε⟩=ζ (J x2)∧W.cell? ⟨bd,Mf+i*3+2,ε⟩=ζ (J x3)):=qh (fun W hb=>⟨(hb.cell (p:=⟨bd,Mf+i*3,ε⟩) Tu).trans d1,(hb.cell (p:=⟨bd,Mf+i*3+1,ε⟩) Tu).trans d2,(hb.cell (p:=⟨bd,Mf+i*3+2,ε⟩) Tu).trans d3⟩);clear hI HI qO gx hc Tu gF S1 ZE
    go_upto_region 8 with (first
     |(go_at_call 33;refine(Mw.out _ (bk HP.out.ow.own)).mono ?_;rintro e w5 ⟨rfl,fM⟩
       have HP5:=qh (HP.out.bl fM);have dQ:=qh (HX.out.bl fM);have js:Hid (σ wo.heap.size wo w5):=qh fM;clear fM d1 d2 d3 HP HX ht))
    have oh:=qh (dQ.out.dr);have Fa:=qh (HP5.out.dr);have pA:=qh (ba js.out);have IK:∀w',Kept aT w5.drew w'→w'.cell? ⟨b0,0,ε⟩=ζ (γ A n c):=fun w' h=>h.nil_cell (oh.out.cell (i:=0) rfl)
    have LI:∀w',Kept aT w5.drew w'→w'.cell? ⟨b0,1,ε⟩=ζ (γ B m k):=fun w' h=>h.nil_cell (oh.out.cell (i:=1) rfl)
    have VY:∀w',Kept aT w5.drew w'→w'.cell? ⟨bd,Mf+i*3,ε⟩=ζ (J x1):=fun w' h=>h.nil_cell ((ZM.out _ pA.out).1)
    have PK:∀w',Kept aT w5.drew w'→w'.cell? ⟨bd,Mf+i*3+1,ε⟩=ζ (J x2):=fun w' h=>h.nil_cell ((ZM.out _ pA.out).2.1)
    have O9:∀w',Kept aT w5.drew w'→w'.cell? ⟨bd,Mf+i*3+2,ε⟩=ζ (J x3):=fun w' h=>h.nil_cell ((ZM.out _ pA.out).2.2)
    refine aw aT (by kernel_rfl) ?_;refine aq 0 ?_;refine aq 1 ?_;refine aq 2 ?_;refine aq 3 ?_;refine aq 4 ?_;refine rU 5 ?_;intro w' aC
    refine(HTx.out _ (pU.out.bl (Fa.out.bl aC).ow.below)).mono ?_
    rintro e Ea ⟨A9,c9,rfl,XV,Mj,pP⟩;have ZA:=qh Mj;have hF:NH (b0+1) A9 c9 F Ea:=⟨oa XV (by have:=(oh.out.bl aC).lt;omega)⟩
    have HNt:Hid (∀g,(Ο A9 F.length c9).ownBlock=ζ g→(Ο At T.length ct).ownBlock≠ζ g):=qh (fun g e q=>by
     have h1:=(XV.lt g e).1;have h2:=((Fa.out.bl aC).ow.own.lt g q).2;omega)
    have gh:Hid (∀y∈X,∀a b:Κ,y.1=ζ a→A9=ζ b→a.block≠b.block):=qh (fun y hy a b ha hb q=>by
     have h1:=(XV.lt b.block (by rw[hb];rfl)).1;have h2:=(((Fa.out.bl aC).r.one y hy).lt a.block (by rw[IN,ha];rfl)).2;omega)
    clear XV Mj;have Ln:=qh ((oh.out.bl aC).bl pP);have Pr:=qh ((Fa.out.bl aC).bl pP);have Fg:=qh (af (af pA.out aC) pP);have adS:=fun cD (h:Kept aT Ea cD)=>IK cD ((Kept.of_ext aC).trans ((Kept.of_below pP).trans h))
    have adb:=fun cD (h:Kept aT Ea cD)=>LI cD ((Kept.of_ext aC).trans ((Kept.of_below pP).trans h))
    have adO:=fun cD (h:Kept aT Ea cD)=>VY cD ((Kept.of_ext aC).trans ((Kept.of_below pP).trans h))
    have abK:=fun cD (h:Kept aT Ea cD)=>PK cD ((Kept.of_ext aC).trans ((Kept.of_below pP).trans h))
    have adi:=fun cD (h:Kept aT Ea cD)=>O9 cD ((Kept.of_ext aC).trans ((Kept.of_below pP).trans h))
    refine⟨_,rfl,Kept.of_below pP,?_⟩
    clear aC pP;have PC:=qh hF;clear hF;simp only[ξ,ak,aj,ah];refine aq 6 ?_;refine aG (by kernel_rfl) ?_ _;intro Qg aC;have KN:=qh (Ln.out.bl aC);have P4:=qh (Pr.out.bl aC);have Pu:=qh (PC.out.bl aC);have Nc:=qh (af Fg.out aC);clear Ln Pr PC Fg;clear aC;go_upto_region 9 with fail
    refine wp_region_lit ?_;refine ag (v:=?_) (ζ 31) rfl (by rfl) ?_ ?_;rotate_left
    ·go_simp;(try with_reducible rfl)
    simp only[ξ,ak,aj,ah];refine ag (v:=?_) (ζ 32) rfl (by rfl) ?_ ?_;rotate_left
    ·go_simp;(try with_reducible rfl)
    simp only[ξ,ak,aj,ah];refine cZ (ζ 33) rfl (by rfl) 86 57 1 #[(0,.tmp 32)] (by rfl) Tryz.underlying86 #[γ A9 F.length c9] (by kernel_rfl) ?_;simp only[ξ,ak,aj,ah];have Xc:Hid (aS (Qg.alloc (δ #[γ A9 F.length c9] 57)) (Qg.alloc (δ #[γ A9 F.length c9] 57)).heap.size 1 (ζ ⟨Qg.heap.size,0,ε⟩) 1 1 [γ A9 F.length c9]):=qh (aS.of_whole (cs:=[γ A9 F.length c9]) (Whole.new_ _ _ _) rfl);obtain⟨A7,c7,w7,bL,hp7,Ir⟩:=(P4.out.al (δ #[γ A9 F.length c9] 57)).out A9 c9 F (bF Pu.out.own (ax _ _)) gh.out HNt.out (by omega) _ _ Xc.out;refine jA (ζ 34) rfl (by rfl) (bV (by rfl) (by rfl) (by rfl) bL) ?_;simp only[ξ,ak,aj,ah];have E8:=qh ((KN.out.al (δ #[γ A9 F.length c9] 57)).at_ (Ir.block b0 (by omega)));obtain⟨A8,c8,w8,O5,hp8,pI⟩:=hp7.tell (List.mem_append.2 (.inr (List.mem_singleton.2 rfl))) (by have:=ZA.out;omega);have xq:=qh (E8.out.at_ (pI.block b0 (by omega)));have XI:Hid (PR w (b0+1) A8 c8 (T++F) (ζ ⟨bd,Mf,ε⟩) cl L A7 c7 (X++[(A9,c9,F)]) w8):=qh hp8;have PL:=qh O5;have HI8:Hid (kK (jF Vs) 80 L []=(X++[((A9,c9,F):Rw D)]).map (·.2.2)++kK (jF Vs) 80 (L.drop (i+1)) (T++F)):=qh (by rw[xU.out,List.map_append];simp);have Hn8:Hid ((X++[((A9,c9,F):Rw D)]).length≤i+1∧(T++F).length≤(i+1)*80):=qh ⟨by simp;omega,by have:=ZA.out;rw[Ε];omega⟩;have pR:(X++[((A9,c9,F):Rw D)]).length=X.length+1:=by simp
    clear bL hp7 Ir E8 O5 hp8 pI Xc gh HNt ZA xU KN P4 Pu Nc;go_upto_region 10 with fail
    go_wp2_with (first
     |(at_builtin
       refine ql rfl (.tmp 35) (.tmp 36) _ rfl rfl rfl PL.out ?_;clear PL))
    go_roundw
    case rel=>exact⟨i+1,A7,c7,A8,c8,T++F,_,by omega,by go_num,by rw[pR],by rw[Ε],xq,XI,HI8,Hn8⟩
    case measure=>simp[intOf];omega
  ·obtain rfl:L.length=i:=by omega
   have hI:=HI.out;rw[List.drop_length] at hI;have xU:Hid (kK (jF Vs) 80 L []=X.map (·.2.2)):=qh (by rw[hI];simp[kK]);clear hI HI;go_wp2;go_ret;exact⟨Ao,co,X,rfl,by have:=zl.out;rw[this];exact HP.out.r,xU.out.symm,HP.out.ow.below⟩
theorem JI (A:Option Κ) (n c:Nat) (Vs:List VC) (B:Option Κ) (m k:Nat) (Es:List EC) (F C:Nat) (w:ο) (h:aO w A n c Vs B m k Es) (hn:n≤1000000) (hm:m≤1000000) (hF:F≤1000000) (hC:C≤1000000) (HF:∀W,aO W A n c Vs B m k Es→Ζ η 40 #[φ #[γ A n c,γ B m k]] W fun e w'=>∃A' c',e=.returned (γ A' F c')∧σ W.heap.size W w') (HC:∀W,aO W A n c Vs B m k Es→Ζ η 41 #[φ #[γ A n c,γ B m k]] W fun e w'=>e=.returned (J ((C:Nat):Int))∧σ W.heap.size W w'):
 Ζ η 85 #[φ #[γ A n c,γ B m k]] w fun e w'=>e=.returned (Ξ #[J (n:Int),J (m:Int),J ((F+kN Vs:Nat):Int),J (C:Int)])∧σ w.heap.size w w':=by
 have pU:=qh h;have H:=qh h.v;have hr:∀v∈Vs,v.2.1.2.2.2.length=v.2.1.2.1:=fun v hv=>(h.r v hv).2.dlen
 have Hr:=qh hr;have hl:=h.v.rlen aN (by decide);have Hl:=qh hl;have HG:Hid (kN Vs=((Vs.take n).filter NQ).length):=qh (by rw[Ι (by omega)];rfl);obtain⟨an,gan⟩:=az (kN Vs);rw[gan] at HG ⊢;have HFf:=qh HF;have HCc:=qh HC;clear h hr hl gan HF HC;go_enter Tryz.func85,Tryz.ntmps85;have ks:((w.alloc (δ #[γ A n c,γ B m k] 25))).cell? ⟨w.heap.size,0,ε⟩=ζ (γ A n c):=(show Whole (w.alloc (δ #[γ A n c,γ B m k] 25)) (w.heap.size) (25) ([γ A n c,γ B m k]) from Whole.new2 (by first|rfl|simp)).cell (i:=0) rfl;have ko:((w.alloc (δ #[γ A n c,γ B m k] 25))).cell? ⟨w.heap.size,1,ε⟩=ζ (γ B m k):=(show Whole (w.alloc (δ #[γ A n c,γ B m k] 25)) (w.heap.size) (25) ([γ A n c,γ B m k]) from Whole.new2 (by first|rfl|simp)).cell (i:=1) rfl;go_wp2_with fail
 clear ks ko
 refine(HFf.out _ (pU.out.al (δ #[γ A n c,γ B m k] 25))).mono ?_
 rintro e w3 ⟨A5,c5,rfl,bw⟩;have Qv:=qh ((pU.out.al (δ #[γ A n c,γ B m k] 25)).bl bw);have P8:=qh ((show Whole (w.alloc (δ #[γ A n c,γ B m k] 25)) (w.heap.size) (25) ([γ A n c,γ B m k]) from Whole.new2 (by first|rfl|simp)).bl bw);have cQ:=qh (af (aF (Θ _ w) (δ #[γ A n c,γ B m k] 25)) bw);clear pU;clear bw;have ob:=qh (Qv.out);have dQ:=qh (P8.out);have js:=qh (cQ.out);clear Qv P8 cQ;go_wp2;go_loopw [6,7] (fun sn si wr=>∃(j q:Nat),j≤n∧si=J j∧sn=J ((F+q:Nat):Int)∧Hid (wr=w3)∧Hid (((Vs.take j).filter NQ).length=q)) (fun _ si _=>n - (intOf si).toNat)
 case atStart=>exact⟨0,0,by omega,rfl,rfl,by first|exact qh rfl|exact qh trivial,qh rfl⟩
 case round=>
  obtain⟨j,q,hj,rfl,rfl,HW,HQ⟩:=hrel;have wT:=HW.out.symm;subst wT
  have hqj:q≤j:=by
   have h1:=List.length_filter_le NQ (Vs.take j);rw[HQ.out,List.length_take] at h1;omega
  have c0:=dQ.out.cell (i:=0) rfl
  by_cases nF:j<n
  ·obtain⟨v,hx⟩:∃v,Vs[j]? =ζ v:=⟨_,θ (by have:=Hl.out;omega)⟩
   have Pz:=CP hx;rw[HQ.out] at Pz;have nK:=NP (Hr.out v (ω hx));obtain⟨b,gb⟩:=az (NQ v);rw[gb] at nK Pz;obtain⟨bb,off,rfl,bZ,bD⟩:=H.out.place aN (by decide) (by omega);have cR:=js.out;have q0:=bD j _ hx 0 _ rfl;have q1:=bD j _ hx 1 _ rfl;have q2:=bD j _ hx 2 _ rfl;have q3:=bD j _ hx 3 _ rfl;have q4:=bD j _ hx 4 _ rfl;simp only[Ν,Jac] at q0 q1 q2 q3 q4;have l0:=(cR.cell (p:=⟨bb,off+j*5,ε⟩) bZ).trans q0;have l1:=(cR.cell (p:=⟨bb,off+j*5+1,ε⟩) bZ).trans q1;have l2:=(cR.cell (p:=⟨bb,off+j*5+2,ε⟩) bZ).trans q2;have l3:=(cR.cell (p:=⟨bb,off+j*5+3,ε⟩) bZ).trans q3;have l4:=(cR.cell (p:=⟨bb,off+j*5+4,ε⟩) bZ).trans q4;clear cR q0 q1 q2 q3 q4;obtain⟨⟨i1,i2⟩,⟨rA,rn,rc,rL⟩,lb,at_⟩:=v;replace nK:((rn:Int)==0)=b:=nK;have q2:w3.cell? ⟨bb,off+j*5+2,ε⟩=ζ (γ rA rn rc):=l2;have Hnx:=qh Pz;clear hx bD bZ gb Pz l0 l1 l2 l3 l4;cases b with
   |false=>
    go_wp2;go_roundw
    case rel=>exact⟨j+1,q,by omega,by go_num,rfl,by first|exact qh rfl|exact qh trivial,qh Hnx.out⟩
    case measure=>simp[intOf];omega
   |true=>
    have hwq:Jaw.wrap (((F+q:Nat):Int)+1)=((F+(q+1):Nat):Int):=by rw[Jbb _ (by omega)];omega
    obtain⟨fq,SR⟩:=az (F+q);have Rj:F+(q+1)=fq+1:=by omega
    rw[SR,Rj] at hwq;rw[SR];have Gfq:=qh Rj;clear SR Rj;go_wp2;go_roundw
    case rel=>exact⟨j+1,q+1,by omega,by go_num,by rw[Gfq.out];go_num,by first|exact qh rfl|exact qh trivial,qh Hnx.out⟩
    case measure=>simp[intOf];omega
  ·obtain rfl:n=j:=by omega
   have hq:q=an:=by rw[HG.out,HQ.out]
   subst hq;obtain⟨fq,SR⟩:=az (F+q);have Gfz:Hid ((F:Int)+(q:Int)=(fq:Int)):=qh (by omega);rw[SR];clear SR;go_upto_region 7 with fail
   have KE:=qh (ob.out.dr);have oh:=qh (dQ.out.dr);have pA:=qh (ba js.out);have IK:∀w',Kept aT w3.drew w'→w'.cell? ⟨w.heap.size,0,ε⟩=ζ (γ A n c):=fun w' h=>h.nil_cell (oh.out.cell (i:=0) rfl)
   have LI:∀w',Kept aT w3.drew w'→w'.cell? ⟨w.heap.size,1,ε⟩=ζ (γ B m k):=fun w' h=>h.nil_cell (oh.out.cell (i:=1) rfl)
   refine aw aT (by kernel_rfl) ?_;refine aq 0 ?_;refine aq 1 ?_;refine aq 2 ?_;refine aq 3 ?_;refine aq 4 ?_;refine aq 5 ?_;refine aq 6 ?_;refine aq 7 ?_;refine rU 8 ?_;intro w' aC
   refine(HCc.out _ (KE.out.bl aC)).mono ?_
   rintro e Wc ⟨rfl,wh⟩;have Lv:=qh ((KE.out.bl aC).bl wh);have I1:=qh ((oh.out.bl aC).bl wh);have Fw:=qh (af (af pA.out aC) wh);have PK:=fun cD (h:Kept aT Wc cD)=>IK cD ((Kept.of_ext aC).trans ((Kept.of_below wh).trans h))
   have O9:=fun cD (h:Kept aT Wc cD)=>LI cD ((Kept.of_ext aC).trans ((Kept.of_below wh).trans h))
   refine⟨_,rfl,Kept.of_below wh,?_⟩
   clear aC wh;simp only[ξ,ak,aj,ah];refine aq 9 ?_;refine aq 10 ?_;refine aq 11 ?_;refine aq 12 ?_;refine aG (by kernel_rfl) ?_ _;intro Ea aC;have Y5:=qh (Lv.out.bl aC);have aa4:=qh (I1.out.bl aC);have MJ:=qh (af Fw.out aC);clear Lv I1 Fw;clear aC;go_wp2;exact bodyPost_ret (v:=Ξ #[J (n:Int),J (m:Int),J (fq:Int),J (C:Int)]) (by simp[results,Tryz.results85,go_sem]) rfl ⟨by rw[Gfz.out],MJ.out⟩
theorem DY (A:Option Κ) (n c:Nat) (Vs:List VC) (B:Option Κ) (m k:Nat) (Es:List EC) (f C:Nat) (g:Int) (w:ο) (h:aO w A n c Vs B m k Es) (hn:n≤1000000) (hm:m≤1000000) (hf:f≤2000000) (hC:C≤1000000) (hg:(2*(C:Int) - n+m - f).tdiv 2=g)
 (HN:∀W,aO W A n c Vs B m k Es→Ζ η 85 #[φ #[γ A n c,γ B m k]] W fun e w'=>e=.returned (Ξ #[J (n:Int),J (m:Int),J (f:Int),J (C:Int)])∧σ W.heap.size W w'):
 Ζ η 58 #[φ #[γ A n c,γ B m k]] w fun e w'=>e=.returned (J g)∧σ w.heap.size w w':=by
 have pU:=qh h;have YH:=qh HN;have h1:Jaw.wrap (2*(C:Int))=2*(C:Int):=Jbb _ (by omega);have h2:Jaw.wrap (2*(C:Int) - (n:Int))=2*(C:Int) - (n:Int):=Jbb _ (by omega);have h3:Jaw.wrap (2*(C:Int) - (n:Int)+(m:Int))=2*(C:Int) - (n:Int)+(m:Int):=Jbb _ (by omega);have h4:Jaw.wrap (2*(C:Int) - (n:Int)+(m:Int) - (f:Int))=2*(C:Int) - (n:Int)+(m:Int) - (f:Int):=Jbb _ (by omega)
 have hgb:-9223372036854775808≤g∧g≤9223372036854775807:=by
  rw[←hg];have q1:-(8000000:Int)≤(2*(C:Int) - n+m - f):=by omega
  have q2:(2*(C:Int) - n+m - f)≤8000000:=by omega
  generalize (2*(C:Int) - (n:Int)+m - f)=x at q1 q2;rcases Int.le_total 0 x with q|q
  ·rw[Jbp q];omega
  ·have e:x.tdiv 2= -((-x) / 2):=by rw[←Jbp (show(0:Int)≤-x by omega),Int.neg_tdiv,Int.neg_neg]
   rw[e];omega
 have h5:Jaw.wrap ((2*(C:Int) - (n:Int)+(m:Int) - (f:Int)).tdiv 2)=g:=by rw[hg];exact Jbb _ hgb
 clear h HN hg hgb;go_enter Tryz.func58,Tryz.ntmps58;have ks:((w.alloc (δ #[γ A n c,γ B m k] 25))).cell? ⟨w.heap.size,0,ε⟩=ζ (γ A n c):=(show Whole (w.alloc (δ #[γ A n c,γ B m k] 25)) (w.heap.size) (25) ([γ A n c,γ B m k]) from Whole.new2 (by first|rfl|simp)).cell (i:=0) rfl;have ko:((w.alloc (δ #[γ A n c,γ B m k] 25))).cell? ⟨w.heap.size,1,ε⟩=ζ (γ B m k):=(show Whole (w.alloc (δ #[γ A n c,γ B m k] 25)) (w.heap.size) (25) ([γ A n c,γ B m k]) from Whole.new2 (by first|rfl|simp)).cell (i:=1) rfl;go_wp2_with fail
 clear ks ko
 refine(YH.out _ (pU.out.al (δ #[γ A n c,γ B m k] 25))).mono ?_
 rintro e w3 ⟨rfl,bw⟩;have Qv:=qh ((pU.out.al (δ #[γ A n c,γ B m k] 25)).bl bw);have P8:=qh ((show Whole (w.alloc (δ #[γ A n c,γ B m k] 25)) (w.heap.size) (25) ([γ A n c,γ B m k]) from Whole.new2 (by first|rfl|simp)).bl bw);have cQ:=qh (af (aF (Θ _ w) (δ #[γ A n c,γ B m k] 25)) bw);clear pU;clear bw;go_wp2;go_ret;exact⟨by first|rfl|(rw[h5])|simp[h5],cQ.out⟩
section
variable {A:Option Κ} {n c:Nat} {Vs:List VC} {B:Option Κ} {m k:Nat} {Es:List EC}
theorem vB (hf:aV Vs Es):∀W,aO W A n c Vs B m k Es→Ζ η 40 #[φ #[γ A n c,γ B m k]] W fun e w'=>∃A' c',e=.returned (γ A' (nN Vs Es) c')∧σ W.heap.size W w':=fun W h=>by
 refine(Ct A n c Vs B m k Es W h hf).mono ?_
 rintro e w' ⟨A',c',X,rfl,-,hX,hb⟩;have hl:=congrArg List.length hX;rw[Ρ] at hl;rw[hl];exact⟨A',c',rfl,hb⟩
theorem Ht (hf:aV Vs Es) (hg:rO Vs Es):∀W,aO W A n c Vs B m k Es→Ζ η 85 #[φ #[γ A n c,γ B m k]] W fun e w'=>e=.returned (Ξ #[J (n:Int),J (m:Int),J ((nN Vs Es+kN Vs:Nat):Int),J ((mN (fP Vs):Nat):Int)])∧σ W.heap.size W w':=fun W h=>by
 have hp:=hf.pre h hg;have h1:=hf.small h;exact JI A n c Vs B m k Es (nN Vs Es) (mN (fP Vs)) W h hp.n (by omega) (by have:=xd hf;omega) (by have:=uV hf;omega) (vB hf) (fun W h=>qu A n c Vs B m k Es W h hf)
theorem Ig (hf:aV Vs Es) (hg:rO Vs Es):∀W,aO W A n c Vs B m k Es→Ζ η 58 #[φ #[γ A n c,γ B m k]] W fun e w'=>e=.returned (J (yp Vs Es))∧σ W.heap.size W w':=fun W h=>by
 have hp:=hf.pre h hg;have h1:=hf.small h;have h2:=JU Vs;have h3:=(Eg h).1;exact DY A n c Vs B m k Es (nN Vs Es+kN Vs) (mN (fP Vs)) (yp Vs Es) W h hp.n (by omega) (by have:=xd hf;omega) (by have:=uV hf;omega) (M4 h) (Ht hf hg)
end
end Go.Proofs.YtpdpbfmiahjiiaaGreat
