/- Several texts in one. -/
import Derived.Test.YtpdpbfmiahjiiaaGreatPlAB
import Derived.Test.YtpdpbfmiahjiiaaGreatPlAD
import Derived.Test.YtpdpbfmiahjiiaaGreatPlAF
import Derived.Test.YtpdpbfmiahjiiaaGreatPlAQ
import Derived.Below
import Derived.BigQuiet
import Derived.Deep.AppendLies
import Derived.Deep.DeepCutAuto
import Derived.Deep.MidRow
import Derived.Deep.QuietTactic
import Derived.Deep.Slices
import Derived.Deep.WholeRow
import Derived.Great.Walk
import Derived.IntWalk
import Derived.KernelRfl
import Derived.Laws.AppendOwnNone
import Derived.Laws.NewBlocks
import Derived.Laws.OwnMore
import Derived.Laws.Rows
import Derived.Laws.Tables
import Derived.Lib.Hide
import Derived.Lib.SmallJoins
import Derived.LoopTactic
import Derived.Maps.AppendAt
import Derived.OrdersHeld
import Derived.Outline
import Derived.WalkKit
import Derived.WalkLawsBesides
import Derived.WalkSpells
set_option linter.unusedSectionVars false
set_option linter.unusedSimpArgs false
set_option linter.unusedVariables false
set_option maxRecDepth 100000
set_option maxHeartbeats 16000000
namespace Go.Proofs.YtpdpbfmiahjiiaaGreat
open Go.RowKit
open _root_.Go.Value renaming slice→γ,agg→φ,bool→Β
open _root_.Go.Obj renaming cells→δ
open _root_.Option renaming none→ε,some→ζ
open _root_.Go.Proofs.Tryz renaming prog→η
open _root_.List renaming getElem?_eq_getElem→θ,getElem?_eq_some_iff→ν,mem_cons→Η,drop_eq_getElem_cons→Χ,getElem?_map→Ψ,mem_cons_self→Jai,drop_of_length_le→Jak,length_take→JaA,not_mem_nil→Jbh
open _root_.Go.Act renaming put→ξ
open _root_.Go renaming World→ο,Calls→Ζ,Addr→Κ,TypeId→Υ,maxLen→Jap
open _root_.Bool renaming false→ρ
open _root_.Go.RowKit renaming Below→σ
open _root_.Go.RowKit.Below renaming refl→Θ
open _root_.Nat renaming le_trans→Λ,zero_le→Jas,zero_add→JaI,lt_of_lt_of_le→JaK,sub_self→JaP
open _root_.Go.World renaming size_alloc→JbF
theorem vP (a b x y:Int) (X:ο):(binOp .neq 30 (φ #[J a,J b]) (φ #[J x,J y])).run η X=.ok (Β (!decide ((a,b)=(x,y)))) X:=by
 by_cases h1:a=x
 ·by_cases h2:b=y
  ·simp[go_sem,h1,h2]
  ·simp[go_sem,h1,h2]
 ·simp[go_sem,h1]
theorem xy {α:Type} (nm:α→Nm) (y:α) (l:List α) (x:Nm):fo nm (y::l) x=(if nm y=x then[] else[y])++fo nm l x:=by
 unfold fo
 by_cases h:nm y=x
 ·rw[if_pos h,List.filter_cons_of_neg (by simp[h])];rfl
 ·rw[if_neg h,List.filter_cons_of_pos (by simp[h])];rfl
theorem j8 {W:ο} {A:Option Κ} {n c:Nat} {Vs:List VC} {B:Option Κ} {m k:Nat} {Es:List EC} (h:aO W A n c Vs B m k Es) (p q:Nm) (hn:n≤1000) (hm:m≤1000):
 Ζ η 47 #[φ #[γ A n c,γ B m k],φ #[J p.1,J p.2],φ #[J q.1,J q.2]] W fun e w'=>∃A' n' c' B' m' k',e=.returned (φ #[γ A' n' c',γ B' m' k'])∧aO w' A' n' c' (fo (fun v:VC=>v.1) Vs p) B' m' k' (fo (fun v:EC=>v.1) Es q)∧c'≤Jap∧k'≤Jap∧σ W.heap.size W w':=by
 obtain⟨ivV,hiV,Zm,Zd,aaK⟩:=a6 gU;obtain⟨ivE,hiE,Z2,ZO,aaq⟩:=a6 jB;have HV:=qh h.v;have HE:=qh h.e;have HR:=qh h.r;have IC:=qh (h.v.rlen aN (by decide));have HLE:=qh (h.e.rlen cM (by decide));clear h;go_enter Tryz.func47,Tryz.ntmps47;go_upto_region 1 with fail
 have kc:Whole ((((W.alloc (δ #[γ A n c,γ B m k] 25)).alloc (δ #[J p.1,J p.2] 30)).alloc (δ #[J q.1,J q.2] 30)).alloc (δ #[γ ε 0 0,γ ε 0 0] 25)) (W.heap.size) 25 [γ A n c,γ B m k]:=((((Whole.new_ W 25 [γ A n c,γ B m k]).al (δ #[J p.1,J p.2] 30)).al (δ #[J q.1,J q.2] 30)).al (δ #[γ ε 0 0,γ ε 0 0] 25));have kI:Whole ((((W.alloc (δ #[γ A n c,γ B m k] 25)).alloc (δ #[J p.1,J p.2] 30)).alloc (δ #[J q.1,J q.2] 30)).alloc (δ #[γ ε 0 0,γ ε 0 0] 25)) (W.heap.size+1) 30 [J p.1,J p.2]:=(((Whole.new2 (w:=(W.alloc (δ #[γ A n c,γ B m k] 25))) (cs:=[J p.1,J p.2]) (by simp)).al (δ #[J q.1,J q.2] 30)).al (δ #[γ ε 0 0,γ ε 0 0] 25));have qt:Whole ((((W.alloc (δ #[γ A n c,γ B m k] 25)).alloc (δ #[J p.1,J p.2] 30)).alloc (δ #[J q.1,J q.2] 30)).alloc (δ #[γ ε 0 0,γ ε 0 0] 25)) (W.heap.size+1+1) 30 [J q.1,J q.2]:=((Whole.new2 (w:=((W.alloc (δ #[γ A n c,γ B m k] 25)).alloc (δ #[J p.1,J p.2] 30))) (cs:=[J q.1,J q.2]) (by simp)).al (δ #[γ ε 0 0,γ ε 0 0] 25));have Fb:Whole ((((W.alloc (δ #[γ A n c,γ B m k] 25)).alloc (δ #[J p.1,J p.2] 30)).alloc (δ #[J q.1,J q.2] 30)).alloc (δ #[γ ε 0 0,γ ε 0 0] 25)) (W.heap.size+1+1+1) 25 [γ ε 0 0,γ ε 0 0]:=(Whole.new2 (w:=(((W.alloc (δ #[γ A n c,γ B m k] 25)).alloc (δ #[J p.1,J p.2] 30)).alloc (δ #[J q.1,J q.2] 30))) (cs:=[γ ε 0 0,γ ε 0 0]) (by simp))
 have nK:σ W.heap.size W ((((W.alloc (δ #[γ A n c,γ B m k] 25)).alloc (δ #[J p.1,J p.2] 30)).alloc (δ #[J q.1,J q.2] 30)).alloc (δ #[γ ε 0 0,γ ε 0 0] 25)):=(aF (aF (aF (ax W _) _) _) _);obtain⟨W0,bJ⟩:=az (((((W.alloc (δ #[γ A n c,γ B m k] 25)).alloc (δ #[J p.1,J p.2] 30)).alloc (δ #[J q.1,J q.2] 30)).alloc (δ #[γ ε 0 0,γ ε 0 0] 25)));rw[bJ] at kc kI qt Fb nK ⊢;obtain⟨b3,oR⟩:=az (W.heap.size+1+1+1);rw[oR] at Fb ⊢;obtain⟨b2,dA⟩:=az (W.heap.size+1+1);rw[dA] at qt ⊢;obtain⟨b1,cJ⟩:=az (W.heap.size+1);rw[cJ] at kI ⊢;obtain⟨b0,bS⟩:=az W.heap.size;rw[bS] at kc ⊢;have aR:=qh kc;have aQ:=qh kI;have bj:=qh qt;have ff:=qh Fb;have bn:=qh nK;have j4:Hid (W.heap.size≤b0):=qh (by omega);have fD:Hid (W.heap.size≤b1):=qh (by omega);have a8:Hid (W.heap.size≤b2):=qh (by omega);have la:Hid (W.heap.size≤b3):=qh (by omega);have kY:Hid (b0≠b1):=qh (by omega);have mJ:Hid (b0≠b2):=qh (by omega);have N03:Hid (b0≠b3):=qh (by omega);have ni:Hid (b1≠b2):=qh (by omega);have N13:Hid (b1≠b3):=qh (by omega);have SI:Hid (b2≠b3):=qh (by omega);clear bJ nK kc kI qt Fb bS cJ dA oR;go_upto_region 2 with fail
 have cY:=qh (aF bn.out (δ #[γ ε 0 0,γ ε 0 0] 25));have HX:Hid (Bx (W0.alloc (δ #[γ ε 0 0,γ ε 0 0] 25)) [(b0,25,[γ A n c,γ B m k]),(b1,30,[J p.1,J p.2]),(b2,30,[J q.1,J q.2]),(b3,25,[γ ε 0 0,γ ε 0 0])]):=qh ⟨aR.out.al _,aQ.out.al _,bj.out.al _,ff.out.al _,trivial⟩;have H3:=qh (Whole.new_ W0 25 [γ ε 0 0,γ ε 0 0])
 have zQ:Hid (∀p_∈([(b0,25,[γ A n c,γ B m k]),(b1,30,[J p.1,J p.2]),(b2,30,[J q.1,J q.2]),(b3,25,[γ ε 0 0,γ ε 0 0])]:List (Nat × Υ × List Value)),p_.1<W0.heap.size+1∧p_.1≠W0.heap.size):=qh (fun p_ hp=>by
  have h0:=aR.out.lt;have h1:=aQ.out.lt;have h2:=bj.out.lt;have h3:=ff.out.lt;simp only[Η,Jbh,or_false] at hp;rcases hp with rfl|rfl|rfl|rfl
  ·exact⟨by show b0<_;omega,by show b0≠_;omega⟩
  ·exact⟨by show b1<_;omega,by show b1≠_;omega⟩
  ·exact⟨by show b2<_;omega,by show b2≠_;omega⟩
  ·exact⟨by show b3<_;omega,by show b3≠_;omega⟩)
 have HO:Hid (Ow W (W0.heap.size+1) 59 5 (γ ε 0 0) 0 (ao vC []) (W0.alloc (δ #[γ ε 0 0,γ ε 0 0] 25))):=qh ⟨World.ownsRow_nil _ _ _ _,cY.out,Λ bn.out.size (Nat.le_succ _),by simp⟩;have LWV:Hid (W.heap.size≤W0.heap.size+1):=qh (Λ bn.out.size (Nat.le_succ _));have BV:Hid (W.heap.size≤W0.heap.size):=qh bn.out.size;have Q8:Hid (W0.heap.size<W0.heap.size+1):=qh (Nat.lt_succ_self _);obtain⟨lo,xK⟩:=az (W0.heap.size+1);obtain⟨w3,qK⟩:=az (W0.alloc (δ #[γ ε 0 0,γ ε 0 0] 25));obtain⟨b4,Md⟩:=az W0.heap.size;rw[qK] at HX H3 HO ⊢;rw[xK] at zQ HO LWV Q8;rw[Md] at H3 zQ BV Q8 ⊢;clear qK xK Md aR aQ bj ff bn cY;go_upto_region 3 with fail
 go_loopw [8] (fun vi wr=>∃(j:Nat) (D3:Option Κ) (n3 d3:Nat) (T:List VC),j≤n∧n3≤j∧vi=J (j:Int)∧Hid (Bx wr [(b0,25,[γ A n c,γ B m k]),(b1,30,[J p.1,J p.2]),(b2,30,[J q.1,J q.2]),(b3,25,[γ ε 0 0,γ ε 0 0])])∧Hid (Whole wr b4 25 [γ D3 n3 d3,γ ε 0 0])∧Hid (Ow W lo 59 5 (γ D3 n3 d3) n3 (ao vC T) wr)∧Hid (fo (fun v:VC=>v.1) Vs p=T++fo (fun v:VC=>v.1) (Vs.drop j) p)) (fun vi _=>n - (intOf vi).toNat)
 case atStart=>exact⟨0,ε,0,0,[],Jas _,Jas _,rfl,HX,H3,HO,qh rfl⟩
 case round=>
  clear HX H3 HO;obtain⟨j,D3,n3,d3,T,hj,hn3,rfl,HX,H3,HO,HN⟩:=hrel;obtain⟨wo,dB⟩:=az wr;rw[dB] at HX H3 HO ⊢;clear dB;have c0:=HX.out.1.cell (i:=0) rfl
  by_cases nF:j<n
  ·have qd:(j:Int)<(n:Int):=by omega
   obtain⟨y,hy⟩:∃y,Vs[j]? =ζ y:=⟨_,θ (by have:=IC.out;omega)⟩
   have hN:=HN.out;rw[Χ (ν.1 hy).1,(ν.1 hy).2,xy] at hN;obtain⟨bb,off,rfl,bZ,bD⟩:=HV.out.place aN (by decide) (by omega);have HP:=qh (bD j _ hy)
   have tK:Hid (∀w',Kept aT wo.drew w'→∀i u,[J y.1.1,J y.1.2][i]? =ζ u→w'.cell? ((⟨bb,off+j*5,ε⟩:Κ).add i)=ζ u):=qh (fun w' h i u hu=>h.nil_cell ((HO.out.below.cell (by rw[cA];exact bZ)).trans (bD j _ hy i u (by
    rcases i with _|_|i
    ·exact hu
    ·exact hu
    ·simp at hu))))
   clear hy bD HN;have hq:=vP y.1.1 y.1.2 p.1 p.2
   by_cases py:y.1=p
   ·have HQ:=qh (fun X=>(hq X).trans (by rw[decide_eq_true (show(y.1.1,y.1.2)=(p.1,p.2) from py)];rfl:_=.ok (Β ρ) X));have ug:Hid (fo (fun v:VC=>v.1) Vs p=T++fo (fun v:VC=>v.1) (Vs.drop (j+1)) p):=qh (by rw[hN,if_pos py];rfl);clear hN hq py;go_upto_region 5 with fail
    have iM:∀w',Kept aT wo.drew w'→w'.cell? ⟨b0,0,ε⟩=ζ (γ (ζ ⟨bb,off,ε⟩) n c):=fun w' h=>h.nil_cell (HX.out.1.dr.cell (i:=0) rfl)
    refine aw (aT) (by kernel_rfl) ?_;refine aq 0 ?_;refine aq 1 ?_;refine aq 2 ?_;refine aq 3 ?_;refine aq 4 ?_;refine bN 5 (hy:=bA (by rfl) 30 (.tmp 22) rfl ⟨bb,off+j*5,ε⟩ rfl [J y.1.1,J y.1.2] _ tK.out Tryz.underlying30 rfl (by kernel_rfl)) (h:=?_);refine bN 6 (hy:=bG (by rfl) 30 (.tmp 4) rfl b1 rfl 30 [J p.1,J p.2] _ (fun w' h=>h.whole HX.out.2.1.dr (fun h=>h)) Tryz.underlying30 rfl (by kernel_rfl)) (h:=?_);refine bN 7 (hy:=dm (by rfl) (fun w' _=>bo .neq 30 (.tmp 23) (.tmp 24) 30 rfl rfl rfl (by kernel_rfl) (HQ.out w'))) (h:=?_);refine aG (by kernel_rfl) ?_ _;intro w5 oL;have gM:σ wo.heap.size wo w5:=(Θ wo.heap.size wo).drew.trans oL;have kr:=qh (HO.out.up gM);have dQ:=qh (HX.out.up gM);have vX:=qh (H3.out.bl gM);clear oL gM HO HX H3 iM HP tK c0 HQ;go_wp2;go_roundw
    case rel=>exact⟨j+1,D3,n3,d3,T,by omega,by omega,by go_num,dQ,vX,kr,ug⟩
    case measure=>simp[intOf];omega
   ·have HQ:=qh (fun X=>(hq X).trans (by rw[decide_eq_false (show ¬(y.1.1,y.1.2)=(p.1,p.2) from py)];rfl:_=.ok (Β true) X));have ug:Hid (fo (fun v:VC=>v.1) Vs p=(T++[y])++fo (fun v:VC=>v.1) (Vs.drop (j+1)) p):=qh (by rw[hN,if_neg py];simp);clear hN hq py;go_upto_region 5 with fail
    have iM:∀w',Kept aT wo.drew w'→w'.cell? ⟨b0,0,ε⟩=ζ (γ (ζ ⟨bb,off,ε⟩) n c):=fun w' h=>h.nil_cell (HX.out.1.dr.cell (i:=0) rfl)
    refine aw (aT) (by kernel_rfl) ?_;refine aq 0 ?_;refine aq 1 ?_;refine aq 2 ?_;refine aq 3 ?_;refine aq 4 ?_;refine bN 5 (hy:=bA (by rfl) 30 (.tmp 22) rfl ⟨bb,off+j*5,ε⟩ rfl [J y.1.1,J y.1.2] _ tK.out Tryz.underlying30 rfl (by kernel_rfl)) (h:=?_);refine bN 6 (hy:=bG (by rfl) 30 (.tmp 4) rfl b1 rfl 30 [J p.1,J p.2] _ (fun w' h=>h.whole HX.out.2.1.dr (fun h=>h)) Tryz.underlying30 rfl (by kernel_rfl)) (h:=?_);refine bN 7 (hy:=dm (by rfl) (fun w' _=>bo .neq 30 (.tmp 23) (.tmp 24) 30 rfl rfl rfl (by kernel_rfl) (HQ.out w'))) (h:=?_);refine aG (by kernel_rfl) ?_ _;intro w5 oL;have gM:σ wo.heap.size wo w5:=(Θ wo.heap.size wo).drew.trans oL;have kr:=qh (HO.out.up gM);have dQ:=qh (HX.out.up gM);have vX:=qh (H3.out.bl gM);clear oL gM HO HX H3 iM tK c0 HQ;have HO:=kr;have HX:=dQ;have H3:=vX;clear kr dQ vX;obtain⟨wo,dB⟩:=az w5;rw[dB] at HX H3 HO ⊢;clear dB;go_upto_region 6 with fail
    have iM:∀w',Kept (dS lo) wo.drew w'→w'.cell? ⟨b4,0,ε⟩=ζ (γ D3 n3 d3):=fun w' hk=>hk.from_cell Q8.out (H3.out.dr.cell (i:=0) rfl)
    have ld1:∀w',Kept (dS lo) wo.drew w'→w'.cell? ⟨b0,0,ε⟩=ζ (γ (ζ ⟨bb,off,ε⟩) n c):=fun w' hk=>hk.from_cell (zQ.out _ Jai).1 (HX.out.1.dr.cell (i:=0) rfl)
    have FF:Hid (∀w',Kept (dS lo) wo.drew w'→∀i u,(vC y)[i]? =ζ u→w'.cell? ((⟨bb,off+j*5,ε⟩:Κ).add i)=ζ u):=qh (fun w' hk i u hu=>hk.from_cell (by rw[cA];exact JaK bZ LWV.out) ((HO.out.below.cell (by rw[cA];exact bZ)).trans (HP.out i u hu)));refine bK (dS lo) [10] (by kernel_rfl) ?_;refine bm 0 ?_;refine bm 1 ?_;refine bm 2 ?_;refine bm 3 ?_;refine bm 4 ?_;refine bm 5 ?_;refine fw 6 (hy:=bA (by rfl) 59 (.tmp 31) rfl ⟨bb,off+j*5,ε⟩ rfl (vC y) _ FF.out Tryz.underlying59 rfl (by kernel_rfl)) (h:=?_);refine lG 7 ?_;intro w' aC
    refine⟨γ (ζ ⟨w'.heap.size,0,ε⟩) 1 1,w'.alloc (δ (vC y).toArray 59),dV 22 59 1 #[(0,.tmp 32)] (by rfl) Tryz.underlying22 _ (by kernel_rfl),Kept.of_below (ax _ _),?_⟩
    have wE:Hid (Ext wo.drew (w'.alloc (δ (vC y).toArray 59))):=qh (Ext.trans aC (ax _ _));have jD:Hid (aS (w'.alloc (δ (vC y).toArray 59)) (w'.alloc (δ (vC y).toArray 59)).heap.size 5 (ζ ⟨w'.heap.size,0,ε⟩) 1 1 (vC y)):=qh (aS.of_whole (Whole.new_ _ _ _) rfl);obtain⟨V3,xi⟩:=az (w'.alloc (δ (vC y).toArray 59));obtain⟨g3,Eo⟩:=az w'.heap.size;rw[xi] at wE jD ⊢;rw[Eo] at jD ⊢;clear aC xi Eo;simp only[ξ,ak,aj,ah];refine lG 8 ?_;intro w' aC;have hx:=(Θ wo.heap.size wo).drew.trans (Ext.trans wE.out aC);obtain⟨v8,cD,bL,ho,pI⟩:=Ow.app (P:=η) 22 22 59 ivV _ 5 64 lo Tryz.underlying22 hiV Zm Zd aaK rfl (by decide) _ _ _ (HO.out.up hx) _ _ 1 1 _ (jD.out.bl aC) (j3 y) (by unfold Jap;omega) (by omega);rw[show ao vC T++vC y=ao vC (T++[y]) by rw[bX];simp[ao]] at ho;obtain⟨A3,c3,rfl,-⟩:=ho.rds
    refine⟨_,cD,bV (by rfl) (by rfl) (by rfl) bL,Kept.of_from pI,?_⟩
    have j0:=qh ho;have lR:=qh ((H3.out.bl hx).at_ (pI.block _ Q8.out));have ff:=qh (Bx.gr pI (HX.out.up hx) (fun p hp=>(zQ.out p hp).1));obtain⟨V4,II⟩:=az cD;rw[II] at j0 lR ff ⊢;clear aC hx bL ho pI II wE jD;simp only[ξ,ak,aj,ah];refine bm 9 ?_;refine lA 10 ?_;intro w' aC;have tN:=(lR.out.bl aC).cell (i:=0) rfl;have rF:=(lR.out.bl aC).free 0
    refine⟨w'.setCell ⟨b4,0,ε⟩ (γ A3 (n3+1) c3),?_,?_⟩
    ·go_simp;first|done|exact rfl
    have nI:=qh ((j0.out.up aC).set_far ((j0.out.up aC).low_ne Q8.out) BV.out (γ A3 (n3+1) c3) (i:=0));have tS:=qh ((lR.out.bl aC).set_ 0 (γ A3 (n3+1) c3));have mK:=qh (Bx.st (γ A3 (n3+1) c3) (i:=0) (ff.out.up aC) (fun p hp=>(zQ.out p hp).2));obtain⟨V5,rb⟩:=az (w'.setCell ⟨b4,0,ε⟩ (γ A3 (n3+1) c3));rw[rb] at nI tS mK ⊢;clear aC tN rF rb j0 lR ff;(try simp only[ξ,ak,aj,ah]);refine eU (by kernel_rfl) ?_ _;intro w8 ch;have Bp:=qh (nI.out.up ch);have xq:=qh (mK.out.up ch);have RB:=qh (tS.out.bl ch);clear ch HO HX H3 nI mK tS iM ld1 FF;go_wp2;go_roundw
    case rel=>exact⟨j+1,A3,n3+1,c3,T++[y],by omega,by omega,by go_num,xq,RB,Bp,ug⟩
    case measure=>simp[intOf];omega
  ·obtain rfl:n=j:=by omega
   have HT:Hid (fo (fun v:VC=>v.1) Vs p=T):=qh (by rw[HN.out,Jak (by have:=IC.out;omega)];simp[fo]);clear HN;go_upto_region 8 with fail
   clear c0;obtain⟨A2,n2,c2,Xr,wq,gA,gn,gc,gT,gw⟩:∃A2 n2 c2 Xr wq,D3=A2∧n3=n2∧d3=c2∧T=Xr∧wo=wq:=⟨_,_,_,_,_,rfl,rfl,rfl,rfl,rfl⟩
   rw[gA,gn,gc] at H3 HO;rw[gT] at HO HT;rw[gw] at HX H3 HO ⊢;clear gA gn gc gT gw;have Nt:Hid (∀a,A2=ζ a→0<n2→a.block≠b4):=qh (fun a ha _=>by have:=sB HO.out.own ha;have:=Q8.out;omega);have Yr:Hid (∀a,A2=ζ a→0<n2→a.block≠b3):=qh (fun a ha _=>by have:=sB HO.out.own ha;have:=(zQ.out (b3,25,[γ ε 0 0,γ ε 0 0]) (by simp)).1;omega);have L7:Hid (aS wq wq.heap.size 5 A2 n2 c2 (ao vC Xr)):=qh (bk HO.out.own);have HVc:Hid (c2≤Jap):=qh (fV HO.out.own);have gi:=HO.out.hi;have tX:Hid (Ow W wq.heap.size 67 4 (γ ε 0 0) 0 (ao eC []) wq):=qh ⟨World.ownsRow_nil _ _ _ _,HO.out.below,HO.out.below.size,Nat.le_refl _⟩;have IP:Hid (∀p_∈([(b0,25,[γ A n c,γ B m k]),(b1,30,[J p.1,J p.2]),(b2,30,[J q.1,J q.2]),(b3,25,[γ ε 0 0,γ ε 0 0])]:List (Nat × Υ × List Value)),p_.1<wq.heap.size∧p_.1≠b4):=qh (fun p_ hp=>⟨JaK (zQ.out p_ hp).1 gi,(zQ.out p_ hp).2⟩);have LWE:Hid (W.heap.size≤wq.heap.size):=qh HO.out.below.size;have Xl:Hid (b4<wq.heap.size):=qh (JaK Q8.out gi);have HTV:=HT;clear HO HT gi HV;have HV:=L7;have HO:=tX;clear L7 tX;obtain⟨Pb,xK⟩:=az wq.heap.size;rw[xK] at HV HO IP LWE Xl;clear xK;go_loopw [9] (fun vi wr=>∃(j:Nat) (D3:Option Κ) (n3 d3:Nat) (T:List EC),j≤m∧n3≤j∧vi=J (j:Int)∧Hid (Bx wr [(b0,25,[γ A n c,γ B m k]),(b1,30,[J p.1,J p.2]),(b2,30,[J q.1,J q.2]),(b3,25,[γ ε 0 0,γ ε 0 0])])∧Hid (Whole wr b4 25 [γ A2 n2 c2,γ D3 n3 d3])∧Hid (Ow W Pb 67 4 (γ D3 n3 d3) n3 (ao eC T) wr)∧Hid (fo (fun v:EC=>v.1) Es q=T++fo (fun v:EC=>v.1) (Es.drop j) q)∧Hid (aS wr Pb 5 A2 n2 c2 (ao vC Xr))) (fun vi _=>m - (intOf vi).toNat)
   case atStart=>exact⟨0,ε,0,0,[],Jas _,Jas _,rfl,HX,H3,HO,qh rfl,HV⟩
   case round=>
    clear HX H3 HO HV;obtain⟨j,D3,n3,d3,T,hj,hn3,rfl,HX,H3,HO,HN,HV⟩:=hrel;obtain⟨wo,dB⟩:=az wr;rw[dB] at HX H3 HO HV ⊢;clear dB;have c0:=HX.out.1.cell (i:=1) rfl
    by_cases nF:j<m
    ·have qd:(j:Int)<(m:Int):=by omega
     obtain⟨y,hy⟩:∃y,Es[j]? =ζ y:=⟨_,θ (by have:=HLE.out;omega)⟩
     have hN:=HN.out;rw[Χ (ν.1 hy).1,(ν.1 hy).2,xy] at hN;obtain⟨bb,off,rfl,bZ,bD⟩:=HE.out.place cM (by decide) (by omega);have HP:=qh (bD j _ hy)
     have tK:Hid (∀w',Kept aT wo.drew w'→∀i u,[J y.1.1,J y.1.2][i]? =ζ u→w'.cell? ((⟨bb,off+j*4,ε⟩:Κ).add i)=ζ u):=qh (fun w' h i u hu=>h.nil_cell ((HO.out.below.cell (by rw[cA];exact bZ)).trans (bD j _ hy i u (by
      rcases i with _|_|i
      ·exact hu
      ·exact hu
      ·simp at hu))))
     clear hy bD HN;have hq:=vP y.1.1 y.1.2 q.1 q.2
     by_cases py:y.1=q
     ·have HQ:=qh (fun X=>(hq X).trans (by rw[decide_eq_true (show(y.1.1,y.1.2)=(q.1,q.2) from py)];rfl:_=.ok (Β ρ) X));have ug:Hid (fo (fun v:EC=>v.1) Es q=T++fo (fun v:EC=>v.1) (Es.drop (j+1)) q):=qh (by rw[hN,if_pos py];rfl);clear hN hq py;go_upto_region 10 with fail
      have iM:∀w',Kept aT wo.drew w'→w'.cell? ⟨b0,1,ε⟩=ζ (γ (ζ ⟨bb,off,ε⟩) m k):=fun w' h=>h.nil_cell (HX.out.1.dr.cell (i:=1) rfl)
      refine aw (aT) (by kernel_rfl) ?_;refine aq 0 ?_;refine aq 1 ?_;refine aq 2 ?_;refine aq 3 ?_;refine aq 4 ?_;refine bN 5 (hy:=bA (by rfl) 30 (.tmp 47) rfl ⟨bb,off+j*4,ε⟩ rfl [J y.1.1,J y.1.2] _ tK.out Tryz.underlying30 rfl (by kernel_rfl)) (h:=?_);refine bN 6 (hy:=bG (by rfl) 30 (.tmp 5) rfl b2 rfl 30 [J q.1,J q.2] _ (fun w' h=>h.whole HX.out.2.2.1.dr (fun h=>h)) Tryz.underlying30 rfl (by kernel_rfl)) (h:=?_);refine bN 7 (hy:=dm (by rfl) (fun w' _=>bo .neq 30 (.tmp 48) (.tmp 49) 30 rfl rfl rfl (by kernel_rfl) (HQ.out w'))) (h:=?_);refine aG (by kernel_rfl) ?_ _;intro w5 oL;have gM:σ wo.heap.size wo w5:=(Θ wo.heap.size wo).drew.trans oL;have kr:=qh (HO.out.up gM);have dQ:=qh (HX.out.up gM);have vX:=qh (H3.out.bl gM);have zI:=qh (HV.out.below (gM.mono HO.out.hi));clear oL gM HO HX H3 HV iM HP tK c0 HQ;go_wp2;go_roundw
      case rel=>exact⟨j+1,D3,n3,d3,T,by omega,by omega,by go_num,dQ,vX,kr,ug,zI⟩
      case measure=>simp[intOf];omega
     ·have HQ:=qh (fun X=>(hq X).trans (by rw[decide_eq_false (show ¬(y.1.1,y.1.2)=(q.1,q.2) from py)];rfl:_=.ok (Β true) X));have ug:Hid (fo (fun v:EC=>v.1) Es q=(T++[y])++fo (fun v:EC=>v.1) (Es.drop (j+1)) q):=qh (by rw[hN,if_neg py];simp);clear hN hq py;go_upto_region 10 with fail
      have iM:∀w',Kept aT wo.drew w'→w'.cell? ⟨b0,1,ε⟩=ζ (γ (ζ ⟨bb,off,ε⟩) m k):=fun w' h=>h.nil_cell (HX.out.1.dr.cell (i:=1) rfl)
      refine aw (aT) (by kernel_rfl) ?_;refine aq 0 ?_;refine aq 1 ?_;refine aq 2 ?_;refine aq 3 ?_;refine aq 4 ?_;refine bN 5 (hy:=bA (by rfl) 30 (.tmp 47) rfl ⟨bb,off+j*4,ε⟩ rfl [J y.1.1,J y.1.2] _ tK.out Tryz.underlying30 rfl (by kernel_rfl)) (h:=?_);refine bN 6 (hy:=bG (by rfl) 30 (.tmp 5) rfl b2 rfl 30 [J q.1,J q.2] _ (fun w' h=>h.whole HX.out.2.2.1.dr (fun h=>h)) Tryz.underlying30 rfl (by kernel_rfl)) (h:=?_);refine bN 7 (hy:=dm (by rfl) (fun w' _=>bo .neq 30 (.tmp 48) (.tmp 49) 30 rfl rfl rfl (by kernel_rfl) (HQ.out w'))) (h:=?_);refine aG (by kernel_rfl) ?_ _;intro w5 oL;have gM:σ wo.heap.size wo w5:=(Θ wo.heap.size wo).drew.trans oL;have kr:=qh (HO.out.up gM);have dQ:=qh (HX.out.up gM);have vX:=qh (H3.out.bl gM);have zI:=qh (HV.out.below (gM.mono HO.out.hi));clear oL gM HO HX H3 HV iM tK c0 HQ;have HO:=kr;have HX:=dQ;have H3:=vX;have HV:=zI;clear kr dQ vX zI;obtain⟨wo,dB⟩:=az w5;rw[dB] at HX H3 HO HV ⊢;clear dB;go_upto_region 11 with fail
      have iM:∀w',Kept (dS Pb) wo.drew w'→w'.cell? ⟨b4,1,ε⟩=ζ (γ D3 n3 d3):=fun w' hk=>hk.from_cell Xl.out (H3.out.dr.cell (i:=1) rfl)
      have ld1:∀w',Kept (dS Pb) wo.drew w'→w'.cell? ⟨b0,1,ε⟩=ζ (γ (ζ ⟨bb,off,ε⟩) m k):=fun w' hk=>hk.from_cell (IP.out _ Jai).1 (HX.out.1.dr.cell (i:=1) rfl)
      have FF:Hid (∀w',Kept (dS Pb) wo.drew w'→∀i u,(eC y)[i]? =ζ u→w'.cell? ((⟨bb,off+j*4,ε⟩:Κ).add i)=ζ u):=qh (fun w' hk i u hu=>hk.from_cell (by rw[cA];exact JaK bZ LWE.out) ((HO.out.below.cell (by rw[cA];exact bZ)).trans (HP.out i u hu)));refine bK (dS Pb) [10] (by kernel_rfl) ?_;refine bm 0 ?_;refine bm 1 ?_;refine bm 2 ?_;refine bm 3 ?_;refine bm 4 ?_;refine bm 5 ?_;refine fw 6 (hy:=bA (by rfl) 67 (.tmp 56) rfl ⟨bb,off+j*4,ε⟩ rfl (eC y) _ FF.out Tryz.underlying67 rfl (by kernel_rfl)) (h:=?_);refine lG 7 ?_;intro w' aC
      refine⟨γ (ζ ⟨w'.heap.size,0,ε⟩) 1 1,w'.alloc (δ (eC y).toArray 67),dV 23 67 1 #[(0,.tmp 57)] (by rfl) Tryz.underlying23 _ (by kernel_rfl),Kept.of_below (ax _ _),?_⟩
      have wE:Hid (Ext wo.drew (w'.alloc (δ (eC y).toArray 67))):=qh (Ext.trans aC (ax _ _));have jD:Hid (aS (w'.alloc (δ (eC y).toArray 67)) (w'.alloc (δ (eC y).toArray 67)).heap.size 4 (ζ ⟨w'.heap.size,0,ε⟩) 1 1 (eC y)):=qh (aS.of_whole (Whole.new_ _ _ _) rfl);obtain⟨V3,xi⟩:=az (w'.alloc (δ (eC y).toArray 67));obtain⟨g3,Eo⟩:=az w'.heap.size;rw[xi] at wE jD ⊢;rw[Eo] at jD ⊢;clear aC xi Eo;simp only[ξ,ak,aj,ah];refine lG 8 ?_;intro w' aC;have hx:=(Θ wo.heap.size wo).drew.trans (Ext.trans wE.out aC);obtain⟨v8,cD,bL,ho,pI⟩:=Ow.app (P:=η) 23 23 67 ivE _ 4 40 Pb Tryz.underlying23 hiE Z2 ZO aaq rfl (by decide) _ _ _ (HO.out.up hx) _ _ 1 1 _ (jD.out.bl aC) (qg y) (by unfold Jap;omega) (by omega);rw[show ao eC T++eC y=ao eC (T++[y]) by rw[bX];simp[ao]] at ho;obtain⟨A3,c3,rfl,-⟩:=ho.rds
      refine⟨_,cD,bV (by rfl) (by rfl) (by rfl) bL,Kept.of_from pI,?_⟩
      have j0:=qh ho;have lR:=qh ((H3.out.bl hx).at_ (pI.block _ Xl.out));have ff:=qh (Bx.gr pI (HX.out.up hx) (fun p hp=>(IP.out p hp).1));have HV3:=qh ((HV.out.below (hx.mono HO.out.hi)).below pI);obtain⟨V4,II⟩:=az cD;rw[II] at j0 lR ff HV3 ⊢;clear aC hx bL ho pI II wE jD;simp only[ξ,ak,aj,ah];refine bm 9 ?_;refine lA 10 ?_;intro w' aC;have tN:=(lR.out.bl aC).cell (i:=1) rfl;have rF:=(lR.out.bl aC).free 1
      refine⟨w'.setCell ⟨b4,1,ε⟩ (γ A3 (n3+1) c3),?_,?_⟩
      ·go_simp;first|done|exact rfl
      have nI:=qh ((j0.out.up aC).set_far ((j0.out.up aC).low_ne Xl.out) BV.out (γ A3 (n3+1) c3) (i:=1));have tS:=qh ((lR.out.bl aC).set_ 1 (γ A3 (n3+1) c3));have mK:=qh (Bx.st (γ A3 (n3+1) c3) (i:=1) (ff.out.up aC) (fun p hp=>(IP.out p hp).2));have FN:=qh ((HV3.out.below (aC.mono j0.out.hi)).far_ Nt.out (γ A3 (n3+1) c3) (i:=1));obtain⟨V5,rb⟩:=az (w'.setCell ⟨b4,1,ε⟩ (γ A3 (n3+1) c3));rw[rb] at nI tS mK FN ⊢;clear aC tN rF rb j0 lR ff HV3;(try simp only[ξ,ak,aj,ah]);refine eU (by kernel_rfl) ?_ _;intro w8 ch;have Bp:=qh (nI.out.up ch);have xq:=qh (mK.out.up ch);have RB:=qh (tS.out.bl ch);have YK:=qh (FN.out.below (ch.mono nI.out.hi));clear ch HO HX H3 HV nI mK tS FN iM ld1 FF;go_wp2;go_roundw
      case rel=>exact⟨j+1,A3,n3+1,c3,T++[y],by omega,by omega,by go_num,xq,RB,Bp,ug,YK⟩
      case measure=>simp[intOf];omega
    ·obtain rfl:m=j:=by omega
     have HT:Hid (fo (fun v:EC=>v.1) Es q=T):=qh (by rw[HN.out,Jak (by have:=HLE.out;omega)];simp[fo]);clear HN;have L2:Hid (b3<Pb):=qh (IP.out (b3,25,[γ ε 0 0,γ ε 0 0]) (by simp)).1;have z0:=HX.out.2.2.2.1.cell (i:=0) rfl;have z1:=HX.out.2.2.2.1.cell (i:=1) rfl;have y0:=HX.out.2.2.2.1.free 0;have y1:=HX.out.2.2.2.1.free 1;have k0:=H3.out.cell (i:=0) rfl;have k1:=H3.out.cell (i:=1) rfl;have bQ:=HO.out.low_ne L2.out;go_wp2;have Xe:∀a,A2=ζ a→0<n2→a.block≠b3:=Yr.out
     have Xq:=(HO.out.below.setCell (p:=⟨b3,0,ε⟩) la.out (γ A2 n2 c2)).setCell (p:=⟨b3,1,ε⟩) la.out (γ D3 n3 d3)
     exact bz rfl b3 rfl ((HX.out.2.2.2.1.set_ 0 _).set_ 1 _) Tryz.underlying25 rfl (by kernel_rfl) rfl ⟨A2,n2,c2,D3,n3,d3,rfl,⟨by
      rw[HTV.out];exact((HV.out.far_ Xe _ (i:=0)).far_ Xe _ (i:=1)).up (Θ _ _) (by simp only[World.size_setCell];exact HO.out.hi),by
      rw[HT.out];exact bk ((HO.out.set_far bQ la.out _ (i:=0)).set_far bQ la.out _ (i:=1)).own,fun x hx=>(HR.out x (List.mem_filter.1 hx).1).bl Xq⟩,HVc.out,fV HO.out.own,Xq⟩
theorem ja (a b x y:Int) (X:ο):(binOp .eql 30 (φ #[J a,J b]) (φ #[J x,J y])).run η X=.ok (Β (decide ((a,b)=(x,y)))) X:=by
 by_cases h1:a=x
 ·by_cases h2:b=y
  ·simp[go_sem,h1,h2]
  ·simp[go_sem,h1,h2]
 ·simp[go_sem,h1]
theorem AN {V:List VS} {j:Nat} {v:VS} {x:Nm} {l:List D} (h:V[j]? =ζ v):bI (V.take (j+1)) x l++V.drop (j+1)=(bI (V.take j) x l++V.drop j).set j (if v.1=x then rr v l else v):=by
 obtain⟨hj,e⟩:=ν.1 h;have hl:(bI (V.take j) x l).length=j:=by rw[fb,JaA];omega
 rw[List.set_append,if_neg (by omega),hl,JaP,Χ hj,List.set_cons_zero,List.take_succ_eq_append_getElem hj,e];unfold bI;rw[List.map_append,List.append_assoc];rfl
theorem sK {α:Type} {l:List α} {i:Nat} {x:α} (h:l[i]? =ζ x):l.set i x=l:=by
 obtain⟨h1,h2⟩:=ν.1 h;rw[←h2];exact List.set_getElem_self h1
theorem GO {V:List VS} {j:Nat} {v:VS} {x:Nm} {l:List D} (h:V[j]? =ζ v):(bI (V.take j) x l++V.drop j)[j]? =ζ v:=by
 obtain⟨hj,e⟩:=ν.1 h;have hl:(bI (V.take j) x l).length=j:=by rw[fb,JaA];omega
 rw[List.getElem?_append_right (by omega),hl,JaP,List.getElem?_drop,Nat.add_zero,h]
def ik (W:ο) (n m:Nat) (V:List VS) (E:List EC) (e:Ending) (w':ο):Prop:=
 ∃A' c' B' k' Ws,e=.returned (φ #[γ A' n c',γ B' m k'])∧aO w' A' n c' Ws B' m k' E∧Ws.map vS=V∧(∀a,A'=ζ a→W.heap.size≤a.block)∧c'≤Jap∧k'≤Jap∧σ W.heap.size W w'
theorem lr {W:ο} {A:Option Κ} {n c:Nat} {Vs:List VC} {B:Option Κ} {m k:Nat} {Es:List EC} (h:aO W A n c Vs B m k Es) {g i:Nat} {A1:Option Κ} {n1 c1:Nat} (hp:W.cell? ⟨g,i,ε⟩=ζ (γ A1 n1 c1)) (hv:∀a,A=ζ a→0<n→a.block≠g) (u:Value):aO (W.setCell ⟨g,i,ε⟩ u) A n c Vs B m k Es:=
 ⟨by rw[size_setCell];exact h.v.far_ hv u,by rw[size_setCell];exact rZ h.e hp qB u,fun x hx=>uu (h.r x hx) hp u⟩
theorem oX {W:ο} {A:Option Κ} {n c:Nat} {Vs:List VC} {B:Option Κ} {m k:Nat} {Es:List EC} (h:aO W A n c Vs B m k Es) (hn:n≤1000) (hm:m≤1000) (hr:∀x∈Vs,x.2.1.2.1≤1000000) (p:Nm) (R:Rg) (hR:RgOk W R):
 Ζ η 99 #[φ #[γ A n c,γ B m k],φ #[J p.1,J p.2],γ R.1 R.2.1 R.2.2.1] W (ik W n m (bI (Vs.map vS) p R.2.2.2) Es):=by
 show Ζ _ _ _ _ fun e w'=>∃A' c' B' k' Ws,e=.returned (φ #[γ A' n c',γ B' m k'])∧aO w' A' n c' Ws B' m k' Es∧Ws.map vS=bI (Vs.map vS) p R.2.2.2∧(∀a,A'=ζ a→W.heap.size≤a.block)∧c'≤Jap∧k'≤Jap∧σ W.heap.size W w'
 have IU:=qh (fun X (hX:σ W.heap.size W X)=>uZ A n c Vs B m k Es X (h.below hX) (by omega) (by omega) hr);have IC:Hid ((Vs.map vS).length=n):=qh (by rw[List.length_map];exact h.v.rlen aN (by decide));have HR:=qh hR;clear h hr hR;obtain⟨V,gV⟩:=az (Vs.map vS);rw[gV] at IU IC ⊢;clear gV;go_enter Tryz.func99,Tryz.ntmps99;go_upto_region 1 with fail
 obtain⟨W0,b0,b1,b2,bJ,bS,cJ,dA,aR,aQ,bj,bn,-,-,j4,-,fD,-,a8,kY,mJ,ni⟩:=jm W 25 [γ A n c,γ B m k] 30 [J p.1,J p.2] 25 [γ ε 0 0,γ ε 0 0];rw[bJ,dA,cJ,bS];clear bJ bS cJ dA;have x0:=aR.out.cell (i:=0) rfl;have x1:=aR.out.cell (i:=1) rfl
 go_upto_region 3 with (first
  |(go_at_call 23
    refine(IU.out _ bn.out).mono ?_
    rintro e w2 ⟨A5,c5,B5,k5,Ws,rfl,qH,Jd,fM⟩;have oz:=qh qH;have zI:=qh Jd;have js:=qh fM;clear qH Jd fM x0 x1))
 have qH:=oz.out;have fM:=js.out;have HC:=qh (qH.al (δ #[γ A5 n c5,γ B5 m k5] 25)).wr;have Fv:=qh (fV qH.e);have Xg:=qh (fV qH.v);have UG:=zI;have cL:=qh (aF (af bn.out fM) (δ #[γ A5 n c5,γ B5 m k5] 25));have HX:Hid (Bx (w2.alloc (δ #[γ A5 n c5,γ B5 m k5] 25)) [(b0,25,[γ A n c,γ B m k]),(b1,30,[J p.1,J p.2]),(b2,25,[γ ε 0 0,γ ε 0 0]),(w2.heap.size,25,[γ A5 n c5,γ B5 m k5])]):=qh ⟨(aR.out.bl fM).al _,(aQ.out.bl fM).al _,(bj.out.bl fM).al _,Whole.new_ w2 25 [γ A5 n c5,γ B5 m k5],trivial⟩;have tx:=qh (HR.out.bl cL.out);have OM:Hid (W.heap.size≤W0.heap.size):=qh bn.out.size;have L2o:Hid (b2<W0.heap.size):=qh bj.out.lt;clear qH fM oz js zI aR aQ bj bn IU HR;obtain⟨w3,qK⟩:=az (w2.alloc (δ #[γ A5 n c5,γ B5 m k5] 25));obtain⟨b3,oR⟩:=az w2.heap.size;rw[qK] at HC cL HX tx ⊢;rw[oR] at HX ⊢;clear qK oR;have HU0:Hid (Ws.map vS=bI (V.take 0) p R.2.2.2++V.drop 0):=qh (by rw[UG.out];rfl);clear UG;obtain⟨lo,xK⟩:=az W0.heap.size;rw[xK] at HC OM L2o;clear xK;go_loopw [8] (fun vi wr=>∃(j:Nat) (Us:List VC),j≤n∧vi=J (j:Int)∧Hid (Bx wr [(b0,25,[γ A n c,γ B m k]),(b1,30,[J p.1,J p.2]),(b2,25,[γ ε 0 0,γ ε 0 0]),(b3,25,[γ A5 n c5,γ B5 m k5])])∧Hid (Wr wr lo A5 n c5 Us B5 m k5 Es)∧Hid (σ W.heap.size W wr)∧Hid (RgOk wr R)∧Hid (Us.map vS=bI (V.take j) p R.2.2.2++V.drop j)) (fun vi _=>n - (intOf vi).toNat)
 case atStart=>exact⟨0,Ws,Jas _,rfl,HX,HC,cL,tx,HU0⟩
 case round=>
  clear HX HC cL tx HU0;obtain⟨j,Us,hj,rfl,HX,HC,HB,tx,HU⟩:=hrel;obtain⟨wo,dB⟩:=az wr;rw[dB] at HX HC HB tx ⊢;clear dB;have c0:=HX.out.2.2.2.1.cell (i:=0) rfl
  by_cases nF:j<n
  ·have qd:(j:Int)<(n:Int):=by omega
   obtain⟨v,hv⟩:∃v,V[j]? =ζ v:=⟨_,θ (by have:=IC.out;omega)⟩
   have JS:=GO (x:=p) (l:=R.2.2.2) hv;have KW:=AN (x:=p) (l:=R.2.2.2) hv;rw[←HU.out,Ψ] at JS;rw[←HU.out] at KW;obtain⟨y,hy,Q4⟩:=Option.map_eq_some_iff.1 JS;have hk:v.1=y.1:=congrArg (·.1) Q4.symm;have HY:=qh hy;have Mn:=qh KW;have SU:=qh Q4;obtain⟨bb,off,e5,bZ,bD⟩:=(bk HC.out.v).place aN (by decide) (by omega)
   have tK:Hid (∀w',Kept aT wo.drew w'→∀i u,[J y.1.1,J y.1.2][i]? =ζ u→w'.cell? ((⟨bb,off+j*5,ε⟩:Κ).add i)=ζ u):=qh (fun w' h i u hu=>h.nil_cell (bD j _ hy i u (by
    rcases i with _|_|i
    ·exact hu
    ·exact hu
    ·simp at hu)))
   have hA5:A5=ζ ⟨bb,off,ε⟩:=e5;have hq:=ja y.1.1 y.1.2 p.1 p.2;clear hv JS KW hy Q4 bD bZ e5
   by_cases py:y.1=p
   ·have HQ:=qh (fun X=>(hq X).trans (by rw[decide_eq_true (show(y.1.1,y.1.2)=(p.1,p.2) from py)]:_=.ok (Β true) X));have HYp:=qh (hk.trans py);clear hq py hk;have HA5:=qh hA5;clear hA5;obtain⟨g,eg,gi,He,-,-,-⟩:=HC.out.put HY.out nF R tx.out
    have YU:bb=g∧off=0:=by
     have:=HA5.out.symm.trans eg
     injection this with e1
     injection e1 with e2 e3
     exact⟨e2,e3⟩
    obtain⟨rfl,rfl⟩:=YU;subst eg;clear gi He HA5;go_upto_region 5 with fail
    simp only[JaI] at tK;have iM:∀w',Kept aT wo.drew w'→w'.cell? ⟨b3,0,ε⟩=ζ (γ (ζ ⟨bb,0,ε⟩) n c5):=fun w' h=>h.nil_cell (HX.out.2.2.2.1.dr.cell (i:=0) rfl)
    refine aw (aT) (by kernel_rfl) ?_;refine aq 0 ?_;refine aq 1 ?_;refine aq 2 ?_;refine aq 3 ?_;refine aq 4 ?_;refine bN 5 (hy:=bA (by rfl) 30 (.tmp 22) rfl ⟨bb,j*5,ε⟩ rfl [J y.1.1,J y.1.2] _ tK.out Tryz.underlying30 rfl (by kernel_rfl)) (h:=?_);refine bN 6 (hy:=bG (by rfl) 30 (.tmp 4) rfl b1 rfl 30 [J p.1,J p.2] _ (fun w' h=>h.whole HX.out.2.1.dr (fun h=>h)) Tryz.underlying30 rfl (by kernel_rfl)) (h:=?_);refine bN 7 (hy:=dm (by rfl) (fun w' _=>bo .eql 30 (.tmp 23) (.tmp 24) 30 rfl rfl rfl (by kernel_rfl) (HQ.out w'))) (h:=?_);refine aG (by kernel_rfl) ?_ _;intro w5 oL;have gM:σ wo.heap.size wo w5:=(Θ wo.heap.size wo).drew.trans oL;have dQ:=qh (HX.out.up gM);have oz:=qh (HC.out.bl gM);have js:=qh (af HB.out gM);have PH:=qh (tx.out.bl gM);clear oL gM HX HC HB tx iM tK c0 HQ;obtain⟨g,eg,gi,⟨cs,He⟩,wy,Jy,jU⟩:=oz.out.put HY.out nF R PH.out
    obtain rfl:bb=g:=by
     injection eg with e1
     injection e1
    have HW6:=qh jU
    have bQ:∀q∈([(b0,25,[γ A n c,γ B m k]),(b1,30,[J p.1,J p.2]),(b2,25,[γ ε 0 0,γ ε 0 0]),(b3,25,[γ (ζ ⟨bb,0,ε⟩) n c5,γ B5 m k5])]:List (Nat × Υ × List Value)),q.1≠bb:=fun q hq=>by
     simp only[Η,Jbh,or_false] at hq;rcases hq with rfl|rfl|rfl|rfl
     ·exact dQ.out.1.ne_ He (show 25≠59 by decide)
     ·exact dQ.out.2.1.ne_ He (show 30≠59 by decide)
     ·exact dQ.out.2.2.1.ne_ He (show 25≠59 by decide)
     ·exact dQ.out.2.2.2.1.ne_ He (show 25≠59 by decide)
    have BO:=qh (Bx.st (g:=bb) (i:=j*5+2) (γ R.1 R.2.1 R.2.2.1) dQ.out bQ);have qX:=qh (js.out.setCell (p:=⟨bb,j*5+2,ε⟩) (Λ OM.out gi) (γ R.1 R.2.1 R.2.2.1));have HR6:=qh (uu PH.out wy (γ R.1 R.2.1 R.2.2.1));have k0:=dQ.out.2.2.2.1.cell (i:=0) rfl;clear eg gi He jU bQ dQ oz js PH;go_upto_region 6 with fail
    go_wp2
    have CZ:Hid ((Us.set j (y.1,R,y.2.2)).map vS=bI (V.take (j+1)) p R.2.2.2++V.drop (j+1)):=qh (by
     rw[Mn.out,List.map_set,if_pos HYp.out,←SU.out];rfl)
    go_roundw
    case rel=>exact⟨j+1,_,by omega,by go_num,BO,HW6,qX,HR6,CZ⟩
    case measure=>simp[intOf];omega
   ·have HQ:=qh (fun X=>(hq X).trans (by rw[decide_eq_false (show ¬(y.1.1,y.1.2)=(p.1,p.2) from py)]:_=.ok (Β ρ) X))
    have CZ:Hid (Us.map vS=bI (V.take (j+1)) p R.2.2.2++V.drop (j+1)):=qh (by
     rw[Mn.out,if_neg (fun q=>py (hk.symm.trans q))];exact(sK (by rw[Ψ,HY.out,Option.map_some,SU.out])).symm)
    clear hq py hk;subst hA5;go_upto_region 5 with fail
    have iM:∀w',Kept aT wo.drew w'→w'.cell? ⟨b3,0,ε⟩=ζ (γ (ζ ⟨bb,off,ε⟩) n c5):=fun w' h=>h.nil_cell (HX.out.2.2.2.1.dr.cell (i:=0) rfl)
    refine aw (aT) (by kernel_rfl) ?_;refine aq 0 ?_;refine aq 1 ?_;refine aq 2 ?_;refine aq 3 ?_;refine aq 4 ?_;refine bN 5 (hy:=bA (by rfl) 30 (.tmp 22) rfl ⟨bb,off+j*5,ε⟩ rfl [J y.1.1,J y.1.2] _ tK.out Tryz.underlying30 rfl (by kernel_rfl)) (h:=?_);refine bN 6 (hy:=bG (by rfl) 30 (.tmp 4) rfl b1 rfl 30 [J p.1,J p.2] _ (fun w' h=>h.whole HX.out.2.1.dr (fun h=>h)) Tryz.underlying30 rfl (by kernel_rfl)) (h:=?_);refine bN 7 (hy:=dm (by rfl) (fun w' _=>bo .eql 30 (.tmp 23) (.tmp 24) 30 rfl rfl rfl (by kernel_rfl) (HQ.out w'))) (h:=?_);refine aG (by kernel_rfl) ?_ _;intro w5 oL;have gM:σ wo.heap.size wo w5:=(Θ wo.heap.size wo).drew.trans oL;have dQ:=qh (HX.out.up gM);have oz:=qh (HC.out.bl gM);have js:=qh (af HB.out gM);have PH:=qh (tx.out.bl gM);clear oL gM HX HC HB tx iM tK c0 HQ;go_wp2;go_roundw
    case rel=>exact⟨j+1,Us,by omega,by go_num,dQ,oz,js,PH,CZ⟩
    case measure=>simp[intOf];omega
  ·obtain rfl:n=j:=by omega
   have T7:Hid (Us.map vS=bI V p R.2.2.2):=qh (by
    have:=HU.out
    rwa [List.take_of_length_le (by have:=IC.out;omega),Jak (by have:=IC.out;omega),List.append_nil] at this)
   have z0:=HX.out.2.2.1.cell (i:=0) rfl;have z1:=HX.out.2.2.1.cell (i:=1) rfl;have y0:=HX.out.2.2.1.free 0;have y1:=HX.out.2.2.1.free 1;have k1:=HX.out.2.2.2.1.cell (i:=1) rfl;have wT:=HC.out.dg
   have th:∀a,A5=ζ a→0<n→a.block≠b2:=fun a ha _=>by
    have h1:=sB HC.out.v ha;have h2:=L2o.out;omega
   go_wp2;have Xq:=(HB.out.setCell (p:=⟨b2,0,ε⟩) a8.out (γ A5 n c5)).setCell (p:=⟨b2,1,ε⟩) a8.out (γ B5 m k5);have tN:=(HX.out.2.2.1.set_ 0 (γ A5 n c5)).cell (i:=1) rfl;exact bz rfl b2 rfl ((HX.out.2.2.1.set_ 0 _).set_ 1 _) Tryz.underlying25 rfl (by kernel_rfl) rfl ⟨A5,c5,B5,k5,rfl,Us,lr (lr wT z0 th _) tN th _,T7.out,(fun a ha=>Λ OM.out (sB HC.out.v ha).1),Xg.out,Fv.out,Xq⟩
theorem De (A:Option Κ) (n c:Nat) (L:List D) (d:D) (w:ο) (h:aS w w.heap.size 3 A n c (aA L)) (hn:n≤1000000):
 Ζ η 35 #[γ A n c,φ #[J d.1,J d.2.1,J d.2.2]] w (uc w (fm L d) (decide (d∈L))):=by
 have HI:=qh (fun W h=>gJ A n c L d W h (by omega));have H:=qh h;have hl:=h.dlen
 by_cases hd:d∈L
 ·obtain⟨e1,e2⟩:=gO hd;rw[e1] at HI;obtain⟨k,gk⟩:=az (L.idxOf d);have WU:k<n:=by omega
  have hs:fm L d=L.getD ((k+n - 1) % n) (0,0,0):=by rw[fm,pW,if_pos hd,gk,hl,show k+(n - 1)=k+n - 1 by omega]
  rw[gk] at HI e2;obtain⟨b,off,rfl,hb,hc⟩:=h.darts (by omega);have hj:(k+n - 1) % n<n:=Nat.mod_lt _ (by omega);have Cg:((k:Int)+(n:Int) - 1) % (n:Int)=(((k+n - 1) % n:Nat):Int):=by rw[Int.natCast_emod];congr 1;omega
  obtain⟨j,gj⟩:=az ((k+n - 1) % n);rw[gj] at hs hj Cg;obtain⟨c1,c2,c3⟩:=hc j (by omega);obtain⟨x,gx⟩:=az (L.getD j (0,0,0));rw[gx] at hs c1 c2 c3;rw[hs,decide_eq_true hd];have C1:=qh c1;have C2:=qh c2;have C3:=qh c3;clear hs gx gj hc hd gk e1 e2 h hl c1 c2 c3;go_enter Tryz.func35,Tryz.ntmps35
  go_wp2_with (first
   |(go_at_call 33;refine(HI.out _ (by exact H.out.up (bT _ _ _) (by simp<;>omega))).mono ?_;rintro e w2 ⟨rfl,ar⟩
     have HB:=qh (cI ar);have d1:=(HB.out.cell (p:=⟨b,off+j*3,ε⟩) hb).trans C1.out;have d2:=(HB.out.cell (p:=⟨b,off+j*3+1,ε⟩) hb).trans C2.out;have d3:=(HB.out.cell (p:=⟨b,off+j*3+2,ε⟩) hb).trans C3.out;have hz:=(Whole.new_ (w.alloc (δ #[J d.1,J d.2.1,J d.2.2] 32)) 32 [J 0,J 0,J 0]).below ar;simp only[JbF] at hz;have z0:=hz.cell (i:=0) rfl;have z1:=hz.cell (i:=1) rfl;have z2:=hz.cell (i:=2) rfl;have y0:=hz.free 0;have y1:=hz.free 1;have y2:=hz.free 2;clear ar hz))
  exact bodyPost_ret (v:=.tuple #[φ #[J x.1,J x.2.1,J x.2.2],Β true]) (by simp[results,Tryz.results35,go_sem,z0,z1,z2]) rfl ⟨rfl,((HB.out.setCell (by simp) _).setCell (by simp) _).setCell (by simp) _⟩
 ·have hs:fm L d=(0,0,0):=by rw[fm,pW,if_neg hd]
  rw[jE hd] at HI;rw[hs,decide_eq_false hd];clear hs h hd hl;go_enter Tryz.func35,Tryz.ntmps35
  go_wp2_with (first
   |(go_at_call 33;refine(HI.out _ (by exact H.out.up (bT _ _ _) (by simp<;>omega))).mono ?_;rintro e w2 ⟨rfl,ar⟩
     have HB:=qh (cI ar);have hz:=(Whole.new_ (w.alloc (δ #[J d.1,J d.2.1,J d.2.2] 32)) 32 [J 0,J 0,J 0]).below ar;simp only[JbF] at hz;have z0:=hz.cell (i:=0) rfl;have z1:=hz.cell (i:=1) rfl;have z2:=hz.cell (i:=2) rfl;have y0:=hz.free 0;have y1:=hz.free 1;have y2:=hz.free 2;clear ar hz))
  exact bodyPost_ret (v:=.tuple #[φ #[J 0,J 0,J 0],Β ρ]) (by simp[results,Tryz.results35,go_sem,z0,z1,z2]) rfl ⟨rfl,((HB.out.setCell (by simp) _).setCell (by simp) _).setCell (by simp) _⟩
theorem DE (L:List D) (k:Nat) (d:D):aA (L.set k d)=(((aA L).set (k*3) (J d.1)).set (k*3+1) (J d.2.1)).set (k*3+2) (J d.2.2):=by
 induction L generalizing k with
 |nil=>simp[aA]
 |cons x L ih=>
  cases k with
  |zero=>simp[aA]
  |succ k=>
   have e1:(k+1)*3=k*3+3:=by omega
   have e2:(k+1)*3+1=k*3+1+3:=by omega
   have e3:(k+1)*3+2=k*3+2+3:=by omega
   rw[e2,e3,e1];simp[aA,ih]
theorem KC {W:ο} {B n cap g k:Nat} {e:Υ} {L:List D} {d:D} (h:W.ownsRow B e 3 (γ (ζ ⟨g,0,ε⟩) n cap) n (aA L)):
 (((W.setCell ⟨g,k*3,ε⟩ (J d.1)).setCell ⟨g,k*3+1,ε⟩ (J d.2.1)).setCell ⟨g,k*3+2,ε⟩ (J d.2.2)).ownsRow B e 3 (γ (ζ ⟨g,0,ε⟩) n cap) n (aA (L.set k d)):=by
 rw[DE];exact(((h.stored (k*3) (J d.1)).1.stored (k*3+1) (J d.2.1)).1.stored (k*3+2) (J d.2.2)).1
theorem MS (L:List D) (k:Nat) (d:D) (h:k<L.length):L.set k d=L.take k++d::L.drop (k+1):=by
 induction L generalizing k with
 |nil=>simp at h
 |cons x L ih=>
  cases k with
  |zero=>simp
  |succ k=>simp[ih k (by simpa using h)]
def tn (L:List D) (o d:D):List D:=if o∈L∧¬d∈L then L.set (L.idxOf o) d else L
theorem LG (L:List D) (o d:D):tn L o d=rj L o d:=by
 unfold tn rj
 by_cases h:o∈L∧¬d∈L
 ·rw[if_pos h,if_pos h,MS _ _ _ (gO h.1).2]
 ·rw[if_neg h,if_neg h]
theorem CS (A:Option Κ) (n c:Nat) (L:List D) (a d:D) (w:ο) (h:aS w w.heap.size 3 A n c (aA L)) (hn:n≤999000):
 Ζ η 103 #[γ A n c,φ #[J a.1,J a.2.1,J a.2.2],φ #[J d.1,J d.2.1,J d.2.2]] w (qc w (aJ (rj L a d))):=by
 obtain⟨i0,hi,nz,j7,kZ⟩:=info_parts mz;have HI:=qh (fun x W h=>gJ A n c L x W h (by omega));have HT:=qh (fun A n c L W h hn=>lH A n c L W h hn);have HR:=qh h;have hl:=h.dlen;subst hl;rw[←LG];obtain⟨W0,bJ⟩:=az ((w.alloc (δ #[J a.1,J a.2.1,J a.2.2] 32)).alloc (δ #[J d.1,J d.2.1,J d.2.2] 32));have jn:σ w.heap.size w W0:=by rw[←bJ];exact bT _ _ _
 have S8:w.heap.size+2=W0.heap.size:=by rw[←bJ];simp
 have PZ:Whole W0 w.heap.size 32 (aA [a]):=by rw[←bJ];exact(Whole.new_ w _ (aA [a])).alloc _
 have FE:Whole W0 (w.heap.size+1) 32 (aA [d]):=by
  rw[←bJ];exact Whole.new2 (cs:=aA [d]) (by simp)
 have PD:Ow w (w.heap.size+2) 32 3 (γ (ζ ⟨W0.heap.size,0,ε⟩) 0 0) 0 [] (W0.alloc (δ #[] 32)):=Ow.new_ (e:=32) (size:=3) (cs:=#[]) jn (B:=w.heap.size+2) (by omega) (by omega) (n:=0) (Jas _) rfl;have O0:=qh PD;have R0:=qh ((HR.out.up jn jn.size).up (ax W0 (δ #[] 32)) (ax W0 (δ #[] 32)).size);have AA:=qh (Whole.alloc PZ (δ #[] 32));have DD:=qh (Whole.alloc FE (δ #[] 32));have GW:=qh bJ;have Mp:=qh (HI.out a);have JM:=qh (HI.out d);have tok:True:=trivial;clear h bJ jn PZ FE HI S8 PD;go_enter Tryz.func103,Tryz.ntmps103;go_upto_region 1 with fail
 rw[GW.out]
 go_upto_region 2 with (first
  |(at_builtin
    refine eZ rfl (.tmp 9) (.tmp 10) _ rfl _ 32 i0 _ 3 24 Tryz.underlying57 hi nz j7 kZ rfl (by decide) (γ (ζ ⟨W0.heap.size,0,ε⟩) 0 0) 0 [] rfl (by exact O0.out) _ A L.length c (aA L) rfl (by exact R0.out) (dW L) (by unfold Jap;omega) (by omega) ?_;intro v1 w1 eY fe;simp only[JaI,List.nil_append] at eY;have O1:=qh eY;have A1:=qh (AA.out.at_ (fe.block _ (by omega)));have D1:=qh (DD.out.at_ (fe.block _ (by omega)));clear eY fe))
 obtain⟨Av,cv,hv,hrv⟩:=O1.out.rds;subst hv;have B1:=qh O1.out.below;have a0:=A1.out.cell (i:=0) rfl;have a1:=A1.out.cell (i:=1) rfl;have a2:=A1.out.cell (i:=2) rfl;clear hrv
 by_cases ha:a∈L
 ·obtain⟨i1,i2⟩:=gO ha;rw[i1] at Mp;obtain⟨k,gk⟩:=az (L.idxOf a);rw[gk] at Mp i2
  by_cases hd:d∈L
  ·have e1:tn L a d=L:=by rw[tn,if_neg (fun h=>h.2 hd)]
   obtain⟨j1,j2⟩:=gO hd;rw[j1] at JM;obtain⟨j,gj⟩:=az (L.idxOf d);rw[gj] at JM;have E1:=qh e1;clear e1 ha hd i1 j1 j2 gk gj
   go_wp2_with (first
    |(go_at_call 33;have _t:=tok;refine(Mp.out _ (by exact HR.out.up B1.out B1.out.size)).mono ?_;rintro e w2 ⟨rfl,ar⟩;have O2:=qh (O1.out.up ar);have D2:=qh (D1.out.below ar);have q0:=D2.out.cell (i:=0) rfl;have q1:=D2.out.cell (i:=1) rfl;have q2:=D2.out.cell (i:=2) rfl;clear ar tok)
    |(go_at_call 33;refine(JM.out _ (by exact HR.out.up O2.out.below O2.out.below.size)).mono ?_;rintro e w3 ⟨rfl,bw⟩;have O3:=qh (O2.out.up bw);obtain⟨A9,c9,Un,mO⟩:=O3.out.rds;cases Un;have R3:=qh mO;clear bw mO)
    |(go_at_call 79;refine(HT.out _ _ _ _ _ (by exact R3.out) (by omega)).mono ?_;rintro e w4 ⟨A2,c2,rfl,rz,s5,Um⟩))
   go_ret;rw[E1.out];exact⟨A2,c2,rfl,rz,O3.out.below.trans (s5.mono O3.out.below.size),Um⟩
  ·have e1:tn L a d=L.set k d:=by rw[tn,if_pos ⟨ha,hd⟩,gk]
   rw[jE hd] at JM;have E1:=qh e1;clear e1 i1 gk ha hd;obtain⟨g,cap,hvv,hBg,eS⟩:=O1.out.own.form (by omega);cases hvv
   go_upto_region 4 with (first
    |(go_at_call 33;have _t:=tok;refine(Mp.out _ (by exact HR.out.up B1.out B1.out.size)).mono ?_;rintro e w2 ⟨rfl,ar⟩;have O2:=qh (O1.out.up ar);have D2:=qh (D1.out.below ar);have q0:=D2.out.cell (i:=0) rfl;have q1:=D2.out.cell (i:=1) rfl;have q2:=D2.out.cell (i:=2) rfl;clear ar tok)
    |(go_at_call 33;refine(JM.out _ (by exact HR.out.up O2.out.below O2.out.below.size)).mono ?_;rintro e w3 ⟨rfl,bw⟩;have O3:=qh (O2.out.up bw);have D3:=qh (D2.out.below bw);have r0:=D3.out.cell (i:=0) rfl;have r1:=D3.out.cell (i:=1) rfl;have r2:=D3.out.cell (i:=2) rfl;clear bw))
   obtain⟨t1,t2,t3⟩:=qE L k i2;have s1:=O3.out.own.cells (g:=g) rfl _ _ t1;have s2:=O3.out.own.cells (g:=g) rfl _ _ t2;have s3:=O3.out.own.cells (g:=g) rfl _ _ t3;simp only[Addr.add_lit,JaI] at s1 s2 s3;have z1:=O3.out.own.frozenAt (k*3);have z2:=O3.out.own.frozenAt (k*3+1);have z3:=O3.out.own.frozenAt (k*3+2);go_wp2_with fail
   have OS:Hid (Ow w (w.heap.size+2) 32 3 (γ (ζ ⟨g,0,ε⟩) L.length cv) L.length (aA (L.set k d)) (((w3.setCell ⟨g,k*3,ε⟩ (J d.1)).setCell ⟨g,k*3+1,ε⟩ (J d.2.1)).setCell ⟨g,k*3+2,ε⟩ (J d.2.2))):=
    ⟨KC O3.out.own,((O3.out.below.setCell (by show w.heap.size≤g;omega) _).setCell (by show w.heap.size≤g;omega) _).setCell (by show w.heap.size≤g;omega) _,O3.out.lo,by simpa [World.setCell] using O3.out.hi⟩
   obtain⟨A9,c9,Un,mO⟩:=OS.out.rds;cases Un
   refine(HT.out _ _ _ _ _ (by exact mO) (by omega)).mono ?_
   rintro e w4 ⟨A2,c2,rfl,rz,s5,Um⟩;go_wp2;go_ret;rw[E1.out];exact⟨A2,c2,rfl,rz,OS.out.below.trans (s5.mono OS.out.below.size),Um⟩
 ·have e1:tn L a d=L:=by rw[tn,if_neg (fun h=>ha h.1)]
  rw[jE ha] at Mp;have E1:=qh e1;clear e1 ha
  go_wp2_with (first
   |(go_at_call 33;have _t:=tok;refine(Mp.out _ (by exact HR.out.up B1.out B1.out.size)).mono ?_;rintro e w2 ⟨rfl,ar⟩;have O3:=qh (O1.out.up ar);obtain⟨A9,c9,Un,mO⟩:=O3.out.rds;cases Un;have R3:=qh mO;clear ar tok mO)
   |(go_at_call 79;refine(HT.out _ _ _ _ _ (by exact R3.out) (by omega)).mono ?_;rintro e w4 ⟨A2,c2,rfl,rz,s5,Um⟩))
  go_ret;rw[E1.out];exact⟨A2,c2,rfl,rz,O3.out.below.trans (s5.mono O3.out.below.size),Um⟩
end Go.Proofs.YtpdpbfmiahjiiaaGreat
