/- Several texts in one. -/
import Derived.Test.YtpdpbfmiahjiiaaGreatPpAB
import Derived.Test.YtpdpbfmiahjiiaaGreatPpAD
import Derived.Test.YtpdpbfmiahjiiaaGreatPpAF
import Derived.Test.YtpdpbfmiahjiiaaGreatPpAG
import Derived.Test.YtpdpbfmiahjiiaaGreatPpAT
import Derived.Below
import Derived.BigQuiet
import Derived.Deep.AppendLies
import Derived.Deep.DeepCutAuto
import Derived.Deep.MidRow
import Derived.Deep.QuietTactic
import Derived.Deep.Slices
import Derived.Deep.WholeRow
import Derived.Great.Walk
import Derived.IntWalk
import Derived.KernelRfl
import Derived.Laws.AppendOwnNone
import Derived.Laws.NewBlocks
import Derived.Laws.OwnMore
import Derived.Laws.Rows
import Derived.Laws.Tables
import Derived.Lib.Hide
import Derived.Lib.SmallJoins
import Derived.LoopTactic
import Derived.Maps.AppendAt
import Derived.OrdersHeld
import Derived.Outline
import Derived.WalkKit
import Derived.WalkLawsBesides
import Derived.WalkSpells
set_option linter.unusedSectionVars false
set_option linter.unusedSimpArgs false
set_option linter.unusedVariables false
set_option maxRecDepth 100000
set_option maxHeartbeats 16000000
namespace Go.Proofs.YtpdpbfmiahjiiaaGreat
open Go.RowKit
open _root_.Go.Value renaming slice→γ,agg→φ,bool→Β
open _root_.Go.Obj renaming cells→δ
open _root_.Option renaming none→ε,some→ζ
open _root_.Go.Proofs.Tryz renaming prog→η
open _root_.List renaming getElem?_eq_getElem→θ,getElem?_eq_some_iff→ν,mem_cons→Η,drop_eq_getElem_cons→Χ,getElem?_map→Ψ,mem_cons_self→Jai,drop_of_length_le→Jak,length_take→JaA,not_mem_nil→Jbh
open _root_.Go.Act renaming put→ξ
open _root_.Go renaming World→ο,Calls→Ζ,Addr→Κ,TypeId→Υ,maxLen→Jap
open _root_.Bool renaming false→ρ
open _root_.Go.RowKit renaming Below→σ
open _root_.Go.RowKit.Below renaming refl→Θ
open _root_.Nat renaming le_trans→Λ,zero_le→Jas,zero_add→JaI,lt_of_lt_of_le→JaK,sub_self→JaP
open _root_.Go.World renaming size_alloc→JbF
theorem xS (a b x y:Int) (X:ο):(binOp .neq 30 (φ #[J a,J b]) (φ #[J x,J y])).run η X=.ok (Β (!decide ((a,b)=(x,y)))) X:=by
 by_cases h1:a=x
 ·by_cases h2:b=y
  ·simp[go_sem,h1,h2]
  ·simp[go_sem,h1,h2]
 ·simp[go_sem,h1]
theorem Ak {α:Type} (nm:α→Nm) (y:α) (l:List α) (x:Nm):fY nm (y::l) x=(if nm y=x then[] else[y])++fY nm l x:=by
 unfold fY
 by_cases h:nm y=x
 ·rw[if_pos h,List.filter_cons_of_neg (by simp[h])];rfl
 ·rw[if_neg h,List.filter_cons_of_pos (by simp[h])];rfl
theorem kV {W:ο} {A:Option Κ} {n c:Nat} {Vs:List VC} {B:Option Κ} {m k:Nat} {Es:List EC} (h:aR W A n c Vs B m k Es) (p q:Nm) (hn:n≤1000) (hm:m≤1000):
 Ζ η 47 #[φ #[γ A n c,γ B m k],φ #[J p.1,J p.2],φ #[J q.1,J q.2]] W fun e w'=>∃A' n' c' B' m' k',e=.returned (φ #[γ A' n' c',γ B' m' k'])∧aR w' A' n' c' (fY (fun v:VC=>v.1) Vs p) B' m' k' (fY (fun v:EC=>v.1) Es q)∧c'≤Jap∧k'≤Jap∧σ W.heap.size W w':=by
 obtain⟨ivV,hiV,adu,adL,adT⟩:=aW hU;obtain⟨ivE,hiE,abX,abA,abk⟩:=aW jQ;have HV:=qh h.v;have HE:=qh h.e;have HR:=qh h.r;have Lb:=qh (h.v.rlen aQ (by decide));have HLE:=qh (h.e.rlen bF (by decide));clear h;go_enter Tryz.func47,Tryz.ntmps47;go_upto_region 1 with fail
 have kM:Whole ((((W.alloc (δ #[γ A n c,γ B m k] 25)).alloc (δ #[J p.1,J p.2] 30)).alloc (δ #[J q.1,J q.2] 30)).alloc (δ #[γ ε 0 0,γ ε 0 0] 25)) (W.heap.size) 25 [γ A n c,γ B m k]:=((((Whole.new_ W 25 [γ A n c,γ B m k]).al (δ #[J p.1,J p.2] 30)).al (δ #[J q.1,J q.2] 30)).al (δ #[γ ε 0 0,γ ε 0 0] 25));have lj:Whole ((((W.alloc (δ #[γ A n c,γ B m k] 25)).alloc (δ #[J p.1,J p.2] 30)).alloc (δ #[J q.1,J q.2] 30)).alloc (δ #[γ ε 0 0,γ ε 0 0] 25)) (W.heap.size+1) 30 [J p.1,J p.2]:=(((Whole.new2 (w:=(W.alloc (δ #[γ A n c,γ B m k] 25))) (cs:=[J p.1,J p.2]) (by simp)).al (δ #[J q.1,J q.2] 30)).al (δ #[γ ε 0 0,γ ε 0 0] 25));have uN:Whole ((((W.alloc (δ #[γ A n c,γ B m k] 25)).alloc (δ #[J p.1,J p.2] 30)).alloc (δ #[J q.1,J q.2] 30)).alloc (δ #[γ ε 0 0,γ ε 0 0] 25)) (W.heap.size+1+1) 30 [J q.1,J q.2]:=((Whole.new2 (w:=((W.alloc (δ #[γ A n c,γ B m k] 25)).alloc (δ #[J p.1,J p.2] 30))) (cs:=[J q.1,J q.2]) (by simp)).al (δ #[γ ε 0 0,γ ε 0 0] 25));have IN:Whole ((((W.alloc (δ #[γ A n c,γ B m k] 25)).alloc (δ #[J p.1,J p.2] 30)).alloc (δ #[J q.1,J q.2] 30)).alloc (δ #[γ ε 0 0,γ ε 0 0] 25)) (W.heap.size+1+1+1) 25 [γ ε 0 0,γ ε 0 0]:=(Whole.new2 (w:=(((W.alloc (δ #[γ A n c,γ B m k] 25)).alloc (δ #[J p.1,J p.2] 30)).alloc (δ #[J q.1,J q.2] 30))) (cs:=[γ ε 0 0,γ ε 0 0]) (by simp))
 have qL:σ W.heap.size W ((((W.alloc (δ #[γ A n c,γ B m k] 25)).alloc (δ #[J p.1,J p.2] 30)).alloc (δ #[J q.1,J q.2] 30)).alloc (δ #[γ ε 0 0,γ ε 0 0] 25)):=(aE (aE (aE (ax W _) _) _) _);obtain⟨W0,bP⟩:=ay (((((W.alloc (δ #[γ A n c,γ B m k] 25)).alloc (δ #[J p.1,J p.2] 30)).alloc (δ #[J q.1,J q.2] 30)).alloc (δ #[γ ε 0 0,γ ε 0 0] 25)));rw[bP] at kM lj uN IN qL ⊢;obtain⟨b3,p9⟩:=ay (W.heap.size+1+1+1);rw[p9] at IN ⊢;obtain⟨b2,dN⟩:=ay (W.heap.size+1+1);rw[dN] at uN ⊢;obtain⟨b1,cX⟩:=ay (W.heap.size+1);rw[cX] at lj ⊢;obtain⟨b0,bK⟩:=ay W.heap.size;rw[bK] at kM ⊢;have aN:=qh kM;have aI:=qh lj;have aV:=qh uN;have dp:=qh IN;have a8:=qh qL;have kQ:Hid (W.heap.size≤b0):=qh (by omega);have jK:Hid (W.heap.size≤b1):=qh (by omega);have bz:Hid (W.heap.size≤b2):=qh (by omega);have mg:Hid (W.heap.size≤b3):=qh (by omega);have mj:Hid (b0≠b1):=qh (by omega);have oK:Hid (b0≠b2):=qh (by omega);have N03:Hid (b0≠b3):=qh (by omega);have km:Hid (b1≠b2):=qh (by omega);have N13:Hid (b1≠b3):=qh (by omega);have Wi:Hid (b2≠b3):=qh (by omega);clear bP qL kM lj uN IN bK cX dN p9;go_upto_region 2 with fail
 have cI:=qh (aE a8.out (δ #[γ ε 0 0,γ ε 0 0] 25));have HX:Hid (Bx (W0.alloc (δ #[γ ε 0 0,γ ε 0 0] 25)) [(b0,25,[γ A n c,γ B m k]),(b1,30,[J p.1,J p.2]),(b2,30,[J q.1,J q.2]),(b3,25,[γ ε 0 0,γ ε 0 0])]):=qh ⟨aN.out.al _,aI.out.al _,aV.out.al _,dp.out.al _,trivial⟩;have H3:=qh (Whole.new_ W0 25 [γ ε 0 0,γ ε 0 0])
 have Cp:Hid (∀p_∈([(b0,25,[γ A n c,γ B m k]),(b1,30,[J p.1,J p.2]),(b2,30,[J q.1,J q.2]),(b3,25,[γ ε 0 0,γ ε 0 0])]:List (Nat × Υ × List Value)),p_.1<W0.heap.size+1∧p_.1≠W0.heap.size):=qh (fun p_ hp=>by
  have h0:=aN.out.lt;have h1:=aI.out.lt;have h2:=aV.out.lt;have h3:=dp.out.lt;simp only[Η,Jbh,or_false] at hp;rcases hp with rfl|rfl|rfl|rfl
  ·exact⟨by show b0<_;omega,by show b0≠_;omega⟩
  ·exact⟨by show b1<_;omega,by show b1≠_;omega⟩
  ·exact⟨by show b2<_;omega,by show b2≠_;omega⟩
  ·exact⟨by show b3<_;omega,by show b3≠_;omega⟩)
 have HO:Hid (Ow W (W0.heap.size+1) 59 5 (γ ε 0 0) 0 (aj vC []) (W0.alloc (δ #[γ ε 0 0,γ ε 0 0] 25))):=qh ⟨World.ownsRow_nil _ _ _ _,cI.out,Λ a8.out.size (Nat.le_succ _),by simp⟩;have LWV:Hid (W.heap.size≤W0.heap.size+1):=qh (Λ a8.out.size (Nat.le_succ _));have Ev:Hid (W.heap.size≤W0.heap.size):=qh a8.out.size;have T5:Hid (W0.heap.size<W0.heap.size+1):=qh (Nat.lt_succ_self _);obtain⟨lo,Ah⟩:=ay (W0.heap.size+1);obtain⟨w3,sX⟩:=ay (W0.alloc (δ #[γ ε 0 0,γ ε 0 0] 25));obtain⟨b4,Iw⟩:=ay W0.heap.size;rw[sX] at HX H3 HO ⊢;rw[Ah] at Cp HO LWV T5;rw[Iw] at H3 Cp Ev T5 ⊢;clear sX Ah Iw aN aI aV dp a8 cI;go_upto_region 3 with fail
 go_loopw [8] (fun vi wr=>∃(j:Nat) (D3:Option Κ) (n3 d3:Nat) (T:List VC),j≤n∧n3≤j∧vi=J (j:Int)∧Hid (Bx wr [(b0,25,[γ A n c,γ B m k]),(b1,30,[J p.1,J p.2]),(b2,30,[J q.1,J q.2]),(b3,25,[γ ε 0 0,γ ε 0 0])])∧Hid (Whole wr b4 25 [γ D3 n3 d3,γ ε 0 0])∧Hid (Ow W lo 59 5 (γ D3 n3 d3) n3 (aj vC T) wr)∧Hid (fY (fun v:VC=>v.1) Vs p=T++fY (fun v:VC=>v.1) (Vs.drop j) p)) (fun vi _=>n - (intOf vi).toNat)
 case atStart=>exact⟨0,ε,0,0,[],Jas _,Jas _,rfl,HX,H3,HO,qh rfl⟩
 case round=>
  clear HX H3 HO;obtain⟨j,D3,n3,d3,T,hj,hn3,rfl,HX,H3,HO,HN⟩:=hrel;obtain⟨wo,ec⟩:=ay wr;rw[ec] at HX H3 HO ⊢;clear ec;have c0:=HX.out.1.cell (i:=0) rfl
  by_cases o4:j<n
  ·have rD:(j:Int)<(n:Int):=by omega
   obtain⟨y,hy⟩:∃y,Vs[j]? =ζ y:=⟨_,θ (by have:=Lb.out;omega)⟩
   have hN:=HN.out;rw[Χ (ν.1 hy).1,(ν.1 hy).2,Ak] at hN;obtain⟨bb,off,rfl,bD,bM⟩:=HV.out.place aQ (by decide) (by omega);have HP:=qh (bM j _ hy)
   have vF:Hid (∀w',Kept aF wo.drew w'→∀i u,[J y.1.1,J y.1.2][i]? =ζ u→w'.cell? ((⟨bb,off+j*5,ε⟩:Κ).add i)=ζ u):=qh (fun w' h i u hu=>h.nil_cell ((HO.out.below.cell (by rw[cJ];exact bD)).trans (bM j _ hy i u (by
    rcases i with _|_|i
    ·exact hu
    ·exact hu
    ·simp at hu))))
   clear hy bM HN;have hq:=xS y.1.1 y.1.2 p.1 p.2
   by_cases mO:y.1=p
   ·have HQ:=qh (fun X=>(hq X).trans (by rw[decide_eq_true (show(y.1.1,y.1.2)=(p.1,p.2) from mO)];rfl:_=.ok (Β ρ) X));have wg:Hid (fY (fun v:VC=>v.1) Vs p=T++fY (fun v:VC=>v.1) (Vs.drop (j+1)) p):=qh (by rw[hN,if_pos mO];rfl);clear hN hq mO;go_upto_region 5 with fail
    have fv:∀w',Kept aF wo.drew w'→w'.cell? ⟨b0,0,ε⟩=ζ (γ (ζ ⟨bb,off,ε⟩) n c):=fun w' h=>h.nil_cell (HX.out.1.dr.cell (i:=0) rfl)
    refine aw (aF) (by kernel_rfl) ?_;refine ag 0 ?_;refine ag 1 ?_;refine ag 2 ?_;refine ag 3 ?_;refine ag 4 ?_;refine bY 5 (hy:=bG (by rfl) 30 (.tmp 22) rfl ⟨bb,off+j*5,ε⟩ rfl [J y.1.1,J y.1.2] _ vF.out Tryz.underlying30 rfl (by kernel_rfl)) (h:=?_);refine bY 6 (hy:=bU (by rfl) 30 (.tmp 4) rfl b1 rfl 30 [J p.1,J p.2] _ (fun w' h=>h.whole HX.out.2.1.dr (fun h=>h)) Tryz.underlying30 rfl (by kernel_rfl)) (h:=?_);refine bY 7 (hy:=dG (by rfl) (fun w' _=>bE .neq 30 (.tmp 23) (.tmp 24) 30 rfl rfl rfl (by kernel_rfl) (HQ.out w'))) (h:=?_);refine aD (by kernel_rfl) ?_ _;intro w5 pq;have gY:σ wo.heap.size wo w5:=(Θ wo.heap.size wo).drew.trans pq;have ku:=qh (HO.out.up gY);have dY:=qh (HX.out.up gY);have yf:=qh (H3.out.bl gY);clear pq gY HO HX H3 fv HP vF c0 HQ;go_wp2;go_roundw
    case rel=>exact⟨j+1,D3,n3,d3,T,by omega,by omega,by go_num,dY,yf,ku,wg⟩
    case measure=>simp[intOf];omega
   ·have HQ:=qh (fun X=>(hq X).trans (by rw[decide_eq_false (show ¬(y.1.1,y.1.2)=(p.1,p.2) from mO)];rfl:_=.ok (Β true) X));have wg:Hid (fY (fun v:VC=>v.1) Vs p=(T++[y])++fY (fun v:VC=>v.1) (Vs.drop (j+1)) p):=qh (by rw[hN,if_neg mO];simp);clear hN hq mO;go_upto_region 5 with fail
    have fv:∀w',Kept aF wo.drew w'→w'.cell? ⟨b0,0,ε⟩=ζ (γ (ζ ⟨bb,off,ε⟩) n c):=fun w' h=>h.nil_cell (HX.out.1.dr.cell (i:=0) rfl)
    refine aw (aF) (by kernel_rfl) ?_;refine ag 0 ?_;refine ag 1 ?_;refine ag 2 ?_;refine ag 3 ?_;refine ag 4 ?_;refine bY 5 (hy:=bG (by rfl) 30 (.tmp 22) rfl ⟨bb,off+j*5,ε⟩ rfl [J y.1.1,J y.1.2] _ vF.out Tryz.underlying30 rfl (by kernel_rfl)) (h:=?_);refine bY 6 (hy:=bU (by rfl) 30 (.tmp 4) rfl b1 rfl 30 [J p.1,J p.2] _ (fun w' h=>h.whole HX.out.2.1.dr (fun h=>h)) Tryz.underlying30 rfl (by kernel_rfl)) (h:=?_);refine bY 7 (hy:=dG (by rfl) (fun w' _=>bE .neq 30 (.tmp 23) (.tmp 24) 30 rfl rfl rfl (by kernel_rfl) (HQ.out w'))) (h:=?_);refine aD (by kernel_rfl) ?_ _;intro w5 pq;have gY:σ wo.heap.size wo w5:=(Θ wo.heap.size wo).drew.trans pq;have ku:=qh (HO.out.up gY);have dY:=qh (HX.out.up gY);have yf:=qh (H3.out.bl gY);clear pq gY HO HX H3 fv vF c0 HQ;have HO:=ku;have HX:=dY;have H3:=yf;clear ku dY yf;obtain⟨wo,ec⟩:=ay w5;rw[ec] at HX H3 HO ⊢;clear ec;go_upto_region 6 with fail
    have fv:∀w',Kept (de lo) wo.drew w'→w'.cell? ⟨b4,0,ε⟩=ζ (γ D3 n3 d3):=fun w' hk=>hk.from_cell T5.out (H3.out.dr.cell (i:=0) rfl)
    have ld1:∀w',Kept (de lo) wo.drew w'→w'.cell? ⟨b0,0,ε⟩=ζ (γ (ζ ⟨bb,off,ε⟩) n c):=fun w' hk=>hk.from_cell (Cp.out _ Jai).1 (HX.out.1.dr.cell (i:=0) rfl)
    have IX:Hid (∀w',Kept (de lo) wo.drew w'→∀i u,(vC y)[i]? =ζ u→w'.cell? ((⟨bb,off+j*5,ε⟩:Κ).add i)=ζ u):=qh (fun w' hk i u hu=>hk.from_cell (by rw[cJ];exact JaK bD LWV.out) ((HO.out.below.cell (by rw[cJ];exact bD)).trans (HP.out i u hu)));refine bT (de lo) [10] (by kernel_rfl) ?_;refine bf 0 ?_;refine bf 1 ?_;refine bf 2 ?_;refine bf 3 ?_;refine bf 4 ?_;refine bf 5 ?_;refine fC 6 (hy:=bG (by rfl) 59 (.tmp 31) rfl ⟨bb,off+j*5,ε⟩ rfl (vC y) _ IX.out Tryz.underlying59 rfl (by kernel_rfl)) (h:=?_);refine kn 7 ?_;intro w' aB
    refine⟨γ (ζ ⟨w'.heap.size,0,ε⟩) 1 1,w'.alloc (δ (vC y).toArray 59),fa 22 59 1 #[(0,.tmp 32)] (by rfl) Tryz.underlying22 _ (by kernel_rfl),Kept.of_below (ax _ _),?_⟩
    have yC:Hid (Ext wo.drew (w'.alloc (δ (vC y).toArray 59))):=qh (Ext.trans aB (ax _ _));have kJ:Hid (aX (w'.alloc (δ (vC y).toArray 59)) (w'.alloc (δ (vC y).toArray 59)).heap.size 5 (ζ ⟨w'.heap.size,0,ε⟩) 1 1 (vC y)):=qh (aX.of_whole (Whole.new_ _ _ _) rfl);obtain⟨V3,tL⟩:=ay (w'.alloc (δ (vC y).toArray 59));obtain⟨g3,Ie⟩:=ay w'.heap.size;rw[tL] at yC kJ ⊢;rw[Ie] at kJ ⊢;clear aB tL Ie;simp only[ξ,aq,ak,ao];refine kn 8 ?_;intro w' aB;have hx:=(Θ wo.heap.size wo).drew.trans (Ext.trans yC.out aB);obtain⟨v8,cT,cj,ho,qX⟩:=Ow.app (P:=η) 22 22 59 ivV _ 5 64 lo Tryz.underlying22 hiV adu adL adT rfl (by decide) _ _ _ (HO.out.up hx) _ _ 1 1 _ (kJ.out.bl aB) (kA y) (by unfold Jap;omega) (by omega);rw[show aj vC T++vC y=aj vC (T++[y]) by rw[bV];simp[aj]] at ho;obtain⟨A3,c3,rfl,-⟩:=ho.rds
    refine⟨_,cT,cA (by rfl) (by rfl) (by rfl) cj,Kept.of_from qX,?_⟩
    have kB:=qh ho;have mM:=qh ((H3.out.bl hx).at_ (qX.block _ T5.out));have dp:=qh (Bx.gr qX (HX.out.up hx) (fun p hp=>(Cp.out p hp).1));obtain⟨V4,zY⟩:=ay cT;rw[zY] at kB mM dp ⊢;clear aB hx cj ho qX zY yC kJ;simp only[ξ,aq,ak,ao];refine bf 9 ?_;refine lK 10 ?_;intro w' aB;have vP:=(mM.out.bl aB).cell (i:=0) rfl;have ph:=(mM.out.bl aB).free 0
    refine⟨w'.setCell ⟨b4,0,ε⟩ (γ A3 (n3+1) c3),?_,?_⟩
    ·go_simp;first|done|exact rfl
    have oW:=qh ((kB.out.up aB).set_far ((kB.out.up aB).low_ne T5.out) Ev.out (γ A3 (n3+1) c3) (i:=0));have vy:=qh ((mM.out.bl aB).set_ 0 (γ A3 (n3+1) c3));have gS:=qh (Bx.st (γ A3 (n3+1) c3) (i:=0) (dp.out.up aB) (fun p hp=>(Cp.out p hp).2));obtain⟨V5,s5⟩:=ay (w'.setCell ⟨b4,0,ε⟩ (γ A3 (n3+1) c3));rw[s5] at oW vy gS ⊢;clear aB vP ph s5 kB mM dp;(try simp only[ξ,aq,ak,ao]);refine eX (by kernel_rfl) ?_ _;intro w8 cE;have El:=qh (oW.out.up cE);have vY:=qh (gS.out.up cE);have Ub:=qh (vy.out.bl cE);clear cE HO HX H3 oW gS vy fv ld1 IX;go_wp2;go_roundw
    case rel=>exact⟨j+1,A3,n3+1,c3,T++[y],by omega,by omega,by go_num,vY,Ub,El,wg⟩
    case measure=>simp[intOf];omega
  ·obtain rfl:n=j:=by omega
   have HT:Hid (fY (fun v:VC=>v.1) Vs p=T):=qh (by rw[HN.out,Jak (by have:=Lb.out;omega)];simp[fY]);clear HN;go_upto_region 8 with fail
   clear c0;obtain⟨A2,n2,c2,TV_,wq,gA,gn,gc,gT,gw⟩:∃A2 n2 c2 TV_ wq,D3=A2∧n3=n2∧d3=c2∧T=TV_∧wo=wq:=⟨_,_,_,_,_,rfl,rfl,rfl,rfl,rfl⟩
   rw[gA,gn,gc] at H3 HO;rw[gT] at HO HT;rw[gw] at HX H3 HO ⊢;clear gA gn gc gT gw;have Qb:Hid (∀a,A2=ζ a→0<n2→a.block≠b4):=qh (fun a ha _=>by have:=uw HO.out.own ha;have:=T5.out;omega);have acA:Hid (∀a,A2=ζ a→0<n2→a.block≠b3):=qh (fun a ha _=>by have:=uw HO.out.own ha;have:=(Cp.out (b3,25,[γ ε 0 0,γ ε 0 0]) (by simp)).1;omega);have SA:Hid (aX wq wq.heap.size 5 A2 n2 c2 (aj vC TV_)):=qh (aJ HO.out.own);have HVc:Hid (c2≤Jap):=qh (fO HO.out.own);have fV:=HO.out.hi;have vw:Hid (Ow W wq.heap.size 67 4 (γ ε 0 0) 0 (aj eC []) wq):=qh ⟨World.ownsRow_nil _ _ _ _,HO.out.below,HO.out.below.size,Nat.le_refl _⟩;have NA:Hid (∀p_∈([(b0,25,[γ A n c,γ B m k]),(b1,30,[J p.1,J p.2]),(b2,30,[J q.1,J q.2]),(b3,25,[γ ε 0 0,γ ε 0 0])]:List (Nat × Υ × List Value)),p_.1<wq.heap.size∧p_.1≠b4):=qh (fun p_ hp=>⟨JaK (Cp.out p_ hp).1 fV,(Cp.out p_ hp).2⟩);have LWE:Hid (W.heap.size≤wq.heap.size):=qh HO.out.below.size;have L3E:Hid (b4<wq.heap.size):=qh (JaK T5.out fV);have HTV:=HT;clear HO HT fV HV;have HV:=SA;have HO:=vw;clear SA vw;obtain⟨SL,Ah⟩:=ay wq.heap.size;rw[Ah] at HV HO NA LWE L3E;clear Ah;go_loopw [9] (fun vi wr=>∃(j:Nat) (D3:Option Κ) (n3 d3:Nat) (T:List EC),j≤m∧n3≤j∧vi=J (j:Int)∧Hid (Bx wr [(b0,25,[γ A n c,γ B m k]),(b1,30,[J p.1,J p.2]),(b2,30,[J q.1,J q.2]),(b3,25,[γ ε 0 0,γ ε 0 0])])∧Hid (Whole wr b4 25 [γ A2 n2 c2,γ D3 n3 d3])∧Hid (Ow W SL 67 4 (γ D3 n3 d3) n3 (aj eC T) wr)∧Hid (fY (fun v:EC=>v.1) Es q=T++fY (fun v:EC=>v.1) (Es.drop j) q)∧Hid (aX wr SL 5 A2 n2 c2 (aj vC TV_))) (fun vi _=>m - (intOf vi).toNat)
   case atStart=>exact⟨0,ε,0,0,[],Jas _,Jas _,rfl,HX,H3,HO,qh rfl,HV⟩
   case round=>
    clear HX H3 HO HV;obtain⟨j,D3,n3,d3,T,hj,hn3,rfl,HX,H3,HO,HN,HV⟩:=hrel;obtain⟨wo,ec⟩:=ay wr;rw[ec] at HX H3 HO HV ⊢;clear ec;have c0:=HX.out.1.cell (i:=1) rfl
    by_cases o4:j<m
    ·have rD:(j:Int)<(m:Int):=by omega
     obtain⟨y,hy⟩:∃y,Es[j]? =ζ y:=⟨_,θ (by have:=HLE.out;omega)⟩
     have hN:=HN.out;rw[Χ (ν.1 hy).1,(ν.1 hy).2,Ak] at hN;obtain⟨bb,off,rfl,bD,bM⟩:=HE.out.place bF (by decide) (by omega);have HP:=qh (bM j _ hy)
     have vF:Hid (∀w',Kept aF wo.drew w'→∀i u,[J y.1.1,J y.1.2][i]? =ζ u→w'.cell? ((⟨bb,off+j*4,ε⟩:Κ).add i)=ζ u):=qh (fun w' h i u hu=>h.nil_cell ((HO.out.below.cell (by rw[cJ];exact bD)).trans (bM j _ hy i u (by
      rcases i with _|_|i
      ·exact hu
      ·exact hu
      ·simp at hu))))
     clear hy bM HN;have hq:=xS y.1.1 y.1.2 q.1 q.2
     by_cases mO:y.1=q
     ·have HQ:=qh (fun X=>(hq X).trans (by rw[decide_eq_true (show(y.1.1,y.1.2)=(q.1,q.2) from mO)];rfl:_=.ok (Β ρ) X));have wg:Hid (fY (fun v:EC=>v.1) Es q=T++fY (fun v:EC=>v.1) (Es.drop (j+1)) q):=qh (by rw[hN,if_pos mO];rfl);clear hN hq mO;go_upto_region 10 with fail
      have fv:∀w',Kept aF wo.drew w'→w'.cell? ⟨b0,1,ε⟩=ζ (γ (ζ ⟨bb,off,ε⟩) m k):=fun w' h=>h.nil_cell (HX.out.1.dr.cell (i:=1) rfl)
      refine aw (aF) (by kernel_rfl) ?_;refine ag 0 ?_;refine ag 1 ?_;refine ag 2 ?_;refine ag 3 ?_;refine ag 4 ?_;refine bY 5 (hy:=bG (by rfl) 30 (.tmp 47) rfl ⟨bb,off+j*4,ε⟩ rfl [J y.1.1,J y.1.2] _ vF.out Tryz.underlying30 rfl (by kernel_rfl)) (h:=?_);refine bY 6 (hy:=bU (by rfl) 30 (.tmp 5) rfl b2 rfl 30 [J q.1,J q.2] _ (fun w' h=>h.whole HX.out.2.2.1.dr (fun h=>h)) Tryz.underlying30 rfl (by kernel_rfl)) (h:=?_);refine bY 7 (hy:=dG (by rfl) (fun w' _=>bE .neq 30 (.tmp 48) (.tmp 49) 30 rfl rfl rfl (by kernel_rfl) (HQ.out w'))) (h:=?_);refine aD (by kernel_rfl) ?_ _;intro w5 pq;have gY:σ wo.heap.size wo w5:=(Θ wo.heap.size wo).drew.trans pq;have ku:=qh (HO.out.up gY);have dY:=qh (HX.out.up gY);have yf:=qh (H3.out.bl gY);have Ep:=qh (HV.out.below (gY.mono HO.out.hi));clear pq gY HO HX H3 HV fv HP vF c0 HQ;go_wp2;go_roundw
      case rel=>exact⟨j+1,D3,n3,d3,T,by omega,by omega,by go_num,dY,yf,ku,wg,Ep⟩
      case measure=>simp[intOf];omega
     ·have HQ:=qh (fun X=>(hq X).trans (by rw[decide_eq_false (show ¬(y.1.1,y.1.2)=(q.1,q.2) from mO)];rfl:_=.ok (Β true) X));have wg:Hid (fY (fun v:EC=>v.1) Es q=(T++[y])++fY (fun v:EC=>v.1) (Es.drop (j+1)) q):=qh (by rw[hN,if_neg mO];simp);clear hN hq mO;go_upto_region 10 with fail
      have fv:∀w',Kept aF wo.drew w'→w'.cell? ⟨b0,1,ε⟩=ζ (γ (ζ ⟨bb,off,ε⟩) m k):=fun w' h=>h.nil_cell (HX.out.1.dr.cell (i:=1) rfl)
      refine aw (aF) (by kernel_rfl) ?_;refine ag 0 ?_;refine ag 1 ?_;refine ag 2 ?_;refine ag 3 ?_;refine ag 4 ?_;refine bY 5 (hy:=bG (by rfl) 30 (.tmp 47) rfl ⟨bb,off+j*4,ε⟩ rfl [J y.1.1,J y.1.2] _ vF.out Tryz.underlying30 rfl (by kernel_rfl)) (h:=?_);refine bY 6 (hy:=bU (by rfl) 30 (.tmp 5) rfl b2 rfl 30 [J q.1,J q.2] _ (fun w' h=>h.whole HX.out.2.2.1.dr (fun h=>h)) Tryz.underlying30 rfl (by kernel_rfl)) (h:=?_);refine bY 7 (hy:=dG (by rfl) (fun w' _=>bE .neq 30 (.tmp 48) (.tmp 49) 30 rfl rfl rfl (by kernel_rfl) (HQ.out w'))) (h:=?_);refine aD (by kernel_rfl) ?_ _;intro w5 pq;have gY:σ wo.heap.size wo w5:=(Θ wo.heap.size wo).drew.trans pq;have ku:=qh (HO.out.up gY);have dY:=qh (HX.out.up gY);have yf:=qh (H3.out.bl gY);have Ep:=qh (HV.out.below (gY.mono HO.out.hi));clear pq gY HO HX H3 HV fv vF c0 HQ;have HO:=ku;have HX:=dY;have H3:=yf;have HV:=Ep;clear ku dY yf Ep;obtain⟨wo,ec⟩:=ay w5;rw[ec] at HX H3 HO HV ⊢;clear ec;go_upto_region 11 with fail
      have fv:∀w',Kept (de SL) wo.drew w'→w'.cell? ⟨b4,1,ε⟩=ζ (γ D3 n3 d3):=fun w' hk=>hk.from_cell L3E.out (H3.out.dr.cell (i:=1) rfl)
      have ld1:∀w',Kept (de SL) wo.drew w'→w'.cell? ⟨b0,1,ε⟩=ζ (γ (ζ ⟨bb,off,ε⟩) m k):=fun w' hk=>hk.from_cell (NA.out _ Jai).1 (HX.out.1.dr.cell (i:=1) rfl)
      have IX:Hid (∀w',Kept (de SL) wo.drew w'→∀i u,(eC y)[i]? =ζ u→w'.cell? ((⟨bb,off+j*4,ε⟩:Κ).add i)=ζ u):=qh (fun w' hk i u hu=>hk.from_cell (by rw[cJ];exact JaK bD LWE.out) ((HO.out.below.cell (by rw[cJ];exact bD)).trans (HP.out i u hu)));refine bT (de SL) [10] (by kernel_rfl) ?_;refine bf 0 ?_;refine bf 1 ?_;refine bf 2 ?_;refine bf 3 ?_;refine bf 4 ?_;refine bf 5 ?_;refine fC 6 (hy:=bG (by rfl) 67 (.tmp 56) rfl ⟨bb,off+j*4,ε⟩ rfl (eC y) _ IX.out Tryz.underlying67 rfl (by kernel_rfl)) (h:=?_);refine kn 7 ?_;intro w' aB
      refine⟨γ (ζ ⟨w'.heap.size,0,ε⟩) 1 1,w'.alloc (δ (eC y).toArray 67),fa 23 67 1 #[(0,.tmp 57)] (by rfl) Tryz.underlying23 _ (by kernel_rfl),Kept.of_below (ax _ _),?_⟩
      have yC:Hid (Ext wo.drew (w'.alloc (δ (eC y).toArray 67))):=qh (Ext.trans aB (ax _ _));have kJ:Hid (aX (w'.alloc (δ (eC y).toArray 67)) (w'.alloc (δ (eC y).toArray 67)).heap.size 4 (ζ ⟨w'.heap.size,0,ε⟩) 1 1 (eC y)):=qh (aX.of_whole (Whole.new_ _ _ _) rfl);obtain⟨V3,tL⟩:=ay (w'.alloc (δ (eC y).toArray 67));obtain⟨g3,Ie⟩:=ay w'.heap.size;rw[tL] at yC kJ ⊢;rw[Ie] at kJ ⊢;clear aB tL Ie;simp only[ξ,aq,ak,ao];refine kn 8 ?_;intro w' aB;have hx:=(Θ wo.heap.size wo).drew.trans (Ext.trans yC.out aB);obtain⟨v8,cT,cj,ho,qX⟩:=Ow.app (P:=η) 23 23 67 ivE _ 4 40 SL Tryz.underlying23 hiE abX abA abk rfl (by decide) _ _ _ (HO.out.up hx) _ _ 1 1 _ (kJ.out.bl aB) (jX y) (by unfold Jap;omega) (by omega);rw[show aj eC T++eC y=aj eC (T++[y]) by rw[bV];simp[aj]] at ho;obtain⟨A3,c3,rfl,-⟩:=ho.rds
      refine⟨_,cT,cA (by rfl) (by rfl) (by rfl) cj,Kept.of_from qX,?_⟩
      have kB:=qh ho;have mM:=qh ((H3.out.bl hx).at_ (qX.block _ L3E.out));have dp:=qh (Bx.gr qX (HX.out.up hx) (fun p hp=>(NA.out p hp).1));have HV3:=qh ((HV.out.below (hx.mono HO.out.hi)).below qX);obtain⟨V4,zY⟩:=ay cT;rw[zY] at kB mM dp HV3 ⊢;clear aB hx cj ho qX zY yC kJ;simp only[ξ,aq,ak,ao];refine bf 9 ?_;refine lK 10 ?_;intro w' aB;have vP:=(mM.out.bl aB).cell (i:=1) rfl;have ph:=(mM.out.bl aB).free 1
      refine⟨w'.setCell ⟨b4,1,ε⟩ (γ A3 (n3+1) c3),?_,?_⟩
      ·go_simp;first|done|exact rfl
      have oW:=qh ((kB.out.up aB).set_far ((kB.out.up aB).low_ne L3E.out) Ev.out (γ A3 (n3+1) c3) (i:=1));have vy:=qh ((mM.out.bl aB).set_ 1 (γ A3 (n3+1) c3));have gS:=qh (Bx.st (γ A3 (n3+1) c3) (i:=1) (dp.out.up aB) (fun p hp=>(NA.out p hp).2));have Ci:=qh ((HV3.out.below (aB.mono kB.out.hi)).far_ Qb.out (γ A3 (n3+1) c3) (i:=1));obtain⟨V5,s5⟩:=ay (w'.setCell ⟨b4,1,ε⟩ (γ A3 (n3+1) c3));rw[s5] at oW vy gS Ci ⊢;clear aB vP ph s5 kB mM dp HV3;(try simp only[ξ,aq,ak,ao]);refine eX (by kernel_rfl) ?_ _;intro w8 cE;have El:=qh (oW.out.up cE);have vY:=qh (gS.out.up cE);have Ub:=qh (vy.out.bl cE);have HV8:=qh (Ci.out.below (cE.mono oW.out.hi));clear cE HO HX H3 HV oW gS vy Ci fv ld1 IX;go_wp2;go_roundw
      case rel=>exact⟨j+1,A3,n3+1,c3,T++[y],by omega,by omega,by go_num,vY,Ub,El,wg,HV8⟩
      case measure=>simp[intOf];omega
    ·obtain rfl:m=j:=by omega
     have HT:Hid (fY (fun v:EC=>v.1) Es q=T):=qh (by rw[HN.out,Jak (by have:=HLE.out;omega)];simp[fY]);clear HN;have L2:Hid (b3<SL):=qh (NA.out (b3,25,[γ ε 0 0,γ ε 0 0]) (by simp)).1;have z0:=HX.out.2.2.2.1.cell (i:=0) rfl;have z1:=HX.out.2.2.2.1.cell (i:=1) rfl;have y0:=HX.out.2.2.2.1.free 0;have y1:=HX.out.2.2.2.1.free 1;have k0:=H3.out.cell (i:=0) rfl;have k1:=H3.out.cell (i:=1) rfl;have cu:=HO.out.low_ne L2.out;go_wp2;have SF:∀a,A2=ζ a→0<n2→a.block≠b3:=acA.out
     have hbf:=(HO.out.below.setCell (p:=⟨b3,0,ε⟩) mg.out (γ A2 n2 c2)).setCell (p:=⟨b3,1,ε⟩) mg.out (γ D3 n3 d3)
     exact bS rfl b3 rfl ((HX.out.2.2.2.1.set_ 0 _).set_ 1 _) Tryz.underlying25 rfl (by kernel_rfl) rfl ⟨A2,n2,c2,D3,n3,d3,rfl,⟨by
      rw[HTV.out];exact((HV.out.far_ SF _ (i:=0)).far_ SF _ (i:=1)).up (Θ _ _) (by simp only[World.size_setCell];exact HO.out.hi),by
      rw[HT.out];exact aJ ((HO.out.set_far cu mg.out _ (i:=0)).set_far cu mg.out _ (i:=1)).own,fun x hx=>(HR.out x (List.mem_filter.1 hx).1).bl hbf⟩,HVc.out,fO HO.out.own,hbf⟩
theorem jv (a b x y:Int) (X:ο):(binOp .eql 30 (φ #[J a,J b]) (φ #[J x,J y])).run η X=.ok (Β (decide ((a,b)=(x,y)))) X:=by
 by_cases h1:a=x
 ·by_cases h2:b=y
  ·simp[go_sem,h1,h2]
  ·simp[go_sem,h1,h2]
 ·simp[go_sem,h1]
theorem Eo {V:List VS} {j:Nat} {v:VS} {x:Nm} {l:List D} (h:V[j]? =ζ v):bZ (V.take (j+1)) x l++V.drop (j+1)=(bZ (V.take j) x l++V.drop j).set j (if v.1=x then uk v l else v):=by
 obtain⟨hj,e⟩:=ν.1 h;have hl:(bZ (V.take j) x l).length=j:=by rw[fk,JaA];omega
 rw[List.set_append,if_neg (by omega),hl,JaP,Χ hj,List.set_cons_zero,List.take_succ_eq_append_getElem hj,e];unfold bZ;rw[List.map_append,List.append_assoc];rfl
theorem ua {α:Type} {l:List α} {i:Nat} {x:α} (h:l[i]? =ζ x):l.set i x=l:=by
 obtain⟨h1,h2⟩:=ν.1 h;rw[←h2];exact List.set_getElem_self h1
theorem JE {V:List VS} {j:Nat} {v:VS} {x:Nm} {l:List D} (h:V[j]? =ζ v):(bZ (V.take j) x l++V.drop j)[j]? =ζ v:=by
 obtain⟨hj,e⟩:=ν.1 h;have hl:(bZ (V.take j) x l).length=j:=by rw[fk,JaA];omega
 rw[List.getElem?_append_right (by omega),hl,JaP,List.getElem?_drop,Nat.add_zero,h]
def im (W:ο) (n m:Nat) (V:List VS) (E:List EC) (e:Ending) (w':ο):Prop:=
 ∃A' c' B' k' Ws,e=.returned (φ #[γ A' n c',γ B' m k'])∧aR w' A' n c' Ws B' m k' E∧Ws.map vS=V∧(∀a,A'=ζ a→W.heap.size≤a.block)∧c'≤Jap∧k'≤Jap∧σ W.heap.size W w'
theorem mv {W:ο} {A:Option Κ} {n c:Nat} {Vs:List VC} {B:Option Κ} {m k:Nat} {Es:List EC} (h:aR W A n c Vs B m k Es) {g i:Nat} {A1:Option Κ} {n1 c1:Nat} (hp:W.cell? ⟨g,i,ε⟩=ζ (γ A1 n1 c1)) (hv:∀a,A=ζ a→0<n→a.block≠g) (u:Value):aR (W.setCell ⟨g,i,ε⟩ u) A n c Vs B m k Es:=
 ⟨by rw[size_setCell];exact h.v.far_ hv u,by rw[size_setCell];exact tg h.e hp sx u,fun x hx=>vV (h.r x hx) hp u⟩
theorem pB {W:ο} {A:Option Κ} {n c:Nat} {Vs:List VC} {B:Option Κ} {m k:Nat} {Es:List EC} (h:aR W A n c Vs B m k Es) (hn:n≤1000) (hm:m≤1000) (hr:∀x∈Vs,x.2.1.2.1≤1000000) (p:Nm) (R:Rg) (hR:RgOk W R):
 Ζ η 99 #[φ #[γ A n c,γ B m k],φ #[J p.1,J p.2],γ R.1 R.2.1 R.2.2.1] W (im W n m (bZ (Vs.map vS) p R.2.2.2) Es):=by
 show Ζ _ _ _ _ fun e w'=>∃A' c' B' k' Ws,e=.returned (φ #[γ A' n c',γ B' m k'])∧aR w' A' n c' Ws B' m k' Es∧Ws.map vS=bZ (Vs.map vS) p R.2.2.2∧(∀a,A'=ζ a→W.heap.size≤a.block)∧c'≤Jap∧k'≤Jap∧σ W.heap.size W w'
 have MJ:=qh (fun X (hX:σ W.heap.size W X)=>xl A n c Vs B m k Es X (h.below hX) (by omega) (by omega) hr);have Lb:Hid ((Vs.map vS).length=n):=qh (by rw[List.length_map];exact h.v.rlen aQ (by decide));have HR:=qh hR;clear h hr hR;obtain⟨V,gV⟩:=ay (Vs.map vS);rw[gV] at MJ Lb ⊢;clear gV;go_enter Tryz.func99,Tryz.ntmps99;go_upto_region 1 with fail
 obtain⟨W0,b0,b1,b2,bP,bK,cX,dN,aN,aI,aV,a8,-,-,kQ,-,jK,-,bz,mj,oK,km⟩:=jN W 25 [γ A n c,γ B m k] 30 [J p.1,J p.2] 25 [γ ε 0 0,γ ε 0 0];rw[bP,dN,cX,bK];clear bP bK cX dN;have x0:=aN.out.cell (i:=0) rfl;have x1:=aN.out.cell (i:=1) rfl
 go_upto_region 3 with (first
  |(go_at_call 23
    refine(MJ.out _ a8.out).mono ?_
    rintro e w2 ⟨A5,c5,B5,k5,Ws,rfl,qU,Mo,fB⟩;have qk:=qh qU;have Ep:=qh Mo;have gI:=qh fB;clear qU Mo fB x0 x1))
 have qU:=qk.out;have fB:=gI.out;have HC:=qh (qU.al (δ #[γ A5 n c5,γ B5 m k5] 25)).wr;have EG:=qh (fO qU.e);have UZ:=qh (fO qU.v);have XT:=Ep;have bX:=qh (aE (af a8.out fB) (δ #[γ A5 n c5,γ B5 m k5] 25));have HX:Hid (Bx (w2.alloc (δ #[γ A5 n c5,γ B5 m k5] 25)) [(b0,25,[γ A n c,γ B m k]),(b1,30,[J p.1,J p.2]),(b2,25,[γ ε 0 0,γ ε 0 0]),(w2.heap.size,25,[γ A5 n c5,γ B5 m k5])]):=qh ⟨(aN.out.bl fB).al _,(aI.out.bl fB).al _,(aV.out.bl fB).al _,Whole.new_ w2 25 [γ A5 n c5,γ B5 m k5],trivial⟩;have vr:=qh (HR.out.bl bX.out);have P0:Hid (W.heap.size≤W0.heap.size):=qh a8.out.size;have L2o:Hid (b2<W0.heap.size):=qh aV.out.lt;clear qU fB qk gI Ep aN aI aV a8 MJ HR;obtain⟨w3,sX⟩:=ay (w2.alloc (δ #[γ A5 n c5,γ B5 m k5] 25));obtain⟨b3,p9⟩:=ay w2.heap.size;rw[sX] at HC bX HX vr ⊢;rw[p9] at HX ⊢;clear sX p9;have HU0:Hid (Ws.map vS=bZ (V.take 0) p R.2.2.2++V.drop 0):=qh (by rw[XT.out];rfl);clear XT;obtain⟨lo,Ah⟩:=ay W0.heap.size;rw[Ah] at HC P0 L2o;clear Ah;go_loopw [8] (fun vi wr=>∃(j:Nat) (Us:List VC),j≤n∧vi=J (j:Int)∧Hid (Bx wr [(b0,25,[γ A n c,γ B m k]),(b1,30,[J p.1,J p.2]),(b2,25,[γ ε 0 0,γ ε 0 0]),(b3,25,[γ A5 n c5,γ B5 m k5])])∧Hid (Wr wr lo A5 n c5 Us B5 m k5 Es)∧Hid (σ W.heap.size W wr)∧Hid (RgOk wr R)∧Hid (Us.map vS=bZ (V.take j) p R.2.2.2++V.drop j)) (fun vi _=>n - (intOf vi).toNat)
 case atStart=>exact⟨0,Ws,Jas _,rfl,HX,HC,bX,vr,HU0⟩
 case round=>
  clear HX HC bX vr HU0;obtain⟨j,Us,hj,rfl,HX,HC,HB,vr,HU⟩:=hrel;obtain⟨wo,ec⟩:=ay wr;rw[ec] at HX HC HB vr ⊢;clear ec;have c0:=HX.out.2.2.2.1.cell (i:=0) rfl
  by_cases o4:j<n
  ·have rD:(j:Int)<(n:Int):=by omega
   obtain⟨v,hv⟩:∃v,V[j]? =ζ v:=⟨_,θ (by have:=Lb.out;omega)⟩
   have LS:=JE (x:=p) (l:=R.2.2.2) hv;have OM:=Eo (x:=p) (l:=R.2.2.2) hv;rw[←HU.out,Ψ] at LS;rw[←HU.out] at OM;obtain⟨y,hy,I3⟩:=Option.map_eq_some_iff.1 LS;have hk:v.1=y.1:=congrArg (·.1) I3.symm;have HY:=qh hy;have Pn:=qh OM;have V8:=qh I3;obtain⟨bb,off,e5,bD,bM⟩:=(aJ HC.out.v).place aQ (by decide) (by omega)
   have vF:Hid (∀w',Kept aF wo.drew w'→∀i u,[J y.1.1,J y.1.2][i]? =ζ u→w'.cell? ((⟨bb,off+j*5,ε⟩:Κ).add i)=ζ u):=qh (fun w' h i u hu=>h.nil_cell (bM j _ hy i u (by
    rcases i with _|_|i
    ·exact hu
    ·exact hu
    ·simp at hu)))
   have hA5:A5=ζ ⟨bb,off,ε⟩:=e5;have hq:=jv y.1.1 y.1.2 p.1 p.2;clear hv LS OM hy I3 bM bD e5
   by_cases mO:y.1=p
   ·have HQ:=qh (fun X=>(hq X).trans (by rw[decide_eq_true (show(y.1.1,y.1.2)=(p.1,p.2) from mO)]:_=.ok (Β true) X));have HYp:=qh (hk.trans mO);clear hq mO hk;have HA5:=qh hA5;clear hA5;obtain⟨g,eg,fV,KH,-,-,-⟩:=HC.out.put HY.out o4 R vr.out
    have ZD:bb=g∧off=0:=by
     have:=HA5.out.symm.trans eg
     injection this with e1
     injection e1 with e2 e3
     exact⟨e2,e3⟩
    obtain⟨rfl,rfl⟩:=ZD;subst eg;clear fV KH HA5;go_upto_region 5 with fail
    simp only[JaI] at vF;have fv:∀w',Kept aF wo.drew w'→w'.cell? ⟨b3,0,ε⟩=ζ (γ (ζ ⟨bb,0,ε⟩) n c5):=fun w' h=>h.nil_cell (HX.out.2.2.2.1.dr.cell (i:=0) rfl)
    refine aw (aF) (by kernel_rfl) ?_;refine ag 0 ?_;refine ag 1 ?_;refine ag 2 ?_;refine ag 3 ?_;refine ag 4 ?_;refine bY 5 (hy:=bG (by rfl) 30 (.tmp 22) rfl ⟨bb,j*5,ε⟩ rfl [J y.1.1,J y.1.2] _ vF.out Tryz.underlying30 rfl (by kernel_rfl)) (h:=?_);refine bY 6 (hy:=bU (by rfl) 30 (.tmp 4) rfl b1 rfl 30 [J p.1,J p.2] _ (fun w' h=>h.whole HX.out.2.1.dr (fun h=>h)) Tryz.underlying30 rfl (by kernel_rfl)) (h:=?_);refine bY 7 (hy:=dG (by rfl) (fun w' _=>bE .eql 30 (.tmp 23) (.tmp 24) 30 rfl rfl rfl (by kernel_rfl) (HQ.out w'))) (h:=?_);refine aD (by kernel_rfl) ?_ _;intro w5 pq;have gY:σ wo.heap.size wo w5:=(Θ wo.heap.size wo).drew.trans pq;have dY:=qh (HX.out.up gY);have qk:=qh (HC.out.bl gY);have gI:=qh (af HB.out gY);have SK:=qh (vr.out.bl gY);clear pq gY HX HC HB vr fv vF c0 HQ;obtain⟨g,eg,fV,⟨cs,KH⟩,yH,Ju,jd⟩:=qk.out.put HY.out o4 R SK.out
    obtain rfl:bb=g:=by
     injection eg with e1
     injection e1
    have HW6:=qh jd
    have cu:∀q∈([(b0,25,[γ A n c,γ B m k]),(b1,30,[J p.1,J p.2]),(b2,25,[γ ε 0 0,γ ε 0 0]),(b3,25,[γ (ζ ⟨bb,0,ε⟩) n c5,γ B5 m k5])]:List (Nat × Υ × List Value)),q.1≠bb:=fun q hq=>by
     simp only[Η,Jbh,or_false] at hq;rcases hq with rfl|rfl|rfl|rfl
     ·exact dY.out.1.ne_ KH (show 25≠59 by decide)
     ·exact dY.out.2.1.ne_ KH (show 30≠59 by decide)
     ·exact dY.out.2.2.1.ne_ KH (show 25≠59 by decide)
     ·exact dY.out.2.2.2.1.ne_ KH (show 25≠59 by decide)
    have zZ:=qh (Bx.st (g:=bb) (i:=j*5+2) (γ R.1 R.2.1 R.2.2.1) dY.out cu);have kF:=qh (gI.out.setCell (p:=⟨bb,j*5+2,ε⟩) (Λ P0.out fV) (γ R.1 R.2.1 R.2.2.1));have HR6:=qh (vV SK.out yH (γ R.1 R.2.1 R.2.2.1));have k0:=dY.out.2.2.2.1.cell (i:=0) rfl;clear eg fV KH jd cu dY qk gI SK;go_upto_region 6 with fail
    go_wp2
    have Gx:Hid ((Us.set j (y.1,R,y.2.2)).map vS=bZ (V.take (j+1)) p R.2.2.2++V.drop (j+1)):=qh (by
     rw[Pn.out,List.map_set,if_pos HYp.out,←V8.out];rfl)
    go_roundw
    case rel=>exact⟨j+1,_,by omega,by go_num,zZ,HW6,kF,HR6,Gx⟩
    case measure=>simp[intOf];omega
   ·have HQ:=qh (fun X=>(hq X).trans (by rw[decide_eq_false (show ¬(y.1.1,y.1.2)=(p.1,p.2) from mO)]:_=.ok (Β ρ) X))
    have Gx:Hid (Us.map vS=bZ (V.take (j+1)) p R.2.2.2++V.drop (j+1)):=qh (by
     rw[Pn.out,if_neg (fun q=>mO (hk.symm.trans q))];exact(ua (by rw[Ψ,HY.out,Option.map_some,V8.out])).symm)
    clear hq mO hk;subst hA5;go_upto_region 5 with fail
    have fv:∀w',Kept aF wo.drew w'→w'.cell? ⟨b3,0,ε⟩=ζ (γ (ζ ⟨bb,off,ε⟩) n c5):=fun w' h=>h.nil_cell (HX.out.2.2.2.1.dr.cell (i:=0) rfl)
    refine aw (aF) (by kernel_rfl) ?_;refine ag 0 ?_;refine ag 1 ?_;refine ag 2 ?_;refine ag 3 ?_;refine ag 4 ?_;refine bY 5 (hy:=bG (by rfl) 30 (.tmp 22) rfl ⟨bb,off+j*5,ε⟩ rfl [J y.1.1,J y.1.2] _ vF.out Tryz.underlying30 rfl (by kernel_rfl)) (h:=?_);refine bY 6 (hy:=bU (by rfl) 30 (.tmp 4) rfl b1 rfl 30 [J p.1,J p.2] _ (fun w' h=>h.whole HX.out.2.1.dr (fun h=>h)) Tryz.underlying30 rfl (by kernel_rfl)) (h:=?_);refine bY 7 (hy:=dG (by rfl) (fun w' _=>bE .eql 30 (.tmp 23) (.tmp 24) 30 rfl rfl rfl (by kernel_rfl) (HQ.out w'))) (h:=?_);refine aD (by kernel_rfl) ?_ _;intro w5 pq;have gY:σ wo.heap.size wo w5:=(Θ wo.heap.size wo).drew.trans pq;have dY:=qh (HX.out.up gY);have qk:=qh (HC.out.bl gY);have gI:=qh (af HB.out gY);have SK:=qh (vr.out.bl gY);clear pq gY HX HC HB vr fv vF c0 HQ;go_wp2;go_roundw
    case rel=>exact⟨j+1,Us,by omega,by go_num,dY,qk,gI,SK,Gx⟩
    case measure=>simp[intOf];omega
  ·obtain rfl:n=j:=by omega
   have Yz:Hid (Us.map vS=bZ V p R.2.2.2):=qh (by
    have:=HU.out
    rwa [List.take_of_length_le (by have:=Lb.out;omega),Jak (by have:=Lb.out;omega),List.append_nil] at this)
   have z0:=HX.out.2.2.1.cell (i:=0) rfl;have z1:=HX.out.2.2.1.cell (i:=1) rfl;have y0:=HX.out.2.2.1.free 0;have y1:=HX.out.2.2.1.free 1;have k1:=HX.out.2.2.2.1.cell (i:=1) rfl;have Cg:=HC.out.dg
   have sY:∀a,A5=ζ a→0<n→a.block≠b2:=fun a ha _=>by
    have h1:=uw HC.out.v ha;have h2:=L2o.out;omega
   go_wp2;have hbf:=(HB.out.setCell (p:=⟨b2,0,ε⟩) bz.out (γ A5 n c5)).setCell (p:=⟨b2,1,ε⟩) bz.out (γ B5 m k5);have vP:=(HX.out.2.2.1.set_ 0 (γ A5 n c5)).cell (i:=1) rfl;exact bS rfl b2 rfl ((HX.out.2.2.1.set_ 0 _).set_ 1 _) Tryz.underlying25 rfl (by kernel_rfl) rfl ⟨A5,c5,B5,k5,rfl,Us,mv (mv Cg z0 sY _) vP sY _,Yz.out,(fun a ha=>Λ P0.out (uw HC.out.v ha).1),UZ.out,EG.out,hbf⟩
theorem Gh (A:Option Κ) (n c:Nat) (L:List D) (d:D) (w:ο) (h:aX w w.heap.size 3 A n c (aA L)) (hn:n≤1000000):
 Ζ η 35 #[γ A n c,φ #[J d.1,J d.2.1,J d.2.2]] w (IS w (mq L d) (decide (d∈L))):=by
 have HI:=qh (fun W h=>gZ A n c L d W h (by omega));have H:=qh h;have hl:=h.dlen
 by_cases hd:d∈L
 ·obtain⟨e1,e2⟩:=ib hd;rw[e1] at HI;obtain⟨k,gk⟩:=ay (L.idxOf d);have hkn:k<n:=by omega
  have hs:mq L d=L.getD ((k+n - 1) % n) (0,0,0):=by rw[mq,Mc,if_pos hd,gk,hl,show k+(n - 1)=k+n - 1 by omega]
  rw[gk] at HI e2;obtain⟨b,off,rfl,hb,hc⟩:=h.darts (by omega);have hj:(k+n - 1) % n<n:=Nat.mod_lt _ (by omega);have LD:((k:Int)+(n:Int) - 1) % (n:Int)=(((k+n - 1) % n:Nat):Int):=by rw[Int.natCast_emod];congr 1;omega
  obtain⟨j,gj⟩:=ay ((k+n - 1) % n);rw[gj] at hs hj LD;obtain⟨c1,c2,c3⟩:=hc j (by omega);obtain⟨x,gx⟩:=ay (L.getD j (0,0,0));rw[gx] at hs c1 c2 c3;rw[hs,decide_eq_true hd];have C1:=qh c1;have C2:=qh c2;have C3:=qh c3;clear hs gx gj hc hd gk e1 e2 h hl c1 c2 c3;go_enter Tryz.func35,Tryz.ntmps35
  go_wp2_with (first
   |(go_at_call 33;refine(HI.out _ (by exact H.out.up (cG _ _ _) (by simp<;>omega))).mono ?_;rintro e w2 ⟨rfl,ar⟩
     have HB:=qh (ee ar);have d1:=(HB.out.cell (p:=⟨b,off+j*3,ε⟩) hb).trans C1.out;have d2:=(HB.out.cell (p:=⟨b,off+j*3+1,ε⟩) hb).trans C2.out;have d3:=(HB.out.cell (p:=⟨b,off+j*3+2,ε⟩) hb).trans C3.out;have hz:=(Whole.new_ (w.alloc (δ #[J d.1,J d.2.1,J d.2.2] 32)) 32 [J 0,J 0,J 0]).below ar;simp only[JbF] at hz;have z0:=hz.cell (i:=0) rfl;have z1:=hz.cell (i:=1) rfl;have z2:=hz.cell (i:=2) rfl;have y0:=hz.free 0;have y1:=hz.free 1;have y2:=hz.free 2;clear ar hz))
  exact bodyPost_ret (v:=.tuple #[φ #[J x.1,J x.2.1,J x.2.2],Β true]) (by simp[results,Tryz.results35,go_sem,z0,z1,z2]) rfl ⟨rfl,((HB.out.setCell (by simp) _).setCell (by simp) _).setCell (by simp) _⟩
 ·have hs:mq L d=(0,0,0):=by rw[mq,Mc,if_neg hd]
  rw[j8 hd] at HI;rw[hs,decide_eq_false hd];clear hs h hd hl;go_enter Tryz.func35,Tryz.ntmps35
  go_wp2_with (first
   |(go_at_call 33;refine(HI.out _ (by exact H.out.up (cG _ _ _) (by simp<;>omega))).mono ?_;rintro e w2 ⟨rfl,ar⟩
     have HB:=qh (ee ar);have hz:=(Whole.new_ (w.alloc (δ #[J d.1,J d.2.1,J d.2.2] 32)) 32 [J 0,J 0,J 0]).below ar;simp only[JbF] at hz;have z0:=hz.cell (i:=0) rfl;have z1:=hz.cell (i:=1) rfl;have z2:=hz.cell (i:=2) rfl;have y0:=hz.free 0;have y1:=hz.free 1;have y2:=hz.free 2;clear ar hz))
  exact bodyPost_ret (v:=.tuple #[φ #[J 0,J 0,J 0],Β ρ]) (by simp[results,Tryz.results35,go_sem,z0,z1,z2]) rfl ⟨rfl,((HB.out.setCell (by simp) _).setCell (by simp) _).setCell (by simp) _⟩
theorem FT (L:List D) (k:Nat) (d:D):aA (L.set k d)=(((aA L).set (k*3) (J d.1)).set (k*3+1) (J d.2.1)).set (k*3+2) (J d.2.2):=by
 induction L generalizing k with
 |nil=>simp[aA]
 |cons x L ih=>
  cases k with
  |zero=>simp[aA]
  |succ k=>
   have e1:(k+1)*3=k*3+3:=by omega
   have e2:(k+1)*3+1=k*3+1+3:=by omega
   have e3:(k+1)*3+2=k*3+2+3:=by omega
   rw[e2,e3,e1];simp[aA,ih]
theorem Nw {W:ο} {B n cap g k:Nat} {e:Υ} {L:List D} {d:D} (h:W.ownsRow B e 3 (γ (ζ ⟨g,0,ε⟩) n cap) n (aA L)):
 (((W.setCell ⟨g,k*3,ε⟩ (J d.1)).setCell ⟨g,k*3+1,ε⟩ (J d.2.1)).setCell ⟨g,k*3+2,ε⟩ (J d.2.2)).ownsRow B e 3 (γ (ζ ⟨g,0,ε⟩) n cap) n (aA (L.set k d)):=by
 rw[FT];exact(((h.stored (k*3) (J d.1)).1.stored (k*3+1) (J d.2.1)).1.stored (k*3+2) (J d.2.2)).1
theorem Rt (L:List D) (k:Nat) (d:D) (h:k<L.length):L.set k d=L.take k++d::L.drop (k+1):=by
 induction L generalizing k with
 |nil=>simp at h
 |cons x L ih=>
  cases k with
  |zero=>simp
  |succ k=>simp[ih k (by simpa using h)]
def uY (L:List D) (o d:D):List D:=if o∈L∧¬d∈L then L.set (L.idxOf o) d else L
theorem LB (L:List D) (o d:D):uY L o d=fo L o d:=by
 unfold uY fo
 by_cases h:o∈L∧¬d∈L
 ·rw[if_pos h,if_pos h,Rt _ _ _ (ib h.1).2]
 ·rw[if_neg h,if_neg h]
theorem Gl (A:Option Κ) (n c:Nat) (L:List D) (a d:D) (w:ο) (h:aX w w.heap.size 3 A n c (aA L)) (hn:n≤999000):
 Ζ η 103 #[γ A n c,φ #[J a.1,J a.2.1,J a.2.2],φ #[J d.1,J d.2.1,J d.2.2]] w (sC w (aS (fo L a d))):=by
 obtain⟨i0,hi,oX,jL,kd⟩:=info_parts nA;have HI:=qh (fun x W h=>gZ A n c L x W h (by omega));have HT:=qh (fun A n c L W h hn=>mE A n c L W h hn);have HR:=qh h;have hl:=h.dlen;subst hl;rw[←LB];obtain⟨W0,bP⟩:=ay ((w.alloc (δ #[J a.1,J a.2.1,J a.2.2] 32)).alloc (δ #[J d.1,J d.2.1,J d.2.2] 32));have kx:σ w.heap.size w W0:=by rw[←bP];exact cG _ _ _
 have Wb:w.heap.size+2=W0.heap.size:=by rw[←bP];simp
 have J6:Whole W0 w.heap.size 32 (aA [a]):=by rw[←bP];exact(Whole.new_ w _ (aA [a])).alloc _
 have zF:Whole W0 (w.heap.size+1) 32 (aA [d]):=by
  rw[←bP];exact Whole.new2 (cs:=aA [d]) (by simp)
 have RY:Ow w (w.heap.size+2) 32 3 (γ (ζ ⟨W0.heap.size,0,ε⟩) 0 0) 0 [] (W0.alloc (δ #[] 32)):=Ow.new_ (e:=32) (size:=3) (cs:=#[]) kx (B:=w.heap.size+2) (by omega) (by omega) (n:=0) (Jas _) rfl;have O0:=qh RY;have R0:=qh ((HR.out.up kx kx.size).up (ax W0 (δ #[] 32)) (ax W0 (δ #[] 32)).size);have AA:=qh (Whole.alloc J6 (δ #[] 32));have DD:=qh (Whole.alloc zF (δ #[] 32));have GW:=qh bP;have DV:=qh (HI.out a);have DR:=qh (HI.out d);have tok:True:=trivial;clear h bP kx J6 zF HI Wb RY;go_enter Tryz.func103,Tryz.ntmps103;go_upto_region 1 with fail
 rw[GW.out]
 go_upto_region 2 with (first
  |(at_builtin
    refine fb rfl (.tmp 9) (.tmp 10) _ rfl _ 32 i0 _ 3 24 Tryz.underlying57 hi oX jL kd rfl (by decide) (γ (ζ ⟨W0.heap.size,0,ε⟩) 0 0) 0 [] rfl (by exact O0.out) _ A L.length c (aA L) rfl (by exact R0.out) (eH L) (by unfold Jap;omega) (by omega) ?_;intro v1 w1 fg e8;simp only[JaI,List.nil_append] at fg;have O1:=qh fg;have A1:=qh (AA.out.at_ (e8.block _ (by omega)));have D1:=qh (DD.out.at_ (e8.block _ (by omega)));clear fg e8))
 obtain⟨Av,cv,hv,hrv⟩:=O1.out.rds;subst hv;have B1:=qh O1.out.below;have a0:=A1.out.cell (i:=0) rfl;have a1:=A1.out.cell (i:=1) rfl;have a2:=A1.out.cell (i:=2) rfl;clear hrv
 by_cases ha:a∈L
 ·obtain⟨i1,i2⟩:=ib ha;rw[i1] at DV;obtain⟨k,gk⟩:=ay (L.idxOf a);rw[gk] at DV i2
  by_cases hd:d∈L
  ·have e1:uY L a d=L:=by rw[uY,if_neg (fun h=>h.2 hd)]
   obtain⟨j1,j2⟩:=ib hd;rw[j1] at DR;obtain⟨j,gj⟩:=ay (L.idxOf d);rw[gj] at DR;have E1:=qh e1;clear e1 ha hd i1 j1 j2 gk gj
   go_wp2_with (first
    |(go_at_call 33;have _t:=tok;refine(DV.out _ (by exact HR.out.up B1.out B1.out.size)).mono ?_;rintro e w2 ⟨rfl,ar⟩;have O2:=qh (O1.out.up ar);have D2:=qh (D1.out.below ar);have q0:=D2.out.cell (i:=0) rfl;have q1:=D2.out.cell (i:=1) rfl;have q2:=D2.out.cell (i:=2) rfl;clear ar tok)
    |(go_at_call 33;refine(DR.out _ (by exact HR.out.up O2.out.below O2.out.below.size)).mono ?_;rintro e w3 ⟨rfl,bC⟩;have O3:=qh (O2.out.up bC);obtain⟨A9,c9,ZW,o0⟩:=O3.out.rds;cases ZW;have R3:=qh o0;clear bC o0)
    |(go_at_call 79;refine(HT.out _ _ _ _ _ (by exact R3.out) (by omega)).mono ?_;rintro e w4 ⟨A2,c2,rfl,sw,kv,Zi⟩))
   go_ret;rw[E1.out];exact⟨A2,c2,rfl,sw,O3.out.below.trans (kv.mono O3.out.below.size),Zi⟩
  ·have e1:uY L a d=L.set k d:=by rw[uY,if_pos ⟨ha,hd⟩,gk]
   rw[j8 hd] at DR;have E1:=qh e1;clear e1 i1 gk ha hd;obtain⟨g,cap,hvv,hBg,fh⟩:=O1.out.own.form (by omega);cases hvv
   go_upto_region 4 with (first
    |(go_at_call 33;have _t:=tok;refine(DV.out _ (by exact HR.out.up B1.out B1.out.size)).mono ?_;rintro e w2 ⟨rfl,ar⟩;have O2:=qh (O1.out.up ar);have D2:=qh (D1.out.below ar);have q0:=D2.out.cell (i:=0) rfl;have q1:=D2.out.cell (i:=1) rfl;have q2:=D2.out.cell (i:=2) rfl;clear ar tok)
    |(go_at_call 33;refine(DR.out _ (by exact HR.out.up O2.out.below O2.out.below.size)).mono ?_;rintro e w3 ⟨rfl,bC⟩;have O3:=qh (O2.out.up bC);have D3:=qh (D2.out.below bC);have r0:=D3.out.cell (i:=0) rfl;have r1:=D3.out.cell (i:=1) rfl;have r2:=D3.out.cell (i:=2) rfl;clear bC))
   obtain⟨t1,t2,t3⟩:=sh L k i2;have s1:=O3.out.own.cells (g:=g) rfl _ _ t1;have s2:=O3.out.own.cells (g:=g) rfl _ _ t2;have s3:=O3.out.own.cells (g:=g) rfl _ _ t3;simp only[Addr.add_lit,JaI] at s1 s2 s3;have z1:=O3.out.own.frozenAt (k*3);have z2:=O3.out.own.frozenAt (k*3+1);have z3:=O3.out.own.frozenAt (k*3+2);go_wp2_with fail
   have OS:Hid (Ow w (w.heap.size+2) 32 3 (γ (ζ ⟨g,0,ε⟩) L.length cv) L.length (aA (L.set k d)) (((w3.setCell ⟨g,k*3,ε⟩ (J d.1)).setCell ⟨g,k*3+1,ε⟩ (J d.2.1)).setCell ⟨g,k*3+2,ε⟩ (J d.2.2))):=
    ⟨Nw O3.out.own,((O3.out.below.setCell (by show w.heap.size≤g;omega) _).setCell (by show w.heap.size≤g;omega) _).setCell (by show w.heap.size≤g;omega) _,O3.out.lo,by simpa [World.setCell] using O3.out.hi⟩
   obtain⟨A9,c9,ZW,o0⟩:=OS.out.rds;cases ZW
   refine(HT.out _ _ _ _ _ (by exact o0) (by omega)).mono ?_
   rintro e w4 ⟨A2,c2,rfl,sw,kv,Zi⟩;go_wp2;go_ret;rw[E1.out];exact⟨A2,c2,rfl,sw,OS.out.below.trans (kv.mono OS.out.below.size),Zi⟩
 ·have e1:uY L a d=L:=by rw[uY,if_neg (fun h=>ha h.1)]
  rw[j8 ha] at DV;have E1:=qh e1;clear e1 ha
  go_wp2_with (first
   |(go_at_call 33;have _t:=tok;refine(DV.out _ (by exact HR.out.up B1.out B1.out.size)).mono ?_;rintro e w2 ⟨rfl,ar⟩;have O3:=qh (O1.out.up ar);obtain⟨A9,c9,ZW,o0⟩:=O3.out.rds;cases ZW;have R3:=qh o0;clear ar tok o0)
   |(go_at_call 79;refine(HT.out _ _ _ _ _ (by exact R3.out) (by omega)).mono ?_;rintro e w4 ⟨A2,c2,rfl,sw,kv,Zi⟩))
  go_ret;rw[E1.out];exact⟨A2,c2,rfl,sw,O3.out.below.trans (kv.mono O3.out.below.size),Zi⟩
end Go.Proofs.YtpdpbfmiahjiiaaGreat
