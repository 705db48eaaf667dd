/- Several texts in one. -/
import Derived.Test.YtpdpbfmiahjiiaaGreatPsAB
import Derived.Test.YtpdpbfmiahjiiaaGreatPsAS
set_option linter.unusedSectionVars false
set_option linter.unusedSimpArgs false
set_option linter.unusedVariables false
set_option maxRecDepth 100000
set_option maxHeartbeats 16000000
namespace Go.Proofs.YtpdpbfmiahjiiaaGreat
open Go.RowKit
open _root_.Go.Value renaming slice→γ,agg→φ,bool→Β
open _root_.Go.Obj renaming cells→δ
open _root_.Option renaming none→ε,some→ζ
open _root_.Go.Proofs.Tryz renaming prog→η
open _root_.List renaming getElem?_eq_getElem→θ,getElem?_eq_some_iff→ν,mem_cons→Η,drop_eq_getElem_cons→Χ,mem_cons_of_mem→Jad,mem_cons_self→Jai,drop_of_length_le→Jak,not_mem_nil→Jbh
open _root_.Go.Act renaming put→ξ
open _root_.Go renaming World→ο,Value→ψ,Addr→Κ,TypeId→Υ,wp_region_lit→Jam,maxLen→Jap
open _root_.Bool renaming false→ρ,true→τ
open _root_.Go.RowKit renaming Below→σ
open _root_.Go.RowKit.Below renaming refl→Θ
open _root_.Nat renaming le_trans→Λ,add_zero→Jac,zero_le→Jas,lt_of_lt_of_le→JaK
open _root_.Go.Addr renaming add_lit→Ν
open _root_.Go.Builtin renaming append_→JaY
def Bx (W:ο):List (Nat × Υ × List ψ)→Prop
 |[]=>True
 |p::l=>Whole W p.1 p.2.1 p.2.2∧Bx W l
theorem Bx.up {W W':ο}:∀{l:List (Nat × Υ × List ψ)},Bx W l→σ W.heap.size W W'→Bx W' l
 |[],_,_=>trivial
 |_::_,h,hb=>⟨h.1.bl hb,Bx.up h.2 hb⟩
theorem Bx.gr {W W':ο} {lo:Nat} (hb:σ lo W W'):∀{l:List (Nat × Υ × List ψ)},Bx W l→(∀p∈l,p.1<lo)→Bx W' l
 |[],_,_=>trivial
 |p::_,h,hl=>⟨h.1.at_ (hb.block _ (hl p Jai)),Bx.gr hb h.2 (fun q hq=>hl q (Jad _ hq))⟩
theorem Bx.st {W:ο} {g i:Nat} (u:ψ):∀{l:List (Nat × Υ × List ψ)},Bx W l→(∀p∈l,p.1≠g)→Bx (W.setCell ⟨g,i,ε⟩ u) l
 |[],_,_=>trivial
 |p::_,h,hl=>⟨h.1.set_far' (hl p Jai) u,Bx.st u h.2 (fun q hq=>hl q (Jad _ hq))⟩
def addK {α:Type} (nm:α→Nm) (x:α):Bool→List α→List α
 |p,[]=>if p=τ then[] else[x]
 |p,y::l=>(if p=ρ∧dW (nm x) (nm y)<0 then[x] else[])++(y::addK nm x (p||decide (dW (nm x) (nm y)<0)) l)
theorem addK_yes {α:Type} (nm:α→Nm) (x:α):∀l:List α,addK nm x τ l=l
 |[]=>rfl
 |y::l=>by
  show(if τ=ρ∧_ then[x] else[])++(y::addK nm x (τ||_) l)=y::l
  rw[if_neg (by simp),Bool.true_or,addK_yes nm x l];rfl
theorem addK_no {α:Type} (nm:α→Nm) (x:α):∀l:List α,addK nm x ρ l=kq nm l x
 |[]=>rfl
 |y::l=>by
  show(if ρ=ρ∧dW (nm x) (nm y)<0 then[x] else[])++(y::addK nm x (ρ||decide (dW (nm x) (nm y)<0)) l)=if dW (nm x) (nm y)<0 then x::y::l else y::kq nm l x
  by_cases h:dW (nm x) (nm y)<0
  ·rw[if_pos ⟨rfl,h⟩,decide_eq_true h,Bool.or_true,addK_yes,if_pos h];rfl
  ·rw[if_neg (fun q=>h q.2),decide_eq_false h,Bool.or_false,addK_no nm x l,if_neg h];rfl
theorem pushV {w W:ο} {lo:Nat} {A:Option Κ} {n c:Nat} {T:List VC} (iC:Ow w lo 59 5 (γ A n c) n (ah vC T) W) (x:VC) (hn:n≤2000):
 ∃A' c' W',(JaY #[22,22] 22 #[γ A n c,γ (ζ ⟨W.heap.size,0,ε⟩) 1 1]).run η (W.alloc (δ (vC x).toArray 59))=.ok (γ A' (n+1) c') W'∧Ow w lo 59 5 (γ A' (n+1) c') (n+1) (ah vC (T++[x])) W'∧σ lo W W':=by
 obtain⟨i,hi,qJ,ly,kK⟩:=aW lP;obtain⟨v',W',bV,ho,hb⟩:=Ow.app (P:=η) 22 22 59 i _ 5 64 lo Tryz.underlying22 hi qJ ly kK rfl (by decide) _ _ _ (iC.up (az W (δ (vC x).toArray 59))) _ _ 1 1 _ (bg.of_whole (Whole.new_ W 59 (vC x)) rfl) (nQ x) (by unfold Jap;omega) (by omega);rw[show ah vC T++vC x=ah vC (T++[x]) by rw[bY];simp[ah]] at ho;obtain⟨A',c',rfl,-⟩:=ho.rds;exact⟨A',c',W',bV,ho,((az W _).mono iC.hi).trans hb⟩
theorem pushE {w W:ο} {lo:Nat} {A:Option Κ} {n c:Nat} {T:List EC} (iC:Ow w lo 67 4 (γ A n c) n (ah eC T) W) (x:EC) (hn:n≤2000):
 ∃A' c' W',(JaY #[23,23] 23 #[γ A n c,γ (ζ ⟨W.heap.size,0,ε⟩) 1 1]).run η (W.alloc (δ (eC x).toArray 67))=.ok (γ A' (n+1) c') W'∧Ow w lo 67 4 (γ A' (n+1) c') (n+1) (ah eC (T++[x])) W'∧σ lo W W':=by
 obtain⟨i,hi,qJ,ly,kK⟩:=aW pK;obtain⟨v',W',bV,ho,hb⟩:=Ow.app (P:=η) 23 23 67 i _ 4 40 lo Tryz.underlying23 hi qJ ly kK rfl (by decide) _ _ _ (iC.up (az W (δ (eC x).toArray 67))) _ _ 1 1 _ (bg.of_whole (Whole.new_ W 67 (eC x)) rfl) (nr x) (by unfold Jap;omega) (by omega);rw[show ah eC T++eC x=ah eC (T++[x]) by rw[bY];simp[ah]] at ho;obtain⟨A',c',rfl,-⟩:=ho.rds;exact⟨A',c',W',bV,ho,((az W _).mono iC.hi).trans hb⟩
theorem raddV_any {W:ο} {A:Option Κ} {n c:Nat} {Vs:List VC} {B:Option Κ} {m k:Nat} {Es:List EC} (h:bz W A n c Vs B m k Es) (x:VC) (hn:n≤1000):
 Calls η 46 #[φ #[γ A n c,γ B m k],φ (vC x).toArray] W fun e w'=>∃A' n' c',e=.returned (φ #[γ A' n' c',γ B m k])∧bg w' w'.heap.size 5 A' n' c' (ah vC (kq (fun v:VC=>v.1) Vs x))∧c'≤Jap∧σ W.heap.size W w':=by
 obtain⟨iv,hiv,ag3,af0,adP⟩:=aW lP;have H:=qh h.v;have HL:=qh (h.v.rlen aS (by decide));clear h;go_enter Tryz.func46,Tryz.ntmps46;go_upto_region 1 with fail
 obtain⟨W0,b0,b1,b2,bO,bp,dE,jc,aQ,aL,aZ,bw,-,-,oa,-,iP,-,eI,uW,RA,tU⟩:=Bs W 25 [γ A n c,γ B m k] 59 (vC x) 25 [γ ε 0 0,γ ε 0 0];rw[bO,jc,dE,bp];clear bO bp dE jc;have c0:=aQ.out.cell (i:=1) rfl;go_upto_region 2 with fail
 have bB:=qh (aI bw.out (δ #[γ ε 0 0,γ B m k] 25));have HX:Hid (Bx (W0.alloc (δ #[γ ε 0 0,γ B m k] 25)) [(b0,25,[γ A n c,γ B m k]),(b1,59,vC x),(b2,25,[γ ε 0 0,γ ε 0 0])]):=qh ⟨aQ.out.al _,aL.out.al _,aZ.out.al _,trivial⟩;have H3:=qh (Whole.new_ W0 25 [γ ε 0 0,γ B m k])
 have HLt:Hid (∀p∈[(b0,25,[γ A n c,γ B m k]),(b1,59,vC x),(b2,25,[γ ε 0 0,γ ε 0 0])],p.1<W0.heap.size+1∧p.1≠W0.heap.size):=qh (fun p hp=>by
  have h0:=aQ.out.lt;have h1:=aL.out.lt;have h2:=aZ.out.lt;simp only[Η,Jbh,or_false] at hp;rcases hp with rfl|rfl|rfl
  ·exact⟨by show b0<_;omega,by show b0≠_;omega⟩
  ·exact⟨by show b1<_;omega,by show b1≠_;omega⟩
  ·exact⟨by show b2<_;omega,by show b2≠_;omega⟩)
 have PC:Hid (Ow W (W0.heap.size+1) 59 5 (γ ε 0 0) 0 (ah vC []) (W0.alloc (δ #[γ ε 0 0,γ B m k] 25))):=qh ⟨World.ownsRow_nil _ _ _ _,bB.out,Λ bw.out.size (Nat.le_succ _),by simp⟩;have LW:Hid (W.heap.size≤W0.heap.size+1):=qh (Λ bw.out.size (Nat.le_succ _));have Lb3:Hid (W.heap.size≤W0.heap.size):=qh bw.out.size;have L3:Hid (W0.heap.size<W0.heap.size+1):=qh (Nat.lt_succ_self _);obtain⟨lo,Su⟩:=aB (W0.heap.size+1);obtain⟨w3,gw3⟩:=aB (W0.alloc (δ #[γ ε 0 0,γ B m k] 25));obtain⟨b3,Z6⟩:=aB W0.heap.size;rw[gw3] at HX H3 PC ⊢;rw[Su] at HLt PC LW L3;rw[Z6] at H3 HLt Lb3 L3 ⊢;have KT:Hid (kq (fun v:VC=>v.1) Vs x=[]++addK (fun v:VC=>v.1) x ρ (Vs.drop 0)):=qh (addK_no _ _ _).symm;clear gw3 Su Z6 aQ aL aZ bw bB c0;have L2:Hid (b2<lo):=qh (HLt.out (b2,25,[γ ε 0 0,γ ε 0 0]) (by simp)).1;go_upto_region 4 with fail
 go_loopw [6,7] (fun vp vi wr=>∃(j:Nat) (p:Bool) (A2:Option Κ) (n2 c2:Nat) (T:List VC),j≤n∧n2≤j+1∧(p=ρ→n2≤j)∧vp=Β p∧vi=J (j:Int)∧Hid (Bx wr [(b0,25,[γ A n c,γ B m k]),(b1,59,vC x),(b2,25,[γ ε 0 0,γ ε 0 0])])∧Hid (Whole wr b3 25 [γ A2 n2 c2,γ B m k])∧Hid (Ow W lo 59 5 (γ A2 n2 c2) n2 (ah vC T) wr)∧Hid (kq (fun v:VC=>v.1) Vs x=T++addK (fun v:VC=>v.1) x p (Vs.drop j))) (fun _ vi _=>n - (intOf vi).toNat)
 case atStart=>exact⟨0,ρ,ε,0,0,[],Jas _,Jas _,fun _=>Jas _,rfl,rfl,HX,H3,PC,KT⟩
 case round=>
  clear HX H3 PC KT;obtain⟨j,p,A2,n2,c2,T,hj,SG,hn2p,rfl,rfl,HX,H3,HO,HN⟩:=hrel;obtain⟨wo,cS⟩:=aB wr;rw[cS] at HX H3 HO ⊢;clear cS;have c0:=HX.out.1.cell (i:=0) rfl
  by_cases nT:j<n
  ·have ya:(j:Int)<(n:Int):=by omega
   obtain⟨y,hy⟩:∃y,Vs[j]? =ζ y:=⟨_,θ (by have:=HL.out;omega)⟩
   have Xc:Hid (kq (fun v:VC=>v.1) Vs x=T++((if p=ρ∧dW x.1 y.1<0 then[x] else[])++(y::addK (fun v:VC=>v.1) x (p||decide (dW x.1 y.1<0)) (Vs.drop (j+1))))):=qh (by
    have:=HN.out
    rw[Χ (ν.1 hy).1,(ν.1 hy).2] at this;exact this)
   obtain⟨bb,off,rfl,aY,a8⟩:=H.out.place aS (by decide) (by omega);have L0_:=qh (by have q:=a8 j _ hy 0 _ rfl;simp only[Ν,Jac] at q;exact q);have L1_:=qh (by have q:=a8 j _ hy 1 _ rfl;simp only[Ν,Jac] at q;exact q);have HP:=qh (a8 j _ hy);obtain⟨o,go⟩:=aB (dW x.1 y.1);have HOr:Hid (∀X,Calls η 71 #[φ #[J x.1.1,J x.1.2],φ #[J y.1.1,J y.1.2]] X fun e w'=>e=.returned (J o)∧σ X.heap.size X w'):=qh (fun X=>go▸vy x.1.1 x.1.2 y.1.1 y.1.2 X);rw[go] at Xc;clear hy a8 go HN;go_upto_region 6 with fail
   go_cut [31] (fun v z=>∃b:Bool,v=Β b∧Hid (b=(!p && decide (o<0)))∧Hid (σ wo.heap.size wo z))
   case first=>
    clear c0;cases p with
    |true=>
     refine ay (aO) (by kernel_rfl) ?_;refine aa 0 ?_;refine aa 1 ?_;refine aa 2 ?_;refine cp 3 ?_;refine cp 4 ?_;refine cp 5 ?_;refine cp 6 ?_;refine cp 7 ?_;refine cp 8 ?_;refine cp 9 ?_;refine cp 10 ?_;refine cp 11 ?_;refine cp 12 ?_;refine aa 13 ?_;refine aF (by kernel_rfl) ?_ _;intro w8 cg;go_wp2;go_meet;exact⟨ρ,rfl,qh rfl,qh (ag (aN (Θ _ wo)) cg)⟩
    |false=>
     have s6:∀w',Kept aO wo.drew w'→w'.cell? ⟨b1,0,ε⟩=ζ (J x.1.1):=fun w' h=>h.nil_cell (HX.out.2.1.dr.cell (i:=0) rfl)
     have sX:∀w',Kept aO wo.drew w'→w'.cell? ⟨b1,1,ε⟩=ζ (J x.1.2):=fun w' h=>h.nil_cell (HX.out.2.1.dr.cell (i:=1) rfl)
     have fL:∀w',Kept aO wo.drew w'→w'.cell? ⟨b0,0,ε⟩=ζ (γ (ζ ⟨bb,off,ε⟩) n c):=fun w' h=>h.nil_cell (HX.out.1.dr.cell (i:=0) rfl)
     have ly0:∀w',Kept aO wo.drew w'→w'.cell? ⟨bb,off+j*5,ε⟩=ζ (J y.1.1):=fun w' h=>h.nil_cell ((HO.out.below.cell (p:=⟨bb,off+j*5,ε⟩) aY).trans L0_.out)
     have ly1:∀w',Kept aO wo.drew w'→w'.cell? ⟨bb,off+j*5+1,ε⟩=ζ (J y.1.2):=fun w' h=>h.nil_cell ((HO.out.below.cell (p:=⟨bb,off+j*5+1,ε⟩) aY).trans L1_.out)
     refine ay (aO) (by kernel_rfl) ?_;refine aa 0 ?_;refine aa 1 ?_;refine aa 2 ?_;refine aa 3 ?_;refine aa 4 ?_;refine aa 5 ?_;refine aa 6 ?_;refine aa 7 ?_;refine aa 8 ?_;refine aa 9 ?_;refine aa 10 ?_;refine cV 11 (hy:=by apply bP;rfl;rotate_left;intro w' aC;exact HOr.out w';intro w';go_simp) (h:=?_);refine aa 12 ?_;refine aa 13 ?_;refine aF (by kernel_rfl) ?_ _;intro w8 cg;go_wp2;go_meet;exact⟨decide (o<0),rfl,qh (by simp),qh (ag (aN (Θ _ wo)) cg)⟩
   case rest=>
    obtain⟨b,rfl,hb,hz⟩:=hcut;have KQ:=qh (HO.out.up hz.out);have eY:=qh (HX.out.up hz.out);have H34:=qh (H3.out.bl hz.out)
    have hbp:b=τ→p=ρ:=fun h=>by
     have e:=hb.out;rw[h] at e;cases p with
     |true=>cases e
     |false=>rfl
    have KL:Hid (kq (fun v:VC=>v.1) Vs x=(T++if b=τ then[x] else[])++(y::addK (fun v:VC=>v.1) x (p||b) (Vs.drop (j+1)))):=qh (by
     have e:=hb.out;have h:=Xc.out;cases p with
     |true=>
      rw[e,h,if_neg (by simp)];simp
     |false=>
      by_cases ho:o<0
      ·rw[if_pos ⟨rfl,ho⟩] at h;rw[e,h,decide_eq_true ho];simp
      ·rw[if_neg (fun q=>ho q.2)] at h;rw[e,h,decide_eq_false ho];simp)
    clear hz hb Xc HO HX H3 HOr c0;go_upto_if 31 with fail
    go_cut [6] (fun vp z=>∃(A3:Option Κ) (n3 c3:Nat) (T3:List VC),vp=Β (p||b)∧n3≤j+1∧((p||b)=ρ→n3≤j)∧Hid (Bx z [(b0,25,[γ (ζ ⟨bb,off,ε⟩) n c,γ B m k]),(b1,59,vC x),(b2,25,[γ ε 0 0,γ ε 0 0])])∧Hid (Whole z b3 25 [γ A3 n3 c3,γ B m k])∧Hid (Ow W lo 59 5 (γ A3 n3 c3) n3 (ah vC T3) z)∧Hid (kq (fun v:VC=>v.1) Vs x=T3++(y::addK (fun v:VC=>v.1) x (p||b) (Vs.drop (j+1)))))
    case first=>
     cases b with
     |false=>
      have VN:=KL;go_wp2_with fail
      go_meet;exact⟨A2,n2,c2,T,by simp,SG,(fun h=>hn2p (by simpa using h)),eY,H34,KQ,qh (by have:=VN.out;simpa using this)⟩
     |true=>
      have hp0:=hbp rfl;subst hp0;have hn2j:=hn2p rfl;clear hbp hn2p;obtain⟨A3,c3,W3,bV,Xf,bA⟩:=pushV KQ.out x (by omega);have Ck:=qh Xf;have H33:=qh (H34.out.at_ (bA.block _ L3.out));have cF:=qh (Bx.gr bA eY.out (fun p hp=>(HLt.out p hp).1));clear Xf bA;have k0:=H34.out.cell (i:=0) rfl;go_upto_region 7 with fail
      refine Jam ?_;refine a7 (v:=?_) (ζ 32) rfl (by rfl) ?_ ?_;rotate_left
      ·go_simp;(try with_reducible rfl)
      simp only[ξ,aw,ar,aq];refine a7 (v:=?_) (ζ 33) rfl (by rfl) ?_ ?_;rotate_left
      ·go_simp;(try with_reducible rfl)
      simp only[ξ,aw,ar,aq];refine eJ (ζ 34) rfl (by rfl) 59 (.tmp 3) rfl b1 rfl 59 (vC x) _ eY.out.2.1 Tryz.underlying59 rfl (by kernel_rfl) ?_;simp only[ξ,aw,ar,aq];clear k0;refine gS (ζ 35) rfl (by rfl) 22 59 1 #[(0,.tmp 34)] (by rfl) Tryz.underlying22 (vC x).toArray (by kernel_rfl) ?_;simp only[ξ,aw,ar,aq];refine pC (ζ 36) rfl (by rfl) (dt (by rfl) (by rfl) (by rfl) bV) ?_;simp only[ξ,aw,ar,aq];clear bV;have k1:=H33.out.cell (i:=0) rfl;have f1:=H33.out.free 0;go_upto_region 8 with fail
      have BE:=qh (Ck.out.set_far (Ck.out.low_ne L3.out) Lb3.out (γ A3 (n2+1) c3) (i:=0));have H35:=qh (H33.out.set_ 0 (γ A3 (n2+1) c3));have oK:=qh (Bx.st (γ A3 (n2+1) c3) (i:=0) cF.out (fun p hp=>(HLt.out p hp).2));clear Ck H33 cF k1 f1;obtain⟨W5,sC⟩:=aB (W3.setCell ⟨b3,0,ε⟩ (γ A3 (n2+1) c3));rw[sC] at BE H35 oK ⊢;clear sC;have VN:=KL;go_wp2_with fail
      go_meet;exact⟨A3,n2+1,c3,T++[x],rfl,by omega,(fun h=>by cases h),oK,H35,BE,qh (by have:=VN.out;simpa using this)⟩
    case rest=>
     obtain⟨A2,n2,c2,T,rfl,SG,hn2p,HX,H3,HO,HN5⟩:=hcut;obtain⟨wo,cS⟩:=aB wc;rw[cS] at HX H3 HO ⊢;clear cS KL KQ eY H34 hbp;obtain⟨p2,gp2⟩:=aB ((p||b));rw[gp2] at HN5 hn2p ⊢;clear gp2;go_upto_region 9 with fail
     have fL:∀w',Kept (cw lo) wo.drew w'→w'.cell? ⟨b3,0,ε⟩=ζ (γ A2 n2 c2):=fun w' hk=>hk.from_cell L3.out (H3.out.dr.cell (i:=0) rfl)
     have ld1:∀w',Kept (cw lo) wo.drew w'→w'.cell? ⟨b0,0,ε⟩=ζ (γ (ζ ⟨bb,off,ε⟩) n c):=fun w' hk=>hk.from_cell (HLt.out _ Jai).1 (HX.out.1.dr.cell (i:=0) rfl)
     have ZP:Hid (∀w',Kept (cw lo) wo.drew w'→∀i u,(vC y)[i]? =ζ u→w'.cell? ((⟨bb,off+j*5,ε⟩:Κ).add i)=ζ u):=qh (fun w' hk i u hu=>hk.from_cell (by rw[en];exact JaK aY LW.out) ((HO.out.below.cell (by rw[en];exact aY)).trans (HP.out i u hu)));refine cI (cw lo) [10] (by kernel_rfl) ?_;refine aU 0 ?_;refine aU 1 ?_;refine aU 2 ?_;refine aU 3 ?_;refine aU 4 ?_;refine aU 5 ?_;refine S4 6 (hy:=nS (by rfl) 59 (.tmp 43) rfl ⟨bb,off+j*5,ε⟩ rfl (vC y) _ ZP.out Tryz.underlying59 rfl (by kernel_rfl)) (h:=?_);refine lM 7 ?_;intro w' aC
     refine⟨γ (ζ ⟨w'.heap.size,0,ε⟩) 1 1,w'.alloc (δ (vC y).toArray 59),gW 22 59 1 #[(0,.tmp 44)] (by rfl) Tryz.underlying22 _ (by kernel_rfl),Kept.of_below (az _ _),?_⟩
     have HXd:Hid (Ext wo.drew (w'.alloc (δ (vC y).toArray 59))):=qh (Ext.trans aC (az _ _));have Je:Hid (bg (w'.alloc (δ (vC y).toArray 59)) (w'.alloc (δ (vC y).toArray 59)).heap.size 5 (ζ ⟨w'.heap.size,0,ε⟩) 1 1 (vC y)):=qh (bg.of_whole (Whole.new_ _ _ _) rfl);obtain⟨V3,Oi⟩:=aB (w'.alloc (δ (vC y).toArray 59));obtain⟨g3,Sz⟩:=aB w'.heap.size;rw[Oi] at HXd Je ⊢;rw[Sz] at Je ⊢;clear aC Oi Sz;simp only[ξ,aw,ar,aq];refine lM 8 ?_;intro w' aC;have hx:=(Θ wo.heap.size wo).drew.trans (Ext.trans HXd.out aC);obtain⟨v8,bW,bV,ho,D9⟩:=Ow.app (P:=η) 22 22 59 iv _ 5 64 lo Tryz.underlying22 hiv ag3 af0 adP rfl (by decide) _ _ _ (HO.out.up hx) _ _ 1 1 _ (Je.out.bl aC) (nQ y) (by unfold Jap;omega) (by omega);rw[show ah vC T++vC y=ah vC (T++[y]) by rw[bY];simp[ah]] at ho;obtain⟨A3,c3,rfl,-⟩:=ho.rds
     refine⟨_,bW,dt (by rfl) (by rfl) (by rfl) bV,Kept.of_from D9,?_⟩
     have Ck:=qh ho;have H33:=qh ((H3.out.bl hx).at_ (D9.block _ L3.out));have cF:=qh (Bx.gr D9 (HX.out.up hx) (fun p hp=>(HLt.out p hp).1));obtain⟨V4,Te⟩:=aB bW;rw[Te] at Ck H33 cF ⊢;clear aC hx bV ho D9 Te HXd Je;simp only[ξ,aw,ar,aq];refine aU 9 ?_;refine qu 10 ?_;intro w' aC;have DO:=(H33.out.bl aC).cell (i:=0) rfl;have oH:=(H33.out.bl aC).free 0
     refine⟨w'.setCell ⟨b3,0,ε⟩ (γ A3 (n2+1) c3),?_,?_⟩
     ·go_simp;first|done|exact rfl
     have KQ:=qh ((Ck.out.up aC).set_far ((Ck.out.up aC).low_ne L3.out) Lb3.out (γ A3 (n2+1) c3) (i:=0));have H34:=qh ((H33.out.bl aC).set_ 0 (γ A3 (n2+1) c3));have eY:=qh (Bx.st (γ A3 (n2+1) c3) (i:=0) (cF.out.up aC) (fun p hp=>(HLt.out p hp).2));obtain⟨V5,gV5⟩:=aB (w'.setCell ⟨b3,0,ε⟩ (γ A3 (n2+1) c3));rw[gV5] at KQ H34 eY ⊢;clear aC DO oH gV5 Ck H33 cF;(try simp only[ξ,aw,ar,aq]);refine gG (by kernel_rfl) ?_ _;intro w8 cg;have XW:=qh (KQ.out.up cg);have ue:=qh (eY.out.up cg);have H38:=qh (H34.out.bl cg);have HN8:Hid (kq (fun v:VC=>v.1) Vs x=(T++[y])++addK (fun v:VC=>v.1) x p2 (Vs.drop (j+1))):=qh (by rw[HN5.out];simp);clear cg HO HX H3 KQ eY H34 fL ld1 ZP HN5;go_wp2;go_roundw
     case rel=>exact⟨j+1,p2,A3,n2+1,c3,T++[y],by omega,by omega,(fun h=>by have:=hn2p h;omega),rfl,by go_num,ue,H38,XW,HN8⟩
     case measure=>simp[intOf];omega
  ·obtain rfl:n=j:=by omega
   have hN:=HN.out;rw[Jak (by have:=HL.out;omega)] at hN;cases p with
   |true=>
    have HT:Hid (kq (fun v:VC=>v.1) Vs x=T):=qh (by rw[hN];show T++(if τ=τ then[] else[x])=T;simp);have z0:=HX.out.2.2.1.cell (i:=0) rfl;have z1:=HX.out.2.2.1.cell (i:=1) rfl;have y0:=HX.out.2.2.1.free 0;have y1:=HX.out.2.2.1.free 1;have k0:=H3.out.cell (i:=0) rfl;have k1:=H3.out.cell (i:=1) rfl;clear hN HN;have bj:=HO.out.low_ne L2.out;go_wp2;exact dO rfl b2 rfl ((HX.out.2.2.1.set_ 0 _).set_ 1 _) Tryz.underlying25 rfl (by kernel_rfl) rfl ⟨A2,n2,c2,rfl,by rw[HT.out];exact aK ((HO.out.set_far bj eI.out _ (i:=0)).set_far bj eI.out _ (i:=1)).own,nB HO.out.own,(HO.out.below.setCell (p:=⟨b2,0,ε⟩) eI.out _).setCell (p:=⟨b2,1,ε⟩) eI.out _⟩
   |false=>
    have HT:Hid (kq (fun v:VC=>v.1) Vs x=T++[x]):=qh (by rw[hN];rfl);clear hN HN;obtain⟨A3,c3,W3,bV,Xf,bA⟩:=pushV HO.out x (by omega);have Ck:=qh Xf;have H33:=qh (H3.out.at_ (bA.block _ L3.out));have cF:=qh (Bx.gr bA HX.out (fun p hp=>(HLt.out p hp).1));clear Xf bA;have k0:=H3.out.cell (i:=0) rfl;go_upto_region 11 with fail
    refine Jam ?_;refine a7 (v:=?_) (ζ 50) rfl (by rfl) ?_ ?_;rotate_left
    ·go_simp;(try with_reducible rfl)
    simp only[ξ,aw,ar,aq];refine a7 (v:=?_) (ζ 51) rfl (by rfl) ?_ ?_;rotate_left
    ·go_simp;(try with_reducible rfl)
    simp only[ξ,aw,ar,aq];refine eJ (ζ 52) rfl (by rfl) 59 (.tmp 3) rfl b1 rfl 59 (vC x) _ HX.out.2.1 Tryz.underlying59 rfl (by kernel_rfl) ?_;simp only[ξ,aw,ar,aq];clear k0;refine gS (ζ 53) rfl (by rfl) 22 59 1 #[(0,.tmp 52)] (by rfl) Tryz.underlying22 (vC x).toArray (by kernel_rfl) ?_;simp only[ξ,aw,ar,aq];refine pC (ζ 54) rfl (by rfl) (dt (by rfl) (by rfl) (by rfl) bV) ?_;simp only[ξ,aw,ar,aq];clear bV;have k1:=H33.out.cell (i:=0) rfl;have f1:=H33.out.free 0;go_upto_region 12 with fail
    have BE:=qh (Ck.out.set_far (Ck.out.low_ne L3.out) Lb3.out (γ A3 (n2+1) c3) (i:=0));have H35:=qh (H33.out.set_ 0 (γ A3 (n2+1) c3));have oK:=qh (Bx.st (γ A3 (n2+1) c3) (i:=0) cF.out (fun p hp=>(HLt.out p hp).2));clear Ck H33 cF k1 f1;obtain⟨W5,sC⟩:=aB (W3.setCell ⟨b3,0,ε⟩ (γ A3 (n2+1) c3));rw[sC] at BE H35 oK ⊢;clear sC;have z0:=oK.out.2.2.1.cell (i:=0) rfl;have z1:=oK.out.2.2.1.cell (i:=1) rfl;have y0:=oK.out.2.2.1.free 0;have bj:=BE.out.low_ne L2.out;have y1:=oK.out.2.2.1.free 1;have k0:=H35.out.cell (i:=0) rfl;have k1:=H35.out.cell (i:=1) rfl;go_wp2;exact dO rfl b2 rfl ((oK.out.2.2.1.set_ 0 _).set_ 1 _) Tryz.underlying25 rfl (by kernel_rfl) rfl ⟨A3,n2+1,c3,rfl,by rw[HT.out];exact aK ((BE.out.set_far bj eI.out _ (i:=0)).set_far bj eI.out _ (i:=1)).own,nB BE.out.own,(BE.out.below.setCell (p:=⟨b2,0,ε⟩) eI.out _).setCell (p:=⟨b2,1,ε⟩) eI.out _⟩
theorem raddE_any {W:ο} {A:Option Κ} {n c:Nat} {Vs:List VC} {B:Option Κ} {m k:Nat} {Es:List EC} (h:bz W A n c Vs B m k Es) (x:EC) (hn:m≤1000):
 Calls η 73 #[φ #[γ A n c,γ B m k],φ (eC x).toArray] W fun e w'=>∃A' n' c',e=.returned (φ #[γ A n c,γ A' n' c'])∧bg w' w'.heap.size 4 A' n' c' (ah eC (kq (fun v:EC=>v.1) Es x))∧c'≤Jap∧σ W.heap.size W w':=by
 obtain⟨iv,hiv,ag3,af0,adP⟩:=aW pK;have H:=qh h.e;have HL:=qh (h.e.rlen bM (by decide));clear h;go_enter Tryz.func73,Tryz.ntmps73;go_upto_region 1 with fail
 obtain⟨W0,b0,b1,b2,bO,bp,dE,jc,aQ,aL,aZ,bw,-,-,oa,-,iP,-,eI,uW,RA,tU⟩:=Bs W 25 [γ A n c,γ B m k] 67 (eC x) 25 [γ ε 0 0,γ ε 0 0];rw[bO,jc,dE,bp];clear bO bp dE jc;have c0:=aQ.out.cell (i:=0) rfl;go_upto_region 2 with fail
 have bB:=qh (aI bw.out (δ #[γ A n c,γ ε 0 0] 25));have HX:Hid (Bx (W0.alloc (δ #[γ A n c,γ ε 0 0] 25)) [(b0,25,[γ A n c,γ B m k]),(b1,67,eC x),(b2,25,[γ ε 0 0,γ ε 0 0])]):=qh ⟨aQ.out.al _,aL.out.al _,aZ.out.al _,trivial⟩;have H3:=qh (Whole.new_ W0 25 [γ A n c,γ ε 0 0])
 have HLt:Hid (∀p∈[(b0,25,[γ A n c,γ B m k]),(b1,67,eC x),(b2,25,[γ ε 0 0,γ ε 0 0])],p.1<W0.heap.size+1∧p.1≠W0.heap.size):=qh (fun p hp=>by
  have h0:=aQ.out.lt;have h1:=aL.out.lt;have h2:=aZ.out.lt;simp only[Η,Jbh,or_false] at hp;rcases hp with rfl|rfl|rfl
  ·exact⟨by show b0<_;omega,by show b0≠_;omega⟩
  ·exact⟨by show b1<_;omega,by show b1≠_;omega⟩
  ·exact⟨by show b2<_;omega,by show b2≠_;omega⟩)
 have PC:Hid (Ow W (W0.heap.size+1) 67 4 (γ ε 0 0) 0 (ah eC []) (W0.alloc (δ #[γ A n c,γ ε 0 0] 25))):=qh ⟨World.ownsRow_nil _ _ _ _,bB.out,Λ bw.out.size (Nat.le_succ _),by simp⟩;have LW:Hid (W.heap.size≤W0.heap.size+1):=qh (Λ bw.out.size (Nat.le_succ _));have Lb3:Hid (W.heap.size≤W0.heap.size):=qh bw.out.size;have L3:Hid (W0.heap.size<W0.heap.size+1):=qh (Nat.lt_succ_self _);obtain⟨lo,Su⟩:=aB (W0.heap.size+1);obtain⟨w3,gw3⟩:=aB (W0.alloc (δ #[γ A n c,γ ε 0 0] 25));obtain⟨b3,Z6⟩:=aB W0.heap.size;rw[gw3] at HX H3 PC ⊢;rw[Su] at HLt PC LW L3;rw[Z6] at H3 HLt Lb3 L3 ⊢;have KT:Hid (kq (fun v:EC=>v.1) Es x=[]++addK (fun v:EC=>v.1) x ρ (Es.drop 0)):=qh (addK_no _ _ _).symm;clear gw3 Su Z6 aQ aL aZ bw bB c0;have L2:Hid (b2<lo):=qh (HLt.out (b2,25,[γ ε 0 0,γ ε 0 0]) (by simp)).1;go_upto_region 4 with fail
 go_loopw [6,7] (fun vp vi wr=>∃(j:Nat) (p:Bool) (A2:Option Κ) (n2 c2:Nat) (T:List EC),j≤m∧n2≤j+1∧(p=ρ→n2≤j)∧vp=Β p∧vi=J (j:Int)∧Hid (Bx wr [(b0,25,[γ A n c,γ B m k]),(b1,67,eC x),(b2,25,[γ ε 0 0,γ ε 0 0])])∧Hid (Whole wr b3 25 [γ A n c,γ A2 n2 c2])∧Hid (Ow W lo 67 4 (γ A2 n2 c2) n2 (ah eC T) wr)∧Hid (kq (fun v:EC=>v.1) Es x=T++addK (fun v:EC=>v.1) x p (Es.drop j))) (fun _ vi _=>m - (intOf vi).toNat)
 case atStart=>exact⟨0,ρ,ε,0,0,[],Jas _,Jas _,fun _=>Jas _,rfl,rfl,HX,H3,PC,KT⟩
 case round=>
  clear HX H3 PC KT;obtain⟨j,p,A2,n2,c2,T,hj,SG,hn2p,rfl,rfl,HX,H3,HO,HN⟩:=hrel;obtain⟨wo,cS⟩:=aB wr;rw[cS] at HX H3 HO ⊢;clear cS;have c0:=HX.out.1.cell (i:=1) rfl
  by_cases nT:j<m
  ·have ya:(j:Int)<(m:Int):=by omega
   obtain⟨y,hy⟩:∃y,Es[j]? =ζ y:=⟨_,θ (by have:=HL.out;omega)⟩
   have Xc:Hid (kq (fun v:EC=>v.1) Es x=T++((if p=ρ∧dW x.1 y.1<0 then[x] else[])++(y::addK (fun v:EC=>v.1) x (p||decide (dW x.1 y.1<0)) (Es.drop (j+1))))):=qh (by
    have:=HN.out
    rw[Χ (ν.1 hy).1,(ν.1 hy).2] at this;exact this)
   obtain⟨bb,off,rfl,aY,a8⟩:=H.out.place bM (by decide) (by omega);have L0_:=qh (by have q:=a8 j _ hy 0 _ rfl;simp only[Ν,Jac] at q;exact q);have L1_:=qh (by have q:=a8 j _ hy 1 _ rfl;simp only[Ν,Jac] at q;exact q);have HP:=qh (a8 j _ hy);obtain⟨o,go⟩:=aB (dW x.1 y.1);have HOr:Hid (∀X,Calls η 71 #[φ #[J x.1.1,J x.1.2],φ #[J y.1.1,J y.1.2]] X fun e w'=>e=.returned (J o)∧σ X.heap.size X w'):=qh (fun X=>go▸vy x.1.1 x.1.2 y.1.1 y.1.2 X);rw[go] at Xc;clear hy a8 go HN;go_upto_region 6 with fail
   go_cut [31] (fun v z=>∃b:Bool,v=Β b∧Hid (b=(!p && decide (o<0)))∧Hid (σ wo.heap.size wo z))
   case first=>
    clear c0;cases p with
    |true=>
     refine ay (aO) (by kernel_rfl) ?_;refine aa 0 ?_;refine aa 1 ?_;refine aa 2 ?_;refine cp 3 ?_;refine cp 4 ?_;refine cp 5 ?_;refine cp 6 ?_;refine cp 7 ?_;refine cp 8 ?_;refine cp 9 ?_;refine cp 10 ?_;refine cp 11 ?_;refine cp 12 ?_;refine aa 13 ?_;refine aF (by kernel_rfl) ?_ _;intro w8 cg;go_wp2;go_meet;exact⟨ρ,rfl,qh rfl,qh (ag (aN (Θ _ wo)) cg)⟩
    |false=>
     have s6:∀w',Kept aO wo.drew w'→w'.cell? ⟨b1,0,ε⟩=ζ (J x.1.1):=fun w' h=>h.nil_cell (HX.out.2.1.dr.cell (i:=0) rfl)
     have sX:∀w',Kept aO wo.drew w'→w'.cell? ⟨b1,1,ε⟩=ζ (J x.1.2):=fun w' h=>h.nil_cell (HX.out.2.1.dr.cell (i:=1) rfl)
     have fL:∀w',Kept aO wo.drew w'→w'.cell? ⟨b0,1,ε⟩=ζ (γ (ζ ⟨bb,off,ε⟩) m k):=fun w' h=>h.nil_cell (HX.out.1.dr.cell (i:=1) rfl)
     have ly0:∀w',Kept aO wo.drew w'→w'.cell? ⟨bb,off+j*4,ε⟩=ζ (J y.1.1):=fun w' h=>h.nil_cell ((HO.out.below.cell (p:=⟨bb,off+j*4,ε⟩) aY).trans L0_.out)
     have ly1:∀w',Kept aO wo.drew w'→w'.cell? ⟨bb,off+j*4+1,ε⟩=ζ (J y.1.2):=fun w' h=>h.nil_cell ((HO.out.below.cell (p:=⟨bb,off+j*4+1,ε⟩) aY).trans L1_.out)
     refine ay (aO) (by kernel_rfl) ?_;refine aa 0 ?_;refine aa 1 ?_;refine aa 2 ?_;refine aa 3 ?_;refine aa 4 ?_;refine aa 5 ?_;refine aa 6 ?_;refine aa 7 ?_;refine aa 8 ?_;refine aa 9 ?_;refine aa 10 ?_;refine cV 11 (hy:=by apply bP;rfl;rotate_left;intro w' aC;exact HOr.out w';intro w';go_simp) (h:=?_);refine aa 12 ?_;refine aa 13 ?_;refine aF (by kernel_rfl) ?_ _;intro w8 cg;go_wp2;go_meet;exact⟨decide (o<0),rfl,qh (by simp),qh (ag (aN (Θ _ wo)) cg)⟩
   case rest=>
    obtain⟨b,rfl,hb,hz⟩:=hcut;have KQ:=qh (HO.out.up hz.out);have eY:=qh (HX.out.up hz.out);have H34:=qh (H3.out.bl hz.out)
    have hbp:b=τ→p=ρ:=fun h=>by
     have e:=hb.out;rw[h] at e;cases p with
     |true=>cases e
     |false=>rfl
    have KL:Hid (kq (fun v:EC=>v.1) Es x=(T++if b=τ then[x] else[])++(y::addK (fun v:EC=>v.1) x (p||b) (Es.drop (j+1)))):=qh (by
     have e:=hb.out;have h:=Xc.out;cases p with
     |true=>
      rw[e,h,if_neg (by simp)];simp
     |false=>
      by_cases ho:o<0
      ·rw[if_pos ⟨rfl,ho⟩] at h;rw[e,h,decide_eq_true ho];simp
      ·rw[if_neg (fun q=>ho q.2)] at h;rw[e,h,decide_eq_false ho];simp)
    clear hz hb Xc HO HX H3 HOr c0;go_upto_if 31 with fail
    go_cut [6] (fun vp z=>∃(A3:Option Κ) (n3 c3:Nat) (T3:List EC),vp=Β (p||b)∧n3≤j+1∧((p||b)=ρ→n3≤j)∧Hid (Bx z [(b0,25,[γ A n c,γ (ζ ⟨bb,off,ε⟩) m k]),(b1,67,eC x),(b2,25,[γ ε 0 0,γ ε 0 0])])∧Hid (Whole z b3 25 [γ A n c,γ A3 n3 c3])∧Hid (Ow W lo 67 4 (γ A3 n3 c3) n3 (ah eC T3) z)∧Hid (kq (fun v:EC=>v.1) Es x=T3++(y::addK (fun v:EC=>v.1) x (p||b) (Es.drop (j+1)))))
    case first=>
     cases b with
     |false=>
      have VN:=KL;go_wp2_with fail
      go_meet;exact⟨A2,n2,c2,T,by simp,SG,(fun h=>hn2p (by simpa using h)),eY,H34,KQ,qh (by have:=VN.out;simpa using this)⟩
     |true=>
      have hp0:=hbp rfl;subst hp0;have hn2j:=hn2p rfl;clear hbp hn2p;obtain⟨A3,c3,W3,bV,Xf,bA⟩:=pushE KQ.out x (by omega);have Ck:=qh Xf;have H33:=qh (H34.out.at_ (bA.block _ L3.out));have cF:=qh (Bx.gr bA eY.out (fun p hp=>(HLt.out p hp).1));clear Xf bA;have k0:=H34.out.cell (i:=1) rfl;go_upto_region 7 with fail
      refine Jam ?_;refine a7 (v:=?_) (ζ 32) rfl (by rfl) ?_ ?_;rotate_left
      ·go_simp;(try with_reducible rfl)
      simp only[ξ,aw,ar,aq];refine a7 (v:=?_) (ζ 33) rfl (by rfl) ?_ ?_;rotate_left
      ·go_simp;(try with_reducible rfl)
      simp only[ξ,aw,ar,aq];refine eJ (ζ 34) rfl (by rfl) 67 (.tmp 3) rfl b1 rfl 67 (eC x) _ eY.out.2.1 Tryz.underlying67 rfl (by kernel_rfl) ?_;simp only[ξ,aw,ar,aq];clear k0;refine gS (ζ 35) rfl (by rfl) 23 67 1 #[(0,.tmp 34)] (by rfl) Tryz.underlying23 (eC x).toArray (by kernel_rfl) ?_;simp only[ξ,aw,ar,aq];refine pC (ζ 36) rfl (by rfl) (dt (by rfl) (by rfl) (by rfl) bV) ?_;simp only[ξ,aw,ar,aq];clear bV;have k1:=H33.out.cell (i:=1) rfl;have f1:=H33.out.free 1;go_upto_region 8 with fail
      have BE:=qh (Ck.out.set_far (Ck.out.low_ne L3.out) Lb3.out (γ A3 (n2+1) c3) (i:=1));have H35:=qh (H33.out.set_ 1 (γ A3 (n2+1) c3));have oK:=qh (Bx.st (γ A3 (n2+1) c3) (i:=1) cF.out (fun p hp=>(HLt.out p hp).2));clear Ck H33 cF k1 f1;obtain⟨W5,sC⟩:=aB (W3.setCell ⟨b3,1,ε⟩ (γ A3 (n2+1) c3));rw[sC] at BE H35 oK ⊢;clear sC;have VN:=KL;go_wp2_with fail
      go_meet;exact⟨A3,n2+1,c3,T++[x],rfl,by omega,(fun h=>by cases h),oK,H35,BE,qh (by have:=VN.out;simpa using this)⟩
    case rest=>
     obtain⟨A2,n2,c2,T,rfl,SG,hn2p,HX,H3,HO,HN5⟩:=hcut;obtain⟨wo,cS⟩:=aB wc;rw[cS] at HX H3 HO ⊢;clear cS KL KQ eY H34 hbp;obtain⟨p2,gp2⟩:=aB ((p||b));rw[gp2] at HN5 hn2p ⊢;clear gp2;go_upto_region 9 with fail
     have fL:∀w',Kept (cw lo) wo.drew w'→w'.cell? ⟨b3,1,ε⟩=ζ (γ A2 n2 c2):=fun w' hk=>hk.from_cell L3.out (H3.out.dr.cell (i:=1) rfl)
     have ld1:∀w',Kept (cw lo) wo.drew w'→w'.cell? ⟨b0,1,ε⟩=ζ (γ (ζ ⟨bb,off,ε⟩) m k):=fun w' hk=>hk.from_cell (HLt.out _ Jai).1 (HX.out.1.dr.cell (i:=1) rfl)
     have ZP:Hid (∀w',Kept (cw lo) wo.drew w'→∀i u,(eC y)[i]? =ζ u→w'.cell? ((⟨bb,off+j*4,ε⟩:Κ).add i)=ζ u):=qh (fun w' hk i u hu=>hk.from_cell (by rw[en];exact JaK aY LW.out) ((HO.out.below.cell (by rw[en];exact aY)).trans (HP.out i u hu)));refine cI (cw lo) [10] (by kernel_rfl) ?_;refine aU 0 ?_;refine aU 1 ?_;refine aU 2 ?_;refine aU 3 ?_;refine aU 4 ?_;refine aU 5 ?_;refine S4 6 (hy:=nS (by rfl) 67 (.tmp 43) rfl ⟨bb,off+j*4,ε⟩ rfl (eC y) _ ZP.out Tryz.underlying67 rfl (by kernel_rfl)) (h:=?_);refine lM 7 ?_;intro w' aC
     refine⟨γ (ζ ⟨w'.heap.size,0,ε⟩) 1 1,w'.alloc (δ (eC y).toArray 67),gW 23 67 1 #[(0,.tmp 44)] (by rfl) Tryz.underlying23 _ (by kernel_rfl),Kept.of_below (az _ _),?_⟩
     have HXd:Hid (Ext wo.drew (w'.alloc (δ (eC y).toArray 67))):=qh (Ext.trans aC (az _ _));have Je:Hid (bg (w'.alloc (δ (eC y).toArray 67)) (w'.alloc (δ (eC y).toArray 67)).heap.size 4 (ζ ⟨w'.heap.size,0,ε⟩) 1 1 (eC y)):=qh (bg.of_whole (Whole.new_ _ _ _) rfl);obtain⟨V3,Oi⟩:=aB (w'.alloc (δ (eC y).toArray 67));obtain⟨g3,Sz⟩:=aB w'.heap.size;rw[Oi] at HXd Je ⊢;rw[Sz] at Je ⊢;clear aC Oi Sz;simp only[ξ,aw,ar,aq];refine lM 8 ?_;intro w' aC;have hx:=(Θ wo.heap.size wo).drew.trans (Ext.trans HXd.out aC);obtain⟨v8,bW,bV,ho,D9⟩:=Ow.app (P:=η) 23 23 67 iv _ 4 40 lo Tryz.underlying23 hiv ag3 af0 adP rfl (by decide) _ _ _ (HO.out.up hx) _ _ 1 1 _ (Je.out.bl aC) (nr y) (by unfold Jap;omega) (by omega);rw[show ah eC T++eC y=ah eC (T++[y]) by rw[bY];simp[ah]] at ho;obtain⟨A3,c3,rfl,-⟩:=ho.rds
     refine⟨_,bW,dt (by rfl) (by rfl) (by rfl) bV,Kept.of_from D9,?_⟩
     have Ck:=qh ho;have H33:=qh ((H3.out.bl hx).at_ (D9.block _ L3.out));have cF:=qh (Bx.gr D9 (HX.out.up hx) (fun p hp=>(HLt.out p hp).1));obtain⟨V4,Te⟩:=aB bW;rw[Te] at Ck H33 cF ⊢;clear aC hx bV ho D9 Te HXd Je;simp only[ξ,aw,ar,aq];refine aU 9 ?_;refine qu 10 ?_;intro w' aC;have DO:=(H33.out.bl aC).cell (i:=1) rfl;have oH:=(H33.out.bl aC).free 1
     refine⟨w'.setCell ⟨b3,1,ε⟩ (γ A3 (n2+1) c3),?_,?_⟩
     ·go_simp;first|done|exact rfl
     have KQ:=qh ((Ck.out.up aC).set_far ((Ck.out.up aC).low_ne L3.out) Lb3.out (γ A3 (n2+1) c3) (i:=1));have H34:=qh ((H33.out.bl aC).set_ 1 (γ A3 (n2+1) c3));have eY:=qh (Bx.st (γ A3 (n2+1) c3) (i:=1) (cF.out.up aC) (fun p hp=>(HLt.out p hp).2));obtain⟨V5,gV5⟩:=aB (w'.setCell ⟨b3,1,ε⟩ (γ A3 (n2+1) c3));rw[gV5] at KQ H34 eY ⊢;clear aC DO oH gV5 Ck H33 cF;(try simp only[ξ,aw,ar,aq]);refine gG (by kernel_rfl) ?_ _;intro w8 cg;have XW:=qh (KQ.out.up cg);have ue:=qh (eY.out.up cg);have H38:=qh (H34.out.bl cg);have HN8:Hid (kq (fun v:EC=>v.1) Es x=(T++[y])++addK (fun v:EC=>v.1) x p2 (Es.drop (j+1))):=qh (by rw[HN5.out];simp);clear cg HO HX H3 KQ eY H34 fL ld1 ZP HN5;go_wp2;go_roundw
     case rel=>exact⟨j+1,p2,A3,n2+1,c3,T++[y],by omega,by omega,(fun h=>by have:=hn2p h;omega),rfl,by go_num,ue,H38,XW,HN8⟩
     case measure=>simp[intOf];omega
  ·obtain rfl:m=j:=by omega
   have hN:=HN.out;rw[Jak (by have:=HL.out;omega)] at hN;cases p with
   |true=>
    have HT:Hid (kq (fun v:EC=>v.1) Es x=T):=qh (by rw[hN];show T++(if τ=τ then[] else[x])=T;simp);have z0:=HX.out.2.2.1.cell (i:=0) rfl;have z1:=HX.out.2.2.1.cell (i:=1) rfl;have y0:=HX.out.2.2.1.free 0;have y1:=HX.out.2.2.1.free 1;have k0:=H3.out.cell (i:=0) rfl;have k1:=H3.out.cell (i:=1) rfl;clear hN HN;have bj:=HO.out.low_ne L2.out;go_wp2;exact dO rfl b2 rfl ((HX.out.2.2.1.set_ 0 _).set_ 1 _) Tryz.underlying25 rfl (by kernel_rfl) rfl ⟨A2,n2,c2,rfl,by rw[HT.out];exact aK ((HO.out.set_far bj eI.out _ (i:=0)).set_far bj eI.out _ (i:=1)).own,nB HO.out.own,(HO.out.below.setCell (p:=⟨b2,0,ε⟩) eI.out _).setCell (p:=⟨b2,1,ε⟩) eI.out _⟩
   |false=>
    have HT:Hid (kq (fun v:EC=>v.1) Es x=T++[x]):=qh (by rw[hN];rfl);clear hN HN;obtain⟨A3,c3,W3,bV,Xf,bA⟩:=pushE HO.out x (by omega);have Ck:=qh Xf;have H33:=qh (H3.out.at_ (bA.block _ L3.out));have cF:=qh (Bx.gr bA HX.out (fun p hp=>(HLt.out p hp).1));clear Xf bA;have k0:=H3.out.cell (i:=1) rfl;go_upto_region 11 with fail
    refine Jam ?_;refine a7 (v:=?_) (ζ 50) rfl (by rfl) ?_ ?_;rotate_left
    ·go_simp;(try with_reducible rfl)
    simp only[ξ,aw,ar,aq];refine a7 (v:=?_) (ζ 51) rfl (by rfl) ?_ ?_;rotate_left
    ·go_simp;(try with_reducible rfl)
    simp only[ξ,aw,ar,aq];refine eJ (ζ 52) rfl (by rfl) 67 (.tmp 3) rfl b1 rfl 67 (eC x) _ HX.out.2.1 Tryz.underlying67 rfl (by kernel_rfl) ?_;simp only[ξ,aw,ar,aq];clear k0;refine gS (ζ 53) rfl (by rfl) 23 67 1 #[(0,.tmp 52)] (by rfl) Tryz.underlying23 (eC x).toArray (by kernel_rfl) ?_;simp only[ξ,aw,ar,aq];refine pC (ζ 54) rfl (by rfl) (dt (by rfl) (by rfl) (by rfl) bV) ?_;simp only[ξ,aw,ar,aq];clear bV;have k1:=H33.out.cell (i:=1) rfl;have f1:=H33.out.free 1;go_upto_region 12 with fail
    have BE:=qh (Ck.out.set_far (Ck.out.low_ne L3.out) Lb3.out (γ A3 (n2+1) c3) (i:=1));have H35:=qh (H33.out.set_ 1 (γ A3 (n2+1) c3));have oK:=qh (Bx.st (γ A3 (n2+1) c3) (i:=1) cF.out (fun p hp=>(HLt.out p hp).2));clear Ck H33 cF k1 f1;obtain⟨W5,sC⟩:=aB (W3.setCell ⟨b3,1,ε⟩ (γ A3 (n2+1) c3));rw[sC] at BE H35 oK ⊢;clear sC;have z0:=oK.out.2.2.1.cell (i:=0) rfl;have z1:=oK.out.2.2.1.cell (i:=1) rfl;have y0:=oK.out.2.2.1.free 0;have bj:=BE.out.low_ne L2.out;have y1:=oK.out.2.2.1.free 1;have k0:=H35.out.cell (i:=0) rfl;have k1:=H35.out.cell (i:=1) rfl;go_wp2;exact dO rfl b2 rfl ((oK.out.2.2.1.set_ 0 _).set_ 1 _) Tryz.underlying25 rfl (by kernel_rfl) rfl ⟨A3,n2+1,c3,rfl,by rw[HT.out];exact aK ((BE.out.set_far bj eI.out _ (i:=0)).set_far bj eI.out _ (i:=1)).own,nB BE.out.own,(BE.out.below.setCell (p:=⟨b2,0,ε⟩) eI.out _).setCell (p:=⟨b2,1,ε⟩) eI.out _⟩
end Go.Proofs.YtpdpbfmiahjiiaaGreat
