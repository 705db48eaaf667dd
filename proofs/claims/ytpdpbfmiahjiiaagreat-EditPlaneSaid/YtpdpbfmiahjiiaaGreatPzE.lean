/- Several texts in one. -/
import Derived.Test.YtpdpbfmiahjiiaaGreatPzA
import Derived.Test.YtpdpbfmiahjiiaaGreatPzB
import Derived.Test.YtpdpbfmiahjiiaaGreatPzC
import Derived.Test.YtpdpbfmiahjiiaaGreatPzD
import Derived.OwnWalkIn
import Derived.RangeFuncBound
import Derived.RangeFuncCalls
import Derived.RangeFuncLeaves
import Derived.RangeFuncNested
import Derived.WalkKit
set_option linter.unusedSectionVars false
set_option linter.unusedSimpArgs false
set_option linter.unusedVariables false
set_option maxRecDepth 100000
set_option maxHeartbeats 16000000
namespace Go.Proofs.YtpdpbfmiahjiiaaGreat
open Go.RowKit
open _root_.Go.Value renaming slice→γ,string→μ,pointer→υ,agg→φ,tuple→Ξ,slice→Ο,oneCell'→Τ
open _root_.Go.Obj renaming cells→δ
open _root_.Option renaming none→ε,some→ζ,some→Jae
open _root_.Go.Proofs.Tryz renaming prog→η
open _root_.List renaming getElem?_eq_getElem→θ,map_cons→ι,getElem?_eq_some_iff→ν,map_nil→π,getD_eq_getElem?_getD→χ,mem_of_getElem?→ω,mem_map→Α,length_append→Ε,mem_cons→Η,length_map→Ρ,all_eq_true→Φ,drop_eq_getElem_cons→Χ,range→Ω,getElem?_append_left→Jab,mem_cons_of_mem→Jad,mem_cons_self→Jai,getElem?_append_right→Jal,mem_append→Jan,mem_singleton→Jao,mem_flatMap→Jat,drop_eq_nil_of_le→Jav,length_drop→Jaz,length_take→JaA,length_cons→JaH,nodup_cons→JaJ,getElem?_drop→JaS,map_map→JaW,pairwise_map→Jbg,length_pos_of_mem→Jbk,getElem?_set→Jbz,length_set→JbD
open _root_.Go.Act renaming put→ξ
open _root_.Go renaming World→ο,Value→ψ,Calls→Ζ,Addr→Κ,TypeId→Υ
open _root_.Bool renaming false→ρ,true→τ,and_eq_true→Jar
open _root_.Go.RowKit renaming Below→σ
open _root_.Nat renaming le_refl→Δ,le_trans→Λ,zero_add→JaI,lt_of_lt_of_le→JaK,lt_or_ge→JaM,sub_self→JaP
open _root_.Go.RowKit.Below renaming refl→Θ
open _root_.Option.some renaming inj→Μ
open _root_.Array renaming getElem?_eq_some_iff→Jaa
open _root_.ByteArray renaming empty→Jaf
open _root_.Go.IntKind renaming i64→Jaw,wrap_i64→JaT
open _root_.And renaming intro→Jax
open _root_.Exists renaming intro→JaG
open _root_.Go.World renaming setCell→JbB,size_alloc→JbF
structure fZ (W:ο) (lo:Nat) (Ws:List VC):Prop where
 own:∀x∈Ws,W.ownsRow lo 32 3 (γ x.2.1.1 x.2.1.2.1 x.2.1.2.2.1) x.2.1.2.1 (aA x.2.1.2.2.2)
 rise:∀(i j:Nat) (x y:VC) (a b:Κ),i<j→Ws[i]? =ζ x→Ws[j]? =ζ y→x.2.1.1=ζ a→y.2.1.1=ζ b→a.block<b.block
structure Cl (W:ο) (lo:Nat) (A:Option Κ) (n c:Nat) (Ws:List VC) (B:Option Κ) (m k:Nat) (Es:List EC):Prop where
 v:W.ownsRow lo 59 5 (γ A n c) n (ah vC Ws)
 e:W.ownsRow lo 67 4 (γ B m k) m (ah eC Es)
 r:fZ W lo Ws
theorem Cl.dg {W:ο} {lo:Nat} {A:Option Κ} {n c:Nat} {Ws:List VC} {B:Option Κ} {m k:Nat} {Es:List EC} (h:Cl W lo A n c Ws B m k Es):bz W A n c Ws B m k Es:=
 ⟨aK h.v,aK h.e,fun x hx=>⟨nB (h.r.own x hx),aK (h.r.own x hx)⟩⟩
theorem fZ.up {W W':ο} {lo:Nat} {Ws:List VC} (h:fZ W lo Ws) (hb:σ W.heap.size W W'):fZ W' lo Ws:=
 ⟨fun x hx=>bo (h.own x hx) hb,h.rise⟩
theorem Cl.up {W W':ο} {lo:Nat} {A:Option Κ} {n c:Nat} {Ws:List VC} {B:Option Κ} {m k:Nat} {Es:List EC} (h:Cl W lo A n c Ws B m k Es) (hb:σ W.heap.size W W'):Cl W' lo A n c Ws B m k Es:=
 ⟨bo h.v hb,bo h.e hb,h.r.up hb⟩
theorem fZ.cells {W:ο} {lo g:Nat} {Ws:List VC} {T:Υ} {cs:List ψ} (h:fZ W lo Ws) (hw:Whole W g T cs) (hT:T≠32) (o:Nat) (vs:List ψ):fZ (W.setCells g o vs) lo Ws:=
 ⟨fun x hx=>lV (h.own x hx) (bD (h.own x hx) hw hT) o vs,h.rise⟩
theorem fZ.nil_ (W:ο) (lo:Nat):fZ W lo []:=⟨fun x hx=>(by cases hx),fun i j x y a b _ h=>(by simp at h)⟩
theorem fZ.snoc {W:ο} {lo lo':Nat} {Ws:List VC} {x:VC} (h:fZ W lo Ws) (hx:W.ownsRow lo' 32 3 (γ x.2.1.1 x.2.1.2.1 x.2.1.2.2.1) x.2.1.2.1 (aA x.2.1.2.2.2)) (hl:lo≤lo') (hn:∀y∈Ws,∀a,y.2.1.1=ζ a→a.block<lo'):fZ W lo (Ws++[x]):=by
 refine⟨fun y hy=>?_,fun i j u v a b ur hu hv ha hb=>?_⟩
 ·rcases Jan.1 hy with hy|hy
  ·exact h.own y hy
  ·obtain rfl:=Jao.1 hy;exact sD hx hl
 ·have hj:j<(Ws++[x]).length:=(ν.1 hv).1;rw[Ε] at hj;have hj':j<Ws.length+1:=hj;rw[Jab (by omega)] at hu;rcases JaM j Ws.length with h1|h1
  ·rw[Jab h1] at hv;exact h.rise i j u v a b ur hu hv ha hb
  ·obtain rfl:j=Ws.length:=by omega
   rw[Jal (Δ _),JaP] at hv;obtain rfl:x=v:=by simpa using hv
   have h2:=hn u (ω hu) a ha;have h3:=(AM hx hb).1;omega
theorem Kj {α:Type} (Ws Vs:List α) (j:Nat) (x y:α) (hl:Ws.length=j) (hx:Vs[j]? =ζ x):(Ws++Vs.drop j).set j y=(Ws++[y])++Vs.drop (j+1):=by
 have kd:Vs.drop j=x::Vs.drop (j+1):=by
  rw[Χ (ν.1 hx).1,(ν.1 hx).2]
 rw[kd,List.set_append_right _ _ (by omega),hl,JaP,List.set_cons_zero,List.append_assoc];rfl
def Uc (w:ο) (b0:Nat) (A:Option Κ) (n c:Nat) (Vs:List VC) (B:Option Κ) (m k:Nat) (Es:List EC):Nat→ψ→ο→Prop
 |0,v,_=>v=υ (ζ ⟨b0,0,ε⟩)
 |1,v,_=>v=γ A n c
 |2,v,W=>∃A' c',v=γ A' n c'∧W.ownsRow w.heap.size 59 5 (γ A' n c') n (ah vC Vs)
 |3,v,_=>v=υ (ζ ⟨b0,1,ε⟩)
 |4,v,_=>v=γ B m k
 |5,v,W=>∃B' k',v=γ B' m k'∧W.ownsRow w.heap.size 67 4 (γ B' m k') m (ah eC Es)
 |6,v,W=>∃A' c' B' k',v=φ #[γ A' n c',γ B' m k']∧W.ownsRow w.heap.size 59 5 (γ A' n c') n (ah vC Vs)∧W.ownsRow w.heap.size 67 4 (γ B' m k') m (ah eC Es)
 |7,v,W=>∃g,v=υ (ζ ⟨g,0,ε⟩)∧w.heap.size+1<g∧Whole W g 25 [γ ε 0 0,γ ε 0 0]
 |_,_,_=>True
theorem We {w:ο} {b0:Nat} {A:Option Κ} {n c:Nat} {Vs:List VC} {B:Option Κ} {m k:Nat} {Es:List EC}:∀(i:Nat) (v:ψ) (W W':ο),Uc w b0 A n c Vs B m k Es i v W→Ext W W'→Uc w b0 A n c Vs B m k Es i v W'
 |0,_,_,_,h,_=>h
 |1,_,_,_,h,_=>h
 |2,_,_,_,⟨A',c',e,h⟩,hx=>⟨A',c',e,bo h hx⟩
 |3,_,_,_,h,_=>h
 |4,_,_,_,h,_=>h
 |5,_,_,_,⟨A',c',e,h⟩,hx=>⟨A',c',e,bo h hx⟩
 |6,_,_,_,⟨A',c',B',k',e,h1,h2⟩,hx=>⟨A',c',B',k',e,bo h1 hx,bo h2 hx⟩
 |7,_,_,_,⟨g,e,h1,h2⟩,hx=>⟨g,e,h1,h2.bl hx⟩
 |_+8,_,_,_,_,_=>trivial
theorem Kv (A:Option Κ) (n c:Nat) (Vs:List VC) (B:Option Κ) (m k:Nat) (Es:List EC) (w:ο) (h:bz w A n c Vs B m k Es) (hn:n≤1000000) (hm:m≤1000000) (hr:∀x∈Vs,x.2.1.2.1≤1000000):
 Ζ η 80 #[φ #[γ A n c,γ B m k]] w fun e w'=>∃A' c' B' k' Ws,e=.returned (φ #[γ A' n c',γ B' m k'])∧Cl w' w.heap.size A' n c' Ws B' m k' Es∧Ws.map vS=Vs.map vS∧σ w.heap.size w w':=by
 have sw:=qh h.r;have AL:=qh hr;have Hl:=qh (h.v.rlen aS (by decide));have HCv:=qh (fun W (hb:σ w.heap.size w W)=>PN A n c (ah vC Vs) W (h.v.bl hb) (p7 vC nQ Vs) hn);have HCe:=qh (fun W (hb:σ w.heap.size w W)=>Rr B m k (ah eC Es) W (h.e.bl hb) (p7 eC nr Es) hm);clear h hr;go_enter Tryz.func80,Tryz.ntmps80;go_upto_region 1 with fail
 have lQ:Whole ((w.alloc (δ #[γ A n c,γ B m k] 25)).alloc (δ #[γ ε 0 0,γ ε 0 0] 25)) (w.heap.size) 25 [γ A n c,γ B m k]:=((Whole.new_ w 25 [γ A n c,γ B m k]).alloc (δ #[γ ε 0 0,γ ε 0 0] 25));have jq:Whole ((w.alloc (δ #[γ A n c,γ B m k] 25)).alloc (δ #[γ ε 0 0,γ ε 0 0] 25)) (w.heap.size+1) 25 [γ ε 0 0,γ ε 0 0]:=(Whole.new2 (w:=(w.alloc (δ #[γ A n c,γ B m k] 25))) (by simp));have oI:σ w.heap.size w ((w.alloc (δ #[γ A n c,γ B m k] 25)).alloc (δ #[γ ε 0 0,γ ε 0 0] 25)):=(aI (az w (δ #[γ A n c,γ B m k] 25)) (δ #[γ ε 0 0,γ ε 0 0] 25));have fU:w.heap.size+1+1≤(((w.alloc (δ #[γ A n c,γ B m k] 25)).alloc (δ #[γ ε 0 0,γ ε 0 0] 25))).heap.size:=by simp
 obtain⟨W0,bO⟩:=aB (((w.alloc (δ #[γ A n c,γ B m k] 25)).alloc (δ #[γ ε 0 0,γ ε 0 0] 25)));rw[bO] at lQ jq oI fU;obtain⟨b1,dE⟩:=aB (w.heap.size+1);rw[dE] at jq;obtain⟨b0,bp⟩:=aB w.heap.size;rw[bp] at lQ;have aQ:=qh lQ;have aL:=qh jq;have bw:=qh oI;have mQ:=qh fU;have lZ:=qh bp;have oa:Hid (w.heap.size≤b0):=qh (by omega);have uD:=qh dE;have iP:Hid (w.heap.size≤b1):=qh (by omega);have uW:Hid (b0≠b1):=qh (by omega);rw[bO];(try rw[dE]);(try rw[bp]);have Gsz:Hid (w.heap.size+1<W0.heap.size):=qh (by omega);clear bO oI fU lQ jq bp dE;have HX:=aQ;have HB:=bw;have HS:=Gsz;clear aQ bw mQ Gsz;refine jI 8 (cw w.heap.size) (Uc w b0 A n c Vs B m k Es) (Ext W0.drew) (by kernel_rfl) (by kernel_rfl) (by kernel_rfl) (by kernel_rfl) (by kernel_rfl) (fun i v w1 w2 h hx=>We i v w1 w2 h hx) (fun _ _ h k=>h.trans k) (Ext.refl _) ?_ ?_
 ·intro i Ef;have dF:i=0∨i=1∨i=2∨i=3∨i=4∨i=5∨i=6∨i=7:=by omega
  rcases dF with rfl|rfl|rfl|rfl|rfl|rfl|rfl|rfl
  ·refine aH ?_;intro x y hg aD;simp only[aE,ι,π,aj,ξ,aw,ar,aq];refine .inl ⟨by rfl,?_⟩;go_simp;exact⟨Ext.refl _,rfl⟩
  ·refine aH ?_;intro x y hg aD;have d0:x 0=υ (ζ ⟨b0,0,ε⟩):=aD 0 (by decide);have hc:=(HX.out.dr.bl hg).cell (i:=0) rfl;simp only[aE,ι,π,aj,ξ,aw,ar,aq];simp only[d0];refine .inl ⟨by rfl,?_⟩;go_simp;exact⟨Ext.refl _,rfl⟩
  ·refine aH ?_;intro x y hg aD;have d1:x 1=γ A n c:=aD 1 (by decide);simp only[aE,ι,π,aj,ξ,aw,ar,aq];simp only[d1];refine .inl ⟨by rfl,cu (by go_simp;first|done|exact⟨rfl,rfl⟩|with_reducible rfl) ?_⟩
   refine(HCv.out y (ag (aN HB.out) hg)).mono ?_
   rintro e w2 ⟨A',c',rfl,ho⟩;exact⟨_,rfl,ho.below,A',c',rfl,sD ho.own (ag (aN HB.out) hg).size⟩
  ·refine aH ?_;intro x y hg aD;simp only[aE,ι,π,aj,ξ,aw,ar,aq];refine .inl ⟨by rfl,?_⟩;go_simp;exact⟨Ext.refl _,rfl⟩
  ·refine aH ?_;intro x y hg aD;have d3:x 3=υ (ζ ⟨b0,1,ε⟩):=aD 3 (by decide);have hc:=(HX.out.dr.bl hg).cell (i:=1) rfl;simp only[aE,ι,π,aj,ξ,aw,ar,aq];simp only[d3];refine .inl ⟨by rfl,?_⟩;go_simp;exact⟨Ext.refl _,rfl⟩
  ·refine aH ?_;intro x y hg aD;have d4:x 4=γ B m k:=aD 4 (by decide);simp only[aE,ι,π,aj,ξ,aw,ar,aq];simp only[d4];refine .inl ⟨by rfl,cu (by go_simp;first|done|exact⟨rfl,rfl⟩|with_reducible rfl) ?_⟩
   refine(HCe.out y (ag (aN HB.out) hg)).mono ?_
   rintro e w2 ⟨A',c',rfl,ho⟩;exact⟨_,rfl,ho.below,A',c',rfl,sD ho.own (ag (aN HB.out) hg).size⟩
  ·refine aH ?_;intro x y hg aD;obtain⟨A',c',d2,SJ⟩:Uc w b0 A n c Vs B m k Es 2 (x 2) y:=aD 2 (by decide);obtain⟨B',k',d5,KS⟩:Uc w b0 A n c Vs B m k Es 5 (x 5) y:=aD 5 (by decide);simp only[aE,ι,π,aj,ξ,aw,ar,aq];simp only[d2,d5];refine .inl ⟨by rfl,?_⟩;go_simp;exact⟨Ext.refl _,A',c',B',k',rfl,SJ,KS⟩
  ·refine aH ?_;intro x y hg aD;simp only[aE,ι,π,aj,ξ,aw,ar,aq];refine .inl ⟨by rfl,dZ (w':=y.alloc (δ #[γ ε 0 0,γ ε 0 0] 25)) (by go_simp;first|done|exact rfl|exact⟨rfl,rfl⟩) (az _ _) ?_⟩;exact⟨y.heap.size,rfl,JaK HS.out hg.size,Whole.new_ _ _ [_,_]⟩
 intro x y hg aX;obtain⟨A',c',B',k',d6,TD,Ke⟩:Uc w b0 A n c Vs B m k Es 6 (x 6) y:=aX 6 (by decide);obtain⟨g,d7,Fm,Jl⟩:Uc w b0 A n c Vs B m k Es 7 (x 7) y:=aX 7 (by decide);simp only[aE,ι,π,aj,ξ,aw,ar,aq];simp only[d6,d7];have U2:=qh TD;have T6:=qh Ke;have Qh:=qh Jl;have H9:=qh Fm;have qH:=qh (ag (aN HB.out) hg);have Y1:=qh (aL.out.dr.bl hg);clear hg aX d6 d7 TD Ke Jl Fm HCv HCe HB HX aL HS;refine gI 8 ?_;intro w' aC
 refine⟨w'.setRow g #[γ A' n c',γ B' m k'],aR 25 (.tmp 3) (.tmp 12) rfl g rfl [γ A' n c',γ B' m k'] rfl 25 [γ ε 0 0,γ ε 0 0] (Qh.out.bl aC) (by kernel_rfl) rfl (by simp[Τ]),bN (show w.heap.size≤g by have:=H9.out;omega) _,?_⟩
 have Dk:ζ g≠(Ο A' n c').ownBlock:=bD (bo U2.out aC) (Qh.out.bl aC) (by decide);have Ci:ζ g≠(Ο B' m k').ownBlock:=bD (bo T6.out aC) (Qh.out.bl aC) (by decide);have ry:∀(W:ο) (cs:Array ψ),W.setRow g cs=W.setRow g cs:=fun _ _=>rfl
 have LR:Kept (·=g) w' (w'.setRow g #[γ A' n c',γ B' m k']):=bN (S:=fun x=>x=g) rfl _;have HVr:Hid ((w'.setRow g #[γ A' n c',γ B' m k']).ownsRow w.heap.size 59 5 (γ A' n c') n (ah vC Vs)):=qh ((bo U2.out aC).kept (row:=ζ g) ⟨LR.os,LR.tape,LR.output,LR.size,fun i hi hk=>LR.block i hi (fun e=>hk (by rw[e]))⟩ (by first|exact Dk|exact Dk.symm|exact .inr Dk|exact .inr Dk.symm));have HEr:Hid ((w'.setRow g #[γ A' n c',γ B' m k']).ownsRow w.heap.size 67 4 (γ B' m k') m (ah eC Es)):=qh ((bo T6.out aC).kept (row:=ζ g) ⟨LR.os,LR.tape,LR.output,LR.size,fun i hi hk=>LR.block i hi (fun e=>hk (by rw[e]))⟩ (by first|exact Ci|exact Ci.symm|exact .inr Ci|exact .inr Ci.symm));have Dg:Hid (Whole (w'.setRow g #[γ A' n c',γ B' m k']) g 25 [γ A' n c',γ B' m k']):=qh (Whole.row (Qh.out.bl aC) [γ A' n c',γ B' m k']);have rT:Hid (σ w.heap.size w (w'.setRow g #[γ A' n c',γ B' m k'])):=qh (bH (ag qH.out aC) (by have:=H9.out;omega) _);have UT:Hid (Whole (w'.setRow g #[γ A' n c',γ B' m k']) b1 25 [γ ε 0 0,γ ε 0 0]):=qh ((Y1.out.bl aC).row_far (by have:=uD.out;have:=H9.out;omega) _);obtain⟨W1,aV⟩:=aB (w'.setRow g #[γ A' n c',γ B' m k']);rw[aV] at HVr HEr Dg rT UT ⊢;clear aC Dk Ci ry LR aV U2 T6 Qh qH Y1;refine aF (by kernel_rfl) ?_ _;intro W2 fT;have SA:=qh (bo HVr.out fT)
 have xR:=qh (bo HEr.out fT);have dQ:=qh (Dg.out.bl fT);have bG:=qh (ag rT.out fT);have aZ:=qh (UT.out.bl fT);have Hg1:Hid (b1<g):=qh (by have:=uD.out;have:=H9.out;omega);clear fT HVr HEr Dg rT UT;have c0:=dQ.out.cell (i:=0) rfl;go_wp2;clear c0
 go_loopw [16] (fun si wr=>∃(j:Nat) (Ws:List VC),j≤n∧Ws.length=j∧si=J j∧Hid (σ w.heap.size w wr)∧Hid (Whole wr g 25 [γ A' n c',γ B' m k'])∧Hid (Whole wr b1 25 [γ ε 0 0,γ ε 0 0])∧
  Hid (wr.ownsRow w.heap.size 59 5 (γ A' n c') n (ah vC (Ws++Vs.drop j)))∧Hid (wr.ownsRow w.heap.size 67 4 (γ B' m k') m (ah eC Es))∧Hid (fZ wr w.heap.size Ws)∧Hid (Ws.map vS=(Vs.take j).map vS)) (fun si _=>n - (intOf si).toNat)
 case atStart=>exact⟨0,[],by omega,rfl,rfl,bG,dQ,aZ,SA,xR,qh (fZ.nil_ _ _),qh rfl⟩
 case round=>
  clear bG dQ aZ SA xR;obtain⟨j,Ws,hj,Xm,rfl,HB,HG,HX,HV,HE,HR,HM⟩:=hrel;obtain⟨wo,cS⟩:=aB wr;rw[cS] at HB HG HX HV HE HR ⊢;clear cS
  by_cases nT:j<n
  ·obtain⟨x,hx⟩:∃x,Vs[j]? =ζ x:=⟨_,θ (by have:=Hl.out;omega)⟩
   have hxw:(Ws++Vs.drop j)[j]? =ζ x:=by
    rw[Jal (by omega),Xm,JaP,JaS];simpa using hx
   have hsf:=fun y=>Kj Ws Vs j x y Xm hx
   have HSf:=qh hsf;have uH:=sw.out x (ω hx);have kc:=AL.out x (ω hx);have HMx:Hid ((Vs.take (j+1)).map vS=(Vs.take j).map vS++[vS x]):=qh (by rw[List.take_add_one,hx];simp);obtain⟨gv,junk,rfl,aaF,Jl,Fm,hgc,hgm,O5⟩:=cN HV.out (by omega);have a8:=fun i v hv=>(aK HV.out).elem aS hxw i v hv
   have q0:=a8 0 _ rfl;have q1:=a8 1 _ rfl;have q2:=a8 2 _ rfl;have q3:=a8 3 _ rfl;have q4:=a8 4 _ rfl;simp only[Addr.add_lit,Nat.add_zero,JaI] at q0 q1 q2 q3 q4;have HCl:=qh (fun W (hb:σ w.heap.size w W)=>Nq x W (uH.below hb) kc);obtain⟨⟨i1,i2⟩,⟨rA,rn,rc,rL⟩,lb,at_⟩:=x;replace HCl:Hid (∀W,σ w.heap.size w W→Ζ η 106 #[φ #[J i1,J i2,γ rA rn rc,μ lb,J at_]] W fun e w'=>∃A' c',e=.returned (φ #[J i1,J i2,γ A' rn c',μ lb,J at_])∧Ow W W.heap.size 32 3 (γ A' rn c') rn (aA rL) w'):=HCl;have Qh:=qh Jl;have H9:=qh (Jax aaF (Jax Fm (Jax hgc (Jax hgm O5))));clear hx hxw hsf uH kc a8 Jl aaF Fm hgc hgm O5;go_upto_region 5 with fail
   clear q0 q1 q2 q3 q4;have oK:=qh (Whole.new_ wo 59 [J i1,J i2,γ rA rn rc,μ lb,J at_]);have bE:=qh (aI HB.out (δ #[J i1,J i2,γ rA rn rc,μ lb,J at_] 59));have HG1:=qh (HG.out.alloc (δ #[J i1,J i2,γ rA rn rc,μ lb,J at_] 59));have Wx:=qh (HX.out.alloc (δ #[J i1,J i2,γ rA rn rc,μ lb,J at_] 59));have U4:=qh (Qh.out.alloc (δ #[J i1,J i2,γ rA rn rc,μ lb,J at_] 59));have qR:=qh (bo HE.out (az wo (δ #[J i1,J i2,γ rA rn rc,μ lb,J at_] 59)));have lR:=qh (HR.out.up (az wo (δ #[J i1,J i2,γ rA rn rc,μ lb,J at_] 59)));obtain⟨W1,aV⟩:=aB (wo.alloc (δ #[J i1,J i2,γ rA rn rc,μ lb,J at_] 59));obtain⟨g5,gg5⟩:=aB wo.heap.size;rw[aV] at oK bE HG1 Wx U4 qR lR ⊢;rw[gg5] at oK ⊢;have alC:Hid (gv≠g5):=qh (by have:=Qh.out.lt;omega);clear aV gg5 HB HG HX Qh HE HR HV;have fL:=cm (i:=0) HG1.out rfl;refine cI (aO) [6] (by kernel_rfl) ?_;refine aU 0 ?_;refine aU 1 ?_;refine aU 2 ?_;refine S4 3 (hy:=ib (by rfl) 59 (.tmp 5) rfl g5 rfl 59 [J i1,J i2,γ rA rn rc,μ lb,J at_] _ (fun w' h=>h.whole oK.out.dr (fun h=>h)) Tryz.underlying59 rfl (by kernel_rfl)) (h:=?_);refine CR 4 ?_;intro w' aC
   refine(HCl.out w' (ag (aN bE.out) aC)).mono ?_
   rintro e w9 ⟨A9,c9,rfl,ho⟩
   refine⟨_,rfl,Kept.of_below ho.below,?_⟩
   have dz:∀y∈Ws,∀a,y.2.1.1=ζ a→a.block<w'.heap.size:=fun y hy a ha=>(AM ((lR.out.up (below_drewN W1.heap.size W1 1)).up aC|>.own y hy) ha).2
   have Va:Hid (fZ w9 w.heap.size (Ws++[((i1,i2),(A9,rn,c9,rL),lb,at_)])):=qh ((((lR.out.up (below_drewN W1.heap.size W1 1)).up aC).up ho.below).snoc (x:=((i1,i2),(A9,rn,c9,rL),lb,at_)) ho.own (ag (aN bE.out) aC).size dz);have YR:=qh ((oK.out.dr.bl aC).bl ho.below);have oC:=qh (ag (ag (aN bE.out) aC) ho.below);have HG9:=qh ((HG1.out.dr.bl aC).bl ho.below);have PU:=qh ((Wx.out.dr.bl aC).bl ho.below);have Uf:=qh ((U4.out.dr.bl aC).bl ho.below);have SE:=qh (bo (bo (bo qR.out (below_drewN W1.heap.size W1 1)) aC) ho.below);obtain⟨V9,Tf⟩:=aB w9;rw[Tf] at Va YR oC HG9 PU Uf SE ⊢;clear aC ho dz Tf fL bE HG1 Wx U4 qR lR oK;simp only[ξ,aw,ar,aq];refine aU 5 ?_;refine qu 6 ?_;intro w' aC;have Jl:=Uf.out.bl aC;have hlen:=cj vC aS (Ws++Vs.drop j)
   have wN:(Ws++Vs.drop j).length=n:=by
    have h1:=H9.out.2.2.2.2;rw[hlen] at h1;omega
   have qq:j*5+5≤(ah vC (Ws++Vs.drop j)++junk).length:=by
    rw[Ε,hlen,wN];omega
   refine⟨w'.setCells gv (j*5) [J i1,J i2,γ A9 rn c9,μ lb,J at_],qz 59 (.tmp 26) (.tmp 25) rfl gv (j*5) (by first|rfl|(go_simp;done)|(simp[Act.eval];done)) [J i1,J i2,γ A9 rn c9,μ lb,J at_] rfl (Jl.there_ (j*5) 5 qq) (by kernel_rfl) (by simp[Τ]),?_⟩
   have kf:=Jl.cells_ (vC ((i1,i2),(A9,rn,c9,rL),lb,at_)) (j*5) w' _ qq;rw[tE aS _ junk j _ (by omega),HSf.out] at kf;have Yp:∀{T:Υ} {A2:Option Κ} {n2 c2 k2:Nat} {xs:List ψ},w'.ownsRow w.heap.size T k2 (γ A2 n2 c2) n2 xs→59≠T→ζ gv≠(Ο A2 n2 c2).ownBlock:=fun h hT=>bD h Jl hT
   have hsl:(ah vC ((Ws++[((i1,i2),(A9,rn,c9,rL),lb,at_)])++Vs.drop (j+1))).length=n*5:=by
    rw[←HSf.out,cj vC aS,JbD,wN]
   have HVs:Hid ((w'.setCells gv (j*5) (vC ((i1,i2),(A9,rn,c9,rL),lb,at_))).ownsRow w.heap.size 59 5 (γ (ζ ⟨gv,0,ε⟩) n c') n (ah vC ((Ws++[((i1,i2),(A9,rn,c9,rL),lb,at_)])++Vs.drop (j+1)))):=qh (kk kf H9.out.1 (by
    have h1:=H9.out.2.1;rw[Ε] at h1 ⊢;rw[hsl,←h1,hlen,wN]) H9.out.2.2.1 H9.out.2.2.2.1 hsl)
   have HEs:Hid ((w'.setCells gv (j*5) (vC ((i1,i2),(A9,rn,c9,rL),lb,at_))).ownsRow w.heap.size 67 4 (γ B' m k') m (ah eC Es)):=qh (lV (bo SE.out aC) (Yp (bo SE.out aC) (by decide)) _ _);have Iw:Hid (fZ (w'.setCells gv (j*5) (vC ((i1,i2),(A9,rn,c9,rL),lb,at_))) w.heap.size (Ws++[((i1,i2),(A9,rn,c9,rL),lb,at_)])):=qh ((Va.out.up aC).cells Jl (by decide) _ _);have sx:Hid (σ w.heap.size w (w'.setCells gv (j*5) (vC ((i1,i2),(A9,rn,c9,rL),lb,at_)))):=qh (below_setCells (ag oC.out aC) H9.out.1 _ _);have HGs:Hid (Whole (w'.setCells gv (j*5) (vC ((i1,i2),(A9,rn,c9,rL),lb,at_))) g 25 [γ (ζ ⟨gv,0,ε⟩) n c',γ B' m k']):=qh ((HG9.out.bl aC).cells_far ((HG9.out.bl aC).ne_ Jl (by decide)) _ _);have zt:Hid (Whole (w'.setCells gv (j*5) (vC ((i1,i2),(A9,rn,c9,rL),lb,at_))) b1 25 [γ ε 0 0,γ ε 0 0]):=qh ((PU.out.bl aC).cells_far ((PU.out.bl aC).ne_ Jl (by decide)) _ _);obtain⟨W7,tr⟩:=aB (w'.setCells gv (j*5) (vC ((i1,i2),(A9,rn,c9,rL),lb,at_)));rw[tr] at HVs HEs Iw sx HGs zt;rw[show w'.setCells gv (j*5) [J i1,J i2,γ A9 rn c9,μ lb,J at_]=W7 from tr];clear aC Jl hlen wN qq kf Yp hsl tr oC HG9 PU Uf SE YR Va;(try simp only[ξ,aw,ar,aq]);refine gG (by kernel_rfl) ?_ _;intro W8 cg;have nV:=qh (ag sx.out cg);have HG8:=qh (HGs.out.bl cg);have agm:=qh (zt.out.bl cg);have KA:=qh (bo HVs.out cg);have YZ:=qh (bo HEs.out cg)
   have TS:=qh (Iw.out.up cg);clear cg sx HGs zt HVs HEs Iw;go_wp2;go_roundw
   case rel=>exact⟨j+1,Ws++[((i1,i2),(A9,rn,c9,rL),lb,at_)],by omega,by simp[Xm],by go_num,nV,HG8,agm,KA,YZ,TS,qh (by rw[HMx.out,List.map_append,HM.out];rfl)⟩
   case measure=>simp[intOf];omega
  ·obtain rfl:n=j:=by omega
   have kg:ah vC (Ws++Vs.drop n)=ah vC Ws:=by rw[Jav (by have:=Hl.out;omega),List.append_nil]
   have hv:=HV.out;rw[kg] at hv;have hm:=HM.out;rw[List.take_of_length_le (by have:=Hl.out;omega)] at hm;have RZ:ζ b1≠(Ο A' n c').ownBlock:=bD hv HX.out (by decide);have F6:ζ b1≠(Ο B' m k').ownBlock:=bD HE.out HX.out (by decide)
   have HF:Hid (Cl ((wo.setCell ⟨b1,0,ε⟩ (γ A' n c')).setCell ⟨b1,1,ε⟩ (γ B' m k')) w.heap.size A' n c' Ws B' m k' Es):=qh
    ⟨aT (aT hv RZ _) RZ _,aT (aT HE.out F6 _) F6 _,(HR.out.cells HX.out (by decide) 0 [γ A' n c']).cells (HX.out.set_ 0 (γ A' n c')) (by decide) 1 [γ B' m k']⟩
   have HY:=qh ((HX.out.set_ 0 (γ A' n c')).set_ 1 (γ B' m k'));have rQ:=qh ((HB.out.setCell (p:=⟨b1,0,ε⟩) iP.out (γ A' n c')).setCell (p:=⟨b1,1,ε⟩) iP.out (γ B' m k'));have Hm:=qh hm;have c0:=HG.out.cell (i:=0) rfl;have c1:=HG.out.cell (i:=1) rfl;have f0:=HX.out.free 0;have f1:=HX.out.free 1;have k0:=HX.out.cell (i:=0) rfl;have k1:=HX.out.cell (i:=1) rfl;clear hv hm RZ F6 kg HV HE HR HX HB;go_wp2;exact dO rfl b1 rfl HY.out Tryz.underlying25 rfl (by kernel_rfl) rfl ⟨A',c',B',k',Ws,rfl,HF.out,Hm.out,rQ.out⟩
section
variable {w w':ο} {A B:Option Κ} {n c m k:Nat} {Vs:List VC} {Es:List EC}
theorem bz.bl (h:bz w A n c Vs B m k Es) (hb:σ w.heap.size w w'):bz w' A n c Vs B m k Es:=h.below hb
theorem bz.al (h:bz w A n c Vs B m k Es) (o:Obj):bz (w.alloc o) A n c Vs B m k Es:=h.below (az w o)
theorem bz.dr (h:bz w A n c Vs B m k Es):bz w.drew A n c Vs B m k Es:=h.below (below_drewN w.heap.size w 1)
theorem bz.far (h:bz w A n c Vs B m k Es) (g i:Nat) (u:ψ) (ha:∀a,A=ζ a→0<n→a.block≠g) (hb:∀a,B=ζ a→0<m→a.block≠g) (hr:∀x∈Vs,∀a,x.2.1.1=ζ a→0<x.2.1.2.1→a.block≠g):
 bz (w.setCell ⟨g,i,ε⟩ u) A n c Vs B m k Es:=by
 have hs:(w.setCell ⟨g,i,ε⟩ u).heap.size=w.heap.size:=by simp[JbB]
 exact⟨by rw[hs];exact h.v.far_ ha u,by rw[hs];exact h.e.far_ hb u,fun x hx=>⟨(h.r x hx).1,by rw[hs];exact(h.r x hx).2.far_ (hr x hx) u⟩⟩
end
theorem RgOk.bl {w w':ο} {r:Rg} (h:RgOk w r) (hb:σ w.heap.size w w'):RgOk w' r:=h.below hb
theorem RgOk.al {w:ο} {r:Rg} (h:RgOk w r) (o:Obj):RgOk (w.alloc o) r:=h.below (az w o)
theorem RgOk.dr {w:ο} {r:Rg} (h:RgOk w r):RgOk w.drew r:=h.below (below_drewN w.heap.size w 1)
structure mG (Vs:List VC) (Es:List EC):Prop where
 v:∀x∈Vs,∀d∈x.2.1.2.2.2,su d
 e:∀e∈Es,su (e.1.1,e.1.2,0)∧su (e.1.1,e.1.2,1)
 lv:∀x∈Vs,x.2.2.1.size≤maxLen
 le:∀x∈Es,x.2.1.size≤maxLen
theorem bz.put {W:ο} {A B:Option Κ} {n c m k g:Nat} {Vs:List VC} {Es:List EC} (h:bz W A n c Vs B m k Es) (ha:∀a,A=ζ a→0<n→a.block≠g) (hb:∀a,B=ζ a→0<m→a.block≠g) (hr:∀x∈Vs,∀a,x.2.1.1=ζ a→0<x.2.1.2.1→a.block≠g) (u v:ψ):
 bz ((W.setCell ⟨g,0,ε⟩ u).setCell ⟨g,1,ε⟩ v) A n c Vs B m k Es:=(h.far g 0 u ha hb hr).far g 1 v ha hb hr
def xz (a b:Int × Int):Int:=jz a.1 a.2 b.1 b.2
theorem x8 {a b c:Int × Int} (h:xz a b<0) (k:xz b c<0):xz a c<0:=by
 unfold xz at*;have h1:=rh a.1 a.2 b.1 b.2 c.1 c.2 (by omega) (by omega);have h2:=jF a.1 a.2 c.1 c.2;have h3:=sq a.1 a.2 b.1 b.2;rcases Int.lt_or_eq_of_le h1 with h4|h4
 ·exact h4
 ·obtain⟨e1,e2⟩:=h2.1 h4;rw[←e1,←e2] at k;omega
theorem IL {a b:Int × Int} (h:xz a b<0):a≠b:=by
 rintro rfl
 have:=(jF a.1 a.2 a.1 a.2).2 ⟨rfl,rfl⟩
 unfold xz at h;omega
theorem fS:∀(L:List (Int × Int)) (o:Option (Int × Int)),fA o L=τ↔(∀x∈L,dK x.1 x.2=τ)∧(∀y,o=ζ y→∀x∈L,xz y x<0)∧L.Pairwise (fun a b=>xz a b<0)
 |[],o=>by simp[fA]
 |x::r,o=>by
  have e:fA o (x::r)=(dK x.1 x.2 && (match o with|none=>τ|some y=>decide (jz y.1 y.2 x.1 x.2<0)) && fA (ζ x) r):=by cases o<;>rfl
  rw[e,Jar,Jar,fS r (ζ x),List.pairwise_cons];constructor
  ·rintro⟨⟨h1,h2⟩,h3,h4,h5⟩
   refine⟨fun y hy=>?_,fun y hy z hz=>?_,h4 x rfl,h5⟩
   ·rcases Η.1 hy with rfl|hy
    ·exact h1
    ·exact h3 y hy
   ·subst hy;have h6:xz y x<0:=of_decide_eq_true h2;rcases Η.1 hz with rfl|hz
    ·exact h6
    ·exact x8 h6 (h4 x rfl z hz)
  ·rintro⟨h1,h2,h3,h4⟩
   refine⟨⟨h1 x (Jai ..),?_⟩,fun y hy=>h1 y (Jad _ hy),fun y hy z hz=>?_,h4⟩
   ·cases o with
    |none=>rfl
    |some y=>exact decide_eq_true (h2 y rfl x (Jai ..))
   ·cases hy;exact h3 z hz
theorem dh {L:List (Int × Int)} (h:fA ε L=τ):L.Nodup:=
 List.Pairwise.imp (fun h=>IL h) ((fS L ε).1 h).2.2
theorem zS:∀(Es:List EC) (S:List D),(Es.map (·.1)).Nodup→(∀e∈Es,(e.1.1,e.1.2,(0:Int))∉S∧(e.1.1,e.1.2,(1:Int))∉S)→(DQ Es S).length=S.length+2*Es.length
 |[],S,_,_=>by simp[DQ]
 |e::r,S,hn,hS=>by
  rw[ι,JaJ] at hn;have h0:=hS e (Jai ..);have e1:oB (e.1.1,e.1.2,0) S=(e.1.1,e.1.2,0)::S:=by rw[oB,if_neg h0.1]
  have e2:oB (e.1.1,e.1.2,1) ((e.1.1,e.1.2,0)::S)=(e.1.1,e.1.2,1)::(e.1.1,e.1.2,0)::S:=by
   rw[oB,if_neg];rw[Η];rintro (h|h)
   ·simp at h
   ·exact h0.2 h
  rw[DQ,e1,e2,zS r _ hn.2 (fun x hx=>?_)]
  ·simp only[JaH];omega
  ·have bj:x.1≠e.1:=fun q=>hn.1 (q▸Α.2 ⟨x,hx,rfl⟩)
   have hx':=hS x (Jad _ hx)
   have key:∀a b:Int,(x.1.1,x.1.2,a)≠(e.1.1,e.1.2,b):=fun a b q=>by
    simp only[Prod.mk.injEq] at q;exact bj (Prod.ext q.1 q.2.1)
   refine⟨fun q=>?_,fun q=>?_⟩<;>· rcases Η.1 q with q|q;exact key _ _ q;rcases Η.1 q with q|q;exact key _ _ q;first|exact hx'.1 q|exact hx'.2 q
structure aG (Vs:List VC) (Es:List EC):Prop where
 v24:Vs.length≤24
 e40:Es.length≤40
 rv:fA ε (Vs.map (·.1))=τ
 re:fA ε (Es.map (·.1))=τ
 tu:Vs.all pj=τ
 pm:(ao Vs).Perm (DQ Es [])
 lv:Vs.all (fun v=>cQ v.2.2.1)=τ
 le:Es.all (fun v=>cQ v.2.1)=τ
 av:Vs.all (fun v=>eR v.2.2.2)=τ
 ae:Es.all (fun v=>eR v.2.2)=τ
theorem IA (Vs:List VC) (Es:List EC):jZ Vs Es=0↔aG Vs Es:=by
 unfold jZ yE;constructor
 ·intro h;split at h
  ·cases h
  ·rename_i h0;split at h
   ·cases h
   ·rename_i h1;split at h
    ·cases h
    ·rename_i h2;split at h
     ·cases h
     ·rename_i h3;simp only[decide_eq_true_eq,not_or,Bool.not_eq_true',Bool.not_eq_false,Jar] at h0 h1 h2 h3;exact⟨by omega,by omega,h1.1.1.1,h1.1.1.2,h1.1.2,(ig _ _).1 h1.2,h2.1,h2.2,h3.1,h3.2⟩
 ·intro h;have e0:decide (24<Vs.length∨40<Es.length)=ρ:=decide_eq_false (by have:=h.v24;have:=h.e40;omega);rw[e0,h.rv,h.re,h.tu,(ig _ _).2 h.pm,h.lv,h.le,h.av,h.ae];rfl
section
variable {Vs:List VC} {Es:List EC}
theorem aG.once (h:aG Vs Es):(ao Vs).Nodup:=h.pm.nodup_iff.2 (kP Es [] List.nodup_nil)
theorem aG.len (h:aG Vs Es):(ao Vs).length=2*Es.length:=by
 rw[h.pm.length_eq,zS Es [] (dh h.re) (fun e _=>⟨by simp,by simp⟩)];simp
theorem abo (hn:(ao Vs).Nodup) {v:VC} (hv:v∈Vs) {d:D} (hd:d∈v.2.1.2.2.2):lE Vs d=(v.1,τ):=by
 induction Vs with
 |nil=>cases hv
 |cons u r ih=>
  rw[eA] at hn;rw[List.nodup_append] at hn
  by_cases hu:d∈u.2.1.2.2.2
  ·rw[Ak _ _ _ hu];rcases Η.1 hv with rfl|hv
   ·rfl
   ·exact absurd rfl (hn.2.2 d hu d (Jat.2 ⟨v,hv,hd⟩))
  ·rw[EI _ _ _ hu];rcases Η.1 hv with rfl|hv
   ·exact absurd hd hu
   ·exact ih hn.2.1 hv
theorem aG.at (h:aG Vs Es) {v:VC} (hv:v∈Vs) {d:D} (hd:d∈v.2.1.2.2.2):lE Vs d=(v.1,τ):=abo h.once hv hd
theorem aG.edge (h:aG Vs Es) {v:VC} (hv:v∈Vs) {d:D} (hd:d∈v.2.1.2.2.2):(wu Es (d.1,d.2.1)).2=τ:=by
 have h1:=(ri Es d).2 (h.pm.mem_iff.1 (Jat.2 ⟨v,hv,hd⟩));unfold me at h1;rw[Jar] at h1;exact h1.1
theorem aG.less (h:aG Vs Es) {k:Nat} (hk:k<Es.length):jZ Vs (Es.take k++Es.drop (k+1))=10:=by
 have hl:(Es.take k++Es.drop (k+1)).length=Es.length - 1:=by
  rw[Ε,JaA,Jaz];omega
 have CP:(Es.take k++Es.drop (k+1)).Sublist Es:=by
  rw[←List.eraseIdx_eq_take_drop_succ];exact List.eraseIdx_sublist ..
 have AK:((Es.take k++Es.drop (k+1)).map (·.1)).Nodup:=(CP.map _).nodup (dh h.re)
 have ho:rY (DQ (Es.take k++Es.drop (k+1)) []) (ao Vs)=ρ:=by
  rw[Bool.eq_false_iff];intro q
  have:=((ig _ _).1 q).length_eq
  rw[h.len,zS _ [] AK (fun e _=>⟨by simp,by simp⟩),hl] at this;simp at this;omega
 unfold jZ yE;have e0:decide (24<Vs.length∨40<(Es.take k++Es.drop (k+1)).length)=ρ:=decide_eq_false (by have:=h.v24;have:=h.e40;omega);rw[e0,ho];simp
end
def lj (v:VC) (s:ByteArray):VC:=(v.1,v.2.1,s,v.2.2.2)
theorem j0 {α β:Type} (f:α→β) (L:List α) (j:Nat) (x y:α) (hx:L[j]? =ζ x) (h:f y=f x):(L.set j y).map f=L.map f:=by
 rw[List.map_set,h];apply List.ext_getElem?;intro i;rw[Jbz];split
 ·rename_i e;subst e;have hj:=(ν.1 hx).1;rw[Ρ,if_pos hj,List.getElem?_map,hx];rfl
 ·rfl
theorem all_map {α β:Type} (f:α→β) (p:β→Bool) (L:List α):L.all (fun x=>p (f x))=(L.map f).all p:=by rw[List.all_map];rfl
theorem Fe {Vs Ws:List VC} {Es:List EC} (h:Ws.map vS=Vs.map vS):jZ Ws Es=jZ Vs Es:=by
 have hl:Ws.length=Vs.length:=by simpa using congrArg List.length h
 have e1:Ws.map (·.1)=Vs.map (·.1):=by
  have:=congrArg (List.map (fun s:(Int × Int) × List D × ByteArray × Int=>s.1)) h
  simpa [JaW,Function.comp_def,vS] using this
 have e2:Ws.map (·.2.1.2.2.2)=Vs.map (·.2.1.2.2.2):=by
  have:=congrArg (List.map (fun s:(Int × Int) × List D × ByteArray × Int=>s.2.1)) h
  simpa [JaW,Function.comp_def,vS] using this
 have e3:Ws.map (·.2.2.1)=Vs.map (·.2.2.1):=by
  have:=congrArg (List.map (fun s:(Int × Int) × List D × ByteArray × Int=>s.2.2.1)) h
  simpa [JaW,Function.comp_def,vS] using this
 have e4:Ws.map (·.2.2.2)=Vs.map (·.2.2.2):=by
  have:=congrArg (List.map (fun s:(Int × Int) × List D × ByteArray × Int=>s.2.2.2)) h
  simpa [JaW,Function.comp_def,vS] using this
 have r:∀Us:List VC,ao Us=(Us.map (·.2.1.2.2.2)).flatten:=fun Us=>by rw[ao,List.flatMap_def]
 have t:∀Us:List VC,Us.all pj=(Us.map (·.2.1.2.2.2)).all (fun L=>decide (L=aM L)):=fun Us=>by rw[List.all_map];rfl
 have l:∀Us:List VC,Us.all (fun v=>cQ v.2.2.1)=(Us.map (·.2.2.1)).all cQ:=fun Us=>by rw[List.all_map];rfl
 have a:∀Us:List VC,Us.all (fun v=>eR v.2.2.2)=(Us.map (·.2.2.2)).all eR:=fun Us=>by rw[List.all_map];rfl
 unfold jZ;rw[hl,e1,r Ws,r Vs,e2,t Ws,t Vs,e2,l Ws,l Vs,e3,a Ws,a Vs,e4]
theorem aG.same {Vs Ws:List VC} {Es:List EC} (hf:aG Vs Es) (h:Ws.map vS=Vs.map vS):aG Ws Es:=(IA Ws Es).1 ((Fe h).trans ((IA Vs Es).2 hf))
theorem aG.label {Vs:List VC} {Es:List EC} (h:aG Vs Es) {j:Nat} {x:VC} (hx:Vs[j]? =ζ x) (s:ByteArray):jZ (Vs.set j (lj x s)) Es=if cQ s then 0 else 4:=by
 have hj:=(ν.1 hx).1;have e0:decide (24<(Vs.set j (lj x s)).length∨40<Es.length)=ρ:=decide_eq_false (by have:=h.v24;have:=h.e40;rw[JbD];omega);have e1:=j0 (fun v:VC=>v.1) Vs j x (lj x s) hx rfl
 have e2:ao (Vs.set j (lj x s))=ao Vs:=by
  rw[ao,ao,List.flatMap_def,List.flatMap_def,j0 (fun v:VC=>v.2.1.2.2.2) Vs j x (lj x s) hx rfl]
 have t:∀Us:List VC,Us.all pj=(Us.map (fun v:VC=>v.2.1.2.2.2)).all (fun L=>decide (L=aM L)):=fun Us=>by rw[List.all_map];rfl
 have a:∀Us:List VC,Us.all (fun v=>eR v.2.2.2)=(Us.map (fun v:VC=>v.2.2.2)).all eR:=fun Us=>by rw[List.all_map];rfl
 have e3:(Vs.set j (lj x s)).all pj=Vs.all pj:=by
  rw[t,t,j0 (fun v:VC=>v.2.1.2.2.2) Vs j x (lj x s) hx rfl]
 have e4:(Vs.set j (lj x s)).all (fun v=>eR v.2.2.2)=Vs.all (fun v=>eR v.2.2.2):=by
  rw[a,a,j0 (fun v:VC=>v.2.2.2) Vs j x (lj x s) hx rfl]
 have e5:(Vs.set j (lj x s)).all (fun v=>cQ v.2.2.1)=cQ s:=by
  rw[Bool.eq_iff_iff,Φ];constructor
  ·intro ha;exact ha (lj x s) (ω (i:=j) (by rw[Jbz,if_pos rfl,if_pos hj]))
  ·intro hs v hv;rcases List.mem_or_eq_of_mem_set hv with hv|rfl
   ·exact Φ.1 h.lv v hv
   ·exact hs
 unfold jZ yE;rw[e0,e1,e2,e3,e4,e5,h.rv,h.re,h.tu,(ig _ _).2 h.pm,h.le,h.av,h.ae];cases cQ s<;>rfl
theorem NY {cs vs:List ψ} {o i:Nat} {u:ψ} (hc:∀j v,vs[j]? =ζ v→cs[o+j]? =ζ v) (hi:i<vs.length) (hl:o+vs.length≤cs.length):cU cs o (vs.set i u)=cs.set (o+i) u:=by
 unfold cU;rw[JbD];apply List.ext_getElem?;intro p;rw[Jbz];have ht:(cs.take o).length=o:=by rw[JaA];omega
 rcases JaM p o with h1|h1
 ·rw[Jab (by omega),List.getElem?_take,if_pos h1,if_neg (by omega)]
 ·rw[Jal (by omega),ht];rcases JaM (p - o) vs.length with h2|h2
  ·rw[Jab (by rw[JbD];exact h2),Jbz]
   by_cases h3:i=p - o
   ·subst h3;rw[if_pos rfl,if_pos h2,if_pos (by omega),if_pos (by omega)]
   ·rw[if_neg h3,if_neg (by omega)]
    have:=hc (p - o) _ (θ h2)
    rw[show o+(p - o)=p by omega] at this;rw[this,θ h2]
  ·rw[Jal (by rw[JbD];exact h2),JbD,JaS,if_neg (by omega)];congr 1;omega
theorem eZ {α:Type} {f:α→List ψ} {s:Nat} (hs:∀x,(f x).length=s) {W:ο} {lo n c:Nat} {T:Υ} {A:Option Κ} {L:List α} (h:W.ownsRow lo T s (γ A n c) n (ah f L)) {j i:Nat} {x y:α} {u:ψ}
 (hx:L[j]? =ζ x) (hn:j<n) (hi:i<s) (hy:f y=(f x).set i u):
 ∃g junk,A=ζ ⟨g,0,ε⟩∧lo≤g∧Whole W g T (ah f L++junk)∧W.cell? ⟨g,j*s+i,ε⟩=(f x)[i]?∧W.frozen? ⟨g,j*s+i,ε⟩=ρ∧
  (W.setCell ⟨g,j*s+i,ε⟩ u).ownsRow lo T s (γ A n c) n (ah f (L.set j y)):=by
 obtain⟨g,junk,rfl,fw,hw,hl,pU,oz,j9⟩:=cN h (by omega);have hlen:=cj f hs L;have hj:=(ν.1 hx).1;have qq:(j+1)*s≤L.length*s:=Nat.mul_le_mul_right _ hj;rw[Nat.succ_mul] at qq
 have hg:∀p v,(f x)[p]? =ζ v→(ah f L++junk)[j*s+p]? =ζ v:=fun p v hv=>by
  have h1:=pQ f hs L j x hx p v hv;rw[Jab (ν.1 h1).1];exact h1
 have Rq:i<(f x).length:=by rw[hs];exact hi
 have kf:cU (ah f L++junk) (j*s) (f y)=(ah f L++junk).set (j*s+i) u:=by
  rw[hy];exact NY hg Rq (by rw[Ε,hs];omega)
 rw[tE hs L junk j y hj] at kf;have fT:=hw.set_ (j*s+i) u;rw[←kf] at fT
 refine⟨g,junk,rfl,fw,hw,?_,hw.free _,kk fT fw ?_ pU oz ?_⟩
 ·rw[θ Rq];exact hw.cell (hg i _ (θ Rq))
 ·rw[kf,JbD];exact hl
 ·rw[cj f hs,JbD,←hlen];exact j9
theorem Fj {W:ο} {lo lo' k k' n n':Nat} {T T':Υ} {v v':ψ} {xs xs':List ψ} (h:W.ownsRow lo T k v n xs) (h':W.ownsRow lo' T' k' v' n' xs') (hT:T≠T'):v.ownBlock=ε∨v.ownBlock≠v'.ownBlock:=by
 rcases h.2 with⟨rfl,-⟩|⟨g,cap,cur,rfl,-,hg,-⟩
 ·exact .inl rfl
 ·refine .inr fun e=>?_
  rcases h'.2 with⟨rfl,-⟩|⟨g',YT,akO,rfl,-,UD,-⟩
  ·cases e
  ·have e1:g=g':=Μ e;subst e1;rw[hg] at UD;injection Μ UD with e2 e3 e4
   exact hT e3
theorem pS {W W':ο} {lo lo' k k' n n':Nat} {T T':Υ} {v v':ψ} {xs xs':List ψ} (h:W.ownsRow lo T k v n xs) (h':W.ownsRow lo' T' k' v' n' xs') (hT:T≠T') (hg:W.grownBy W' v'.ownBlock):W'.ownsRow lo T k v n xs:=h.kept hg (Fj h h' hT)
structure aJ (g:Nat) (W W':ο):Prop where
 w:∀b T cs,Whole W b T cs→b≠g→T≠59→T≠67→T≠98→Whole W' b T cs
 s:W.heap.size≤W'.heap.size
theorem aJ.of_below {g:Nat} {W W':ο} (h:σ W.heap.size W W'):aJ g W W':=⟨fun b T cs hw _ _ _ _=>hw.bl h,h.size⟩
theorem aJ.refl (g:Nat) (W:ο):aJ g W W:=aJ.of_below (Θ _ _)
theorem aJ.trans {g:Nat} {W W1 W2:ο} (h:aJ g W W1) (k:aJ g W1 W2):aJ g W W2:=⟨fun b T cs hw a b c d=>k.w _ _ _ (h.w _ _ _ hw a b c d) a b c d,Λ h.s k.s⟩
theorem aJ.setS {g:Nat} {W W1:ο} (h:aJ g W W1) (i:Nat) (u:ψ):aJ g W (W1.setCell ⟨g,i,ε⟩ u):=
 ⟨fun b T' qy hw h1 h2 h3 h4=>(h.w _ _ _ hw h1 h2 h3 h4).far h1 u,by simpa [JbB] using h.s⟩
theorem aJ.setT {g g':Nat} {W W1:ο} {T:Υ} {cs:List ψ} (h:aJ g W W1) (hg:Whole W1 g' T cs) (hT:T=59∨T=67∨T=98) (i:Nat) (u:ψ):aJ g W (W1.setCell ⟨g',i,ε⟩ u):=
 ⟨fun b T' qy hw h1 h2 h3 h4=>(h.w _ _ _ hw h1 h2 h3 h4).far ((h.w _ _ _ hw h1 h2 h3 h4).ne_ hg (by rcases hT with rfl|rfl|rfl<;>assumption)) u,by simpa [JbB] using h.s⟩
theorem aJ.grown {g:Nat} {W W':ο} {lo k n c:Nat} {T:Υ} {A:Option Κ} {xs:List ψ} (ho:W.ownsRow lo T k (γ A n c) n xs) (hT:T=59∨T=67∨T=98) (hg:W.grownBy W' (Ο A n c).ownBlock):aJ g W W':=
 ⟨fun b T' qy hw _ h2 h3 h4=>hw.grown hg (bD ho hw (by rcases hT with rfl|rfl|rfl<;>assumption)),hg.size⟩
theorem aJ.box {g b:Nat} {W W':ο} {T:Υ} {cs qy:List ψ} (h:aJ g W W') (hw:Whole W b T cs) (hs:Whole W g 28 qy) (h1:T≠28:=by decide) (h2:T≠59:=by decide) (h3:T≠67:=by decide) (h4:T≠98:=by decide):Whole W' b T cs:=h.w b T cs hw (hw.ne_ hs h1) h2 h3 h4
structure bK (w:ο) (lo g:Nat) (A:Option Κ) (n c:Nat) (Vs:List VC) (B:Option Κ) (m k:Nat) (Es:List EC) (C:Option Κ) (r rc:Nat) (G:List Gn) (W:ο):Prop where
 s:Whole W g 28 [γ A n c,γ B m k,γ C r rc]
 v:W.ownsRow lo 59 5 (γ A n c) n (ah vC Vs)
 e:W.ownsRow lo 67 4 (γ B m k) m (ah eC Es)
 rg:∀x∈Vs,ko W x.2.1
 gn:W.ownsRow lo 98 6 (γ C r rc) r (ah cZ G)
 below:σ w.heap.size w W
 lo_:w.heap.size≤lo
 hi:lo≤W.heap.size
 gl:w.heap.size≤g
theorem ir {W w':ο} {b:Nat} (h:Kept (fun x=>x=b) W w'):W.grownBy w' (ζ b):=oL h
section
variable {w W:ο} {lo g:Nat} {A:Option Κ} {n c:Nat} {Vs:List VC} {B:Option Κ} {m k:Nat} {Es:List EC} {C:Option Κ} {r rc:Nat} {G:List Gn}
theorem bK.up {W':ο} (h:bK w lo g A n c Vs B m k Es C r rc G W) (hb:σ W.heap.size W W'):bK w lo g A n c Vs B m k Es C r rc G W':=
 ⟨h.s.bl hb,bo h.v hb,bo h.e hb,fun x hx=>(h.rg x hx).bl hb,bo h.gn hb,ag h.below hb,h.lo_,Λ h.hi hb.size,h.gl⟩
theorem bK.vlen (h:bK w lo g A n c Vs B m k Es C r rc G W):Vs.length=n:=(aK h.v).rlen aS (by decide)
theorem bK.elen (h:bK w lo g A n c Vs B m k Es C r rc G W):Es.length=m:=(aK h.e).rlen bM (by decide)
theorem bK.setV {A':Option Κ} {n' c':Nat} {Vs':List VC} {W':ο} (h:bK w lo g A n c Vs B m k Es C r rc G W) (hg:W.grownBy W' (Ο A n c).ownBlock) (hv:W'.ownsRow lo 59 5 (γ A' n' c') n' (ah vC Vs')) (hr:∀x∈Vs',x∈Vs∨ko W' x.2.1):
 bK w lo g A' n' c' Vs' B m k Es C r rc G (W'.setCell ⟨g,0,ε⟩ (γ A' n' c')):=by
 have hs:=h.s.grown hg (bD h.v h.s (by decide));have he:=pS h.e h.v (by decide) hg;have Tt:=pS h.gn h.v (by decide) hg;have fw:∀q,(Ο A n c).ownBlock=ζ q→lo≤q:=fun q e=>(h.v.lt q e).1
 refine⟨hs.set_ 0 _,aT hv (bD hv hs (by decide)) _,aT he (bD he hs (by decide)) _,fun x hx=>?_,aT Tt (bD Tt hs (by decide)) _,?_,h.lo_,?_,h.gl⟩
 ·rcases hr x hx with h1|h1
  ·exact((h.rg x h1).grown h.v (by decide) hg).cell hs (by decide) _ _
  ·exact h1.cell hs (by decide) _ _
 ·exact(h.below.grown hg h.below.size (fun q e=>Λ h.lo_ (fw q e))).setCell (p:=⟨g,0,ε⟩) h.gl _
 ·have:=hg.size
  have:=h.hi
  simpa [JbB] using by omega
theorem bK.setE {B':Option Κ} {m' k':Nat} {Es':List EC} {W':ο} (h:bK w lo g A n c Vs B m k Es C r rc G W) (hg:W.grownBy W' (Ο B m k).ownBlock) (he:W'.ownsRow lo 67 4 (γ B' m' k') m' (ah eC Es')):
 bK w lo g A n c Vs B' m' k' Es' C r rc G (W'.setCell ⟨g,1,ε⟩ (γ B' m' k')):=by
 have hs:=h.s.grown hg (bD h.e h.s (by decide));have hv:=pS h.v h.e (by decide) hg;have Tt:=pS h.gn h.e (by decide) hg;have fw:∀q,(Ο B m k).ownBlock=ζ q→lo≤q:=fun q e=>(h.e.lt q e).1
 refine⟨hs.set_ 1 _,aT hv (bD hv hs (by decide)) _,aT he (bD he hs (by decide)) _,fun x hx=>?_,aT Tt (bD Tt hs (by decide)) _,?_,h.lo_,?_,h.gl⟩
 ·exact((h.rg x hx).grown h.e (by decide) hg).cell hs (by decide) _ _
 ·exact(h.below.grown hg h.below.size (fun q e=>Λ h.lo_ (fw q e))).setCell (p:=⟨g,1,ε⟩) h.gl _
 ·have:=hg.size
  have:=h.hi
  simpa [JbB] using by omega
theorem bK.setG {C':Option Κ} {r' iv:Nat} {G':List Gn} {W':ο} (h:bK w lo g A n c Vs B m k Es C r rc G W) (hg:σ W.heap.size W W') (hr:W'.ownsRow lo 98 6 (γ C' r' iv) r' (ah cZ G')):
 bK w lo g A n c Vs B m k Es C' r' iv G' (W'.setCell ⟨g,2,ε⟩ (γ C' r' iv)):=by
 have h1:=h.up hg
 refine⟨h1.s.set_ 2 _,aT h1.v (bD h1.v h1.s (by decide)) _,aT h1.e (bD h1.e h1.s (by decide)) _,fun x hx=>(h1.rg x hx).cell h1.s (by decide) _ _,aT hr (bD hr h1.s (by decide)) _,h1.below.setCell (p:=⟨g,2,ε⟩) h.gl _,h.lo_,?_,h.gl⟩
 have:=h1.hi
 simpa [JbB] using this
theorem bK.dg (h:bK w lo g A n c Vs B m k Es C r rc G W):bz W A n c Vs B m k Es:=⟨aK h.v,aK h.e,fun x hx=>⟨(h.rg x hx).1,(h.rg x hx).2.1⟩⟩
theorem bK.glen (h:bK w lo g A n c Vs B m k Es C r rc G W):G.length=r:=(aK h.gn).rlen bT (by decide)
theorem bK.bl {W':ο} (h:bK w lo g A n c Vs B m k Es C r rc G W) (hb:σ W.heap.size W W'):bK w lo g A n c Vs B m k Es C r rc G W':=h.up hb
theorem bK.al (h:bK w lo g A n c Vs B m k Es C r rc G W) (o:Obj):bK w lo g A n c Vs B m k Es C r rc G (W.alloc o):=h.up (az W o)
theorem bK.dr (h:bK w lo g A n c Vs B m k Es C r rc G W):bK w lo g A n c Vs B m k Es C r rc G W.drew:=h.up (below_drewN W.heap.size W 1)
theorem bK.cellV (h:bK w lo g A n c Vs B m k Es C r rc G W) {i j:Nat} {v v':VC} {u:ψ} (hv:Vs[i]? =ζ v) (hj:j<5) (hc:vC v'=(vC v).set j u) (hr:v'.2.1=v.2.1∨ko W v'.2.1):
 ∃b cs,A=ζ ⟨b,0,ε⟩∧w.heap.size≤b∧Whole W b 59 cs∧W.cell? ⟨b,i*5+j,ε⟩=(vC v)[j]?∧W.frozen? ⟨b,i*5+j,ε⟩=ρ∧bK w lo g A n c (Vs.set i v') B m k Es C r rc G (W.setCell ⟨b,i*5+j,ε⟩ u)∧aJ g W (W.setCell ⟨b,i*5+j,ε⟩ u):=by
 have hi:i<n:=by rw[←h.vlen];exact(ν.1 hv).1
 obtain⟨b,junk,rfl,fw,hw,yC,Iv,ho⟩:=eZ aS h.v hv hi hj hc
 refine⟨b,_,rfl,Λ h.lo_ fw,hw,yC,Iv,⟨h.s.far ((h.s.ne_ hw (by decide))) u,ho,?_,fun x hx=>?_,?_,h.below.setCell (p:=⟨b,i*5+j,ε⟩) (Λ h.lo_ fw) _,h.lo_,by simpa [JbB] using h.hi,h.gl⟩,(aJ.refl g W).setT hw (.inl rfl) _ _⟩
 ·exact aT h.e (bD h.e hw (by decide)) _
 ·rcases List.mem_or_eq_of_mem_set hx with hx|rfl
  ·exact(h.rg x hx).cell hw (by decide) _ _
  ·rcases hr with e|hr
   ·rw[e];exact(h.rg v (ω hv)).cell hw (by decide) _ _
   ·exact hr.cell hw (by decide) _ _
 ·exact aT h.gn (bD h.gn hw (by decide)) _
theorem bK.cellE (h:bK w lo g A n c Vs B m k Es C r rc G W) {i j:Nat} {v v':EC} {u:ψ} (hv:Es[i]? =ζ v) (hj:j<4) (hc:eC v'=(eC v).set j u):
 ∃b cs,B=ζ ⟨b,0,ε⟩∧w.heap.size≤b∧Whole W b 67 cs∧W.cell? ⟨b,i*4+j,ε⟩=(eC v)[j]?∧W.frozen? ⟨b,i*4+j,ε⟩=ρ∧bK w lo g A n c Vs B m k (Es.set i v') C r rc G (W.setCell ⟨b,i*4+j,ε⟩ u)∧aJ g W (W.setCell ⟨b,i*4+j,ε⟩ u):=by
 have hi:i<m:=by rw[←h.elen];exact(ν.1 hv).1
 obtain⟨b,junk,rfl,fw,hw,yC,Iv,ho⟩:=eZ bM h.e hv hi hj hc
 refine⟨b,_,rfl,Λ h.lo_ fw,hw,yC,Iv,⟨h.s.far ((h.s.ne_ hw (by decide))) u,?_,ho,fun x hx=>(h.rg x hx).cell hw (by decide) _ _,?_,h.below.setCell (p:=⟨b,i*4+j,ε⟩) (Λ h.lo_ fw) _,h.lo_,by simpa [JbB] using h.hi,h.gl⟩,(aJ.refl g W).setT hw (.inr (.inl rfl)) _ _⟩
 ·exact aT h.v (bD h.v hw (by decide)) _
 ·exact aT h.gn (bD h.gn hw (by decide)) _
theorem CD (h:bK w lo g A n c Vs B m k Es C r rc G W) (i:Nat) (hi:i<n) (hn:n≤1000):Ζ η 112 #[υ (ζ ⟨g,0,ε⟩),J (i:Int)] W fun e w'=>e=.returned (Ξ #[])∧∃A' c',bK w lo g A' (n - 1) c' (Vs.eraseIdx i) B m k Es C r rc G w'∧aJ g W w':=by
 have hl:Vs.length=n:=h.vlen;obtain⟨b,junk,rfl,fw,hW,ln,pU,oz,j9⟩:=cN h.v (by omega);have HD:=qh (Oc b c i n Vs junk W hW hl ln oz hi);have Fb:(ah vC (Vs.eraseIdx i)).length=(n - 1)*5:=by rw[cj vC aS,List.length_eraseIdx,if_pos (by omega),hl]
 have HF:Hid (∀w',Whole w' b 59 (ah vC (Vs.eraseIdx i)++([J 0,J 0,γ ε 0 0,μ {data:=#[]},J 0]++junk))→Kept (fun x=>x=b) W w'→bK w lo g (ζ ⟨b,0,ε⟩) (n - 1) c (Vs.eraseIdx i) B m k Es C r rc G (w'.setCell ⟨g,0,ε⟩ (γ (ζ ⟨b,0,ε⟩) (n - 1) c))):=qh (fun w' h1 h2=>h.setV (ir h2) (kk (junk:=[J 0,J 0,γ ε 0 0,μ {data:=#[]},J 0]++junk) h1 fw (by
  rw[Ε,Fb,Ε,show([J 0,J 0,γ ε 0 0,μ {data:=#[]},J 0]:List ψ).length=5 from rfl];rw[Ε,j9] at ln;omega) (by omega) oz Fb) (fun x hx=>.inl (List.mem_of_mem_eraseIdx hx)))
 have XF:Hid (∀w',Kept (fun x=>x=b) W w'→aJ g W (w'.setCell ⟨g,0,ε⟩ (γ (ζ ⟨b,0,ε⟩) (n - 1) c))):=qh (fun w' h2=>(aJ.grown h.v (.inl rfl) (ir h2)).setS _ _);have HS:=qh h.s;have bj:b≠g:=fun e=>bD h.v h.s (by decide) (by rw[←e];rfl)
 have c0:=h.s.cell (i:=0) rfl;have ia:Jaw.wrap ((i:Int)+1)=(i:Int)+1:=by rw[JaT];omega
 have Hk:Hid (∀w',Kept (fun x=>x=b) W w'→(w'.cell? ⟨g,0,ε⟩).isSome=τ∧w'.frozen? ⟨g,0,ε⟩=ρ):=qh (fun w' h2=>by
  have hs:=HS.out.grown (ir h2) (fun e=>bj (Μ e).symm);exact⟨by rw[hs.cell (i:=0) rfl];rfl,hs.free _⟩)
 clear hW ln j9 Fb h bj;go_enter Tryz.func112,Tryz.ntmps112
 go_wp2_with (first
  |(go_at_call 139
    refine HD.out.mono ?_;rintro e w3 ⟨rfl,h1,h2⟩;have HF3:=qh (HF.out w3 h1 h2);have BF:=qh (XF.out w3 h2);obtain⟨vW,rC⟩:=Hk.out w3 h2;obtain⟨vk,vW⟩:=Option.isSome_iff_exists.1 vW;clear h1 h2))
 go_end0;exact⟨rfl,_,_,HF3.out,BF.out⟩
theorem Ds (h:bK w lo g A n c Vs B m k Es C r rc G W) (i:Nat) (hi:i<m) (hn:m≤1000):Ζ η 124 #[υ (ζ ⟨g,0,ε⟩),J (i:Int)] W fun e w'=>e=.returned (Ξ #[])∧∃B' k',bK w lo g A n c Vs B' (m - 1) k' (Es.eraseIdx i) C r rc G w'∧aJ g W w':=by
 have hl:Es.length=m:=h.elen;obtain⟨b,junk,rfl,fw,hW,ln,pU,oz,j9⟩:=cN h.e (by omega);have HD:=qh (OM b k i m Es junk W hW hl ln oz hi);have Fb:(ah eC (Es.eraseIdx i)).length=(m - 1)*4:=by rw[cj eC bM,List.length_eraseIdx,if_pos (by omega),hl]
 have HF:Hid (∀w',Whole w' b 67 (ah eC (Es.eraseIdx i)++([J 0,J 0,μ {data:=#[]},J 0]++junk))→Kept (fun x=>x=b) W w'→bK w lo g A n c Vs (ζ ⟨b,0,ε⟩) (m - 1) k (Es.eraseIdx i) C r rc G (w'.setCell ⟨g,1,ε⟩ (γ (ζ ⟨b,0,ε⟩) (m - 1) k))):=qh (fun w' h1 h2=>h.setE (ir h2) (kk (junk:=[J 0,J 0,μ {data:=#[]},J 0]++junk) h1 fw (by
  rw[Ε,Fb,Ε,show([J 0,J 0,μ {data:=#[]},J 0]:List ψ).length=4 from rfl];rw[Ε,j9] at ln;omega) (by omega) oz Fb))
 have XF:Hid (∀w',Kept (fun x=>x=b) W w'→aJ g W (w'.setCell ⟨g,1,ε⟩ (γ (ζ ⟨b,0,ε⟩) (m - 1) k))):=qh (fun w' h2=>(aJ.grown h.e (.inr (.inl rfl)) (ir h2)).setS _ _);have HS:=qh h.s;have bj:b≠g:=fun e=>bD h.e h.s (by decide) (by rw[←e];rfl)
 have c0:=h.s.cell (i:=1) rfl;have ia:Jaw.wrap ((i:Int)+1)=(i:Int)+1:=by rw[JaT];omega
 have Hk:Hid (∀w',Kept (fun x=>x=b) W w'→(w'.cell? ⟨g,1,ε⟩).isSome=τ∧w'.frozen? ⟨g,1,ε⟩=ρ):=qh (fun w' h2=>by
  have hs:=HS.out.grown (ir h2) (fun e=>bj (Μ e).symm);exact⟨by rw[hs.cell (i:=1) rfl];rfl,hs.free _⟩)
 clear hW ln j9 Fb h bj;go_enter Tryz.func124,Tryz.ntmps124
 go_wp2_with (first
  |(go_at_call 154
    refine HD.out.mono ?_;rintro e w3 ⟨rfl,h1,h2⟩;have HF3:=qh (HF.out w3 h1 h2);have BF:=qh (XF.out w3 h2);obtain⟨vW,rC⟩:=Hk.out w3 h2;obtain⟨vk,vW⟩:=Option.isSome_iff_exists.1 vW;clear h1 h2))
 go_end0;exact⟨rfl,_,_,HF3.out,BF.out⟩
end
theorem xm {P:Program} {fn:Func} {R:Ending→ο→Prop} {a:Act} {w:ο} {p:Tmp} {t:Υ} (h:fn.results=#[.cell p t]) (g:Nat) {t':Υ} {cs:List ψ} {d:TypeDesc}
 (hp:a.tmps.getD p undef=υ (ζ ⟨g,0,ε⟩)) (hW:Whole w g t' cs) (hu:P.underlying t=ζ d) (hd:d.isRow=τ) (hi:(P.info? t).map (·.size)=ζ cs.length)
 (Qe:a.defers=[]) (hR:R (.returned (φ cs.toArray)) w):bodyPost P fn R .ret a w:=by
 refine bodyPost_ret (v:=φ cs.toArray) ?_ Qe hR
 have hl:=run_loadVar_mid (P:=P) w g 0 t cs d (fun j v hv=>by
  have:=hW.cell hv
  simpa using this) hu hd hi
 have ob:=hp;rw[Array.getD_eq_getD_getElem?] at ob;simp[results,h,ob,asAddr,Sem.run_bind,Result.andThen,hl]
theorem lH (x1 x2:Int) (w:ο):Ζ η 115 #[φ #[J x1,J x2]] w fun e w'=>e=.returned (φ #[J x1,J x2,J 0,J x1,J x2,J 1])∧σ w.heap.size w w':=by
 have hB:=qh (aI (az w (δ #[J x1,J x2] 30)) (δ #[J x1,J x2,J 0,J x1,J x2,J 1] 141));have hW:Hid (Whole ((w.alloc (δ #[J x1,J x2] 30)).alloc (δ #[J x1,J x2,J 0,J x1,J x2,J 1] 141)) (w.heap.size+1) 141 [J x1,J x2,J 0,J x1,J x2,J 1]):=qh (Whole.new2 (by simp));go_enter Tryz.func115,Tryz.ntmps115;go_wp2;exact xm rfl (w.heap.size+1) rfl hW.out Tryz.underlying141 rfl (by kernel_rfl) rfl ⟨rfl,hB.out⟩
theorem Ue (G:List Gn) (x:Gn) (i n:Nat) (cf:Nat→Int) (hl:G.length=n) (IC:∀t y,G[t]? =ζ y→cH y x=cf t) (h1:∀t,t<i→cf t<0) (h2:∀t,i≤t→t<n→0≤cf t) (mX:∀t,t<n→cf t=0→∀s,s<t→cf s<0):
 (G.any fun y=>decide (y.1=x.1))=(decide (i<n) && decide (cf i=0)):=by
 have hz:∀y:Gn,cH y x=0↔y.1=x.1:=fun y=>by
  unfold cH;rw[pM];exact⟨fun h=>Prod.ext h.1 (Prod.ext h.2.1 h.2.2),fun h=>by rw[h];exact⟨rfl,rfl,rfl⟩⟩
 rw[Bool.eq_iff_iff,List.any_eq_true,Jar,decide_eq_true_iff,decide_eq_true_iff];constructor
 ·rintro⟨y,hy,e⟩;obtain⟨t,ht,rfl⟩:=List.getElem_of_mem hy;have hg:G[t]? =ζ G[t]:=θ ht;have hc:cf t=0:=by rw[←IC t _ hg];exact(hz _).2 (of_decide_eq_true e)
  have hit:i≤t:=by
   rcases JaM t i with q|q
   ·have:=h1 t q;omega
   ·exact q
  have hti:t=i:=by
   rcases JaM i t with q|q
   ·have:=mX t (by omega) hc i q
    have:=h2 i (Δ _) (by omega)
    omega
   ·omega
  exact⟨by omega,by rw[←hti];exact hc⟩
 ·rintro⟨hi,hc⟩;have hg:G[i]? =ζ G[i]:=θ (by omega);exact⟨G[i],List.getElem_mem _,decide_eq_true ((hz _).1 (by rw[IC i _ hg];exact hc))⟩
theorem Jg {G:List Gn} {x:Gn} (h:(G.any fun y=>decide (y.1=x.1))=ρ) (hn:¬G.length≥400):dP G x=rq G x:=by unfold dP;rw[h,if_neg (by simpa using hn)]
theorem Js {G:List Gn} {x:Gn} (h:(G.any fun y=>decide (y.1=x.1))=ρ) (hn:G.length≥400):dP G x=G:=by unfold dP;rw[h,if_pos (by simpa using hn)]
theorem Ei {G:List Gn} {x:Gn} (h:(G.any fun y=>decide (y.1=x.1))=τ) (hn:¬G.length - 1≥400):dP G x=rq G x:=by unfold dP;rw[h,if_neg (by simpa using hn)]
theorem MJ (A:Option Κ) (n c:Nat) (G:List Gn) (x:Gn) (w:ο) (h:bg w w.heap.size 6 A n c (ah cZ G)) (hn:n≤400) (cf:Nat→Int) (IC:∀t y,G[t]? =ζ y→cH y x=cf t) (ku:∀a b,a≤b→b<n→cf b<0→cf a<0) (mX:∀t,t<n→cf t=0→∀s,s<t→cf s<0):
 Ζ η 150 #[γ A n c,φ #[J x.1.1,J x.1.2.1,J x.1.2.2,J x.2.1,J x.2.2.1,J x.2.2.2]] w fun e w'=>∃A' c',e=.returned (.slice A' (dP G x).length c')∧w'.ownsRow w.heap.size 98 6 (.slice A' (dP G x).length c') (dP G x).length (ah cZ (dP G x))∧σ w.heap.size w w':=by
 have H:=qh h;have Hl:=qh (h.rlen bT (by decide));have Pd:=qh IC;have HM:=qh ku;obtain⟨G2,gG2⟩:=aB (dP G x);obtain⟨N2,gN2⟩:=aB G2.length;rw[gG2,gN2];have dQ:=qh gG2;have Xc:=qh gN2;have afJ:=qh mX;clear h IC ku mX gG2 gN2;go_enter Tryz.func150,Tryz.ntmps150
 go_upto_if 20 with (first
  |(go_at_call 81
    refine(GF A n c (ah cZ G) _ (by exact H.out.bl (az _ _)) (bU cZ kz G) (by omega)).mono ?_
    rintro e w1 ⟨A1,c1,rfl,XP⟩;have nb:=qh XP;have aL:=qh ((Whole.new_ w 98 [J x.1.1,J x.1.2.1,J x.1.2.2,J x.2.1,J x.2.2.1,J x.2.2.2]).below XP.below);have bE:Hid (σ w.heap.size w w1):=qh (ag (az w (δ #[J x.1.1,J x.1.2.1,J x.1.2.2,J x.2.1,J x.2.2.1,J x.2.2.2] 98)) XP.below);have l0:=aL.out.cell (i:=0) rfl;have l1:=aL.out.cell (i:=1) rfl;have l2:=aL.out.cell (i:=2) rfl;clear XP)
  |(go_at_call 165
    refine(DK A n c G x.1.1 x.1.2.1 x.1.2.2 _ (by exact H.out.bl bE.out) (by omega) cf Pd.out HM.out).mono ?_
    rintro e w2 ⟨i,jm,KH,Rj,rfl,aP⟩;have HI:=qh (Gj G x i cf Pd.out (by rw[Hl.out];exact jm) KH (by rw[Hl.out];exact Rj));have acS:=qh (Ue G x i n cf Hl.out Pd.out KH Rj afJ.out);have iN:=qh (nb.out.up aP);have aZ:=qh (aL.out.below aP);have bG:=qh (ag bE.out aP);clear KH Rj aP nb aL bE l0 l1 l2 H Pd HM))
 obtain⟨bt,xY⟩:=aB ((decide (i<n) && decide (cf i=0)));rw[xY];have Vy:=qh (acS.out.trans xY);have Gbt:=qh xY;clear xY;have l0:=aZ.out.cell (i:=0) rfl;have l1:=aZ.out.cell (i:=1) rfl;have l2:=aZ.out.cell (i:=2) rfl;have l3:=aZ.out.cell (i:=3) rfl;have l4:=aZ.out.cell (i:=4) rfl;have l5:=aZ.out.cell (i:=5) rfl;cases bt with
 |false=>
  by_cases h4:n=400
  ·have q1:(400:Int)≤(n:Int):=by omega
   have q2:400≤n:=by omega
   have Q1:Hid (G2=G):=qh (by rw[←dQ.out,Js Vy.out (by rw[Hl.out];show n≥400;omega)]);have hN:N2=n:=by rw[←Xc.out,Q1.out,Hl.out]
   have XN:Hid (w2.ownsRow w.heap.size 98 6 (γ A1 n c1) n (ah cZ G2)):=qh (by rw[Q1.out];exact eG iN.out.own (by simp));clear HI aZ iN;subst hN;go_wp2;go_ret;exact⟨_,_,rfl,XN.out,bG.out⟩
  ·have q1:¬(400:Int)≤(n:Int):=by omega
   have q2:¬400≤n:=by omega
   have Q1:Hid (G2=G.take i++x::G.drop i):=qh (by
    rw[←dQ.out,Jg Vy.out (by rw[Hl.out];show ¬n≥400;omega),HI.out,if_neg];rintro⟨q3,q4⟩;have hb:=Gbt.out;rw[decide_eq_true (show i<n by rw[←Hl.out];exact q3),decide_eq_true q4] at hb;cases hb)
   clear HI
   go_wp2_with (first
    |(go_at_call 168
      refine(EZ x (by exact iN.out.up (az w2 _)) (by exact Whole.new_ w2 98 (cZ x)) (by exact Ow.ne_ iN.out (Δ _)) (by omega) jm).mono ?_
      rintro e w4 ⟨A4,c4,rfl,YL⟩;have KQ:=qh YL;clear YL iN aZ bG l0 l1 l2 l3 l4 l5))
   have hN:N2=n+1:=by
    rw[←Xc.out,Q1.out,Ε,JaH,JaA,Jaz,Hl.out];omega
   have hr4:=KQ.out.own;rw[←Q1.out] at hr4;have XN:=qh (eG hr4 (B':=w.heap.size) (by simp));have kC:Hid (σ w.heap.size w w4):=qh (ag (az w (δ #[J x.1.1,J x.1.2.1,J x.1.2.2,J x.2.1,J x.2.2.1,J x.2.2.2] 98)) KQ.out.below);clear hr4 KQ;subst hN;go_wp2;go_ret;exact⟨A4,c4,rfl,XN.out,kC.out⟩
 |true=>
  have hb:=Gbt.out;rw[Jar,decide_eq_true_iff,decide_eq_true_iff] at hb;have dz:=hb.1
  have Q1:Hid (G2=G.set i x):=qh (by
   rw[←dQ.out,Ei Vy.out (by rw[Hl.out];show ¬n - 1≥400;omega),HI.out,if_pos ⟨by rw[Hl.out];exact hb.1,hb.2⟩])
  obtain⟨p,hp⟩:=aB (n - 1);have e1:(n:Int) - 1=(p:Int):=by omega
  have e2:Jaw.wrap (p:Int)=(p:Int):=IntWalk.i64_in _ (by omega);have q3:decide ((400:Int)≤(p:Int))=ρ:=decide_eq_false (by omega);have q4:decide (400≤p)=ρ:=decide_eq_false (by omega);obtain⟨b,junk,rfl,fw,hW,ln,pU,oz,j9⟩:=cN iN.out.own (by omega);have hN:N2=n:=by rw[←Xc.out,Q1.out,JbD,Hl.out]
  have oI:σ w.heap.size w (w2.setCells b (i*6) (cZ x)):=below_setCells bG.out (by have:=fw;simp at this;omega) _ _;have hW3:=hW.cells_ (cZ x) (i*6) w2 _ (by rw[ln,bT];omega);rw[tE bT G junk i x (by rw[Hl.out];exact dz),←Q1.out] at hW3;have jd:(ah cZ G2).length=n*6:=by rw[cj cZ bT,Xc.out,hN]
  have hO3:=kk hW3 fw (by rw[Ε,jd,←ln,Ε,j9]) pU oz jd;have o8:=qh (eG hO3 (B':=w.heap.size) (by simp));have bB:=qh oI;have HTh:=qh (hW.there_ (i*6) 6 (by rw[ln];omega));have RG:(i:Int)<(n:Int):=by omega
  clear HI Q1 hb fw hW ln oz j9 oI hW3 jd hO3 iN bG hp;subst hN;go_upto_region 9 with fail
  refine wp_region_lit ?_;refine a7 (v:=?_) (ζ 27) rfl (by rfl) ?_ ?_;rotate_left
  ·go_simp;(try with_reducible rfl)
  simp only[ξ,aw,ar,aq];refine a7 (v:=?_) (ζ 28) rfl (by rfl) ?_ ?_;rotate_left
  ·go_simp;(try with_reducible rfl)
  simp only[ξ,aw,ar,aq];refine eJ (ζ 29) rfl (by rfl) 98 (.tmp 3) rfl _ rfl 98 (cZ x) _ (by exact aZ.out) Tryz.underlying98 rfl (by kernel_rfl) ?_;simp only[ξ,aw,ar,aq];refine a7 (v:=?_) (ζ 30) rfl (by rfl) ?_ ?_;rotate_left
  ·go_simp;(try with_reducible rfl)
  simp only[ξ,aw,ar,aq];refine jC rfl (by rfl) (qz 98 (.tmp 30) (.tmp 29) rfl b (i*6) rfl (cZ x) rfl HTh.out (by kernel_rfl) (kz x)) ?_;clear l0 l1 l2 l3 l4 l5 aZ HTh;go_wp2;go_ret;exact⟨_,_,rfl,o8.out,bB.out⟩
section
variable {w W:ο} {lo g:Nat} {A:Option Κ} {n c:Nat} {Vs:List VC} {B:Option Κ} {m k:Nat} {Es:List EC} {C:Option Κ} {r rc:Nat} {G:List Gn}
theorem Cs {W W1 W2:ο} {r:Option Nat} (h:W.grownBy W1 r) (hb:σ W1.heap.size W1 W2):W.grownBy W2 r:=⟨hb.os.trans h.os,hb.tape.trans h.tape,hb.output.trans h.output,Λ h.size hb.size,fun q hq hn=>(hb.block q (JaK hq h.size)).trans (h.block q hq hn)⟩
theorem CU (h:bK w lo g A n c Vs B m k Es C r rc G W) (v:VC) (hv:ko W v.2.1) (hn:n≤1000) (hu:od (fun v:VC=>v.1) Vs) (hx:∀u∈Vs,¬u.1=v.1):Ζ η 111 #[υ (ζ ⟨g,0,ε⟩),φ (vC v).toArray] W fun e w'=>e=.returned (Ξ #[])∧∃A' c',bK w lo g A' (n+1) c' (kq (fun v:VC=>v.1) Vs v) B m k Es C r rc G w'∧aJ g W w':=by
 obtain⟨⟨i1,i2⟩,⟨rA,rn,jg,rL⟩,lb,at_⟩:=v;have Hv:=qh hv;clear hv;have Pd:Hid (∀t x,Vs[t]? =ζ x→dW x.1 (i1,i2)=dW (Vs.getD t ((i1,i2),(rA,rn,jg,rL),lb,at_)).1 (i1,i2)):=qh (fun t x ht=>by rw[χ,ht];rfl);have hlen:=h.vlen;have WE:=qh (fun q e=>(h.v.lt q e).2)
 have BO:Hid (∀a b,a≤b→b<n→dW (Vs.getD b ((i1,i2),(rA,rn,jg,rL),lb,at_)).1 (i1,i2)<0→dW (Vs.getD a ((i1,i2),(rA,rn,jg,rL),lb,at_)).1 (i1,i2)<0):=qh (fun a b s8 hb h0=>by
  rcases JaM a b with h1|h1
  ·have ea:=θ (l:=Vs) (i:=a) (by omega);have eb:=θ (l:=Vs) (i:=b) (by omega);rw[χ,ea];rw[χ,eb] at h0;exact lW ((List.pairwise_iff_getElem.1 hu) a b (by omega) (by omega) h1) h0
  ·obtain rfl:a=b:=by omega
   exact h0)
 have OC:Hid (∀i,i≤n→(∀t,t<i→dW (Vs.getD t ((i1,i2),(rA,rn,jg,rL),lb,at_)).1 (i1,i2)<0)→(∀t,i≤t→t<n→0≤dW (Vs.getD t ((i1,i2),(rA,rn,jg,rL),lb,at_)).1 (i1,i2))→Vs.take i++((i1,i2),(rA,rn,jg,rL),lb,at_)::Vs.drop i=kq (fun v:VC=>v.1) Vs ((i1,i2),(rA,rn,jg,rL),lb,at_)):=qh (fun i hi h1 h2=>by
  refine(Aa (k:=(fun v:VC=>v.1)) (v:=((i1,i2),(rA,rn,jg,rL),lb,at_)) (by omega) (fun t u ht dz=>?_) (fun t u ht hle=>?_)).symm
  ·have:=h1 t dz
   rw[χ,ht] at this;exact this
  ·have h3:=h2 t hle (by have:=(ν.1 ht).1;omega);rw[χ,ht] at h3;have h4:¬dW u.1 (i1,i2)=0:=fun e=>hx u (ω ht) ((jA _ _).1 e)
   have h5:0≤dW u.1 (i1,i2):=h3;show 0<dW u.1 (i1,i2);omega)
 have fp:=az W (δ #[J i1,J i2,γ rA rn jg,μ lb,J at_] 59);have H0:=qh (h.up fp);have aQ:Hid (Whole (W.alloc (δ #[J i1,J i2,γ rA rn jg,μ lb,J at_] 59)) W.heap.size 59 [J i1,J i2,γ rA rn jg,μ lb,J at_]):=qh (Whole.new_ _ _ _);have bw:=qh fp;clear h fp hu hx hlen;show Ζ η 111 #[υ (ζ ⟨g,0,ε⟩),φ #[J i1,J i2,γ rA rn jg,μ lb,J at_]] W _;go_enter Tryz.func111,Tryz.ntmps111;go_upto_region 1 with fail
 obtain⟨W0,bO⟩:=aB (W.alloc (δ #[J i1,J i2,γ rA rn jg,μ lb,J at_] 59));obtain⟨b0,bp⟩:=aB W.heap.size;rw[bO] at H0 aQ bw ⊢;rw[bp] at aQ;rw[bp];have KU:Hid (∀q,(Ο A n c).ownBlock=ζ q→q<b0):=qh (fun q e=>by have:=(WE.out q e);omega);clear bO bp;have fL:∀w',Kept aO W0.drew w'→w'.cell? ⟨g,0,ε⟩=ζ (γ A n c):=fun w' h=>h.nil_cell (H0.out.dr.s.cell (i:=0) rfl)
 have ld1:=cm (i:=0) aQ.out rfl;have ka:=cm (i:=1) aQ.out rfl;refine ay (aO) (by kernel_rfl) ?_;refine aa 0 ?_;refine aa 1 ?_;refine aa 2 ?_;refine aa 3 ?_;refine aa 4 ?_;refine aa 5 ?_;refine aa 6 ?_;refine mw 7 ?_;intro w' aC
 refine(Q9 A n c Vs i1 i2 w' (aK (H0.out.dr.bl aC).v) (by omega) _ Pd.out BO.out).mono ?_
 rintro e w2 ⟨i,hi,h1,h2,rfl,aP⟩
 refine⟨_,rfl,Kept.of_below aP,?_⟩
 have HI:=qh (OC.out i hi h1 h2);have H2:=qh ((H0.out.dr.bl aC).bl aP);have aZ:=qh ((aQ.out.dr.bl aC).bl aP);have bG:=qh (ag (ag (aN bw.out) aC) aP);clear aP aC h1 h2 fL ld1 ka H0 aQ bw OC Pd BO;simp only[ξ,aw,ar,aq];refine aa 8 ?_;refine aa 9 ?_;refine aa 10 ?_;refine aa 11 ?_;refine aa 12 ?_;refine aF (by kernel_rfl) ?_ _;intro w3 du;have H3:=qh (H2.out.bl du);have cF:=qh (aZ.out.bl du);have bB:=qh (ag bG.out du);clear du H2 aZ bG;go_upto_region 2 with fail
 obtain⟨OB,R4⟩:=aB ((Ο A n c).ownBlock);have hgo:¬ζ g=OB:=by rw[←R4];exact bD H3.out.v H3.out.s (by decide)
 have AS:¬ζ b0=OB:=fun e=>by have:=KU.out b0 (R4.trans e.symm);omega
 have GOB:=qh R4;clear R4;have fL:∀w',Kept (fun x=>ζ x=OB) w3.drew w'→w'.cell? ⟨g,0,ε⟩=ζ (γ A n c):=fun w' h=>h.cell (H3.out.dr.s.cell (i:=0) rfl) hgo
 have l0:∀w',Kept (fun x=>ζ x=OB) w3.drew w'→w'.cell? ⟨b0,0,ε⟩=ζ (J i1):=fun w' h=>h.cell (cF.out.dr.cell (i:=0) rfl) AS
 have l1:∀w',Kept (fun x=>ζ x=OB) w3.drew w'→w'.cell? ⟨b0,1,ε⟩=ζ (J i2):=fun w' h=>h.cell (cF.out.dr.cell (i:=1) rfl) AS
 have l2:∀w',Kept (fun x=>ζ x=OB) w3.drew w'→w'.cell? ⟨b0,2,ε⟩=ζ (γ rA rn jg):=fun w' h=>h.cell (cF.out.dr.cell (i:=2) rfl) AS
 have l3:∀w',Kept (fun x=>ζ x=OB) w3.drew w'→w'.cell? ⟨b0,3,ε⟩=ζ (μ lb):=fun w' h=>h.cell (cF.out.dr.cell (i:=3) rfl) AS
 have l4:∀w',Kept (fun x=>ζ x=OB) w3.drew w'→w'.cell? ⟨b0,4,ε⟩=ζ (J at_):=fun w' h=>h.cell (cF.out.dr.cell (i:=4) rfl) AS
 refine cI (fun x=>ζ x=OB) [13] (by kernel_rfl) ?_;refine aU 0 ?_;refine aU 1 ?_;refine aU 2 ?_;refine aU 3 ?_;refine aU 4 ?_;refine aU 5 ?_;refine aU 6 ?_;refine aU 7 ?_;refine lM 8 ?_;intro w' aC;have j8:=qh ((H3.out.dr.bl aC).al (δ #[J i1,J i2,γ rA rn jg,μ lb,J at_] 59));have Qi:Hid (Whole (w'.alloc (δ #[J i1,J i2,γ rA rn jg,μ lb,J at_] 59)) w'.heap.size 59 [J i1,J i2,γ rA rn jg,μ lb,J at_]):=qh (Whole.new_ _ _ _)
 have VN:Hid (ζ w'.heap.size≠(Ο A n c).ownBlock):=qh (fun e=>by
  have:=((H3.out.dr.bl aC).v.lt w'.heap.size e.symm).2
  omega)
 have kC:=qh (aI (ag (aN bB.out) aC) (δ #[J i1,J i2,γ rA rn jg,μ lb,J at_] 59))
 refine⟨_,w'.alloc (δ #[J i1,J i2,γ rA rn jg,μ lb,J at_] 59),by(go_simp;first|done|exact rfl|exact⟨rfl,rfl⟩),Kept.of_below (az _ _),?_⟩
 obtain⟨b4,BJ⟩:=aB w'.heap.size;obtain⟨W4,uQ⟩:=aB (w'.alloc (δ #[J i1,J i2,γ rA rn jg,μ lb,J at_] 59));rw[uQ] at j8 Qi kC;rw[BJ] at Qi VN;rw[uQ,BJ];clear aC uQ BJ fL l0 l1 l2 l3 l4 H3 cF bB;simp only[ξ,aw,ar,aq];refine CR 9 ?_;intro w' aC
 refine(zN (w:=w) (B:=lo) (G:=Vs) ((i1,i2),(rA,rn,jg,rL),lb,at_) ⟨(j8.out.bl aC).v,(j8.out.bl aC).below,j8.out.lo_,(j8.out.bl aC).hi⟩ (by exact Qi.out.bl aC) VN.out (by omega) hi).mono ?_
 rintro e w5 ⟨A5,c5,rfl,KS,uu⟩;rw[HI.out] at KS
 have HF5:Hid (∀W5,σ w5.heap.size w5 W5→bK w lo g A5 (n+1) c5 (kq (fun v:VC=>v.1) Vs ((i1,i2),(rA,rn,jg,rL),lb,at_)) B m k Es C r rc G (W5.setCell ⟨g,0,ε⟩ (γ A5 (n+1) c5))∧(∃u,W5.cell? ⟨g,0,ε⟩=ζ u)∧W5.frozen? ⟨g,0,ε⟩=ρ∧aJ g W (W5.setCell ⟨g,0,ε⟩ (γ A5 (n+1) c5))):=qh (fun W5 fP=>by
  have hS:=j8.out.bl aC;have hg:=Cs uu fP;have hs:=hS.s.grown hg (bD hS.v hS.s (by decide))
  refine⟨hS.setV hg (bo KS.own fP) (fun x hx=>by
   rcases cy.1 hx with rfl|hx
   ·exact .inr ((((Hv.out.bl kC.out).bl aC).grown hS.v (by decide) hg))
   ·exact .inl hx),⟨_,hs.cell (i:=0) rfl⟩,hs.free _,?_⟩
  exact((aJ.of_below kC.out).trans ((aJ.of_below aC).trans (aJ.grown hS.v (.inl rfl) hg))).setS _ _)
 refine⟨_,rfl,⟨uu.os,uu.tape,uu.output,uu.size,fun q hq hn=>uu.block q hq (fun e=>hn (e.trans GOB.out))⟩,?_⟩
 clear aC KS uu j8 Qi VN kC HI;simp only[ξ,aw,ar,aq];refine lM 10 ?_;intro w' aC;apply JaG;apply JaG;apply Jax
 ·go_simp;first|done|exact⟨rfl,rfl⟩|exact rfl
 apply Jax
 ·exact Kept.refl _ _
 have wW:=aC;clear aC;simp only[ξ,aw,ar,aq];refine lM 11 ?_;intro w' aC;replace aC:=Ext.trans wW aC;apply JaG;apply JaG;apply Jax
 ·go_simp;first|done|exact⟨rfl,rfl⟩|exact rfl
 apply Jax
 ·exact Kept.refl _ _
 have GH:=aC;clear aC;simp only[ξ,aw,ar,aq];refine aU 12 ?_;refine qu 13 ?_;intro w' aC;replace aC:=Ext.trans GH aC;clear GH;obtain⟨oH,⟨u5,Ph⟩,YU,Se⟩:=HF5.out w' aC;have MR:=qh oH;have ki:=qh Se;clear oH Se
 refine⟨w'.setCell ⟨g,0,ε⟩ (γ A5 (n+1) c5),by(go_simp;first|done|exact rfl|exact⟨rfl,rfl⟩),?_⟩
 clear Ph YU;obtain⟨W7,tr⟩:=aB (w'.setCell ⟨g,0,ε⟩ (γ A5 (n+1) c5));rw[tr] at MR ki ⊢;clear tr aC HF5;(try simp only[ξ,aw,ar,aq]);refine gG (by kernel_rfl) ?_ _;intro w8 cg;have Sw:=qh (MR.out.bl cg);have mc:=qh (ki.out.trans (aJ.of_below cg));clear cg MR ki;go_wp2;go_end0;exact⟨rfl,by first|exact⟨_,_,Sw.out,mc.out⟩|exact⟨⟨_,_,Sw.out⟩,mc.out⟩⟩
theorem wh (h:bK w lo g A n c Vs B m k Es C r rc G W) (i1 i2:Int) (hn:m≤1000) (hu:od (fun v:EC=>v.1) Es) (hx:∀u∈Es,¬u.1=(i1,i2)):Ζ η 116 #[υ (ζ ⟨g,0,ε⟩),φ #[J i1,J i2]] W fun e w'=>e=.returned (Ξ #[])∧∃A' c',bK w lo g A n c Vs A' (m+1) c' (kq (fun v:EC=>v.1) Es ((i1,i2),Jaf,0)) C r rc G w'∧aJ g W w':=by
 have Pd:Hid (∀t x,Es[t]? =ζ x→dW x.1 (i1,i2)=dW (Es.getD t ((i1,i2),Jaf,0)).1 (i1,i2)):=qh (fun t x ht=>by rw[χ,ht];rfl);have hlen:=h.elen;have WE:=qh (fun q e=>(h.e.lt q e).2)
 have BO:Hid (∀a b,a≤b→b<m→dW (Es.getD b ((i1,i2),Jaf,0)).1 (i1,i2)<0→dW (Es.getD a ((i1,i2),Jaf,0)).1 (i1,i2)<0):=qh (fun a b s8 hb h0=>by
  rcases JaM a b with h1|h1
  ·have ea:=θ (l:=Es) (i:=a) (by omega);have eb:=θ (l:=Es) (i:=b) (by omega);rw[χ,ea];rw[χ,eb] at h0;exact lW ((List.pairwise_iff_getElem.1 hu) a b (by omega) (by omega) h1) h0
  ·obtain rfl:a=b:=by omega
   exact h0)
 have OC:Hid (∀i,i≤m→(∀t,t<i→dW (Es.getD t ((i1,i2),Jaf,0)).1 (i1,i2)<0)→(∀t,i≤t→t<m→0≤dW (Es.getD t ((i1,i2),Jaf,0)).1 (i1,i2))→Es.take i++((i1,i2),Jaf,0)::Es.drop i=kq (fun v:EC=>v.1) Es ((i1,i2),Jaf,0)):=qh (fun i hi h1 h2=>by
  refine(Aa (k:=(fun v:EC=>v.1)) (v:=((i1,i2),Jaf,0)) (by omega) (fun t u ht dz=>?_) (fun t u ht hle=>?_)).symm
  ·have:=h1 t dz
   rw[χ,ht] at this;exact this
  ·have h3:=h2 t hle (by have:=(ν.1 ht).1;omega);rw[χ,ht] at h3;have h4:¬dW u.1 (i1,i2)=0:=fun e=>hx u (ω ht) ((jA _ _).1 e)
   have h5:0≤dW u.1 (i1,i2):=h3;show 0<dW u.1 (i1,i2);omega)
 have fp:=az W (δ #[J i1,J i2] 30);have H0:=qh (h.up fp);have aQ:Hid (Whole (W.alloc (δ #[J i1,J i2] 30)) W.heap.size 30 [J i1,J i2]):=qh (Whole.new_ _ _ _);have bw:=qh fp;clear h fp hu hx hlen;go_enter Tryz.func116,Tryz.ntmps116;go_upto_region 1 with fail
 obtain⟨W0,bO⟩:=aB (W.alloc (δ #[J i1,J i2] 30));obtain⟨b0,bp⟩:=aB W.heap.size;rw[bO] at H0 aQ bw ⊢;rw[bp] at aQ;rw[bp];have KU:Hid (∀q,(Ο B m k).ownBlock=ζ q→q<b0):=qh (fun q e=>by have:=(WE.out q e);omega);clear bO bp;have fL:∀w',Kept aO W0.drew w'→w'.cell? ⟨g,1,ε⟩=ζ (γ B m k):=fun w' h=>h.nil_cell (H0.out.dr.s.cell (i:=1) rfl)
 have ld1:=cm (i:=0) aQ.out rfl;have ka:=cm (i:=1) aQ.out rfl;refine ay (aO) (by kernel_rfl) ?_;refine aa 0 ?_;refine aa 1 ?_;refine aa 2 ?_;refine aa 3 ?_;refine aa 4 ?_;refine aa 5 ?_;refine mw 6 ?_;intro w' aC
 refine(QW B m k Es i1 i2 w' (aK (H0.out.dr.bl aC).e) (by omega) _ Pd.out BO.out).mono ?_
 rintro e w2 ⟨i,hi,h1,h2,rfl,aP⟩
 refine⟨_,rfl,Kept.of_below aP,?_⟩
 have HI:=qh (OC.out i hi h1 h2);have H2:=qh ((H0.out.dr.bl aC).bl aP);have aZ:=qh ((aQ.out.dr.bl aC).bl aP);have bG:=qh (ag (ag (aN bw.out) aC) aP);clear aP aC h1 h2 fL ld1 ka H0 aQ bw OC Pd BO;simp only[ξ,aw,ar,aq];refine aa 7 ?_;refine aa 8 ?_;refine aa 9 ?_;refine aa 10 ?_;refine aa 11 ?_;refine aF (by kernel_rfl) ?_ _;intro w3 du;have H3:=qh (H2.out.bl du);have cF:=qh (aZ.out.bl du);have bB:=qh (ag bG.out du);clear du H2 aZ bG;go_upto_region 2 with fail
 obtain⟨OB,R4⟩:=aB ((Ο B m k).ownBlock);have hgo:¬ζ g=OB:=by rw[←R4];exact bD H3.out.e H3.out.s (by decide)
 have AS:¬ζ b0=OB:=fun e=>by have:=KU.out b0 (R4.trans e.symm);omega
 have GOB:=qh R4;clear R4;have fL:∀w',Kept (fun x=>ζ x=OB) w3.drew w'→w'.cell? ⟨g,1,ε⟩=ζ (γ B m k):=fun w' h=>h.cell (H3.out.dr.s.cell (i:=1) rfl) hgo
 have l0:∀w',Kept (fun x=>ζ x=OB) w3.drew w'→w'.cell? ⟨b0,0,ε⟩=ζ (J i1):=fun w' h=>h.cell (cF.out.dr.cell (i:=0) rfl) AS
 have l1:∀w',Kept (fun x=>ζ x=OB) w3.drew w'→w'.cell? ⟨b0,1,ε⟩=ζ (J i2):=fun w' h=>h.cell (cF.out.dr.cell (i:=1) rfl) AS
 refine cI (fun x=>ζ x=OB) [14] (by kernel_rfl) ?_;refine aU 0 ?_;refine aU 1 ?_;refine aU 2 ?_;refine aU 3 ?_;refine aU 4 ?_;refine aU 5 ?_;refine aU 6 ?_;refine aU 7 ?_;refine aU 8 ?_;refine lM 9 ?_;intro w' aC;have j8:=qh ((H3.out.dr.bl aC).al (δ #[J i1,J i2,μ {data:=#[]},J 0] 67));have Qi:Hid (Whole (w'.alloc (δ #[J i1,J i2,μ {data:=#[]},J 0] 67)) w'.heap.size 67 [J i1,J i2,μ {data:=#[]},J 0]):=qh (Whole.new_ _ _ _)
 have VN:Hid (ζ w'.heap.size≠(Ο B m k).ownBlock):=qh (fun e=>by
  have:=((H3.out.dr.bl aC).e.lt w'.heap.size e.symm).2
  omega)
 have kC:=qh (aI (ag (aN bB.out) aC) (δ #[J i1,J i2,μ {data:=#[]},J 0] 67))
 refine⟨_,w'.alloc (δ #[J i1,J i2,μ {data:=#[]},J 0] 67),by(go_simp;first|done|exact rfl|exact⟨rfl,rfl⟩),Kept.of_below (az _ _),?_⟩
 obtain⟨b4,BJ⟩:=aB w'.heap.size;obtain⟨W4,uQ⟩:=aB (w'.alloc (δ #[J i1,J i2,μ {data:=#[]},J 0] 67));rw[uQ] at j8 Qi kC;rw[BJ] at Qi VN;rw[uQ,BJ];clear aC uQ BJ fL l0 l1 H3 cF bB;simp only[ξ,aw,ar,aq];refine CR 10 ?_;intro w' aC
 refine(zW (w:=w) (B:=lo) (G:=Es) ((i1,i2),Jaf,0) ⟨(j8.out.bl aC).e,(j8.out.bl aC).below,j8.out.lo_,(j8.out.bl aC).hi⟩ (by exact Qi.out.bl aC) VN.out (by omega) hi).mono ?_
 rintro e w5 ⟨A5,c5,rfl,KS,uu⟩;rw[HI.out] at KS
 have HF5:Hid (∀W5,σ w5.heap.size w5 W5→bK w lo g A n c Vs A5 (m+1) c5 (kq (fun v:EC=>v.1) Es ((i1,i2),Jaf,0)) C r rc G (W5.setCell ⟨g,1,ε⟩ (γ A5 (m+1) c5))∧(∃u,W5.cell? ⟨g,1,ε⟩=ζ u)∧W5.frozen? ⟨g,1,ε⟩=ρ∧aJ g W (W5.setCell ⟨g,1,ε⟩ (γ A5 (m+1) c5))):=qh (fun W5 fP=>by
  have hS:=j8.out.bl aC;have hg:=Cs uu fP;have hs:=hS.s.grown hg (bD hS.e hS.s (by decide))
  refine⟨hS.setE hg (bo KS.own fP),⟨_,hs.cell (i:=1) rfl⟩,hs.free _,?_⟩
  exact((aJ.of_below kC.out).trans ((aJ.of_below aC).trans (aJ.grown hS.e (.inr (.inl rfl)) hg))).setS _ _)
 refine⟨_,rfl,⟨uu.os,uu.tape,uu.output,uu.size,fun q hq hn=>uu.block q hq (fun e=>hn (e.trans GOB.out))⟩,?_⟩
 clear aC KS uu j8 Qi VN kC HI;simp only[ξ,aw,ar,aq];refine lM 11 ?_;intro w' aC;apply JaG;apply JaG;apply Jax
 ·go_simp;first|done|exact⟨rfl,rfl⟩|exact rfl
 apply Jax
 ·exact Kept.refl _ _
 have GH:=aC;clear aC;simp only[ξ,aw,ar,aq];refine lM 12 ?_;intro w' aC;replace aC:=Ext.trans GH aC;apply JaG;apply JaG;apply Jax
 ·go_simp;first|done|exact⟨rfl,rfl⟩|exact rfl
 apply Jax
 ·exact Kept.refl _ _
 have SX:=aC;clear aC;simp only[ξ,aw,ar,aq];refine aU 13 ?_;refine qu 14 ?_;intro w' aC;replace aC:=Ext.trans SX aC;clear SX;obtain⟨oH,⟨u5,Ph⟩,YU,Se⟩:=HF5.out w' aC;have MR:=qh oH;have ki:=qh Se;clear oH Se
 refine⟨w'.setCell ⟨g,1,ε⟩ (γ A5 (m+1) c5),by(go_simp;first|done|exact rfl|exact⟨rfl,rfl⟩),?_⟩
 clear Ph YU;obtain⟨W7,tr⟩:=aB (w'.setCell ⟨g,1,ε⟩ (γ A5 (m+1) c5));rw[tr] at MR ki ⊢;clear tr aC HF5;(try simp only[ξ,aw,ar,aq]);refine gG (by kernel_rfl) ?_ _;intro w8 cg;have Sw:=qh (MR.out.bl cg);have mc:=qh (ki.out.trans (aJ.of_below cg));clear cg MR ki;go_wp2;go_end0;exact⟨rfl,by first|exact⟨_,_,Sw.out,mc.out⟩|exact⟨⟨_,_,Sw.out⟩,mc.out⟩⟩
end
theorem kL (y x:Gn):cH y x=0↔y.1=x.1:=by
 unfold cH;rw[pM];obtain⟨⟨a,b,c⟩,y2⟩:=y;obtain⟨⟨d,e,f⟩,x2⟩:=x;simp
theorem BL:∀(G:List Gn) (x:Gn),(rq G x).length≤G.length+1
 |[],x=>Δ _
 |y::G,x=>by
  show(if cH y x<0 then y::rq G x else if cH y x=0 then x::G else x::y::G).length≤G.length+1+1
  have:=BL G x
  split
  ·simp only[JaH];omega
  ·split<;>simp
def cT:List Gn→Prop
 |[]=>True
 |[_]=>True
 |y::z::G=>cH y z<0∧cT (z::G)
theorem vM:∀(T:List Gn) (x:Gn),cT T→S2 T x=τ→cT (T++[x])
 |[],x,_,_=>trivial
 |[y],x,_,h=>⟨of_decide_eq_true h,trivial⟩
 |y::z::T,x,h,hk=>⟨h.1,vM (z::T) x h.2 hk⟩
theorem qK {a b c:Gn} (h:cH a b≤0) (k:cH b c≤0):cH a c≤0:=ru _ _ _ _ _ _ _ _ _ h k
theorem sH (a b:Gn):cH b a= - cH a b:=wK _ _ _ _ _ _
theorem zm (a:Gn):cH a a=0:=(kL a a).2 rfl
theorem qN {y:Gn} {G:List Gn} (h:cT (y::G)):cT G:=by
 cases G with
 |nil=>trivial
 |cons z G=>exact h.2
theorem lF:∀(G:List Gn) {y z:Gn},cT (y::G)→z∈y::G→cH y z≤0
 |[],y,z,h,hz=>by
  obtain rfl:=Jao.1 hz;rw[zm];exact Int.le_refl _
 |z1::G,y,z,h,hz=>by
  rcases Η.1 hz with rfl|hz
  ·rw[zm];exact Int.le_refl _
  ·exact qK (Int.le_of_lt h.1) (lF G h.2 hz)
theorem DA:∀(G:List Gn) (a b:Nat) {z y:Gn},cT G→a≤b→G[a]? =ζ z→G[b]? =ζ y→cH z y≤0
 |[],a,b,z,y,h,s8,hz,hy=>by simp at hz
 |g::G,0,b,z,y,h,s8,hz,hy=>by
  obtain rfl:g=z:=by simpa using hz
  exact lF G h (ω hy)
 |g::G,a+1,0,z,y,h,s8,hz,hy=>by omega
 |g::G,a+1,b+1,z,y,h,s8,hz,hy=>DA G a b (qN h) (by omega) (by simpa using hz) (by simpa using hy)
theorem E3 {G:List Gn} (h:cT G) (x:Gn) {a b:Nat} {z y:Gn} (s8:a≤b) (hz:G[a]? =ζ z) (hy:G[b]? =ζ y) (hb:cH y x<0):cH z x<0:=by
 have h1:=DA G a b h s8 hz hy;have h2:=qK h1 (Int.le_of_lt hb)
 have h3:cH z x≠0:=fun e=>by
  have e1:=(kL z x).1 e;have e2:cH y x=cH y z:=by unfold cH;rw[e1]
  rw[e2,sH z y] at hb;omega
 omega
def cfG (G:List Gn) (x:Gn) (t:Nat):Int:=cH (G.getD t (zD,zD)) x
theorem xh (G:List Gn) (x:Gn):∀t y,G[t]? =ζ y→cH y x=cfG G x t:=fun t y h=>by
 unfold cfG;rw[χ,h];rfl
theorem MH {G:List Gn} (h:cT G) (x:Gn) {n:Nat} (hn:G.length=n):∀a b,a≤b→b<n→cfG G x b<0→cfG G x a<0:=fun a b s8 hb hc=>by
 have ha:=θ (l:=G) (i:=a) (by omega);have aP:=θ (l:=G) (i:=b) (by omega);rw[←xh G x b _ aP] at hc;rw[←xh G x a _ ha];exact E3 h x s8 ha aP hc
theorem q9:∀{G:List Gn},cT G→G.Pairwise (fun a b=>cH a b<0)
 |[],_=>List.Pairwise.nil
 |y::G,h=>by
  refine List.Pairwise.cons (fun z hz=>?_) (q9 (qN h));cases G with
  |nil=>cases hz
  |cons g G=>
   have h1:=lF G h.2 hz;have h2:=h.1;have h3:=qK (Int.le_of_lt h2) h1
   have h4:cH y z≠0:=fun e=>by
    have e1:=(kL y z).1 e;have e2:cH g z=cH g y:=by unfold cH;rw[e1]
    rw[e2,sH y g] at h1;omega
   omega
theorem yY:∀(G:List Gn) (x:Gn),cT G→cT (rq G x)
 |[],x,_=>trivial
 |[y],x,_=>by
  show cT (if cH y x<0 then[y,x] else if cH y x=0 then[x] else[x,y])
  by_cases h1:cH y x<0
  ·rw[if_pos h1];exact⟨h1,trivial⟩
  ·rw[if_neg h1]
   by_cases h0:cH y x=0
   ·rw[if_pos h0];trivial
   ·rw[if_neg h0];exact⟨by rw[sH y x];omega,trivial⟩
 |y::z::G,x,h=>by
  have h0:=yY (z::G) x h.2;show cT (if cH y x<0 then y::rq (z::G) x else if cH y x=0 then x::z::G else x::y::z::G)
  by_cases h1:cH y x<0
  ·rw[if_pos h1];have e:rq (z::G) x=if cH z x<0 then z::rq G x else if cH z x=0 then x::G else x::z::G:=rfl
   rw[e] at h0 ⊢;split
   ·rename_i h2;rw[if_pos h2] at h0;exact⟨h.1,h0⟩
   ·rename_i h2;rw[if_neg h2] at h0;split
    ·rename_i h3;rw[if_pos h3] at h0;exact⟨h1,h0⟩
    ·rename_i h3;rw[if_neg h3] at h0;exact⟨h1,h0⟩
  ·rw[if_neg h1]
   by_cases h2:cH y x=0
   ·rw[if_pos h2];have e1:=(kL y x).1 h2;have e2:cH x z=cH y z:=by unfold cH;rw[e1]
    exact⟨by rw[e2];exact h.1,h.2⟩
   ·rw[if_neg h2];exact⟨by rw[sH y x];omega,h⟩
theorem K9 {G:List Gn} (h:cT G) {i:Nat} {a b:Gn} (ha:G[i]? =ζ a) (hb:G[i+1]? =ζ b):cH a b<0:=by
 obtain⟨h1,h2⟩:=ν.1 ha;obtain⟨h3,h4⟩:=ν.1 hb
 have:=List.pairwise_iff_getElem.1 (q9 h) i (i+1) h1 h3 (by omega)
 rwa [h2,h4] at this
section
variable {w W:ο} {lo g:Nat} {A:Option Κ} {n c:Nat} {Vs:List VC} {B:Option Κ} {m k:Nat} {Es:List EC} {C:Option Κ} {r rc:Nat} {G:List Gn}
theorem vH (s n c:Int) (h:c=0∨c=1):Pure 127 #[φ #[J s,J n,J c]] (φ #[J s,J n,J (1 - c)]):=fun w=>by
 have h1:Jaw.wrap (1 - c)=1 - c:=by rw[JaT];omega
 go_enter Tryz.func127,Tryz.ntmps127;go_wp2;exact bodyPost_ret (v:=φ #[J s,J n,J (1 - c)]) (by simp[results,Tryz.results127,go_sem]) rfl ⟨rfl,cr _ _ _⟩
theorem my (h:bK w lo g A n c Vs B m k Es C r rc G W) (x y:D) (hr:r≤400) (hG:cT G):Ζ η 119 #[υ (ζ ⟨g,0,ε⟩),φ #[J x.1,J x.2.1,J x.2.2],φ #[J y.1,J y.2.1,J y.2.2]] W fun e w'=>e=.returned (Ξ #[])∧∃C' r' iv,bK w lo g A n c Vs B m k Es C' r' iv (dP G (x,y)) w'∧(dP G (x,y)).length=r'∧aJ g W w'∧Kept (fun b=>b=g) W w':=by
 have hl:=h.glen
 have UU:Hid (∀W',σ W.heap.size W W'→Ζ η 150 #[γ C r rc,φ #[J x.1,J x.2.1,J x.2.2,J y.1,J y.2.1,J y.2.2]] W' fun e w'=>∃A' c',e=.returned (.slice A' (dP G (x,y)).length c')∧w'.ownsRow W'.heap.size 98 6 (.slice A' (dP G (x,y)).length c') (dP G (x,y)).length (ah cZ (dP G (x,y)))∧σ W'.heap.size W' w'):=qh (fun W' hb=>
  MJ C r rc G (x,y) W' (aK (h.bl hb).gn) hr (cfG G (x,y)) (xh G (x,y)) (MH hG (x,y) hl) (fun t ht h0 s hs=>by
   have es:=θ (l:=G) (i:=s) (by omega);have et:=θ (l:=G) (i:=t) (by omega);rw[←xh G (x,y) s _ es];rw[←xh G (x,y) t _ et] at h0;have h1:=(List.pairwise_iff_getElem.1 (q9 hG)) s t (by omega) (by omega) hs;have h2:cH G[s] (x,y)=cH G[s] G[t]:=by unfold cH;rw[(kL _ _).1 h0]
   rw[h2];exact h1))
 obtain⟨N,gN⟩:=aB ((dP G (x,y)).length);rw[gN] at UU;have GN:=qh gN;have fp:=aI (az W (δ #[J x.1,J x.2.1,J x.2.2] 32)) (δ #[J y.1,J y.2.1,J y.2.2] 32);have bw:=qh fp;have H0:=qh (h.up fp);have aQ:Hid (Whole ((W.alloc (δ #[J x.1,J x.2.1,J x.2.2] 32)).alloc (δ #[J y.1,J y.2.1,J y.2.2] 32)) W.heap.size 32 [J x.1,J x.2.1,J x.2.2]):=qh ((Whole.new_ _ _ [_,_,_]).al _);have fk:Hid (Whole ((W.alloc (δ #[J x.1,J x.2.1,J x.2.2] 32)).alloc (δ #[J y.1,J y.2.1,J y.2.2] 32)) (W.heap.size+1) 32 [J y.1,J y.2.1,J y.2.2]):=qh (Whole.new2 (by simp));clear h fp hl gN;go_enter Tryz.func119,Tryz.ntmps119;go_upto_region 1 with fail
 obtain⟨W0,bO⟩:=aB ((W.alloc (δ #[J x.1,J x.2.1,J x.2.2] 32)).alloc (δ #[J y.1,J y.2.1,J y.2.2] 32));obtain⟨b1,dE⟩:=aB (W.heap.size+1);obtain⟨b0,bp⟩:=aB W.heap.size;rw[bO] at H0 aQ fk bw ⊢;rw[dE] at fk ⊢;rw[bp] at aQ ⊢;clear bO bp dE;have fL:∀w',Kept aO W0.drew w'→w'.cell? ⟨g,2,ε⟩=ζ (γ C r rc):=fun w' h=>h.nil_cell (H0.out.dr.s.cell (i:=2) rfl)
 have p0:=cm (i:=0) aQ.out rfl;have q0:=cm (i:=0) fk.out rfl;have p1:=cm (i:=1) aQ.out rfl;have q1:=cm (i:=1) fk.out rfl;have p2:=cm (i:=2) aQ.out rfl;have q2:=cm (i:=2) fk.out rfl;refine cI (aO) [11] (by kernel_rfl) ?_;refine aU 0 ?_;refine aU 1 ?_;refine aU 2 ?_;refine aU 3 ?_;refine aU 4 ?_;refine aU 5 ?_;refine aU 6 ?_;refine aU 7 ?_;refine CR 8 ?_;intro w' aC
 refine(UU.out w' (ag (aN bw.out) aC)).mono ?_
 rintro e w2 ⟨C2,Ya,rfl,SJ,aP⟩
 refine⟨_,rfl,Kept.of_below aP,?_⟩
 have Gx:Hid (∀W5,σ w2.heap.size w2 W5→bK w lo g A n c Vs B m k Es C2 N Ya (dP G (x,y)) (W5.setCell ⟨g,2,ε⟩ (γ C2 N Ya))∧(∃u,W5.cell? ⟨g,2,ε⟩=ζ u)∧W5.frozen? ⟨g,2,ε⟩=ρ∧aJ g W (W5.setCell ⟨g,2,ε⟩ (γ C2 N Ya))∧Kept (fun b=>b=g) W (W5.setCell ⟨g,2,ε⟩ (γ C2 N Ya))):=qh (fun W5 fP=>by
  have hS:=H0.out.dr.bl aC;have hs:=(hS.bl (ag aP fP)).s
  refine⟨hS.setG (ag aP fP) (bo (eG SJ hS.hi) fP),⟨_,hs.cell (i:=2) rfl⟩,hs.free _,?_⟩
  exact⟨(aJ.of_below (ag (ag (aN bw.out) aC) (ag aP fP))).setS _ _,(Kept.of_below (S:=fun b=>b=g) (ag (ag (aN bw.out) aC) (ag aP fP))).setCell (p:=⟨g,2,ε⟩) (.inl rfl) _⟩)
 clear aC SJ aP fL p0 q0 p1 q1 p2 q2 H0 aQ fk bw UU;simp only[ξ,aw,ar,aq];refine lM 9 ?_;intro w' aC;apply JaG;apply JaG;apply Jax
 ·go_simp;first|done|exact⟨rfl,rfl⟩|exact rfl
 apply Jax
 ·exact Kept.refl _ _
 have Mi:=aC;clear aC;simp only[ξ,aw,ar,aq];refine aU 10 ?_;refine qu 11 ?_;intro w' aC;replace aC:=Ext.trans Mi aC;clear Mi;obtain⟨oH,⟨u5,Ph⟩,YU,Se,hp5⟩:=Gx.out w' aC;have MR:=qh oH;have ki:=qh Se;have QC:=qh hp5;clear oH Se hp5
 refine⟨w'.setCell ⟨g,2,ε⟩ (γ C2 N Ya),by(go_simp;first|done|exact rfl|exact⟨rfl,rfl⟩),?_⟩
 clear Ph YU;obtain⟨W7,tr⟩:=aB (w'.setCell ⟨g,2,ε⟩ (γ C2 N Ya));rw[tr] at MR ki QC ⊢;clear tr aC Gx;(try simp only[ξ,aw,ar,aq]);refine gG (by kernel_rfl) ?_ _;intro w8 cg;have Sw:=qh (MR.out.bl cg);have mc:=qh (ki.out.trans (aJ.of_below cg));have HP8:=qh (QC.out.trans (Kept.of_below cg));clear cg MR ki QC;go_wp2;go_end0;exact⟨rfl,by first|exact⟨_,_,_,Sw.out,GN.out,mc.out,HP8.out⟩|exact⟨⟨_,_,_,Sw.out,GN.out⟩,mc.out,HP8.out⟩⟩
theorem Dm (A:Option Κ) (n c bd:Nat) (L:List D) (x:D) (w:ο) (h:bg w w.heap.size 3 A n c (aA L)) (hb:Whole w bd 32 [J x.1,J x.2.1,J x.2.2]) (hn:n≤1000):Ζ η 122 #[γ A n c,υ (ζ ⟨bd,0,ε⟩)] w (jx w (aM (jy L x))):=by
 have H:=qh h;have c0:=hb.cell (i:=0) rfl;have c1:=hb.cell (i:=1) rfl;have c2:=hb.cell (i:=2) rfl;clear h hb;go_enter Tryz.func122,Tryz.ntmps122
 go_wp2_with (first
  |(go_at_call 123
    refine(Bv A n c L x _ (by exact H.out) (by omega)).mono ?_
    rintro e w3 ⟨A3,c3,rfl,mg,bA⟩;have o8:=qh mg;have bB:=qh bA;clear mg bA))
 go_ret;exact⟨A3,c3,rfl,o8.out,bB.out⟩
theorem L5 (A:Option Κ) (n c bx Lk:Nat) (L:List D) (x y:D) (w:ο) (h:bg w w.heap.size 3 A n c (aA L)) (hx:Whole w bx 32 [J x.1,J x.2.1,J x.2.2]) (hy:Whole w Lk 32 [J y.1,J y.2.1,J y.2.2]) (hs:y.2.2=0∨y.2.2=1) (hn:n≤1000):Ζ η 125 #[γ A n c,υ (ζ ⟨bx,0,ε⟩),υ (ζ ⟨Lk,0,ε⟩)] w (jx w (aM (j4 L x (y.1,y.2.1,1 - y.2.2)))):=by
 have H:=qh h;have HO:=qh (vH y.1 y.2.1 y.2.2 hs);go_enter Tryz.func125,Tryz.ntmps125;go_upto_region 1 with fail
 have p0:∀w',Kept aO w.drew w'→w'.cell? ⟨bx,0,ε⟩=ζ (J x.1):=fun w' h=>h.nil_cell (hx.dr.cell (i:=0) rfl)
 have q0:∀w',Kept aO w.drew w'→w'.cell? ⟨Lk,0,ε⟩=ζ (J y.1):=fun w' h=>h.nil_cell (hy.dr.cell (i:=0) rfl)
 have p1:∀w',Kept aO w.drew w'→w'.cell? ⟨bx,1,ε⟩=ζ (J x.2.1):=fun w' h=>h.nil_cell (hx.dr.cell (i:=1) rfl)
 have q1:∀w',Kept aO w.drew w'→w'.cell? ⟨Lk,1,ε⟩=ζ (J y.2.1):=fun w' h=>h.nil_cell (hy.dr.cell (i:=1) rfl)
 have p2:∀w',Kept aO w.drew w'→w'.cell? ⟨bx,2,ε⟩=ζ (J x.2.2):=fun w' h=>h.nil_cell (hx.dr.cell (i:=2) rfl)
 have q2:∀w',Kept aO w.drew w'→w'.cell? ⟨Lk,2,ε⟩=ζ (J y.2.2):=fun w' h=>h.nil_cell (hy.dr.cell (i:=2) rfl)
 clear h hx hy;refine ay (aO) (by kernel_rfl) ?_;refine aa 0 ?_;refine aa 1 ?_;refine aa 2 ?_;refine cV 3 (hy:=by apply bP;rfl;rotate_left;intro w' aC;exact HO.out w';intro w';go_simp) (h:=?_);refine mw 4 ?_;intro w' aC
 refine(xA A n c L x (y.1,y.2.1,1 - y.2.2) w' (H.out.dr.bl aC) (by omega)).mono ?_
 rintro e w3 ⟨A3,c3,rfl,mg,bA⟩
 refine⟨_,rfl,Kept.of_below bA,?_⟩
 have o8:=qh mg;have bB:=qh (ag (ag (aN (Θ w.heap.size w)) aC) bA);clear mg bA aC p0 p1 p2 q0 q1 q2 H;simp only[ξ,aw,ar,aq];refine aa 5 ?_;refine aF (by kernel_rfl) ?_ _;intro w8 cg;have TS:=qh (o8.out.bl cg);have nV:=qh (ag bB.out cg);clear cg o8 bB;go_wp2;go_ret;exact⟨A3,c3,rfl,TS.out,nV.out⟩
theorem ML (A:Option Κ) (n c bx Lk:Nat) (L:List D) (x y:D) (w:ο) (h:bg w w.heap.size 3 A n c (aA L)) (hx:Whole w bx 32 [J x.1,J x.2.1,J x.2.2]) (hy:Whole w Lk 32 [J y.1,J y.2.1,J y.2.2]) (hs:x.2.2=0∨x.2.2=1) (hn:n≤1000):Ζ η 130 #[γ A n c,υ (ζ ⟨bx,0,ε⟩),υ (ζ ⟨Lk,0,ε⟩)] w (jx w (aM (j4 L (x.1,x.2.1,1 - x.2.2) y))):=by
 have H:=qh h;have HO:=qh (vH x.1 x.2.1 x.2.2 hs);go_enter Tryz.func130,Tryz.ntmps130;go_upto_region 1 with fail
 have p0:∀w',Kept aO w.drew w'→w'.cell? ⟨bx,0,ε⟩=ζ (J x.1):=fun w' h=>h.nil_cell (hx.dr.cell (i:=0) rfl)
 have q0:∀w',Kept aO w.drew w'→w'.cell? ⟨Lk,0,ε⟩=ζ (J y.1):=fun w' h=>h.nil_cell (hy.dr.cell (i:=0) rfl)
 have p1:∀w',Kept aO w.drew w'→w'.cell? ⟨bx,1,ε⟩=ζ (J x.2.1):=fun w' h=>h.nil_cell (hx.dr.cell (i:=1) rfl)
 have q1:∀w',Kept aO w.drew w'→w'.cell? ⟨Lk,1,ε⟩=ζ (J y.2.1):=fun w' h=>h.nil_cell (hy.dr.cell (i:=1) rfl)
 have p2:∀w',Kept aO w.drew w'→w'.cell? ⟨bx,2,ε⟩=ζ (J x.2.2):=fun w' h=>h.nil_cell (hx.dr.cell (i:=2) rfl)
 have q2:∀w',Kept aO w.drew w'→w'.cell? ⟨Lk,2,ε⟩=ζ (J y.2.2):=fun w' h=>h.nil_cell (hy.dr.cell (i:=2) rfl)
 clear h hx hy;refine ay (aO) (by kernel_rfl) ?_;refine aa 0 ?_;refine aa 1 ?_;refine cV 2 (hy:=by apply bP;rfl;rotate_left;intro w' aC;exact HO.out w';intro w';go_simp) (h:=?_);refine aa 3 ?_;refine mw 4 ?_;intro w' aC
 refine(xA A n c L (x.1,x.2.1,1 - x.2.2) y w' (H.out.dr.bl aC) (by omega)).mono ?_
 rintro e w3 ⟨A3,c3,rfl,mg,bA⟩
 refine⟨_,rfl,Kept.of_below bA,?_⟩
 have o8:=qh mg;have bB:=qh (ag (ag (aN (Θ w.heap.size w)) aC) bA);clear mg bA aC p0 p1 p2 q0 q1 q2 H;simp only[ξ,aw,ar,aq];refine aa 5 ?_;refine aF (by kernel_rfl) ?_ _;intro w8 cg;have TS:=qh (o8.out.bl cg);have nV:=qh (ag bB.out cg);clear cg o8 bB;go_wp2;go_ret;exact⟨A3,c3,rfl,TS.out,nV.out⟩
end
def fR {α:Type} (f:α→α):Nat→α→α
 |0,x=>x
 |k+1,x=>fR f k (f x)
structure Pm {α:Type} (f:α→α) (L:List α):Prop where
 nd:L.Nodup
 cl:∀x∈L,f x∈L
 inj:∀x∈L,∀y∈L,f x=f y→x=y
def Rl {α:Type} (f:α→α) (x y:α):Prop:=∃i,fR f i x=y
structure iW {α:Type} (f:α→α) (x:α) (p:Nat):Prop where
 pos:0<p
 back:fR f p x=x
 ne:∀i,0<i→i<p→fR f i x≠x
def lA {α:Type} (f:α→α) (x:α) (p:Nat):List α:=(Ω p).map fun i=>fR f i x
def l9 {α:Type} [DecidableEq α] (f:α→α) (x:α):Nat→α→List α
 |0,_=>[]
 |k+1,y=>y::(if f y=x then[] else l9 f x k (f y))
structure jW {α:Type} (f:α→α) (L P:List α):Prop where
 nd:P.Nodup
 sub:∀p∈P,p∈L
 all:∀x∈L,∃p∈P,Rl f p x
 one:∀p∈P,∀q∈P,Rl f p q→p=q
theorem Ax {α β:Type} [DecidableEq β] (r:α→β→Prop):∀(A:List α) (B:List β),A.Nodup→(∀a∈A,∃b∈B,r a b)→(∀a∈A,∀a'∈A,∀b∈B,r a b→r a' b→a=a')→A.length≤B.length
 |[],_,_,_,_=>Nat.zero_le _
 |a::A,B,hn,he,hi=>by
  rw[JaJ] at hn;obtain⟨b,hb,hr⟩:=he a (Jai ..)
  have h1:=Ax r A (B.erase b) hn.2 (fun a' Xq=>by
   obtain⟨b',Iz,Tb⟩:=he a' (Jad _ Xq)
   refine⟨b',(List.mem_erase_of_ne (fun e=>?_)).2 Iz,Tb⟩
   subst e;exact hn.1 (hi a (Jai ..) a' (Jad _ Xq) b' Iz hr Tb▸Xq)) (fun x hx y hy z hz=>hi x (Jad _ hx) y (Jad _ hy) z (List.mem_of_mem_erase hz))
  rw[List.length_erase_of_mem hb] at h1
  have:=Jbk hb
  simp only[JaH];omega
theorem zH {α:Type} [DecidableEq α] {A B:List α} (h:A.Nodup) (hs:∀x∈A,x∈B):A.length≤B.length:=
 Ax (fun a b=>a=b) A B h (fun a ha=>⟨a,hs a ha,rfl⟩) (fun _ _ _ _ _ _ e e'=>e.trans e'.symm)
theorem least {p:Nat→Prop} (h:∃n,p n):∃n,p n∧∀m,m<n→¬p m:=by
 obtain⟨n,hn⟩:=h
 induction n using Nat.strongRecOn with
 |_ n ih=>
  by_cases q:∃m,m<n∧p m
  ·obtain⟨m,h1,h2⟩:=q;exact ih m h1 h2
  ·exact⟨n,hn,fun m h1 h2=>q ⟨m,h1,h2⟩⟩
section
variable {α:Type} {f:α→α} {L P Q:List α}
theorem ks (i j:Nat) (x:α):fR f (i+j) x=fR f j (fR f i x):=by
 induction i generalizing x with
 |zero=>rw[JaI];rfl
 |succ i ih=>rw[Nat.succ_add];exact ih (f x)
theorem dp (k:Nat) (x:α):fR f (k+1) x=f (fR f k x):=ks k 1 x
theorem Pm.it (h:Pm f L) {x:α} (hx:x∈L):∀k,fR f k x∈L
 |0=>hx
 |k+1=>by rw[dp];exact h.cl _ (h.it hx k)
theorem Pm.it_inj (h:Pm f L) {x y:α} (hx:x∈L) (hy:y∈L):∀k,fR f k x=fR f k y→x=y
 |0,e=>e
 |k+1,e=>by
  rw[dp,dp] at e;exact h.it_inj hx hy k (h.inj _ (h.it hx k) _ (h.it hy k) e)
theorem Pm.per [DecidableEq α] (h:Pm f L) {x:α} (hx:x∈L):∃p,iW f x p∧p≤L.length:=by
 have h0:∃n,0<n∧fR f n x=x∧n≤L.length:=by
  refine Classical.byContradiction fun kZ=>?_
  have AK:((Ω (L.length+1)).map fun i=>fR f i x).Nodup:=by
   rw[List.Nodup,Jbg];refine List.Pairwise.imp_of_mem ?_ (List.pairwise_lt_range (n:=L.length+1));intro i j hi hj dz e;rw[List.mem_range] at hi hj;refine kZ ⟨j - i,by omega,?_,by omega⟩
   have e1:fR f i (fR f (j - i) x)=fR f i x:=by
    rw[←ks,Nat.sub_add_cancel (by omega)];exact e.symm
   exact h.it_inj (h.it hx _) hx i e1
  have:=zH AK (B:=L) (fun y hy=>by
   obtain⟨i,_,rfl⟩:=Α.1 hy;exact h.it hx i)
  rw[Ρ,List.length_range] at this;omega
 obtain⟨n,⟨h1,h2,h3⟩,h4⟩:=least h0;exact⟨n,⟨h1,h2,fun i hi dz e=>h4 i dz ⟨hi,e,by omega⟩⟩,h3⟩
theorem iW.mul {x:α} {p:Nat} (h:iW f x p) (k:Nat):fR f (p*k) x=x:=by
 induction k with
 |zero=>rfl
 |succ k ih=>rw[Nat.mul_succ,ks,ih,h.back]
theorem iW.mod {x:α} {p:Nat} (h:iW f x p) (k:Nat):fR f k x=fR f (k % p) x:=by
 have:=ks (f:=f) (p*(k / p)) (k % p) x
 rw[Nat.div_add_mod,h.mul] at this;exact this
theorem iW.inj (h:Pm f L) {x:α} (hx:x∈L) {p:Nat} (hp:iW f x p) {i j:Nat} (hi:i<p) (hj:j<p) (e:fR f i x=fR f j x):i=j:=by
 have key:∀{i j:Nat},i<j→j<p→fR f i x=fR f j x→False:=fun {i j} dz hj e=>by
  have e1:fR f i (fR f (j - i) x)=fR f i x:=by
   rw[←ks,Nat.sub_add_cancel (by omega)];exact e.symm
  exact hp.ne (j - i) (by omega) (by omega) (h.it_inj (h.it hx _) hx i e1)
 rcases Nat.lt_trichotomy i j with q|q|q
 ·exact(key q hj e).elim
 ·exact q
 ·exact(key q hi e.symm).elim
theorem iW.uniq {x:α} {p q:Nat} (h:iW f x p) (k:iW f x q):p=q:=by
 rcases Nat.lt_trichotomy p q with e|e|e
 ·exact(k.ne p h.pos e h.back).elim
 ·exact e
 ·exact(h.ne q k.pos e k.back).elim
theorem Rl.refl (x:α):Rl f x x:=⟨0,rfl⟩
theorem Rl.trans {x y z:α} (h:Rl f x y) (k:Rl f y z):Rl f x z:=by
 obtain⟨i,rfl⟩:=h;obtain⟨j,rfl⟩:=k;exact⟨i+j,ks i j x⟩
theorem Rl.one (x:α):Rl f x (f x):=⟨1,rfl⟩
theorem Rl.mem (h:Pm f L) {x y:α} (hx:x∈L) (r:Rl f x y):y∈L:=by
 obtain⟨i,rfl⟩:=r;exact h.it hx i
theorem Rl.symm [DecidableEq α] (h:Pm f L) {x y:α} (hx:x∈L) (r:Rl f x y):Rl f y x:=by
 obtain⟨i,rfl⟩:=r;obtain⟨p,hp,_⟩:=h.per hx
 refine⟨p*i - i,?_⟩
 rw[←ks]
 have:i≤p*i:=Nat.le_mul_of_pos_left i hp.pos
 rw[show i+(p*i - i)=p*i by omega,hp.mul]
theorem iW.shift (h:Pm f L) {x:α} (hx:x∈L) {p:Nat} (hp:iW f x p) (k:Nat):iW f (fR f k x) p:=by
 refine⟨hp.pos,by rw[←ks,Nat.add_comm,ks,hp.back],fun i h1 h2 e=>hp.ne i h1 h2 ?_⟩
 rw[←ks,Nat.add_comm,ks] at e;exact h.it_inj (h.it hx i) hx k e
theorem IF (x:α) (p:Nat):(lA f x p).length=p:=by simp[lA]
theorem QZ {x y:α} {p:Nat} (hp:iW f x p):y∈lA f x p↔Rl f x y:=by
 unfold lA;rw[Α];constructor
 ·rintro⟨i,_,rfl⟩;exact⟨i,rfl⟩
 ·rintro⟨i,rfl⟩;exact⟨i % p,List.mem_range.2 (Nat.mod_lt _ hp.pos),(hp.mod i).symm⟩
theorem IJ [DecidableEq α] {x:α} {p:Nat} (hp:iW f x p):∀(k j:Nat),j<p→p - j≤k→l9 f x k (fR f j x)=(lA f x p).drop j
 |0,j,hj,hk=>by omega
 |k+1,j,hj,hk=>by
  have e1:(lA f x p).drop j=fR f j x::(lA f x p).drop (j+1):=by
   rw[Χ (by simp[lA];omega)];simp[lA]
  rw[l9,e1,←dp (f:=f) j x]
  by_cases q:j+1=p
  ·rw[q,if_pos hp.back,Jav (by simp[lA])]
  ·rw[if_neg (hp.ne (j+1) (by omega) (by omega)),IJ hp k (j+1) (by omega) (by omega)]
theorem pI [DecidableEq α] {x:α} {p k:Nat} (hp:iW f x p) (hk:p≤k):l9 f x k x=lA f x p:=IJ hp k 0 hp.pos (by omega)
theorem jW.le [DecidableEq α] (h:Pm f L) (h1:jW f L P) (h2:jW f L Q):P.length≤Q.length:=
 Ax (fun p q=>Rl f q p) P Q h1.nd (fun p hp=>h2.all p (h1.sub p hp)) (fun p hp p' WY q hq r r'=>h1.one p hp p' WY ((r.symm h (h2.sub q hq)).trans r'))
theorem jW.len [DecidableEq α] (h:Pm f L) (h1:jW f L P) (h2:jW f L Q):P.length=Q.length:=Nat.le_antisymm (h1.le h h2) (h2.le h h1)
def js [DecidableEq α] (f:α→α) (N:Nat):List α→List α→List (List α)
 |[],_=>[]
 |x::r,T=>if x∈T then js f N r T else l9 f x N x::js f N r (T++l9 f x N x)
theorem rl [DecidableEq α] (h:Pm f L) {N:Nat} (hN:L.length≤N):∀(l T:List α),(∀x∈l,x∈L)→(∀x∈T,x∈L)→(∀x∈T,∀y,Rl f x y→y∈T)→
 ∃P:List α,P.Sublist l∧js f N l T=P.map (fun x=>l9 f x N x)∧(∀p∈P,p∉T)∧(∀x∈l,x∈T∨∃p∈P,Rl f p x)∧(∀p∈P,∀q∈P,Rl f p q→p=q)∧P.Nodup
 |[],T,_,_,_=>⟨[],List.Sublist.refl _,rfl,by simp,by simp,by simp,List.nodup_nil⟩
 |x::r,T,hl,hT,hc=>by
  have hxL:=hl x (Jai ..);have hr:=fun y hy=>hl y (Jad _ hy)
  by_cases hx:x∈T
  ·obtain⟨P,h1,h2,h3,h4,h5,h6⟩:=rl h hN r T hr hT hc
   refine⟨P,h1.cons _,by rw[js,if_pos hx,h2],h3,fun y hy=>?_,h5,h6⟩
   rcases Η.1 hy with rfl|hy
   ·exact .inl hx
   ·exact h4 y hy
  ·obtain⟨p,hp,a8⟩:=h.per hxL;have eo:l9 f x N x=lA f x p:=pI hp (by omega);have eE:∀y,y∈T++lA f x p↔y∈T∨Rl f x y:=fun y=>by rw[Jan,QZ hp]
   obtain⟨P,h1,h2,h3,h4,h5,h6⟩:=rl h hN r (T++l9 f x N x) hr (fun y hy=>by
    rw[eo,eE] at hy;exact hy.elim (hT y) (fun q=>q.mem h hxL)) (fun y hy z hz=>by
    rw[eo,eE] at hy ⊢;exact hy.elim (fun q=>.inl (hc y q z hz)) (fun q=>.inr (q.trans hz)))
   rw[eo] at h3 h4;have u4:∀q∈P,¬Rl f x q:=fun q hq r=>h3 q hq ((eE q).2 (.inr r))
   refine⟨x::P,h1.cons_cons _,by rw[js,if_neg hx,h2];rfl,fun q hq=>?_,fun y hy=>?_,fun a ha b hb r=>?_,?_⟩
   ·rcases Η.1 hq with rfl|hq
    ·exact hx
    ·exact fun m=>h3 q hq ((eE q).2 (.inl m))
   ·rcases Η.1 hy with rfl|hy
    ·exact .inr ⟨y,Jai ..,Rl.refl _⟩
    ·rcases h4 y hy with q|⟨p',WY,r⟩
     ·rcases (eE y).1 q with q|q
      ·exact .inl q
      ·exact .inr ⟨x,Jai ..,q⟩
     ·exact .inr ⟨p',Jad _ WY,r⟩
   ·rcases Η.1 ha with ea|Xu
    ·rcases Η.1 hb with eb|aP
     ·rw[ea,eb]
     ·exact(u4 b aP (ea▸r)).elim
    ·rcases Η.1 hb with eb|aP
     ·exact(u4 a Xu (eb▸r.symm h (hr a (h1.subset Xu)))).elim
     ·exact h5 a Xu b aP r
   ·exact JaJ.2 ⟨fun hq=>u4 x hq (Rl.refl x),h6⟩
theorem IX [DecidableEq α] (h:Pm f L) {N:Nat} (hN:L.length≤N) (l:List α) (hl:∀x,x∈l↔x∈L):∃P,jW f L P∧js f N l []=P.map (fun x=>l9 f x N x):=by
 obtain⟨P,h1,h2,h3,h4,h5,h6⟩:=rl h hN l [] (fun x hx=>(hl x).1 hx) (by simp) (by simp)
 refine⟨P,⟨h6,fun p hp=>(hl p).1 (h1.subset hp),fun x hx=>?_,h5⟩,h2⟩
 rcases h4 x ((hl x).2 hx) with q|q
 ·cases q
 ·exact q
end
section
variable {α:Type} [DecidableEq α] {f f':α→α} {L L' P:List α}
theorem Bm (h:Pm f L) {a b x:α} (fz:∀z∈L,z≠a→z≠b→f' z=f z) (hx:x∈L) (ha:¬Rl f x a) (hb:¬Rl f x b):∀k,fR f' k x=fR f k x
 |0=>rfl
 |k+1=>by
  rw[dp,dp,Bm h fz hx ha hb k];exact fz _ (h.it hx k) (fun e=>ha ⟨k,e⟩) (fun e=>hb ⟨k,e⟩)
theorem p5 (h:Pm f L) {a b x:α} (fz:∀z∈L,z≠a→z≠b→f' z=f z) (hx:x∈L) (ha:¬Rl f x a) (hb:¬Rl f x b) (y:α):Rl f' x y↔Rl f x y:=by
 constructor
 ·rintro⟨k,e⟩;exact⟨k,(Bm h fz hx ha hb k).symm.trans e⟩
 ·rintro⟨k,e⟩;exact⟨k,(Bm h fz hx ha hb k).trans e⟩
theorem reach (h:Pm f L) {a b n x:α} (fz:∀z∈L,z≠a→z≠b→f' z=f z) (fn:f' n=f x) (hx:x∈L):∀i,(∀j,0<j→j<i→fR f j x≠a∧fR f j x≠b)→0<i→Rl f' n (fR f i x)
 |0,_,h0=>absurd h0 (by omega)
 |1,_,_=>⟨1,fn⟩
 |i+2,hj,_=>by
  have h1:=reach h fz fn hx (i+1) (fun j h1 h2=>hj j h1 (by omega)) (by omega);have h2:=hj (i+1) (by omega) (by omega);refine h1.trans ⟨1,?_⟩;show f' (fR f (i+1) x)=fR f (i+2) x;rw[dp (i+1) x,fz _ (h.it hx _) h2.1 h2.2]
theorem iW.up {x:α} {p:Nat} (hp:iW f x p) {y:α} (r:Rl f x y):∃i,0<i∧i≤p∧fR f i x=y:=by
 obtain⟨i,rfl⟩:=r
 by_cases q:i % p=0
 ·exact⟨p,hp.pos,Δ _,by rw[hp.back,hp.mod i,q];rfl⟩
 ·exact⟨i % p,by omega,Nat.le_of_lt (Nat.mod_lt _ hp.pos),(hp.mod i).symm⟩
end
section
variable {α:Type} {f f':α→α} {L L' P:List α}
theorem TM [DecidableEq α] (h:Pm f L) {a:α} (ha:a∈L) (hn:L'.Nodup) (hL:∀y,y∈L'↔y∈L∧y≠a) (hf:∀z∈L',f' z=if f z=a then f a else f z):Pm f' L':=by
 refine⟨hn,fun z hz=>?_,fun z hz w hw e=>?_⟩
 ·obtain⟨z1,z2⟩:=(hL z).1 hz;rw[hf z hz];split
  ·rename_i q
   refine(hL _).2 ⟨h.cl a ha,fun q2=>z2 (h.inj _ z1 _ ha (q.trans q2.symm))⟩
  ·rename_i q;exact(hL _).2 ⟨h.cl z z1,q⟩
 ·obtain⟨z1,z2⟩:=(hL z).1 hz;obtain⟨w1,w2⟩:=(hL w).1 hw;rw[hf z hz,hf w hw] at e
  by_cases q:f z=a
  ·by_cases r:f w=a
   ·exact h.inj _ z1 _ w1 (q.trans r.symm)
   ·rw[if_pos q,if_neg r] at e;exact absurd (h.inj _ ha _ w1 e).symm w2
  ·by_cases r:f w=a
   ·rw[if_neg q,if_pos r] at e;exact absurd (h.inj _ z1 _ ha e) z2
   ·rw[if_neg q,if_neg r] at e;exact h.inj _ z1 _ w1 e
theorem UX [DecidableEq α] (h:Pm f L) {a:α} (ha:a∈L) (hL:∀y,y∈L'↔y∈L∧y≠a) (hf:∀z∈L',f' z=if f z=a then f a else f z) {x:α} (hx:x∈L'):
 ∀n i,i≤n→fR f i x≠a→Rl f' x (fR f i x):=by
 obtain⟨x1,x2⟩:=(hL x).1 hx;intro n
 induction n with
 |zero=>
  intro i hi _;obtain rfl:i=0:=by omega
  exact Rl.refl x
 |succ n ih=>
  intro i hi bj;cases i with
  |zero=>exact Rl.refl x
  |succ j=>
   by_cases q:fR f j x=a
   ·cases j with
    |zero=>exact absurd q x2
    |succ k=>
     have e1:f (fR f k x)=a:=(dp k x).symm.trans q;have e2:fR f (k+1+1) x=f a:=by rw[dp,q]
     rw[e2] at bj ⊢;have hk:fR f k x≠a:=fun r=>bj (by rw[←e1,r];rw[r] at e1;rw[e1];exact e1)
     have r1:=ih k (by omega) hk;have hm:fR f k x∈L':=(hL _).2 ⟨h.it x1 k,hk⟩;have e3:f' (fR f k x)=f a:=by rw[hf _ hm,if_pos e1]
     exact r1.trans (e3▸Rl.one (f:=f') (fR f k x))
   ·have r1:=ih j (by omega) q;have hm:fR f j x∈L':=(hL _).2 ⟨h.it x1 j,q⟩;rw[dp] at bj ⊢;have e3:f' (fR f j x)=f (fR f j x):=by rw[hf _ hm,if_neg bj]
    exact r1.trans (e3▸Rl.one (f:=f') (fR f j x))
theorem Mn [DecidableEq α] (h:Pm f L) (h':Pm f' L') {a:α} (hL:∀y,y∈L'↔y∈L∧y≠a) (hf:∀z∈L',f' z=if f z=a then f a else f z) {x:α} (hx:x∈L'):
 ∀i,Rl f x (fR f' i x)
 |0=>Rl.refl x
 |i+1=>by
  have r:=Mn h h' hL hf hx i;refine r.trans ?_;rw[dp,hf _ (h'.it hx i)];split
  ·rename_i q;exact(q▸Rl.one (f:=f) (fR f' i x)).trans (Rl.one (f:=f) a)
  ·exact Rl.one _
theorem Uk [DecidableEq α] (h:Pm f L) (h':Pm f' L') {a:α} (ha:a∈L) (hL:∀y,y∈L'↔y∈L∧y≠a) (hf:∀z∈L',f' z=if f z=a then f a else f z) {x y:α} (hx:x∈L') (hy:y≠a):Rl f' x y↔Rl f x y:=by
 constructor
 ·rintro⟨i,rfl⟩;exact Mn h h' hL hf hx i
 ·rintro⟨i,rfl⟩;exact UX h ha hL hf hx i i (Δ _) hy
theorem wk [DecidableEq α] (h:Pm f L) {a:α} (ha:a∈L) (hn:L'.Nodup) (hL:∀y,y∈L'↔y∈L∧y≠a) (hf:∀z∈L',f' z=if f z=a then f a else f z) (hP:jW f L P):
 Pm f' L'∧∃P',jW f' L' P'∧P'.length+(if f a=a then 1 else 0)=P.length:=by
 have h':=TM h ha hn hL hf;have hr:∀{x y:α},x∈L'→y≠a→(Rl f' x y↔Rl f x y):=fun hx hy=>Uk h h' ha hL hf hx hy
 refine⟨h',?_⟩
 by_cases q:f a=a
 ·rw[if_pos q]
  have abe:∀i,fR f i a=a:=fun i=>by
   induction i with
   |zero=>rfl
   |succ i ih=>rw[dp,ih,q]
  have hto:∀{p},p∈L→Rl f p a→p=a:=fun {p} hp r=>by
   obtain⟨i,e⟩:=r.symm h hp;rw[←e,abe]
  have haP:a∈P:=by
   obtain⟨p,hp,r⟩:=hP.all a ha;exact hto (hP.sub p hp) r▸hp
  have eE:∀p,p∈P.erase a↔p≠a∧p∈P:=fun p=>hP.nd.mem_erase_iff
  refine⟨P.erase a,⟨hP.nd.erase a,fun p hp=>?_,fun x hx=>?_,fun p hp r oJ e=>?_⟩,?_⟩
  ·obtain⟨p1,p2⟩:=(eE p).1 hp;exact(hL p).2 ⟨hP.sub p p2,p1⟩
  ·obtain⟨x1,x2⟩:=(hL x).1 hx;obtain⟨p,hp,r⟩:=hP.all x x1
   have Ui:p≠a:=fun e=>by
    obtain⟨i,e2⟩:=r;rw[e,abe] at e2;exact x2 e2.symm
   exact⟨p,(eE p).2 ⟨Ui,hp⟩,(hr ((hL p).2 ⟨hP.sub p hp,Ui⟩) x2).2 r⟩
  ·obtain⟨p1,p2⟩:=(eE p).1 hp;obtain⟨r1,r2⟩:=(eE r).1 oJ;exact hP.one p p2 r r2 ((hr ((hL p).2 ⟨hP.sub p p2,p1⟩) r1).1 e)
  ·have:=List.length_erase_of_mem haP
   have:=Jbk haP
   omega
 ·rw[if_neg q];have hfa:f a∈L':=(hL _).2 ⟨h.cl a ha,q⟩
  have hg:∀p∈P,(if p=a then f a else p)∈L':=fun p hp=>by
   split
   ·exact hfa
   ·rename_i e;exact(hL p).2 ⟨hP.sub p hp,e⟩
  have tF:∀p,p∈P→Rl f p (if p=a then f a else p):=fun p hp=>by
   split
   ·rename_i e;rw[e];exact Rl.one a
   ·exact Rl.refl p
  have mX:∀p∈P,∀r∈P,Rl f (if p=a then f a else p) (if r=a then f a else r)→p=r:=fun p hp r oJ e=>
   hP.one p hp r oJ (((tF p hp).trans e).trans ((tF r oJ).symm h (hP.sub r oJ)))
  refine⟨P.map fun p=>if p=a then f a else p,⟨?_,fun x hx=>?_,fun x hx=>?_,fun p hp r oJ e=>?_⟩,by simp⟩
  ·rw[List.nodup_iff_pairwise_ne,Jbg];exact(List.nodup_iff_pairwise_ne.1 hP.nd).imp_of_mem (fun {p r} hp oJ bj e=>bj (mX p hp r oJ (e▸Rl.refl _)))
  ·obtain⟨p,hp,rfl⟩:=Α.1 hx;exact hg p hp
  ·obtain⟨x1,x2⟩:=(hL x).1 hx;obtain⟨p,hp,r⟩:=hP.all x x1
   refine⟨_,Α.2 ⟨p,hp,rfl⟩,(hr (hg p hp) x2).2 ?_⟩
   exact((tF p hp).symm h (hP.sub p hp)).trans r
  ·obtain⟨p,hp3,rfl⟩:=Α.1 hp;obtain⟨r,mg,rfl⟩:=Α.1 oJ;have h2:=((hL _).1 (hg r mg)).2;rw[mX p hp3 r mg ((hr (hg p hp3) h2).1 e)]
end
section
variable {α:Type} [DecidableEq α] {f f':α→α} {L P:List α}
theorem zx (h:Pm f L) (h':Pm f' L) {a b:α} (ha:a∈L) (hb:b∈L) (s8:a≠b) (fa:f' a=f b) (fb:f' b=f a) (fz:∀z∈L,z≠a→z≠b→f' z=f z) (hP:jW f L P):
 ∃P',jW f' L P'∧(Rl f a b→P'.length=P.length+1)∧(¬Rl f a b→P'.length+1=P.length):=by
 obtain⟨p,hp,_⟩:=h.per hb;obtain⟨q,hq,_⟩:=h.per ha;obtain⟨rb,Y4,rrb⟩:=hP.all b hb;obtain⟨ra,Ou,Zc⟩:=hP.all a ha;have kZ:∀{x},x∈P→x≠ra→¬Rl f x a:=fun {x} hx bj r=>bj (hP.one x hx ra Ou (r.trans (Zc.symm h (hP.sub ra Ou))))
 have QP:∀{x},x∈P→x≠rb→¬Rl f x b:=fun {x} hx bj r=>bj (hP.one x hx rb Y4 (r.trans (rrb.symm h (hP.sub rb Y4))))
 have ZS:∀{x},x∈L→¬Rl f x a→¬Rl f x b→¬Rl f' x a:=fun {x} hx h1 h2 r=>h1 ((p5 h fz hx h1 h2 a).1 r)
 have afs:∀{x},x∈L→¬Rl f x a→¬Rl f x b→¬Rl f' x b:=fun {x} hx h1 h2 r=>h2 ((p5 h fz hx h1 h2 b).1 r)
 by_cases hs:Rl f a b
 ·have Xz:=hs.symm h ha;have ae5:rb=ra:=hP.one rb Y4 ra Ou (rrb.trans (Xz.trans (Zc.symm h (hP.sub ra Ou))))
  obtain⟨k,⟨k1,k2⟩,k3⟩:=least (p:=fun i=>0<i∧fR f i b=a) (by
   obtain⟨i,i1,_,i2⟩:=hp.up Xz;exact⟨i,i1,i2⟩)
  have hkp:k<p:=by
   obtain⟨i,i1,i2,i3⟩:=hp.up Xz
   have:¬i<k:=fun q=>k3 i q ⟨i1,i3⟩
   have:i≠p:=fun e=>s8 (by rw[←i3,e,hp.back])
   omega
  have Ui:iW f a p:=k2▸hp.shift h hb k;have r0:∀i,0<i→i≤k→Rl f' a (fR f i b):=fun i i1 i2=>reach h fz fa hb i (fun j j1 j2=>⟨fun e=>k3 j (by omega) ⟨j1,e⟩,hp.ne j j1 (by omega)⟩) i1
  have eka:∀j,fR f j a=fR f (k+j) b:=fun j=>by rw[ks,k2]
  have r1:∀i,0<i→i≤p - k→Rl f' b (fR f i a):=fun i i1 i2=>reach h fz fb ha i (fun j j1 j2=>⟨Ui.ne j j1 (by omega),fun e=>hp.ne (k+j) (by omega) (by omega) (by rw[←eka,e])⟩) i1
  have cl:∀j,∃i,0<i∧i≤k∧fR f' j a=fR f i b:=fun j=>by
   induction j with
   |zero=>exact⟨k,k1,Δ _,k2.symm⟩
   |succ j ih=>
    rw[dp];obtain⟨i,i1,i2,e⟩:=ih;rw[e]
    by_cases q:i=k
    ·rw[q,k2,fa];exact⟨1,by omega,by omega,rfl⟩
    ·refine⟨i+1,by omega,by omega,?_⟩
     rw[dp,fz _ (h.it hb i) (fun e=>k3 i (by omega) ⟨i1,e⟩) (hp.ne i i1 (by omega))]
  have n01:¬Rl f' a b:=by
   rintro⟨j,e⟩;obtain⟨i,i1,i2,q⟩:=cl j;exact hp.ne i i1 (by omega) (q.symm.trans e)
  have n10:¬Rl f' b a:=fun r=>n01 (r.symm h' hb)
  have yv:∀x,x∈P.erase ra↔x≠ra∧x∈P:=fun x=>hP.nd.mem_erase_iff
  have F9:∀{x},x∈P→x≠ra→¬Rl f x a∧¬Rl f x b:=fun {x} hx bj=>⟨kZ hx bj,QP hx (ae5▸bj)⟩
  have e0:a∉P.erase ra:=fun m=>(F9 ((yv _).1 m).2 ((yv _).1 m).1).1 (Rl.refl a)
  have e1:b∉P.erase ra:=fun m=>(F9 ((yv _).1 m).2 ((yv _).1 m).1).2 (Rl.refl b)
  refine⟨a::b::P.erase ra,⟨?_,?_,?_,?_⟩,fun _=>?_,fun q=>(q hs).elim⟩
  ·rw[JaJ,JaJ];exact⟨fun m=>(Η.1 m).elim s8 e0,e1,hP.nd.erase _⟩
  ·intro x hx;rcases Η.1 hx with rfl|hx
   ·exact ha
   rcases Η.1 hx with rfl|hx
   ·exact hb
   ·exact hP.sub _ ((yv _).1 hx).2
  ·intro x hx
   by_cases Ti:Rl f b x
   ·obtain⟨i,i1,i2,rfl⟩:=hp.up Ti
    by_cases q:i≤k
    ·exact⟨a,Jai ..,r0 i i1 q⟩
    ·refine⟨b,Jad _ (Jai ..),?_⟩
     have:=r1 (i - k) (by omega) (by omega)
     rwa [eka,show k+(i - k)=i by omega] at this
   ·obtain⟨y,hy,r⟩:=hP.all x hx
    have bj:y≠ra:=fun e=>Ti (by
     rw[e] at r;exact(Xz.trans (Zc.symm h (hP.sub ra Ou))).trans r)
    refine⟨y,Jad _ (Jad _ ((yv _).2 ⟨bj,hy⟩)),?_⟩
    exact(p5 h fz (hP.sub y hy) (F9 hy bj).1 (F9 hy bj).2 x).2 r
  ·have old:∀x∈P.erase ra,∀y,(y=a∨y=b)→¬Rl f' x y:=fun x hx y hy=>by
    obtain⟨bj,u4⟩:=(yv x).1 hx;rcases hy with rfl|rfl
    ·exact ZS (hP.sub x u4) (F9 u4 bj).1 (F9 u4 bj).2
    ·exact afs (hP.sub x u4) (F9 u4 bj).1 (F9 u4 bj).2
   have abd:∀x∈P.erase ra,∀y,(y=a∨y=b)→¬Rl f' y x:=fun x hx y hy r=>
    old x hx y hy (r.symm h' (by rcases hy with rfl|rfl<;>assumption))
   intro x hx y hy r;rcases Η.1 hx with ex|hx
   ·rcases Η.1 hy with ey|hy
    ·rw[ex,ey]
    rcases Η.1 hy with ey|hy
    ·exact(n01 (ex▸ey▸r)).elim
    ·exact(abd y hy x (.inl ex) r).elim
   rcases Η.1 hx with ex|hx
   ·rcases Η.1 hy with ey|hy
    ·exact(n10 (ex▸ey▸r)).elim
    rcases Η.1 hy with ey|hy
    ·rw[ex,ey]
    ·exact(abd y hy x (.inr ex) r).elim
   ·rcases Η.1 hy with ey|hy
    ·exact(old x hx y (.inl ey) r).elim
    rcases Η.1 hy with ey|hy
    ·exact(old x hx y (.inr ey) r).elim
    ·obtain⟨bj,u4⟩:=(yv x).1 hx;exact hP.one x u4 y ((yv y).1 hy).2 ((p5 h fz (hP.sub x u4) (F9 u4 bj).1 (F9 u4 bj).2 y).1 r)
  ·have iQ:=List.length_erase_of_mem Ou
   have:=Jbk Ou
   simp only[JaH];omega
 ·have Xz:¬Rl f b a:=fun r=>hs (r.symm h hb)
  have bj:rb≠ra:=fun e=>hs ((Zc.symm h (hP.sub ra Ou)).trans (e▸rrb))
  have r0:∀i,0<i→i≤p→Rl f' a (fR f i b):=fun i i1 i2=>reach h fz fa hb i (fun j j1 j2=>⟨fun e=>Xz ⟨j,e⟩,hp.ne j j1 (by omega)⟩) i1
  have r1:∀i,0<i→i≤q→Rl f' b (fR f i a):=fun i i1 i2=>reach h fz fb ha i (fun j j1 j2=>⟨hq.ne j j1 (by omega),fun e=>hs ⟨j,e⟩⟩) i1
  have r01:Rl f' a b:=by
   have:=r0 p hp.pos (Δ _)
   rwa [hp.back] at this
  have S6:rb∈P.erase ra:=hP.nd.mem_erase_iff.2 ⟨bj,Y4⟩
  have yv:∀x,x∈(P.erase ra).erase rb↔x≠rb∧x≠ra∧x∈P:=fun x=>by
   rw[(hP.nd.erase ra).mem_erase_iff,hP.nd.mem_erase_iff]
  have e0:a∉(P.erase ra).erase rb:=fun m=>kZ ((yv _).1 m).2.2 ((yv _).1 m).2.1 (Rl.refl a)
  refine⟨a::(P.erase ra).erase rb,⟨?_,?_,?_,?_⟩,fun q=>(hs q).elim,fun _=>?_⟩
  ·rw[JaJ];exact⟨e0,(hP.nd.erase _).erase _⟩
  ·intro x hx;rcases Η.1 hx with rfl|hx
   ·exact ha
   ·exact hP.sub _ ((yv _).1 hx).2.2
  ·intro x hx
   by_cases Ti:Rl f b x
   ·obtain⟨i,i1,i2,rfl⟩:=hp.up Ti;exact⟨a,Jai ..,r0 i i1 i2⟩
   by_cases Ri:Rl f a x
   ·obtain⟨i,i1,i2,rfl⟩:=hq.up Ri;exact⟨a,Jai ..,r01.trans (r1 i i1 i2)⟩
   ·obtain⟨y,hy,r⟩:=hP.all x hx;have X9:y≠ra:=fun e=>Ri ((Zc.symm h (hP.sub ra Ou)).trans (e▸r))
    have ne2:y≠rb:=fun e=>Ti ((rrb.symm h (hP.sub rb Y4)).trans (e▸r))
    exact⟨y,Jad _ ((yv _).2 ⟨ne2,X9,hy⟩),(p5 h fz (hP.sub y hy) (kZ hy X9) (QP hy ne2) x).2 r⟩
  ·have old:∀x∈(P.erase ra).erase rb,¬Rl f' x a:=fun x hx=>by
    obtain⟨ne2,X9,u4⟩:=(yv x).1 hx;exact ZS (hP.sub x u4) (kZ u4 X9) (QP u4 ne2)
   intro x hx y hy r;rcases Η.1 hx with ex|hx
   ·rcases Η.1 hy with ey|hy
    ·rw[ex,ey]
    ·exact(old y hy ((ex▸r).symm h' ha)).elim
   ·rcases Η.1 hy with ey|hy
    ·exact(old x hx (ey▸r)).elim
    ·obtain⟨ne2,X9,u4⟩:=(yv x).1 hx;exact hP.one x u4 y ((yv y).1 hy).2.2 ((p5 h fz (hP.sub x u4) (kZ u4 X9) (QP u4 ne2) y).1 r)
  ·have iQ:=List.length_erase_of_mem Ou;have jd:=List.length_erase_of_mem S6
   have:=Jbk S6
   have:=Jbk Ou
   simp only[JaH];omega
end
structure qA (K:Nat→Prop) (W W':ο):Prop where
 size:W.heap.size≤W'.heap.size
 same:∀i,i<W.heap.size→K i→W'.heap[i]? =W.heap[i]?
theorem qA.refl (K:Nat→Prop) (W:ο):qA K W W:=⟨Δ _,fun _ _ _=>rfl⟩
theorem qA.trans {K:Nat→Prop} {A B C:ο} (h:qA K A B) (k:qA K B C):qA K A C:=
 ⟨Λ h.size k.size,fun i hi hk=>(k.same i (JaK hi h.size) hk).trans (h.same i hi hk)⟩
theorem qA.grown {K:Nat→Prop} {W W':ο} {row:Option Nat} (h:W.grownBy W' row) (hr:∀r,row=ζ r→¬K r):qA K W W':=
 ⟨h.size,fun i hi hk=>h.block i hi (fun e=>hr i e.symm hk)⟩
theorem qA.below {K:Nat→Prop} {n₀:Nat} {W W':ο} (h:qA K W W'):W.heap.size≤W'.heap.size:=h.size
def PZ (b:Nat) (I:ο→Prop):Prop:=∀W W' r,I W→W.grownBy W' (ζ r)→b≤r→r≤b+2→I W'
def Yf (B:Nat) (J_:ο→Prop):Prop:=∀W W',J_ W→W.grownBy W' (ζ B)→J_ W'
theorem Fa {W W':ο} (h:W.grownBy W' ε) (r:Nat):W.grownBy W' (ζ r):=⟨h.os,h.tape,h.output,h.size,fun k hk _=>h.block k hk (fun e=>by cases e)⟩
theorem PZ.al {b:Nat} {I:ο→Prop} (h:PZ b I) {W:ο} (hi:I W) (o:Obj):I (W.alloc o):=
 h W _ b hi (Fa (World.grownBy_alloc W o ε) b) (Δ _) (by omega)
theorem PZ.po {b:Nat} {I:ο→Prop} (h:PZ b I) {W:ο} (hi:I W) (r:Nat) (o:Obj) (h1:b≤r) (h2:r≤b+2):I (W.putObj r o):=
 h W _ r hi (grownBy_putObj' W r o) h1 h2
def ItS {α:Type} (P:Program) (g:Nat) (lb:Array ψ) (encs:α→Array ψ) (K:Nat→Prop) (S Sp:List α→Prop) (N:Nat) (W:ο):Prop:=
 ∀(l:Nat) (J_ Jx:List α→ο→Prop),(∀p,Yf W.heap.size (J_ p))→(∀p,Yf W.heap.size (Jx p))→
  (∀pre x W1,J_ pre W1→pre.length<N→W.heap.size<W1.heap.size→YieldAt Fence.wide 0 P l (encs x) W1 fun e W'=>
    (e=.returned (.bool τ)∧J_ (pre++[x]) W'∧qA K W1 W')∨(e=.returned (.bool ρ)∧Jx (pre++[x]) W'))→
  J_ [] W→
  CallsIn Fence.wide 0 P g (#[.func (.yield l) #[] #[]]++lb) W fun e W'=>(∃v,e=.returned v)∧((∃xs,S xs∧J_ xs W')∨(∃pre,Sp pre∧Jx pre W'))
def Yl {α:Type} (K:Nat→Prop) (I:List α→ο→Prop) (Ix:Code→List α→ο→Prop) (xs:List α) (W:ο):Exit→Act→ο→Prop
 |.normal,_,W'=>qA K W W'∧I xs W'
 |.ret,_,W'=>qA K W W'∧Ix .ret xs W'
 |.exit id,_,W'=>qA K W W'∧Ix (.exit id) xs W'
 |.goto t,_,W'=>qA K W W'∧Ix (.goto t) xs W'
 |.panic _,_,_=>False
 |.outgrown,_,_=>False
variable {P:Program}
theorem DS {α:Type} {g:Operand} {ps:Array Tmp} {assign body:Code} {Q:Exit→Act→ο→Prop} {a:Act} {w:ο}
 {gf:Nat} {lb:Array ψ} (hg:a.eval g=.func (.func gf) #[] lb) (eg:∀args w,(callFunc gf args).run P w=.ok (.enter gf args) w)
 {encs:α→Array ψ} (hps:∀x,(encs x).size=ps.size) (K:Nat→Prop) {S Sp:List α→Prop} {N:Nat} (WH:¬K (w.heap.size+1))
 (hit:∀r,ItS P gf lb encs K S Sp N ((w.alloc (.deferred (ζ []))).alloc (.loop r)))
 (I:List α→ο→Prop) (I1:List α→α→Act→ο→Prop) (Ix:Code→List α→ο→Prop) (hI:∀p,PZ w.heap.size (I p)) (hI1:∀p x a',PZ w.heap.size (I1 p x a')) (XG:∀c p,PZ w.heap.size (Ix c p)) (h0:I [] w)
 (Gm:∀(l:Nat) (pre:List α) (x:α) (W:ο) (R:Act→ο→Prop),I pre W→w.heap.size+3≤W.heap.size→(∀a' W',qA (fun i=>K i∨i=w.heap.size∨i=w.heap.size+1) W W'→I1 pre x a' W'→R a' W')→
   assign.wpIn (Fence.wide.inRound l) 0 P (Exit.then R (fun _ _ _=>False)) {tmps:=(ps.zip (encs x)).foldl (fun t (p,v)=>t.setIfInBounds p v) a.tmps,defers:=[]} W)
 (TH:∀(l:Nat) (pre:List α) (x:α) (a':Act) (W:ο),I1 pre x a' W→pre.length<N→w.heap.size+3≤W.heap.size→
   body.wpIn (Fence.wide.inRound l) 0 P (Yl (fun i=>K i∨i=w.heap.size∨i=w.heap.size+1) I Ix (pre++[x]) W) a' W)
 (S9:∀(xs:List α) (W:ο),S xs→I xs W→W.heap[w.heap.size]? =ζ (.deferred (ζ []))→Q .normal {a with defers:={target:=.collected w.heap.size,args:=#[]}::a.defers} W)
 (Sm:∀(c:Code) (pre:List α) (W:ο),Sp pre→Ix c pre W→W.heap[w.heap.size]? =ζ (.deferred (ζ []))→c.wpIn Fence.wide 0 P Q {a with defers:={target:=.collected w.heap.size,args:=#[]}::a.defers} W):
 (Code.rangeFunc g ps assign body).wpIn Fence.wide 0 P Q a w:=by
 refine wpIn_rangeFunc fun fn hfn=>?_
 obtain⟨rc,KN⟩:∃rc:LoopState→Option Code→Loop,rc=fun st pe=>{state:=st,pending:=pe,fn,tmps:=a.tmps,params:=ps,assign,body,defers:=w.heap.size}:=⟨_,rfl⟩
 obtain⟨W1,oR⟩:=aB ((w.alloc (.deferred (ζ []))).alloc (.loop (rc .ready ε)));obtain⟨b,hb⟩:=aB w.heap.size;have pO:W1.heap.size=b+2:=by rw[←oR,JbF,JbF,hb]
 have iQ:W1.heap[b+1]? =ζ (.loop (rc .ready ε)):=by
  rw[←oR,←hb];have:=World.alloc_heap_new (w.alloc (.deferred (ζ []))) (.loop (rc .ready ε));rwa [JbF] at this
 have hd1:W1.heap[b]? =ζ (.deferred (ζ [])):=by
  rw[←oR,←hb];exact(Below.heap_alloc _ _ _ (by simp)).trans (World.alloc_heap_new w _)
 have KH:I [] W1:=by rw[←oR];exact(hI []).al ((hI []).al h0 _) _
 have aaW:=hit (rc .ready ε);rw[oR] at aaW;rw[hb] at WH hI hI1 XG Gm TH S9 Sm
 have bV:(Instr.enterLoop fn a.tmps ps assign body ε).run P w=.ok (b+1,[{target:=.collected b,args:=#[]}]) W1:=by
  rw[←oR,KN,←hb];exact run_enterLoop_outer _ _ _ _ _
 clear oR h0 hit
 refine⟨b+1,[{target:=.collected b,args:=#[]}],W1,{target:=.fn (.func gf) lb,args:=#[.func (.yield (b+1)) #[] #[]]},W1,gf,#[.func (.yield (b+1)) #[] #[]]++lb,W1,bV,?_,fun _ _=>trivial,?_,fun h=>(by cases h),?_⟩
 ·simp only[resolve,hg];simp[go_sem]
 ·simp[invoke,go_sem,eg]
 refine(aaW (b+1)
  (fun p W=>I p W∧W.heap[b+1]? =ζ (.loop (rc .ready ε))∧W.heap[b]? =ζ (.deferred (ζ [])))
  (fun p W=>∃c,Ix c p W∧W.heap[b+1]? =ζ (.loop (rc .done (ζ c)))∧W.heap[b]? =ζ (.deferred (ζ [])))
  (fun p A B h tF=>?_) (fun p A B h tF=>?_) ?_ ⟨KH,iQ,hd1⟩).mono ?_
 ·have hx:=fun (i:Nat) (o:Obj) (hi:i≤b+1) (ho:A.heap[i]? =ζ o)=>(tF.block i (Jaa.1 ho).1 (by rw[pO];intro e;cases e;omega)).trans ho
  exact⟨hI p A B _ h.1 tF (by omega) (by omega),hx _ _ (by omega) h.2.1,hx _ _ (by omega) h.2.2⟩
 ·have hx:=fun (i:Nat) (o:Obj) (hi:i≤b+1) (ho:A.heap[i]? =ζ o)=>(tF.block i (Jaa.1 ho).1 (by rw[pO];intro e;cases e;omega)).trans ho
  obtain⟨c,h1,h2,h3⟩:=h;exact⟨c,XG c p A B _ h1 tF (by omega) (by omega),hx _ _ (by omega) h2,hx _ _ (by omega) h3⟩
 ·rintro pre x W ⟨hi,hl,hd⟩ hlen fU;rw[pO] at fU;have hy:=run_yield (P:=P) (args:=encs x) hl (by rw[KN];exact hps x);rw[KN] at hy
  refine⟨fn,_,assign,body,hy,roundIn_of_wpIn hfn (Gm _ pre x W _ hi (by omega) ?_)⟩
  intro a' Wa Zh ha;replace hl:=(Zh.same _ (Jaa.1 hl).1 (.inr (.inr rfl))).trans hl;replace hd:=(Zh.same _ (Jaa.1 hd).1 (.inr (.inl rfl))).trans hd;have dz:=(Jaa.1 hl).1
  refine⟨_,run_beginRound hl (by rw[KN]),?_⟩
  obtain⟨Wb,XV⟩:=aB (Wa.putObj (b+1) (.loop {rc .ready ε with state:=.busy}));have hlb:Wb.heap[b+1]? =ζ (.loop {rc .ready ε with state:=.busy}):=by rw[←XV];exact World.putObj_heap_same dz
  have hdb:Wb.heap[b]? =ζ (.deferred (ζ [])):=by rw[←XV];exact(World.putObj_heap_other (by omega)).trans hd
  have hkb:qA K Wa Wb:=by rw[←XV];exact qA.grown (grownBy_putObj' _ _ _) (fun r e=>by cases e;exact WH)
  have s8:I1 pre x a' Wb:=by rw[←XV];exact(hI1 pre x a').po ha _ _ (by omega) (by omega)
  rw[XV];clear XV;have adT:qA K W Wa:=⟨Zh.size,fun i h1 h2=>Zh.same i h1 (.inl h2)⟩
  have fin:∀(jump:Option Code) (W3:ο),qA (fun i=>K i∨i=b∨i=b+1) Wb W3→
   (Instr.endRound (b+1) jump).run P W3=.ok (.bool jump.isNone) (W3.putObj (b+1) (.loop (rc (if jump.isNone then .ready else .done) jump)))∧
   (W3.putObj (b+1) (.loop (rc (if jump.isNone then .ready else .done) jump))).heap[b+1]? =ζ (.loop (rc (if jump.isNone then .ready else .done) jump))∧
   (W3.putObj (b+1) (.loop (rc (if jump.isNone then .ready else .done) jump))).heap[b]? =ζ (.deferred (ζ []))∧
   qA K W (W3.putObj (b+1) (.loop (rc (if jump.isNone then .ready else .done) jump))):=fun jump W3 Ec=>by
   have qi:=(Ec.same _ (Jaa.1 hlb).1 (.inr (.inr rfl))).trans hlb;have hd3:=(Ec.same _ (Jaa.1 hdb).1 (.inr (.inl rfl))).trans hdb;have he:=run_endRound (P:=P) jump qi;rw[KN] at he ⊢
   exact⟨he,World.putObj_heap_same (Jaa.1 qi).1,(World.putObj_heap_other (by omega)).trans hd3,
    adT.trans (hkb.trans (qA.trans ⟨Ec.size,fun i h1 h2=>Ec.same i h1 (.inl h2)⟩ (qA.grown (grownBy_putObj' _ _ _) (fun r e=>by cases e;exact WH))))⟩
  refine wpIn_mono (TH _ pre x a' Wb s8 hlen (by have h1:=Zh.size;have h2:=hkb.size;omega)) ?_;rintro e a3 W3 hp;cases e with
  |normal=>
   obtain⟨h1,h2,h3,h4⟩:=fin ε W3 hp.1;exact⟨_,_,h1,.inl ⟨rfl,⟨(hI _).po hp.2 _ _ (by omega) (by omega),h2,h3⟩,h4⟩⟩
  |ret=>
   obtain⟨h1,h2,h3,_⟩:=fin (ζ .ret) W3 hp.1;exact⟨_,_,h1,.inr ⟨rfl,.ret,(XG _ _).po hp.2 _ _ (by omega) (by omega),h2,h3⟩⟩
  |exit id=>
   obtain⟨h1,h2,h3,_⟩:=fin (ζ (.exit id)) W3 hp.1;exact⟨_,_,h1,.inr ⟨rfl,.exit id,(XG _ _).po hp.2 _ _ (by omega) (by omega),h2,h3⟩⟩
  |goto t=>
   obtain⟨h1,h2,h3,_⟩:=fin (ζ (.goto t)) W3 hp.1;exact⟨_,_,h1,.inr ⟨rfl,.goto t,(XG _ _).po hp.2 _ _ (by omega) (by omega),h2,h3⟩⟩
  |panic ch=>exact hp.elim
  |outgrown=>exact hp.elim
 ·rintro e W2 ⟨⟨v,rfl⟩,⟨xs,hS,hi,hl,hd⟩|⟨pre,hSp,c,hi,hl,hd⟩⟩
  ·have he:=run_endLoop (P:=P) hl (by rw[KN];simp)
   refine⟨ε,_,by rw[KN] at he;exact he,S9 xs _ hS ((hI _).po hi _ _ (by omega) (by omega)) ((World.putObj_heap_other (by omega)).trans hd)⟩
  ·have he:=run_endLoop (P:=P) hl (by rw[KN];simp)
   refine⟨ζ c,_,by rw[KN] at he;exact he,Sm c pre _ hSp ((XG _ _).po hi _ _ (by omega) (by omega)) ((World.putObj_heap_other (by omega)).trans hd)⟩
end Go.Proofs.YtpdpbfmiahjiiaaGreat
