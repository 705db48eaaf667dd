/- Several texts in one. -/
import Derived.Test.YtpdpbfmiahjiiaaGreatPsAA
import Derived.Test.YtpdpbfmiahjiiaaGreatPsAB
import Derived.Test.YtpdpbfmiahjiiaaGreatPsAC
import Derived.Test.YtpdpbfmiahjiiaaGreatPsAF
set_option linter.unusedSectionVars false
set_option linter.unusedSimpArgs false
set_option linter.unusedVariables false
set_option maxRecDepth 100000
set_option maxHeartbeats 16000000
namespace Go.Proofs.YtpdpbfmiahjiiaaGreat
open Go.RowKit
open _root_.Go.Value renaming slice→γ,string→μ,pointer→υ,agg→φ,slice→Ο,oneCell'→Τ
open _root_.Go.Obj renaming cells→δ
open _root_.Option renaming none→ε,some→ζ
open _root_.Go.Proofs.Tryz renaming prog→η
open _root_.List renaming getElem?_eq_getElem→θ,map_cons→ι,getElem?_eq_some_iff→ν,map_nil→π,mem_of_getElem?→ω,mem_map→Α,length_append→Ε,mem_cons→Η,drop_eq_getElem_cons→Χ,getElem?_append_left→Jab,getElem?_append_right→Jal,drop_eq_nil_of_le→Jav
open _root_.Go.Act renaming put→ξ
open _root_.Go renaming World→ο,Value→ψ,Calls→Ζ,Addr→Κ
open _root_.Bool renaming false→ρ,and_eq_true→Jar
open _root_.Go.RowKit renaming Below→σ
open _root_.Nat renaming le_refl→Δ,le_trans→Λ,add_zero→Jac,lt_of_lt_of_le→JaK,sub_self→JaP
open _root_.Go.Addr renaming add_lit→Ν
open _root_.And renaming intro→Jax
open _root_.Prod.mk renaming injEq→Jba
theorem Bl (A:Option Κ) (n c:Nat) (Vs:List VC) (B:Option Κ) (m k:Nat) (Es:List EC) (x1 x2 x3:Int) (w:ο) (h:bz w A n c Vs B m k Es) (hn:n≤140737488355328) (hr:∀y∈Vs,y.2.1.2.1≤5864062014634):
 Ζ η 29 #[φ #[γ A n c,γ B m k],φ #[J x1,J x2,J x3]] w fun e w'=>
  e=.returned (.tuple #[φ #[J (lE Vs (x1,x2,x3)).1.1,J (lE Vs (x1,x2,x3)).1.2],.bool (lE Vs (x1,x2,x3)).2])∧σ w.heap.size w w':=by
 have H:=qh h.v;have sw:=qh h.r;have AL:=qh hr;have Hl:=qh (h.v.rlen aS (by decide));obtain⟨⟨⟨r1,r2⟩,r3⟩,gr⟩:∃z,lE Vs (x1,x2,x3)=z:=⟨_,rfl⟩
 rw[gr];have HG:=qh gr;clear h hr gr;go_enter Tryz.func29,Tryz.ntmps29;go_wp2;obtain⟨W0,b0,b1,b2,bO,bp,dE,jc,aQ,aL,aZ,bw,mQ,lZ,oa,uD,iP,X0,eI,uW,RA,tU⟩:=Bs w 25 [γ A n c,γ B m k] 32 [J x1,J x2,J x3] 30 [J 0,J 0];rw[bO,jc,dE,bp];clear bO bp dE jc;go_loopw [6] (fun si wr=>∃j:Nat,j≤n∧si=J j∧Hid (σ w.heap.size w wr)∧Hid (Whole wr b0 25 [γ A n c,γ B m k])∧Hid (Whole wr b1 32 [J x1,J x2,J x3])∧Hid (Whole wr b2 30 [J 0,J 0])∧Hid (lE (Vs.drop j) (x1,x2,x3)=((r1,r2),r3))) (fun si _=>n - (intOf si).toNat)
 case atStart=>exact⟨0,by omega,rfl,bw,aQ,aL,aZ,HG⟩
 case round=>
  clear bw aQ aL aZ HG;obtain⟨j,hj,rfl,HB,aQ,aL,aZ,HG⟩:=hrel;obtain⟨wo,cS⟩:=aB wr;rw[cS] at HB aQ aL aZ ⊢;clear cS
  by_cases nT:j<n
  ·obtain⟨x,hx⟩:∃x,Vs[j]? =ζ x:=⟨_,θ (by have:=Hl.out;omega)⟩
   have kd:Vs.drop j=x::Vs.drop (j+1):=by
    rw[Χ (ν.1 hx).1,(ν.1 hx).2]
   have iZ:=HG.out;rw[kd] at iZ;have dQ:=qh iZ;have uH:=sw.out x (ω hx);have kc:=AL.out x (ω hx);obtain⟨bb,off,rfl,aY,a8⟩:=H.out.place aS (by decide) (by omega);have XT:Hid (bb<wo.heap.size):=qh (JaK aY HB.out.size);have bC:=HB.out;have q0:=a8 j _ hx 0 _ rfl;have q1:=a8 j _ hx 1 _ rfl;have q2:=a8 j _ hx 2 _ rfl;have q3:=a8 j _ hx 3 _ rfl;have q4:=a8 j _ hx 4 _ rfl;simp only[Ν,Jac] at q0 q1 q2 q3 q4;have l0:=(bC.cell (p:=⟨bb,off+j*5,ε⟩) aY).trans q0;have l1:=(bC.cell (p:=⟨bb,off+j*5+1,ε⟩) aY).trans q1;have l2:=(bC.cell (p:=⟨bb,off+j*5+2,ε⟩) aY).trans q2;have l3:=(bC.cell (p:=⟨bb,off+j*5+3,ε⟩) aY).trans q3;have l4:=(bC.cell (p:=⟨bb,off+j*5+4,ε⟩) aY).trans q4;clear bC q0 q1 q2 q3 q4;obtain⟨⟨i1,i2⟩,⟨rA,rn,rc,rL⟩,lb,at_⟩:=x;have hR:bg w w.heap.size 3 rA rn rc (aA rL):=uH.2;replace kc:rn≤5864062014634:=kc
   have hI:∀w',Kept aO wo.drew w'→Ζ η 33 #[γ rA rn rc,φ #[J x1,J x2,J x3]] w' fun e bW=>e=.returned (J (fC rL (x1,x2,x3)))∧σ w'.heap.size w' bW:=
    fun w' hk=>oN rA rn rc rL (x1,x2,x3) w' ((hR.bl (aN HB.out)).bl (hk.below (Δ _) (fun _ _ h=>h))) (by omega)
   have HI:=qh hI;have HE:=qh (Jax l0 l1);have cb:=aQ.out.cell (i:=0) rfl;clear hx kd iZ a8 aY HG uH hR hI l0 l1 l3 l4;obtain⟨ix,N1⟩:=aB (fC rL (x1,x2,x3));rw[N1] at HI;have ZZ:=qh N1;clear N1;go_upto_region 4 with fail
   clear cb;have NH:=cm (i:=0) aQ.out rfl;have WM:=cm (i:=0) aL.out rfl;have TT:=cm (i:=1) aL.out rfl;have ldz:=cm (i:=2) aL.out rfl;have ldr:=cz l2;clear l2;refine ay (aO) (by kernel_rfl) ?_;refine aa 0 ?_;refine aa 1 ?_;refine aa 2 ?_;refine aa 3 ?_;refine aa 4 ?_;refine aa 5 ?_;refine aa 6 ?_;refine cV 7 (hy:=by apply bP;rfl;rotate_left;intro w' aC;exact HI.out w' aC;intro w';go_simp) (h:=?_);refine aa 8 ?_;refine aF (by kernel_rfl) ?_ _;intro W3 du;have j6:=qh (aQ.out.dr.bl du);have eD:=qh (aL.out.dr.bl du);have cE:=qh (aZ.out.dr.bl du);have sO:Hid (σ wo.heap.size wo W3):=qh (ag (aN (Below.refl _ _)) du);have bB:=qh (ag HB.out sO.out);clear du NH WM TT ldz ldr HB aQ aL aZ HI
   by_cases eE:(x1,x2,x3)∈rL
   ·have e1:fC rL (x1,x2,x3)=(rL.idxOf (x1,x2,x3):Int):=by rw[fC,if_pos eE]
    have h0:0≤ix:=by rw[←ZZ.out,e1];omega
    have hG:=dQ.out;rw[Ak _ _ _ eE] at hG;simp only[Jba] at hG;obtain⟨⟨rfl,rfl⟩,rfl⟩:=hG;obtain⟨l0,l1⟩:=HE.out;have y0:=(sO.out.cell (p:=⟨bb,off+j*5,ε⟩) XT.out).trans l0;have y1:=(sO.out.cell (p:=⟨bb,off+j*5+1,ε⟩) XT.out).trans l1;have cb:=j6.out.cell (i:=0) rfl;have f0:=cE.out.free 0;have f1:=cE.out.free 1;have k0:=cE.out.cell (i:=0) rfl;have k1:=cE.out.cell (i:=1) rfl;have HY:=qh ((cE.out.set_ 0 (J i1)).set_ 1 (J i2));have rQ:=qh ((bB.out.setCell (p:=⟨b2,0,ε⟩) eI.out (J i1)).setCell (p:=⟨b2,1,ε⟩) eI.out (J i2));clear cE dQ bB HE sO l0 l1;go_wp2;exact bS rfl b2 rfl rfl HY.out Tryz.underlying30 rfl (by kernel_rfl) rfl ⟨rfl,rQ.out⟩
   ·have h0:¬0≤ix:=by rw[←ZZ.out,show fC rL (x1,x2,x3)= -1 by rw[fC,if_neg eE]];omega
    have hG:=dQ.out;rw[EI _ _ _ eE] at hG;have Bx:=qh hG;clear hG dQ HE sO;go_wp2;go_roundw
    case rel=>exact⟨j+1,by omega,by go_num,bB,j6,eD,cE,Bx⟩
    case measure=>simp[intOf];omega
  ·obtain rfl:n=j:=by omega
   have hG:=HG.out;rw[Jav (by have:=Hl.out;omega)] at hG;replace hG:(((0:Int),(0:Int)),ρ)=((r1,r2),r3):=hG;simp only[Jba] at hG;obtain⟨⟨rfl,rfl⟩,rfl⟩:=hG;have cb:=aQ.out.cell (i:=0) rfl;have f0:=aZ.out.free 0;have f1:=aZ.out.free 1;have k0:=aZ.out.cell (i:=0) rfl;have k1:=aZ.out.cell (i:=1) rfl;have HY:=qh ((aZ.out.set_ 0 (J 0)).set_ 1 (J 0));have rQ:=qh ((HB.out.setCell (p:=⟨b2,0,ε⟩) eI.out (J 0)).setCell (p:=⟨b2,1,ε⟩) eI.out (J 0));clear HG aZ;go_wp2;exact bS rfl b2 rfl rfl HY.out Tryz.underlying30 rfl (by kernel_rfl) rfl ⟨rfl,rQ.out⟩
theorem Wm (x y:Int × Int) (W:ο):(binOp .neq 30 (φ (lS x).toArray) (φ (lS y).toArray)).run η W=.ok (.bool (!decide (x=y))) W:=by
 obtain⟨a1,a2⟩:=x;obtain⟨b1,b2⟩:=y
 by_cases h1:a1=b1<;>by_cases h2:a2=b2<;>simp[go_sem,lS,h1,h2]
def nM (d:D):Bool:=decide (0≤d.2.2) && decide (d.2.2≤1)
def me (Es:List EC) (d:D):Bool:=(wu Es (d.1,d.2.1)).2 && nM d
theorem vV {d:D} {S:List D} (h:S.Nodup):(oB d S).Nodup:=by
 unfold oB;split
 ·exact h
 ·rename_i hn;exact List.nodup_cons.2 ⟨hn,h⟩
theorem Cy {d x:D} {S:List D}:x∈oB d S↔x=d∨x∈S:=by
 unfold oB;split
 ·rename_i hm;constructor
  ·exact .inr
  ·rintro (rfl|h)
   ·exact hm
   ·exact h
 ·exact Η
theorem kP:∀(Es:List EC) (S:List D),S.Nodup→(DQ Es S).Nodup
 |[],S,h=>h
 |e::r,S,h=>kP r _ (vV (vV h))
theorem jL:∀(Es:List EC) (S:List D) (x:D),x∈DQ Es S↔x∈S∨∃e∈Es,x=(e.1.1,e.1.2,0)∨x=(e.1.1,e.1.2,1)
 |[],S,x=>by simp[DQ]
 |e::r,S,x=>by
  rw[DQ,jL r,Cy,Cy];simp only[Η,exists_eq_or_imp];constructor
  ·rintro ((h|h|h)|h)
   ·exact .inr (.inl (.inr h))
   ·exact .inr (.inl (.inl h))
   ·exact .inl h
   ·exact .inr (.inr h)
  ·rintro (h|(h|h)|h)
   ·exact .inl (.inr (.inr h))
   ·exact .inl (.inr (.inl h))
   ·exact .inl (.inl h)
   ·exact .inr h
theorem ig:∀(rs S:List D),rY S rs=true↔rs.Perm S
 |[],S=>by
  simp only[rY,decide_eq_true_eq];constructor
  ·intro h;rw[List.eq_nil_of_length_eq_zero h]
  ·intro h;rw[←h.length_eq];rfl
 |x::r,S=>by
  rw[rY]
  by_cases h:x∈S
  ·rw[if_pos h,ig r (S.erase x),List.cons_perm_iff_perm_erase];exact⟨fun k=>⟨h,k⟩,fun k=>k.2⟩
  ·rw[if_neg h];constructor
   ·intro k;cases k
   ·intro k;exact absurd (k.mem_iff.1 (List.mem_cons_self ..)) h
theorem JS (Es:List EC) (x:Int × Int):(wu Es x).2=true↔∃e∈Es,e.1=x:=by
 unfold wu KR;split
 ·rename_i v h;have h1:=List.find?_some h;have h2:=List.mem_of_find?_eq_some h;exact⟨fun _=>⟨v,h2,by simpa using h1⟩,fun _=>rfl⟩
 ·rename_i h;rw[List.find?_eq_none] at h;constructor
  ·intro k;cases k
  ·rintro⟨e,he,rfl⟩;exact absurd (by simp) (h e he)
theorem ri (Es:List EC) (d:D):me Es d=true↔d∈DQ Es []:=by
 obtain⟨a,b,c⟩:=d;rw[jL,me,Jar,JS];unfold nM;simp only[Jar,decide_eq_true_eq,List.not_mem_nil,false_or,Jba];constructor
 ·rintro⟨⟨e,he,h1⟩,h2,h3⟩;have e1:e.1.1=a:=by rw[h1]
  have e2:e.1.2=b:=by rw[h1]
  refine⟨e,he,?_⟩
  rcases (by omega:c=0∨c=1) with h|h
  ·exact .inl ⟨e1.symm,e2.symm,h⟩
  ·exact .inr ⟨e1.symm,e2.symm,h⟩
 ·rintro⟨e,he,h|h⟩
  ·exact⟨⟨e,he,by rw[h.1,h.2.1]⟩,by omega,by omega⟩
  ·exact⟨⟨e,he,by rw[h.1,h.2.1]⟩,by omega,by omega⟩
theorem Km (A:Option Κ) (n c:Nat) (Vs:List VC) (B:Option Κ) (m k:Nat) (Es:List EC) (A':Option Κ) (n' c':Nat) (Ws:List VC) (B':Option Κ) (m' k':Nat) (Fs:List EC) (w:ο)
 (h:bz w A n c Vs B m k Es) (h':bz w A' n' c' Ws B' m' k' Fs) (hn:n≤1000000) (hm:m≤1000000):
 Ζ η 36 #[φ #[γ A n c,γ B m k],φ #[γ A' n' c',γ B' m' k']] w fun e w'=>e=.returned (.bool (decide (Vs.map vS=Ws.map vS∧Es=Fs)))∧σ w.heap.size w w':=by
 have Hu:=qh h.v;have Hv:=qh h'.v;have HEu:=qh h.e;have HEv:=qh h'.e;have HRu:=qh h.r;have Sx:=qh h'.r;have hlu:=h.v.rlen aS (by decide);have T9:=h'.v.rlen aS (by decide);have heu:=h.e.rlen bM (by decide);have Vg:=h'.e.rlen bM (by decide);have Hlu:=qh hlu;have oG:=qh T9;have Yr:=qh heu;have Zz:=qh Vg;obtain⟨b,gb⟩:=aB (decide (Vs.map vS=Ws.map vS∧Es=Fs));rw[gb];have HG:=qh gb;have bG:=qh (cr w (δ #[γ A n c,γ B m k] 25) (δ #[γ A' n' c',γ B' m' k'] 25))
 by_cases F9:n=n'
 case neg=>
  have hq:b=ρ:=by
   rw[←gb];refine decide_eq_false (fun e=>F9 ?_)
   have:=congrArg List.length e.1
   simp at this;omega
  subst hq;have bj:((n:Int) !=(n':Int))=true:=by simp;omega
  have F6:((n:Int)==(n':Int))=ρ:=by simp;omega
  clear h h' gb HG hlu T9 heu Vg;go_enter Tryz.func36,Tryz.ntmps36;go_wp2;go_ret;exact⟨rfl,bG.out⟩
 by_cases Ee:m=m'
 case neg=>
  have hq:b=ρ:=by
   rw[←gb];refine decide_eq_false (fun e=>Ee ?_)
   have:=congrArg List.length e.2
   omega
  subst hq F9;have bj:((m:Int) !=(m':Int))=true:=by simp;omega
  have F6:((m:Int)==(m':Int))=ρ:=by simp;omega
  clear h h' gb HG hlu T9 heu Vg;go_enter Tryz.func36,Tryz.ntmps36;go_wp2;go_ret;exact⟨rfl,bG.out⟩
 subst F9 Ee;clear h h' gb hlu T9 heu Vg bG;go_enter Tryz.func36,Tryz.ntmps36;go_wp2;obtain⟨W0,b0,b1,bO,bp,dE,aQ,aL,bw,mQ,lZ,oa,uD,iP,uW⟩:=wT w 25 [γ A n c,γ B m k] 25 [γ A' n c',γ B' m k'];rw[bO,dE,bp];clear bO bp dE;go_loopw [5] (fun si wr=>∃j:Nat,j≤n∧si=J j∧Hid (σ w.heap.size w wr)∧Hid (Whole wr b0 25 [γ A n c,γ B m k])∧Hid (Whole wr b1 25 [γ A' n c',γ B' m k'])∧Hid (decide ((Vs.drop j).map vS=(Ws.drop j).map vS∧Es=Fs)=b)) (fun si _=>n - (intOf si).toNat)
 case atStart=>exact⟨0,by omega,rfl,bw,aQ,aL,HG⟩
 case round=>
  clear bw aQ aL HG;obtain⟨j,hj,rfl,HB,aQ,aL,HG⟩:=hrel;obtain⟨wo,cS⟩:=aB wr;rw[cS] at HB aQ aL ⊢;clear cS;have cb:=aQ.out.cell (i:=0) rfl
  by_cases nT:j<n
  ·obtain⟨xu,rE⟩:∃x,Vs[j]? =ζ x:=⟨_,θ (by have:=Hlu.out;omega)⟩
   obtain⟨xv,Ie⟩:∃x,Ws[j]? =ζ x:=⟨_,θ (by have:=oG.out;omega)⟩
   have hg:=HG.out;rw[Χ (ν.1 rE).1,(ν.1 rE).2,Χ (ν.1 Ie).1,(ν.1 Ie).2] at hg;simp only[ι,List.cons.injEq] at hg;have hru:=HRu.out xu (ω rE);have hrv:=Sx.out xv (ω Ie);obtain⟨WV,Gb,rfl,AI,AO⟩:=Hu.out.place aS (by decide) (by omega);obtain⟨U1,EB,rfl,Bg,As⟩:=Hv.out.place aS (by decide) (by omega);have bC:=HB.out;have q0:=AO j _ rE 0 _ rfl;have q1:=AO j _ rE 1 _ rfl;have q2:=AO j _ rE 2 _ rfl;have q3:=AO j _ rE 3 _ rfl;have q4:=AO j _ rE 4 _ rfl;simp only[Ν,Jac] at q0 q1 q2 q3 q4;have lu0:=(bC.cell (p:=⟨WV,Gb+j*5,ε⟩) AI).trans q0;have lu1:=(bC.cell (p:=⟨WV,Gb+j*5+1,ε⟩) AI).trans q1;have lu2:=(bC.cell (p:=⟨WV,Gb+j*5+2,ε⟩) AI).trans q2;have lu3:=(bC.cell (p:=⟨WV,Gb+j*5+3,ε⟩) AI).trans q3;have lu4:=(bC.cell (p:=⟨WV,Gb+j*5+4,ε⟩) AI).trans q4;clear bC q0 q1 q2 q3 q4;have bC:=aI HB.out (δ (vC xu).toArray 59);have q0:=As j _ Ie 0 _ rfl;have q1:=As j _ Ie 1 _ rfl;have q2:=As j _ Ie 2 _ rfl;have q3:=As j _ Ie 3 _ rfl;have q4:=As j _ Ie 4 _ rfl;simp only[Ν,Jac] at q0 q1 q2 q3 q4;have lv0:=(bC.cell (p:=⟨U1,EB+j*5,ε⟩) Bg).trans q0;have lv1:=(bC.cell (p:=⟨U1,EB+j*5+1,ε⟩) Bg).trans q1;have lv2:=(bC.cell (p:=⟨U1,EB+j*5+2,ε⟩) Bg).trans q2
   have lv3:=(bC.cell (p:=⟨U1,EB+j*5+3,ε⟩) Bg).trans q3;have lv4:=(bC.cell (p:=⟨U1,EB+j*5+4,ε⟩) Bg).trans q4;clear bC q0 q1 q2 q3 q4;obtain⟨⟨i1,i2⟩,⟨rA,rn,rc,rL⟩,lb,at_⟩:=xu;obtain⟨⟨j1,j2⟩,⟨sA,sn,sc,sL⟩,kb,OR⟩:=xv;dsimp only[vC] at lv0 lv1 lv2 lv3 lv4;have hR:bg w w.heap.size 3 rA rn rc (aA rL):=hru.2;have hS:bg w w.heap.size 3 sA sn sc (aA sL):=hrv.2;have KN:rn≤9223372036854775807:=Λ (Λ hR.le hru.1) (by unfold maxLen;omega);have HD:=qh (fun W (hb:σ w.heap.size w W)=>xx rA sA rn sn rc sc rL sL W (hR.bl hb) (hS.bl hb) KN);obtain⟨br,gbr⟩:=aB (decide (rL=sL));rw[gbr] at HD;have hid:∀W,(binOp .neq 30 (φ #[J i1,J i2]) (φ #[J j1,J j2])).run η W=.ok (.bool (!decide ((i1,i2)=(j1,j2)))) W:=fun W=>Wm (i1,i2) (j1,j2) W
   obtain⟨bi,gbi⟩:=aB (decide ((i1,i2)=(j1,j2)));rw[gbi] at hid;have Py:=bytes_beq lb kb;obtain⟨bs,Vh⟩:=aB (decide (lb=kb));rw[Vh] at Py;obtain⟨ba,Pq⟩:=aB ((at_==OR));have anR:(at_ !=OR)=!ba:=by rw[←Pq];rfl
   have aX:decide (vS ((i1,i2),(rA,rn,rc,rL),lb,at_)=vS ((j1,j2),(sA,sn,sc,sL),kb,OR))=(bi && bs && ba && br):=by
    rw[←gbi,←Vh,←Pq,←gbr,Bool.eq_iff_iff];simp only[vS,decide_eq_true_eq,Jba,Jar,beq_iff_eq];constructor
    ·rintro⟨⟨h1,h2⟩,h3,h4,h5⟩;exact⟨⟨⟨⟨h1,h2⟩,h4⟩,h5⟩,h3⟩
    ·rintro⟨⟨⟨⟨h1,h2⟩,h4⟩,h5⟩,h3⟩;exact⟨⟨h1,h2⟩,h3,h4,h5⟩
   have dQ:Hid ((decide (vS ((i1,i2),(rA,rn,rc,rL),lb,at_)=vS ((j1,j2),(sA,sn,sc,sL),kb,OR)) && decide ((Vs.drop (j+1)).map vS=(Ws.drop (j+1)).map vS∧Es=Fs))=b):=qh (by
    rw[←hg,←Bool.decide_and,decide_eq_decide,and_assoc])
   have HA:=qh aX;have Z2:=aL.out.cell (i:=0) rfl;have cb2:=(aL.out.alloc (δ #[J i1,J i2,γ rA rn rc,μ lb,J at_] 59)).cell (i:=0) rfl;clear rE Ie hg AO As AI Bg HG hru hrv hR hS KN gbr gbi Vh aX;go_wp2_with fail
   refine(HD.out _ (aI (aI HB.out (δ #[J i1,J i2,γ rA rn rc,μ lb,J at_] 59)) (δ #[J j1,J j2,γ sA sn sc,μ kb,J OR] 59))).mono ?_
   rintro e W3 ⟨rfl,hb⟩;have bB:Hid (σ w.heap.size w W3):=qh (ag (aI (aI HB.out _) _) hb);have j6:=qh (((aQ.out.alloc (δ #[J i1,J i2,γ rA rn rc,μ lb,J at_] 59)).alloc (δ #[J j1,J j2,γ sA sn sc,μ kb,J OR] 59)).bl hb);have eD:=qh (((aL.out.alloc (δ #[J i1,J i2,γ rA rn rc,μ lb,J at_] 59)).alloc (δ #[J j1,J j2,γ sA sn sc,μ kb,J OR] 59)).bl hb);have XM:=((Whole.new_ wo 59 [J i1,J i2,γ rA rn rc,μ lb,J at_]).alloc (δ #[J j1,J j2,γ sA sn sc,μ kb,J OR] 59)).bl hb;have Xj:Whole W3 (wo.heap.size+1) 59 [J j1,J j2,γ sA sn sc,μ kb,J OR]:=(show Whole ((wo.alloc (δ #[J i1,J i2,γ rA rn rc,μ lb,J at_] 59)).alloc (δ #[J j1,J j2,γ sA sn sc,μ kb,J OR] 59)) (wo.heap.size+1) 59 [J j1,J j2,γ sA sn sc,μ kb,J OR] from Whole.new2 (by simp)).bl hb;obtain⟨gu,ggu⟩:=aB wo.heap.size;obtain⟨gv,ggv⟩:=aB (wo.heap.size+1);rw[ggv] at Xj;rw[ggu] at XM;(try rw[ggv]);(try rw[ggu]);have mu0:=XM.cell (i:=0) rfl;have mv0:=Xj.cell (i:=0) rfl;have mu1:=XM.cell (i:=1) rfl;have mv1:=Xj.cell (i:=1) rfl;have mu3:=XM.cell (i:=3) rfl;have mv3:=Xj.cell (i:=3) rfl;have mu4:=XM.cell (i:=4) rfl;have mv4:=Xj.cell (i:=4) rfl
   clear hb XM Xj HB aQ aL HD cb Z2 cb2 ggu ggv lu0 lv0 lu1 lv1 lu2 lv2 lu3 lv3 lu4 lv4;cases bi with
   |false=>
    have hq:b=ρ:=by rw[←dQ.out,HA.out];simp
    subst hq;clear dQ HA;go_wp2;go_ret;exact⟨rfl,bB.out⟩
   |true=>
    cases bs with
    |false=>
     have hq:b=ρ:=by rw[←dQ.out,HA.out];simp
     subst hq;clear dQ HA;go_wp2;go_ret;exact⟨rfl,bB.out⟩
    |true=>
     cases ba with
     |false=>
      have hq:b=ρ:=by rw[←dQ.out,HA.out];simp
      subst hq;clear dQ HA;go_wp2;go_ret;exact⟨rfl,bB.out⟩
     |true=>
      cases br with
      |false=>
       have hq:b=ρ:=by rw[←dQ.out,HA.out];simp
       subst hq;clear dQ HA;go_wp2;go_ret;exact⟨rfl,bB.out⟩
      |true=>
       have xH:Hid (decide ((Vs.drop (j+1)).map vS=(Ws.drop (j+1)).map vS∧Es=Fs)=b):=qh (by
        rw[←dQ.out,HA.out];simp)
       clear dQ HA;go_wp2;go_roundw
       case rel=>exact⟨j+1,by omega,by go_num,bB,j6,eD,xH⟩
       case measure=>simp[intOf];omega
  ·obtain rfl:n=j:=by omega
   have Bx:Hid (decide (Es.drop 0=Fs.drop 0)=b):=qh (by
    rw[←HG.out,Jav (show Vs.length≤n by have:=Hlu.out;omega),Jav (show Ws.length≤n by have:=oG.out;omega)];simp)
   clear HG;go_wp2;clear cb;go_loopw [9] (fun si wr=>∃j:Nat,j≤m∧si=J j∧Hid (σ w.heap.size w wr)∧Hid (Whole wr b0 25 [γ A n c,γ B m k])∧Hid (Whole wr b1 25 [γ A' n c',γ B' m k'])∧Hid (decide (Es.drop j=Fs.drop j)=b)) (fun si _=>m - (intOf si).toNat)
   case atStart=>exact⟨0,by omega,rfl,HB,aQ,aL,Bx⟩
   case round=>
    clear HB aQ aL Bx;obtain⟨j,KJ,rfl,HB,aQ,aL,HG⟩:=hrel;obtain⟨wi,wE⟩:=aB wr;rw[wE] at HB aQ aL ⊢;clear wE;have cb:=aQ.out.cell (i:=1) rfl
    by_cases hjm:j<m
    ·obtain⟨xu,rE⟩:∃x,Es[j]? =ζ x:=⟨_,θ (by have:=Yr.out;omega)⟩
     obtain⟨xv,Ie⟩:∃x,Fs[j]? =ζ x:=⟨_,θ (by have:=Zz.out;omega)⟩
     have hg:=HG.out;rw[Χ (ν.1 rE).1,(ν.1 rE).2,Χ (ν.1 Ie).1,(ν.1 Ie).2] at hg;simp only[List.cons.injEq] at hg;have dQ:=qh hg;have bj:=fun W=>Qz xu xv W
     obtain⟨bs,Vh⟩:=aB (decide (xu=xv));rw[Vh] at bj;have Gbs:=qh Vh;obtain⟨WV,Gb,rfl,AI,AO⟩:=HEu.out.place bM (by decide) (by omega);obtain⟨U1,EB,rfl,Bg,As⟩:=HEv.out.place bM (by decide) (by omega);have HCu:=qh (DP (aN HB.out) AI (AO j xu rE));have HCv:=qh (DP (aN HB.out) Bg (As j xv Ie));clear rE Ie hg AO As AI Bg HG Vh;go_upto_region 14 with fail
     clear cb;have ldu:=cm (i:=1) aQ.out rfl;have ldv:=cm (i:=1) aL.out rfl;refine ay (aO) (by kernel_rfl) ?_;refine aa 0 ?_;refine aa 1 ?_;refine aa 2 ?_;refine aa 3 ?_;refine cV 4 (hy:=nS (by rfl) 67 (.tmp 81) rfl ⟨WV,Gb+j*4,ε⟩ rfl (eC xu) _ HCu.out Tryz.underlying67 rfl (by kernel_rfl)) (h:=?_);refine aa 5 ?_;refine aa 6 ?_;refine aa 7 ?_;refine aa 8 ?_;refine cV 9 (hy:=nS (by rfl) 67 (.tmp 86) rfl ⟨U1,EB+j*4,ε⟩ rfl (eC xv) _ HCv.out Tryz.underlying67 rfl (by kernel_rfl)) (h:=?_);refine cV 10 (hy:=dD (by rfl) (fun w' aC=>dU .neq 67 (.tmp 82) (.tmp 87) 67 rfl rfl rfl (by kernel_rfl) (bj w'))) (h:=?_);refine aF (by kernel_rfl) ?_ _;intro W3 du;have bB:Hid (σ w.heap.size w W3):=qh (ag (aN HB.out) du);have j6:=qh (aQ.out.dr.bl du);have eD:=qh (aL.out.dr.bl du);clear du bj HCu HCv ldu ldv aQ aL HB;cases bs with
     |false=>
      have hq:b=ρ:=by
       rw[←dQ.out];exact decide_eq_false (fun e=>of_decide_eq_false Gbs.out e.1)
      subst hq;clear dQ;go_wp2;go_ret;exact⟨rfl,bB.out⟩
     |true=>
      have xH:Hid (decide (Es.drop (j+1)=Fs.drop (j+1))=b):=qh (by
       rw[←dQ.out,decide_eq_decide];exact⟨fun e=>⟨of_decide_eq_true Gbs.out,e⟩,fun e=>e.2⟩)
      clear dQ;go_wp2;go_roundw
      case rel=>exact⟨j+1,by omega,by go_num,bB,j6,eD,xH⟩
      case measure=>simp[intOf];omega
    ·obtain rfl:m=j:=by omega
     have hq:b=true:=by
      rw[←HG.out,Jav (by have:=Yr.out;omega),Jav (by have:=Zz.out;omega)];rfl
     subst hq;clear HG;go_wp2;go_ret;exact⟨rfl,HB.out⟩
structure fZ (W:ο) (lo:Nat) (Ws:List VC):Prop where
 own:∀x∈Ws,W.ownsRow lo 32 3 (γ x.2.1.1 x.2.1.2.1 x.2.1.2.2.1) x.2.1.2.1 (aA x.2.1.2.2.2)
 rise:∀(i j:Nat) (x y:VC) (a b:Κ),i<j→Ws[i]? =ζ x→Ws[j]? =ζ y→x.2.1.1=ζ a→y.2.1.1=ζ b→a.block<b.block
structure Cl (W:ο) (lo:Nat) (A:Option Κ) (n c:Nat) (Ws:List VC) (B:Option Κ) (m k:Nat) (Es:List EC):Prop where
 v:W.ownsRow lo 59 5 (γ A n c) n (ah vC Ws)
 e:W.ownsRow lo 67 4 (γ B m k) m (ah eC Es)
 r:fZ W lo Ws
theorem Cl.dg {W:ο} {lo:Nat} {A:Option Κ} {n c:Nat} {Ws:List VC} {B:Option Κ} {m k:Nat} {Es:List EC} (h:Cl W lo A n c Ws B m k Es):bz W A n c Ws B m k Es:=
 ⟨aK h.v,aK h.e,fun x hx=>⟨nB (h.r.own x hx),aK (h.r.own x hx)⟩⟩
theorem fZ.up {W W':ο} {lo:Nat} {Ws:List VC} (h:fZ W lo Ws) (hb:σ W.heap.size W W'):fZ W' lo Ws:=
 ⟨fun x hx=>bo (h.own x hx) hb,h.rise⟩
theorem Cl.up {W W':ο} {lo:Nat} {A:Option Κ} {n c:Nat} {Ws:List VC} {B:Option Κ} {m k:Nat} {Es:List EC} (h:Cl W lo A n c Ws B m k Es) (hb:σ W.heap.size W W'):Cl W' lo A n c Ws B m k Es:=
 ⟨bo h.v hb,bo h.e hb,h.r.up hb⟩
theorem fZ.cells {W:ο} {lo g:Nat} {Ws:List VC} {T:TypeId} {cs:List ψ} (h:fZ W lo Ws) (hw:Whole W g T cs) (hT:T≠32) (o:Nat) (vs:List ψ):fZ (W.setCells g o vs) lo Ws:=
 ⟨fun x hx=>lV (h.own x hx) (bD (h.own x hx) hw hT) o vs,h.rise⟩
theorem fZ.nil_ (W:ο) (lo:Nat):fZ W lo []:=⟨fun x hx=>(by cases hx),fun i j x y a b _ h=>(by simp at h)⟩
theorem fZ.snoc {W:ο} {lo lo':Nat} {Ws:List VC} {x:VC} (h:fZ W lo Ws) (hx:W.ownsRow lo' 32 3 (γ x.2.1.1 x.2.1.2.1 x.2.1.2.2.1) x.2.1.2.1 (aA x.2.1.2.2.2)) (hl:lo≤lo') (hn:∀y∈Ws,∀a,y.2.1.1=ζ a→a.block<lo'):fZ W lo (Ws++[x]):=by
 refine⟨fun y hy=>?_,fun i j u v a b ur hu hv ha hb=>?_⟩
 ·rcases List.mem_append.1 hy with hy|hy
  ·exact h.own y hy
  ·obtain rfl:=List.mem_singleton.1 hy;exact sD hx hl
 ·have hj:j<(Ws++[x]).length:=(ν.1 hv).1;rw[Ε] at hj;have hj':j<Ws.length+1:=hj;rw[Jab (by omega)] at hu;rcases Nat.lt_or_ge j Ws.length with h1|h1
  ·rw[Jab h1] at hv;exact h.rise i j u v a b ur hu hv ha hb
  ·obtain rfl:j=Ws.length:=by omega
   rw[Jal (Δ _),JaP] at hv;obtain rfl:x=v:=by simpa using hv
   have h2:=hn u (ω hu) a ha;have h3:=(AM hx hb).1;omega
theorem Kj {α:Type} (Ws Vs:List α) (j:Nat) (x y:α) (hl:Ws.length=j) (hx:Vs[j]? =ζ x):(Ws++Vs.drop j).set j y=(Ws++[y])++Vs.drop (j+1):=by
 have kd:Vs.drop j=x::Vs.drop (j+1):=by
  rw[Χ (ν.1 hx).1,(ν.1 hx).2]
 rw[kd,List.set_append_right _ _ (by omega),hl,JaP,List.set_cons_zero,List.append_assoc];rfl
def Uc (w:ο) (b0:Nat) (A:Option Κ) (n c:Nat) (Vs:List VC) (B:Option Κ) (m k:Nat) (Es:List EC):Nat→ψ→ο→Prop
 |0,v,_=>v=υ (ζ ⟨b0,0,ε⟩)
 |1,v,_=>v=γ A n c
 |2,v,W=>∃A' c',v=γ A' n c'∧W.ownsRow w.heap.size 59 5 (γ A' n c') n (ah vC Vs)
 |3,v,_=>v=υ (ζ ⟨b0,1,ε⟩)
 |4,v,_=>v=γ B m k
 |5,v,W=>∃B' k',v=γ B' m k'∧W.ownsRow w.heap.size 67 4 (γ B' m k') m (ah eC Es)
 |6,v,W=>∃A' c' B' k',v=φ #[γ A' n c',γ B' m k']∧W.ownsRow w.heap.size 59 5 (γ A' n c') n (ah vC Vs)∧W.ownsRow w.heap.size 67 4 (γ B' m k') m (ah eC Es)
 |7,v,W=>∃g,v=υ (ζ ⟨g,0,ε⟩)∧w.heap.size+1<g∧Whole W g 25 [γ ε 0 0,γ ε 0 0]
 |_,_,_=>True
theorem We {w:ο} {b0:Nat} {A:Option Κ} {n c:Nat} {Vs:List VC} {B:Option Κ} {m k:Nat} {Es:List EC}:∀(i:Nat) (v:ψ) (W W':ο),Uc w b0 A n c Vs B m k Es i v W→Ext W W'→Uc w b0 A n c Vs B m k Es i v W'
 |0,_,_,_,h,_=>h
 |1,_,_,_,h,_=>h
 |2,_,_,_,⟨A',c',e,h⟩,hx=>⟨A',c',e,bo h hx⟩
 |3,_,_,_,h,_=>h
 |4,_,_,_,h,_=>h
 |5,_,_,_,⟨A',c',e,h⟩,hx=>⟨A',c',e,bo h hx⟩
 |6,_,_,_,⟨A',c',B',k',e,h1,h2⟩,hx=>⟨A',c',B',k',e,bo h1 hx,bo h2 hx⟩
 |7,_,_,_,⟨g,e,h1,h2⟩,hx=>⟨g,e,h1,h2.bl hx⟩
 |_+8,_,_,_,_,_=>trivial
theorem Kv (A:Option Κ) (n c:Nat) (Vs:List VC) (B:Option Κ) (m k:Nat) (Es:List EC) (w:ο) (h:bz w A n c Vs B m k Es) (hn:n≤1000000) (hm:m≤1000000) (hr:∀x∈Vs,x.2.1.2.1≤1000000):
 Ζ η 80 #[φ #[γ A n c,γ B m k]] w fun e w'=>∃A' c' B' k' Ws,e=.returned (φ #[γ A' n c',γ B' m k'])∧Cl w' w.heap.size A' n c' Ws B' m k' Es∧Ws.map vS=Vs.map vS∧σ w.heap.size w w':=by
 have sw:=qh h.r;have AL:=qh hr;have Hl:=qh (h.v.rlen aS (by decide));have HCv:=qh (fun W (hb:σ w.heap.size w W)=>PN A n c (ah vC Vs) W (h.v.bl hb) (p7 vC nQ Vs) hn);have HCe:=qh (fun W (hb:σ w.heap.size w W)=>Rr B m k (ah eC Es) W (h.e.bl hb) (p7 eC nr Es) hm);clear h hr;go_enter Tryz.func80,Tryz.ntmps80;go_upto_region 1 with fail
 have lQ:Whole ((w.alloc (δ #[γ A n c,γ B m k] 25)).alloc (δ #[γ ε 0 0,γ ε 0 0] 25)) (w.heap.size) 25 [γ A n c,γ B m k]:=((Whole.new_ w 25 [γ A n c,γ B m k]).alloc (δ #[γ ε 0 0,γ ε 0 0] 25));have jq:Whole ((w.alloc (δ #[γ A n c,γ B m k] 25)).alloc (δ #[γ ε 0 0,γ ε 0 0] 25)) (w.heap.size+1) 25 [γ ε 0 0,γ ε 0 0]:=(Whole.new2 (w:=(w.alloc (δ #[γ A n c,γ B m k] 25))) (by simp));have oI:σ w.heap.size w ((w.alloc (δ #[γ A n c,γ B m k] 25)).alloc (δ #[γ ε 0 0,γ ε 0 0] 25)):=(aI (az w (δ #[γ A n c,γ B m k] 25)) (δ #[γ ε 0 0,γ ε 0 0] 25));have fU:w.heap.size+1+1≤(((w.alloc (δ #[γ A n c,γ B m k] 25)).alloc (δ #[γ ε 0 0,γ ε 0 0] 25))).heap.size:=by simp
 obtain⟨W0,bO⟩:=aB (((w.alloc (δ #[γ A n c,γ B m k] 25)).alloc (δ #[γ ε 0 0,γ ε 0 0] 25)));rw[bO] at lQ jq oI fU;obtain⟨b1,dE⟩:=aB (w.heap.size+1);rw[dE] at jq;obtain⟨b0,bp⟩:=aB w.heap.size;rw[bp] at lQ;have aQ:=qh lQ;have aL:=qh jq;have bw:=qh oI;have mQ:=qh fU;have lZ:=qh bp;have oa:Hid (w.heap.size≤b0):=qh (by omega);have uD:=qh dE;have iP:Hid (w.heap.size≤b1):=qh (by omega);have uW:Hid (b0≠b1):=qh (by omega);rw[bO];(try rw[dE]);(try rw[bp]);have Gsz:Hid (w.heap.size+1<W0.heap.size):=qh (by omega);clear bO oI fU lQ jq bp dE;have HX:=aQ;have HB:=bw;have HS:=Gsz;clear aQ bw mQ Gsz;refine jI 8 (cw w.heap.size) (Uc w b0 A n c Vs B m k Es) (Ext W0.drew) (by kernel_rfl) (by kernel_rfl) (by kernel_rfl) (by kernel_rfl) (by kernel_rfl) (fun i v w1 w2 h hx=>We i v w1 w2 h hx) (fun _ _ h k=>h.trans k) (Ext.refl _) ?_ ?_
 ·intro i Ef;have dF:i=0∨i=1∨i=2∨i=3∨i=4∨i=5∨i=6∨i=7:=by omega
  rcases dF with rfl|rfl|rfl|rfl|rfl|rfl|rfl|rfl
  ·refine aH ?_;intro x y hg aD;simp only[aE,ι,π,aj,ξ,aw,ar,aq];refine .inl ⟨by rfl,?_⟩;go_simp;exact⟨Ext.refl _,rfl⟩
  ·refine aH ?_;intro x y hg aD;have d0:x 0=υ (ζ ⟨b0,0,ε⟩):=aD 0 (by decide);have hc:=(HX.out.dr.bl hg).cell (i:=0) rfl;simp only[aE,ι,π,aj,ξ,aw,ar,aq];simp only[d0];refine .inl ⟨by rfl,?_⟩;go_simp;exact⟨Ext.refl _,rfl⟩
  ·refine aH ?_;intro x y hg aD;have d1:x 1=γ A n c:=aD 1 (by decide);simp only[aE,ι,π,aj,ξ,aw,ar,aq];simp only[d1];refine .inl ⟨by rfl,cu (by go_simp;first|done|exact⟨rfl,rfl⟩|with_reducible rfl) ?_⟩
   refine(HCv.out y (ag (aN HB.out) hg)).mono ?_
   rintro e w2 ⟨A',c',rfl,ho⟩;exact⟨_,rfl,ho.below,A',c',rfl,sD ho.own (ag (aN HB.out) hg).size⟩
  ·refine aH ?_;intro x y hg aD;simp only[aE,ι,π,aj,ξ,aw,ar,aq];refine .inl ⟨by rfl,?_⟩;go_simp;exact⟨Ext.refl _,rfl⟩
  ·refine aH ?_;intro x y hg aD;have d3:x 3=υ (ζ ⟨b0,1,ε⟩):=aD 3 (by decide);have hc:=(HX.out.dr.bl hg).cell (i:=1) rfl;simp only[aE,ι,π,aj,ξ,aw,ar,aq];simp only[d3];refine .inl ⟨by rfl,?_⟩;go_simp;exact⟨Ext.refl _,rfl⟩
  ·refine aH ?_;intro x y hg aD;have d4:x 4=γ B m k:=aD 4 (by decide);simp only[aE,ι,π,aj,ξ,aw,ar,aq];simp only[d4];refine .inl ⟨by rfl,cu (by go_simp;first|done|exact⟨rfl,rfl⟩|with_reducible rfl) ?_⟩
   refine(HCe.out y (ag (aN HB.out) hg)).mono ?_
   rintro e w2 ⟨A',c',rfl,ho⟩;exact⟨_,rfl,ho.below,A',c',rfl,sD ho.own (ag (aN HB.out) hg).size⟩
  ·refine aH ?_;intro x y hg aD;obtain⟨A',c',d2,SJ⟩:Uc w b0 A n c Vs B m k Es 2 (x 2) y:=aD 2 (by decide);obtain⟨B',k',d5,KS⟩:Uc w b0 A n c Vs B m k Es 5 (x 5) y:=aD 5 (by decide);simp only[aE,ι,π,aj,ξ,aw,ar,aq];simp only[d2,d5];refine .inl ⟨by rfl,?_⟩;go_simp;exact⟨Ext.refl _,A',c',B',k',rfl,SJ,KS⟩
  ·refine aH ?_;intro x y hg aD;simp only[aE,ι,π,aj,ξ,aw,ar,aq];refine .inl ⟨by rfl,dZ (w':=y.alloc (δ #[γ ε 0 0,γ ε 0 0] 25)) (by go_simp;first|done|exact rfl|exact⟨rfl,rfl⟩) (az _ _) ?_⟩;exact⟨y.heap.size,rfl,JaK HS.out hg.size,Whole.new_ _ _ [_,_]⟩
 intro x y hg aX;obtain⟨A',c',B',k',d6,TD,Ke⟩:Uc w b0 A n c Vs B m k Es 6 (x 6) y:=aX 6 (by decide);obtain⟨g,d7,Fm,Jl⟩:Uc w b0 A n c Vs B m k Es 7 (x 7) y:=aX 7 (by decide);simp only[aE,ι,π,aj,ξ,aw,ar,aq];simp only[d6,d7];have U2:=qh TD;have T6:=qh Ke;have Qh:=qh Jl;have H9:=qh Fm;have qH:=qh (ag (aN HB.out) hg);have Y1:=qh (aL.out.dr.bl hg);clear hg aX d6 d7 TD Ke Jl Fm HCv HCe HB HX aL HS;refine gI 8 ?_;intro w' aC
 refine⟨w'.setRow g #[γ A' n c',γ B' m k'],aR 25 (.tmp 3) (.tmp 12) rfl g rfl [γ A' n c',γ B' m k'] rfl 25 [γ ε 0 0,γ ε 0 0] (Qh.out.bl aC) (by kernel_rfl) rfl (by simp[Τ]),bN (show w.heap.size≤g by have:=H9.out;omega) _,?_⟩
 have Dk:ζ g≠(Ο A' n c').ownBlock:=bD (bo U2.out aC) (Qh.out.bl aC) (by decide);have Ci:ζ g≠(Ο B' m k').ownBlock:=bD (bo T6.out aC) (Qh.out.bl aC) (by decide);have ry:∀(W:ο) (cs:Array ψ),W.setRow g cs=W.setRow g cs:=fun _ _=>rfl
 have LR:Kept (·=g) w' (w'.setRow g #[γ A' n c',γ B' m k']):=bN (S:=fun x=>x=g) rfl _;have HVr:Hid ((w'.setRow g #[γ A' n c',γ B' m k']).ownsRow w.heap.size 59 5 (γ A' n c') n (ah vC Vs)):=qh ((bo U2.out aC).kept (row:=ζ g) ⟨LR.os,LR.tape,LR.output,LR.size,fun i hi hk=>LR.block i hi (fun e=>hk (by rw[e]))⟩ (by first|exact Dk|exact Dk.symm|exact .inr Dk|exact .inr Dk.symm));have HEr:Hid ((w'.setRow g #[γ A' n c',γ B' m k']).ownsRow w.heap.size 67 4 (γ B' m k') m (ah eC Es)):=qh ((bo T6.out aC).kept (row:=ζ g) ⟨LR.os,LR.tape,LR.output,LR.size,fun i hi hk=>LR.block i hi (fun e=>hk (by rw[e]))⟩ (by first|exact Ci|exact Ci.symm|exact .inr Ci|exact .inr Ci.symm));have Dg:Hid (Whole (w'.setRow g #[γ A' n c',γ B' m k']) g 25 [γ A' n c',γ B' m k']):=qh (Whole.row (Qh.out.bl aC) [γ A' n c',γ B' m k']);have rT:Hid (σ w.heap.size w (w'.setRow g #[γ A' n c',γ B' m k'])):=qh (bH (ag qH.out aC) (by have:=H9.out;omega) _);have UT:Hid (Whole (w'.setRow g #[γ A' n c',γ B' m k']) b1 25 [γ ε 0 0,γ ε 0 0]):=qh ((Y1.out.bl aC).row_far (by have:=uD.out;have:=H9.out;omega) _);obtain⟨W1,aV⟩:=aB (w'.setRow g #[γ A' n c',γ B' m k']);rw[aV] at HVr HEr Dg rT UT ⊢;clear aC Dk Ci ry LR aV U2 T6 Qh qH Y1;refine aF (by kernel_rfl) ?_ _;intro W2 fT;have SA:=qh (bo HVr.out fT)
 have xR:=qh (bo HEr.out fT);have dQ:=qh (Dg.out.bl fT);have bG:=qh (ag rT.out fT);have aZ:=qh (UT.out.bl fT);have Hg1:Hid (b1<g):=qh (by have:=uD.out;have:=H9.out;omega);clear fT HVr HEr Dg rT UT;have c0:=dQ.out.cell (i:=0) rfl;go_wp2;clear c0
 go_loopw [16] (fun si wr=>∃(j:Nat) (Ws:List VC),j≤n∧Ws.length=j∧si=J j∧Hid (σ w.heap.size w wr)∧Hid (Whole wr g 25 [γ A' n c',γ B' m k'])∧Hid (Whole wr b1 25 [γ ε 0 0,γ ε 0 0])∧
  Hid (wr.ownsRow w.heap.size 59 5 (γ A' n c') n (ah vC (Ws++Vs.drop j)))∧Hid (wr.ownsRow w.heap.size 67 4 (γ B' m k') m (ah eC Es))∧Hid (fZ wr w.heap.size Ws)∧Hid (Ws.map vS=(Vs.take j).map vS)) (fun si _=>n - (intOf si).toNat)
 case atStart=>exact⟨0,[],by omega,rfl,rfl,bG,dQ,aZ,SA,xR,qh (fZ.nil_ _ _),qh rfl⟩
 case round=>
  clear bG dQ aZ SA xR;obtain⟨j,Ws,hj,Xm,rfl,HB,HG,HX,HV,HE,HR,HM⟩:=hrel;obtain⟨wo,cS⟩:=aB wr;rw[cS] at HB HG HX HV HE HR ⊢;clear cS
  by_cases nT:j<n
  ·obtain⟨x,hx⟩:∃x,Vs[j]? =ζ x:=⟨_,θ (by have:=Hl.out;omega)⟩
   have hxw:(Ws++Vs.drop j)[j]? =ζ x:=by
    rw[Jal (by omega),Xm,JaP,List.getElem?_drop];simpa using hx
   have hsf:=fun y=>Kj Ws Vs j x y Xm hx
   have HSf:=qh hsf;have uH:=sw.out x (ω hx);have kc:=AL.out x (ω hx);have HMx:Hid ((Vs.take (j+1)).map vS=(Vs.take j).map vS++[vS x]):=qh (by rw[List.take_add_one,hx];simp);obtain⟨gv,junk,rfl,aaF,Jl,Fm,hgc,hgm,O5⟩:=cN HV.out (by omega);have a8:=fun i v hv=>(aK HV.out).elem aS hxw i v hv
   have q0:=a8 0 _ rfl;have q1:=a8 1 _ rfl;have q2:=a8 2 _ rfl;have q3:=a8 3 _ rfl;have q4:=a8 4 _ rfl;simp only[Ν,Jac,Nat.zero_add] at q0 q1 q2 q3 q4;have HCl:=qh (fun W (hb:σ w.heap.size w W)=>Nq x W (uH.below hb) kc);obtain⟨⟨i1,i2⟩,⟨rA,rn,rc,rL⟩,lb,at_⟩:=x;replace HCl:Hid (∀W,σ w.heap.size w W→Ζ η 106 #[φ #[J i1,J i2,γ rA rn rc,μ lb,J at_]] W fun e w'=>∃A' c',e=.returned (φ #[J i1,J i2,γ A' rn c',μ lb,J at_])∧Ow W W.heap.size 32 3 (γ A' rn c') rn (aA rL) w'):=HCl;have Qh:=qh Jl;have H9:=qh (Jax aaF (Jax Fm (Jax hgc (Jax hgm O5))));clear hx hxw hsf uH kc a8 Jl aaF Fm hgc hgm O5;go_upto_region 5 with fail
   clear q0 q1 q2 q3 q4;have oK:=qh (Whole.new_ wo 59 [J i1,J i2,γ rA rn rc,μ lb,J at_]);have bE:=qh (aI HB.out (δ #[J i1,J i2,γ rA rn rc,μ lb,J at_] 59));have HG1:=qh (HG.out.alloc (δ #[J i1,J i2,γ rA rn rc,μ lb,J at_] 59));have Wx:=qh (HX.out.alloc (δ #[J i1,J i2,γ rA rn rc,μ lb,J at_] 59));have U4:=qh (Qh.out.alloc (δ #[J i1,J i2,γ rA rn rc,μ lb,J at_] 59));have qR:=qh (bo HE.out (az wo (δ #[J i1,J i2,γ rA rn rc,μ lb,J at_] 59)));have lR:=qh (HR.out.up (az wo (δ #[J i1,J i2,γ rA rn rc,μ lb,J at_] 59)));obtain⟨W1,aV⟩:=aB (wo.alloc (δ #[J i1,J i2,γ rA rn rc,μ lb,J at_] 59));obtain⟨g5,gg5⟩:=aB wo.heap.size;rw[aV] at oK bE HG1 Wx U4 qR lR ⊢;rw[gg5] at oK ⊢;have alC:Hid (gv≠g5):=qh (by have:=Qh.out.lt;omega);clear aV gg5 HB HG HX Qh HE HR HV;have fL:=cm (i:=0) HG1.out rfl;refine cI (aO) [6] (by kernel_rfl) ?_;refine aU 0 ?_;refine aU 1 ?_;refine aU 2 ?_;refine S4 3 (hy:=ib (by rfl) 59 (.tmp 5) rfl g5 rfl 59 [J i1,J i2,γ rA rn rc,μ lb,J at_] _ (fun w' h=>h.whole oK.out.dr (fun h=>h)) Tryz.underlying59 rfl (by kernel_rfl)) (h:=?_);refine CR 4 ?_;intro w' aC
   refine(HCl.out w' (ag (aN bE.out) aC)).mono ?_
   rintro e w9 ⟨A9,c9,rfl,ho⟩
   refine⟨_,rfl,Kept.of_below ho.below,?_⟩
   have dz:∀y∈Ws,∀a,y.2.1.1=ζ a→a.block<w'.heap.size:=fun y hy a ha=>(AM ((lR.out.up (below_drewN W1.heap.size W1 1)).up aC|>.own y hy) ha).2
   have Va:Hid (fZ w9 w.heap.size (Ws++[((i1,i2),(A9,rn,c9,rL),lb,at_)])):=qh ((((lR.out.up (below_drewN W1.heap.size W1 1)).up aC).up ho.below).snoc (x:=((i1,i2),(A9,rn,c9,rL),lb,at_)) ho.own (ag (aN bE.out) aC).size dz);have YR:=qh ((oK.out.dr.bl aC).bl ho.below);have oC:=qh (ag (ag (aN bE.out) aC) ho.below);have HG9:=qh ((HG1.out.dr.bl aC).bl ho.below);have PU:=qh ((Wx.out.dr.bl aC).bl ho.below);have Uf:=qh ((U4.out.dr.bl aC).bl ho.below);have SE:=qh (bo (bo (bo qR.out (below_drewN W1.heap.size W1 1)) aC) ho.below);obtain⟨V9,Tf⟩:=aB w9;rw[Tf] at Va YR oC HG9 PU Uf SE ⊢;clear aC ho dz Tf fL bE HG1 Wx U4 qR lR oK;simp only[ξ,aw,ar,aq];refine aU 5 ?_;refine qu 6 ?_;intro w' aC;have Jl:=Uf.out.bl aC;have hlen:=cj vC aS (Ws++Vs.drop j)
   have wN:(Ws++Vs.drop j).length=n:=by
    have h1:=H9.out.2.2.2.2;rw[hlen] at h1;omega
   have qq:j*5+5≤(ah vC (Ws++Vs.drop j)++junk).length:=by
    rw[Ε,hlen,wN];omega
   refine⟨w'.setCells gv (j*5) [J i1,J i2,γ A9 rn c9,μ lb,J at_],qz 59 (.tmp 26) (.tmp 25) rfl gv (j*5) (by first|rfl|(go_simp;done)|(simp[Act.eval];done)) [J i1,J i2,γ A9 rn c9,μ lb,J at_] rfl (Jl.there_ (j*5) 5 qq) (by kernel_rfl) (by simp[Τ]),?_⟩
   have kf:=Jl.cells_ (vC ((i1,i2),(A9,rn,c9,rL),lb,at_)) (j*5) w' _ qq;rw[tE aS _ junk j _ (by omega),HSf.out] at kf;have Yp:∀{T:TypeId} {A2:Option Κ} {n2 c2 k2:Nat} {xs:List ψ},w'.ownsRow w.heap.size T k2 (γ A2 n2 c2) n2 xs→59≠T→ζ gv≠(Ο A2 n2 c2).ownBlock:=fun h hT=>bD h Jl hT
   have hsl:(ah vC ((Ws++[((i1,i2),(A9,rn,c9,rL),lb,at_)])++Vs.drop (j+1))).length=n*5:=by
    rw[←HSf.out,cj vC aS,List.length_set,wN]
   have HVs:Hid ((w'.setCells gv (j*5) (vC ((i1,i2),(A9,rn,c9,rL),lb,at_))).ownsRow w.heap.size 59 5 (γ (ζ ⟨gv,0,ε⟩) n c') n (ah vC ((Ws++[((i1,i2),(A9,rn,c9,rL),lb,at_)])++Vs.drop (j+1)))):=qh (kk kf H9.out.1 (by
    have h1:=H9.out.2.1;rw[Ε] at h1 ⊢;rw[hsl,←h1,hlen,wN]) H9.out.2.2.1 H9.out.2.2.2.1 hsl)
   have HEs:Hid ((w'.setCells gv (j*5) (vC ((i1,i2),(A9,rn,c9,rL),lb,at_))).ownsRow w.heap.size 67 4 (γ B' m k') m (ah eC Es)):=qh (lV (bo SE.out aC) (Yp (bo SE.out aC) (by decide)) _ _);have Iw:Hid (fZ (w'.setCells gv (j*5) (vC ((i1,i2),(A9,rn,c9,rL),lb,at_))) w.heap.size (Ws++[((i1,i2),(A9,rn,c9,rL),lb,at_)])):=qh ((Va.out.up aC).cells Jl (by decide) _ _);have sx:Hid (σ w.heap.size w (w'.setCells gv (j*5) (vC ((i1,i2),(A9,rn,c9,rL),lb,at_)))):=qh (below_setCells (ag oC.out aC) H9.out.1 _ _);have HGs:Hid (Whole (w'.setCells gv (j*5) (vC ((i1,i2),(A9,rn,c9,rL),lb,at_))) g 25 [γ (ζ ⟨gv,0,ε⟩) n c',γ B' m k']):=qh ((HG9.out.bl aC).cells_far ((HG9.out.bl aC).ne_ Jl (by decide)) _ _);have zt:Hid (Whole (w'.setCells gv (j*5) (vC ((i1,i2),(A9,rn,c9,rL),lb,at_))) b1 25 [γ ε 0 0,γ ε 0 0]):=qh ((PU.out.bl aC).cells_far ((PU.out.bl aC).ne_ Jl (by decide)) _ _);obtain⟨W7,tr⟩:=aB (w'.setCells gv (j*5) (vC ((i1,i2),(A9,rn,c9,rL),lb,at_)));rw[tr] at HVs HEs Iw sx HGs zt;rw[show w'.setCells gv (j*5) [J i1,J i2,γ A9 rn c9,μ lb,J at_]=W7 from tr];clear aC Jl hlen wN qq kf Yp hsl tr oC HG9 PU Uf SE YR Va;(try simp only[ξ,aw,ar,aq]);refine gG (by kernel_rfl) ?_ _;intro W8 cg;have nV:=qh (ag sx.out cg);have HG8:=qh (HGs.out.bl cg);have agm:=qh (zt.out.bl cg);have KA:=qh (bo HVs.out cg);have YZ:=qh (bo HEs.out cg)
   have TS:=qh (Iw.out.up cg);clear cg sx HGs zt HVs HEs Iw;go_wp2;go_roundw
   case rel=>exact⟨j+1,Ws++[((i1,i2),(A9,rn,c9,rL),lb,at_)],by omega,by simp[Xm],by go_num,nV,HG8,agm,KA,YZ,TS,qh (by rw[HMx.out,List.map_append,HM.out];rfl)⟩
   case measure=>simp[intOf];omega
  ·obtain rfl:n=j:=by omega
   have kg:ah vC (Ws++Vs.drop n)=ah vC Ws:=by rw[Jav (by have:=Hl.out;omega),List.append_nil]
   have hv:=HV.out;rw[kg] at hv;have hm:=HM.out;rw[List.take_of_length_le (by have:=Hl.out;omega)] at hm;have RZ:ζ b1≠(Ο A' n c').ownBlock:=bD hv HX.out (by decide);have F6:ζ b1≠(Ο B' m k').ownBlock:=bD HE.out HX.out (by decide)
   have HF:Hid (Cl ((wo.setCell ⟨b1,0,ε⟩ (γ A' n c')).setCell ⟨b1,1,ε⟩ (γ B' m k')) w.heap.size A' n c' Ws B' m k' Es):=qh
    ⟨aT (aT hv RZ _) RZ _,aT (aT HE.out F6 _) F6 _,(HR.out.cells HX.out (by decide) 0 [γ A' n c']).cells (HX.out.set_ 0 (γ A' n c')) (by decide) 1 [γ B' m k']⟩
   have HY:=qh ((HX.out.set_ 0 (γ A' n c')).set_ 1 (γ B' m k'));have rQ:=qh ((HB.out.setCell (p:=⟨b1,0,ε⟩) iP.out (γ A' n c')).setCell (p:=⟨b1,1,ε⟩) iP.out (γ B' m k'));have Hm:=qh hm;have c0:=HG.out.cell (i:=0) rfl;have c1:=HG.out.cell (i:=1) rfl;have f0:=HX.out.free 0;have f1:=HX.out.free 1;have k0:=HX.out.cell (i:=0) rfl;have k1:=HX.out.cell (i:=1) rfl;clear hv hm RZ F6 kg HV HE HR HX HB;go_wp2;exact dO rfl b1 rfl HY.out Tryz.underlying25 rfl (by kernel_rfl) rfl ⟨A',c',B',k',Ws,rfl,HF.out,Hm.out,rQ.out⟩
section
variable {w w':ο} {A B:Option Κ} {n c m k:Nat} {Vs:List VC} {Es:List EC}
theorem bz.bl (h:bz w A n c Vs B m k Es) (hb:σ w.heap.size w w'):bz w' A n c Vs B m k Es:=h.below hb
theorem bz.al (h:bz w A n c Vs B m k Es) (o:Obj):bz (w.alloc o) A n c Vs B m k Es:=h.below (az w o)
theorem bz.dr (h:bz w A n c Vs B m k Es):bz w.drew A n c Vs B m k Es:=h.below (below_drewN w.heap.size w 1)
theorem bz.far (h:bz w A n c Vs B m k Es) (g i:Nat) (u:ψ) (ha:∀a,A=ζ a→0<n→a.block≠g) (hb:∀a,B=ζ a→0<m→a.block≠g) (hr:∀x∈Vs,∀a,x.2.1.1=ζ a→0<x.2.1.2.1→a.block≠g):
 bz (w.setCell ⟨g,i,ε⟩ u) A n c Vs B m k Es:=by
 have hs:(w.setCell ⟨g,i,ε⟩ u).heap.size=w.heap.size:=by simp[World.setCell]
 exact⟨by rw[hs];exact h.v.far_ ha u,by rw[hs];exact h.e.far_ hb u,fun x hx=>⟨(h.r x hx).1,by rw[hs];exact(h.r x hx).2.far_ (hr x hx) u⟩⟩
end
theorem RgOk.bl {w w':ο} {r:Rg} (h:RgOk w r) (hb:σ w.heap.size w w'):RgOk w' r:=h.below hb
theorem RgOk.al {w:ο} {r:Rg} (h:RgOk w r) (o:Obj):RgOk (w.alloc o) r:=h.below (az w o)
theorem RgOk.dr {w:ο} {r:Rg} (h:RgOk w r):RgOk w.drew r:=h.below (below_drewN w.heap.size w 1)
structure mG (Vs:List VC) (Es:List EC):Prop where
 v:∀x∈Vs,∀d∈x.2.1.2.2.2,su d
 e:∀e∈Es,su (e.1.1,e.1.2,0)∧su (e.1.1,e.1.2,1)
 lv:∀x∈Vs,x.2.2.1.size≤maxLen
 le:∀x∈Es,x.2.1.size≤maxLen
theorem fewV_ring (v:VC):(fewV v).2.1.1=v.2.1.1∧(fewV v).2.1.2.1≤30∧(fewV v).2.1.2.1≤v.2.1.2.1∧(fewV v).1=v.1∧(fewV v).2.2=v.2.2∧∀d∈(fewV v).2.1.2.2.2,d∈v.2.1.2.2.2:=by
 unfold fewV;split
 ·exact⟨rfl,Δ _,by show 30≤_;omega,rfl,rfl,fun d hd=>List.mem_of_mem_take hd⟩
 ·exact⟨rfl,by omega,Δ _,rfl,rfl,fun d hd=>hd⟩
theorem mG.few {Vs:List VC} {Es:List EC} (h:mG Vs Es):mG ((Vs.take 30).map fewV) (Es.take 50):=by
 refine⟨fun x hx d hd=>?_,fun e he=>h.e e (List.mem_of_mem_take he),fun x hx=>?_,fun e he=>h.le e (List.mem_of_mem_take he)⟩
 ·obtain⟨y,hy,rfl⟩:=Α.1 hx;exact h.v y (List.mem_of_mem_take hy) d ((fewV_ring y).2.2.2.2.2 d hd)
 ·obtain⟨y,hy,rfl⟩:=Α.1 hx
  have:=h.lv y (List.mem_of_mem_take hy)
  rw[(fewV_ring y).2.2.2.2.1];exact this
theorem bz.put {W:ο} {A B:Option Κ} {n c m k g:Nat} {Vs:List VC} {Es:List EC} (h:bz W A n c Vs B m k Es) (ha:∀a,A=ζ a→0<n→a.block≠g) (hb:∀a,B=ζ a→0<m→a.block≠g) (hr:∀x∈Vs,∀a,x.2.1.1=ζ a→0<x.2.1.2.1→a.block≠g) (u v:ψ):
 bz ((W.setCell ⟨g,0,ε⟩ u).setCell ⟨g,1,ε⟩ v) A n c Vs B m k Es:=(h.far g 0 u ha hb hr).far g 1 v ha hb hr
end Go.Proofs.YtpdpbfmiahjiiaaGreat
