/- Several texts in one. -/
import Derived.Test.YtpdpbfmiahjiiaaGreatPlAA
import Derived.Test.YtpdpbfmiahjiiaaGreatPlAB
import Derived.Test.YtpdpbfmiahjiiaaGreatPlAD
import Derived.Test.YtpdpbfmiahjiiaaGreatPlAG
import Derived.Test.YtpdpbfmiahjiiaaGreatPlAH
import Derived.LoopIn
import Derived.LoopNIn
import Derived.OwnWalkIn
import Derived.RangeFuncBound
import Derived.RangeFuncCalls
import Derived.RangeFuncLeaves
import Derived.RangeFuncNested
import Derived.Shelf.Abstract
import Derived.Shelf.RegionOpen
import Derived.TacticsInMore
import Derived.WalkKit
import Derived.Maps.AppendAt
import Derived.Shelf.SlSortCmp.NoneTotal
import Derived.Shelf.SlSortCmp.WholeK
import Derived.Test.YtpdpbfmiahjiiaaGreatShelf
import Derived.Maps.OwnIn
set_option linter.unusedSectionVars false
set_option linter.unusedSimpArgs false
set_option linter.unusedVariables false
set_option maxRecDepth 100000
set_option maxHeartbeats 16000000
namespace Go.Proofs.YtpdpbfmiahjiiaaGreat
open Go.RowKit
open _root_.Go.Value renaming slice→γ,slice→Ο
open _root_.Option renaming none→ε,some→ζ,some→Jae
open _root_.Go.Proofs.Tryz renaming prog→η
open _root_.List renaming getElem?_eq_getElem→θ,getElem?_eq_some_iff→ν,getD_eq_getElem?_getD→χ,mem_of_getElem?→ω,mem_map→Α,length_append→Ε,mem_cons→Η,all_eq_true→Φ,getElem?_map→Ψ,range→Ω,mem_cons_of_mem→Jad,mem_cons_self→Jai,mem_append→Jan,mem_singleton→Jao,mem_flatMap→Jat,mem_filter→JaC,length_cons→JaH,nodup_cons→JaJ,nodup_append→JaL,take_add_one→Jbc,take_append_drop→Jbf,length_pos_of_mem→Jbk
open _root_.Go renaming World→ο,Value→ψ,Addr→Κ,TypeId→Υ,getD_set_ne→Jbq
open _root_.Bool renaming false→ρ,true→τ
open _root_.Go.RowKit renaming Below→σ
open _root_.Nat renaming le_refl→Δ,le_trans→Λ,zero_le→Jas,lt_or_ge→JaM,mod_eq_of_lt→JbE
open _root_.Go.RowKit.Below renaming refl→Θ
open _root_.Option.some renaming inj→Μ
open _root_.Array renaming getElem?_eq_some_iff→Jaa,getD→JaD,replicate→Jbe
open _root_.Go.Region renaming ready→Jaq,Mode→Jbj,noSelect→JbJ,free→JbP
open _root_.Go.IntKind renaming i64→Jaw
open _root_.Go.Builtin renaming append_→JaY
open _root_.Prod.mk renaming injEq→Jba
open _root_.Go.World renaming size_alloc→JbF
section
variable {P:Program} {ops:Array Oper} {Q:Exit→Act→ο→Prop} {md:Jbj}
def K9 (md:Jbj) (ops:Array Oper) (n e:Nat):Bool:=(Ω ops.size).all fun k=>decide (k<n)||match ops[k]? with|some o=>(Ω n).all fun j=>j==e||(jw md o).contains j|none=>τ
theorem CY {n e k:Nat} {o:Oper} (h:K9 md ops n e=τ) (hk:n≤k) (ho:ops[k]? =ζ o):∀j,j<n→j≠e→j∈jw md o:=by
 intro j hj Ma;have Ym:=(Jaa.1 ho).1;have h1:=Φ.1 h k (by simp[Ym]);rw[ho] at h1;have h2:decide (k<n)=ρ:=decide_eq_false (by omega);simp only[h2,Bool.false_or] at h1;have h3:=Φ.1 h1 j (by simp[hj]);have h4:(j==e)=ρ:=by simpa using Ma
 rw[h4,Bool.false_or] at h3;simpa using h3
theorem Gw (n e:Nat) (S:Nat→Prop) {oe:Oper} (Γ:Nat→ψ→ο→Prop) (G:ο→Prop) (a0:Act) (hΓ:∀i v w w',Γ i v w→Ext w w'→Γ i v w') (hG:∀w w',G w→Ext w w'→G w')
 (hd:kq ops=τ) (hr:ur md ops=τ) (hn:n≤ops.size) (ht:K9 md ops n e=τ) (UP:e<n) (L6:ops[e]? =ζ oe) (yt:JbJ ops=τ)
 (yu:JbP md ops ((lU n ops.size).setIfInBounds e ρ) e=τ) (YA:(Jaq md ops ((lU n ops.size).setIfInBounds e ρ)).contains e=τ)
 (hQ:∀v c a w,Q (.panic c) (a.put oe.dst v) w→Q (.panic c) a w) (vx:∀i,i<n→uN P md ops Γ G a0 i)
 (KJ:∀x w,G w→(∀i,i<n→i≠e→Γ i (x i) w)→∃v,du P ops S oe v (aB x (aM ops) 0 a0) w∧Γ e v w)
 (nc:∀x w,G w→(∀i,i<n→Γ i (x i) w)→o4 P md ops S Q (ops.size - n) (lU n ops.size) (aB x (aM ops) 0 a0) w):
 ∀(fuel:Nat) (au:Array Bool) (x:Nat→ψ) (w:ο),au.size=ops.size→(∀k,n≤k→k<ops.size→au.getD k ρ=ρ)→(Ω ops.size).countP (fun j=>au.getD j ρ)+fuel=ops.size→
  G w→(∀i,i<n→au.getD i ρ=τ→Γ i (x i) w)→wpAny P md ops Q fuel au (aB x (aM ops) 0 a0) w:=by
 have rT:∀(au:Array Bool),au.size=ops.size→(¬∀i,i<n→au.getD i ρ=τ)→∃i,i<n∧i∈Jaq md ops au:=by
  intro au hs ui
  by_cases hex:∃i,i<n∧i∈Jaq md ops au
  ·exact hex
  ·exfalso;refine ui fun i=>?_
   induction i using Nat.strongRecOn with
   |_ i ih=>
    intro hi
    by_cases hl:au.getD i ρ=τ
    ·exact hl
    ·exfalso;refine hex ⟨i,hi,?_⟩;rw[mem_ready];have GK:i<ops.size:=by omega
     have Mc:i<au.size:=by omega
     have h1:au.getD i τ=ρ:=by
      simp[JaD,Mc] at hl ⊢;exact hl
     refine⟨h1,ops[i],by simp[GK],fun e he hb=>?_⟩
     have h2:=Φ.1 (show(Ω ops.size).all _=τ from hr) i (by simp[GK]);simp[GK] at h2
     have h3:=h2 e.on (by
      unfold jw;exact Α.2 ⟨e,JaC.2 ⟨by simpa using he,hb⟩,rfl⟩)
     exact ih e.on h3 (by omega)
 intro fuel
 induction fuel with
 |zero=>
  intro au x w hs hk hc hg hx
  have hl:∀i,i<ops.size→au.getD i ρ=τ:=fun i hi=>by
   have h1:(Ω ops.size).countP (fun j=>au.getD j ρ)=(Ω ops.size).length:=by simpa using hc
   exact List.countP_eq_length.1 h1 i (by simp[hi])
  have ui:n=ops.size:=by
   rcases JaM n ops.size with h|h
   ·have h1:=hl n h;rw[hk n (Δ _) h] at h1;cases h1
   ·omega
  have he:=nc x w hg fun i hi=>hx i hi (hl i (by omega))
  rw[show ops.size - n=0 by omega] at he
  have e1:au=lU n ops.size:=by
   apply Array.ext
   ·rw[mr,hs]
   ·intro j h1 h2;have h3:=hl j (by omega);have h4:=jW n ops.size j (by omega);rw[decide_eq_true (by omega)] at h4;simp[JaD,h1] at h3;simp[JaD,h2] at h4;rw[h3,h4]
  rw[e1];exact jz _ _ _ _ he
 |succ fuel ih=>
  intro au x w hs hk hc hg hx
  by_cases bW:∀i,i<n→au.getD i ρ=τ
  ·have he:=nc x w hg fun i hi=>hx i hi (bW i hi)
   have e1:au=lU n ops.size:=by
    apply Array.ext
    ·rw[mr,hs]
    ·intro j h1 h2;have h4:=jW n ops.size j (by omega);simp[JaD,h2] at h4
     by_cases hj:j<n
     ·have h3:=bW j hj;simp[JaD,h1] at h3;rw[h3,h4,decide_eq_true hj]
     ·have h3:=hk j (by omega) (by omega);simp[JaD,h1] at h3;rw[h3,h4,decide_eq_false hj]
   have e2:(Ω ops.size).countP (fun j=>au.getD j ρ)=n:=by
    rw[e1]
    have:(Ω ops.size).countP (fun j=>(lU n ops.size).getD j ρ)=(Ω ops.size).countP (fun j=>decide (j<n)):=by
     apply List.countP_congr;intro j hj;rw[jW n ops.size j (by simpa using hj)]
    rw[this,o5];omega
   rw[show ops.size - n=fuel+1 by omega] at he;rw[e1];exact jz _ _ _ _ he
  ·by_cases zC:∀i,i<n→i≠e→au.getD i ρ=τ
   ·have ZX:au.getD e ρ=ρ:=by
     cases hb:au.getD e ρ with
     |false=>rfl
     |true=>
      refine absurd (fun i hi=>?_) bW
      by_cases EB:i=e
      ·rw[EB];exact hb
      ·exact zC i hi EB
    have e1:au.setIfInBounds e τ=lU n ops.size:=by
     apply Array.ext
     ·rw[mr,Array.size_setIfInBounds,hs]
     ·intro j h1 h2;have Ak:j<au.size:=by simpa using h1
      have h4:=jW n ops.size j (by rw[←hs];exact Ak);simp[JaD,h2] at h4;rw[Array.getElem_setIfInBounds (by simpa using h1)]
      by_cases Ma:e=j
      ·subst Ma;rw[if_pos rfl,h4,decide_eq_true UP]
      ·rw[if_neg Ma]
       by_cases hj:j<n
       ·have h3:=zC j hj (Ne.symm Ma);simp[JaD,Ak] at h3;rw[h3,h4,decide_eq_true hj]
       ·have h3:=hk j (by omega) (by omega);simp[JaD,Ak] at h3;rw[h3,h4,decide_eq_false hj]
    have e3:au=(lU n ops.size).setIfInBounds e ρ:=by
     rw[←e1,Array.setIfInBounds_setIfInBounds];apply Array.ext
     ·simp
     ·intro j h1 h2;rw[Array.getElem_setIfInBounds (by simpa using h2)]
      by_cases Ma:e=j
      ·subst Ma;rw[if_pos rfl];simp[JaD,h1] at ZX;exact ZX
      ·rw[if_neg Ma]
    have e2:(Ω ops.size).countP (fun j=>au.getD j ρ)+1=n:=by
     have h1:(Ω ops.size).countP (fun j=>(lU n ops.size).getD j ρ)=(Ω ops.size).countP (fun j=>decide (j<n)):=by
      apply List.countP_congr;intro j hj;rw[jW n ops.size j (by simpa using hj)]
     have qJ:e<au.size:=by omega
     have sR:=kH (fun j=>au.getD j ρ) (fun j=>(au.setIfInBounds e τ).getD j ρ) e ZX (by simp[JaD,qJ]) (fun j hj=>Jbq ρ (Ne.symm hj)) ops.size;rw[e1,h1,o5,if_pos (by omega)] at sR;omega
    obtain⟨v,hy,hv⟩:=KJ x w hg fun i hi EB=>hx i hi (zC i hi EB)
    have DV:(aM ops)[e]? =ζ oe.dst:=by
     unfold aM;rw[Ψ,Array.getElem?_toList,L6];rfl
    have qi:(aB x (aM ops) 0 a0).put oe.dst v=aB (yc x e v) (aM ops) 0 a0:=
     nr x e v (aM ops) 0 a0 oe.dst (Jas _) (by simpa using DV) (fun j e2 hj bQ t ht he=>by
      rw[Nat.sub_zero] at bQ;rw[ht] at DV;rw[he] at hj;exact bQ (lP hd hj DV))
    have he:=nc (yc x e v) w hg fun i hi=>by
     by_cases EB:i=e
     ·subst EB;simpa [yc] using hv
     ·rw[show yc x e v i=x i from if_neg EB];exact hx i hi (zC i hi EB)
    rw[show ops.size - n=fuel by omega,←qi,←e1] at he;refine jz _ _ _ _ (zP e oe.dst L6 rfl yt ?_ ?_ hQ ⟨v,hy,he⟩)
    ·rw[e3];exact yu
    ·rw[e3];exact YA
   obtain⟨i0,EV,Km⟩:=rT au hs bW
   refine⟨fun h0=>(by rw[h0] at Km;cases Km),fun i hi=>?_⟩
   obtain⟨h1,o,ho,aH⟩:=mem_ready.1 hi;have GK:i<ops.size:=(Jaa.1 ho).1;have Mc:i<au.size:=by omega
   have mA:i<n:=by
    rcases JaM i n with h|h
    ·exact h
    ·exfalso;refine zC fun j hj Ma=>?_
     have h2:=CY ht h ho j hj Ma;unfold jw at h2;obtain⟨e,he,rfl⟩:=Α.1 h2;obtain⟨Rs,Mr⟩:=JaC.1 he;exact aH e (by simpa using Rs) Mr
   have DV:(aM ops)[i]? =ζ o.dst:=by
    unfold aM;rw[Ψ,Array.getElem?_toList,ho];rfl
   have qi:∀v,(aB x (aM ops) 0 a0).put o.dst v=aB (yc x i v) (aM ops) 0 a0:=fun v=>
    nr x i v (aM ops) 0 a0 o.dst (Jas _) (by simpa using DV) (fun j e hj bQ t ht he=>by
     rw[Nat.sub_zero] at bQ;rw[ht] at DV;rw[he] at hj;exact bQ (lP hd hj DV))
   have AM:∀v w',Ext w w'→Γ i v w'→wpAny P md ops Q fuel (au.setIfInBounds i τ) (aB (yc x i v) (aM ops) 0 a0) w':=fun v w' hw hv=>by
    refine ih _ _ _ (by simpa using hs) (fun k h1 h2=>?_) ?_ (hG _ _ hg hw) fun j XU hj=>?_
    ·rw[Jbq ρ (by omega)];exact hk k h1 h2
    ·have sR:=kH (fun j=>au.getD j ρ) (fun j=>(au.setIfInBounds i τ).getD j ρ) i (by simp[JaD,Mc] at h1 ⊢;exact h1) (by simp[JaD,Mc]) (fun j hj=>Jbq ρ (Ne.symm hj)) ops.size;rw[sR,if_pos GK];omega
    ·by_cases e:j=i
     ·subst e;simpa [yc] using hv
     ·rw[Jbq ρ (Ne.symm e)] at hj;rw[show yc x i v j=x j from if_neg e];exact hΓ _ _ _ _ (hx j XU hj) hw
   have iK:=vx i mA o ho x w hg (fun j hj=>by
    have qd:j<i:=by
     have h2:=Φ.1 (show(Ω ops.size).all _=τ from hr) i (by simp[GK]);rw[ho] at h2;simpa using Φ.1 h2 j hj
    unfold jw at hj;obtain⟨e,he,rfl⟩:=Α.1 hj;obtain⟨Rs,Mr⟩:=JaC.1 he;exact hx _ (by omega) (aH e (by simpa using Rs) Mr))
   unfold wpOp;simp only[ho];rcases iK with⟨hw,Sf⟩|⟨hw,hu⟩
   ·simp only[hw,if_true];exact .inl (Sf.wp fun v w' kI hv=>by rw[qi];exact AM v w' kI hv)
   ·simp only[hw,Bool.false_eq_true,if_false];rw[qi];exact AM undef w (Ext.refl w) hu
theorem fJ (n e:Nat) (S:Nat→Prop) {id:Nat} {a0:Act} {w:ο} {oe:Oper} (Γ:Nat→ψ→ο→Prop) (G:ο→Prop) (hm:P.follows .mixedOrders=τ)
 (hd:kq ops=τ) (hr:ur .any ops=τ) (hn:decide (n≤ops.size)=τ) (ht:K9 .any ops n e=τ) (UP:decide (e<n)=τ) (L6:ops[e]? =ζ oe) (yt:JbJ ops=τ)
 (yu:JbP .any ops ((lU n ops.size).setIfInBounds e ρ) e=τ) (YA:(Jaq .any ops ((lU n ops.size).setIfInBounds e ρ)).contains e=τ)
 (hQ:∀v c a w,Q (.panic c) (a.put oe.dst v) w→Q (.panic c) a w)
 (hΓ:∀i v w w',Γ i v w→Ext w w'→Γ i v w') (hG:∀w w',G w→Ext w w'→G w') (hg:G w.drew)
 (vx:∀i,i<n→uN P .any ops Γ G a0 i)
 (KJ:∀x w,G w→(∀i,i<n→i≠e→Γ i (x i) w)→∃v,du P ops S oe v (aB x (aM ops) 0 a0) w∧Γ e v w)
 (nc:∀x w,G w→(∀i,i<n→Γ i (x i) w)→o4 P .any ops S Q (ops.size - n) (lU n ops.size) (aB x (aM ops) 0 a0) w):(Code.region id ops τ).wp P Q a0 w:=by
 obtain⟨x,hx⟩:=nS (aM ops) 0 a0
 have hz:∀k,(Jbe ops.size ρ).getD k ρ=ρ:=fun k=>by
  by_cases h:k<ops.size<;>simp[JaD,h]
 have h:=Gw (P:=P) (Q:=Q) (md:=.any) n e S Γ G a0 hΓ hG hd hr (of_decide_eq_true hn) ht (of_decide_eq_true UP) L6 yt yu YA hQ vx KJ nc ops.size (Jbe ops.size ρ) x w.drew (by simp) (fun k _ _=>hz k) (by
  have:(Ω ops.size).countP (fun j=>(Jbe ops.size ρ).getD j ρ)=0:=by
   rw[List.countP_eq_zero];intro j hj;rw[hz j];simp
  omega) hg (fun i _ hi=>by rw[hz i] at hi;cases hi)
 rw[hx] at h;exact wp_region_any hm h
end
def F8 (vs:List (Option ψ)) (ai B:Nat) (T:Υ) (cs:List ψ) (i:Nat) (v:ψ) (W:ο):Prop:=
 if i=ai then ∃g,v=.pointer (ζ ⟨g,0,ε⟩)∧B≤g∧Whole W g T cs else match vs[i]? with
  |some (ζ u)=>v=u
  |_=>True
theorem yk {vs:List (Option ψ)} {ai B:Nat} {T:Υ} {cs:List ψ} (i:Nat) (v:ψ) (W W':ο) (h:F8 vs ai B T cs i v W) (hx:Ext W W'):F8 vs ai B T cs i v W':=by
 unfold F8 at h ⊢;split at h
 ·rename_i e;rw[if_pos e];obtain⟨g,h1,h2,h3⟩:=h;exact⟨g,h1,h2,h3.bl hx⟩
 ·rename_i e;rw[if_neg e];exact h
section
attribute [local go_sem] Oper.semAt_some
def wfS (d:D):Prop:=Rp d∧0≤d.2.2∧d.2.2≤1
abbrev D2:={d:D // wfS d}
def da (d:D):D:=(d.1,d.2.1,1 - d.2.2)
theorem wfS.oth {d:D} (h:wfS d):wfS (da d):=by
 obtain⟨⟨h1,h2,h3⟩,h4,h5⟩:=h
 refine⟨⟨h1,h2,?_⟩,by show 0≤1 - d.2.2;omega,by show 1 - d.2.2≤1;omega⟩
 show(Lit.int .i64 (1 - d.2.2)).wf=τ
 have e0:(1:Int) - d.2.2=0∨(1:Int) - d.2.2=1:=by omega
 rcases e0 with e0|e0<;>rw[e0]<;>decide
end
section
attribute [local go_sem] Oper.semAt_some
theorem oa {w:ο} {lo lo':Nat} {e:Υ} {k n:Nat} {v:ψ} {xs:List ψ} (h:w.ownsRow lo e k v n xs) (hb:lo'≤lo):w.ownsRow lo' e k v n xs:=by
 refine⟨h.1,?_⟩
 rcases h.2 with q|⟨g,cap,cur,q1,q2,q3⟩
 ·exact .inl q
 ·exact .inr ⟨g,cap,cur,q1,by omega,q3⟩
end
def KP (g:D→Option D) (S:List D):Prop:=S.Nodup∧(∀d∈S,Rp d)∧∀x,Rp x→(x∈S↔(g x).isSome=τ)
theorem xT (L:List D):(aJ L).Perm L:=by
 unfold aJ;exact List.perm_append_comm.trans (by rw[Jbf])
theorem Hs {L:List D} {a d:D} (h:¬d∈L):(lg L a d).Perm (d::L):=by
 rw[lg,if_neg h];refine List.perm_middle.trans ?_;rw[Jbf]
theorem G7 (L:List D):(aJ L).length=L.length:=(xT L).length_eq
def rgV (v:VC) (L:List D):VC:=(v.1,(ε,L.length,0,L),v.2.2)
def remV (x:D) (v:VC):VC:=rgV v (aJ (kd v.2.1.2.2.2 x))
def GY (x:D) (v:VC):VC:=rgV v (aJ (lg v.2.1.2.2.2 (0,0,0) x))
theorem oH (A B:List VC):aD (A++B)=aD A++aD B:=List.flatMap_append ..
theorem oC (v:VC) (B:List VC):aD (v::B)=v.2.1.2.2.2++aD B:=List.flatMap_cons ..
theorem FW {Vs:List VC} {k:Nat} {u u':VC} {x:D} (hu:Vs[k]? =ζ u) (hp:u'.2.1.2.2.2.Perm (x::u.2.1.2.2.2)):(aD (Vs.set k u')).Perm (x::aD Vs):=by
 obtain⟨hk,e⟩:=ν.1 hu
 have e1:Vs=Vs.take k++u::Vs.drop (k+1):=by
  rw[←e,←List.drop_eq_getElem_cons hk,Jbf]
 have e2:Vs.set k u'=Vs.take k++u'::Vs.drop (k+1):=by
  rw[List.set_eq_take_append_cons_drop,if_pos hk]
 rw[e2]
 conv=>rhs;rw[e1]
 rw[oH,oH,oC,oC]
 refine((List.Perm.append_right _ hp).append_left _).trans ?_
 simp only[List.cons_append];exact List.perm_middle
theorem wm {Vs:List VC} (h:(aD Vs).Nodup) {v:VC} (hv:v∈Vs):v.2.1.2.2.2.Nodup:=by
 obtain⟨a,b,rfl⟩:=List.append_of_mem hv;rw[oH,oC] at h;exact(JaL.1 (JaL.1 h).2.1).1
section
variable {Vs:List VC} {Es:List EC}
theorem aV.two (h:aV Vs Es) {x:D} (hx:x∈aD Vs) {k:Nat} {y:VC} (hy:Vs[k]? =ζ y) (Pz:¬x∈y.2.1.2.2.2):rN (Vs.set k (GY x y)) Es=10:=by
 have hym:=ω hy;have ui:=h.once;have e0:decide (24<(Vs.set k (GY x y)).length∨40<Es.length)=ρ:=decide_eq_false (by have:=h.v24;have:=h.e40;rw[List.length_set];omega);have e1:=jT (fun v:VC=>v.1) Vs k y (GY x y) hy rfl
 have e2:we (FY Es []) (aD (Vs.set k (GY x y)))=ρ:=by
  cases hb:we (FY Es []) (aD (Vs.set k (GY x y))) with
  |false=>rfl
  |true=>
   have h1:=(kF _ _).1 hb;have h2:=(FW hy (x:=x) (u':=GY x y) ((xT _).trans (Hs Pz))).symm.trans h1;have h3:=h2.nodup_iff.2 (pB Es [] List.nodup_nil);exact absurd hx (JaJ.1 h3).1
 unfold rN Ek;rw[e0,e1,e2,h.rv,h.re];simp
end
def uD (L:List Int) (e:Nat × Nat):List Int:=(L.set e.1 (min (L.getD e.1 0) (L.getD e.2 0))).set e.2 (min (L.getD e.1 0) (L.getD e.2 0))
def dF (P:List (Nat × Nat)) (n:Nat):Nat→List Int
 |0=>wP n
 |j+1=>P.foldl uD (dF P n j)
theorem FG (L:List Int) (e:Nat × Nat):(uD L e).length=L.length:=by simp[uD]
theorem wx:∀(P:List (Nat × Nat)) (L:List Int),(P.foldl uD L).length=L.length
 |[],_=>rfl
 |e::P,L=>by rw[List.foldl_cons,wx P,FG]
theorem mX (P:List (Nat × Nat)) (n:Nat):∀j,(dF P n j).length=n
 |0=>by simp[dF,wP]
 |j+1=>by rw[dF,wx,mX P n j]
theorem BG (L:List Int) (i k:Nat) (v:Int) (hi:i<L.length):(L.set i v).getD k 0=if i=k then v else L.getD k 0:=by
 rw[χ,List.getElem?_set,χ]
 by_cases h:i=k
 ·subst h;simp[hi]
 ·simp[h]
theorem yA {L:List Int} {a b:Nat} (ha:a<L.length) (hb:b<L.length) (k:Nat):(uD L (a,b)).getD k 0=if k=a∨k=b then min (L.getD a 0) (L.getD b 0) else L.getD k 0:=by
 unfold uD;rw[BG _ _ _ _ (by simpa using hb),BG _ _ _ _ ha]
 by_cases h1:b=k
 ·rw[if_pos h1,if_pos (.inr h1.symm)]
 ·rw[if_neg h1]
  by_cases h2:a=k
  ·rw[if_pos h2,if_pos (.inl h2.symm)]
  ·rw[if_neg h2,if_neg (fun h=>h.elim (fun h=>h2 h.symm) (fun h=>h1 h.symm))]
def Down (n:Nat) (M L L':List Int):Prop:=L'.length=n∧∀i,i<n→M.getD i 0≤L'.getD i 0∧L'.getD i 0≤L.getD i 0
theorem Bn {n:Nat} {M L:List Int} {a b:Nat} (hl:L.length=n) (hM:∀i,i<n→M.getD i 0≤L.getD i 0) (ha:a<n) (hb:b<n) (he:M.getD a 0=M.getD b 0):Down n M L (uD L (a,b)):=by
 refine⟨by rw[FG,hl],fun i hi=>?_⟩
 rw[yA (by omega) (by omega)];have h1:=hM a ha;have h2:=hM b hb;have h3:=hM i hi;split
 ·rename_i h;rcases h with rfl|rfl<;>omega
 ·omega
theorem o8 {n:Nat} {M:List Int}:∀(P:List (Nat × Nat)) (L:List Int),L.length=n→(∀i,i<n→M.getD i 0≤L.getD i 0)→(∀e∈P,e.1<n∧e.2<n∧M.getD e.1 0=M.getD e.2 0)→Down n M L (P.foldl uD L)
 |[],L,hl,hM,_=>⟨hl,fun i hi=>⟨hM i hi,Int.le_refl _⟩⟩
 |(a,b)::P,L,hl,hM,hP=>by
  obtain⟨h1,h2,h3⟩:=hP (a,b) (Jai ..);have hd:=Bn hl hM h1 h2 h3;obtain⟨g1,g2⟩:=o8 P (uD L (a,b)) hd.1 (fun i hi=>(hd.2 i hi).1) (fun e he=>hP e (Jad _ he));exact⟨g1,fun i hi=>⟨(g2 i hi).1,Int.le_trans (g2 i hi).2 (hd.2 i hi).2⟩⟩
theorem xP {n:Nat} {M:List Int} {a b:Nat}:∀(P:List (Nat × Nat)) (L:List Int),L.length=n→(∀i,i<n→M.getD i 0≤L.getD i 0)→(∀e∈P,e.1<n∧e.2<n∧M.getD e.1 0=M.getD e.2 0)→(a,b)∈P→
 (L.getD a 0=M.getD a 0∨L.getD b 0=M.getD b 0)→(P.foldl uD L).getD a 0=M.getD a 0∧(P.foldl uD L).getD b 0=M.getD b 0
 |(c,d)::P,L,hl,hM,hP,hm,ho=>by
  obtain⟨h1,h2,h3⟩:=hP (c,d) (Jai ..);obtain⟨k1,k2,k3⟩:=hP (a,b) hm;simp only at k1 k2 k3 h1 h2 h3;have hd:=Bn hl hM h1 h2 h3;have hPr:=fun e he=>hP e (Jad (c,d) he)
  rw[List.foldl_cons]
  by_cases e:(a,b)=(c,d)
  ·injection e with e1 e2
   subst e1 e2;have Sg:=o8 P (uD L (a,b)) hd.1 (fun i hi=>(hd.2 i hi).1) hPr;have ga:=yA (L:=L) (a:=a) (b:=b) (by omega) (by omega) a;have gb:=yA (L:=L) (a:=a) (b:=b) (by omega) (by omega) b;rw[if_pos (.inl rfl)] at ga;rw[if_pos (.inr rfl)] at gb;have ma:=hM a k1;have mb:=hM b k2;obtain⟨q1,q2⟩:=Sg.2 a k1;obtain⟨q3,q4⟩:=Sg.2 b k2;rw[ga] at q2;rw[gb] at q4;have agU:min (L.getD a 0) (L.getD b 0)=M.getD a 0:=by rcases ho with h|h<;>omega
   constructor<;>omega
  ·have NW:(a,b)∈P:=(Η.1 hm).resolve_left e;refine xP P (uD L (c,d)) hd.1 (fun i hi=>(hd.2 i hi).1) hPr NW ?_;rcases ho with h|h
   ·have:=hd.2 a k1;exact .inl (by omega)
   ·have:=hd.2 b k2;exact .inr (by omega)
def hasB (M L:List Int) (i:Nat):Bool:=L.getD i 0==M.getD i 0
theorem Ed {n:Nat} {P:List (Nat × Nat)} {M:List Int} (h:yi n (fun i k=>(i,k)∈P) M) (hP:∀e∈P,e.1<n∧e.2<n):dF P n n=M:=by
 have ZJ:∀e∈P,e.1<n∧e.2<n∧M.getD e.1 0=M.getD e.2 0:=fun e he=>⟨(hP e he).1,(hP e he).2,h.co e.1 e.2 (hP e he).1 (hP e he).2 he⟩
 have iK:∀i,i<n→0≤M.getD i 0∧M.getD i 0≤i∧M.getD (M.getD i 0).toNat 0=M.getD i 0:=fun i hi=>h.ok i (by rw[h.len];exact hi)
 have Pg:∀j,∀i,i<n→M.getD i 0≤(dF P n j).getD i 0∧(dF P n j).getD i 0≤i:=fun j=>by
  induction j with
  |zero=>
   intro i hi;show M.getD i 0≤(wP n).getD i 0∧(wP n).getD i 0≤i;rw[u6 n i hi];exact⟨(iK i hi).2.1,Int.le_refl _⟩
  |succ j ih=>
   intro i hi;have hd:=o8 P (dF P n j) (mX P n j) (fun i hi=>(ih i hi).1) ZJ;exact⟨(hd.2 i hi).1,Int.le_trans (hd.2 i hi).2 (ih i hi).2⟩
 have mh:∀j i,i<n→hasB M (dF P n j) i=τ→hasB M (dF P n (j+1)) i=τ:=fun j i hi hb=>by
  have hd:=o8 P (dF P n j) (mX P n j) (fun i hi=>(Pg j i hi).1) ZJ;have h1:=hd.2 i hi;have h2:(dF P n j).getD i 0=M.getD i 0:=eq_of_beq hb
  have h3:(dF P n (j+1)).getD i 0=M.getD i 0:=by
   show(P.foldl uD (dF P n j)).getD i 0=_
   omega
  rw[hasB,h3];simp
 have bW:∀j,(∀i,i<n→hasB M (dF P n (j+1)) i=hasB M (dF P n j) i)→∀i,i<n→hasB M (dF P n j) i=τ:=fun j hs i hi=>by
  have hco:Co n (fun i k=>(i,k)∈P) (fun i=>if hasB M (dF P n j) i=τ then 1 else 0):=fun a b ha hb hm=>by
   have PO:=xP P (dF P n j) (mX P n j) (fun i hi=>(Pg j i hi).1) ZJ hm
   have key:∀{x y:Nat},x<n→y<n→((dF P n j).getD x 0=M.getD x 0→(dF P n (j+1)).getD y 0=M.getD y 0)→hasB M (dF P n j) x=τ→hasB M (dF P n j) y=τ:=fun {x y} hx hy himp hb=>by
    rw[←hs y hy,hasB,himp (eq_of_beq hb)];simp
   have k1:=key ha hb (fun e=>(PO (.inl e)).2);have k2:=key hb ha (fun e=>(PO (.inr e)).1);simp only
   by_cases q:hasB M (dF P n j) a=τ
   ·rw[if_pos q,if_pos (k1 q)]
   ·rw[if_neg q,if_neg (fun h=>q (k2 h))]
  obtain⟨h0,h1,h2⟩:=iK i hi;obtain⟨r,hr⟩:∃r:Nat,M.getD i 0=(r:Int):=⟨(M.getD i 0).toNat,by omega⟩
  rw[hr,Int.toNat_natCast] at h2;have nP:r<n:=by omega
  have VR:hasB M (dF P n j) r=τ:=by
   have h3:=Pg j r nP;rw[h2] at h3;rw[hasB,h2,beq_iff_eq];omega
  have e:=h.fin _ hco r i nP hi (by rw[h2,hr]);replace e:(if hasB M (dF P n j) r=τ then(1:Int) else 0)=(if hasB M (dF P n j) i=τ then 1 else 0):=e;rw[if_pos VR] at e
  by_cases q:hasB M (dF P n j) i=τ
  ·exact q
  ·rw[if_neg q] at e;omega
 have aac:∀j,(∀i,i<n→hasB M (dF P n j) i=τ)∨j≤(Ω n).countP (hasB M (dF P n j)):=fun j=>by
  induction j with
  |zero=>exact .inr (Jas _)
  |succ j ih=>
   rcases ih with ih|ih
   ·exact .inl fun i hi=>mh j i hi (ih i hi)
   ·by_cases hs:∀i,i<n→hasB M (dF P n (j+1)) i=hasB M (dF P n j) i
    ·exact .inl fun i hi=>mh j i hi (bW j hs i hi)
    ·refine .inr ?_
     have hex:∃i,i<n∧hasB M (dF P n (j+1)) i=τ∧hasB M (dF P n j) i=ρ:=by
      refine Classical.byContradiction fun ui=>hs fun i hi=>?_
      cases q1:hasB M (dF P n j) i with
      |true=>exact mh j i hi q1
      |false=>
       cases q2:hasB M (dF P n (j+1)) i with
       |false=>rfl
       |true=>exact absurd ⟨i,hi,q2,q1⟩ ui
     obtain⟨i0,EV,q1,q2⟩:=hex
     have h1:(Ω n).countP (hasB M (dF P n j))≤(Ω n).countP (fun i=>hasB M (dF P n (j+1)) i && decide (i≠i0)):=by
      refine List.countP_mono_left fun i hi hb=>?_
      have hi:=List.mem_range.1 hi;rw[mh j i hi hb,Bool.true_and,decide_eq_true_eq];rintro rfl;rw[hb] at q2;cases q2
     have h2:=kH (fun i=>hasB M (dF P n (j+1)) i && decide (i≠i0)) (hasB M (dF P n (j+1))) i0 (by simp) q1 (fun i hi=>by simp[hi]) n;rw[if_pos EV] at h2;omega
 have pJ:∀i,i<n→hasB M (dF P n n) i=τ:=by
  rcases aac n with h1|h1
  ·exact h1
  ·intro i hi;have h2:(Ω n).countP (hasB M (dF P n n))=(Ω n).length:=Nat.le_antisymm List.countP_le_length (by rw[List.length_range];exact h1);exact(List.countP_eq_length.1 h2) i (List.mem_range.2 hi)
 refine List.ext_getElem (by rw[mX,h.len]) fun i h1 h2=>?_
 have hi:i<n:=by rw[mX] at h1;exact h1
 have e:(dF P n n).getD i 0=M.getD i 0:=eq_of_beq (pJ i hi);rw[χ,χ,θ h1,θ h2] at e;exact e
def FK (Vs:List VC) (d:D):Nat:=(fO 0 Vs (jl Vs d).1).toNat
def sX (Vs:List VC) (Es:List EC):List (Nat × Nat):=Es.map fun e=>(FK Vs (e.1.1,e.1.2,0),FK Vs (e.1.1,e.1.2,1))
section
variable {Vs:List VC} {Es:List EC}
theorem aV.stands (h:aV Vs Es) {i:Nat} {v:VC} (hv:Vs[i]? =ζ v) {d:D} (hd:d∈v.2.1.2.2.2):jl Vs d=(v.1,τ)∧fO 0 Vs v.1=(i:Int):=by
 refine⟨h.at (ω hv) hd,?_⟩
 have:=zS Vs 0 i v (nf h.rv) hv
 simpa using this
theorem aV.plc (h:aV Vs Es) {i:Nat} {v:VC} (hv:Vs[i]? =ζ v) {d:D} (hd:d∈v.2.1.2.2.2):FK Vs d=i:=by
 obtain⟨h1,h2⟩:=h.stands hv hd;rw[FK,h1,h2];simp
theorem aV.dart (h:aV Vs Es) {e:EC} (he:e∈Es) (s:Int) (hs:s=0∨s=1):∃i v,Vs[i]? =ζ v∧(e.1.1,e.1.2,s)∈v.2.1.2.2.2∧i<Vs.length:=by
 have h1:(e.1.1,e.1.2,s)∈aD Vs:=h.pm.mem_iff.2 ((pr Es [] _).2 (.inr ⟨e,he,by rcases hs with rfl|rfl;exact .inl rfl;exact .inr rfl⟩));obtain⟨v,hv,hr⟩:=Jat.1 h1;obtain⟨i,hi⟩:=List.getElem?_of_mem hv;exact⟨i,v,hi,hr,(ν.1 hi).1⟩
theorem aV.of_dart (h:aV Vs Es) {v:VC} (hv:v∈Vs) {d:D} (hd:d∈v.2.1.2.2.2):∃e∈Es,e.1=(d.1,d.2.1)∧(d.2.2=0∨d.2.2=1):=by
 have h1:=h.pm.mem_iff.1 (Jat.2 ⟨v,hv,hd⟩);rcases (pr Es [] d).1 h1 with h2|⟨e,he,h2|h2⟩
 ·cases h2
 ·exact⟨e,he,by rw[h2],.inl (by rw[h2])⟩
 ·exact⟨e,he,by rw[h2],.inr (by rw[h2])⟩
theorem ER (h:aV Vs Es):∀e∈sX Vs Es,e.1<Vs.length∧e.2<Vs.length:=fun p hp=>by
 obtain⟨e,he,rfl⟩:=Α.1 hp;obtain⟨i,v,hv,hd,hi⟩:=h.dart he 0 (.inl rfl);obtain⟨k,u,hu,xN,hk⟩:=h.dart he 1 (.inr rfl);rw[h.plc hv hd,h.plc hu xN];exact⟨hi,hk⟩
theorem NJ (h:aV Vs Es) (f:Nat→Int):Co Vs.length (Sh Vs) f↔Co Vs.length (fun i k=>(i,k)∈sX Vs Es) f:=by
 constructor
 ·rintro hf i k hi hk hm;obtain⟨e,he,hp⟩:=Α.1 hm;obtain⟨a,v,hv,hd,ha⟩:=h.dart he 0 (.inl rfl);obtain⟨b,u,hu,xN,hb⟩:=h.dart he 1 (.inr rfl);rw[h.plc hv hd,h.plc hu xN] at hp;injection hp with e1 e2
  subst e1 e2;exact hf _ _ ha hb ⟨(e.1.1,e.1.2),⟨v,hv,_,hd,rfl⟩,⟨u,hu,_,xN,rfl⟩⟩
 ·rintro hf i k hi hk ⟨y,⟨v,hv,x,hx,rfl⟩,⟨u,hu,z,hz,ez⟩⟩;obtain⟨e,he,e1,hs⟩:=h.of_dart (ω hv) hx;obtain⟨e',AT,e1',hs'⟩:=h.of_dart (ω hu) hz;have Dd:=h.plc hv hx;have Te:=h.plc hu hz;obtain⟨x1,x2,x3⟩:=x;obtain⟨z1,z2,z3⟩:=z;simp only[Jba] at ez;obtain⟨rfl,rfl⟩:=ez;simp only at e1 hs hs';have hm:(FK Vs (x1,x2,0),FK Vs (x1,x2,1))∈sX Vs Es:=Α.2 ⟨e,he,by rw[e1]⟩;have hb:=ER h _ hm;have XF:=hf _ _ hb.1 hb.2 hm;rcases hs with rfl|rfl<;>rcases hs' with rfl|rfl
  ·rw[Dd] at Te;rw[Te]
  ·rw[Dd,Te] at XF;exact XF
  ·rw[Dd,Te] at XF;exact XF.symm
  ·rw[Dd] at Te;rw[Te]
theorem Gm (h:aV Vs Es):yi Vs.length (fun i k=>(i,k)∈sX Vs Es) (fP Vs):=(nZ Vs).of_iff (NJ h)
theorem GD (h:aV Vs Es):dF (sX Vs Es) Vs.length Vs.length=fP Vs:=Ed (Gm h) (ER h)
theorem Qs (Vs:List VC):mN (fP Vs)≤Vs.length:=by
 unfold mN
 have:=List.countP_le_length (p:=nH (fP Vs)) (l:=Ω (fP Vs).length)
 rw[List.length_range,ry] at this;rw[ry];exact this
end
theorem EL {R:List D} (hn:R.Nodup) (f:D→Option D):∀k,k≤R.length→∀y,Rm R k f y=if y∈R.take k then ζ (R.getD ((R.idxOf y+1) % R.length) (0,0,0)) else f y
 |0,_,y=>by simp[Rm]
 |k+1,hk,y=>by
  have Mv:k<R.length:=by omega
  have e:R.take (k+1)=R.take k++[R.getD k (0,0,0)]:=by
   rw[List.take_succ_eq_append_getElem Mv,χ,θ Mv];rfl
  have ei:R.idxOf (R.getD k (0,0,0))=k:=by
   rw[χ,θ Mv];exact hn.idxOf_getElem k Mv
  rw[Rm]
  show(if y=R.getD k (0,0,0) then ζ (R.getD ((k+1) % R.length) (0,0,0)) else Rm R k f y)=_
  rw[EL hn f k (by omega) y,e]
  by_cases q:y=R.getD k (0,0,0)
  ·rw[if_pos q,if_pos (Jan.2 (.inr (Jao.2 q))),q,ei]
  ·rw[if_neg q]
   by_cases q2:y∈R.take k
   ·rw[if_pos q2,if_pos (Jan.2 (.inl q2))]
   ·rw[if_neg q2,if_neg (fun h=>(Jan.1 h).elim q2 (fun h=>q (Jao.1 h)))]
def ic (R:List D) (y:D):D:=R.getD ((R.idxOf y+1) % R.length) (0,0,0)
theorem xZ:∀(Vs:List VC) (f:D→Option D),(aD Vs).Nodup→(∀y,y∉aD Vs→I8 Vs f y=f y)∧∀v∈Vs,∀y∈v.2.1.2.2.2,I8 Vs f y=ζ (ic v.2.1.2.2.2 y)
 |[],f,_=>⟨fun _ _=>rfl,by simp⟩
 |v::r,f,hn=>by
  have Mh:=hn;rw[iY,JaL] at hn;obtain⟨h1,h2⟩:=xZ r (Rm v.2.1.2.2.2 v.2.1.2.2.2.length f) hn.2.1;have hg:=fun y=>EL hn.1 f v.2.1.2.2.2.length (Δ _) y
  rw[List.take_length] at hg;constructor
  ·intro y hy;rw[iY,Jan,not_or] at hy;rw[I8,h1 y hy.2,hg,if_neg hy.1]
  ·intro u hu y hy;rcases Η.1 hu with rfl|hu
   ·have U5:y∉aD r:=fun q=>hn.2.2 y hy y q rfl
    rw[I8,h1 y U5,hg,if_pos hy];rfl
   ·rw[I8];exact h2 u hu y hy
section
variable {Vs:List VC} {Es:List EC}
theorem x9 (hn:(aD Vs).Nodup) {v:VC} (hv:v∈Vs) {y:D} (hy:y∈v.2.1.2.2.2):Ba Vs y=ζ (ic v.2.1.2.2.2 y):=(xZ Vs _ hn).2 v hv y hy
theorem um (hn:(aD Vs).Nodup) {y:D} (hy:y∉aD Vs):Ba Vs y=ε:=(xZ Vs _ hn).1 y hy
theorem fk {y:D}:y∈aD Vs↔∃v∈Vs,y∈v.2.1.2.2.2:=Jat
def pM (Vs:List VC) (y:D):D:=(Ba Vs y).getD (0,0,0)
def jF (Vs:List VC) (y:D):D:=pM Vs (da y)
theorem oY (hn:(aD Vs).Nodup) {v:VC} (hv:v∈Vs) {y:D} (hy:y∈v.2.1.2.2.2):pM Vs y=ic v.2.1.2.2.2 y:=by rw[pM,x9 hn hv hy];rfl
theorem El (hn:(aD Vs).Nodup) (y:D):Ba Vs y=if y∈aD Vs then ζ (pM Vs y) else ε:=by
 by_cases h:y∈aD Vs
 ·obtain⟨v,hv,hy⟩:=fk.1 h;rw[if_pos h,pM,x9 hn hv hy];rfl
 ·rw[if_neg h,um hn h]
theorem mm {R:List D} {y:D} (hy:y∈R):ic R y∈R:=by
 have hl:=Jbk hy
 have:(R.idxOf y+1) % R.length<R.length:=Nat.mod_lt _ hl
 rw[ic,χ,θ this];exact List.getElem_mem _
theorem I9 {R:List D} (hn:R.Nodup) {x y:D} (hx:x∈R) (hy:y∈R) (e:ic R x=ic R y):x=y:=by
 have hl:=Jbk hx;have h1:(R.idxOf x+1) % R.length<R.length:=Nat.mod_lt _ hl;have h2:(R.idxOf y+1) % R.length<R.length:=Nat.mod_lt _ hl;unfold ic at e;rw[χ,χ,θ h1,θ h2] at e;have e1:(R.idxOf x+1) % R.length=(R.idxOf y+1) % R.length:=(List.getElem_inj hn).1 e;have i1:=List.idxOf_lt_length_of_mem hx;have i2:=List.idxOf_lt_length_of_mem hy
 have e2:R.idxOf x=R.idxOf y:=by
  by_cases q1:R.idxOf x+1=R.length
  ·rw[q1,Nat.mod_self] at e1
   by_cases q2:R.idxOf y+1=R.length
   ·omega
   ·rw[JbE (show R.idxOf y+1<R.length by omega)] at e1;omega
  ·rw[JbE (show R.idxOf x+1<R.length by omega)] at e1
   by_cases q2:R.idxOf y+1=R.length
   ·rw[q2,Nat.mod_self] at e1;omega
   ·rw[JbE (show R.idxOf y+1<R.length by omega)] at e1;omega
 have g1:R[R.idxOf x]'i1=x:=List.getElem_idxOf i1;have g2:R[R.idxOf y]'i2=y:=List.getElem_idxOf i2;rw[←g1,←g2];exact(List.getElem_inj hn).2 e2
theorem Cb (hn:(aD Vs).Nodup):Pm (pM Vs) (aD Vs):=by
 have key:∀{v:VC},v∈Vs→∀{x:D},x∈v.2.1.2.2.2→∀{u:VC},u∈Vs→x∈u.2.1.2.2.2→u.2.1.2.2.2=v.2.1.2.2.2:=by
  intro v hv x hx u hu qt;have e1:=x9 hn hv hx;clear e1;revert hv hu;generalize Vs=Ws at hn
  induction Ws with
  |nil=>intro h;cases h
  |cons z r ih=>
   intro h1 h2;rw[iY,JaL] at hn;rcases Η.1 h1 with e1|k1
   ·rcases Η.1 h2 with e2|k2
    ·rw[e1,e2]
    ·exact(hn.2.2 x (e1▸hx) x (Jat.2 ⟨u,k2,qt⟩) rfl).elim
   ·rcases Η.1 h2 with e2|k2
    ·exact(hn.2.2 x (e2▸qt) x (Jat.2 ⟨v,k1,hx⟩) rfl).elim
    ·exact ih hn.2.1 k1 k2
 refine⟨hn,fun x hx=>?_,fun x hx y hy e=>?_⟩
 ·obtain⟨v,hv,hx⟩:=fk.1 hx;rw[oY hn hv hx];exact fk.2 ⟨v,hv,mm hx⟩
 ·obtain⟨v,hv,hx⟩:=fk.1 hx;obtain⟨u,hu,hy⟩:=fk.1 hy;rw[oY hn hv hx,oY hn hu hy] at e;have h1:=mm hx;have h2:=mm hy;have e2:=key hv h1 hu (e▸h2);rw[e2] at e hy;exact I9 (wm hn hv) hx hy e
theorem np (d:D):da (da d)=d:=by
 obtain⟨a,b,c⟩:=d
 show(a,b,1 - (1 - c))=(a,b,c)
 rw[show(1:Int) - (1 - c)=c by omega]
theorem aV.mem (h:aV Vs Es) (d:D):d∈aD Vs↔∃e∈Es,e.1=(d.1,d.2.1)∧(d.2.2=0∨d.2.2=1):=by
 rw[h.pm.mem_iff,pr];constructor
 ·rintro (q|⟨e,he,rfl|rfl⟩)
  ·cases q
  ·exact⟨e,he,rfl,.inl rfl⟩
  ·exact⟨e,he,rfl,.inr rfl⟩
 ·rintro⟨e,he,e1,q⟩;obtain⟨a,b,c⟩:=d;refine .inr ⟨e,he,?_⟩;simp only at e1 q;rcases q with rfl|rfl
  ·exact .inl (by rw[e1])
  ·exact .inr (by rw[e1])
theorem aV.oth (h:aV Vs Es) {d:D} (hd:d∈aD Vs):da d∈aD Vs:=by
 obtain⟨e,he,e1,q⟩:=(h.mem d).1 hd;exact(h.mem _).2 ⟨e,he,e1,by show 1 - d.2.2=0∨1 - d.2.2=1;omega⟩
theorem aV.ohs (h:aV Vs Es) (d:D):da d∈aD Vs↔d∈aD Vs:=⟨fun q=>np d▸h.oth q,h.oth⟩
theorem aV.phi (h:aV Vs Es):Pm (jF Vs) (aD Vs):=
 ⟨h.once,fun x hx=>(Cb h.once).cl _ (h.oth hx),fun x hx y hy e=>by
  have:=(Cb h.once).inj _ (h.oth hx) _ (h.oth hy) e
  rw[←np x,this,np]⟩
theorem aV.wfS (h:aV Vs Es) (hg:rO Vs Es) {d:D} (hd:d∈aD Vs):wfS d:=by
 obtain⟨v,hv,hr⟩:=fk.1 hd;obtain⟨e,he,e1,q⟩:=(h.mem d).1 hd;exact⟨hg.v v hv d hr,by omega,by omega⟩
theorem aV.l80 (h:aV Vs Es):(aD Vs).length≤80:=by rw[h.len];have:=h.e40;omega
def nB (Vs:List VC) (x:D):List D:=if x∈aD Vs then nO (jF Vs) x 80 x else[]
theorem Gk (h:aV Vs Es) (x:D):(nB Vs x).length≤80:=by
 rw[nB]
 by_cases hx:x∈aD Vs
 ·obtain⟨p,hp,bD⟩:=h.phi.per hx
  have:=h.l80
  rw[if_pos hx,uO hp (by omega),Ff];omega
 ·rw[if_neg hx];exact Jas _
theorem KP.formed {S:List D} (h:aV Vs Es) (hg:rO Vs Es) (k:KP (Ba Vs) S):S.length=(aD Vs).length:=by
 have hm:∀x,x∈S↔x∈aD Vs:=fun x=>by
  constructor
  ·intro hx;have h1:=(k.2.2 x (k.2.1 x hx)).1 hx;rw[El h.once] at h1
   by_cases q:x∈aD Vs
   ·exact q
   ·rw[if_neg q] at h1;cases h1
  ·intro hx
   refine(k.2.2 x (h.wfS hg hx).1).2 ?_
   rw[El h.once,if_pos hx];rfl
 exact Nat.le_antisymm (FC k.1 fun x hx=>(hm x).1 hx) (FC h.once fun x hx=>(hm x).2 hx)
end
def wM (L:List EC):List D:=L.flatMap fun e=>[(e.1.1,e.1.2,0),(e.1.1,e.1.2,1)]
theorem J5 (e:EC) (L:List EC):wM (e::L)=(e.1.1,e.1.2,0)::(e.1.1,e.1.2,1)::wM L:=rfl
theorem NM (L M:List EC):wM (L++M)=wM L++wM M:=by simp[wM,List.flatMap_append]
theorem JW (L:List EC) (j:Nat) (x:EC) (h:L[j]? =ζ x):wM (L.take (j+1))=wM (L.take j)++[(x.1.1,x.1.2,0),(x.1.1,x.1.2,1)]:=by
 rw[Jbc,h,NM];rfl
theorem Ef:∀L:List EC,(wM L).length=2*L.length
 |[]=>rfl
 |e::r=>by
  rw[J5,JaH,JaH,Ef r,JaH];omega
theorem Oq (L:List EC) (d:D):d∈wM L↔∃e∈L,e.1=(d.1,d.2.1)∧(d.2.2=0∨d.2.2=1):=by
 obtain⟨a,b,c⟩:=d;unfold wM;rw[Jat];constructor
 ·rintro⟨e,he,h⟩
  refine⟨e,he,?_⟩
  simp only[Η,Jba,List.mem_nil_iff,or_false] at h;rcases h with⟨rfl,rfl,rfl⟩|⟨rfl,rfl,rfl⟩
  ·exact⟨rfl,.inl rfl⟩
  ·exact⟨rfl,.inr rfl⟩
 ·rintro⟨e,he,h1,h2⟩
  refine⟨e,he,?_⟩
  simp only[Η,Jba,List.mem_nil_iff,or_false];simp only at h1 h2;rw[h1];rcases h2 with rfl|rfl
  ·exact .inl ⟨rfl,rfl,rfl⟩
  ·exact .inr ⟨rfl,rfl,rfl⟩
theorem aV.ds {Vs:List VC} {Es:List EC} (h:aV Vs Es) (d:D):d∈wM Es↔d∈aD Vs:=by rw[Oq,h.mem]
theorem sE {α:Type} {f g:α→α} {L:List α} (h:Pm f L) (e:∀x∈L,f x=g x) {x:α} (hx:x∈L):∀k,jY f k x=jY g k x
 |0=>rfl
 |k+1=>by rw[iI,iI,←sE h e hx k,e _ (h.it hx k)]
theorem Bz {α:Type} {f g:α→α} {L:List α} (h:Pm f L) (e:∀x∈L,f x=g x) {x:α} (hx:x∈L) (y:α):Rl f x y↔Rl g x y:=
 ⟨fun⟨i,q⟩=>⟨i,(sE h e hx i).symm.trans q⟩,fun⟨i,q⟩=>⟨i,(sE h e hx i).trans q⟩⟩
theorem sO.congr {α:Type} {f g:α→α} {L P:List α} (h:Pm f L) (e:∀x∈L,f x=g x) (hP:sO f L P):sO g L P:=
 ⟨hP.nd,hP.sub,fun x hx=>by
  obtain⟨p,hp,r⟩:=hP.all x hx;exact⟨p,hp,(Bz h e (hP.sub p hp) x).1 r⟩,fun p hp q hq r=>hP.one p hp q hq ((Bz h e (hP.sub p hp) q).2 r)⟩
def kN (Vs:List VC):Nat:=(Vs.filter fun v=>decide (v.2.1.2.2.2=[])).length
section
variable {Vs:List VC} {Es:List EC}
theorem aV.ends (h:aV Vs Es) {e:EC} (he:e∈Es):(e.1.1,e.1.2,(0:Int))∈aD Vs∧(e.1.1,e.1.2,(1:Int))∈aD Vs:=
 ⟨(h.mem _).2 ⟨e,he,rfl,.inl rfl⟩,(h.mem _).2 ⟨e,he,rfl,.inr rfl⟩⟩
def nN (Vs:List VC) (Es:List EC):Nat:=(kK (jF Vs) 80 (wM Es) []).length
theorem sJ (h:aV Vs Es):∃P,sO (jF Vs) (aD Vs) P∧nN Vs Es=P.length:=by
 obtain⟨P,hP,e⟩:=Hi h.phi h.l80 (wM Es) h.ds;exact⟨P,hP,by rw[nN,e,List.length_map]⟩
end
section
open Go.RowKit Go.Shelf Go.Lib Go.Sort
def Gf (x:D):List ψ:=[J x.1,J x.2.1,J x.2.2]
end
def dsV (L:List VC):List D:=L.flatMap (·.2.1.2.2.2)
theorem MO (j:Nat):wP (j+1)=wP j++[(j:Int)]:=by simp[wP,List.range_succ]
theorem GI:(η.info? 3).map (fun i=>(i.zero,i.size,i.bytes))=ζ (ζ (J 0),1,8):=by kernel_rfl
theorem RowsIn.push {P:Program} {α:Type} {W:ο} {lo:Nat} {UR UE:Υ} {s:Nat} {f:α→List ψ} {A:Option Κ} {n c:Nat} {X:List (Rw α)} (h:RowsIn W lo UR UE s f A n c X) (x:Rw α) (hx:W.ownsRow lo UE s (Fl x) x.2.2.length (ao f x.2.2)) (hd:∀y∈X,∀a b,y.1=ζ a→x.1=ζ b→a.block≠b.block)
 (t ty:Υ) (i:TypeInfo) (z:ψ) (ht:P.underlying t=ζ (.slice UR)) (hi:P.info? UR=ζ i) (hz:i.zero=ζ z) (je:i.size=1) (yn:i.bytes=24) (xY:z.cells.size=1)
 (hT:UR≠UE) (hn:n≤1000000) (gi:lo≤W.heap.size) (A1:Option Κ) (c1:Nat) (hr:aS W W.heap.size 1 A1 1 c1 [Fl x]):
 ∃A' c' W',(JaY #[t,t] ty #[γ A n c,γ A1 1 c1]).run P W=.ok (γ A' (n+1) c') W'∧RowsIn W' lo UR UE s f A' (n+1) c' (X++[x])∧σ lo W W'∧W.grownBy W' (Ο A n c).ownBlock:=by
 obtain⟨a1,rfl⟩:∃a1,A1=ζ a1:=by
  cases A1 with
  |none=>have:=(hr.none_ rfl).1;omega
  |some a1=>exact⟨a1,rfl⟩
 obtain⟨v',W2,bL,fy,hg,Mh,hb⟩:=run_append_own_at (P:=P) W lo t ty UR i z 1 24 ht hi hz je yn xY (by decide) _ n _ h.row a1 1 c1 _ hr.len (hr.cell a1 rfl) (by simp[Fl,Value.oneCell']) (by unfold maxLen;omega) (by omega) gi;have hk:∀k,(Ο A n c).ownBlock=ζ k→lo≤k:=fun k hk=>(h.row.lt k hk).1
 obtain⟨A',c',rfl,_⟩:=aS.of_own fy;have e:ao YX X++[Fl x]=ao YX (X++[x]):=by rw[bX];rfl
 rw[e] at fy
 have keep:∀y:Rw α,W.ownsRow lo UE s (Fl y) y.2.2.length (ao f y.2.2)→W2.ownsRow lo UE s (Fl y) y.2.2.length (ao f y.2.2):=fun y hy=>hy.kept hg (by
  cases hv:(Fl y).ownBlock with
  |none=>exact .inl rfl
  |some g=>exact .inr fun q=>rY h.row hy hT q.symm hv)
 refine⟨A',c',W2,bL,⟨fy,by simp[h.len],fun y hy=>?_,fun i j u v a b Fo hu hv hua th=>?_⟩,(Θ lo W).grown hg gi hk,hg⟩
 ·rcases Jan.1 hy with hy|hy
  ·exact keep y (h.one y hy)
  ·obtain rfl:=Jao.1 hy;exact keep y hx
 ·have get:∀(i:Nat) (u:Rw α),(X++[x])[i]? =ζ u→X[i]? =ζ u∨(i=X.length∧u=x):=fun i u hu=>by
   by_cases hi:i<X.length
   ·rw[List.getElem?_append_left hi] at hu;exact .inl hu
   ·rw[List.getElem?_append_right (by omega)] at hu;have h1:=(ν.1 hu).1;simp at h1;have e0:i - X.length=0:=by omega
    rw[e0] at hu;exact .inr ⟨by omega,by simpa using hu.symm⟩
  rcases get i u hu with XR|⟨ei,eu⟩
  ·rcases get j v hv with Pe|⟨ej,ev⟩
   ·exact h.ne i j u v a b Fo XR Pe hua th
   ·exact hd u (ω XR) a b hua (by rw[←ev];exact th)
  ·rcases get j v hv with Pe|⟨ej,ev⟩
   ·exact fun q=>hd v (ω Pe) b a th (by rw[←eu];exact hua) q.symm
   ·omega
theorem O7 (L:List D):ao Gf L=aA L:=by
 induction L with
 |nil=>rfl
 |cons x L ih=>
  show Gf x++ao Gf L=_;rw[ih];rfl
theorem Jc {W W':ο} {lo k n:Nat} {e:Υ} {v:ψ} {xs:List ψ} (h:W.ownsRow lo e k v n xs) (hb:∀g,v.ownBlock=ζ g→W'.heap[g]? =W.heap[g]?):W'.ownsRow lo e k v n xs:=by
 refine⟨h.1,?_⟩
 rcases h.2 with q|⟨g,cap,cur,q1,q2,q3,q4⟩
 ·exact .inl q
 ·exact .inr ⟨g,cap,cur,q1,q2,(hb g (by rw[q1];rfl)).trans q3,q4⟩
theorem RowsIn.at_ {α:Type} {W W':ο} {lo:Nat} {UR UE:Υ} {s:Nat} {f:α→List ψ} {A:Option Κ} {n c:Nat} {X:List (Rw α)} (h:RowsIn W lo UR UE s f A n c X)
 (hb:∀g cs t fr,lo≤g→W.heap[g]? =ζ (.cells cs t fr)→(t=UR∨t=UE)→W'.heap[g]? =W.heap[g]?):RowsIn W' lo UR UE s f A n c X:=by
 refine⟨Jc h.row fun g hg=>?_,h.len,fun x hx=>Jc (h.one x hx) fun g hg=>?_,h.ne⟩
 ·rcases h.row.2 with⟨q,_⟩|⟨g',cap,cur,q1,q2,q3,q4⟩
  ·rw[q] at hg;cases hg
  ·rw[q1] at hg;obtain rfl:g'=g:=Μ hg;exact hb g' cur UR (0,0) q2 q3 (.inl rfl)
 ·rcases (h.one x hx).2 with⟨q,_⟩|⟨g',cap,cur,q1,q2,q3,q4⟩
  ·rw[q] at hg;cases hg
  ·rw[q1] at hg;obtain rfl:g'=g:=Μ hg;exact hb g' cur UE (0,0) q2 q3 (.inr rfl)
section
attribute [local go_sem] Oper.semAt_some
theorem Kept.gr {S:Nat→Prop} {V W W':ο} {r:Option Nat} (h:Kept S V W) (hg:W.grownBy W' r) (hr:∀k,r=ζ k→S k):Kept S V W':=
 h.trans ⟨hg.os,hg.tape,hg.output,hg.size,fun i hi hn=>hg.block i hi (fun e=>hn (hr i e.symm))⟩
theorem Gr:(η.info? 57).map (fun i=>(i.zero,i.size,i.bytes))=ζ (ζ (γ ε 0 0),1,24):=by kernel_rfl
end
section
variable {Vs:List VC} {Es:List EC}
theorem QJ (Vs:List VC):dsV Vs=aD Vs:=rfl
end
def Ld (L:List D) (d:D) (p:Nat):D:=if d∈L then L.getD ((L.idxOf d+p) % L.length) (0,0,0) else(0,0,0)
def sN (w:ο) (x:D) (ok:Bool) (e:Ending) (w':ο):Prop:=
 e=.returned (.tuple #[.agg #[J x.1,J x.2.1,J x.2.2],.bool ok])∧σ w.heap.size w w'
def rD (L:List D) (d:D):D:=Ld L d 1
theorem CK (A:Option Κ) (n c:Nat) (L:List D) (d:D) (w:ο) (h:aS w w.heap.size 3 A n c (aA L)) (hn:n≤1000000):
 Calls η 108 #[γ A n c,.agg #[J d.1,J d.2.1,J d.2.2]] w (sN w (rD L d) (decide (d∈L))):=by
 have HI:=qh (fun W h=>gJ A n c L d W h (by omega));have H:=qh h;have hl:=h.dlen
 by_cases hd:d∈L
 ·obtain⟨e1,e2⟩:=gO hd;rw[e1] at HI;obtain⟨k,gk⟩:=az (L.idxOf d);have WU:k<n:=by omega
  have hs:rD L d=L.getD ((k+1) % n) (0,0,0):=by rw[rD,Ld,if_pos hd,gk,hl]
  rw[gk] at HI e2;obtain⟨b,off,rfl,hb,hc⟩:=h.darts (by omega);have hj:(k+1) % n<n:=Nat.mod_lt _ (by omega);have Cg:((k:Int)+1) % (n:Int)=(((k+1) % n:Nat):Int):=by rw[Int.natCast_emod,Int.natCast_add];rfl
  obtain⟨j,gj⟩:=az ((k+1) % n);rw[gj] at hs hj Cg;obtain⟨c1,c2,c3⟩:=hc j (by omega);obtain⟨x,gx⟩:=az (L.getD j (0,0,0));rw[gx] at hs c1 c2 c3;rw[hs,decide_eq_true hd];have C1:=qh c1;have C2:=qh c2;have C3:=qh c3;clear hs gx gj hc hd gk e1 e2 h hl c1 c2 c3;go_enter Tryz.func108,Tryz.ntmps108
  go_wp2_with (first
   |(go_at_call 33;refine(HI.out _ (by exact H.out.up (bT _ _ _) (by simp<;>omega))).mono ?_;rintro e w2 ⟨rfl,ar⟩
     have HB:=qh (cI ar);have d1:=(HB.out.cell (p:=⟨b,off+j*3,ε⟩) hb).trans C1.out;have d2:=(HB.out.cell (p:=⟨b,off+j*3+1,ε⟩) hb).trans C2.out;have d3:=(HB.out.cell (p:=⟨b,off+j*3+2,ε⟩) hb).trans C3.out;have hz:=(Whole.new_ (w.alloc (.cells #[J d.1,J d.2.1,J d.2.2] 32)) 32 [J 0,J 0,J 0]).below ar;simp only[JbF] at hz;have z0:=hz.cell (i:=0) rfl;have z1:=hz.cell (i:=1) rfl;have z2:=hz.cell (i:=2) rfl;have y0:=hz.free 0;have y1:=hz.free 1;have y2:=hz.free 2;clear ar hz))
  exact bodyPost_ret (v:=.tuple #[.agg #[J x.1,J x.2.1,J x.2.2],.bool τ]) (by simp[results,Tryz.results108,go_sem,z0,z1,z2]) rfl ⟨rfl,((HB.out.setCell (by simp) _).setCell (by simp) _).setCell (by simp) _⟩
 ·have hs:rD L d=(0,0,0):=by rw[rD,Ld,if_neg hd]
  rw[jE hd] at HI;rw[hs,decide_eq_false hd];clear hs h hd hl;go_enter Tryz.func108,Tryz.ntmps108
  go_wp2_with (first
   |(go_at_call 33;refine(HI.out _ (by exact H.out.up (bT _ _ _) (by simp<;>omega))).mono ?_;rintro e w2 ⟨rfl,ar⟩
     have HB:=qh (cI ar);have hz:=(Whole.new_ (w.alloc (.cells #[J d.1,J d.2.1,J d.2.2] 32)) 32 [J 0,J 0,J 0]).below ar;simp only[JbF] at hz;have z0:=hz.cell (i:=0) rfl;have z1:=hz.cell (i:=1) rfl;have z2:=hz.cell (i:=2) rfl;have y0:=hz.free 0;have y1:=hz.free 1;have y2:=hz.free 2;clear ar hz))
  exact bodyPost_ret (v:=.tuple #[.agg #[J 0,J 0,J 0],.bool ρ]) (by simp[results,Tryz.results108,go_sem,z0,z1,z2]) rfl ⟨rfl,((HB.out.setCell (by simp) _).setCell (by simp) _).setCell (by simp) _⟩
def othW (d:D):D:=(d.1,d.2.1,Jaw.wrap (1 - d.2.2))
theorem MQ {d:D} (h:0≤d.2.2∧d.2.2≤1):othW d=da d:=by
 unfold othW da;rw[IntWalk.i64_in (1 - d.2.2) (by omega)]
theorem IL {d:D} (h1:-9223372036854775808≤d.2.2∧d.2.2≤9223372036854775807) (h:¬(d.2.2=0∨d.2.2=1)):¬((othW d).2.2=0∨(othW d).2.2=1):=by
 show ¬(Jaw.wrap (1 - d.2.2)=0∨Jaw.wrap (1 - d.2.2)=1)
 by_cases q:d.2.2= -9223372036854775808
 ·rw[q];decide
 ·rw[IntWalk.i64_left];unfold wrap64;omega
section
variable {Vs:List VC} {Es:List EC}
theorem aV.othW (h:aV Vs Es) {d:D} (hb:-9223372036854775808≤d.2.2∧d.2.2≤9223372036854775807):(othW d∈aD Vs↔d∈aD Vs)∧(d∈aD Vs→othW d=da d):=by
 have hs:∀{x:D},x∈aD Vs→x.2.2=0∨x.2.2=1:=fun hx=>by
  obtain⟨e,_,_,q⟩:=(h.mem _).1 hx;exact q
 by_cases q:d.2.2=0∨d.2.2=1
 ·have e:=MQ (d:=d) (by omega);rw[e];exact⟨h.ohs d,fun _=>rfl⟩
 ·exact⟨⟨fun hx=>(IL hb q (hs hx)).elim,fun hx=>(q (hs hx)).elim⟩,fun hx=>(q (hs hx)).elim⟩
theorem JE (h:aV Vs Es) (x:D):(x∈(aU Vs (jl Vs x).1).1.2.1.2.2.2↔x∈aD Vs)∧rD (aU Vs (jl Vs x).1).1.2.1.2.2.2 x=pM Vs x∧(jl Vs x).2=decide (x∈aD Vs):=by
 by_cases hx:x∈aD Vs
 ·obtain⟨v,hv,hr⟩:=fk.1 hx;have e1:=h.at hv hr
  have e2:aU Vs v.1=(v,τ):=by
   have hn:=nf h.rv;clear h hx e1 hr
   induction Vs with
   |nil=>cases hv
   |cons u r ih=>
    rw[List.map_cons,JaJ] at hn;rcases Η.1 hv with rfl|hv
    ·exact rS _ _ _ _ _ rfl
    ·have:¬u.1=v.1:=fun e=>hn.1 (e▸Α.2 ⟨v,hv,rfl⟩)
     exact(wb _ _ _ _ _ this).trans (ih hv hn.2)
  rw[e1]
  show(x∈(aU Vs v.1).1.2.1.2.2.2↔_)∧rD (aU Vs v.1).1.2.1.2.2.2 x=_∧τ=_
  rw[e2,oY h.once hv hr,decide_eq_true hx]
  refine⟨⟨fun _=>hx,fun _=>hr⟩,?_,rfl⟩
  show Ld _ _ 1=_;rw[Ld,if_pos hr];rfl
 ·have e1:jl Vs x=((0,0),ρ):=by
   unfold jl;rw[List.find?_eq_none.2 (fun v hv q=>hx (fk.2 ⟨v,hv,of_decide_eq_true q⟩))]
  have e2:aU Vs (0,0)=(zV,ρ):=by
   unfold aU BL
   rw[List.find?_eq_none.2 (fun v hv q=>by
    have h1:=((kn _ _).1 h.rv).1 v.1 (Α.2 ⟨v,hv,rfl⟩);have q1:v.1=(0,0):=of_decide_eq_true q;rw[q1] at h1;revert h1;decide)]
  rw[e1]
  show(x∈(aU Vs (0,0)).1.2.1.2.2.2↔_)∧rD (aU Vs (0,0)).1.2.1.2.2.2 x=_∧ρ=_
  rw[e2,pM,um h.once hx,decide_eq_false hx];exact⟨⟨fun q=>(by cases q),fun q=>(hx q).elim⟩,rfl,rfl⟩
end
def UU:ψ→Nat
 |γ _ n _=>n
 |_=>0
theorem Ow.cell_ {w W:ο} {B size n g:Nat} {e:Υ} {v:ψ} {xs:List ψ} (h:Ow w B e size v n xs W) (bQ:ζ g≠v.ownBlock) (hg:w.heap.size≤g) (i:Nat) (u:ψ):Ow w B e size v n xs (W.setCell ⟨g,i,ε⟩ u):=
 ⟨aI h.own bQ u,h.below.setCell (p:=⟨g,i,ε⟩) hg u,h.lo,by simpa [World.setCell] using h.hi⟩
theorem IG {f:D→D} (x:D) (j:Nat):lk f x (j+1)=lk f x j++[jY f j x]:=by
 unfold lk;rw[List.range_succ,List.map_append];rfl
structure PR (w:ο) (lo:Nat) (At:Option Κ) (ct:Nat) (T:List D) (Al:Option Κ) (cl:Nat) (L:List D) (Ao:Option Κ) (co:Nat) (X:List (Rw D)) (W:ο):Prop where
 ow:Ow w lo 32 3 (γ At T.length ct) T.length (aA T) W
 l:W.ownsRow lo 32 3 (γ Al L.length cl) L.length (aA L)
 r:RowsIn W lo 57 32 3 Gf Ao X.length co X
 nl:∀g,(Ο Al L.length cl).ownBlock=ζ g→(Ο At T.length ct).ownBlock≠ζ g
 nx:∀x∈X,∀g,(Fl x).ownBlock=ζ g→(Ο At T.length ct).ownBlock≠ζ g
section
variable {w W W':ο} {lo:Nat} {At:Option Κ} {ct:Nat} {T:List D} {Al:Option Κ} {cl:Nat} {L:List D} {Ao:Option Κ} {co:Nat} {X:List (Rw D)}
theorem PR.up (h:PR w lo At ct T Al cl L Ao co X W) (hb:σ W.heap.size W W'):PR w lo At ct T Al cl L Ao co X W':=
 ⟨h.ow.up hb,bF h.l hb,h.r.up hb,h.nl,h.nx⟩
theorem PR.bl (h:PR w lo At ct T Al cl L Ao co X W) (hb:σ W.heap.size W W'):PR w lo At ct T Al cl L Ao co X W':=h.up hb
theorem PR.al (h:PR w lo At ct T Al cl L Ao co X W) (o:Obj):PR w lo At ct T Al cl L Ao co X (W.alloc o):=h.up (ax W o)
theorem PR.dr (h:PR w lo At ct T Al cl L Ao co X W):PR w lo At ct T Al cl L Ao co X W.drew:=h.up ((Θ _ _).drew)
theorem PR.out (h:PR w lo At ct T Al cl L Ao co X W) (A9:Option Κ) (c9:Nat) (F:List D) (hf:W.ownsRow lo 32 3 (γ A9 F.length c9) F.length (aA F)) (hd:∀y∈X,∀a b,y.1=ζ a→A9=ζ b→a.block≠b.block)
 (ht:∀g,(Ο A9 F.length c9).ownBlock=ζ g→(Ο At T.length ct).ownBlock≠ζ g) (hn:X.length≤1000000) (A1:Option Κ) (c1:Nat) (hr:aS W W.heap.size 1 A1 1 c1 [γ A9 F.length c9]):
 ∃A' c' W',(JaY #[86,86] 86 #[γ Ao X.length co,γ A1 1 c1]).run η W=.ok (γ A' (X.length+1) c') W'∧PR w lo At ct T Al cl L A' c' (X++[(A9,c9,F)]) W'∧σ lo W W':=by
 obtain⟨iR,hiR,hr0,BP,tP⟩:=a6 Gr;obtain⟨A',c',W2,bL,hR,hb,hg⟩:=h.r.push (P:=η) ((A9,c9,F):Rw D) (by rw[O7];exact hf) hd 86 86 iR _ Tryz.underlying86 hiR hr0 BP tP rfl (by decide) hn h.ow.hi A1 c1 hr
 have hk:∀{v:ψ} {n:Nat} {xs:List ψ},W.ownsRow lo 32 3 v n xs→W2.ownsRow lo 32 3 v n xs:=fun {v n xs} ho=>ho.kept hg (by
  cases hv:v.ownBlock with
  |none=>exact .inl rfl
  |some g=>exact .inr fun q=>rY h.r.row ho (by decide) q.symm hv)
 have gi:∀k,(Ο Ao X.length co).ownBlock=ζ k→lo≤k:=fun k hk=>(h.r.row.lt k hk).1
 refine⟨A',c',W2,bL,⟨⟨hk h.ow.own,h.ow.below.grown hg h.ow.below.size (fun k e=>Λ h.ow.lo (gi k e)),h.ow.lo,Λ h.ow.hi hg.size⟩,hk h.l,?_,h.nl,fun x hx=>?_⟩,hb⟩
 ·rw[Ε];exact hR
 ·rcases Jan.1 hx with hx|hx
  ·exact h.nx x hx
  ·obtain rfl:=Jao.1 hx;exact ht
theorem PR.tell (h:PR w lo At ct T Al cl L Ao co X W) {A9:Option Κ} {c9:Nat} {F:List D} (hx:(A9,c9,F)∈X) (hn:T.length+F.length≤1000000):
 ∃A' c' W',(JaY #[57,57] 57 #[γ At T.length ct,γ A9 F.length c9]).run η W=.ok (.slice A' (T++F).length c') W'∧PR w lo A' c' (T++F) Al cl L Ao co X W'∧σ lo W W':=by
 obtain⟨i0,EV,nz,j7,kZ⟩:=a6 nu
 have hr:aS W W.heap.size 3 A9 F.length c9 (aA F):=by
  have:=bk (h.r.one _ hx)
  rw[O7] at this;exact this
 obtain⟨v,W2,bL,fu,hb,hg,ho⟩:=Ow.app2 (P:=η) 57 57 32 i0 _ 3 24 lo Tryz.underlying57 EV nz j7 kZ rfl (by decide) _ T.length _ h.ow _ A9 F.length c9 (aA F) hr (dW F) (by unfold maxLen;omega) (by omega);rw[←fa,←Ε] at fu;obtain⟨A',c',rfl,-⟩:=fu.rds
 have sw:∀{u:ψ} {n:Nat} {xs:List ψ},W.ownsRow lo 32 3 u n xs→(∀g,u.ownBlock=ζ g→(Ο At T.length ct).ownBlock≠ζ g)→∀g,u.ownBlock=ζ g→(Ο A' (T++F).length c').ownBlock≠ζ g:=fun {u n xs} hu bQ g lF q=>by
  rcases ho with e|e
  ·exact bQ g lF (e▸q)
  ·rw[e] at q
   have:=(hu.lt g lF).2
   have:=Μ q
   omega
 refine⟨A',c',W2,bL,⟨fu,h.l.kept hg ?_,h.r.far hg (fun g e q=>rY h.r.row h.ow.own (by decide) q e) (fun x hx g e q=>h.nx x hx g q e),sw h.l h.nl,fun x hx=>sw (h.r.one x hx) (h.nx x hx)⟩,hb⟩
 cases hv:(Ο Al L.length cl).ownBlock with
 |none=>exact .inl rfl
 |some g=>exact .inr fun q=>h.nl g hv q.symm
end
structure NH (lo:Nat) (A9:Option Κ) (c9:Nat) (F:List D) (W:ο):Prop where
 own:W.ownsRow lo 32 3 (γ A9 F.length c9) F.length (aA F)
theorem NH.bl {lo:Nat} {A9:Option Κ} {c9:Nat} {F:List D} {W W':ο} (h:NH lo A9 c9 F W) (hb:σ W.heap.size W W'):NH lo A9 c9 F W':=⟨bF h.own hb⟩
structure aah (n:Nat) (Vs:List VC):Prop where
 n:n≤1000000
 r:∀x∈Vs,x.2.1.2.1≤1000000
 s:∀v∈Vs,∀d∈v.2.1.2.2.2,wfS d
 k:∀S,KP (Ba Vs) S→S.length≤1000000
 l:(dsV Vs).length≤1000000
theorem aV.pre {A:Option Κ} {n c:Nat} {Vs:List VC} {B:Option Κ} {m k:Nat} {Es:List EC} {w:ο} (hf:aV Vs Es) (h:aO w A n c Vs B m k Es) (hg:rO Vs Es):aah n Vs:=by
 have h8:=hf.l80;obtain⟨h1,h2,h3⟩:=hf.small h;exact⟨by omega,fun x hx=>by have:=h3 x hx;omega,fun v hv d hd=>hf.wfS hg (fk.2 ⟨v,hv,hd⟩),fun S hS=>by have:=hS.formed hf hg;omega,by rw[QJ];omega⟩
def NQ (v:VC):Bool:=decide (v.2.1.2.2.2=[])
theorem CP {Vs:List VC} {j:Nat} {v:VC} (h:Vs[j]? =ζ v):((Vs.take (j+1)).filter NQ).length=((Vs.take j).filter NQ).length+if NQ v then 1 else 0:=by
 rw[Jbc,h,List.filter_append,Ε];congr 1;simp only[Option.toList_some,List.filter_cons,List.filter_nil];split<;>rfl
theorem JU (Vs:List VC):kN Vs≤Vs.length:=List.length_filter_le _ _
theorem NP {v:VC} {rn:Nat} (h:v.2.1.2.2.2.length=rn):((rn:Int)==0)=NQ v:=by
 unfold NQ;cases hR:v.2.1.2.2.2 with
 |nil=>rw[hR] at h;subst h;rfl
 |cons a r=>
  rw[hR,JaH] at h;subst h;simp;omega
def yp (Vs:List VC) (Es:List EC):Int:=(2*((mN (fP Vs):Nat):Int) - Vs.length+Es.length - ((nN Vs Es+kN Vs:Nat):Int)).tdiv 2
section
variable {A:Option Κ} {n c:Nat} {Vs:List VC} {B:Option Κ} {m k:Nat} {Es:List EC}
theorem xd (hf:aV Vs Es):nN Vs Es≤80:=by
 obtain⟨P,hP,e⟩:=sJ hf;rw[e];have h1:=FC hP.nd hP.sub
 have:=hf.l80
 omega
theorem Eg {w:ο} (h:aO w A n c Vs B m k Es):Vs.length=n∧Es.length=m:=⟨h.v.rlen aN (by decide),h.e.rlen cM (by decide)⟩
theorem uV (hf:aV Vs Es):mN (fP Vs)≤24:=by
 have:=Qs Vs
 have:=hf.v24
 omega
theorem M4 {w:ο} (h:aO w A n c Vs B m k Es):(2*((mN (fP Vs):Nat):Int) - (n:Int)+(m:Int) - ((nN Vs Es+kN Vs:Nat):Int)).tdiv 2=yp Vs Es:=by
 obtain⟨h1,h2⟩:=Eg h;rw[yp,h1,h2]
end
theorem rZ {w:ο} {B s n c:Nat} {A:Option Κ} {xs:List ψ} (h:aS w B s A n c xs) {p:Κ} {v:ψ} (hp:w.cell? p=ζ v) (hv:¬v∈xs) (u:ψ):aS (w.setCell p u) B s A n c xs:=
 ⟨h.len,h.none_,h.le,h.low,fun a ha j z hz=>by
  have h1:=h.cell a ha j z hz
  by_cases e:p=a.add j
  ·rw[←e,hp] at h1;obtain rfl:=Μ h1;exact absurd (ω hz) hv
  ·rw[World.cell?_setCell_other _ _ _ _ e];exact h1⟩
theorem size_setCell (w:ο) (p:Κ) (u:ψ):(w.setCell p u).heap.size=w.heap.size:=by simp
theorem xj {α:Type} {f:α→List ψ}:∀{L:List α} {v:ψ},v∈ao f L→∃x∈L,v∈f x:=by
 intro L
 induction L with
 |nil=>intro v h;cases h
 |cons a r ih=>
  intro v h;rcases Jan.1 (show v∈f a++ao f r from h) with h|h
  ·exact⟨a,Jai ..,h⟩
  ·obtain⟨x,hx,h2⟩:=ih h;exact⟨x,Jad _ hx,h2⟩
theorem qB {Es:List EC} {A:Option Κ} {n c:Nat}:¬Ο A n c∈ao eC Es:=fun h=>by
 obtain⟨x,_,hx⟩:=xj h;simp[eC] at hx
theorem Cx {L:List D} {A:Option Κ} {n c:Nat}:¬Ο A n c∈aA L:=fun h=>by
 rw[lI] at h;obtain⟨x,_,hx⟩:=xj h;simp[dC] at hx
structure Wr (W:ο) (lo:Nat) (A:Option Κ) (n c:Nat) (Us:List VC) (B:Option Κ) (m k:Nat) (Es:List EC):Prop where
 v:W.ownsRow lo 59 5 (γ A n c) n (ao vC Us)
 e:aS W W.heap.size 4 B m k (ao eC Es)
 r:∀x∈Us,RgOk W x.2.1
section
variable {W W':ο} {lo:Nat} {A:Option Κ} {n c:Nat} {Us:List VC} {B:Option Κ} {m k:Nat} {Es:List EC}
theorem Cl.wr (h:Cl W lo A n c Us B m k Es):Wr W lo A n c Us B m k Es:=⟨h.v,h.dg.e,h.dg.r⟩
theorem Wr.dg (h:Wr W lo A n c Us B m k Es):aO W A n c Us B m k Es:=⟨bk h.v,h.e,h.r⟩
theorem Wr.bl (h:Wr W lo A n c Us B m k Es) (hb:σ W.heap.size W W'):Wr W' lo A n c Us B m k Es:=⟨bF h.v hb,h.e.bl hb,fun x hx=>(h.r x hx).bl hb⟩
theorem Wr.al (h:Wr W lo A n c Us B m k Es) (o:Obj):Wr (W.alloc o) lo A n c Us B m k Es:=h.bl (ax W o)
theorem Wr.dr (h:Wr W lo A n c Us B m k Es):Wr W.drew lo A n c Us B m k Es:=h.bl ((Θ _ _).drew)
theorem uu {g i:Nat} {R:Rg} (h:RgOk W R) {A1:Option Κ} {n1 c1:Nat} (hp:W.cell? ⟨g,i,ε⟩=ζ (γ A1 n1 c1)) (u:ψ):RgOk (W.setCell ⟨g,i,ε⟩ u) R:=
 ⟨h.1,by rw[size_setCell];exact rZ h.2 hp Cx u⟩
theorem Wr.far (h:Wr W lo A n c Us B m k Es) {g i:Nat} {A1:Option Κ} {n1 c1:Nat} (hp:W.cell? ⟨g,i,ε⟩=ζ (γ A1 n1 c1)) (hg:∀a,A=ζ a→g≠a.block) (u:ψ):Wr (W.setCell ⟨g,i,ε⟩ u) lo A n c Us B m k Es:=
 ⟨aI h.v (fun e=>by
  cases A with
  |none=>cases e
  |some a=>
   exact hg a rfl (Μ e)) u,by rw[size_setCell];exact rZ h.e hp qB u,fun x hx=>uu (h.r x hx) hp u⟩
theorem Wr.put (h:Wr W lo A n c Us B m k Es) {j:Nat} {x:VC} (hx:Us[j]? =ζ x) (hj:j<n) (R:Rg) (hR:RgOk W R):
 ∃g,A=ζ ⟨g,0,ε⟩∧lo≤g∧(∃cs,Whole W g 59 cs)∧W.cell? ⟨g,j*5+2,ε⟩=ζ (γ x.2.1.1 x.2.1.2.1 x.2.1.2.2.1)∧W.frozen? ⟨g,j*5+2,ε⟩=ρ∧
  Wr (W.setCell ⟨g,j*5+2,ε⟩ (γ R.1 R.2.1 R.2.2.1)) lo A n c (Us.set j (x.1,R,x.2.2)) B m k Es:=by
 obtain⟨g,junk,e,gi,hw,hc,hf,ho⟩:=jI (i:=2) (y:=(x.1,R,x.2.2)) (u:=γ R.1 R.2.1 R.2.2.1) aN h.v hx hj (by omega) rfl;have wy:W.cell? ⟨g,j*5+2,ε⟩=ζ (γ x.2.1.1 x.2.1.2.1 x.2.1.2.2.1):=hc.trans rfl
 refine⟨g,e,gi,⟨_,hw⟩,wy,hf,ho,by rw[size_setCell];exact rZ h.e wy qB _,fun y hy=>uu ?_ wy _⟩
 rcases List.mem_or_eq_of_mem_set hy with hy|rfl
 ·exact h.r y hy
 ·exact hR
end
end Go.Proofs.YtpdpbfmiahjiiaaGreat
