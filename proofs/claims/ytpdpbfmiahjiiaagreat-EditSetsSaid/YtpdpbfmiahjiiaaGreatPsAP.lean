/- Several texts in one. -/
import Derived.Test.YtpdpbfmiahjiiaaGreatPsAA
import Derived.Test.YtpdpbfmiahjiiaaGreatPsAB
import Derived.Test.YtpdpbfmiahjiiaaGreatPsAH
import Derived.Test.YtpdpbfmiahjiiaaGreatPsAI
import Derived.Test.YtpdpbfmiahjiiaaGreatPsAK
import Derived.Test.YtpdpbfmiahjiiaaGreatPsAO
import Derived.Laws.MakeOwn
import Derived.Laws.Strings
import Derived.Lib.SliceRun
import Derived.LoopTactic
set_option linter.unusedSectionVars false
set_option linter.unusedSimpArgs false
set_option linter.unusedVariables false
set_option maxRecDepth 100000
set_option maxHeartbeats 16000000
namespace Go.Proofs.YtpdpbfmiahjiiaaGreat
open Go.RowKit
open _root_.Go.Value renaming slice→γ,pointer→υ,agg→φ
open _root_.Go.Obj renaming cells→δ
open _root_.Option renaming none→ε,some→ζ
open _root_.Go.Proofs.Tryz renaming prog→η
open _root_.List renaming getElem?_eq_getElem→θ,mem_of_getElem?→ω,mem_map→Α,take_of_length_le→Ι,length_map→Ρ,map_congr_left→JaV,map_map→JaW,pairwise_map→Jbg
open _root_.Go.Act renaming put→ξ
open _root_.Go renaming World→ο,Value→ψ,Calls→Ζ,Addr→Κ,wp_region_lit→Jam,maxLen→Jap
open _root_.Bool renaming false→ρ,true→τ,and_eq_true→Jar
open _root_.Go.RowKit renaming Below→σ
open _root_.Nat renaming le_trans→Λ,zero_le→Jas
open _root_.Option.some renaming inj→Μ
open _root_.Go.Addr renaming add_lit→Ν
open _root_.ByteArray renaming empty→Jaf
theorem mayO_rest (o:dR) (h1:dK o.s o.n=τ):iu o=if restO o=zeroO then(if lO o=τ then(if cQ o.t=τ then 0 else 4) else 1) else 1:=by
 have key:(lO o=τ∧o=oh o)↔(restO o=zeroO∧lO o=τ):=by
  obtain⟨k,s,n,s1,n1,s2,n2,a0,a1,a2,a3,a4,b0,b1,b2,b3,b4,e,t,m⟩:=o;unfold oh restO zeroO
  by_cases k3:k=3
  ·subst k3;simp;constructor
   ·rintro⟨h,h2⟩;simp_all
   ·rintro⟨h,h2⟩;simp_all
  by_cases k5:k=5
  ·subst k5;simp;constructor
   ·rintro⟨h,h2⟩;simp_all
   ·rintro⟨h,h2⟩;simp_all
  by_cases k6:k=6
  ·subst k6;simp;constructor
   ·rintro⟨h,h2⟩;simp_all
   ·rintro⟨h,h2⟩;simp_all
  by_cases k7:k=7
  ·subst k7;simp;constructor
   ·rintro⟨h,h2⟩;simp_all
   ·rintro⟨h,h2⟩;simp_all
  by_cases k8:k=8
  ·subst k8;simp;constructor
   ·rintro⟨h,h2⟩;simp_all
   ·rintro⟨h,h2⟩;simp_all
  simp only[k3,k5,k6,k7,k8,if_false];simp;constructor
  ·rintro⟨h,h2⟩;simp_all
  ·rintro⟨h,h2⟩;simp_all
 unfold iu
 by_cases hz:restO o=zeroO
 ·rw[if_pos hz]
  by_cases hf:lO o=τ
  ·rw[if_pos hf,if_pos ⟨h1,key.2 ⟨hz,hf⟩⟩]
  ·rw[if_neg hf,if_neg (fun h=>hf h.2.1)]
 ·rw[if_neg hz,if_neg (fun h=>hz (key.1 h.2).1)]
theorem mayL_empty:cQ ⟨#[]⟩=τ:=by decide
theorem rmayop_any (o:dR) (ht:o.t.size≤Jap):Pure 45 #[φ (ak o).toArray] (J (iu o)):=fun w=>by
 have fin:∀{b:Int},(Ζ η 45 #[φ (ak o).toArray] w fun e w'=>e=.returned (J b)∧σ w.heap.size w w')→iu o=b→Ζ η 45 #[φ (ak o).toArray] w fun e w'=>e=.returned (J (iu o))∧σ w.heap.size w w':=fun h e=>e▸h
 by_cases h0:o.k<1
 ·refine fin (rm_lo o (decide_eq_true h0) w) ?_;unfold iu lO;rw[if_neg];rintro⟨-,h,-⟩;rw[if_neg (by omega),if_neg (by omega),if_neg (by omega),if_neg (by omega),if_neg (by omega)] at h;cases h
 by_cases h9:8<o.k
 ·refine fin (rm_hi o (decide_eq_false h0) (decide_eq_true h9) w) ?_;unfold iu lO;rw[if_neg];rintro⟨-,h,-⟩;rw[if_neg (by omega),if_neg (by omega),if_neg (by omega),if_neg (by omega),if_neg (by omega)] at h;cases h
 by_cases h1:dK o.s o.n=τ
 case neg=>
  refine fin (rm_id o (decide_eq_false h0) (decide_eq_false h9) (by simpa using h1) w) ?_;unfold iu;rw[if_neg (fun h=>h1 h.1)]
 have hm:=mayO_rest o h1
 by_cases h2:restO o=zeroO
 case neg=>
  refine fin (rm_rest o (decide_eq_false h0) (decide_eq_false h9) h1 h2 w) ?_;rw[hm,if_neg h2]
 rw[if_pos h2] at hm
 have ht0:o.k≠7→o.t=⟨#[]⟩:=fun hk=>by
  have:=congrArg dR.t h2
  unfold restO at this
  repeat' split at this
  all_goals first|exact this|(exfalso;omega)
 by_cases k3:o.k=3
 ·have hf:lO o=(Jn o.a0 o.a1 o.a2 o.a3 o.a4 && Jn o.b0 o.b1 o.b2 o.b3 o.b4):=by
   unfold lO;rw[if_neg (by omega),if_pos k3]
  rw[hf,ht0 (by omega),mayL_empty] at hm
  by_cases h3:Jn o.a0 o.a1 o.a2 o.a3 o.a4=τ
  ·by_cases h4:Jn o.b0 o.b1 o.b2 o.b3 o.b4=τ
   ·exact fin (rm_3y o (decide_eq_false h0) (decide_eq_false h9) h1 h2 k3 h3 h4 w) (by rw[hm,h3,h4];rfl)
   ·have h4':Jn o.b0 o.b1 o.b2 o.b3 o.b4=ρ:=by simpa using h4
    exact fin (rm_3m o (decide_eq_false h0) (decide_eq_false h9) h1 h2 k3 h3 h4' w) (by rw[hm,h3,h4'];rfl)
  ·have h3':Jn o.a0 o.a1 o.a2 o.a3 o.a4=ρ:=by simpa using h3
   exact fin (rm_3n o (decide_eq_false h0) (decide_eq_false h9) h1 h2 k3 h3' w) (by rw[hm,h3'];rfl)
 by_cases k5:o.k=5
 ·have hf:lO o=(dK o.s1 o.n1 && dK o.s2 o.n2 && decide (0≤o.m∧o.m≤3)):=by
   unfold lO;rw[if_neg (by omega),if_neg k3,if_pos k5]
  rw[hf,ht0 (by omega),mayL_empty] at hm
  by_cases h3:dK o.s1 o.n1=τ
  case neg=>
   have h3':dK o.s1 o.n1=ρ:=by simpa using h3
   exact fin (rm_5a o (decide_eq_false h0) (decide_eq_false h9) h1 h2 k5 h3' w) (by rw[hm,h3'];rfl)
  by_cases h4:dK o.s2 o.n2=τ
  case neg=>
   have h4':dK o.s2 o.n2=ρ:=by simpa using h4
   exact fin (rm_5b o (decide_eq_false h0) (decide_eq_false h9) h1 h2 k5 h3 h4' w) (by rw[hm,h3,h4'];rfl)
  by_cases h5:o.m<0
  ·exact fin (rm_5c o (decide_eq_false h0) (decide_eq_false h9) h1 h2 k5 h3 h4 (decide_eq_true h5) w) (by rw[hm,h3,h4,decide_eq_false (by omega)];rfl)
  by_cases h6:3<o.m
  ·exact fin (rm_5d o (decide_eq_false h0) (decide_eq_false h9) h1 h2 k5 h3 h4 (decide_eq_false h5) (decide_eq_true h6) w) (by rw[hm,h3,h4,decide_eq_false (by omega)];rfl)
  ·exact fin (rm_5y o (decide_eq_false h0) (decide_eq_false h9) h1 h2 k5 h3 h4 (decide_eq_false h5) (decide_eq_false h6) w) (by rw[hm,h3,h4,decide_eq_true (by omega)];rfl)
 by_cases k6:o.k=6
 ·have hf:lO o=dK o.s2 o.n2:=by
   unfold lO;rw[if_neg (by omega),if_neg k3,if_neg k5,if_pos k6]
  rw[hf,ht0 (by omega),mayL_empty] at hm
  by_cases h3:dK o.s2 o.n2=τ
  ·exact fin (rm_6y o (decide_eq_false h0) (decide_eq_false h9) h1 h2 k6 h3 w) (by rw[hm,h3];rfl)
  ·have h3':dK o.s2 o.n2=ρ:=by simpa using h3
   exact fin (rm_6n o (decide_eq_false h0) (decide_eq_false h9) h1 h2 k6 h3' w) (by rw[hm,h3'];rfl)
 by_cases k8:o.k=8
 ·have hf:lO o=Hi o.m:=by
   unfold lO;rw[if_neg (by omega),if_neg k3,if_neg k5,if_neg k6,if_pos k8]
  rw[hf,ht0 (by omega),mayL_empty] at hm
  by_cases h3:Hi o.m=τ
  ·exact fin (rm_8y o (decide_eq_false h0) (decide_eq_false h9) h1 h2 k8 h3 w) (by rw[hm,h3];rfl)
  ·have h3':Hi o.m=ρ:=by simpa using h3
   exact fin (rm_8n o (decide_eq_false h0) (decide_eq_false h9) h1 h2 k8 h3' w) (by rw[hm,h3'];rfl)
 have hf:lO o=τ:=by
  unfold lO;rw[if_pos (by omega)]
 rw[hf,if_pos rfl] at hm
 by_cases k7:o.k=7
 ·by_cases h3:cQ o.t=τ
  ·exact fin (rm_7y o (decide_eq_false h0) (decide_eq_false h9) h1 h2 k7 (qh ht) h3 w) (by rw[hm,h3];rfl)
  ·have h3':cQ o.t=ρ:=by simpa using h3
   exact fin (rm_7n o (decide_eq_false h0) (decide_eq_false h9) h1 h2 k7 (qh ht) h3' w) (by rw[hm,h3'];rfl)
 ·rw[ht0 k7,mayL_empty] at hm;exact fin (rm_0y o (decide_eq_false h0) (decide_eq_false h9) h1 h2 (by simpa using k3) (by simpa using k5) (by simpa using k6) (by simpa using k7) (by simpa using k8) w) (by rw[hm];rfl)
theorem wV {α:Type} (l:List α) (k:Nat) (x:α) (h:l[k]? =ζ x):l.take (k+1)=l.take k++[x]:=by
 rw[List.take_add_one,h];rfl
theorem Bj (w:ο) (B size:Nat):bg w B size ε 0 0 []:=⟨by simp,fun _=>⟨rfl,rfl⟩,Nat.le_refl _,fun a ha=>(by cases ha),fun a ha=>(by cases ha)⟩
def fY:List dR→Int
 |[]=>0
 |o::l=>if iu o=0 then fY l else iu o
def pB (L:List dR):Int:=if L.length<1∨6<L.length then 3 else fY L
theorem yw (l m:List dR):fY (l++m)=if fY l=0 then fY m else fY l:=by
 induction l with
 |nil=>simp[fY]
 |cons o l ih=>
  simp only[List.cons_append,fY]
  by_cases h:iu o=0
  ·simp[h,ih]
  ·simp[h]
theorem FO (L:List dR) (k:Nat) (o:dR) (h:L[k]? =ζ o) (h0:fY (L.take k)=0) (ho:iu o=0):fY (L.take (k+1))=0:=by
 rw[wV L k o h,yw,if_pos h0];simp[fY,ho]
theorem E0 (L:List dR) (k:Nat) (o:dR) (h:L[k]? =ζ o) (h0:fY (L.take k)=0) (ho:iu o≠0):fY L=iu o:=by
 have e:L=L.take (k+1)++L.drop (k+1):=(List.take_append_drop _ _).symm;rw[e,wV L k o h,List.append_assoc,yw,if_pos h0];simp[fY,ho]
theorem eB (o:dR):(ak o).length=20:=rfl
theorem uw (o:dR):(ak o).toArray.all (·.oneCell')=τ:=by simp[ak,Value.oneCell']
def Zm (L:List dR) (W1:ο) (k:Nat) (wr:ο):Prop:=Ext W1 wr∧fY (L.take k)=0
theorem Cp (A:Option Κ) (n c:Nat) (L:List dR) (w:ο) (h:bg w w.heap.size 20 A n c (ah ak L)) (hn:n≤Jap):
 Ζ η 54 #[φ #[γ A n c]] w fun e w'=>e=.returned (J (pB L))∧σ w.heap.size w w':=by
 have hl:=h.rlen eB (by decide);unfold Jap at hn
 by_cases h1:n<1
 ·have hm:pB L=3:=by unfold pB;rw[if_pos (by omega)]
  rw[hm];have q1:decide ((n:Int)<1)=τ:=decide_eq_true (by omega);clear hm hl h1;go_enter Tryz.func54,Tryz.ntmps54;go_wp2;go_ret;exact⟨rfl,az _ _⟩
 have q1:decide ((n:Int)<1)=ρ:=decide_eq_false (by omega)
 by_cases h6:6<n
 ·have hm:pB L=3:=by unfold pB;rw[if_pos (by omega)]
  rw[hm];have q6:decide ((6:Int)<(n:Int))=τ:=decide_eq_true (by omega);clear hm hl h1;go_enter Tryz.func54,Tryz.ntmps54;go_wp2;go_ret;exact⟨rfl,az _ _⟩
 have q6:decide ((6:Int)<(n:Int))=ρ:=decide_eq_false (by omega);have hm:pB L=fY L:=by unfold pB;rw[if_neg (by omega)]
 have HM:=qh hm;have HR:=qh h;obtain rfl:=hl;clear hm h;go_enter Tryz.func54,Tryz.ntmps54;go_wp2;clear q1 q6;obtain⟨W1,aV⟩:=aB (w.alloc (δ #[γ A L.length c] 49));have HB:Hid (σ w.heap.size w W1):=qh (by rw[←aV];exact az _ _);have VP:Hid (bg W1 W1.heap.size 20 A L.length c (ah ak L)):=qh (by rw[←aV];exact HR.out.al _);have HE:Hid (Whole W1 w.heap.size 49 [γ A L.length c]):=qh (by rw[←aV];exact Whole.new_ w _ [_]);rw[aV];clear aV;obtain⟨g0,pE⟩:=aB w.heap.size;rw[pE] at HE ⊢;clear pE;go_loopw [19] (fun i wr=>∃k:Nat,k≤L.length∧i=J k∧Hid (Zm L W1 k wr)) (fun i _=>L.length - (intOf i).toNat)
 case atStart=>exact⟨0,Jas _,rfl,qh ⟨Ext.refl _,rfl⟩⟩
 case round=>
  rename_i wr _;obtain⟨k,hk,rfl,jm⟩:=hrel
  by_cases dz:k<L.length
  ·have BD:L[k]? =ζ (L[k]'(by omega)):=θ _;obtain⟨o,go⟩:=aB (L[k]'(by omega));rw[go] at BD;have HK:=qh BD;have aez:=qh (VP.out.bl jm.out.1);obtain⟨b,off,rfl,aY,a8⟩:=aez.out.place eB (by decide) (by omega);have HP:=qh (a8 k o BD);clear go BD a8 aY;obtain⟨x,gx⟩:=aB (iu o);have HC:=qh (yx o);rw[gx] at HC;have HX:=qh gx;clear gx;go_upto_region 5 with fail
   refine Jam ?_;refine a7 (v:=?_) (ζ 21) rfl (by rfl) ?_ ?_;rotate_left
   ·go_simp;(try with_reducible rfl)
   simp only[ξ,aw,ar,aq];refine wR (ζ 22) rfl (by rfl) 36 (.tmp 21) rfl ⟨b,off+k*20,ε⟩ rfl (ak o) _ HP.out Tryz.underlying36 rfl (by kernel_rfl) ?_;simp only[ξ,aw,ar,aq];refine Om 4 rfl rfl rfl 36 (.tmp 22) rfl rfl #[J 0,J 0,J 0,J 0,J 0,J 0,J 0,J 0,J 0,J 0,J 0,J 0,J 0,J 0,J 0,J 0,J 0,.bool ρ,.string ⟨#[]⟩,J 0] ?_ (ak o).toArray (by simp) rfl (by kernel_rfl) rfl (uw o) ?_
   ·go_simp;(try with_reducible rfl)
   simp only[ξ,aw,ar,aq];have aZ:Hid (Ext W1 (wr.alloc (δ (ak o).toArray 36))):=qh (jm.out.1.trans (az _ _));have HN:Hid (Whole (wr.alloc (δ (ak o).toArray 36)) wr.heap.size 36 (ak o)):=qh (Whole.new_ _ _ _);obtain⟨W2,eU⟩:=aB (wr.alloc (δ (ak o).toArray 36));obtain⟨g2,mA⟩:=aB wr.heap.size;rw[eU] at aZ HN ⊢;rw[mA] at HN ⊢;clear eU mA;go_upto_region 6 with fail
   refine Jam ?_;refine eJ (ζ 23) rfl (by rfl) 36 (.tmp 4) rfl g2 rfl 36 (ak o) _ HN.out Tryz.underlying36 rfl (by kernel_rfl) ?_;simp only[ξ,aw,ar,aq];go_wp2_with fail
   refine(HC.out _).mono ?_
   rintro e w3 ⟨rfl,bA⟩;have cF:=qh (aZ.out.trans bA);clear bA
   by_cases hx:x=0
   ·subst hx;have HI:Hid (Zm L W1 (k+1) w3):=qh ⟨cF.out,FO L k o HK.out jm.out.2 HX.out⟩;go_wp2;go_roundw
    case rel=>exact⟨k+1,by omega,by go_num,HI⟩
    case measure=>simp[intOf];omega
   ·have q:(x==0)=ρ:=by simpa using hx
    have q':(x !=0)=τ:=by simpa using hx
    have rK:Hid (fY L=x):=qh (by rw[E0 L k o HK.out jm.out.2 (by rw[HX.out];exact hx),HX.out]);clear hx;go_wp2;go_ret;exact⟨pY (by rw[HM.out,rK.out]),HB.out.trans (cF.out.mono HB.out.size)⟩
  ·have rK:Hid (fY L=0):=qh (by have:=jm.out.2;rwa [Ι (by omega)] at this);go_wp2;go_ret;exact⟨pY (by rw[HM.out,rK.out]),HB.out.trans (jm.out.1.mono HB.out.size)⟩
theorem rmayedit_any (A:Option Κ) (n c:Nat) (L:List dR) (w:ο) (h:bg w w.heap.size 20 A n c (ah ak L)) (hn:n≤Jap) (ht:∀o∈L,o.t.size≤Jap):
 Ζ η 39 #[φ #[γ A n c]] w fun e w'=>e=.returned (J (pB L))∧σ w.heap.size w w':=by
 have hl:=h.rlen eB (by decide);unfold Jap at hn;have HT:=qh ht;clear ht
 by_cases h1:n<1
 ·have hm:pB L=3:=by unfold pB;rw[if_pos (by omega)]
  rw[hm];have q1:decide ((n:Int)<1)=τ:=decide_eq_true (by omega);clear hm hl h1;go_enter Tryz.func39,Tryz.ntmps39;go_wp2;go_ret;exact⟨rfl,az _ _⟩
 have q1:decide ((n:Int)<1)=ρ:=decide_eq_false (by omega)
 by_cases h6:6<n
 ·have hm:pB L=3:=by unfold pB;rw[if_pos (by omega)]
  rw[hm];have q6:decide ((6:Int)<(n:Int))=τ:=decide_eq_true (by omega);clear hm hl h1;go_enter Tryz.func39,Tryz.ntmps39;go_wp2;go_ret;exact⟨rfl,az _ _⟩
 have q6:decide ((6:Int)<(n:Int))=ρ:=decide_eq_false (by omega);have hm:pB L=fY L:=by unfold pB;rw[if_neg (by omega)]
 have HM:=qh hm;have HR:=qh h;obtain rfl:=hl;clear hm h;go_enter Tryz.func39,Tryz.ntmps39;go_wp2;clear q1 q6;obtain⟨W1,aV⟩:=aB (w.alloc (δ #[γ A L.length c] 49));have HB:Hid (σ w.heap.size w W1):=qh (by rw[←aV];exact az _ _);have VP:Hid (bg W1 W1.heap.size 20 A L.length c (ah ak L)):=qh (by rw[←aV];exact HR.out.al _);have HE:Hid (Whole W1 w.heap.size 49 [γ A L.length c]):=qh (by rw[←aV];exact Whole.new_ w _ [_]);rw[aV];clear aV;obtain⟨g0,pE⟩:=aB w.heap.size;rw[pE] at HE ⊢;clear pE;go_loopw [3] (fun i wr=>∃k:Nat,k≤L.length∧i=J k∧Hid (Zm L W1 k wr)) (fun i _=>L.length - (intOf i).toNat)
 case atStart=>exact⟨0,Jas _,rfl,qh ⟨Ext.refl _,rfl⟩⟩
 case round=>
  rename_i wr _;obtain⟨k,hk,rfl,jm⟩:=hrel;have le:=(HE.out.bl jm.out.1).cell (i:=0) rfl
  by_cases dz:k<L.length
  ·have BD:L[k]? =ζ (L[k]'(by omega)):=θ _;obtain⟨o,go⟩:=aB (L[k]'(by omega));rw[go] at BD;have HK:=qh BD;have aez:=qh (VP.out.bl jm.out.1);obtain⟨b,off,rfl,aY,a8⟩:=aez.out.place eB (by decide) (by omega);have HP:=qh (a8 k o BD);clear go BD a8 aY;obtain⟨x,gx⟩:=aB (iu o);have HC:=qh (rmayop_any o (HT.out o (ω HK.out)));rw[gx] at HC;have HX:=qh gx;clear gx;go_upto_region 6 with fail
   refine Jam ?_;refine a7 (v:=?_) (ζ 22) rfl (by rfl) ?_ ?_;rotate_left
   ·go_simp;(try with_reducible rfl)
   simp only[ξ,aw,ar,aq];refine a7 (v:=?_) (ζ 23) rfl (by rfl) ?_ ?_;rotate_left
   ·go_simp;(try with_reducible rfl)
   simp only[ξ,aw,ar,aq];refine a7 (v:=?_) (ζ 24) rfl (by rfl) ?_ ?_;rotate_left
   ·go_simp;(try with_reducible rfl)
   simp only[ξ,aw,ar,aq];refine a7 (v:=?_) (ζ 25) rfl (by rfl) ?_ ?_;rotate_left
   ·go_simp;(try with_reducible rfl)
   simp only[ξ,aw,ar,aq];refine wR (ζ 26) rfl (by rfl) 36 (.tmp 25) rfl ⟨b,off+k*20,ε⟩ rfl (ak o) _ HP.out Tryz.underlying36 rfl (by kernel_rfl) ?_;simp only[ξ,aw,ar,aq];have aZ:=qh jm.out.1;go_wp2_with fail
   refine(HC.out _).mono ?_
   rintro e w3 ⟨rfl,bA⟩;have cF:=qh (aZ.out.trans bA);clear bA
   by_cases hx:x=0
   ·subst hx;have HI:Hid (Zm L W1 (k+1) w3):=qh ⟨cF.out,FO L k o HK.out jm.out.2 HX.out⟩;go_wp2;go_roundw
    case rel=>exact⟨k+1,by omega,by go_num,HI⟩
    case measure=>simp[intOf];omega
   ·have q:(x==0)=ρ:=by simpa using hx
    have q':(x !=0)=τ:=by simpa using hx
    have rK:Hid (fY L=x):=qh (by rw[E0 L k o HK.out jm.out.2 (by rw[HX.out];exact hx),HX.out]);clear hx;go_wp2;go_ret;exact⟨pY (by rw[HM.out,rK.out]),HB.out.trans (cF.out.mono HB.out.size)⟩
  ·have rK:Hid (fY L=0):=qh (by have:=jm.out.2;rwa [Ι (by omega)] at this);go_wp2;go_ret;exact⟨pY (by rw[HM.out,rK.out]),HB.out.trans (jm.out.1.mono HB.out.size)⟩
def bL (o:dR):Nm:=(o.s,o.n)
def rz (o:dR):Nm:=(o.s1,o.n1)
def cX (o:dR):Nm:=(o.s2,o.n2)
def uC (o:dR):Nm × D:=((o.a0,o.a1),(o.a2,o.a3,o.a4))
def jh (o:dR):Nm × D:=((o.b0,o.b1),(o.b2,o.b3,o.b4))
def fV (o:dR) (p:ByteArray × Int):ByteArray × Int:=if o.k=7 then(o.t,p.2) else(p.1,o.m)
def bQ (S:SS) (o:dR):SS × Int:=
 if o.k=1 then og S (bL o) else if o.k=2 then oc S (bL o) else if o.k=3 then fO eO S (bL o) (uC o) (jh o)
 else if o.k=4 then jK S (bL o) else if o.k=5 then dJ S (bL o) (rz o) (cX o) o.m else if o.k=6 then gU S (bL o) (cX o) else setS S (bL o) o.e (fV o)
def yi (S:SS) (o:dR):SS × Int:=if iu o=0 then bQ S o else(dv,iu o)
def jT (S:SS):List dR→SS × Int
 |[]=>(S,0)
 |o::L=>if (bQ S o).2=0 then jT (bQ S o).1 L else(dv,(bQ S o).2)
def la (S:SS) (L:List dR):SS × Int:=if pB L=0 then jT S L else(dv,pB L)
def tw (S:SS) (L:List dR):SS:=if (la S L).2=0 then(la S L).1 else S
theorem Eh (V:List VS) (x:Nm) (f:ByteArray × Int→ByteArray × Int):(lg V x f).map (·.1)=V.map (·.1):=by
 unfold lg;rw[JaW];refine JaV (fun v _=>?_)
 show(if v.1=x then(v.1,v.2.1,f v.2.2) else v).1=v.1
 split<;>rfl
theorem Cv (V:List VS) (x:Nm) (f:ByteArray × Int→ByteArray × Int):(lg V x f).map (·.2.1)=V.map (·.2.1):=by
 unfold lg;rw[JaW];refine JaV (fun v _=>?_)
 show(if v.1=x then(v.1,v.2.1,f v.2.2) else v).2.1=v.2.1
 split<;>rfl
theorem wy (E:List EC) (x:Nm) (f:ByteArray × Int→ByteArray × Int):(o6 E x f).map (·.1)=E.map (·.1):=by
 unfold o6;rw[JaW];refine JaV (fun v _=>?_)
 show(if v.1=x then(v.1,f v.2) else v).1=v.1
 split<;>rfl
theorem LO {V W:List VS} (e:W.map (·.2.1)=V.map (·.2.1)):W.flatMap (fun v=>v.2.1)=V.flatMap (fun v=>v.2.1)∧(∀d,bX W d=bX V d)∧∀v∈W,∃u∈V,u.2.1=v.2.1:=by
 refine⟨?_,fun d=>?_,fun v hv=>?_⟩
 ·rw[List.flatMap_def,List.flatMap_def,e]
 ·have k:∀U:List VS,bX U d=(U.map (·.2.1)).any (fun l=>decide (d∈l)):=fun U=>by unfold bX;rw[List.any_map];rfl
  rw[k,k,e]
 ·have:v.2.1∈V.map (·.2.1):=e▸Α.2 ⟨v,hv,rfl⟩
  obtain⟨u,hu,q⟩:=Α.1 this;exact⟨u,hu,q⟩
theorem JD {E F:List EC} (e:F.map (·.1)=E.map (·.1)) (x:Nm):bI F x=bI E x:=by
 have h:∀U:List EC,bI U x=(U.map (·.1)).any (fun k=>decide (k=x)):=fun U=>by
  unfold bI pf;rw[List.any_map];rfl
 rw[h,h,e]
theorem dx.setV {S:SS} (h:dx S) (x:Nm) (f:ByteArray × Int→ByteArray × Int):dx (lg S.1 x f,S.2):=by
 obtain⟨r1,r2,r3⟩:=LO (Cv S.1 x f)
 refine⟨mM h.vup (Eh _ _ _),h.eup,by show(List.flatMap _ _).Nodup;rw[r1];exact h.once,fun v hv=>?_,fun v hv d hd=>?_,fun e he=>?_⟩
 ·obtain⟨u,hu,q⟩:=r3 v hv;rw[←q];exact h.turned u hu
 ·obtain⟨u,hu,q⟩:=r3 v hv;exact h.known u hu d (q▸hd)
 ·show bX (lg S.1 x f) _=τ∧bX (lg S.1 x f) _=τ;rw[r2,r2];exact h.ends e he
theorem dx.setE {S:SS} (h:dx S) (x:Nm) (f:ByteArray × Int→ByteArray × Int):dx (S.1,o6 S.2.1 x f,S.2.2):=by
 have k:=wy S.2.1 x f
 refine⟨h.vup,?_,h.once,h.turned,fun v hv d hd=>?_,fun e he=>?_⟩
 ·have h1:(S.2.1.map (·.1)).Pairwise (fun a b=>dW a b<0):=Jbg.2 h.eup;rw[←k] at h1;exact Jbg.1 h1
 ·show bI (o6 S.2.1 x f) _=τ∧_;rw[JD k];exact h.known v hv d hd
 ·have:e.1∈S.2.1.map (·.1):=k▸Α.2 ⟨e,he,rfl⟩
  obtain⟨u,hu,q⟩:=Α.1 this;rw[←q];exact h.ends u hu
theorem ph:∀(G:List Gn) (g:Gn),cT G→(G.any fun y=>decide (y.1=g.1))=τ→(rq G g).length≤G.length
 |[],g,_,h=>by simp at h
 |y::G,g,hr,h=>by
  show(if cH y g<0 then y::rq G g else if cH y g=0 then g::G else g::y::G).length≤G.length+1
  split
  ·rename_i dz;have bj:¬y.1=g.1:=fun e=>by have:=(kL y g).2 e;omega
   have h2:(G.any fun y=>decide (y.1=g.1))=τ:=by
    rw[List.any_cons,decide_eq_false bj] at h;exact h
   have:=ph G g (qN hr) h2
   simp only[List.length_cons];omega
  ·split
   ·simp
   ·rename_i h1 h2;obtain⟨z,hz,e⟩:=List.any_eq_true.1 h;have h3:=lF G hr hz;have h4:cH y g=cH y z:=by unfold cH;rw[of_decide_eq_true e]
    omega
theorem EJ {G:List Gn} {x:Gn} (h:(G.any fun y=>decide (y.1=x.1))=ρ) (hn:¬G.length≥400):dP G x=rq G x:=by unfold dP;rw[h,if_neg (by simpa using hn)]
theorem Fz {G:List Gn} {x:Gn} (h:(G.any fun y=>decide (y.1=x.1))=ρ) (hn:G.length≥400):dP G x=G:=by unfold dP;rw[h,if_pos (by simpa using hn)]
theorem BN {G:List Gn} {x:Gn} (h:(G.any fun y=>decide (y.1=x.1))=τ) (hn:¬G.length - 1≥400):dP G x=rq G x:=by unfold dP;rw[h,if_neg (by simpa using hn)]
theorem mT (G:List Gn) (g:Gn) (h:G.length≤400) (hr:cT G):(dP G g).length≤400:=by
 cases ha:(G.any fun y=>decide (y.1=g.1)) with
 |true=>
  by_cases hq:G.length - 1≥400
  ·omega
  ·rw[BN ha hq];have h1:=ph G g hr ha;omega
 |false=>
  by_cases hq:G.length≥400
  ·rw[Fz ha hq];exact h
  ·rw[EJ ha hq]
   have:=BL G g
   omega
theorem fN {G:List Gn} (g:Gn) (h:cT G):cT (dP G g):=by
 have h1:=yY G g h;unfold dP;split<;>split<;>assumption
theorem jU {P:Nm→ByteArray × Int→Prop} {V:List VS} {x:Nm} {l:List D} (h:∀v∈V,P v.1 v.2.2):∀v∈dS V x l,P v.1 v.2.2:=fun v hv=>by
 rcases iA hv with⟨h1,h2⟩|⟨u,hu,h1,h2⟩
 ·exact h v h1
 ·rw[h2];exact h u hu
theorem fE (V:List VS) (x:Nm) (l:List D):(dS V x l).length=V.length:=by unfold dS;rw[Ρ]
theorem sB {α:Type} {k:α→Nm} (l:List α) (x:Nm):(CL k l x).length≤l.length:=List.length_filter_le _ _
theorem AP {o:dR} (h:iu o=0):dK o.s o.n=τ∧lO o=τ∧o=oh o∧cQ o.t=τ:=by
 unfold iu at h;split at h
 ·rename_i h1;split at h
  ·rename_i h2;exact⟨h1.1,h1.2.1,h1.2.2,h2⟩
  ·cases h
 ·cases h
theorem pg:cQ Jaf=τ:=by decide
theorem o4:eR 0=τ:=by decide
theorem vo {α:Type} {p:α→Bool} {l:List α} {a:α} (h:a∈l.filter p):a∈l:=(List.mem_filter.1 h).1
theorem gD.kind {S:SS} (h:gD S) {o:dR} (ho:iu o=0):gD (bQ S o).1:=by
 obtain⟨m1,m2,m3,m4⟩:=AP ho;unfold bQ;split
 ·unfold og;split
  ·exact dy
  ·rename_i hn;split
   ·exact dy
   ·have hn:=Bool.eq_false_iff.2 hn
    refine⟨h.fit.addV hn,by show(fx _ _).length≤24;unfold fx;rw[ll];omega,h.e40,h.g400,fun v hv=>?_,h.em,h.gr⟩
    rcases cy.1 hv with rfl|hv
    ·exact⟨m1,pg,o4⟩
    ·exact h.vm v hv
 split
 ·unfold oc;split
  ·exact dy
  ·rename_i hh;split
   ·exact dy
   ·rename_i hr;have hh:bu S.1 (bL o)=τ:=by simpa using hh
    obtain⟨u,hu,e⟩:=db.1 hh;have hr:eS S.1 (bL o)=[]:=by simpa using hr
    have e:u.1=bL o:=e;rw[←e,fI h.fit.rg.keys hu] at hr;rw[←e];exact⟨h.fit.remV hu hr,Λ (sB _ _) h.v24,h.e40,h.g400,fun v hv=>h.vm v (vo hv),h.em,h.gr⟩
 split
 ·unfold fO;split
  ·exact dy
  ·rename_i hE;split
   ·exact dy
   ·split
    ·exact dy
    ·rename_i hl s8;rw[not_or] at s8;have ha:bu S.1 (uC o).1=τ:=by simpa using s8.1
     have hb:bu S.1 (jh o).1=τ:=by simpa using s8.2
     have hE:bI S.2.1 (bL o)=ρ:=by simpa using hE
     obtain⟨b2,jc⟩:=aB ((if (jh o).2=bh (bL o) 0 then jh o else lz S.1 S.2.2 (jh o)));have aP:bu S.1 b2.1=τ:=by rw[←jc];split<;>exact hb
     dsimp only;rw[jc];split
     ·refine⟨h.fit.link hE (a:=lz S.1 S.2.2 (uC o)) ha aP _,by show(cO _ _ _).length≤24;unfold cO;rw[fE,fE];exact h.v24,by show(gH _ _).length≤40;unfold gH;rw[ll];omega,h.g400,?_,fun e he=>?_,h.gr⟩
      ·exact jU (P:=fun x t=>dK x.1 x.2=τ∧cQ t.1=τ∧eR t.2=τ) (jU (P:=fun x t=>dK x.1 x.2=τ∧cQ t.1=τ∧eR t.2=τ) h.vm)
      ·rcases cy.1 he with rfl|he
       ·exact⟨m1,pg,o4⟩
       ·exact h.em e he
     ·exact dy
 split
 ·unfold jK;split
  ·exact dy
  ·rename_i hE;have hE:bI S.2.1 (bL o)=τ:=by simpa using hE
   refine⟨h.fit.unlink hE _,by show(iU _ _).length≤24;unfold iU;rw[fE,fE];exact h.v24,Λ (sB _ _) h.e40,mT _ _ (mT _ _ h.g400 h.gr) (fN _ h.gr),?_,fun e he=>h.em e (vo he),fN _ (fN _ h.gr)⟩
   exact jU (P:=fun x t=>dK x.1 x.2=τ∧cQ t.1=τ∧eR t.2=τ) (jU (P:=fun x t=>dK x.1 x.2=τ∧cQ t.1=τ∧eR t.2=τ) h.vm)
 split
 ·rename_i k1 k2 k3 k4 k5;unfold dJ;split
  ·exact dy
  ·rename_i hE;split
   ·exact dy
   ·rename_i kZ;split
    ·exact dy
    ·rename_i hl;rw[not_or] at kZ hl;have hE:bI S.2.1 (bL o)=τ:=by simpa using hE
     have hn:bu S.1 (rz o)=ρ:=by simpa using kZ.1
     have hot:bI S.2.1 (cX o)=ρ:=by simpa using kZ.2
     have hf:dK o.s1 o.n1=τ∧dK o.s2 o.n2=τ∧0≤o.m∧o.m≤3:=by
      unfold lO at m2;rw[if_neg (by omega),if_neg k3,if_pos k5,Jar,Jar] at m2;exact⟨m2.1.1,m2.1.2,(of_decide_eq_true m2.2).1,(of_decide_eq_true m2.2).2⟩
     obtain⟨f1,f2,f3,f4⟩:=hf;have hs:(1:Int) - o.m.tmod 2=0∨1 - o.m.tmod 2=1:=by rw[Int.tmod_eq_emod_of_nonneg f3];omega
     have ht:o.m.tdiv 2=0∨o.m.tdiv 2=1:=by rw[Int.tdiv_eq_ediv_of_nonneg f3];omega
     refine⟨h.fit.split hE hn hot hs ht _,by show(fx _ _).length≤24;unfold fx dL;rw[ll,fE];omega,by show(gH _ _).length≤40;unfold gH;rw[ll];omega,h.g400,fun v hv=>?_,fun e he=>?_,h.gr⟩
     ·rcases cy.1 hv with rfl|hv
      ·exact⟨f1,pg,o4⟩
      ·exact jU (P:=fun x t=>dK x.1 x.2=τ∧cQ t.1=τ∧eR t.2=τ) h.vm v hv
     ·rcases cy.1 he with rfl|he
      ·exact⟨f2,pg,o4⟩
      ·exact h.em e he
 split
 ·unfold gU;split
  ·exact dy
  ·rename_i hh;have hh:bu S.1 (bL o)=τ:=by simpa using hh
   obtain⟨u,hu,e⟩:=db.1 hh;have e:u.1=bL o:=e;rw[←e,fI h.fit.rg.keys hu];split
   ·exact dy
   ·rename_i a b hm
    refine⟨h.fit.smooth hu hm _,by show(dL _ _ _).length≤24;unfold dL;rw[fE];exact Λ (sB _ _) h.v24,Λ (sB _ _) h.e40,mT _ _ (mT _ _ h.g400 h.gr) (fN _ h.gr),?_,fun e he=>h.em e (vo he),fN _ (fN _ h.gr)⟩
    exact jU (P:=fun x t=>dK x.1 x.2=τ∧cQ t.1=τ∧eR t.2=τ) (fun v hv=>h.vm v (vo hv))
 ·rename_i k1 k2 k3 k4 k5 k6
  have hp:∀p:ByteArray × Int,cQ p.1=τ∧eR p.2=τ→cQ (fV o p).1=τ∧eR (fV o p).2=τ:=fun p hp=>by
   unfold fV;split
   ·exact⟨m4,hp.2⟩
   ·rename_i k7;unfold lO at m2;rw[if_neg (by omega),if_neg k3,if_neg k5,if_neg k6] at m2;split at m2
    ·exact⟨hp.1,m2⟩
    ·cases m2
  unfold setS;split
  ·split
   ·exact⟨dx.setE h.fit _ _,h.v24,by show(o6 _ _ _).length≤40;unfold o6;rw[Ρ];exact h.e40,h.g400,h.vm,fun e he=>by
     obtain⟨u,hu,rfl⟩:=Α.1 he;have hq:=h.em u hu
     by_cases q:u.1=bL o
     ·rw[if_pos q];exact⟨hq.1,hp u.2 hq.2⟩
     ·rw[if_neg q];exact hq,h.gr⟩
   ·exact dy
  ·split
   ·exact⟨dx.setV h.fit _ _,by show(lg _ _ _).length≤24;unfold lg;rw[Ρ];exact h.v24,h.e40,h.g400,fun v hv=>by
     obtain⟨u,hu,rfl⟩:=Α.1 hv;have hq:=h.vm u hu
     by_cases q:u.1=bL o
     ·rw[if_pos q];exact⟨hq.1,hp u.2.2 hq.2⟩
     ·rw[if_neg q];exact hq,h.em,h.gr⟩
   ·exact dy
theorem gD.one {S:SS} (h:gD S) (o:dR):gD (yi S o).1:=by
 unfold yi;split
 ·rename_i ho;exact h.kind ho
 ·exact dy
theorem cx (Vs:List VC) (x:Nm):pf (fun v:VC=>v.1) Vs x=bu (Vs.map vS) x:=by
 unfold bu pf;rw[List.any_map];rfl
theorem wG (v:VC):∀Vs:List VC,(kq (fun v:VC=>v.1) Vs v).map vS=fx (Vs.map vS) (vS v)
 |[]=>rfl
 |u::Vs=>by
  show(if dW v.1 u.1<0 then v::u::Vs else u::kq (fun v:VC=>v.1) Vs v).map vS=if dW v.1 u.1<0 then vS v::vS u::Vs.map vS else vS u::fx (Vs.map vS) (vS v)
  split
  ·rfl
  ·rw[List.map_cons,wG v Vs]
theorem G5 {Vs:List VC}:od (fun v:VS=>v.1) (Vs.map vS)↔od (fun v:VC=>v.1) Vs:=Jbg
theorem Cm {Vs:List VC} (hu:od (fun v:VS=>v.1) (Vs.map vS)) {i:Nat} {v:VC} (hv:Vs[i]? =ζ v):(Vs.eraseIdx i).map vS=dM (Vs.map vS) v.1:=by
 have h1:(Vs.map vS)[i]? =ζ (vS v):=by rw[List.getElem?_map,hv];rfl
 have h2:=sh (k:=fun v:VS=>v.1) hu h1;unfold dM;rw[show v.1=(vS v).1 from rfl,h2,List.eraseIdx_eq_take_drop_succ,List.map_append,List.map_take,List.map_drop]
theorem tg {Vs:List VC} (hk:(Vs.map (·.1)).Nodup) {i:Nat} {v:VC} (hv:Vs[i]? =ζ v):eS (Vs.map vS) v.1=v.2.1.2.2.2:=
 fI (V:=Vs.map vS) (u:=vS v) (by rw[iB];exact hk) (Α.2 ⟨v,ω hv,rfl⟩)
def cG (w W:ο) (lo g:Nat) (R:SS × Int) (e:Ending) (w':ο):Prop:=
 e=.returned (J R.2)∧σ w.heap.size w w'∧aJ g W w'∧(R.2=0→∃A n c Vs B m k Es C r rc G,bK w lo g A n c Vs B m k Es C r rc G w'∧(Vs.map vS,Es,G)=R.1)
theorem cG.no {w W w':ο} {lo g:Nat} {R:SS × Int} {e:Ending} {z:Int} (hR:R=(dv,z)) (hz:z≠0) (he:e=.returned (J z)) (hb:σ w.heap.size w w') (hk:aJ g W w'):cG w W lo g R e w':=by
 subst hR;exact⟨he,hb,hk,fun q=>absurd q hz⟩
theorem cG.yes {w W w':ο} {lo g:Nat} {R:SS × Int} {e:Ending} {S:SS} {A:Option Κ} {n c:Nat} {Vs:List VC} {B:Option Κ} {m k:Nat} {Es:List EC} {C:Option Κ} {r rc:Nat} {G:List Gn} (hR:R=(S,0)) (he:e=.returned (J 0)) (hk:aJ g W w') (h:bK w lo g A n c Vs B m k Es C r rc G w') (hS:(Vs.map vS,Es,G)=S):cG w W lo g R e w':=by
 subst hR;exact⟨he,h.below,hk,fun _=>⟨A,n,c,Vs,B,m,k,Es,C,r,rc,G,h,hS⟩⟩
theorem gD.n24 {A B C:Option Κ} {w W:ο} {lo g n c m k r rc:Nat} {Vs:List VC} {Es:List EC} {G:List Gn} (hS:gD (Vs.map vS,Es,G)) (h:bK w lo g A n c Vs B m k Es C r rc G W):n≤24∧m≤40∧r≤400∧∀x∈Vs,x.2.1.2.1≤80:=by
 have h1:=hS.v24;have h2:(Vs.map vS).length=n:=by rw[Ρ];exact h.vlen
 have h3:=hS.e40;have h4:=hS.g400
 refine⟨by rw[←h2];exact h1,by rw[←h.elen];exact h3,by rw[←h.glen];exact h4,fun x hx=>?_⟩
 have:=hS.short (vS x) (Α.2 ⟨x,hx,rfl⟩)
 have h5:x.2.1.2.2.2.length=x.2.1.2.1:=(h.rg x hx).2.1.dlen;rw[←h5];exact this
section
variable {w W:ο} {lo g:Nat} {A:Option Κ} {n c:Nat} {Vs:List VC} {B:Option Κ} {m k:Nat} {Es:List EC} {C:Option Κ} {r rc:Nat} {G:List Gn}
theorem JE (h:bK w lo g A n c Vs B m k Es C r rc G W) (hS:gD (Vs.map vS,Es,G)) (x1 x2:Int):Ζ η 90 #[υ (ζ ⟨g,0,ε⟩),φ #[J x1,J x2]] W (cG w W lo g (og (Vs.map vS,Es,G) (x1,x2))):=by
 obtain⟨hn,hm,hr,fy⟩:=hS.n24 h;have IH:(Vs.map (·.1)).Nodup:=iB Vs▸hS.fit.vup.nodup;have fp:=az W (δ #[J x1,J x2] 30);have HV:Hid (∀X,bK w lo g A n c Vs B m k Es C r rc G X→Ζ η 110 #[υ (ζ ⟨g,0,ε⟩),φ #[J x1,J x2]] X fun e w'=>e=.returned (J (dX (fun v:VC=>v.1) Vs (x1,x2)))∧σ X.heap.size X w'):=qh (fun X hX=>fB g A n c B m k C r rc x1 x2 Vs X hX.s (aK hX.v) (by omega));have H0:=qh (h.up fp);have HQ:=H0;have aQ:Hid (Whole (W.alloc (δ #[J x1,J x2] 30)) W.heap.size 30 [J x1,J x2]):=qh (Whole.new_ _ _ [_,_]);have yP:=qh (aJ.of_below (g:=g) fp);have tT:=qh hS;have O7:=aQ.out.cell (i:=0) rfl;have O1:=aQ.out.cell (i:=1) rfl;cases hh:bu (Vs.map vS) (x1,x2) with
 |true=>
  obtain⟨i,v,e1,e2,e3,e4⟩:=ck (k:=fun v:VC=>v.1) (l:=Vs) ((cx Vs (x1,x2)).trans hh);rw[e1] at HV;have HR:Hid (og (Vs.map vS,Es,G) (x1,x2)=(dv,12)):=qh (by unfold og;rw[if_pos hh]);clear h hS fy IH hh e1 e2 e3 fp;go_enter Tryz.func90,Tryz.ntmps90
  go_wp2_with (first
   |(go_at_call 110
     refine(HV.out _ HQ.out).mono ?_
     rintro e w2 ⟨rfl,aP⟩;have cY:=qh (H0.out.bl aP);have aZ:=qh (aQ.out.bl aP);have jG:=qh (yP.out.trans (aJ.of_below aP));have c0:=aZ.out.cell (i:=0) rfl;have c1:=aZ.out.cell (i:=1) rfl;have s0:=cY.out.s.cell (i:=0) rfl;clear aP H0 aQ yP O7 O1))
  go_ret;exact cG.no HR.out (by decide) rfl cY.out.below jG.out
 |false=>
  have e1:=dH (k:=fun v:VC=>v.1) (l:=Vs) ((cx Vs (x1,x2)).trans hh);rw[e1] at HV
  by_cases h24:n=24
  ·have HR:Hid (og (Vs.map vS,Es,G) (x1,x2)=(dv,3)):=qh (by unfold og;rw[if_neg (by rw[hh];decide),if_pos (by rw[Ρ,h.vlen];omega)]);have q1:(24:Int)≤(n:Int):=by omega
   have q2:24≤n:=by omega
   clear h hS fy IH hh e1 fp;go_enter Tryz.func90,Tryz.ntmps90
   go_wp2_with (first
    |(go_at_call 110
      refine(HV.out _ HQ.out).mono ?_
      rintro e w2 ⟨rfl,aP⟩;have cY:=qh (H0.out.bl aP);have aZ:=qh (aQ.out.bl aP);have jG:=qh (yP.out.trans (aJ.of_below aP));have c0:=aZ.out.cell (i:=0) rfl;have c1:=aZ.out.cell (i:=1) rfl;have s0:=cY.out.s.cell (i:=0) rfl;clear aP H0 aQ yP O7 O1))
   go_ret;exact cG.no HR.out (by decide) rfl cY.out.below jG.out
  ·have HR:Hid (og (Vs.map vS,Es,G) (x1,x2)=((fx (Vs.map vS) ((x1,x2),[],Jaf,0),Es,G),0)):=qh (by unfold og;rw[if_neg (by rw[hh];decide),if_neg (by rw[Ρ,h.vlen];omega)]);have q1:¬(24:Int)≤(n:Int):=by omega
   have q2:¬24≤n:=by omega
   have HU:=qh (G5.1 hS.fit.vup);have HNo:Hid (∀u∈Vs,¬u.1=(x1,x2)):=qh (gY.1 ((cx Vs (x1,x2)).trans hh));clear h hS fy IH hh e1 fp;go_enter Tryz.func90,Tryz.ntmps90
   go_wp2_with (first
    |(go_at_call 110
      refine(HV.out _ HQ.out).mono ?_
      rintro e w2 ⟨rfl,aP⟩;have cY:=qh (H0.out.bl aP);have aZ:=qh (aQ.out.bl aP);have jG:=qh (yP.out.trans (aJ.of_below aP));have c0:=aZ.out.cell (i:=0) rfl;have c1:=aZ.out.cell (i:=1) rfl;have s0:=cY.out.s.cell (i:=0) rfl;clear aP H0 aQ yP O7 O1)
    |(go_at_call 111
      refine(CU cY.out ((x1,x2),(ε,0,0,[]),⟨#[]⟩,0) (ko.nil_ _) (by omega) HU.out HNo.out).mono ?_
      rintro e w3 ⟨rfl,A3,c3,u6,Ec⟩;have gE:=qh u6;have BF:=qh (jG.out.trans Ec);clear u6 Ec cY jG aZ c0 c1 s0))
   go_ret;exact cG.yes HR.out rfl BF.out gE.out (by rw[wG];rfl)
theorem I7 (h:bK w lo g A n c Vs B m k Es C r rc G W) (hS:gD (Vs.map vS,Es,G)) (x1 x2:Int):Ζ η 91 #[υ (ζ ⟨g,0,ε⟩),φ #[J x1,J x2]] W (cG w W lo g (oc (Vs.map vS,Es,G) (x1,x2))):=by
 obtain⟨hn,hm,hr,fy⟩:=hS.n24 h;have IH:(Vs.map (·.1)).Nodup:=iB Vs▸hS.fit.vup.nodup;have fp:=az W (δ #[J x1,J x2] 30);have HV:Hid (∀X,bK w lo g A n c Vs B m k Es C r rc G X→Ζ η 110 #[υ (ζ ⟨g,0,ε⟩),φ #[J x1,J x2]] X fun e w'=>e=.returned (J (dX (fun v:VC=>v.1) Vs (x1,x2)))∧σ X.heap.size X w'):=qh (fun X hX=>fB g A n c B m k C r rc x1 x2 Vs X hX.s (aK hX.v) (by omega));have H0:=qh (h.up fp);have HQ:=H0;have aQ:Hid (Whole (W.alloc (δ #[J x1,J x2] 30)) W.heap.size 30 [J x1,J x2]):=qh (Whole.new_ _ _ [_,_]);have yP:=qh (aJ.of_below (g:=g) fp);have tT:=qh hS;have O7:=aQ.out.cell (i:=0) rfl;have O1:=aQ.out.cell (i:=1) rfl;cases hh:bu (Vs.map vS) (x1,x2) with
 |false=>
  have e1:=dH (k:=fun v:VC=>v.1) (l:=Vs) ((cx Vs (x1,x2)).trans hh);rw[e1] at HV;have HR:Hid (oc (Vs.map vS,Es,G) (x1,x2)=(dv,13)):=qh (by unfold oc;rw[if_pos hh]);clear h hS fy IH hh e1 fp;go_enter Tryz.func91,Tryz.ntmps91
  go_wp2_with (first
   |(go_at_call 110
     refine(HV.out _ HQ.out).mono ?_
     rintro e w2 ⟨rfl,aP⟩;have cY:=qh (H0.out.bl aP);have aZ:=qh (aQ.out.bl aP);have jG:=qh (yP.out.trans (aJ.of_below aP));have c0:=aZ.out.cell (i:=0) rfl;have c1:=aZ.out.cell (i:=1) rfl;have s0:=cY.out.s.cell (i:=0) rfl;clear aP H0 aQ yP O7 O1))
  go_ret;exact cG.no HR.out (by decide) rfl cY.out.below jG.out
 |true=>
  obtain⟨i,v,e1,e2,e3,e4⟩:=ck (k:=fun v:VC=>v.1) (l:=Vs) ((cx Vs (x1,x2)).trans hh);rw[e1] at HV;have hi:i<n:=by rw[←h.vlen];exact e4
  have ec:=tg IH e2;have e3:v.1=(x1,x2):=e3;rw[e3] at ec;have qx:v.2.1.2.2.2.length=v.2.1.2.1:=(h.rg v (ω e2)).2.1.dlen;have FX:=fy v (ω e2);have OQ:=qh ((Cm hS.fit.vup e2).trans (by rw[e3]));have dQ:=qh e2;have Uz:Hid (i<n):=qh hi;obtain⟨⟨i1,i2⟩,⟨rA,rn,jg,rL⟩,lb,at_⟩:=v;have qx:rL.length=rn:=qx;have FX:rn≤80:=FX;have ec:eS (Vs.map vS) (x1,x2)=rL:=ec;have hiI:(i:Int)<(n:Int):=by omega
  by_cases h0:rn=0
  ·have kE:rL=[]:=List.eq_nil_of_length_eq_zero (by omega);have HR:Hid (oc (Vs.map vS,Es,G) (x1,x2)=((dM (Vs.map vS) (x1,x2),Es,G),0)):=qh (by unfold oc;rw[if_neg (by rw[hh];decide),if_neg (by rw[ec,kE];simp)]);clear h hS fy IH hh e1 fp e2 ec kE qx e4 e3;subst h0;go_enter Tryz.func91,Tryz.ntmps91
   go_wp2_with (first
    |(go_at_call 110
      refine(HV.out _ HQ.out).mono ?_
      rintro e w2 ⟨rfl,aP⟩;have cY:=qh (H0.out.bl aP);have aZ:=qh (aQ.out.bl aP);have jG:=qh (yP.out.trans (aJ.of_below aP));have c0:=aZ.out.cell (i:=0) rfl;have c1:=aZ.out.cell (i:=1) rfl;have s0:=cY.out.s.cell (i:=0) rfl;obtain⟨bb,off,rfl,aY,a8⟩:=(aK cY.out.v).place aS (by decide) (Nat.lt_of_le_of_lt (Jas _) Uz.out);have l2:=a8 i _ dQ.out 2 _ rfl;simp only[Ν] at l2;clear a8 aP H0 aQ yP O7 O1)
    |(go_at_call 112
      refine(CD cY.out i Uz.out (by omega)).mono ?_
      rintro e w3 ⟨rfl,A3,c3,u6,Ec⟩;have gE:=qh u6;have BF:=qh (jG.out.trans Ec);clear u6 Ec cY jG aZ c0 c1 s0 l2))
   go_ret;exact cG.yes HR.out rfl BF.out gE.out (by rw[OQ.out])
  ·have bj:¬rL=[]:=fun e=>h0 (by rw[←qx,e];rfl)
   have HR:Hid (oc (Vs.map vS,Es,G) (x1,x2)=(dv,14)):=qh (by unfold oc;rw[if_neg (by rw[hh];decide),if_pos (by rw[ec];exact bj)]);have q1:(0:Int)<(rn:Int):=by omega
   have q2:0<rn:=by omega
   clear h hS fy IH hh e1 fp e2 ec bj qx e4 e3;go_enter Tryz.func91,Tryz.ntmps91
   go_wp2_with (first
    |(go_at_call 110
      refine(HV.out _ HQ.out).mono ?_
      rintro e w2 ⟨rfl,aP⟩;have cY:=qh (H0.out.bl aP);have aZ:=qh (aQ.out.bl aP);have jG:=qh (yP.out.trans (aJ.of_below aP));have c0:=aZ.out.cell (i:=0) rfl;have c1:=aZ.out.cell (i:=1) rfl;have s0:=cY.out.s.cell (i:=0) rfl;obtain⟨bb,off,rfl,aY,a8⟩:=(aK cY.out.v).place aS (by decide) (Nat.lt_of_le_of_lt (Jas _) Uz.out);have l2:=a8 i _ dQ.out 2 _ rfl;simp only[Ν] at l2;clear a8 aP H0 aQ yP O7 O1))
   go_ret;exact cG.no HR.out (by decide) rfl cY.out.below jG.out
end
def tc (Ps:List (ψ→ο→Prop)) (i:Nat) (v:ψ) (W:ο):Prop:=match Ps[i]? with
 |some P=>P v W
 |none=>True
theorem jH {Ps:List (ψ→ο→Prop)} (h:∀P∈Ps,∀v w w',P v w→Ext w w'→P v w') (i:Nat) (v:ψ) (w w':ο) (hg:tc Ps i v w) (hx:Ext w w'):tc Ps i v w':=by
 unfold tc at hg ⊢;split at hg
 ·rename_i P e;exact h P (ω e) v w w' hg hx
 ·rename_i e;trivial
theorem ko.row {W:ο} {r:Rg} {g:Nat} {T:TypeId} {cs:List ψ} (h:ko W r) (hs:Whole W g T cs) (hT:32≠T) (qy:Array ψ):ko (W.setRow g qy) r:=by
 have bj:∀a,r.1=ζ a→a.block≠g:=fun a ha=>by
  obtain⟨cs,hw⟩:=h.2.2 a ha;exact hw.ne_ hs hT
 exact⟨h.1,h.2.1.row_far (fun a ha _ e=>bj a ha (Μ e)) _,fun a ha=>(h.2.2 a ha).imp fun cs hc=>hc.row_far (bj a ha) _⟩
end Go.Proofs.YtpdpbfmiahjiiaaGreat
