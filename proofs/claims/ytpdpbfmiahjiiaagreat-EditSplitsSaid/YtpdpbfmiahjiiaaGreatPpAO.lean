/- Several texts in one. -/
import Derived.Test.YtpdpbfmiahjiiaaGreatPpAA
import Derived.Test.YtpdpbfmiahjiiaaGreatPpAB
import Derived.Test.YtpdpbfmiahjiiaaGreatPpAI
import Derived.Test.YtpdpbfmiahjiiaaGreatPpAJ
import Derived.Test.YtpdpbfmiahjiiaaGreatPpAK
import Derived.Test.YtpdpbfmiahjiiaaGreatPpAN
import Derived.Laws.MakeOwn
import Derived.Laws.Strings
import Derived.Lib.SliceRun
import Derived.LoopTactic
set_option linter.unusedSectionVars false
set_option linter.unusedSimpArgs false
set_option linter.unusedVariables false
set_option maxRecDepth 100000
set_option maxHeartbeats 16000000
namespace Go.Proofs.YtpdpbfmiahjiiaaGreat
open Go.RowKit
open _root_.Go.Value renaming slice→γ,string→μ,pointer→υ,agg→φ
open _root_.Go.Obj renaming cells→δ
open _root_.Option renaming none→ε,some→ζ,some→Jae
open _root_.Go.Proofs.Tryz renaming prog→η
open _root_.List renaming getElem?_eq_getElem→θ,mem_of_getElem?→ω,mem_map→Α,take_of_length_le→Ι,length_map→Ρ,getElem?_map→Ψ,getElem?_append_right→Jal,append_assoc→Jay,length_take→JaA,map_append→JaU,map_congr_left→JaV,map_map→JaW,pairwise_map→Jbg
open _root_.Go.Act renaming put→ξ
open _root_.Go renaming World→ο,Value→ψ,Calls→Ζ,Addr→Κ,wp_region_lit→Jam,maxLen→Jap
open _root_.Bool renaming false→ρ,true→τ,and_eq_true→Jar
open _root_.Go.RowKit renaming Below→σ
open _root_.Nat renaming le_refl→Δ,le_trans→Λ,add_zero→Jac,zero_le→Jas,sub_self→JaP
open _root_.Go.RowKit.Below renaming refl→Θ
open _root_.Option.some renaming inj→Μ
open _root_.Go.Addr renaming add_lit→Ν
open _root_.ByteArray renaming empty→Jaf
open _root_.Exists renaming intro→JaG
theorem JO (o:cZ) (h1:bQ o.s o.n=τ):ed o=if dy o=dM then(if eW o=τ then(if dX o.t=τ then 0 else 4) else 1) else 1:=by
 have key:(eW o=τ∧o=kL o)↔(dy o=dM∧eW o=τ):=by
  obtain⟨k,s,n,s1,n1,s2,n2,a0,a1,a2,a3,a4,b0,b1,b2,b3,b4,e,t,m⟩:=o;unfold kL dy dM
  by_cases k3:k=3
  ·subst k3;simp;constructor
   ·rintro⟨h,h2⟩;simp_all
   ·rintro⟨h,h2⟩;simp_all
  by_cases k5:k=5
  ·subst k5;simp;constructor
   ·rintro⟨h,h2⟩;simp_all
   ·rintro⟨h,h2⟩;simp_all
  by_cases k6:k=6
  ·subst k6;simp;constructor
   ·rintro⟨h,h2⟩;simp_all
   ·rintro⟨h,h2⟩;simp_all
  by_cases k7:k=7
  ·subst k7;simp;constructor
   ·rintro⟨h,h2⟩;simp_all
   ·rintro⟨h,h2⟩;simp_all
  by_cases k8:k=8
  ·subst k8;simp;constructor
   ·rintro⟨h,h2⟩;simp_all
   ·rintro⟨h,h2⟩;simp_all
  simp only[k3,k5,k6,k7,k8,if_false];simp;constructor
  ·rintro⟨h,h2⟩;simp_all
  ·rintro⟨h,h2⟩;simp_all
 unfold ed
 by_cases hz:dy o=dM
 ·rw[if_pos hz]
  by_cases hf:eW o=τ
  ·rw[if_pos hf,if_pos ⟨h1,key.2 ⟨hz,hf⟩⟩]
  ·rw[if_neg hf,if_neg (fun h=>hf h.2.1)]
 ·rw[if_neg hz,if_neg (fun h=>hz (key.1 h.2).1)]
theorem lS:dX ⟨#[]⟩=τ:=by decide
theorem fG (o:cZ) (ht:o.t.size≤Jap):Pure 45 #[φ (aa o).toArray] (J (ed o)):=fun w=>by
 have fin:∀{b:Int},(Ζ η 45 #[φ (aa o).toArray] w fun e w'=>e=.returned (J b)∧σ w.heap.size w w')→ed o=b→Ζ η 45 #[φ (aa o).toArray] w fun e w'=>e=.returned (J (ed o))∧σ w.heap.size w w':=fun h e=>e▸h
 by_cases h0:o.k<1
 ·refine fin (aaa o (decide_eq_true h0) w) ?_;unfold ed eW;rw[if_neg];rintro⟨-,h,-⟩;rw[if_neg (by omega),if_neg (by omega),if_neg (by omega),if_neg (by omega),if_neg (by omega)] at h;cases h
 by_cases h9:8<o.k
 ·refine fin (WB o (decide_eq_false h0) (decide_eq_true h9) w) ?_;unfold ed eW;rw[if_neg];rintro⟨-,h,-⟩;rw[if_neg (by omega),if_neg (by omega),if_neg (by omega),if_neg (by omega),if_neg (by omega)] at h;cases h
 by_cases h1:bQ o.s o.n=τ
 case neg=>
  refine fin (WM o (decide_eq_false h0) (decide_eq_false h9) (by simpa using h1) w) ?_;unfold ed;rw[if_neg (fun h=>h1 h.1)]
 have hm:=JO o h1
 by_cases h2:dy o=dM
 case neg=>
  refine fin (Qp o (decide_eq_false h0) (decide_eq_false h9) h1 h2 w) ?_;rw[hm,if_neg h2]
 rw[if_pos h2] at hm
 have Zq:o.k≠7→o.t=⟨#[]⟩:=fun hk=>by
  have:=congrArg cZ.t h2
  unfold dy at this
  repeat' split at this
  all_goals first|exact this|(exfalso;omega)
 by_cases k3:o.k=3
 ·have hf:eW o=(oA o.a0 o.a1 o.a2 o.a3 o.a4 && oA o.b0 o.b1 o.b2 o.b3 o.b4):=by
   unfold eW;rw[if_neg (by omega),if_pos k3]
  rw[hf,Zq (by omega),lS] at hm
  by_cases h3:oA o.a0 o.a1 o.a2 o.a3 o.a4=τ
  ·by_cases h4:oA o.b0 o.b1 o.b2 o.b3 o.b4=τ
   ·exact fin (WC o (decide_eq_false h0) (decide_eq_false h9) h1 h2 k3 h3 h4 w) (by rw[hm,h3,h4];rfl)
   ·have Xn:oA o.b0 o.b1 o.b2 o.b3 o.b4=ρ:=by simpa using h4
    exact fin (Y5 o (decide_eq_false h0) (decide_eq_false h9) h1 h2 k3 h3 Xn w) (by rw[hm,h3,Xn];rfl)
  ·have Ho:oA o.a0 o.a1 o.a2 o.a3 o.a4=ρ:=by simpa using h3
   exact fin (YK o (decide_eq_false h0) (decide_eq_false h9) h1 h2 k3 Ho w) (by rw[hm,Ho];rfl)
 by_cases k5:o.k=5
 ·have hf:eW o=(bQ o.s1 o.n1 && bQ o.s2 o.n2 && decide (0≤o.m∧o.m≤3)):=by
   unfold eW;rw[if_neg (by omega),if_neg k3,if_pos k5]
  rw[hf,Zq (by omega),lS] at hm
  by_cases h3:bQ o.s1 o.n1=τ
  case neg=>
   have Ho:bQ o.s1 o.n1=ρ:=by simpa using h3
   exact fin (XW o (decide_eq_false h0) (decide_eq_false h9) h1 h2 k5 Ho w) (by rw[hm,Ho];rfl)
  by_cases h4:bQ o.s2 o.n2=τ
  case neg=>
   have Xn:bQ o.s2 o.n2=ρ:=by simpa using h4
   exact fin (Z5 o (decide_eq_false h0) (decide_eq_false h9) h1 h2 k5 h3 Xn w) (by rw[hm,h3,Xn];rfl)
  by_cases h5:o.m<0
  ·exact fin (Zh o (decide_eq_false h0) (decide_eq_false h9) h1 h2 k5 h3 h4 (decide_eq_true h5) w) (by rw[hm,h3,h4,decide_eq_false (by omega)];rfl)
  by_cases h6:3<o.m
  ·exact fin (XG o (decide_eq_false h0) (decide_eq_false h9) h1 h2 k5 h3 h4 (decide_eq_false h5) (decide_eq_true h6) w) (by rw[hm,h3,h4,decide_eq_false (by omega)];rfl)
  ·exact fin (YZ o (decide_eq_false h0) (decide_eq_false h9) h1 h2 k5 h3 h4 (decide_eq_false h5) (decide_eq_false h6) w) (by rw[hm,h3,h4,decide_eq_true (by omega)];rfl)
 by_cases k6:o.k=6
 ·have hf:eW o=bQ o.s2 o.n2:=by
   unfold eW;rw[if_neg (by omega),if_neg k3,if_neg k5,if_pos k6]
  rw[hf,Zq (by omega),lS] at hm
  by_cases h3:bQ o.s2 o.n2=τ
  ·exact fin (Z1 o (decide_eq_false h0) (decide_eq_false h9) h1 h2 k6 h3 w) (by rw[hm,h3];rfl)
  ·have Ho:bQ o.s2 o.n2=ρ:=by simpa using h3
   exact fin (Z6 o (decide_eq_false h0) (decide_eq_false h9) h1 h2 k6 Ho w) (by rw[hm,Ho];rfl)
 by_cases k8:o.k=8
 ·have hf:eW o=pJ o.m:=by
   unfold eW;rw[if_neg (by omega),if_neg k3,if_neg k5,if_neg k6,if_pos k8]
  rw[hf,Zq (by omega),lS] at hm
  by_cases h3:pJ o.m=τ
  ·exact fin (Yr o (decide_eq_false h0) (decide_eq_false h9) h1 h2 k8 h3 w) (by rw[hm,h3];rfl)
  ·have Ho:pJ o.m=ρ:=by simpa using h3
   exact fin (Zj o (decide_eq_false h0) (decide_eq_false h9) h1 h2 k8 Ho w) (by rw[hm,Ho];rfl)
 have hf:eW o=τ:=by
  unfold eW;rw[if_pos (by omega)]
 rw[hf,if_pos rfl] at hm
 by_cases k7:o.k=7
 ·by_cases h3:dX o.t=τ
  ·exact fin (Xa o (decide_eq_false h0) (decide_eq_false h9) h1 h2 k7 (qh ht) h3 w) (by rw[hm,h3];rfl)
  ·have Ho:dX o.t=ρ:=by simpa using h3
   exact fin (ZJ o (decide_eq_false h0) (decide_eq_false h9) h1 h2 k7 (qh ht) Ho w) (by rw[hm,Ho];rfl)
 ·rw[Zq k7,lS] at hm;exact fin (X3 o (decide_eq_false h0) (decide_eq_false h9) h1 h2 (by simpa using k3) (by simpa using k5) (by simpa using k6) (by simpa using k7) (by simpa using k8) w) (by rw[hm];rfl)
theorem wM {α:Type} (l:List α) (k:Nat) (x:α) (h:l[k]? =ζ x):l.take (k+1)=l.take k++[x]:=by
 rw[List.take_add_one,h];rfl
theorem Bp (w:ο) (B size:Nat):aX w B size ε 0 0 []:=⟨by simp,fun _=>⟨rfl,rfl⟩,Δ _,fun a ha=>(by cases ha),fun a ha=>(by cases ha)⟩
def fT:List cZ→Int
 |[]=>0
 |o::l=>if ed o=0 then fT l else ed o
def jx (L:List cZ):Int:=if L.length<1∨6<L.length then 3 else fT L
theorem zB (l m:List cZ):fT (l++m)=if fT l=0 then fT m else fT l:=by
 induction l with
 |nil=>simp[fT]
 |cons o l ih=>
  simp only[List.cons_append,fT]
  by_cases h:ed o=0
  ·simp[h,ih]
  ·simp[h]
theorem xG (L:List cZ) (k:Nat) (o:cZ) (h:L[k]? =ζ o) (h0:fT (L.take k)=0) (ho:ed o=0):fT (L.take (k+1))=0:=by
 rw[wM L k o h,zB,if_pos h0];simp[fT,ho]
theorem xD (L:List cZ) (k:Nat) (o:cZ) (h:L[k]? =ζ o) (h0:fT (L.take k)=0) (ho:ed o≠0):fT L=ed o:=by
 have e:L=L.take (k+1)++L.drop (k+1):=(List.take_append_drop _ _).symm;rw[e,wM L k o h,Jay,zB,if_pos h0];simp[fT,ho]
theorem dt (o:cZ):(aa o).length=20:=rfl
theorem uO (o:cZ):(aa o).toArray.all (·.oneCell')=τ:=by simp[aa,Value.oneCell']
def Rq (L:List cZ) (W1:ο) (k:Nat) (wr:ο):Prop:=Ext W1 wr∧fT (L.take k)=0
theorem Cz (A:Option Κ) (n c:Nat) (L:List cZ) (w:ο) (h:aX w w.heap.size 20 A n c (aj aa L)) (hn:n≤Jap):
 Ζ η 54 #[φ #[γ A n c]] w fun e w'=>e=.returned (J (jx L))∧σ w.heap.size w w':=by
 have hl:=h.rlen dt (by decide);unfold Jap at hn
 by_cases h1:n<1
 ·have hm:jx L=3:=by unfold jx;rw[if_pos (by omega)]
  rw[hm];have q1:decide ((n:Int)<1)=τ:=decide_eq_true (by omega);clear hm hl h1;go_enter Tryz.func54,Tryz.ntmps54;go_wp2;go_ret;exact⟨rfl,ax _ _⟩
 have q1:decide ((n:Int)<1)=ρ:=decide_eq_false (by omega)
 by_cases h6:6<n
 ·have hm:jx L=3:=by unfold jx;rw[if_pos (by omega)]
  rw[hm];have q6:decide ((6:Int)<(n:Int))=τ:=decide_eq_true (by omega);clear hm hl h1;go_enter Tryz.func54,Tryz.ntmps54;go_wp2;go_ret;exact⟨rfl,ax _ _⟩
 have q6:decide ((6:Int)<(n:Int))=ρ:=decide_eq_false (by omega);have hm:jx L=fT L:=by unfold jx;rw[if_neg (by omega)]
 have HM:=qh hm;have HR:=qh h;obtain rfl:=hl;clear hm h;go_enter Tryz.func54,Tryz.ntmps54;go_wp2;clear q1 q6;obtain⟨W1,aO⟩:=ay (w.alloc (δ #[γ A L.length c] 49));have HB:Hid (σ w.heap.size w W1):=qh (by rw[←aO];exact ax _ _);have HRd:Hid (aX W1 W1.heap.size 20 A L.length c (aj aa L)):=qh (by rw[←aO];exact HR.out.al _);have HE:Hid (Whole W1 w.heap.size 49 [γ A L.length c]):=qh (by rw[←aO];exact Whole.new_ w _ [_]);rw[aO];clear aO;obtain⟨g0,dU⟩:=ay w.heap.size;rw[dU] at HE ⊢;clear dU;go_loopw [19] (fun i wr=>∃k:Nat,k≤L.length∧i=J k∧Hid (Rq L W1 k wr)) (fun i _=>L.length - (intOf i).toNat)
 case atStart=>exact⟨0,Jas _,rfl,qh ⟨Ext.refl _,rfl⟩⟩
 case round=>
  rename_i wr _;obtain⟨k,hk,rfl,lh⟩:=hrel
  by_cases fh:k<L.length
  ·have yw:L[k]? =ζ (L[k]'(by omega)):=θ _;obtain⟨o,go⟩:=ay (L[k]'(by omega));rw[go] at yw;have HK:=qh yw;have S6:=qh (HRd.out.bl lh.out.1);obtain⟨b,off,rfl,bD,bM⟩:=S6.out.place dt (by decide) (by omega);have HP:=qh (bM k o yw);clear go yw bM bD;obtain⟨x,gx⟩:=ay (ed o);have HC:=qh (zx o);rw[gx] at HC;have HX:=qh gx;clear gx;go_upto_region 5 with fail
   refine Jam ?_;refine ah (v:=?_) (ζ 21) rfl (by rfl) ?_ ?_;rotate_left
   ·go_simp;(try with_reducible rfl)
   simp only[ξ,aq,ak,ao];refine oH (ζ 22) rfl (by rfl) 36 (.tmp 21) rfl ⟨b,off+k*20,ε⟩ rfl (aa o) _ HP.out Tryz.underlying36 rfl (by kernel_rfl) ?_;simp only[ξ,aq,ak,ao];refine M4 4 rfl rfl rfl 36 (.tmp 22) rfl rfl #[J 0,J 0,J 0,J 0,J 0,J 0,J 0,J 0,J 0,J 0,J 0,J 0,J 0,J 0,J 0,J 0,J 0,.bool ρ,μ ⟨#[]⟩,J 0] ?_ (aa o).toArray (by simp) rfl (by kernel_rfl) rfl (uO o) ?_
   ·go_simp;(try with_reducible rfl)
   simp only[ξ,aq,ak,ao];have aV:Hid (Ext W1 (wr.alloc (δ (aa o).toArray 36))):=qh (lh.out.1.trans (ax _ _));have HN:Hid (Whole (wr.alloc (δ (aa o).toArray 36)) wr.heap.size 36 (aa o)):=qh (Whole.new_ _ _ _);obtain⟨W2,eN⟩:=ay (wr.alloc (δ (aa o).toArray 36));obtain⟨g2,qS⟩:=ay wr.heap.size;rw[eN] at aV HN ⊢;rw[qS] at HN ⊢;clear eN qS;go_upto_region 6 with fail
   refine Jam ?_;refine bw (ζ 23) rfl (by rfl) 36 (.tmp 4) rfl g2 rfl 36 (aa o) _ HN.out Tryz.underlying36 rfl (by kernel_rfl) ?_;simp only[ξ,aq,ak,ao];go_wp2_with fail
   refine(HC.out _).mono ?_
   rintro e w3 ⟨rfl,bC⟩;have dp:=qh (aV.out.trans bC);clear bC
   by_cases hx:x=0
   ·subst hx;have HI:Hid (Rq L W1 (k+1) w3):=qh ⟨dp.out,xG L k o HK.out lh.out.2 HX.out⟩;go_wp2;go_roundw
    case rel=>exact⟨k+1,by omega,by go_num,HI⟩
    case measure=>simp[intOf];omega
   ·have q:(x==0)=ρ:=by simpa using hx
    have q':(x !=0)=τ:=by simpa using hx
    have oa:Hid (fT L=x):=qh (by rw[xD L k o HK.out lh.out.2 (by rw[HX.out];exact hx),HX.out]);clear hx;go_wp2;go_ret;exact⟨mF (by rw[HM.out,oa.out]),HB.out.trans (dp.out.mono HB.out.size)⟩
  ·have oa:Hid (fT L=0):=qh (by have:=lh.out.2;rwa [Ι (by omega)] at this);go_wp2;go_ret;exact⟨mF (by rw[HM.out,oa.out]),HB.out.trans (lh.out.1.mono HB.out.size)⟩
theorem Bq (A:Option Κ) (n c:Nat) (L:List cZ) (w:ο) (h:aX w w.heap.size 20 A n c (aj aa L)) (hn:n≤Jap) (ht:∀o∈L,o.t.size≤Jap):
 Ζ η 39 #[φ #[γ A n c]] w fun e w'=>e=.returned (J (jx L))∧σ w.heap.size w w':=by
 have hl:=h.rlen dt (by decide);unfold Jap at hn;have HT:=qh ht;clear ht
 by_cases h1:n<1
 ·have hm:jx L=3:=by unfold jx;rw[if_pos (by omega)]
  rw[hm];have q1:decide ((n:Int)<1)=τ:=decide_eq_true (by omega);clear hm hl h1;go_enter Tryz.func39,Tryz.ntmps39;go_wp2;go_ret;exact⟨rfl,ax _ _⟩
 have q1:decide ((n:Int)<1)=ρ:=decide_eq_false (by omega)
 by_cases h6:6<n
 ·have hm:jx L=3:=by unfold jx;rw[if_pos (by omega)]
  rw[hm];have q6:decide ((6:Int)<(n:Int))=τ:=decide_eq_true (by omega);clear hm hl h1;go_enter Tryz.func39,Tryz.ntmps39;go_wp2;go_ret;exact⟨rfl,ax _ _⟩
 have q6:decide ((6:Int)<(n:Int))=ρ:=decide_eq_false (by omega);have hm:jx L=fT L:=by unfold jx;rw[if_neg (by omega)]
 have HM:=qh hm;have HR:=qh h;obtain rfl:=hl;clear hm h;go_enter Tryz.func39,Tryz.ntmps39;go_wp2;clear q1 q6;obtain⟨W1,aO⟩:=ay (w.alloc (δ #[γ A L.length c] 49));have HB:Hid (σ w.heap.size w W1):=qh (by rw[←aO];exact ax _ _);have HRd:Hid (aX W1 W1.heap.size 20 A L.length c (aj aa L)):=qh (by rw[←aO];exact HR.out.al _);have HE:Hid (Whole W1 w.heap.size 49 [γ A L.length c]):=qh (by rw[←aO];exact Whole.new_ w _ [_]);rw[aO];clear aO;obtain⟨g0,dU⟩:=ay w.heap.size;rw[dU] at HE ⊢;clear dU;go_loopw [3] (fun i wr=>∃k:Nat,k≤L.length∧i=J k∧Hid (Rq L W1 k wr)) (fun i _=>L.length - (intOf i).toNat)
 case atStart=>exact⟨0,Jas _,rfl,qh ⟨Ext.refl _,rfl⟩⟩
 case round=>
  rename_i wr _;obtain⟨k,hk,rfl,lh⟩:=hrel;have le:=(HE.out.bl lh.out.1).cell (i:=0) rfl
  by_cases fh:k<L.length
  ·have yw:L[k]? =ζ (L[k]'(by omega)):=θ _;obtain⟨o,go⟩:=ay (L[k]'(by omega));rw[go] at yw;have HK:=qh yw;have S6:=qh (HRd.out.bl lh.out.1);obtain⟨b,off,rfl,bD,bM⟩:=S6.out.place dt (by decide) (by omega);have HP:=qh (bM k o yw);clear go yw bM bD;obtain⟨x,gx⟩:=ay (ed o);have HC:=qh (fG o (HT.out o (ω HK.out)));rw[gx] at HC;have HX:=qh gx;clear gx;go_upto_region 6 with fail
   refine Jam ?_;refine ah (v:=?_) (ζ 22) rfl (by rfl) ?_ ?_;rotate_left
   ·go_simp;(try with_reducible rfl)
   simp only[ξ,aq,ak,ao];refine ah (v:=?_) (ζ 23) rfl (by rfl) ?_ ?_;rotate_left
   ·go_simp;(try with_reducible rfl)
   simp only[ξ,aq,ak,ao];refine ah (v:=?_) (ζ 24) rfl (by rfl) ?_ ?_;rotate_left
   ·go_simp;(try with_reducible rfl)
   simp only[ξ,aq,ak,ao];refine ah (v:=?_) (ζ 25) rfl (by rfl) ?_ ?_;rotate_left
   ·go_simp;(try with_reducible rfl)
   simp only[ξ,aq,ak,ao];refine oH (ζ 26) rfl (by rfl) 36 (.tmp 25) rfl ⟨b,off+k*20,ε⟩ rfl (aa o) _ HP.out Tryz.underlying36 rfl (by kernel_rfl) ?_;simp only[ξ,aq,ak,ao];have aV:=qh lh.out.1;go_wp2_with fail
   refine(HC.out _).mono ?_
   rintro e w3 ⟨rfl,bC⟩;have dp:=qh (aV.out.trans bC);clear bC
   by_cases hx:x=0
   ·subst hx;have HI:Hid (Rq L W1 (k+1) w3):=qh ⟨dp.out,xG L k o HK.out lh.out.2 HX.out⟩;go_wp2;go_roundw
    case rel=>exact⟨k+1,by omega,by go_num,HI⟩
    case measure=>simp[intOf];omega
   ·have q:(x==0)=ρ:=by simpa using hx
    have q':(x !=0)=τ:=by simpa using hx
    have oa:Hid (fT L=x):=qh (by rw[xD L k o HK.out lh.out.2 (by rw[HX.out];exact hx),HX.out]);clear hx;go_wp2;go_ret;exact⟨mF (by rw[HM.out,oa.out]),HB.out.trans (dp.out.mono HB.out.size)⟩
  ·have oa:Hid (fT L=0):=qh (by have:=lh.out.2;rwa [Ι (by omega)] at this);go_wp2;go_ret;exact⟨mF (by rw[HM.out,oa.out]),HB.out.trans (lh.out.1.mono HB.out.size)⟩
def bp (o:cZ):Nm:=(o.s,o.n)
def mV (o:cZ):Nm:=(o.s1,o.n1)
def cQ (o:cZ):Nm:=(o.s2,o.n2)
def yA (o:cZ):Nm × D:=((o.a0,o.a1),(o.a2,o.a3,o.a4))
def pg (o:cZ):Nm × D:=((o.b0,o.b1),(o.b2,o.b3,o.b4))
def iO (o:cZ) (p:ByteArray × Int):ByteArray × Int:=if o.k=7 then(o.t,p.2) else(p.1,o.m)
def cF (S:SS) (o:cZ):SS × Int:=
 if o.k=1 then jG S (bp o) else if o.k=2 then jD S (bp o) else if o.k=3 then kr my S (bp o) (yA o) (pg o)
 else if o.k=4 then wm S (bp o) else if o.k=5 then cx S (bp o) (mV o) (cQ o) o.m else if o.k=6 then cV S (bp o) (cQ o) else setS S (bp o) o.e (iO o)
def jJ (S:SS) (o:cZ):SS × Int:=if ed o=0 then cF S o else(cp,ed o)
def iL (S:SS):List cZ→SS × Int
 |[]=>(S,0)
 |o::L=>if (cF S o).2=0 then iL (cF S o).1 L else(cp,(cF S o).2)
def iW (S:SS) (L:List cZ):SS × Int:=if jx L=0 then iL S L else(cp,jx L)
def AU (S:SS) (L:List cZ):SS:=if (iW S L).2=0 then(iW S L).1 else S
theorem EW (V:List VS) (x:Nm) (f:ByteArray × Int→ByteArray × Int):(oP V x f).map (·.1)=V.map (·.1):=by
 unfold oP;rw[JaW];refine JaV (fun v _=>?_)
 show(if v.1=x then(v.1,v.2.1,f v.2.2) else v).1=v.1
 split<;>rfl
theorem DC (V:List VS) (x:Nm) (f:ByteArray × Int→ByteArray × Int):(oP V x f).map (·.2.1)=V.map (·.2.1):=by
 unfold oP;rw[JaW];refine JaV (fun v _=>?_)
 show(if v.1=x then(v.1,v.2.1,f v.2.2) else v).2.1=v.2.1
 split<;>rfl
theorem GJ (E:List EC) (x:Nm) (f:ByteArray × Int→ByteArray × Int):(tl E x f).map (·.1)=E.map (·.1):=by
 unfold tl;rw[JaW];refine JaV (fun v _=>?_)
 show(if v.1=x then(v.1,f v.2) else v).1=v.1
 split<;>rfl
theorem NU {V W:List VS} (e:W.map (·.2.1)=V.map (·.2.1)):W.flatMap (fun v=>v.2.1)=V.flatMap (fun v=>v.2.1)∧(∀d,cM W d=cM V d)∧∀v∈W,∃u∈V,u.2.1=v.2.1:=by
 refine⟨?_,fun d=>?_,fun v hv=>?_⟩
 ·rw[List.flatMap_def,List.flatMap_def,e]
 ·have k:∀U:List VS,cM U d=(U.map (·.2.1)).any (fun l=>decide (d∈l)):=fun U=>by unfold cM;rw[List.any_map];rfl
  rw[k,k,e]
 ·have:v.2.1∈V.map (·.2.1):=e▸Α.2 ⟨v,hv,rfl⟩
  obtain⟨u,hu,q⟩:=Α.1 this;exact⟨u,hu,q⟩
theorem Jt {E F:List EC} (e:F.map (·.1)=E.map (·.1)) (x:Nm):bN F x=bN E x:=by
 have h:∀U:List EC,bN U x=(U.map (·.1)).any (fun k=>decide (k=x)):=fun U=>by
  unfold bN qg;rw[List.any_map];rfl
 rw[h,h,e]
theorem e7.setV {S:SS} (h:e7 S) (x:Nm) (f:ByteArray × Int→ByteArray × Int):e7 (oP S.1 x f,S.2):=by
 obtain⟨r1,r2,r3⟩:=NU (DC S.1 x f)
 refine⟨nR h.vup (EW _ _ _),h.eup,by show(List.flatMap _ _).Nodup;rw[r1];exact h.once,fun v hv=>?_,fun v hv d hd=>?_,fun e he=>?_⟩
 ·obtain⟨u,hu,q⟩:=r3 v hv;rw[←q];exact h.turned u hu
 ·obtain⟨u,hu,q⟩:=r3 v hv;exact h.known u hu d (q▸hd)
 ·show cM (oP S.1 x f) _=τ∧cM (oP S.1 x f) _=τ;rw[r2,r2];exact h.ends e he
theorem e7.setE {S:SS} (h:e7 S) (x:Nm) (f:ByteArray × Int→ByteArray × Int):e7 (S.1,tl S.2.1 x f,S.2.2):=by
 have k:=GJ S.2.1 x f
 refine⟨h.vup,?_,h.once,h.turned,fun v hv d hd=>?_,fun e he=>?_⟩
 ·have h1:(S.2.1.map (·.1)).Pairwise (fun a b=>dF a b<0):=Jbg.2 h.eup;rw[←k] at h1;exact Jbg.1 h1
 ·show bN (tl S.2.1 x f) _=τ∧_;rw[Jt k];exact h.known v hv d hd
 ·have:e.1∈S.2.1.map (·.1):=k▸Α.2 ⟨e,he,rfl⟩
  obtain⟨u,hu,q⟩:=Α.1 this;rw[←q];exact h.ends u hu
theorem pX:∀(G:List Gn) (g:Gn),ft G→(G.any fun y=>decide (y.1=g.1))=τ→(px G g).length≤G.length
 |[],g,_,h=>by simp at h
 |y::G,g,hr,h=>by
  show(if cU y g<0 then y::px G g else if cU y g=0 then g::G else g::y::G).length≤G.length+1
  split
  ·rename_i fh;have cu:¬y.1=g.1:=fun e=>by have:=(iB y g).2 e;omega
   have h2:(G.any fun y=>decide (y.1=g.1))=τ:=by
    rw[List.any_cons,decide_eq_false cu] at h;exact h
   have:=pX G g (oE hr) h2
   simp only[List.length_cons];omega
  ·split
   ·simp
   ·rename_i h1 h2;obtain⟨z,hz,e⟩:=List.any_eq_true.1 h;have h3:=mA G hr hz;have h4:cU y g=cU y z:=by unfold cU;rw[of_decide_eq_true e]
    omega
theorem wP {G:List Gn} {x:Gn} (h:(G.any fun y=>decide (y.1=x.1))=ρ) (hn:¬G.length≥400):dJ G x=px G x:=by unfold dJ;rw[h,if_neg (by simpa using hn)]
theorem xM {G:List Gn} {x:Gn} (h:(G.any fun y=>decide (y.1=x.1))=ρ) (hn:G.length≥400):dJ G x=G:=by unfold dJ;rw[h,if_pos (by simpa using hn)]
theorem uK {G:List Gn} {x:Gn} (h:(G.any fun y=>decide (y.1=x.1))=τ) (hn:¬G.length - 1≥400):dJ G x=px G x:=by unfold dJ;rw[h,if_neg (by simpa using hn)]
theorem lY (G:List Gn) (g:Gn) (h:G.length≤400) (hr:ft G):(dJ G g).length≤400:=by
 cases ha:(G.any fun y=>decide (y.1=g.1)) with
 |true=>
  by_cases hq:G.length - 1≥400
  ·omega
  ·rw[uK ha hq];have h1:=pX G g hr ha;omega
 |false=>
  by_cases hq:G.length≥400
  ·rw[xM ha hq];exact h
  ·rw[wP ha hq]
   have:=Eh G g
   omega
theorem fP {G:List Gn} (g:Gn) (h:ft G):ft (dJ G g):=by
 have h1:=Aj G g h;unfold dJ;split<;>split<;>assumption
theorem kq {P:Nm→ByteArray × Int→Prop} {V:List VS} {x:Nm} {l:List D} (h:∀v∈V,P v.1 v.2.2):∀v∈bZ V x l,P v.1 v.2.2:=fun v hv=>by
 rcases lx hv with⟨h1,h2⟩|⟨u,hu,h1,h2⟩
 ·exact h v h1
 ·rw[h2];exact h u hu
theorem fk (V:List VS) (x:Nm) (l:List D):(bZ V x l).length=V.length:=by unfold bZ;rw[Ρ]
theorem tQ {α:Type} {k:α→Nm} (l:List α) (x:Nm):(fY k l x).length≤l.length:=List.length_filter_le _ _
theorem I7 {o:cZ} (h:ed o=0):bQ o.s o.n=τ∧eW o=τ∧o=kL o∧dX o.t=τ:=by
 unfold ed at h;split at h
 ·rename_i h1;split at h
  ·rename_i h2;exact⟨h1.1,h1.2.1,h1.2.2,h2⟩
  ·cases h
 ·cases h
theorem p7:dX Jaf=τ:=by decide
theorem pj:lF 0=τ:=by decide
theorem wy {α:Type} {p:α→Bool} {l:List α} {a:α} (h:a∈l.filter p):a∈l:=(List.mem_filter.1 h).1
theorem fA.kind {S:SS} (h:fA S) {o:cZ} (ho:ed o=0):fA (cF S o).1:=by
 obtain⟨m1,m2,m3,m4⟩:=I7 ho;unfold cF;split
 ·unfold jG;split
  ·exact dP
  ·rename_i hn;split
   ·exact dP
   ·have hn:=Bool.eq_false_iff.2 hn
    refine⟨h.fit.addV hn,by show(eY _ _).length≤24;unfold eY;rw[kk];omega,h.e40,h.g400,fun v hv=>?_,h.em,h.gr⟩
    rcases dx.1 hv with rfl|hv
    ·exact⟨m1,p7,pj⟩
    ·exact h.vm v hv
 split
 ·unfold jD;split
  ·exact dP
  ·rename_i hh;split
   ·exact dP
   ·rename_i hr;have hh:bo S.1 (bp o)=τ:=by simpa using hh
    obtain⟨u,hu,e⟩:=eB.1 hh;have hr:cL S.1 (bp o)=[]:=by simpa using hr
    have e:u.1=bp o:=e;rw[←e,lE h.fit.rg.keys hu] at hr;rw[←e];exact⟨h.fit.remV hu hr,Λ (tQ _ _) h.v24,h.e40,h.g400,fun v hv=>h.vm v (wy hv),h.em,h.gr⟩
 split
 ·unfold kr;split
  ·exact dP
  ·rename_i hE;split
   ·exact dP
   ·split
    ·exact dP
    ·rename_i hl Ey;rw[not_or] at Ey;have ha:bo S.1 (yA o).1=τ:=by simpa using Ey.1
     have hb:bo S.1 (pg o).1=τ:=by simpa using Ey.2
     have hE:bN S.2.1 (bp o)=ρ:=by simpa using hE
     obtain⟨b2,dN⟩:=ay ((if (pg o).2=aU (bp o) 0 then pg o else nG S.1 S.2.2 (pg o)));have ar:bo S.1 b2.1=τ:=by rw[←dN];split<;>exact hb
     dsimp only;rw[dN];split
     ·refine⟨h.fit.link hE (a:=nG S.1 S.2.2 (yA o)) ha ar _,by show(dW _ _ _).length≤24;unfold dW;rw[fk,fk];exact h.v24,by show(iP _ _).length≤40;unfold iP;rw[kk];omega,h.g400,?_,fun e he=>?_,h.gr⟩
      ·exact kq (P:=fun x t=>bQ x.1 x.2=τ∧dX t.1=τ∧lF t.2=τ) (kq (P:=fun x t=>bQ x.1 x.2=τ∧dX t.1=τ∧lF t.2=τ) h.vm)
      ·rcases dx.1 he with rfl|he
       ·exact⟨m1,p7,pj⟩
       ·exact h.em e he
     ·exact dP
 split
 ·unfold wm;split
  ·exact dP
  ·rename_i hE;have hE:bN S.2.1 (bp o)=τ:=by simpa using hE
   refine⟨h.fit.unlink hE _,by show(mr _ _).length≤24;unfold mr;rw[fk,fk];exact h.v24,Λ (tQ _ _) h.e40,lY _ _ (lY _ _ h.g400 h.gr) (fP _ h.gr),?_,fun e he=>h.em e (wy he),fP _ (fP _ h.gr)⟩
   exact kq (P:=fun x t=>bQ x.1 x.2=τ∧dX t.1=τ∧lF t.2=τ) (kq (P:=fun x t=>bQ x.1 x.2=τ∧dX t.1=τ∧lF t.2=τ) h.vm)
 split
 ·rename_i k1 k2 k3 k4 k5;unfold cx;split
  ·exact dP
  ·rename_i hE;split
   ·exact dP
   ·rename_i yE;split
    ·exact dP
    ·rename_i hl;rw[not_or] at yE hl;have hE:bN S.2.1 (bp o)=τ:=by simpa using hE
     have hn:bo S.1 (mV o)=ρ:=by simpa using yE.1
     have hot:bN S.2.1 (cQ o)=ρ:=by simpa using yE.2
     have hf:bQ o.s1 o.n1=τ∧bQ o.s2 o.n2=τ∧0≤o.m∧o.m≤3:=by
      unfold eW at m2;rw[if_neg (by omega),if_neg k3,if_pos k5,Jar,Jar] at m2;exact⟨m2.1.1,m2.1.2,(of_decide_eq_true m2.2).1,(of_decide_eq_true m2.2).2⟩
     obtain⟨f1,f2,f3,f4⟩:=hf;have hs:(1:Int) - o.m.tmod 2=0∨1 - o.m.tmod 2=1:=by rw[Int.tmod_eq_emod_of_nonneg f3];omega
     have ht:o.m.tdiv 2=0∨o.m.tdiv 2=1:=by rw[Int.tdiv_eq_ediv_of_nonneg f3];omega
     refine⟨h.fit.split hE hn hot hs ht _,by show(eY _ _).length≤24;unfold eY dn;rw[kk,fk];omega,by show(iP _ _).length≤40;unfold iP;rw[kk];omega,h.g400,fun v hv=>?_,fun e he=>?_,h.gr⟩
     ·rcases dx.1 hv with rfl|hv
      ·exact⟨f1,p7,pj⟩
      ·exact kq (P:=fun x t=>bQ x.1 x.2=τ∧dX t.1=τ∧lF t.2=τ) h.vm v hv
     ·rcases dx.1 he with rfl|he
      ·exact⟨f2,p7,pj⟩
      ·exact h.em e he
 split
 ·unfold cV;split
  ·exact dP
  ·rename_i hh;have hh:bo S.1 (bp o)=τ:=by simpa using hh
   obtain⟨u,hu,e⟩:=eB.1 hh;have e:u.1=bp o:=e;rw[←e,lE h.fit.rg.keys hu];split
   ·exact dP
   ·rename_i a b hm
    refine⟨h.fit.smooth hu hm _,by show(dn _ _ _).length≤24;unfold dn;rw[fk];exact Λ (tQ _ _) h.v24,Λ (tQ _ _) h.e40,lY _ _ (lY _ _ h.g400 h.gr) (fP _ h.gr),?_,fun e he=>h.em e (wy he),fP _ (fP _ h.gr)⟩
    exact kq (P:=fun x t=>bQ x.1 x.2=τ∧dX t.1=τ∧lF t.2=τ) (fun v hv=>h.vm v (wy hv))
 ·rename_i k1 k2 k3 k4 k5 k6
  have hp:∀p:ByteArray × Int,dX p.1=τ∧lF p.2=τ→dX (iO o p).1=τ∧lF (iO o p).2=τ:=fun p hp=>by
   unfold iO;split
   ·exact⟨m4,hp.2⟩
   ·rename_i k7;unfold eW at m2;rw[if_neg (by omega),if_neg k3,if_neg k5,if_neg k6] at m2;split at m2
    ·exact⟨hp.1,m2⟩
    ·cases m2
  unfold setS;split
  ·split
   ·exact⟨e7.setE h.fit _ _,h.v24,by show(tl _ _ _).length≤40;unfold tl;rw[Ρ];exact h.e40,h.g400,h.vm,fun e he=>by
     obtain⟨u,hu,rfl⟩:=Α.1 he;have hq:=h.em u hu
     by_cases q:u.1=bp o
     ·rw[if_pos q];exact⟨hq.1,hp u.2 hq.2⟩
     ·rw[if_neg q];exact hq,h.gr⟩
   ·exact dP
  ·split
   ·exact⟨e7.setV h.fit _ _,by show(oP _ _ _).length≤24;unfold oP;rw[Ρ];exact h.v24,h.e40,h.g400,fun v hv=>by
     obtain⟨u,hu,rfl⟩:=Α.1 hv;have hq:=h.vm u hu
     by_cases q:u.1=bp o
     ·rw[if_pos q];exact⟨hq.1,hp u.2.2 hq.2⟩
     ·rw[if_neg q];exact hq,h.em,h.gr⟩
   ·exact dP
theorem fA.one {S:SS} (h:fA S) (o:cZ):fA (jJ S o).1:=by
 unfold jJ;split
 ·rename_i ho;exact h.kind ho
 ·exact dP
theorem fe (Vs:List VC) (x:Nm):qg (fun v:VC=>v.1) Vs x=bo (Vs.map vS) x:=by
 unfold bo qg;rw[List.any_map];rfl
theorem pw (v:VC):∀Vs:List VC,(eS (fun v:VC=>v.1) Vs v).map vS=eY (Vs.map vS) (vS v)
 |[]=>rfl
 |u::Vs=>by
  show(if dF v.1 u.1<0 then v::u::Vs else u::eS (fun v:VC=>v.1) Vs v).map vS=if dF v.1 u.1<0 then vS v::vS u::Vs.map vS else vS u::eY (Vs.map vS) (vS v)
  split
  ·rfl
  ·rw[List.map_cons,pw v Vs]
theorem Jm {Vs:List VC}:pW (fun v:VS=>v.1) (Vs.map vS)↔pW (fun v:VC=>v.1) Vs:=Jbg
theorem Dz {Vs:List VC} (hu:pW (fun v:VS=>v.1) (Vs.map vS)) {i:Nat} {v:VC} (hv:Vs[i]? =ζ v):(Vs.eraseIdx i).map vS=dw (Vs.map vS) v.1:=by
 have h1:(Vs.map vS)[i]? =ζ (vS v):=by rw[Ψ,hv];rfl
 have h2:=AL (k:=fun v:VS=>v.1) hu h1;unfold dw;rw[show v.1=(vS v).1 from rfl,h2,List.eraseIdx_eq_take_drop_succ,JaU,List.map_take,List.map_drop]
theorem Qc {Es:List EC} (hu:pW (fun e:EC=>e.1) Es) {i:Nat} {v:EC} (hv:Es[i]? =ζ v):Es.eraseIdx i=js Es v.1:=by
 unfold js;rw[AL (k:=fun e:EC=>e.1) hu hv,List.eraseIdx_eq_take_drop_succ]
theorem Aw {Vs:List VC} (hk:(Vs.map (·.1)).Nodup) {i:Nat} {v:VC} (hv:Vs[i]? =ζ v):cL (Vs.map vS) v.1=v.2.1.2.2.2:=
 lE (V:=Vs.map vS) (u:=vS v) (by rw[um];exact hk) (Α.2 ⟨v,ω hv,rfl⟩)
def fX (w W:ο) (lo g:Nat) (R:SS × Int) (e:Ending) (w':ο):Prop:=
 e=.returned (J R.2)∧σ w.heap.size w w'∧aY g W w'∧(R.2=0→∃A n c Vs B m k Es C r rc G,dK w lo g A n c Vs B m k Es C r rc G w'∧(Vs.map vS,Es,G)=R.1)
theorem fX.no {w W w':ο} {lo g:Nat} {R:SS × Int} {e:Ending} {z:Int} (hR:R=(cp,z)) (hz:z≠0) (he:e=.returned (J z)) (hb:σ w.heap.size w w') (hk:aY g W w'):fX w W lo g R e w':=by
 subst hR;exact⟨he,hb,hk,fun q=>absurd q hz⟩
theorem fX.yes {w W w':ο} {lo g:Nat} {R:SS × Int} {e:Ending} {S:SS} {A:Option Κ} {n c:Nat} {Vs:List VC} {B:Option Κ} {m k:Nat} {Es:List EC} {C:Option Κ} {r rc:Nat} {G:List Gn} (hR:R=(S,0)) (he:e=.returned (J 0)) (hk:aY g W w') (h:dK w lo g A n c Vs B m k Es C r rc G w') (hS:(Vs.map vS,Es,G)=S):fX w W lo g R e w':=by
 subst hR;exact⟨he,h.below,hk,fun _=>⟨A,n,c,Vs,B,m,k,Es,C,r,rc,G,h,hS⟩⟩
theorem fA.n24 {A B C:Option Κ} {w W:ο} {lo g n c m k r rc:Nat} {Vs:List VC} {Es:List EC} {G:List Gn} (hS:fA (Vs.map vS,Es,G)) (h:dK w lo g A n c Vs B m k Es C r rc G W):n≤24∧m≤40∧r≤400∧∀x∈Vs,x.2.1.2.1≤80:=by
 have h1:=hS.v24;have h2:(Vs.map vS).length=n:=by rw[Ρ];exact h.vlen
 have h3:=hS.e40;have h4:=hS.g400
 refine⟨by rw[←h2];exact h1,by rw[←h.elen];exact h3,by rw[←h.glen];exact h4,fun x hx=>?_⟩
 have:=hS.short (vS x) (Α.2 ⟨x,hx,rfl⟩)
 have h5:x.2.1.2.2.2.length=x.2.1.2.1:=(h.rg x hx).2.1.dlen;rw[←h5];exact this
section
variable {w W:ο} {lo g:Nat} {A:Option Κ} {n c:Nat} {Vs:List VC} {B:Option Κ} {m k:Nat} {Es:List EC} {C:Option Κ} {r rc:Nat} {G:List Gn}
theorem Kn (h:dK w lo g A n c Vs B m k Es C r rc G W) (hS:fA (Vs.map vS,Es,G)) (x1 x2:Int):Ζ η 90 #[υ (ζ ⟨g,0,ε⟩),φ #[J x1,J x2]] W (fX w W lo g (jG (Vs.map vS,Es,G) (x1,x2))):=by
 obtain⟨hn,hm,hr,pd⟩:=hS.n24 h;have N1:(Vs.map (·.1)).Nodup:=um Vs▸hS.fit.vup.nodup;have kx:=ax W (δ #[J x1,J x2] 30);have HV:Hid (∀X,dK w lo g A n c Vs B m k Es C r rc G X→Ζ η 110 #[υ (ζ ⟨g,0,ε⟩),φ #[J x1,J x2]] X fun e w'=>e=.returned (J (gi (fun v:VC=>v.1) Vs (x1,x2)))∧σ X.heap.size X w'):=qh (fun X hX=>j7 g A n c B m k C r rc x1 x2 Vs X hX.s (aJ hX.v) (by omega));have H0:=qh (h.up kx);have HQ:=H0;have aN:Hid (Whole (W.alloc (δ #[J x1,J x2] 30)) W.heap.size 30 [J x1,J x2]):=qh (Whole.new_ _ _ [_,_]);have Ko:=qh (aY.of_below (g:=g) kx);have zQ:=qh hS;have Tv:=aN.out.cell (i:=0) rfl;have Tb:=aN.out.cell (i:=1) rfl;cases hh:bo (Vs.map vS) (x1,x2) with
 |true=>
  obtain⟨i,v,e1,e2,e3,e4⟩:=ij (k:=fun v:VC=>v.1) (l:=Vs) ((fe Vs (x1,x2)).trans hh);rw[e1] at HV;have HR:Hid (jG (Vs.map vS,Es,G) (x1,x2)=(cp,12)):=qh (by unfold jG;rw[if_pos hh]);clear h hS pd N1 hh e1 e2 e3 kx;go_enter Tryz.func90,Tryz.ntmps90
  go_wp2_with (first
   |(go_at_call 110
     refine(HV.out _ HQ.out).mono ?_
     rintro e w2 ⟨rfl,ar⟩;have iF:=qh (H0.out.bl ar);have aV:=qh (aN.out.bl ar);have vE:=qh (Ko.out.trans (aY.of_below ar));have c0:=aV.out.cell (i:=0) rfl;have c1:=aV.out.cell (i:=1) rfl;have s0:=iF.out.s.cell (i:=0) rfl;clear ar H0 aN Ko Tv Tb))
  go_ret;exact fX.no HR.out (by decide) rfl iF.out.below vE.out
 |false=>
  have e1:=iA (k:=fun v:VC=>v.1) (l:=Vs) ((fe Vs (x1,x2)).trans hh);rw[e1] at HV
  by_cases rZ:n=24
  ·have HR:Hid (jG (Vs.map vS,Es,G) (x1,x2)=(cp,3)):=qh (by unfold jG;rw[if_neg (by rw[hh];decide),if_pos (by rw[Ρ,h.vlen];omega)]);have q1:(24:Int)≤(n:Int):=by omega
   have q2:24≤n:=by omega
   clear h hS pd N1 hh e1 kx;go_enter Tryz.func90,Tryz.ntmps90
   go_wp2_with (first
    |(go_at_call 110
      refine(HV.out _ HQ.out).mono ?_
      rintro e w2 ⟨rfl,ar⟩;have iF:=qh (H0.out.bl ar);have aV:=qh (aN.out.bl ar);have vE:=qh (Ko.out.trans (aY.of_below ar));have c0:=aV.out.cell (i:=0) rfl;have c1:=aV.out.cell (i:=1) rfl;have s0:=iF.out.s.cell (i:=0) rfl;clear ar H0 aN Ko Tv Tb))
   go_ret;exact fX.no HR.out (by decide) rfl iF.out.below vE.out
  ·have HR:Hid (jG (Vs.map vS,Es,G) (x1,x2)=((eY (Vs.map vS) ((x1,x2),[],Jaf,0),Es,G),0)):=qh (by unfold jG;rw[if_neg (by rw[hh];decide),if_neg (by rw[Ρ,h.vlen];omega)]);have q1:¬(24:Int)≤(n:Int):=by omega
   have q2:¬24≤n:=by omega
   have HU:=qh (Jm.1 hS.fit.vup);have HNo:Hid (∀u∈Vs,¬u.1=(x1,x2)):=qh (ju.1 ((fe Vs (x1,x2)).trans hh));clear h hS pd N1 hh e1 kx;go_enter Tryz.func90,Tryz.ntmps90
   go_wp2_with (first
    |(go_at_call 110
      refine(HV.out _ HQ.out).mono ?_
      rintro e w2 ⟨rfl,ar⟩;have iF:=qh (H0.out.bl ar);have aV:=qh (aN.out.bl ar);have vE:=qh (Ko.out.trans (aY.of_below ar));have c0:=aV.out.cell (i:=0) rfl;have c1:=aV.out.cell (i:=1) rfl;have s0:=iF.out.s.cell (i:=0) rfl;clear ar H0 aN Ko Tv Tb)
    |(go_at_call 111
      refine(Cv iF.out ((x1,x2),(ε,0,0,[]),⟨#[]⟩,0) (rb.nil_ _) (by omega) HU.out HNo.out).mono ?_
      rintro e w3 ⟨rfl,A3,c3,DJ,QM⟩;have kz:=qh DJ;have OF:=qh (vE.out.trans QM);clear DJ QM iF vE aV c0 c1 s0))
   go_ret;exact fX.yes HR.out rfl OF.out kz.out (by rw[pw];rfl)
theorem JV (h:dK w lo g A n c Vs B m k Es C r rc G W) (hS:fA (Vs.map vS,Es,G)) (x1 x2:Int):Ζ η 91 #[υ (ζ ⟨g,0,ε⟩),φ #[J x1,J x2]] W (fX w W lo g (jD (Vs.map vS,Es,G) (x1,x2))):=by
 obtain⟨hn,hm,hr,pd⟩:=hS.n24 h;have N1:(Vs.map (·.1)).Nodup:=um Vs▸hS.fit.vup.nodup;have kx:=ax W (δ #[J x1,J x2] 30);have HV:Hid (∀X,dK w lo g A n c Vs B m k Es C r rc G X→Ζ η 110 #[υ (ζ ⟨g,0,ε⟩),φ #[J x1,J x2]] X fun e w'=>e=.returned (J (gi (fun v:VC=>v.1) Vs (x1,x2)))∧σ X.heap.size X w'):=qh (fun X hX=>j7 g A n c B m k C r rc x1 x2 Vs X hX.s (aJ hX.v) (by omega));have H0:=qh (h.up kx);have HQ:=H0;have aN:Hid (Whole (W.alloc (δ #[J x1,J x2] 30)) W.heap.size 30 [J x1,J x2]):=qh (Whole.new_ _ _ [_,_]);have Ko:=qh (aY.of_below (g:=g) kx);have zQ:=qh hS;have Tv:=aN.out.cell (i:=0) rfl;have Tb:=aN.out.cell (i:=1) rfl;cases hh:bo (Vs.map vS) (x1,x2) with
 |false=>
  have e1:=iA (k:=fun v:VC=>v.1) (l:=Vs) ((fe Vs (x1,x2)).trans hh);rw[e1] at HV;have HR:Hid (jD (Vs.map vS,Es,G) (x1,x2)=(cp,13)):=qh (by unfold jD;rw[if_pos hh]);clear h hS pd N1 hh e1 kx;go_enter Tryz.func91,Tryz.ntmps91
  go_wp2_with (first
   |(go_at_call 110
     refine(HV.out _ HQ.out).mono ?_
     rintro e w2 ⟨rfl,ar⟩;have iF:=qh (H0.out.bl ar);have aV:=qh (aN.out.bl ar);have vE:=qh (Ko.out.trans (aY.of_below ar));have c0:=aV.out.cell (i:=0) rfl;have c1:=aV.out.cell (i:=1) rfl;have s0:=iF.out.s.cell (i:=0) rfl;clear ar H0 aN Ko Tv Tb))
  go_ret;exact fX.no HR.out (by decide) rfl iF.out.below vE.out
 |true=>
  obtain⟨i,v,e1,e2,e3,e4⟩:=ij (k:=fun v:VC=>v.1) (l:=Vs) ((fe Vs (x1,x2)).trans hh);rw[e1] at HV;have hi:i<n:=by rw[←h.vlen];exact e4
  have bB:=Aw N1 e2;have e3:v.1=(x1,x2):=e3;rw[e3] at bB;have ji:v.2.1.2.2.2.length=v.2.1.2.1:=(h.rg v (ω e2)).2.1.dlen;have E7:=pd v (ω e2);have Tt:=qh ((Dz hS.fit.vup e2).trans (by rw[e3]));have fZ:=qh e2;have Yu:Hid (i<n):=qh hi;obtain⟨⟨i1,i2⟩,⟨rA,rn,bR,rL⟩,lb,at_⟩:=v;have ji:rL.length=rn:=ji;have E7:rn≤80:=E7;have bB:cL (Vs.map vS) (x1,x2)=rL:=bB;have hiI:(i:Int)<(n:Int):=by omega
  by_cases h0:rn=0
  ·have lf:rL=[]:=List.eq_nil_of_length_eq_zero (by omega);have HR:Hid (jD (Vs.map vS,Es,G) (x1,x2)=((dw (Vs.map vS) (x1,x2),Es,G),0)):=qh (by unfold jD;rw[if_neg (by rw[hh];decide),if_neg (by rw[bB,lf];simp)]);clear h hS pd N1 hh e1 kx e2 bB lf ji e4 e3;subst h0;go_enter Tryz.func91,Tryz.ntmps91
   go_wp2_with (first
    |(go_at_call 110
      refine(HV.out _ HQ.out).mono ?_
      rintro e w2 ⟨rfl,ar⟩;have iF:=qh (H0.out.bl ar);have aV:=qh (aN.out.bl ar);have vE:=qh (Ko.out.trans (aY.of_below ar));have c0:=aV.out.cell (i:=0) rfl;have c1:=aV.out.cell (i:=1) rfl;have s0:=iF.out.s.cell (i:=0) rfl;obtain⟨bb,off,rfl,bD,bM⟩:=(aJ iF.out.v).place aQ (by decide) (Nat.lt_of_le_of_lt (Jas _) Yu.out);have l2:=bM i _ fZ.out 2 _ rfl;simp only[Ν] at l2;clear bM ar H0 aN Ko Tv Tb)
    |(go_at_call 112
      refine(DX iF.out i Yu.out (by omega)).mono ?_
      rintro e w3 ⟨rfl,A3,c3,DJ,QM⟩;have kz:=qh DJ;have OF:=qh (vE.out.trans QM);clear DJ QM iF vE aV c0 c1 s0 l2))
   go_ret;exact fX.yes HR.out rfl OF.out kz.out (by rw[Tt.out])
  ·have cu:¬rL=[]:=fun e=>h0 (by rw[←ji,e];rfl)
   have HR:Hid (jD (Vs.map vS,Es,G) (x1,x2)=(cp,14)):=qh (by unfold jD;rw[if_neg (by rw[hh];decide),if_pos (by rw[bB];exact cu)]);have q1:(0:Int)<(rn:Int):=by omega
   have q2:0<rn:=by omega
   clear h hS pd N1 hh e1 kx e2 bB cu ji e4 e3;go_enter Tryz.func91,Tryz.ntmps91
   go_wp2_with (first
    |(go_at_call 110
      refine(HV.out _ HQ.out).mono ?_
      rintro e w2 ⟨rfl,ar⟩;have iF:=qh (H0.out.bl ar);have aV:=qh (aN.out.bl ar);have vE:=qh (Ko.out.trans (aY.of_below ar));have c0:=aV.out.cell (i:=0) rfl;have c1:=aV.out.cell (i:=1) rfl;have s0:=iF.out.s.cell (i:=0) rfl;obtain⟨bb,off,rfl,bD,bM⟩:=(aJ iF.out.v).place aQ (by decide) (Nat.lt_of_le_of_lt (Jas _) Yu.out);have l2:=bM i _ fZ.out 2 _ rfl;simp only[Ν] at l2;clear bM ar H0 aN Ko Tv Tb))
   go_ret;exact fX.no HR.out (by decide) rfl iF.out.below vE.out
end
theorem GO {V X:List VS} {F:List D→List D} {j:Nat} {v:VS} (hX:X=rings (V.take j) F++V.drop j) (hv:X[j]? =ζ v) (hj:j<V.length):X.set j (uk v (F v.2.1))=rings (V.take (j+1)) F++V.drop (j+1):=by
 have hl:(rings (V.take j) F).length=j:=by unfold rings;rw[Ρ,JaA];omega
 have hd:V.drop j=V[j]::V.drop (j+1):=List.drop_eq_getElem_cons hj
 have ev:v=V[j]:=by
  rw[hX,Jal (by omega),hl,JaP,hd] at hv;exact(Μ hv).symm
 rw[hX,List.set_append_right _ _ (by omega),hl,JaP,hd,List.set_cons_zero,ev,List.take_succ_eq_append_getElem hj];unfold rings;rw[JaU,Jay];rfl
section
variable {w W:ο} {lo g:Nat} {A:Option Κ} {n c:Nat} {Vs:List VC} {B:Option Κ} {m k:Nat} {Es:List EC} {C:Option Κ} {r rc:Nat} {G:List Gn}
theorem xh (h:dK w lo g A n c Vs B m k Es C r rc G W) (hn:n≤1000) (pd:∀x∈Vs,x.2.1.2.1≤1000) (f:Nat) (p q:Option Κ) (F:List D→List D) (P:ο→Prop) (hP:P W) (VK:∀X Y,P X→aY g X Y→P Y) (he:QI f) (hF:∀X A n c L,P X→aX X X.heap.size 3 A n c (aA L)→n≤1000→Ζ η f #[γ A n c,.pointer p,.pointer q] X (pC X (F L))):
 Ζ η 121 #[υ (ζ ⟨g,0,ε⟩),.func (.func f) #[] #[.pointer p,.pointer q]] W fun e w'=>e=.returned (.tuple #[])∧∃Us,dK w lo g A n c Us B m k Es C r rc G w'∧Us.map vS=rings (Vs.map vS) F∧aY g W w':=by
 have H:=qh h;have Hup:=qh VK;have HF:=qh hF;have HP:=qh hP;have Hl:=qh h.vlen;have SD:=qh pd;have c0:=h.s.cell (i:=0) rfl;clear h VK hF hP pd;go_enter Tryz.func121,Tryz.ntmps121;go_wp2;clear c0;go_loopw [12] (fun i wr=>∃(j:Nat) (Us:List VC),j≤n∧i=J (j:Int)∧Hid (dK w lo g A n c Us B m k Es C r rc G wr)∧Hid (Us.map vS=rings ((Vs.map vS).take j) F++(Vs.map vS).drop j)∧Hid (aY g W wr)) (fun i _=>n - (intOf i).toNat)
 case atStart=>exact⟨0,Vs,Jas _,rfl,H,qh (by simp[rings]),qh (aY.refl g W)⟩
 case round=>
  obtain⟨j,Us,hj,rfl,HS,HU,HK⟩:=hrel;obtain⟨wo,ec⟩:=ay wr;rw[ec] at HS HK ⊢;clear ec
  by_cases fh:j<n
  ·have hUl:Us.length=n:=HS.out.vlen;obtain⟨u,hu⟩:∃u,Us[j]? =ζ u:=⟨_,θ (by omega)⟩
   obtain⟨b,junk,rfl,fV,-⟩:=dZ HS.out.v (by omega)
   have Hj:Hid ((Vs.map vS)[j]? =ζ (vS u)):=qh (by
    have h1:(Us.map vS)[j]? =ζ (vS u):=by rw[Ψ,hu];rfl
    have hl:(rings ((Vs.map vS).take j) F).length=j:=by unfold rings;rw[Ρ,JaA,Ρ,Hl.out];omega
    rw[HU.out,Jal (by omega),hl,JaP,List.getElem?_drop,Jac] at h1;exact h1)
   have TQ:u.2.1.2.1≤1000:=by
    have h1:=Hj.out;rw[Ψ] at h1;obtain⟨v0,h2,h3⟩:=Option.map_eq_some_iff.1 h1;have h4:=SD.out v0 (ω h2);have h5:=(H.out.rg v0 (ω h2)).2.1.dlen;have h6:=(HS.out.rg u (ω hu)).2.1.dlen;have h7:v0.2.1.2.2.2.length=u.2.1.2.2.2.length:=congrArg (fun z:VS=>z.2.1.length) h3;omega
   obtain⟨b2,off,e2,bD,bM⟩:=(aJ HS.out.v).place aQ (by decide) (by omega)
   have e3:b2=b∧off=0:=by
    injection e2 with e2
    injection e2 with e4 e5
    exact⟨e4.symm,e5.symm⟩
   obtain⟨rfl,rfl⟩:=e3;have hp:=bM j u hu;have HV:=qh hu;have Ru:(j:Int)<(n:Int):=by omega
   have bB:=HS.out.rg u (ω hu);clear bM e2 hu bD fV hUl;obtain⟨⟨i1,i2⟩,⟨rA,rn,bR,rL⟩,lb,at_⟩:=u;have JZ:Hid (rb wo (rA,rn,bR,rL)):=qh bB;have TQ:rn≤1000:=TQ;have l0:=hp 0 _ rfl;have l1:=hp 1 _ rfl;have l2:=hp 2 _ rfl;have l3:=hp 3 _ rfl;have l4:=hp 4 _ rfl;simp only[Ν,Jac,Nat.zero_add] at l0 l1 l2 l3 l4;clear hp bB;go_upto_region 3 with fail
   have jq:=qh (HS.out.al (δ #[J i1,J i2,γ rA rn bR,μ lb,J at_] 59));have aI:Hid (Whole (wo.alloc (δ #[J i1,J i2,γ rA rn bR,μ lb,J at_] 59)) wo.heap.size 59 [J i1,J i2,γ rA rn bR,μ lb,J at_]):=qh (Whole.new_ _ _ _);have G8:=qh (HK.out.trans (aY.of_below (ax wo (δ #[J i1,J i2,γ rA rn bR,μ lb,J at_] 59))));have uu:=qh (JZ.out.bl (ax wo (δ #[J i1,J i2,γ rA rn bR,μ lb,J at_] 59)));obtain⟨W1,aO⟩:=ay (wo.alloc (δ #[J i1,J i2,γ rA rn bR,μ lb,J at_] 59));obtain⟨b5,Np⟩:=ay wo.heap.size;rw[aO] at jq aI G8 uu ⊢;rw[Np] at aI ⊢;clear aO Np l0 l1 l2 l3 l4 HS HK JZ;have fv:∀w',Kept aF W1.drew w'→w'.cell? ⟨g,0,ε⟩=ζ (γ (ζ ⟨b2,0,ε⟩) n c):=fun w' h=>h.nil_cell (jq.out.dr.s.cell (i:=0) rfl)
   have ld1:=dm (i:=2) aI.out rfl;refine bT (aF) [12] (by kernel_rfl) ?_;refine bf 0 ?_;refine bf 1 ?_;refine bf 2 ?_;refine bf 3 ?_;refine bf 4 ?_;refine bf 5 ?_;refine bf 6 ?_;refine bf 7 ?_;refine bf 8 ?_;apply Dt 9 (ζ 26)
   ·rfl
   ·rfl
   ·kernel_rfl
   ·rfl
   ·intro w';go_simp;first|done|exact⟨rfl,rfl⟩|exact he _ _|with_reducible rfl
   intro w' aB
   refine(HF.out w' rA rn bR rL (Hup.out W _ HP.out (G8.out.trans ((aY.of_below ((Θ _ W1).drew.trans (aB.mono (Δ _))))))) (uu.out.bl (((Θ _ W1).drew.trans (aB.mono (Δ _))))).2.1 TQ).mono ?_
   rintro e w9 ⟨A9,c9,rfl,o0,o6⟩
   refine⟨_,rfl,Kept.of_below o6,?_⟩
   obtain⟨L9,Lh⟩:=ay (F rL);rw[Lh] at o0 ⊢;have GL9:=qh Lh;have wD:=qh ((jq.out.dr.bl aB).bl o6);have I4:=qh (G8.out.trans ((aY.of_below ((Θ _ W1).drew.trans (aB.mono (Δ _)))).trans (aY.of_below o6)));have oa:=qh o0;obtain⟨N9,Ik⟩:=ay L9.length;rw[Ik] at oa ⊢;clear aB o6 o0 Lh Ik fv ld1 jq aI G8 uu;simp only[ξ,aq,ak,ao];refine kn 10 ?_;intro w' aB;apply JaG;apply JaG;apply And.intro
   ·go_simp;first|done|exact⟨rfl,rfl⟩|exact rfl
   apply And.intro
   ·exact Kept.refl _ _
   have Is:=aB;clear aB;simp only[ξ,aq,ak,ao];refine bf 11 ?_;refine lK 12 ?_;intro w' aB;replace aB:=Ext.trans Is aB;clear Is;have hV:=HV.out;obtain⟨b9,Lw,e9,-,-,Lc,hz9,DO,zH⟩:=(wD.out.bl aB).cellV (v':=((i1,i2),(A9,N9,c9,L9),lb,at_)) (j:=2) (u:=γ A9 N9 c9) hV (by decide) rfl (.inr (oa.out.bl aB))
   obtain rfl:b2=b9:=by
    injection e9 with e9
    injection e9
   have Lc:w'.cell? ⟨b2,j*5+2,ε⟩=ζ (γ rA rn bR):=Lc;have yt:=qh DO;have Kl:=qh (I4.out.trans ((aY.of_below aB).trans zH));clear DO zH e9
   refine⟨w'.setCell ⟨b2,j*5+2,ε⟩ (γ A9 N9 c9),by(go_simp;first|done|exact rfl|exact⟨rfl,rfl⟩),?_⟩
   clear Lc hz9 hV;obtain⟨W7,Fk⟩:=ay (w'.setCell ⟨b2,j*5+2,ε⟩ (γ A9 N9 c9));rw[Fk] at yt Kl ⊢;clear Fk aB wD I4;(try simp only[ξ,aq,ak,ao]);refine eX (by kernel_rfl) ?_ _;intro w8 cE;have Dd:=qh (yt.out.bl cE);have EM:=qh (Kl.out.trans (aY.of_below cE))
   have HU8:Hid ((Us.set j ((i1,i2),(A9,N9,c9,L9),lb,at_)).map vS=rings ((Vs.map vS).take (j+1)) F++(Vs.map vS).drop (j+1)):=qh (by
    rw[List.map_set];have h1:(Us.map vS)[j]? =ζ (vS ((i1,i2),(rA,rn,bR,rL),lb,at_)):=by rw[Ψ,HV.out];rfl
    have:=GO (F:=F) HU.out h1 (by rw[Ρ,Hl.out];exact fh)
    rw[←this,←GL9.out];rfl)
   clear cE yt Kl HU;go_wp2;go_roundw
   case rel=>exact⟨j+1,_,by omega,by go_num,Dd,HU8,EM⟩
   case measure=>simp[intOf];omega
  ·obtain rfl:j=n:=by omega
   have hnl:¬(j:Int)<(j:Int):=by omega
   have HU8:Hid (Us.map vS=rings (Vs.map vS) F):=qh (by
    have h1:=HU.out;rw[Ι (by rw[Ρ,Hl.out];exact Δ _),List.drop_of_length_le (by rw[Ρ,Hl.out];exact Δ _),List.append_nil] at h1;exact h1)
   go_wp2;go_end0;exact⟨rfl,Us,HS.out,HU8.out,HK.out⟩
end
def F6 (Ps:List (ψ→ο→Prop)) (i:Nat) (v:ψ) (W:ο):Prop:=match Ps[i]? with
 |some P=>P v W
 |none=>True
theorem vZ {Ps:List (ψ→ο→Prop)} (h:∀P∈Ps,∀v w w',P v w→Ext w w'→P v w') (i:Nat) (v:ψ) (w w':ο) (hg:F6 Ps i v w) (hx:Ext w w'):F6 Ps i v w':=by
 unfold F6 at hg ⊢;split at hg
 ·rename_i P e;exact h P (ω e) v w w' hg hx
 ·rename_i e;trivial
theorem rb.row {W:ο} {r:Rg} {g:Nat} {T:TypeId} {cs:List ψ} (h:rb W r) (hs:Whole W g T cs) (hT:32≠T) (rI:Array ψ):rb (W.setRow g rI) r:=by
 have cu:∀a,r.1=ζ a→a.block≠g:=fun a ha=>by
  obtain⟨cs,hw⟩:=h.2.2 a ha;exact hw.ne_ hs hT
 exact⟨h.1,h.2.1.row_far (fun a ha _ e=>cu a ha (Μ e)) _,fun a ha=>(h.2.2 a ha).imp fun cs hc=>hc.row_far (cu a ha) _⟩
end Go.Proofs.YtpdpbfmiahjiiaaGreat
