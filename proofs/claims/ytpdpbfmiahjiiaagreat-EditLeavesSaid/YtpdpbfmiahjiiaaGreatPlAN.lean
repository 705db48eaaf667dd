/- Several texts in one. -/
import Derived.Test.YtpdpbfmiahjiiaaGreatPlAA
import Derived.Test.YtpdpbfmiahjiiaaGreatPlAB
import Derived.Test.YtpdpbfmiahjiiaaGreatPlAH
import Derived.Test.YtpdpbfmiahjiiaaGreatPlAI
import Derived.Test.YtpdpbfmiahjiiaaGreatPlAJ
import Derived.Test.YtpdpbfmiahjiiaaGreatPlAM
import Derived.Laws.MakeOwn
import Derived.Laws.Strings
import Derived.Lib.SliceRun
import Derived.LoopTactic
set_option linter.unusedSectionVars false
set_option linter.unusedSimpArgs false
set_option linter.unusedVariables false
set_option maxRecDepth 100000
set_option maxHeartbeats 16000000
namespace Go.Proofs.YtpdpbfmiahjiiaaGreat
open Go.RowKit
open _root_.Go.Value renaming slice→γ,string→μ,pointer→υ,agg→φ
open _root_.Go.Obj renaming cells→δ
open _root_.Option renaming none→ε,some→ζ,some→Jae
open _root_.Go.Proofs.Tryz renaming prog→η
open _root_.List renaming getElem?_eq_getElem→θ,mem_of_getElem?→ω,mem_map→Α,take_of_length_le→Ι,length_map→Ρ,getElem?_map→Ψ,getElem?_append_right→Jal,append_assoc→Jay,length_take→JaA,map_append→JaU,map_congr_left→JaV,map_map→JaW,pairwise_map→Jbg
open _root_.Go.Act renaming put→ξ
open _root_.Go renaming World→ο,Value→ψ,Calls→Ζ,Addr→Κ,wp_region_lit→Jam,maxLen→Jap
open _root_.Bool renaming false→ρ,true→τ,and_eq_true→Jar
open _root_.Go.RowKit renaming Below→σ
open _root_.Nat renaming le_refl→Δ,le_trans→Λ,add_zero→Jac,zero_le→Jas,sub_self→JaP
open _root_.Go.RowKit.Below renaming refl→Θ
open _root_.Option.some renaming inj→Μ
open _root_.Go.Addr renaming add_lit→Ν
open _root_.ByteArray renaming empty→Jaf
open _root_.Exists renaming intro→JaG
theorem Gb (o:cO) (h1:bB o.s o.n=τ):cW o=if cV o=dk then(if eH o=τ then(if dv o.t=τ then 0 else 4) else 1) else 1:=by
 have key:(eH o=τ∧o=j5 o)↔(cV o=dk∧eH o=τ):=by
  obtain⟨k,s,n,s1,n1,s2,n2,a0,a1,a2,a3,a4,b0,b1,b2,b3,b4,e,t,m⟩:=o;unfold j5 cV dk
  by_cases k3:k=3
  ·subst k3;simp;constructor
   ·rintro⟨h,h2⟩;simp_all
   ·rintro⟨h,h2⟩;simp_all
  by_cases k5:k=5
  ·subst k5;simp;constructor
   ·rintro⟨h,h2⟩;simp_all
   ·rintro⟨h,h2⟩;simp_all
  by_cases k6:k=6
  ·subst k6;simp;constructor
   ·rintro⟨h,h2⟩;simp_all
   ·rintro⟨h,h2⟩;simp_all
  by_cases k7:k=7
  ·subst k7;simp;constructor
   ·rintro⟨h,h2⟩;simp_all
   ·rintro⟨h,h2⟩;simp_all
  by_cases k8:k=8
  ·subst k8;simp;constructor
   ·rintro⟨h,h2⟩;simp_all
   ·rintro⟨h,h2⟩;simp_all
  simp only[k3,k5,k6,k7,k8,if_false];simp;constructor
  ·rintro⟨h,h2⟩;simp_all
  ·rintro⟨h,h2⟩;simp_all
 unfold cW
 by_cases hz:cV o=dk
 ·rw[if_pos hz]
  by_cases hf:eH o=τ
  ·rw[if_pos hf,if_pos ⟨h1,key.2 ⟨hz,hf⟩⟩]
  ·rw[if_neg hf,if_neg (fun h=>hf h.2.1)]
 ·rw[if_neg hz,if_neg (fun h=>hz (key.1 h.2).1)]
theorem kO:dv ⟨#[]⟩=τ:=by decide
theorem fC (o:cO) (ht:o.t.size≤Jap):Pure 45 #[φ (aa o).toArray] (J (cW o)):=fun w=>by
 have fin:∀{b:Int},(Ζ η 45 #[φ (aa o).toArray] w fun e w'=>e=.returned (J b)∧σ w.heap.size w w')→cW o=b→Ζ η 45 #[φ (aa o).toArray] w fun e w'=>e=.returned (J (cW o))∧σ w.heap.size w w':=fun h e=>e▸h
 by_cases h0:o.k<1
 ·refine fin (Vc o (decide_eq_true h0) w) ?_;unfold cW eH;rw[if_neg];rintro⟨-,h,-⟩;rw[if_neg (by omega),if_neg (by omega),if_neg (by omega),if_neg (by omega),if_neg (by omega)] at h;cases h
 by_cases h9:8<o.k
 ·refine fin (Uk o (decide_eq_false h0) (decide_eq_true h9) w) ?_;unfold cW eH;rw[if_neg];rintro⟨-,h,-⟩;rw[if_neg (by omega),if_neg (by omega),if_neg (by omega),if_neg (by omega),if_neg (by omega)] at h;cases h
 by_cases h1:bB o.s o.n=τ
 case neg=>
  refine fin (WE o (decide_eq_false h0) (decide_eq_false h9) (by simpa using h1) w) ?_;unfold cW;rw[if_neg (fun h=>h1 h.1)]
 have hm:=Gb o h1
 by_cases h2:cV o=dk
 case neg=>
  refine fin (OC o (decide_eq_false h0) (decide_eq_false h9) h1 h2 w) ?_;rw[hm,if_neg h2]
 rw[if_pos h2] at hm
 have UL:o.k≠7→o.t=⟨#[]⟩:=fun hk=>by
  have:=congrArg cO.t h2
  unfold cV at this
  repeat' split at this
  all_goals first|exact this|(exfalso;omega)
 by_cases k3:o.k=3
 ·have hf:eH o=(mR o.a0 o.a1 o.a2 o.a3 o.a4 && mR o.b0 o.b1 o.b2 o.b3 o.b4):=by
   unfold eH;rw[if_neg (by omega),if_pos k3]
  rw[hf,UL (by omega),kO] at hm
  by_cases h3:mR o.a0 o.a1 o.a2 o.a3 o.a4=τ
  ·by_cases h4:mR o.b0 o.b1 o.b2 o.b3 o.b4=τ
   ·exact fin (Vg o (decide_eq_false h0) (decide_eq_false h9) h1 h2 k3 h3 h4 w) (by rw[hm,h3,h4];rfl)
   ·have U8:mR o.b0 o.b1 o.b2 o.b3 o.b4=ρ:=by simpa using h4
    exact fin (Va o (decide_eq_false h0) (decide_eq_false h9) h1 h2 k3 h3 U8 w) (by rw[hm,h3,U8];rfl)
  ·have Ey:mR o.a0 o.a1 o.a2 o.a3 o.a4=ρ:=by simpa using h3
   exact fin (TK o (decide_eq_false h0) (decide_eq_false h9) h1 h2 k3 Ey w) (by rw[hm,Ey];rfl)
 by_cases k5:o.k=5
 ·have hf:eH o=(bB o.s1 o.n1 && bB o.s2 o.n2 && decide (0≤o.m∧o.m≤3)):=by
   unfold eH;rw[if_neg (by omega),if_neg k3,if_pos k5]
  rw[hf,UL (by omega),kO] at hm
  by_cases h3:bB o.s1 o.n1=τ
  case neg=>
   have Ey:bB o.s1 o.n1=ρ:=by simpa using h3
   exact fin (U9 o (decide_eq_false h0) (decide_eq_false h9) h1 h2 k5 Ey w) (by rw[hm,Ey];rfl)
  by_cases h4:bB o.s2 o.n2=τ
  case neg=>
   have U8:bB o.s2 o.n2=ρ:=by simpa using h4
   exact fin (VE o (decide_eq_false h0) (decide_eq_false h9) h1 h2 k5 h3 U8 w) (by rw[hm,h3,U8];rfl)
  by_cases h5:o.m<0
  ·exact fin (Tz o (decide_eq_false h0) (decide_eq_false h9) h1 h2 k5 h3 h4 (decide_eq_true h5) w) (by rw[hm,h3,h4,decide_eq_false (by omega)];rfl)
  by_cases h6:3<o.m
  ·exact fin (Wp o (decide_eq_false h0) (decide_eq_false h9) h1 h2 k5 h3 h4 (decide_eq_false h5) (decide_eq_true h6) w) (by rw[hm,h3,h4,decide_eq_false (by omega)];rfl)
  ·exact fin (V8 o (decide_eq_false h0) (decide_eq_false h9) h1 h2 k5 h3 h4 (decide_eq_false h5) (decide_eq_false h6) w) (by rw[hm,h3,h4,decide_eq_true (by omega)];rfl)
 by_cases k6:o.k=6
 ·have hf:eH o=bB o.s2 o.n2:=by
   unfold eH;rw[if_neg (by omega),if_neg k3,if_neg k5,if_pos k6]
  rw[hf,UL (by omega),kO] at hm
  by_cases h3:bB o.s2 o.n2=τ
  ·exact fin (VQ o (decide_eq_false h0) (decide_eq_false h9) h1 h2 k6 h3 w) (by rw[hm,h3];rfl)
  ·have Ey:bB o.s2 o.n2=ρ:=by simpa using h3
   exact fin (T8 o (decide_eq_false h0) (decide_eq_false h9) h1 h2 k6 Ey w) (by rw[hm,Ey];rfl)
 by_cases k8:o.k=8
 ·have hf:eH o=oI o.m:=by
   unfold eH;rw[if_neg (by omega),if_neg k3,if_neg k5,if_neg k6,if_pos k8]
  rw[hf,UL (by omega),kO] at hm
  by_cases h3:oI o.m=τ
  ·exact fin (Wy o (decide_eq_false h0) (decide_eq_false h9) h1 h2 k8 h3 w) (by rw[hm,h3];rfl)
  ·have Ey:oI o.m=ρ:=by simpa using h3
   exact fin (Vn o (decide_eq_false h0) (decide_eq_false h9) h1 h2 k8 Ey w) (by rw[hm,Ey];rfl)
 have hf:eH o=τ:=by
  unfold eH;rw[if_pos (by omega)]
 rw[hf,if_pos rfl] at hm
 by_cases k7:o.k=7
 ·by_cases h3:dv o.t=τ
  ·exact fin (To o (decide_eq_false h0) (decide_eq_false h9) h1 h2 k7 (qh ht) h3 w) (by rw[hm,h3];rfl)
  ·have Ey:dv o.t=ρ:=by simpa using h3
   exact fin (Vx o (decide_eq_false h0) (decide_eq_false h9) h1 h2 k7 (qh ht) Ey w) (by rw[hm,Ey];rfl)
 ·rw[UL k7,kO] at hm;exact fin (Ve o (decide_eq_false h0) (decide_eq_false h9) h1 h2 (by simpa using k3) (by simpa using k5) (by simpa using k6) (by simpa using k7) (by simpa using k8) w) (by rw[hm];rfl)
theorem vN {α:Type} (l:List α) (k:Nat) (x:α) (h:l[k]? =ζ x):l.take (k+1)=l.take k++[x]:=by
 rw[List.take_add_one,h];rfl
theorem x6 (w:ο) (B size:Nat):aS w B size ε 0 0 []:=⟨by simp,fun _=>⟨rfl,rfl⟩,Δ _,fun a ha=>(by cases ha),fun a ha=>(by cases ha)⟩
def fG:List cO→Int
 |[]=>0
 |o::l=>if cW o=0 then fG l else cW o
def iS (L:List cO):Int:=if L.length<1∨6<L.length then 3 else fG L
theorem xw (l m:List cO):fG (l++m)=if fG l=0 then fG m else fG l:=by
 induction l with
 |nil=>simp[fG]
 |cons o l ih=>
  simp only[List.cons_append,fG]
  by_cases h:cW o=0
  ·simp[h,ih]
  ·simp[h]
theorem vI (L:List cO) (k:Nat) (o:cO) (h:L[k]? =ζ o) (h0:fG (L.take k)=0) (ho:cW o=0):fG (L.take (k+1))=0:=by
 rw[vN L k o h,xw,if_pos h0];simp[fG,ho]
theorem ux (L:List cO) (k:Nat) (o:cO) (h:L[k]? =ζ o) (h0:fG (L.take k)=0) (ho:cW o≠0):fG L=cW o:=by
 have e:L=L.take (k+1)++L.drop (k+1):=(List.take_append_drop _ _).symm;rw[e,vN L k o h,Jay,xw,if_pos h0];simp[fG,ho]
theorem cP (o:cO):(aa o).length=20:=rfl
theorem sZ (o:cO):(aa o).toArray.all (·.oneCell')=τ:=by simp[aa,Value.oneCell']
def MW (L:List cO) (W1:ο) (k:Nat) (wr:ο):Prop:=Ext W1 wr∧fG (L.take k)=0
theorem zB (A:Option Κ) (n c:Nat) (L:List cO) (w:ο) (h:aS w w.heap.size 20 A n c (ao aa L)) (hn:n≤Jap):
 Ζ η 54 #[φ #[γ A n c]] w fun e w'=>e=.returned (J (iS L))∧σ w.heap.size w w':=by
 have hl:=h.rlen cP (by decide);unfold Jap at hn
 by_cases h1:n<1
 ·have hm:iS L=3:=by unfold iS;rw[if_pos (by omega)]
  rw[hm];have q1:decide ((n:Int)<1)=τ:=decide_eq_true (by omega);clear hm hl h1;go_enter Tryz.func54,Tryz.ntmps54;go_wp2;go_ret;exact⟨rfl,ax _ _⟩
 have q1:decide ((n:Int)<1)=ρ:=decide_eq_false (by omega)
 by_cases h6:6<n
 ·have hm:iS L=3:=by unfold iS;rw[if_pos (by omega)]
  rw[hm];have q6:decide ((6:Int)<(n:Int))=τ:=decide_eq_true (by omega);clear hm hl h1;go_enter Tryz.func54,Tryz.ntmps54;go_wp2;go_ret;exact⟨rfl,ax _ _⟩
 have q6:decide ((6:Int)<(n:Int))=ρ:=decide_eq_false (by omega);have hm:iS L=fG L:=by unfold iS;rw[if_neg (by omega)]
 have HM:=qh hm;have HR:=qh h;obtain rfl:=hl;clear hm h;go_enter Tryz.func54,Tryz.ntmps54;go_wp2;clear q1 q6;obtain⟨W1,a7⟩:=az (w.alloc (δ #[γ A L.length c] 49));have HB:Hid (σ w.heap.size w W1):=qh (by rw[←a7];exact ax _ _);have YM:Hid (aS W1 W1.heap.size 20 A L.length c (ao aa L)):=qh (by rw[←a7];exact HR.out.al _);have HE:Hid (Whole W1 w.heap.size 49 [γ A L.length c]):=qh (by rw[←a7];exact Whole.new_ w _ [_]);rw[a7];clear a7;obtain⟨g0,dx⟩:=az w.heap.size;rw[dx] at HE ⊢;clear dx;go_loopw [19] (fun i wr=>∃k:Nat,k≤L.length∧i=J k∧Hid (MW L W1 k wr)) (fun i _=>L.length - (intOf i).toNat)
 case atStart=>exact⟨0,Jas _,rfl,qh ⟨Ext.refl _,rfl⟩⟩
 case round=>
  rename_i wr _;obtain⟨k,hk,rfl,mA⟩:=hrel
  by_cases eS:k<L.length
  ·have wz:L[k]? =ζ (L[k]'(by omega)):=θ _;obtain⟨o,go⟩:=az (L[k]'(by omega));rw[go] at wz;have HK:=qh wz;have Rc:=qh (YM.out.bl mA.out.1);obtain⟨b,off,rfl,bZ,bD⟩:=Rc.out.place cP (by decide) (by omega);have HP:=qh (bD k o wz);clear go wz bD bZ;obtain⟨x,gx⟩:=az (cW o);have HC:=qh (xv o);rw[gx] at HC;have HX:=qh gx;clear gx;go_upto_region 5 with fail
   refine Jam ?_;refine ag (v:=?_) (ζ 21) rfl (by rfl) ?_ ?_;rotate_left
   ·go_simp;(try with_reducible rfl)
   simp only[ξ,ak,aj,ah];refine ny (ζ 22) rfl (by rfl) 36 (.tmp 21) rfl ⟨b,off+k*20,ε⟩ rfl (aa o) _ HP.out Tryz.underlying36 rfl (by kernel_rfl) ?_;simp only[ξ,ak,aj,ah];refine KZ 4 rfl rfl rfl 36 (.tmp 22) rfl rfl #[J 0,J 0,J 0,J 0,J 0,J 0,J 0,J 0,J 0,J 0,J 0,J 0,J 0,J 0,J 0,J 0,J 0,.bool ρ,μ ⟨#[]⟩,J 0] ?_ (aa o).toArray (by simp) rfl (by kernel_rfl) rfl (sZ o) ?_
   ·go_simp;(try with_reducible rfl)
   simp only[ξ,ak,aj,ah];have bj:Hid (Ext W1 (wr.alloc (δ (aa o).toArray 36))):=qh (mA.out.1.trans (ax _ _));have HN:Hid (Whole (wr.alloc (δ (aa o).toArray 36)) wr.heap.size 36 (aa o)):=qh (Whole.new_ _ _ _);obtain⟨W2,eO⟩:=az (wr.alloc (δ (aa o).toArray 36));obtain⟨g2,pK⟩:=az wr.heap.size;rw[eO] at bj HN ⊢;rw[pK] at HN ⊢;clear eO pK;go_upto_region 6 with fail
   refine Jam ?_;refine bh (ζ 23) rfl (by rfl) 36 (.tmp 4) rfl g2 rfl 36 (aa o) _ HN.out Tryz.underlying36 rfl (by kernel_rfl) ?_;simp only[ξ,ak,aj,ah];go_wp2_with fail
   refine(HC.out _).mono ?_
   rintro e w3 ⟨rfl,bw⟩;have ff:=qh (bj.out.trans bw);clear bw
   by_cases hx:x=0
   ·subst hx;have HI:Hid (MW L W1 (k+1) w3):=qh ⟨ff.out,vI L k o HK.out mA.out.2 HX.out⟩;go_wp2;go_roundw
    case rel=>exact⟨k+1,by omega,by go_num,HI⟩
    case measure=>simp[intOf];omega
   ·have q:(x==0)=ρ:=by simpa using hx
    have q':(x !=0)=τ:=by simpa using hx
    have pg:Hid (fG L=x):=qh (by rw[ux L k o HK.out mA.out.2 (by rw[HX.out];exact hx),HX.out]);clear hx;go_wp2;go_ret;exact⟨lq (by rw[HM.out,pg.out]),HB.out.trans (ff.out.mono HB.out.size)⟩
  ·have pg:Hid (fG L=0):=qh (by have:=mA.out.2;rwa [Ι (by omega)] at this);go_wp2;go_ret;exact⟨lq (by rw[HM.out,pg.out]),HB.out.trans (mA.out.1.mono HB.out.size)⟩
theorem yP (A:Option Κ) (n c:Nat) (L:List cO) (w:ο) (h:aS w w.heap.size 20 A n c (ao aa L)) (hn:n≤Jap) (ht:∀o∈L,o.t.size≤Jap):
 Ζ η 39 #[φ #[γ A n c]] w fun e w'=>e=.returned (J (iS L))∧σ w.heap.size w w':=by
 have hl:=h.rlen cP (by decide);unfold Jap at hn;have HT:=qh ht;clear ht
 by_cases h1:n<1
 ·have hm:iS L=3:=by unfold iS;rw[if_pos (by omega)]
  rw[hm];have q1:decide ((n:Int)<1)=τ:=decide_eq_true (by omega);clear hm hl h1;go_enter Tryz.func39,Tryz.ntmps39;go_wp2;go_ret;exact⟨rfl,ax _ _⟩
 have q1:decide ((n:Int)<1)=ρ:=decide_eq_false (by omega)
 by_cases h6:6<n
 ·have hm:iS L=3:=by unfold iS;rw[if_pos (by omega)]
  rw[hm];have q6:decide ((6:Int)<(n:Int))=τ:=decide_eq_true (by omega);clear hm hl h1;go_enter Tryz.func39,Tryz.ntmps39;go_wp2;go_ret;exact⟨rfl,ax _ _⟩
 have q6:decide ((6:Int)<(n:Int))=ρ:=decide_eq_false (by omega);have hm:iS L=fG L:=by unfold iS;rw[if_neg (by omega)]
 have HM:=qh hm;have HR:=qh h;obtain rfl:=hl;clear hm h;go_enter Tryz.func39,Tryz.ntmps39;go_wp2;clear q1 q6;obtain⟨W1,a7⟩:=az (w.alloc (δ #[γ A L.length c] 49));have HB:Hid (σ w.heap.size w W1):=qh (by rw[←a7];exact ax _ _);have YM:Hid (aS W1 W1.heap.size 20 A L.length c (ao aa L)):=qh (by rw[←a7];exact HR.out.al _);have HE:Hid (Whole W1 w.heap.size 49 [γ A L.length c]):=qh (by rw[←a7];exact Whole.new_ w _ [_]);rw[a7];clear a7;obtain⟨g0,dx⟩:=az w.heap.size;rw[dx] at HE ⊢;clear dx;go_loopw [3] (fun i wr=>∃k:Nat,k≤L.length∧i=J k∧Hid (MW L W1 k wr)) (fun i _=>L.length - (intOf i).toNat)
 case atStart=>exact⟨0,Jas _,rfl,qh ⟨Ext.refl _,rfl⟩⟩
 case round=>
  rename_i wr _;obtain⟨k,hk,rfl,mA⟩:=hrel;have le:=(HE.out.bl mA.out.1).cell (i:=0) rfl
  by_cases eS:k<L.length
  ·have wz:L[k]? =ζ (L[k]'(by omega)):=θ _;obtain⟨o,go⟩:=az (L[k]'(by omega));rw[go] at wz;have HK:=qh wz;have Rc:=qh (YM.out.bl mA.out.1);obtain⟨b,off,rfl,bZ,bD⟩:=Rc.out.place cP (by decide) (by omega);have HP:=qh (bD k o wz);clear go wz bD bZ;obtain⟨x,gx⟩:=az (cW o);have HC:=qh (fC o (HT.out o (ω HK.out)));rw[gx] at HC;have HX:=qh gx;clear gx;go_upto_region 6 with fail
   refine Jam ?_;refine ag (v:=?_) (ζ 22) rfl (by rfl) ?_ ?_;rotate_left
   ·go_simp;(try with_reducible rfl)
   simp only[ξ,ak,aj,ah];refine ag (v:=?_) (ζ 23) rfl (by rfl) ?_ ?_;rotate_left
   ·go_simp;(try with_reducible rfl)
   simp only[ξ,ak,aj,ah];refine ag (v:=?_) (ζ 24) rfl (by rfl) ?_ ?_;rotate_left
   ·go_simp;(try with_reducible rfl)
   simp only[ξ,ak,aj,ah];refine ag (v:=?_) (ζ 25) rfl (by rfl) ?_ ?_;rotate_left
   ·go_simp;(try with_reducible rfl)
   simp only[ξ,ak,aj,ah];refine ny (ζ 26) rfl (by rfl) 36 (.tmp 25) rfl ⟨b,off+k*20,ε⟩ rfl (aa o) _ HP.out Tryz.underlying36 rfl (by kernel_rfl) ?_;simp only[ξ,ak,aj,ah];have bj:=qh mA.out.1;go_wp2_with fail
   refine(HC.out _).mono ?_
   rintro e w3 ⟨rfl,bw⟩;have ff:=qh (bj.out.trans bw);clear bw
   by_cases hx:x=0
   ·subst hx;have HI:Hid (MW L W1 (k+1) w3):=qh ⟨ff.out,vI L k o HK.out mA.out.2 HX.out⟩;go_wp2;go_roundw
    case rel=>exact⟨k+1,by omega,by go_num,HI⟩
    case measure=>simp[intOf];omega
   ·have q:(x==0)=ρ:=by simpa using hx
    have q':(x !=0)=τ:=by simpa using hx
    have pg:Hid (fG L=x):=qh (by rw[ux L k o HK.out mA.out.2 (by rw[HX.out];exact hx),HX.out]);clear hx;go_wp2;go_ret;exact⟨lq (by rw[HM.out,pg.out]),HB.out.trans (ff.out.mono HB.out.size)⟩
  ·have pg:Hid (fG L=0):=qh (by have:=mA.out.2;rwa [Ι (by omega)] at this);go_wp2;go_ret;exact⟨lq (by rw[HM.out,pg.out]),HB.out.trans (mA.out.1.mono HB.out.size)⟩
def bC (o:cO):Nm:=(o.s,o.n)
def EJ (o:cO):Nm:=(o.s1,o.n1)
def lf (o:cO):Nm:=(o.s2,o.n2)
def wA (o:cO):Nm × D:=((o.a0,o.a1),(o.a2,o.a3,o.a4))
def nQ (o:cO):Nm × D:=((o.b0,o.b1),(o.b2,o.b3,o.b4))
def iF (o:cO) (p:ByteArray × Int):ByteArray × Int:=if o.k=7 then(o.t,p.2) else(p.1,o.m)
def bO (S:SS) (o:cO):SS × Int:=
 if o.k=1 then jk S (bC o) else if o.k=2 then fX S (bC o) else if o.k=3 then jN ly S (bC o) (wA o) (nQ o)
 else if o.k=4 then iJ S (bC o) else if o.k=5 then gS S (bC o) (EJ o) (lf o) o.m else if o.k=6 then fz S (bC o) (lf o) else setS S (bC o) o.e (iF o)
def lM (S:SS) (o:cO):SS × Int:=if cW o=0 then bO S o else(cC,cW o)
def hY (S:SS):List cO→SS × Int
 |[]=>(S,0)
 |o::L=>if (bO S o).2=0 then hY (bO S o).1 L else(cC,(bO S o).2)
def fS (S:SS) (L:List cO):SS × Int:=if iS L=0 then hY S L else(cC,iS L)
def x5 (S:SS) (L:List cO):SS:=if (fS S L).2=0 then(fS S L).1 else S
theorem Dw (V:List VS) (x:Nm) (f:ByteArray × Int→ByteArray × Int):(nG V x f).map (·.1)=V.map (·.1):=by
 unfold nG;rw[JaW];refine JaV (fun v _=>?_)
 show(if v.1=x then(v.1,v.2.1,f v.2.2) else v).1=v.1
 split<;>rfl
theorem zZ (V:List VS) (x:Nm) (f:ByteArray × Int→ByteArray × Int):(nG V x f).map (·.2.1)=V.map (·.2.1):=by
 unfold nG;rw[JaW];refine JaV (fun v _=>?_)
 show(if v.1=x then(v.1,v.2.1,f v.2.2) else v).2.1=v.2.1
 split<;>rfl
theorem CN (E:List EC) (x:Nm) (f:ByteArray × Int→ByteArray × Int):(rR E x f).map (·.1)=E.map (·.1):=by
 unfold rR;rw[JaW];refine JaV (fun v _=>?_)
 show(if v.1=x then(v.1,f v.2) else v).1=v.1
 split<;>rfl
theorem Jr {V W:List VS} (e:W.map (·.2.1)=V.map (·.2.1)):W.flatMap (fun v=>v.2.1)=V.flatMap (fun v=>v.2.1)∧(∀d,cF W d=cF V d)∧∀v∈W,∃u∈V,u.2.1=v.2.1:=by
 refine⟨?_,fun d=>?_,fun v hv=>?_⟩
 ·rw[List.flatMap_def,List.flatMap_def,e]
 ·have k:∀U:List VS,cF U d=(U.map (·.2.1)).any (fun l=>decide (d∈l)):=fun U=>by unfold cF;rw[List.any_map];rfl
  rw[k,k,e]
 ·have:v.2.1∈V.map (·.2.1):=e▸Α.2 ⟨v,hv,rfl⟩
  obtain⟨u,hu,q⟩:=Α.1 this;exact⟨u,hu,q⟩
theorem G6 {E F:List EC} (e:F.map (·.1)=E.map (·.1)) (x:Nm):cx F x=cx E x:=by
 have h:∀U:List EC,cx U x=(U.map (·.1)).any (fun k=>decide (k=x)):=fun U=>by
  unfold cx nL;rw[List.any_map];rfl
 rw[h,h,e]
theorem eK.setV {S:SS} (h:eK S) (x:Nm) (f:ByteArray × Int→ByteArray × Int):eK (nG S.1 x f,S.2):=by
 obtain⟨r1,r2,r3⟩:=Jr (zZ S.1 x f)
 refine⟨om h.vup (Dw _ _ _),h.eup,by show(List.flatMap _ _).Nodup;rw[r1];exact h.once,fun v hv=>?_,fun v hv d hd=>?_,fun e he=>?_⟩
 ·obtain⟨u,hu,q⟩:=r3 v hv;rw[←q];exact h.turned u hu
 ·obtain⟨u,hu,q⟩:=r3 v hv;exact h.known u hu d (q▸hd)
 ·show cF (nG S.1 x f) _=τ∧cF (nG S.1 x f) _=τ;rw[r2,r2];exact h.ends e he
theorem eK.setE {S:SS} (h:eK S) (x:Nm) (f:ByteArray × Int→ByteArray × Int):eK (S.1,rR S.2.1 x f,S.2.2):=by
 have k:=CN S.2.1 x f
 refine⟨h.vup,?_,h.once,h.turned,fun v hv d hd=>?_,fun e he=>?_⟩
 ·have h1:(S.2.1.map (·.1)).Pairwise (fun a b=>eN a b<0):=Jbg.2 h.eup;rw[←k] at h1;exact Jbg.1 h1
 ·show cx (rR S.2.1 x f) _=τ∧_;rw[G6 k];exact h.known v hv d hd
 ·have:e.1∈S.2.1.map (·.1):=k▸Α.2 ⟨e,he,rfl⟩
  obtain⟨u,hu,q⟩:=Α.1 this;rw[←q];exact h.ends u hu
theorem nY:∀(G:List Gn) (g:Gn),fi G→(G.any fun y=>decide (y.1=g.1))=τ→(nX G g).length≤G.length
 |[],g,_,h=>by simp at h
 |y::G,g,hr,h=>by
  show(if cB y g<0 then y::nX G g else if cB y g=0 then g::G else g::y::G).length≤G.length+1
  split
  ·rename_i eS;have bQ:¬y.1=g.1:=fun e=>by have:=(hD y g).2 e;omega
   have h2:(G.any fun y=>decide (y.1=g.1))=τ:=by
    rw[List.any_cons,decide_eq_false bQ] at h;exact h
   have:=nY G g (ns hr) h2
   simp only[List.length_cons];omega
  ·split
   ·simp
   ·rename_i h1 h2;obtain⟨z,hz,e⟩:=List.any_eq_true.1 h;have h3:=lx G hr hz;have h4:cB y g=cB y z:=by unfold cB;rw[of_decide_eq_true e]
    omega
theorem uA {G:List Gn} {x:Gn} (h:(G.any fun y=>decide (y.1=x.1))=ρ) (hn:¬G.length≥400):eA G x=nX G x:=by unfold eA;rw[h,if_neg (by simpa using hn)]
theorem uF {G:List Gn} {x:Gn} (h:(G.any fun y=>decide (y.1=x.1))=ρ) (hn:G.length≥400):eA G x=G:=by unfold eA;rw[h,if_pos (by simpa using hn)]
theorem s4 {G:List Gn} {x:Gn} (h:(G.any fun y=>decide (y.1=x.1))=τ) (hn:¬G.length - 1≥400):eA G x=nX G x:=by unfold eA;rw[h,if_neg (by simpa using hn)]
theorem kS (G:List Gn) (g:Gn) (h:G.length≤400) (hr:fi G):(eA G g).length≤400:=by
 cases ha:(G.any fun y=>decide (y.1=g.1)) with
 |true=>
  by_cases hq:G.length - 1≥400
  ·omega
  ·rw[s4 ha hq];have h1:=nY G g hr ha;omega
 |false=>
  by_cases hq:G.length≥400
  ·rw[uF ha hq];exact h
  ·rw[uA ha hq]
   have:=zG G g
   omega
theorem fx {G:List Gn} (g:Gn) (h:fi G):fi (eA G g):=by
 have h1:=xh G g h;unfold eA;split<;>split<;>assumption
theorem jQ {P:Nm→ByteArray × Int→Prop} {V:List VS} {x:Nm} {l:List D} (h:∀v∈V,P v.1 v.2.2):∀v∈bI V x l,P v.1 v.2.2:=fun v hv=>by
 rcases kX hv with⟨h1,h2⟩|⟨u,hu,h1,h2⟩
 ·exact h v h1
 ·rw[h2];exact h u hu
theorem fb (V:List VS) (x:Nm) (l:List D):(bI V x l).length=V.length:=by unfold bI;rw[Ρ]
theorem qQ {α:Type} {k:α→Nm} (l:List α) (x:Nm):(fo k l x).length≤l.length:=List.length_filter_le _ _
theorem ET {o:cO} (h:cW o=0):bB o.s o.n=τ∧eH o=τ∧o=j5 o∧dv o.t=τ:=by
 unfold cW at h;split at h
 ·rename_i h1;split at h
  ·rename_i h2;exact⟨h1.1,h1.2.1,h1.2.2,h2⟩
  ·cases h
 ·cases h
theorem nR:dv Jaf=τ:=by decide
theorem oW:kt 0=τ:=by decide
theorem ua {α:Type} {p:α→Bool} {l:List α} {a:α} (h:a∈l.filter p):a∈l:=(List.mem_filter.1 h).1
theorem il.kind {S:SS} (h:il S) {o:cO} (ho:cW o=0):il (bO S o).1:=by
 obtain⟨m1,m2,m3,m4⟩:=ET ho;unfold bO;split
 ·unfold jk;split
  ·exact dt
  ·rename_i hn;split
   ·exact dt
   ·have hn:=Bool.eq_false_iff.2 hn
    refine⟨h.fit.addV hn,by show(fQ _ _).length≤24;unfold fQ;rw[jS];omega,h.e40,h.g400,fun v hv=>?_,h.em,h.gr⟩
    rcases dL.1 hv with rfl|hv
    ·exact⟨m1,nR,oW⟩
    ·exact h.vm v hv
 split
 ·unfold fX;split
  ·exact dt
  ·rename_i hh;split
   ·exact dt
   ·rename_i hr;have hh:bH S.1 (bC o)=τ:=by simpa using hh
    obtain⟨u,hu,e⟩:=cT.1 hh;have hr:ck S.1 (bC o)=[]:=by simpa using hr
    have e:u.1=bC o:=e;rw[←e,jR h.fit.rg.keys hu] at hr;rw[←e];exact⟨h.fit.remV hu hr,Λ (qQ _ _) h.v24,h.e40,h.g400,fun v hv=>h.vm v (ua hv),h.em,h.gr⟩
 split
 ·unfold jN;split
  ·exact dt
  ·rename_i hE;split
   ·exact dt
   ·split
    ·exact dt
    ·rename_i hl Ad;rw[not_or] at Ad;have ha:bH S.1 (wA o).1=τ:=by simpa using Ad.1
     have hb:bH S.1 (nQ o).1=τ:=by simpa using Ad.2
     have hE:cx S.2.1 (bC o)=ρ:=by simpa using hE
     obtain⟨b2,dA⟩:=az ((if (nQ o).2=bg (bC o) 0 then nQ o else ml S.1 S.2.2 (nQ o)));have ar:bH S.1 b2.1=τ:=by rw[←dA];split<;>exact hb
     dsimp only;rw[dA];split
     ·refine⟨h.fit.link hE (a:=ml S.1 S.2.2 (wA o)) ha ar _,by show(dw _ _ _).length≤24;unfold dw;rw[fb,fb];exact h.v24,by show(iZ _ _).length≤40;unfold iZ;rw[jS];omega,h.g400,?_,fun e he=>?_,h.gr⟩
      ·exact jQ (P:=fun x t=>bB x.1 x.2=τ∧dv t.1=τ∧kt t.2=τ) (jQ (P:=fun x t=>bB x.1 x.2=τ∧dv t.1=τ∧kt t.2=τ) h.vm)
      ·rcases dL.1 he with rfl|he
       ·exact⟨m1,nR,oW⟩
       ·exact h.em e he
     ·exact dt
 split
 ·unfold iJ;split
  ·exact dt
  ·rename_i hE;have hE:cx S.2.1 (bC o)=τ:=by simpa using hE
   refine⟨h.fit.unlink hE _,by show(dK _ _).length≤24;unfold dK;rw[fb,fb];exact h.v24,Λ (qQ _ _) h.e40,kS _ _ (kS _ _ h.g400 h.gr) (fx _ h.gr),?_,fun e he=>h.em e (ua he),fx _ (fx _ h.gr)⟩
   exact jQ (P:=fun x t=>bB x.1 x.2=τ∧dv t.1=τ∧kt t.2=τ) (jQ (P:=fun x t=>bB x.1 x.2=τ∧dv t.1=τ∧kt t.2=τ) h.vm)
 split
 ·rename_i k1 k2 k3 k4 k5;unfold gS;split
  ·exact dt
  ·rename_i hE;split
   ·exact dt
   ·rename_i ui;split
    ·exact dt
    ·rename_i hl;rw[not_or] at ui hl;have hE:cx S.2.1 (bC o)=τ:=by simpa using hE
     have hn:bH S.1 (EJ o)=ρ:=by simpa using ui.1
     have hot:cx S.2.1 (lf o)=ρ:=by simpa using ui.2
     have hf:bB o.s1 o.n1=τ∧bB o.s2 o.n2=τ∧0≤o.m∧o.m≤3:=by
      unfold eH at m2;rw[if_neg (by omega),if_neg k3,if_pos k5,Jar,Jar] at m2;exact⟨m2.1.1,m2.1.2,(of_decide_eq_true m2.2).1,(of_decide_eq_true m2.2).2⟩
     obtain⟨f1,f2,f3,f4⟩:=hf;have hs:(1:Int) - o.m.tmod 2=0∨1 - o.m.tmod 2=1:=by rw[Int.tmod_eq_emod_of_nonneg f3];omega
     have ht:o.m.tdiv 2=0∨o.m.tdiv 2=1:=by rw[Int.tdiv_eq_ediv_of_nonneg f3];omega
     refine⟨h.fit.split hE hn hot hs ht _,by show(fQ _ _).length≤24;unfold fQ dP;rw[jS,fb];omega,by show(iZ _ _).length≤40;unfold iZ;rw[jS];omega,h.g400,fun v hv=>?_,fun e he=>?_,h.gr⟩
     ·rcases dL.1 hv with rfl|hv
      ·exact⟨f1,nR,oW⟩
      ·exact jQ (P:=fun x t=>bB x.1 x.2=τ∧dv t.1=τ∧kt t.2=τ) h.vm v hv
     ·rcases dL.1 he with rfl|he
      ·exact⟨f2,nR,oW⟩
      ·exact h.em e he
 split
 ·unfold fz;split
  ·exact dt
  ·rename_i hh;have hh:bH S.1 (bC o)=τ:=by simpa using hh
   obtain⟨u,hu,e⟩:=cT.1 hh;have e:u.1=bC o:=e;rw[←e,jR h.fit.rg.keys hu];split
   ·exact dt
   ·rename_i a b hm
    refine⟨h.fit.smooth hu hm _,by show(dP _ _ _).length≤24;unfold dP;rw[fb];exact Λ (qQ _ _) h.v24,Λ (qQ _ _) h.e40,kS _ _ (kS _ _ h.g400 h.gr) (fx _ h.gr),?_,fun e he=>h.em e (ua he),fx _ (fx _ h.gr)⟩
    exact jQ (P:=fun x t=>bB x.1 x.2=τ∧dv t.1=τ∧kt t.2=τ) (fun v hv=>h.vm v (ua hv))
 ·rename_i k1 k2 k3 k4 k5 k6
  have hp:∀p:ByteArray × Int,dv p.1=τ∧kt p.2=τ→dv (iF o p).1=τ∧kt (iF o p).2=τ:=fun p hp=>by
   unfold iF;split
   ·exact⟨m4,hp.2⟩
   ·rename_i k7;unfold eH at m2;rw[if_neg (by omega),if_neg k3,if_neg k5,if_neg k6] at m2;split at m2
    ·exact⟨hp.1,m2⟩
    ·cases m2
  unfold setS;split
  ·split
   ·exact⟨eK.setE h.fit _ _,h.v24,by show(rR _ _ _).length≤40;unfold rR;rw[Ρ];exact h.e40,h.g400,h.vm,fun e he=>by
     obtain⟨u,hu,rfl⟩:=Α.1 he;have hq:=h.em u hu
     by_cases q:u.1=bC o
     ·rw[if_pos q];exact⟨hq.1,hp u.2 hq.2⟩
     ·rw[if_neg q];exact hq,h.gr⟩
   ·exact dt
  ·split
   ·exact⟨eK.setV h.fit _ _,by show(nG _ _ _).length≤24;unfold nG;rw[Ρ];exact h.v24,h.e40,h.g400,fun v hv=>by
     obtain⟨u,hu,rfl⟩:=Α.1 hv;have hq:=h.vm u hu
     by_cases q:u.1=bC o
     ·rw[if_pos q];exact⟨hq.1,hp u.2.2 hq.2⟩
     ·rw[if_neg q];exact hq,h.em,h.gr⟩
   ·exact dt
theorem il.one {S:SS} (h:il S) (o:cO):il (lM S o).1:=by
 unfold lM;split
 ·rename_i ho;exact h.kind ho
 ·exact dt
theorem oV (Vs:List VC) (x:Nm):nL (fun v:VC=>v.1) Vs x=bH (Vs.map vS) x:=by
 unfold bH nL;rw[List.any_map];rfl
theorem rh (v:VC):∀Vs:List VC,(fp (fun v:VC=>v.1) Vs v).map vS=fQ (Vs.map vS) (vS v)
 |[]=>rfl
 |u::Vs=>by
  show(if eN v.1 u.1<0 then v::u::Vs else u::fp (fun v:VC=>v.1) Vs v).map vS=if eN v.1 u.1<0 then vS v::vS u::Vs.map vS else vS u::fQ (Vs.map vS) (vS v)
  split
  ·rfl
  ·rw[List.map_cons,rh v Vs]
theorem NA {Vs:List VC}:sv (fun v:VS=>v.1) (Vs.map vS)↔sv (fun v:VC=>v.1) Vs:=Jbg
theorem Jl {Vs:List VC} (hu:sv (fun v:VS=>v.1) (Vs.map vS)) {i:Nat} {v:VC} (hv:Vs[i]? =ζ v):(Vs.eraseIdx i).map vS=cK (Vs.map vS) v.1:=by
 have h1:(Vs.map vS)[i]? =ζ (vS v):=by rw[Ψ,hv];rfl
 have h2:=yY (k:=fun v:VS=>v.1) hu h1;unfold cK;rw[show v.1=(vS v).1 from rfl,h2,List.eraseIdx_eq_take_drop_succ,JaU,List.map_take,List.map_drop]
theorem NR {Es:List EC} (hu:sv (fun e:EC=>e.1) Es) {i:Nat} {v:EC} (hv:Es[i]? =ζ v):Es.eraseIdx i=eI Es v.1:=by
 unfold eI;rw[yY (k:=fun e:EC=>e.1) hu hv,List.eraseIdx_eq_take_drop_succ]
theorem G3 {Vs:List VC} (hk:(Vs.map (·.1)).Nodup) {i:Nat} {v:VC} (hv:Vs[i]? =ζ v):ck (Vs.map vS) v.1=v.2.1.2.2.2:=
 jR (V:=Vs.map vS) (u:=vS v) (by rw[kx];exact hk) (Α.2 ⟨v,ω hv,rfl⟩)
def mj (w W:ο) (lo g:Nat) (R:SS × Int) (e:Ending) (w':ο):Prop:=
 e=.returned (J R.2)∧σ w.heap.size w w'∧bc g W w'∧(R.2=0→∃A n c Vs B m k Es C r rc G,fH w lo g A n c Vs B m k Es C r rc G w'∧(Vs.map vS,Es,G)=R.1)
theorem mj.no {w W w':ο} {lo g:Nat} {R:SS × Int} {e:Ending} {z:Int} (hR:R=(cC,z)) (hz:z≠0) (he:e=.returned (J z)) (hb:σ w.heap.size w w') (hk:bc g W w'):mj w W lo g R e w':=by
 subst hR;exact⟨he,hb,hk,fun q=>absurd q hz⟩
theorem mj.yes {w W w':ο} {lo g:Nat} {R:SS × Int} {e:Ending} {S:SS} {A:Option Κ} {n c:Nat} {Vs:List VC} {B:Option Κ} {m k:Nat} {Es:List EC} {C:Option Κ} {r rc:Nat} {G:List Gn} (hR:R=(S,0)) (he:e=.returned (J 0)) (hk:bc g W w') (h:fH w lo g A n c Vs B m k Es C r rc G w') (hS:(Vs.map vS,Es,G)=S):mj w W lo g R e w':=by
 subst hR;exact⟨he,h.below,hk,fun _=>⟨A,n,c,Vs,B,m,k,Es,C,r,rc,G,h,hS⟩⟩
theorem il.n24 {A B C:Option Κ} {w W:ο} {lo g n c m k r rc:Nat} {Vs:List VC} {Es:List EC} {G:List Gn} (hS:il (Vs.map vS,Es,G)) (h:fH w lo g A n c Vs B m k Es C r rc G W):n≤24∧m≤40∧r≤400∧∀x∈Vs,x.2.1.2.1≤80:=by
 have h1:=hS.v24;have h2:(Vs.map vS).length=n:=by rw[Ρ];exact h.vlen
 have h3:=hS.e40;have h4:=hS.g400
 refine⟨by rw[←h2];exact h1,by rw[←h.elen];exact h3,by rw[←h.glen];exact h4,fun x hx=>?_⟩
 have:=hS.short (vS x) (Α.2 ⟨x,hx,rfl⟩)
 have h5:x.2.1.2.2.2.length=x.2.1.2.1:=(h.rg x hx).2.1.dlen;rw[←h5];exact this
section
variable {w W:ο} {lo g:Nat} {A:Option Κ} {n c:Nat} {Vs:List VC} {B:Option Κ} {m k:Nat} {Es:List EC} {C:Option Κ} {r rc:Nat} {G:List Gn}
theorem Gh (h:fH w lo g A n c Vs B m k Es C r rc G W) (hS:il (Vs.map vS,Es,G)) (x1 x2:Int):Ζ η 90 #[υ (ζ ⟨g,0,ε⟩),φ #[J x1,J x2]] W (mj w W lo g (jk (Vs.map vS,Es,G) (x1,x2))):=by
 obtain⟨hn,hm,hr,tQ⟩:=hS.n24 h;have KT:(Vs.map (·.1)).Nodup:=kx Vs▸hS.fit.vup.nodup;have jn:=ax W (δ #[J x1,J x2] 30);have HV:Hid (∀X,fH w lo g A n c Vs B m k Es C r rc G X→Ζ η 110 #[υ (ζ ⟨g,0,ε⟩),φ #[J x1,J x2]] X fun e w'=>e=.returned (J (oD (fun v:VC=>v.1) Vs (x1,x2)))∧σ X.heap.size X w'):=qh (fun X hX=>Fk g A n c B m k C r rc x1 x2 Vs X hX.s (bk hX.v) (by omega));have H0:=qh (h.up jn);have HQ:=H0;have aR:Hid (Whole (W.alloc (δ #[J x1,J x2] 30)) W.heap.size 30 [J x1,J x2]):=qh (Whole.new_ _ _ [_,_]);have zm:=qh (bc.of_below (g:=g) jn);have yO:=qh hS;have MA:=aR.out.cell (i:=0) rfl;have Fe:=aR.out.cell (i:=1) rfl;cases hh:bH (Vs.map vS) (x1,x2) with
 |true=>
  obtain⟨i,v,e1,e2,e3,e4⟩:=uB (k:=fun v:VC=>v.1) (l:=Vs) ((oV Vs (x1,x2)).trans hh);rw[e1] at HV;have HR:Hid (jk (Vs.map vS,Es,G) (x1,x2)=(cC,12)):=qh (by unfold jk;rw[if_pos hh]);clear h hS tQ KT hh e1 e2 e3 jn;go_enter Tryz.func90,Tryz.ntmps90
  go_wp2_with (first
   |(go_at_call 110
     refine(HV.out _ HQ.out).mono ?_
     rintro e w2 ⟨rfl,ar⟩;have su:=qh (H0.out.bl ar);have bj:=qh (aR.out.bl ar);have ss:=qh (zm.out.trans (bc.of_below ar));have c0:=bj.out.cell (i:=0) rfl;have c1:=bj.out.cell (i:=1) rfl;have s0:=su.out.s.cell (i:=0) rfl;clear ar H0 aR zm MA Fe))
  go_ret;exact mj.no HR.out (by decide) rfl su.out.below ss.out
 |false=>
  have e1:=rp (k:=fun v:VC=>v.1) (l:=Vs) ((oV Vs (x1,x2)).trans hh);rw[e1] at HV
  by_cases qM:n=24
  ·have HR:Hid (jk (Vs.map vS,Es,G) (x1,x2)=(cC,3)):=qh (by unfold jk;rw[if_neg (by rw[hh];decide),if_pos (by rw[Ρ,h.vlen];omega)]);have q1:(24:Int)≤(n:Int):=by omega
   have q2:24≤n:=by omega
   clear h hS tQ KT hh e1 jn;go_enter Tryz.func90,Tryz.ntmps90
   go_wp2_with (first
    |(go_at_call 110
      refine(HV.out _ HQ.out).mono ?_
      rintro e w2 ⟨rfl,ar⟩;have su:=qh (H0.out.bl ar);have bj:=qh (aR.out.bl ar);have ss:=qh (zm.out.trans (bc.of_below ar));have c0:=bj.out.cell (i:=0) rfl;have c1:=bj.out.cell (i:=1) rfl;have s0:=su.out.s.cell (i:=0) rfl;clear ar H0 aR zm MA Fe))
   go_ret;exact mj.no HR.out (by decide) rfl su.out.below ss.out
  ·have HR:Hid (jk (Vs.map vS,Es,G) (x1,x2)=((fQ (Vs.map vS) ((x1,x2),[],Jaf,0),Es,G),0)):=qh (by unfold jk;rw[if_neg (by rw[hh];decide),if_neg (by rw[Ρ,h.vlen];omega)]);have q1:¬(24:Int)≤(n:Int):=by omega
   have q2:¬24≤n:=by omega
   have HU:=qh (NA.1 hS.fit.vup);have HNo:Hid (∀u∈Vs,¬u.1=(x1,x2)):=qh (pt.1 ((oV Vs (x1,x2)).trans hh));clear h hS tQ KT hh e1 jn;go_enter Tryz.func90,Tryz.ntmps90
   go_wp2_with (first
    |(go_at_call 110
      refine(HV.out _ HQ.out).mono ?_
      rintro e w2 ⟨rfl,ar⟩;have su:=qh (H0.out.bl ar);have bj:=qh (aR.out.bl ar);have ss:=qh (zm.out.trans (bc.of_below ar));have c0:=bj.out.cell (i:=0) rfl;have c1:=bj.out.cell (i:=1) rfl;have s0:=su.out.s.cell (i:=0) rfl;clear ar H0 aR zm MA Fe)
    |(go_at_call 111
      refine(IS su.out ((x1,x2),(ε,0,0,[]),⟨#[]⟩,0) (lj.nil_ _) (by omega) HU.out HNo.out).mono ?_
      rintro e w3 ⟨rfl,A3,c3,xb,Np⟩;have ye:=qh xb;have DK:=qh (ss.out.trans Np);clear xb Np su ss bj c0 c1 s0))
   go_ret;exact mj.yes HR.out rfl DK.out ye.out (by rw[rh];rfl)
theorem FZ (h:fH w lo g A n c Vs B m k Es C r rc G W) (hS:il (Vs.map vS,Es,G)) (x1 x2:Int):Ζ η 91 #[υ (ζ ⟨g,0,ε⟩),φ #[J x1,J x2]] W (mj w W lo g (fX (Vs.map vS,Es,G) (x1,x2))):=by
 obtain⟨hn,hm,hr,tQ⟩:=hS.n24 h;have KT:(Vs.map (·.1)).Nodup:=kx Vs▸hS.fit.vup.nodup;have jn:=ax W (δ #[J x1,J x2] 30);have HV:Hid (∀X,fH w lo g A n c Vs B m k Es C r rc G X→Ζ η 110 #[υ (ζ ⟨g,0,ε⟩),φ #[J x1,J x2]] X fun e w'=>e=.returned (J (oD (fun v:VC=>v.1) Vs (x1,x2)))∧σ X.heap.size X w'):=qh (fun X hX=>Fk g A n c B m k C r rc x1 x2 Vs X hX.s (bk hX.v) (by omega));have H0:=qh (h.up jn);have HQ:=H0;have aR:Hid (Whole (W.alloc (δ #[J x1,J x2] 30)) W.heap.size 30 [J x1,J x2]):=qh (Whole.new_ _ _ [_,_]);have zm:=qh (bc.of_below (g:=g) jn);have yO:=qh hS;have MA:=aR.out.cell (i:=0) rfl;have Fe:=aR.out.cell (i:=1) rfl;cases hh:bH (Vs.map vS) (x1,x2) with
 |false=>
  have e1:=rp (k:=fun v:VC=>v.1) (l:=Vs) ((oV Vs (x1,x2)).trans hh);rw[e1] at HV;have HR:Hid (fX (Vs.map vS,Es,G) (x1,x2)=(cC,13)):=qh (by unfold fX;rw[if_pos hh]);clear h hS tQ KT hh e1 jn;go_enter Tryz.func91,Tryz.ntmps91
  go_wp2_with (first
   |(go_at_call 110
     refine(HV.out _ HQ.out).mono ?_
     rintro e w2 ⟨rfl,ar⟩;have su:=qh (H0.out.bl ar);have bj:=qh (aR.out.bl ar);have ss:=qh (zm.out.trans (bc.of_below ar));have c0:=bj.out.cell (i:=0) rfl;have c1:=bj.out.cell (i:=1) rfl;have s0:=su.out.s.cell (i:=0) rfl;clear ar H0 aR zm MA Fe))
  go_ret;exact mj.no HR.out (by decide) rfl su.out.below ss.out
 |true=>
  obtain⟨i,v,e1,e2,e3,e4⟩:=uB (k:=fun v:VC=>v.1) (l:=Vs) ((oV Vs (x1,x2)).trans hh);rw[e1] at HV;have hi:i<n:=by rw[←h.vlen];exact e4
  have aW:=G3 KT e2;have e3:v.1=(x1,x2):=e3;rw[e3] at aW;have jd:v.2.1.2.2.2.length=v.2.1.2.1:=(h.rg v (ω e2)).2.1.dlen;have D9:=tQ v (ω e2);have Rb:=qh ((Jl hS.fit.vup e2).trans (by rw[e3]));have fK:=qh e2;have Vo:Hid (i<n):=qh hi;obtain⟨⟨i1,i2⟩,⟨rA,rn,bE,rL⟩,lb,at_⟩:=v;have jd:rL.length=rn:=jd;have D9:rn≤80:=D9;have aW:ck (Vs.map vS) (x1,x2)=rL:=aW;have hiI:(i:Int)<(n:Int):=by omega
  by_cases h0:rn=0
  ·have kg:rL=[]:=List.eq_nil_of_length_eq_zero (by omega);have HR:Hid (fX (Vs.map vS,Es,G) (x1,x2)=((cK (Vs.map vS) (x1,x2),Es,G),0)):=qh (by unfold fX;rw[if_neg (by rw[hh];decide),if_neg (by rw[aW,kg];simp)]);clear h hS tQ KT hh e1 jn e2 aW kg jd e4 e3;subst h0;go_enter Tryz.func91,Tryz.ntmps91
   go_wp2_with (first
    |(go_at_call 110
      refine(HV.out _ HQ.out).mono ?_
      rintro e w2 ⟨rfl,ar⟩;have su:=qh (H0.out.bl ar);have bj:=qh (aR.out.bl ar);have ss:=qh (zm.out.trans (bc.of_below ar));have c0:=bj.out.cell (i:=0) rfl;have c1:=bj.out.cell (i:=1) rfl;have s0:=su.out.s.cell (i:=0) rfl;obtain⟨bb,off,rfl,bZ,bD⟩:=(bk su.out.v).place aN (by decide) (Nat.lt_of_le_of_lt (Jas _) Vo.out);have l2:=bD i _ fK.out 2 _ rfl;simp only[Ν] at l2;clear bD ar H0 aR zm MA Fe)
    |(go_at_call 112
      refine(Kr su.out i Vo.out (by omega)).mono ?_
      rintro e w3 ⟨rfl,A3,c3,xb,Np⟩;have ye:=qh xb;have DK:=qh (ss.out.trans Np);clear xb Np su ss bj c0 c1 s0 l2))
   go_ret;exact mj.yes HR.out rfl DK.out ye.out (by rw[Rb.out])
  ·have bQ:¬rL=[]:=fun e=>h0 (by rw[←jd,e];rfl)
   have HR:Hid (fX (Vs.map vS,Es,G) (x1,x2)=(cC,14)):=qh (by unfold fX;rw[if_neg (by rw[hh];decide),if_pos (by rw[aW];exact bQ)]);have q1:(0:Int)<(rn:Int):=by omega
   have q2:0<rn:=by omega
   clear h hS tQ KT hh e1 jn e2 aW bQ jd e4 e3;go_enter Tryz.func91,Tryz.ntmps91
   go_wp2_with (first
    |(go_at_call 110
      refine(HV.out _ HQ.out).mono ?_
      rintro e w2 ⟨rfl,ar⟩;have su:=qh (H0.out.bl ar);have bj:=qh (aR.out.bl ar);have ss:=qh (zm.out.trans (bc.of_below ar));have c0:=bj.out.cell (i:=0) rfl;have c1:=bj.out.cell (i:=1) rfl;have s0:=su.out.s.cell (i:=0) rfl;obtain⟨bb,off,rfl,bZ,bD⟩:=(bk su.out.v).place aN (by decide) (Nat.lt_of_le_of_lt (Jas _) Vo.out);have l2:=bD i _ fK.out 2 _ rfl;simp only[Ν] at l2;clear bD ar H0 aR zm MA Fe))
   go_ret;exact mj.no HR.out (by decide) rfl su.out.below ss.out
end
theorem Db {V X:List VS} {F:List D→List D} {j:Nat} {v:VS} (hX:X=rings (V.take j) F++V.drop j) (hv:X[j]? =ζ v) (hj:j<V.length):X.set j (rr v (F v.2.1))=rings (V.take (j+1)) F++V.drop (j+1):=by
 have hl:(rings (V.take j) F).length=j:=by unfold rings;rw[Ρ,JaA];omega
 have hd:V.drop j=V[j]::V.drop (j+1):=List.drop_eq_getElem_cons hj
 have ev:v=V[j]:=by
  rw[hX,Jal (by omega),hl,JaP,hd] at hv;exact(Μ hv).symm
 rw[hX,List.set_append_right _ _ (by omega),hl,JaP,hd,List.set_cons_zero,ev,List.take_succ_eq_append_getElem hj];unfold rings;rw[JaU,Jay];rfl
section
variable {w W:ο} {lo g:Nat} {A:Option Κ} {n c:Nat} {Vs:List VC} {B:Option Κ} {m k:Nat} {Es:List EC} {C:Option Κ} {r rc:Nat} {G:List Gn}
theorem uW (h:fH w lo g A n c Vs B m k Es C r rc G W) (hn:n≤1000) (tQ:∀x∈Vs,x.2.1.2.1≤1000) (f:Nat) (p:Option Κ) (F:List D→List D) (P:ο→Prop) (hP:P W) (hup:∀X Y,P X→bc g X Y→P Y) (he:Sv f) (hF:∀X A n c L,P X→aS X X.heap.size 3 A n c (aA L)→n≤1000→Ζ η f #[γ A n c,.pointer p] X (sL X (F L))):
 Ζ η 121 #[υ (ζ ⟨g,0,ε⟩),.func (.func f) #[] #[.pointer p]] W fun e w'=>e=.returned (.tuple #[])∧∃Us,fH w lo g A n c Us B m k Es C r rc G w'∧Us.map vS=rings (Vs.map vS) F∧bc g W w':=by
 have H:=qh h;have Hup:=qh hup;have HF:=qh hF;have HP:=qh hP;have Hl:=qh h.vlen;have SX:=qh tQ;have c0:=h.s.cell (i:=0) rfl;clear h hup hF hP tQ;go_enter Tryz.func121,Tryz.ntmps121;go_wp2;clear c0;go_loopw [12] (fun i wr=>∃(j:Nat) (Us:List VC),j≤n∧i=J (j:Int)∧Hid (fH w lo g A n c Us B m k Es C r rc G wr)∧Hid (Us.map vS=rings ((Vs.map vS).take j) F++(Vs.map vS).drop j)∧Hid (bc g W wr)) (fun i _=>n - (intOf i).toNat)
 case atStart=>exact⟨0,Vs,Jas _,rfl,H,qh (by simp[rings]),qh (bc.refl g W)⟩
 case round=>
  obtain⟨j,Us,hj,rfl,HS,HU,HK⟩:=hrel;obtain⟨wo,dB⟩:=az wr;rw[dB] at HS HK ⊢;clear dB
  by_cases eS:j<n
  ·have hUl:Us.length=n:=HS.out.vlen;obtain⟨u,hu⟩:∃u,Us[j]? =ζ u:=⟨_,θ (by omega)⟩
   obtain⟨b,junk,rfl,gi,-⟩:=eT HS.out.v (by omega)
   have Hj:Hid ((Vs.map vS)[j]? =ζ (vS u)):=qh (by
    have h1:(Us.map vS)[j]? =ζ (vS u):=by rw[Ψ,hu];rfl
    have hl:(rings ((Vs.map vS).take j) F).length=j:=by unfold rings;rw[Ρ,JaA,Ρ,Hl.out];omega
    rw[HU.out,Jal (by omega),hl,JaP,List.getElem?_drop,Jac] at h1;exact h1)
   have P9:u.2.1.2.1≤1000:=by
    have h1:=Hj.out;rw[Ψ] at h1;obtain⟨v0,h2,h3⟩:=Option.map_eq_some_iff.1 h1;have h4:=SX.out v0 (ω h2);have h5:=(H.out.rg v0 (ω h2)).2.1.dlen;have h6:=(HS.out.rg u (ω hu)).2.1.dlen;have h7:v0.2.1.2.2.2.length=u.2.1.2.2.2.length:=congrArg (fun z:VS=>z.2.1.length) h3;omega
   obtain⟨b2,off,e2,bZ,bD⟩:=(bk HS.out.v).place aN (by decide) (by omega)
   have e3:b2=b∧off=0:=by
    injection e2 with e2
    injection e2 with e4 e5
    exact⟨e4.symm,e5.symm⟩
   obtain⟨rfl,rfl⟩:=e3;have hp:=bD j u hu;have HV:=qh hu;have N5:(j:Int)<(n:Int):=by omega
   have aW:=HS.out.rg u (ω hu);clear bD e2 hu bZ gi hUl;obtain⟨⟨i1,i2⟩,⟨rA,rn,bE,rL⟩,lb,at_⟩:=u;have Dc:Hid (lj wo (rA,rn,bE,rL)):=qh aW;have P9:rn≤1000:=P9;have l0:=hp 0 _ rfl;have l1:=hp 1 _ rfl;have l2:=hp 2 _ rfl;have l3:=hp 3 _ rfl;have l4:=hp 4 _ rfl;simp only[Ν,Jac,Nat.zero_add] at l0 l1 l2 l3 l4;clear hp aW;go_upto_region 3 with fail
   have BS:=qh (HS.out.al (δ #[J i1,J i2,γ rA rn bE,μ lb,J at_] 59));have aQ:Hid (Whole (wo.alloc (δ #[J i1,J i2,γ rA rn bE,μ lb,J at_] 59)) wo.heap.size 59 [J i1,J i2,γ rA rn bE,μ lb,J at_]):=qh (Whole.new_ _ _ _);have IE:=qh (HK.out.trans (bc.of_below (ax wo (δ #[J i1,J i2,γ rA rn bE,μ lb,J at_] 59))));have sQ:=qh (Dc.out.bl (ax wo (δ #[J i1,J i2,γ rA rn bE,μ lb,J at_] 59)));obtain⟨W1,a7⟩:=az (wo.alloc (δ #[J i1,J i2,γ rA rn bE,μ lb,J at_] 59));obtain⟨b5,JO⟩:=az wo.heap.size;rw[a7] at BS aQ IE sQ ⊢;rw[JO] at aQ ⊢;clear a7 JO l0 l1 l2 l3 l4 HS HK Dc;have iM:∀w',Kept aT W1.drew w'→w'.cell? ⟨g,0,ε⟩=ζ (γ (ζ ⟨b2,0,ε⟩) n c):=fun w' h=>h.nil_cell (BS.out.dr.s.cell (i:=0) rfl)
   have ld1:=dX (i:=2) aQ.out rfl;refine bK (aT) [12] (by kernel_rfl) ?_;refine bm 0 ?_;refine bm 1 ?_;refine bm 2 ?_;refine bm 3 ?_;refine bm 4 ?_;refine bm 5 ?_;refine bm 6 ?_;refine bm 7 ?_;refine bm 8 ?_;apply Bv 9 (ζ 26)
   ·rfl
   ·rfl
   ·kernel_rfl
   ·rfl
   ·intro w';go_simp;first|done|exact⟨rfl,rfl⟩|exact he _ _|with_reducible rfl
   intro w' aC
   refine(HF.out w' rA rn bE rL (Hup.out W _ HP.out (IE.out.trans ((bc.of_below ((Θ _ W1).drew.trans (aC.mono (Δ _))))))) (sQ.out.bl (((Θ _ W1).drew.trans (aC.mono (Δ _))))).2.1 P9).mono ?_
   rintro e w9 ⟨A9,c9,rfl,mO,nM⟩
   refine⟨_,rfl,Kept.of_below nM,?_⟩
   obtain⟨L9,Im⟩:=az (F rL);rw[Im] at mO ⊢;have GL9:=qh Im;have BJ:=qh ((BS.out.dr.bl aC).bl nM);have Mm:=qh (IE.out.trans ((bc.of_below ((Θ _ W1).drew.trans (aC.mono (Δ _)))).trans (bc.of_below nM)));have pg:=qh mO;obtain⟨N9,FD⟩:=az L9.length;rw[FD] at pg ⊢;clear aC nM mO Im FD iM ld1 BS aQ IE sQ;simp only[ξ,ak,aj,ah];refine lG 10 ?_;intro w' aC;apply JaG;apply JaG;apply And.intro
   ·go_simp;first|done|exact⟨rfl,rfl⟩|exact rfl
   apply And.intro
   ·exact Kept.refl _ _
   have Et:=aC;clear aC;simp only[ξ,ak,aj,ah];refine bm 11 ?_;refine lA 12 ?_;intro w' aC;replace aC:=Ext.trans Et aC;clear Et;have hV:=HV.out;obtain⟨b9,IF,e9,-,-,Ik,hz9,AO,BH⟩:=(BJ.out.bl aC).cellV (v':=((i1,i2),(A9,N9,c9,L9),lb,at_)) (j:=2) (u:=γ A9 N9 c9) hV (by decide) rfl (.inr (pg.out.bl aC))
   obtain rfl:b2=b9:=by
    injection e9 with e9
    injection e9
   have Ik:w'.cell? ⟨b2,j*5+2,ε⟩=ζ (γ rA rn bE):=Ik;have R6:=qh AO;have Q0:=qh (Mm.out.trans ((bc.of_below aC).trans BH));clear AO BH e9
   refine⟨w'.setCell ⟨b2,j*5+2,ε⟩ (γ A9 N9 c9),by(go_simp;first|done|exact rfl|exact⟨rfl,rfl⟩),?_⟩
   clear Ik hz9 hV;obtain⟨W7,Is⟩:=az (w'.setCell ⟨b2,j*5+2,ε⟩ (γ A9 N9 c9));rw[Is] at R6 Q0 ⊢;clear Is aC BJ Mm;(try simp only[ξ,ak,aj,ah]);refine eU (by kernel_rfl) ?_ _;intro w8 ch;have ID:=qh (R6.out.bl ch);have Cq:=qh (Q0.out.trans (bc.of_below ch))
   have QQ:Hid ((Us.set j ((i1,i2),(A9,N9,c9,L9),lb,at_)).map vS=rings ((Vs.map vS).take (j+1)) F++(Vs.map vS).drop (j+1)):=qh (by
    rw[List.map_set];have h1:(Us.map vS)[j]? =ζ (vS ((i1,i2),(rA,rn,bE,rL),lb,at_)):=by rw[Ψ,HV.out];rfl
    have:=Db (F:=F) HU.out h1 (by rw[Ρ,Hl.out];exact eS)
    rw[←this,←GL9.out];rfl)
   clear ch R6 Q0 HU;go_wp2;go_roundw
   case rel=>exact⟨j+1,_,by omega,by go_num,ID,QQ,Cq⟩
   case measure=>simp[intOf];omega
  ·obtain rfl:j=n:=by omega
   have YJ:¬(j:Int)<(j:Int):=by omega
   have QQ:Hid (Us.map vS=rings (Vs.map vS) F):=qh (by
    have h1:=HU.out;rw[Ι (by rw[Ρ,Hl.out];exact Δ _),List.drop_of_length_le (by rw[Ρ,Hl.out];exact Δ _),List.append_nil] at h1;exact h1)
   go_wp2;go_end0;exact⟨rfl,Us,HS.out,QQ.out,HK.out⟩
end
def yU (Ps:List (ψ→ο→Prop)) (i:Nat) (v:ψ) (W:ο):Prop:=match Ps[i]? with
 |some P=>P v W
 |none=>True
theorem pw {Ps:List (ψ→ο→Prop)} (h:∀P∈Ps,∀v w w',P v w→Ext w w'→P v w') (i:Nat) (v:ψ) (w w':ο) (hg:yU Ps i v w) (hx:Ext w w'):yU Ps i v w':=by
 unfold yU at hg ⊢;split at hg
 ·rename_i P e;exact h P (ω e) v w w' hg hx
 ·rename_i e;trivial
theorem lj.row {W:ο} {r:Rg} {g:Nat} {T:TypeId} {cs:List ψ} (h:lj W r) (hs:Whole W g T cs) (hT:32≠T) (qN:Array ψ):lj (W.setRow g qN) r:=by
 have bQ:∀a,r.1=ζ a→a.block≠g:=fun a ha=>by
  obtain⟨cs,hw⟩:=h.2.2 a ha;exact hw.ne_ hs hT
 exact⟨h.1,h.2.1.row_far (fun a ha _ e=>bQ a ha (Μ e)) _,fun a ha=>(h.2.2 a ha).imp fun cs hc=>hc.row_far (bQ a ha) _⟩
end Go.Proofs.YtpdpbfmiahjiiaaGreat
