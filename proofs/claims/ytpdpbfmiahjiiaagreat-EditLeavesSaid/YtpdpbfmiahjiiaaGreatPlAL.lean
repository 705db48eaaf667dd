/- Several texts in one. -/
import Derived.Test.YtpdpbfmiahjiiaaGreatPlAA
import Derived.Test.YtpdpbfmiahjiiaaGreatPlAB
import Derived.Test.YtpdpbfmiahjiiaaGreatPlAK
import Derived.Deep.WholeRow
import Derived.Great.Walk
set_option linter.unusedSectionVars false
set_option linter.unusedSimpArgs false
set_option linter.unusedVariables false
set_option maxRecDepth 100000
set_option maxHeartbeats 16000000
namespace Go.Proofs.YtpdpbfmiahjiiaaGreat
open Go.RowKit
open _root_.Go.Obj renaming cells→δ
open _root_.Option renaming none→ε,some→ζ
open _root_.Go.Proofs.Tryz renaming prog→η
open _root_.Go.Value renaming string→μ,agg→φ,bool→Β,oneCell'→Τ
open _root_.Go.Act renaming put→ξ
open _root_.Go renaming World→ο,Calls→Ζ,wp_region_lit→Jam,bodyPost_ret→JaN,wpList_store_row→Jbu
open _root_.Bool renaming false→ρ,true→τ
open _root_.Go.RowKit renaming Below→σ
theorem Ni (k s n s1 n1 s2 n2 a0 a1 a2 a3 a4 b0 b1 b2 b3 b4:Int) (e:Bool) (t:ByteArray) (m:Int):Pure 66 #[φ #[J k,J s,J n,J s1,J n1,J s2,J n2,J a0,J a1,J a2,J a3,J a4,J b0,J b1,J b2,J b3,J b4,Β e,μ t,J m]] (φ (aa (j5 ⟨k,s,n,s1,n1,s2,n2,a0,a1,a2,a3,a4,b0,b1,b2,b3,b4,e,t,m⟩)).toArray):=by
 unfold j5;simp only
 by_cases k3:k=3
 ·subst k3;rw[if_pos rfl];exact RN s n s1 n1 s2 n2 a0 a1 a2 a3 a4 b0 b1 b2 b3 b4 e t m
 have q3:(k==3)=ρ:=by simpa using k3
 rw[if_neg k3]
 by_cases k5:k=5
 ·subst k5;rw[if_pos rfl];exact R8 s n s1 n1 s2 n2 a0 a1 a2 a3 a4 b0 b1 b2 b3 b4 e t m
 have q5:(k==5)=ρ:=by simpa using k5
 rw[if_neg k5]
 by_cases k6:k=6
 ·subst k6;rw[if_pos rfl];exact RA s n s1 n1 s2 n2 a0 a1 a2 a3 a4 b0 b1 b2 b3 b4 e t m
 have q6:(k==6)=ρ:=by simpa using k6
 rw[if_neg k6]
 by_cases k7:k=7
 ·subst k7;rw[if_pos rfl];exact QL s n s1 n1 s2 n2 a0 a1 a2 a3 a4 b0 b1 b2 b3 b4 e t m
 have q7:(k==7)=ρ:=by simpa using k7
 rw[if_neg k7]
 by_cases k8:k=8
 ·subst k8;rw[if_pos rfl];exact SA s n s1 n1 s2 n2 a0 a1 a2 a3 a4 b0 b1 b2 b3 b4 e t m
 have q8:(k==8)=ρ:=by simpa using k8
 rw[if_neg k8];exact RV k s n s1 n1 s2 n2 a0 a1 a2 a3 a4 b0 b1 b2 b3 b4 e t m q3 q5 q6 q7 q8
theorem Ec {t t':ByteArray} (h:t.toList=t'.toList):t=t':=by
 rw[ByteArray.toList_eq,ByteArray.toList_eq] at h;exact ByteArray.ext (Array.toList_inj.1 h)
theorem cg (o o':cO) (W:ο):(binOp .neq 36 (φ (aa o).toArray) (φ (aa o').toArray)).run η W=.ok (Β (!decide (o=o'))) W:=by
 obtain⟨k,s,n,s1,n1,s2,n2,a0,a1,a2,a3,a4,b0,b1,b2,b3,b4,e,t,m⟩:=o;obtain⟨k',s',n',s1',n1',s2',n2',a0',a1',a2',a3',a4',b0',b1',b2',b3',b4',e',t',m'⟩:=o';simp only[aa,cO.mk.injEq];simp[go_sem]
 by_cases hk:k=k'
 case neg=>simp[hk]
 rw[if_pos hk]
 by_cases hs:s=s'
 case neg=>simp[hs]
 rw[if_pos hs]
 by_cases hn:n=n'
 case neg=>simp[hn]
 rw[if_pos hn]
 by_cases EN:s1=s1'
 case neg=>simp[EN]
 rw[if_pos EN]
 by_cases rX:n1=n1'
 case neg=>simp[rX]
 rw[if_pos rX]
 by_cases Rf:s2=s2'
 case neg=>simp[Rf]
 rw[if_pos Rf]
 by_cases Fi:n2=n2'
 case neg=>simp[Fi]
 rw[if_pos Fi]
 by_cases ha0:a0=a0'
 case neg=>simp[ha0]
 rw[if_pos ha0]
 by_cases ha1:a1=a1'
 case neg=>simp[ha1]
 rw[if_pos ha1]
 by_cases SE:a2=a2'
 case neg=>simp[SE]
 rw[if_pos SE]
 by_cases ha3:a3=a3'
 case neg=>simp[ha3]
 rw[if_pos ha3]
 by_cases ha4:a4=a4'
 case neg=>simp[ha4]
 rw[if_pos ha4]
 by_cases jn:b0=b0'
 case neg=>simp[jn]
 rw[if_pos jn]
 by_cases fe:b1=b1'
 case neg=>simp[fe]
 rw[if_pos fe]
 by_cases ar:b2=b2'
 case neg=>simp[ar]
 rw[if_pos ar]
 by_cases bw:b3=b3'
 case neg=>simp[bw]
 rw[if_pos bw]
 by_cases s5:b4=b4'
 case neg=>simp[s5]
 rw[if_pos s5]
 by_cases he:e=e'
 case neg=>simp[he]
 rw[if_pos he]
 by_cases ht:t=t'
 ·subst ht
  by_cases hm:m=m'<;>simp_all
 ·have ht':¬t.toList=t'.toList:=fun q=>ht (Ec q)
  rw[if_neg ht'];simp[ht]
def cW (o:cO):Int:=if bB o.s o.n=τ∧eH o=τ∧o=j5 o then(if dv o.t=τ then 0 else 4) else 1
theorem ub (o:cO):Pure 65 #[φ (aa o).toArray] (Β (eH o)):=fun w=>M3 o.k o.s o.n o.s1 o.n1 o.s2 o.n2 o.a0 o.a1 o.a2 o.a3 o.a4 o.b0 o.b1 o.b2 o.b3 o.b4 o.e o.t o.m w
theorem yE (o:cO):Pure 66 #[φ (aa o).toArray] (φ (aa (j5 o)).toArray):=fun w=>Ni o.k o.s o.n o.s1 o.n1 o.s2 o.n2 o.a0 o.a1 o.a2 o.a3 o.a4 o.b0 o.b1 o.b2 o.b3 o.b4 o.e o.t o.m w
theorem TA (o:cO) (h1:bB o.s o.n=ρ) (w:ο):Ζ η 43 #[φ (aa o).toArray] w fun e w'=>e=.returned (J 1)∧σ w.heap.size w w':=by
 have hm:=iU o.s o.n;rw[h1] at hm;have HM:=qh hm;clear hm h1;go_enter Tryz.func43,Tryz.ntmps43;go_upto_region 1 with fail
 obtain⟨W1,a7⟩:=az (w.alloc (δ (aa o).toArray 36));have HO:Hid (Whole W1 w.heap.size 36 (aa o)):=qh (by rw[←a7];exact Whole.new_ w _ _);have HB:Hid (σ w.heap.size w W1):=qh (by rw[←a7];exact ax _ _);rw[a7];clear a7;obtain⟨g0,dx⟩:=az w.heap.size;rw[dx] at HO ⊢;clear dx;have ld1:∀w',Kept aT W1.drew w'→w'.cell? ⟨g0,1,ε⟩=ζ (J o.s):=fun w' h=>h.nil_cell (HO.out.drew.cell (i:=1) rfl)
 have rQ:∀w',Kept aT W1.drew w'→w'.cell? ⟨g0,2,ε⟩=ζ (J o.n):=fun w' h=>h.nil_cell (HO.out.drew.cell (i:=2) rfl)
 refine aw (aT) (by kernel_rfl) ?_;refine aq 0 ?_;refine aq 1 ?_;refine bN 2 (hy:=by apply cz;rfl;rotate_left;intro w' aC;exact HM.out w';intro w';go_simp) (h:=?_);refine aq 3 ?_;refine aq 4 ?_;refine bP 5 ?_;refine bP 6 ?_;refine bP 7 ?_;refine aq 8 ?_;refine aq 9 ?_;refine bP 10 ?_;refine bP 11 ?_;refine bP 12 ?_;refine bP 13 ?_;refine aq 14 ?_;refine aG (by kernel_rfl) ?_ _;intro W2 jU;have cL:Hid (σ w.heap.size w W2):=qh (HB.out.drew.trans (jU.mono HB.out.drew.size));clear jU ld1 rQ;go_wp2;go_ret;exact⟨rfl,cL.out⟩
theorem VH (o:cO) (h1:bB o.s o.n=τ) (h2:eH o=ρ) (w:ο):Ζ η 43 #[φ (aa o).toArray] w fun e w'=>e=.returned (J 1)∧σ w.heap.size w w':=by
 have hm:=iU o.s o.n;rw[h1] at hm;have HM:=qh hm;have hf:=ub o;rw[h2] at hf;have HF:=qh hf;clear hm h1 hf h2;go_enter Tryz.func43,Tryz.ntmps43;go_upto_region 1 with fail
 obtain⟨W1,a7⟩:=az (w.alloc (δ (aa o).toArray 36));have HO:Hid (Whole W1 w.heap.size 36 (aa o)):=qh (by rw[←a7];exact Whole.new_ w _ _);have HB:Hid (σ w.heap.size w W1):=qh (by rw[←a7];exact ax _ _);rw[a7];clear a7;obtain⟨g0,dx⟩:=az w.heap.size;rw[dx] at HO ⊢;clear dx;have ld1:∀w',Kept aT W1.drew w'→w'.cell? ⟨g0,1,ε⟩=ζ (J o.s):=fun w' h=>h.nil_cell (HO.out.drew.cell (i:=1) rfl)
 have rQ:∀w',Kept aT W1.drew w'→w'.cell? ⟨g0,2,ε⟩=ζ (J o.n):=fun w' h=>h.nil_cell (HO.out.drew.cell (i:=2) rfl)
 refine aw (aT) (by kernel_rfl) ?_;refine aq 0 ?_;refine aq 1 ?_;refine bN 2 (hy:=by apply cz;rfl;rotate_left;intro w' aC;exact HM.out w';intro w';go_simp) (h:=?_);refine aq 3 ?_;refine aq 4 ?_;refine bN 5 (hy:=bG (by rfl) 36 (.tmp 1) rfl g0 rfl 36 (aa o) _ (fun w' h=>h.whole HO.out.drew (fun h=>h)) Tryz.underlying36 rfl (by kernel_rfl)) (h:=?_);refine bN 6 (hy:=by apply cz;rfl;rotate_left;intro w' aC;exact HF.out w';intro w';go_simp) (h:=?_);refine aq 7 ?_;refine aq 8 ?_;refine aq 9 ?_;refine bP 10 ?_;refine bP 11 ?_;refine bP 12 ?_;refine bP 13 ?_;refine aq 14 ?_;refine aG (by kernel_rfl) ?_ _;intro W2 jU;have cL:Hid (σ w.heap.size w W2):=qh (HB.out.drew.trans (jU.mono HB.out.drew.size));clear jU ld1 rQ;go_wp2;go_ret;exact⟨rfl,cL.out⟩
theorem Tt (o:cO) (h1:bB o.s o.n=τ) (h2:eH o=τ) (h3:¬o=j5 o) (w:ο):Ζ η 43 #[φ (aa o).toArray] w fun e w'=>e=.returned (J 1)∧σ w.heap.size w w':=by
 have hm:=iU o.s o.n;rw[h1] at hm;have HM:=qh hm;have hf:=ub o;rw[h2] at hf;have HF:=qh hf;have HN:=qh (yE o);have hq:=fun W=>cg o (j5 o) W
 rw[decide_eq_false h3] at hq;have HQ:=qh hq;clear hm h1 hf h2 hq h3;go_enter Tryz.func43,Tryz.ntmps43;go_upto_region 1 with fail
 obtain⟨W1,a7⟩:=az (w.alloc (δ (aa o).toArray 36));have HO:Hid (Whole W1 w.heap.size 36 (aa o)):=qh (by rw[←a7];exact Whole.new_ w _ _);have HB:Hid (σ w.heap.size w W1):=qh (by rw[←a7];exact ax _ _);rw[a7];clear a7;obtain⟨g0,dx⟩:=az w.heap.size;rw[dx] at HO ⊢;clear dx;have ld1:∀w',Kept aT W1.drew w'→w'.cell? ⟨g0,1,ε⟩=ζ (J o.s):=fun w' h=>h.nil_cell (HO.out.drew.cell (i:=1) rfl)
 have rQ:∀w',Kept aT W1.drew w'→w'.cell? ⟨g0,2,ε⟩=ζ (J o.n):=fun w' h=>h.nil_cell (HO.out.drew.cell (i:=2) rfl)
 refine aw (aT) (by kernel_rfl) ?_;refine aq 0 ?_;refine aq 1 ?_;refine bN 2 (hy:=by apply cz;rfl;rotate_left;intro w' aC;exact HM.out w';intro w';go_simp) (h:=?_);refine aq 3 ?_;refine aq 4 ?_;refine bN 5 (hy:=bG (by rfl) 36 (.tmp 1) rfl g0 rfl 36 (aa o) _ (fun w' h=>h.whole HO.out.drew (fun h=>h)) Tryz.underlying36 rfl (by kernel_rfl)) (h:=?_);refine bN 6 (hy:=by apply cz;rfl;rotate_left;intro w' aC;exact HF.out w';intro w';go_simp) (h:=?_);refine aq 7 ?_;refine aq 8 ?_;refine aq 9 ?_;refine bN 10 (hy:=bG (by rfl) 36 (.tmp 1) rfl g0 rfl 36 (aa o) _ (fun w' h=>h.whole HO.out.drew (fun h=>h)) Tryz.underlying36 rfl (by kernel_rfl)) (h:=?_);refine bN 11 (hy:=bG (by rfl) 36 (.tmp 1) rfl g0 rfl 36 (aa o) _ (fun w' h=>h.whole HO.out.drew (fun h=>h)) Tryz.underlying36 rfl (by kernel_rfl)) (h:=?_);refine bN 12 (hy:=by apply cz;rfl;rotate_left;intro w' aC;exact HN.out w';intro w';go_simp) (h:=?_);refine bN 13 (hy:=dm (by rfl) (fun w' _=>bo .neq 36 (.tmp 13) (.tmp 15) 36 rfl rfl rfl (by kernel_rfl) (HQ.out w'))) (h:=?_);refine aq 14 ?_;refine aG (by kernel_rfl) ?_ _;intro W2 jU;have cL:Hid (σ w.heap.size w W2):=qh (HB.out.drew.trans (jU.mono HB.out.drew.size));clear jU ld1 rQ;go_wp2;go_ret;exact⟨rfl,cL.out⟩
theorem Vp (o:cO) (h1:bB o.s o.n=τ) (h2:eH o=τ) (h3:o=j5 o) (h4:dv o.t=ρ) (w:ο):Ζ η 43 #[φ (aa o).toArray] w fun e w'=>e=.returned (J 4)∧σ w.heap.size w w':=by
 have hm:=iU o.s o.n;rw[h1] at hm;have HM:=qh hm;have hf:=ub o;rw[h2] at hf;have HF:=qh hf;have HN:=qh (yE o);have hq:=fun W=>cg o (j5 o) W
 rw[decide_eq_true h3] at hq;have HQ:=qh hq;clear hm h1 hf h2 hq h3;have hl:=rE o.t;rw[h4] at hl;have HL:=qh hl;clear hl h4;go_enter Tryz.func43,Tryz.ntmps43;go_upto_region 1 with fail
 obtain⟨W1,a7⟩:=az (w.alloc (δ (aa o).toArray 36));have HO:Hid (Whole W1 w.heap.size 36 (aa o)):=qh (by rw[←a7];exact Whole.new_ w _ _);have HB:Hid (σ w.heap.size w W1):=qh (by rw[←a7];exact ax _ _);rw[a7];clear a7;obtain⟨g0,dx⟩:=az w.heap.size;rw[dx] at HO ⊢;clear dx;have ld1:∀w',Kept aT W1.drew w'→w'.cell? ⟨g0,1,ε⟩=ζ (J o.s):=fun w' h=>h.nil_cell (HO.out.drew.cell (i:=1) rfl)
 have rQ:∀w',Kept aT W1.drew w'→w'.cell? ⟨g0,2,ε⟩=ζ (J o.n):=fun w' h=>h.nil_cell (HO.out.drew.cell (i:=2) rfl)
 refine aw (aT) (by kernel_rfl) ?_;refine aq 0 ?_;refine aq 1 ?_;refine bN 2 (hy:=by apply cz;rfl;rotate_left;intro w' aC;exact HM.out w';intro w';go_simp) (h:=?_);refine aq 3 ?_;refine aq 4 ?_;refine bN 5 (hy:=bG (by rfl) 36 (.tmp 1) rfl g0 rfl 36 (aa o) _ (fun w' h=>h.whole HO.out.drew (fun h=>h)) Tryz.underlying36 rfl (by kernel_rfl)) (h:=?_);refine bN 6 (hy:=by apply cz;rfl;rotate_left;intro w' aC;exact HF.out w';intro w';go_simp) (h:=?_);refine aq 7 ?_;refine aq 8 ?_;refine aq 9 ?_;refine bN 10 (hy:=bG (by rfl) 36 (.tmp 1) rfl g0 rfl 36 (aa o) _ (fun w' h=>h.whole HO.out.drew (fun h=>h)) Tryz.underlying36 rfl (by kernel_rfl)) (h:=?_);refine bN 11 (hy:=bG (by rfl) 36 (.tmp 1) rfl g0 rfl 36 (aa o) _ (fun w' h=>h.whole HO.out.drew (fun h=>h)) Tryz.underlying36 rfl (by kernel_rfl)) (h:=?_);refine bN 12 (hy:=by apply cz;rfl;rotate_left;intro w' aC;exact HN.out w';intro w';go_simp) (h:=?_);refine bN 13 (hy:=dm (by rfl) (fun w' _=>bo .neq 36 (.tmp 13) (.tmp 15) 36 rfl rfl rfl (by kernel_rfl) (HQ.out w'))) (h:=?_);refine aq 14 ?_;refine aG (by kernel_rfl) ?_ _;intro W2 jU;have cL:Hid (σ w.heap.size w W2):=qh (HB.out.drew.trans (jU.mono HB.out.drew.size));have gE:Hid (Whole W2 g0 36 (aa o)):=qh (HO.out.drew.below jU);have Yu:=gE.out.cell (i:=18) rfl;clear jU ld1 rQ;go_wp2_with (first|(go_at_call 67;refine(HL.out _).mono ?_;rintro e w3 ⟨rfl,bw⟩))
 go_ret;exact⟨rfl,cL.out.trans (bw.mono cL.out.size)⟩
theorem UC (o:cO) (h1:bB o.s o.n=τ) (h2:eH o=τ) (h3:o=j5 o) (h4:dv o.t=τ) (w:ο):Ζ η 43 #[φ (aa o).toArray] w fun e w'=>e=.returned (J 0)∧σ w.heap.size w w':=by
 have hm:=iU o.s o.n;rw[h1] at hm;have HM:=qh hm;have hf:=ub o;rw[h2] at hf;have HF:=qh hf;have HN:=qh (yE o);have hq:=fun W=>cg o (j5 o) W
 rw[decide_eq_true h3] at hq;have HQ:=qh hq;clear hm h1 hf h2 hq h3;have hl:=rE o.t;rw[h4] at hl;have HL:=qh hl;clear hl h4;go_enter Tryz.func43,Tryz.ntmps43;go_upto_region 1 with fail
 obtain⟨W1,a7⟩:=az (w.alloc (δ (aa o).toArray 36));have HO:Hid (Whole W1 w.heap.size 36 (aa o)):=qh (by rw[←a7];exact Whole.new_ w _ _);have HB:Hid (σ w.heap.size w W1):=qh (by rw[←a7];exact ax _ _);rw[a7];clear a7;obtain⟨g0,dx⟩:=az w.heap.size;rw[dx] at HO ⊢;clear dx;have ld1:∀w',Kept aT W1.drew w'→w'.cell? ⟨g0,1,ε⟩=ζ (J o.s):=fun w' h=>h.nil_cell (HO.out.drew.cell (i:=1) rfl)
 have rQ:∀w',Kept aT W1.drew w'→w'.cell? ⟨g0,2,ε⟩=ζ (J o.n):=fun w' h=>h.nil_cell (HO.out.drew.cell (i:=2) rfl)
 refine aw (aT) (by kernel_rfl) ?_;refine aq 0 ?_;refine aq 1 ?_;refine bN 2 (hy:=by apply cz;rfl;rotate_left;intro w' aC;exact HM.out w';intro w';go_simp) (h:=?_);refine aq 3 ?_;refine aq 4 ?_;refine bN 5 (hy:=bG (by rfl) 36 (.tmp 1) rfl g0 rfl 36 (aa o) _ (fun w' h=>h.whole HO.out.drew (fun h=>h)) Tryz.underlying36 rfl (by kernel_rfl)) (h:=?_);refine bN 6 (hy:=by apply cz;rfl;rotate_left;intro w' aC;exact HF.out w';intro w';go_simp) (h:=?_);refine aq 7 ?_;refine aq 8 ?_;refine aq 9 ?_;refine bN 10 (hy:=bG (by rfl) 36 (.tmp 1) rfl g0 rfl 36 (aa o) _ (fun w' h=>h.whole HO.out.drew (fun h=>h)) Tryz.underlying36 rfl (by kernel_rfl)) (h:=?_);refine bN 11 (hy:=bG (by rfl) 36 (.tmp 1) rfl g0 rfl 36 (aa o) _ (fun w' h=>h.whole HO.out.drew (fun h=>h)) Tryz.underlying36 rfl (by kernel_rfl)) (h:=?_);refine bN 12 (hy:=by apply cz;rfl;rotate_left;intro w' aC;exact HN.out w';intro w';go_simp) (h:=?_);refine bN 13 (hy:=dm (by rfl) (fun w' _=>bo .neq 36 (.tmp 13) (.tmp 15) 36 rfl rfl rfl (by kernel_rfl) (HQ.out w'))) (h:=?_);refine aq 14 ?_;refine aG (by kernel_rfl) ?_ _;intro W2 jU;have cL:Hid (σ w.heap.size w W2):=qh (HB.out.drew.trans (jU.mono HB.out.drew.size));have gE:Hid (Whole W2 g0 36 (aa o)):=qh (HO.out.drew.below jU);have Yu:=gE.out.cell (i:=18) rfl;clear jU ld1 rQ;go_wp2_with (first|(go_at_call 67;refine(HL.out _).mono ?_;rintro e w3 ⟨rfl,bw⟩))
 go_ret;exact⟨rfl,cL.out.trans (bw.mono cL.out.size)⟩
theorem xv (o:cO):Pure 43 #[φ (aa o).toArray] (J (cW o)):=fun w=>by
 unfold cW
 by_cases h1:bB o.s o.n=τ
 case neg=>
  rw[if_neg (fun h=>h1 h.1)];exact TA o (by simpa using h1) w
 by_cases h2:eH o=τ
 case neg=>
  rw[if_neg (fun h=>h2 h.2.1)];exact VH o h1 (by simpa using h2) w
 by_cases h3:o=j5 o
 case neg=>
  rw[if_neg (fun h=>h3 h.2.2)];exact Tt o h1 h2 h3 w
 rw[if_pos ⟨h1,h2,h3⟩]
 by_cases h4:dv o.t=τ
 ·rw[if_pos h4];exact UC o h1 h2 h3 h4 w
 ·rw[if_neg h4];exact Vp o h1 h2 h3 (by simpa using h4) w
section
open Go.RowKit Go.Great
def cV (o:cO):cO:=
 if o.k=3 then⟨0,0,0,o.s1,o.n1,o.s2,o.n2,0,0,0,0,0,0,0,0,0,0,o.e,o.t,o.m⟩
 else if o.k=5 then⟨0,0,0,0,0,0,0,o.a0,o.a1,o.a2,o.a3,o.a4,o.b0,o.b1,o.b2,o.b3,o.b4,o.e,o.t,0⟩
 else if o.k=6 then⟨0,0,0,o.s1,o.n1,0,0,o.a0,o.a1,o.a2,o.a3,o.a4,o.b0,o.b1,o.b2,o.b3,o.b4,o.e,o.t,o.m⟩
 else if o.k=7 then⟨0,0,0,o.s1,o.n1,o.s2,o.n2,o.a0,o.a1,o.a2,o.a3,o.a4,o.b0,o.b1,o.b2,o.b3,o.b4,ρ,⟨#[]⟩,o.m⟩
 else if o.k=8 then⟨0,0,0,o.s1,o.n1,o.s2,o.n2,o.a0,o.a1,o.a2,o.a3,o.a4,o.b0,o.b1,o.b2,o.b3,o.b4,ρ,o.t,0⟩
 else⟨0,0,0,o.s1,o.n1,o.s2,o.n2,o.a0,o.a1,o.a2,o.a3,o.a4,o.b0,o.b1,o.b2,o.b3,o.b4,o.e,o.t,o.m⟩
theorem QW (o:cO) (q3:(o.k==3)=ρ) (q5:(o.k==5)=ρ) (q6:(o.k==6)=ρ) (q7:(o.k==7)=ρ) (q8:(o.k==8)=ρ) (w:ο):Ζ η 69 #[φ (aa o).toArray] w fun e w'=>e=.returned (φ (aa ⟨0,0,0,o.s1,o.n1,o.s2,o.n2,o.a0,o.a1,o.a2,o.a3,o.a4,o.b0,o.b1,o.b2,o.b3,o.b4,o.e,o.t,o.m⟩).toArray)∧σ w.heap.size w w':=by
 go_enter Tryz.func69,Tryz.ntmps69;go_upto_region 1 with fail
 obtain⟨W1,a7⟩:=az ((w.alloc (δ (aa o).toArray 36)).alloc (δ #[J 0,J 0,J 0,J 0,J 0,J 0,J 0,J 0,J 0,J 0,J 0,J 0,J 0,J 0,J 0,J 0,J 0,Β ρ,μ ⟨#[]⟩,J 0] 36));have HO:Hid (Whole W1 w.heap.size 36 (aa o)):=qh (by rw[←a7];exact(Whole.new_ w _ _).alloc _);have HR:Hid (Whole W1 (w.heap.size+1) 36 [J 0,J 0,J 0,J 0,J 0,J 0,J 0,J 0,J 0,J 0,J 0,J 0,J 0,J 0,J 0,J 0,J 0,Β ρ,μ ⟨#[]⟩,J 0]):=qh (by rw[←a7];exact Whole.new2 (cs:=[J 0,J 0,J 0,J 0,J 0,J 0,J 0,J 0,J 0,J 0,J 0,J 0,J 0,J 0,J 0,J 0,J 0,Β ρ,μ ⟨#[]⟩,J 0]) (by simp));have HB:Hid (σ w.heap.size w W1):=qh (by rw[←a7];exact bT _ _ _);rw[a7];clear a7;obtain⟨g0,dx⟩:=az w.heap.size;rw[dx] at HO HR ⊢;have im:Hid (w.heap.size≤g0):=qh (by omega);clear dx;have l0:=HO.out.cell (i:=0) rfl;have z0:=HO.out.free 0;have l1:=HO.out.cell (i:=1) rfl;have z1:=HO.out.free 1;have l2:=HO.out.cell (i:=2) rfl;have z2:=HO.out.free 2;go_upto_region 19 with fail
 clear l0 z0 l1 z1 l2 z2;obtain⟨W2,eO⟩:=az (((((((W1).setCell ⟨g0,0,ε⟩ (J 0))).setCell ⟨g0,1,ε⟩ (J 0))).setCell ⟨g0,2,ε⟩ (J 0)));have gE:Hid (Whole W2 g0 36 (aa ⟨0,0,0,o.s1,o.n1,o.s2,o.n2,o.a0,o.a1,o.a2,o.a3,o.a4,o.b0,o.b1,o.b2,o.b3,o.b4,o.e,o.t,o.m⟩)):=qh (eO▸(((HO.out.set_ 0 _).set_ 1 _).set_ 2 _));have pN:Hid (Whole W2 (g0+1) 36 [J 0,J 0,J 0,J 0,J 0,J 0,J 0,J 0,J 0,J 0,J 0,J 0,J 0,J 0,J 0,J 0,J 0,Β ρ,μ ⟨#[]⟩,J 0]):=qh (eO▸(((HR.out.far (by show g0+1≠g0;omega) _).far (by show g0+1≠g0;omega) _).far (by show g0+1≠g0;omega) _));have cL:Hid (σ w.heap.size w W2):=qh (eO▸(((HB.out.setCell (by show w.heap.size≤g0;exact im.out) _).setCell (by show w.heap.size≤g0;exact im.out) _).setCell (by show w.heap.size≤g0;exact im.out) _));rw[eO];clear eO;refine Jam ?_;refine wpList_load_row rfl 36 (.tmp 1) rfl g0 rfl 36 (aa ⟨0,0,0,o.s1,o.n1,o.s2,o.n2,o.a0,o.a1,o.a2,o.a3,o.a4,o.b0,o.b1,o.b2,o.b3,o.b4,o.e,o.t,o.m⟩).toArray (0,0) _ gE.out Tryz.underlying36 rfl (by kernel_rfl) ?_;simp only[ξ,ak,aj,ah];refine Jbu rfl 36 (.tmp 2) (.tmp 33) rfl (g0+1) (aa ⟨0,0,0,o.s1,o.n1,o.s2,o.n2,o.a0,o.a1,o.a2,o.a3,o.a4,o.b0,o.b1,o.b2,o.b3,o.b4,o.e,o.t,o.m⟩).toArray rfl rfl 36 #[J 0,J 0,J 0,J 0,J 0,J 0,J 0,J 0,J 0,J 0,J 0,J 0,J 0,J 0,J 0,J 0,J 0,Β ρ,μ ⟨#[]⟩,J 0] pN.out (by kernel_rfl) rfl (by simp[aa,Τ]) ?_
 have mc:Hid (Whole (W2.setRow (g0+1) (aa ⟨0,0,0,o.s1,o.n1,o.s2,o.n2,o.a0,o.a1,o.a2,o.a3,o.a4,o.b0,o.b1,o.b2,o.b3,o.b4,o.e,o.t,o.m⟩).toArray) (g0+1) 36 (aa ⟨0,0,0,o.s1,o.n1,o.s2,o.n2,o.a0,o.a1,o.a2,o.a3,o.a4,o.b0,o.b1,o.b2,o.b3,o.b4,o.e,o.t,o.m⟩)):=qh (setRow_heap W2 (g0+1) _ _ _ _ pN.out);have cY:Hid (σ w.heap.size w (W2.setRow (g0+1) (aa ⟨0,0,0,o.s1,o.n1,o.s2,o.n2,o.a0,o.a1,o.a2,o.a3,o.a4,o.b0,o.b1,o.b2,o.b3,o.b4,o.e,o.t,o.m⟩).toArray)):=qh ⟨cL.out.os,cL.out.tape,cL.out.output,(by have:=cL.out.size;simpa [World.setRow] using this),fun i hi=>(setRow_other W2 (g0+1) i _ (by have:=im.out;omega)).trans (cL.out.block i hi)⟩;obtain⟨W3,lu⟩:=az (W2.setRow (g0+1) (aa ⟨0,0,0,o.s1,o.n1,o.s2,o.n2,o.a0,o.a1,o.a2,o.a3,o.a4,o.b0,o.b1,o.b2,o.b3,o.b4,o.e,o.t,o.m⟩).toArray);rw[lu] at mc cY ⊢;clear lu;go_wp2;exact JaN (v:=φ (aa ⟨0,0,0,o.s1,o.n1,o.s2,o.n2,o.a0,o.a1,o.a2,o.a3,o.a4,o.b0,o.b1,o.b2,o.b3,o.b4,o.e,o.t,o.m⟩).toArray) (results_cell_row Tryz.results69 _ W3 (g0+1) 36 (aa ⟨0,0,0,o.s1,o.n1,o.s2,o.n2,o.a0,o.a1,o.a2,o.a3,o.a4,o.b0,o.b1,o.b2,o.b3,o.b4,o.e,o.t,o.m⟩).toArray (0,0) _ (by rfl) mc.out Tryz.underlying36 rfl (by kernel_rfl)) rfl ⟨rfl,cY.out⟩
theorem Rz (o:cO) (hk:o.k=3) (w:ο):Ζ η 69 #[φ (aa o).toArray] w fun e w'=>e=.returned (φ (aa ⟨0,0,0,o.s1,o.n1,o.s2,o.n2,0,0,0,0,0,0,0,0,0,0,o.e,o.t,o.m⟩).toArray)∧σ w.heap.size w w':=by
 obtain⟨k,s,n,s1,n1,s2,n2,a0,a1,a2,a3,a4,b0,b1,b2,b3,b4,e,t,m⟩:=o;obtain rfl:k=3:=hk;obtain⟨o,go⟩:∃o:cO,o=⟨3,s,n,s1,n1,s2,n2,a0,a1,a2,a3,a4,b0,b1,b2,b3,b4,e,t,m⟩:=⟨_,rfl⟩
 have q:o.k=3:=by rw[go]
 rw[show(⟨0,0,0,s1,n1,s2,n2,0,0,0,0,0,0,0,0,0,0,e,t,m⟩:cO)=⟨0,0,0,o.s1,o.n1,o.s2,o.n2,0,0,0,0,0,0,0,0,0,0,o.e,o.t,o.m⟩ from by rw[go]];rw[←go];clear go;go_enter Tryz.func69,Tryz.ntmps69;go_upto_region 1 with fail
 obtain⟨W1,a7⟩:=az ((w.alloc (δ (aa o).toArray 36)).alloc (δ #[J 0,J 0,J 0,J 0,J 0,J 0,J 0,J 0,J 0,J 0,J 0,J 0,J 0,J 0,J 0,J 0,J 0,Β ρ,μ ⟨#[]⟩,J 0] 36));have HO:Hid (Whole W1 w.heap.size 36 (aa o)):=qh (by rw[←a7];exact(Whole.new_ w _ _).alloc _);have HR:Hid (Whole W1 (w.heap.size+1) 36 [J 0,J 0,J 0,J 0,J 0,J 0,J 0,J 0,J 0,J 0,J 0,J 0,J 0,J 0,J 0,J 0,J 0,Β ρ,μ ⟨#[]⟩,J 0]):=qh (by rw[←a7];exact Whole.new2 (cs:=[J 0,J 0,J 0,J 0,J 0,J 0,J 0,J 0,J 0,J 0,J 0,J 0,J 0,J 0,J 0,J 0,J 0,Β ρ,μ ⟨#[]⟩,J 0]) (by simp));have HB:Hid (σ w.heap.size w W1):=qh (by rw[←a7];exact bT _ _ _);rw[a7];clear a7;obtain⟨g0,dx⟩:=az w.heap.size;rw[dx] at HO HR ⊢;have im:Hid (w.heap.size≤g0):=qh (by omega);clear dx;have l7:=HO.out.cell (i:=7) rfl;have z7:=HO.out.free 7;have l8:=HO.out.cell (i:=8) rfl;have z8:=HO.out.free 8;have l9:=HO.out.cell (i:=9) rfl;have z9:=HO.out.free 9;have l10:=HO.out.cell (i:=10) rfl;have z10:=HO.out.free 10;have l11:=HO.out.cell (i:=11) rfl;have YF:=HO.out.free 11;have l12:=HO.out.cell (i:=12) rfl
 have z12:=HO.out.free 12;have l13:=HO.out.cell (i:=13) rfl;have Zw:=HO.out.free 13;have l14:=HO.out.cell (i:=14) rfl;have YC:=HO.out.free 14;have l15:=HO.out.cell (i:=15) rfl;have z15:=HO.out.free 15;have l16:=HO.out.cell (i:=16) rfl;have YL:=HO.out.free 16;have l0:=HO.out.cell (i:=0) rfl;have z0:=HO.out.free 0;have l1:=HO.out.cell (i:=1) rfl;have z1:=HO.out.free 1;have l2:=HO.out.cell (i:=2) rfl;have z2:=HO.out.free 2;go_upto_region 19 with fail
 clear l7 z7 l8 z8 l9 z9 l10 z10 l11 YF l12 z12 l13 Zw l14 YC l15 z15 l16 YL l0 z0 l1 z1 l2 z2;obtain⟨W2,eO⟩:=az (((((((((((((((((((((((((((W1).setCell ⟨g0,7,ε⟩ (J 0))).setCell ⟨g0,8,ε⟩ (J 0))).setCell ⟨g0,9,ε⟩ (J 0))).setCell ⟨g0,10,ε⟩ (J 0))).setCell ⟨g0,11,ε⟩ (J 0))).setCell ⟨g0,12,ε⟩ (J 0))).setCell ⟨g0,13,ε⟩ (J 0))).setCell ⟨g0,14,ε⟩ (J 0))).setCell ⟨g0,15,ε⟩ (J 0))).setCell ⟨g0,16,ε⟩ (J 0))).setCell ⟨g0,0,ε⟩ (J 0))).setCell ⟨g0,1,ε⟩ (J 0))).setCell ⟨g0,2,ε⟩ (J 0)));have gE:Hid (Whole W2 g0 36 (aa ⟨0,0,0,o.s1,o.n1,o.s2,o.n2,0,0,0,0,0,0,0,0,0,0,o.e,o.t,o.m⟩)):=qh (eO▸(((((((((((((HO.out.set_ 7 _).set_ 8 _).set_ 9 _).set_ 10 _).set_ 11 _).set_ 12 _).set_ 13 _).set_ 14 _).set_ 15 _).set_ 16 _).set_ 0 _).set_ 1 _).set_ 2 _));have pN:Hid (Whole W2 (g0+1) 36 [J 0,J 0,J 0,J 0,J 0,J 0,J 0,J 0,J 0,J 0,J 0,J 0,J 0,J 0,J 0,J 0,J 0,Β ρ,μ ⟨#[]⟩,J 0]):=qh (eO▸(((((((((((((HR.out.far (by show g0+1≠g0;omega) _).far (by show g0+1≠g0;omega) _).far (by show g0+1≠g0;omega) _).far (by show g0+1≠g0;omega) _).far (by show g0+1≠g0;omega) _).far (by show g0+1≠g0;omega) _).far (by show g0+1≠g0;omega) _).far (by show g0+1≠g0;omega) _).far (by show g0+1≠g0;omega) _).far (by show g0+1≠g0;omega) _).far (by show g0+1≠g0;omega) _).far (by show g0+1≠g0;omega) _).far (by show g0+1≠g0;omega) _))
 have cL:Hid (σ w.heap.size w W2):=qh (eO▸(((((((((((((HB.out.setCell (by show w.heap.size≤g0;exact im.out) _).setCell (by show w.heap.size≤g0;exact im.out) _).setCell (by show w.heap.size≤g0;exact im.out) _).setCell (by show w.heap.size≤g0;exact im.out) _).setCell (by show w.heap.size≤g0;exact im.out) _).setCell (by show w.heap.size≤g0;exact im.out) _).setCell (by show w.heap.size≤g0;exact im.out) _).setCell (by show w.heap.size≤g0;exact im.out) _).setCell (by show w.heap.size≤g0;exact im.out) _).setCell (by show w.heap.size≤g0;exact im.out) _).setCell (by show w.heap.size≤g0;exact im.out) _).setCell (by show w.heap.size≤g0;exact im.out) _).setCell (by show w.heap.size≤g0;exact im.out) _));rw[eO];clear eO;refine Jam ?_;refine wpList_load_row rfl 36 (.tmp 1) rfl g0 rfl 36 (aa ⟨0,0,0,o.s1,o.n1,o.s2,o.n2,0,0,0,0,0,0,0,0,0,0,o.e,o.t,o.m⟩).toArray (0,0) _ gE.out Tryz.underlying36 rfl (by kernel_rfl) ?_;simp only[ξ,ak,aj,ah];refine Jbu rfl 36 (.tmp 2) (.tmp 33) rfl (g0+1) (aa ⟨0,0,0,o.s1,o.n1,o.s2,o.n2,0,0,0,0,0,0,0,0,0,0,o.e,o.t,o.m⟩).toArray rfl rfl 36 #[J 0,J 0,J 0,J 0,J 0,J 0,J 0,J 0,J 0,J 0,J 0,J 0,J 0,J 0,J 0,J 0,J 0,Β ρ,μ ⟨#[]⟩,J 0] pN.out (by kernel_rfl) rfl (by simp[aa,Τ]) ?_;have mc:Hid (Whole (W2.setRow (g0+1) (aa ⟨0,0,0,o.s1,o.n1,o.s2,o.n2,0,0,0,0,0,0,0,0,0,0,o.e,o.t,o.m⟩).toArray) (g0+1) 36 (aa ⟨0,0,0,o.s1,o.n1,o.s2,o.n2,0,0,0,0,0,0,0,0,0,0,o.e,o.t,o.m⟩)):=qh (setRow_heap W2 (g0+1) _ _ _ _ pN.out)
 have cY:Hid (σ w.heap.size w (W2.setRow (g0+1) (aa ⟨0,0,0,o.s1,o.n1,o.s2,o.n2,0,0,0,0,0,0,0,0,0,0,o.e,o.t,o.m⟩).toArray)):=qh ⟨cL.out.os,cL.out.tape,cL.out.output,(by have:=cL.out.size;simpa [World.setRow] using this),fun i hi=>(setRow_other W2 (g0+1) i _ (by have:=im.out;omega)).trans (cL.out.block i hi)⟩;obtain⟨W3,lu⟩:=az (W2.setRow (g0+1) (aa ⟨0,0,0,o.s1,o.n1,o.s2,o.n2,0,0,0,0,0,0,0,0,0,0,o.e,o.t,o.m⟩).toArray);rw[lu] at mc cY ⊢;clear lu;go_wp2;exact JaN (v:=φ (aa ⟨0,0,0,o.s1,o.n1,o.s2,o.n2,0,0,0,0,0,0,0,0,0,0,o.e,o.t,o.m⟩).toArray) (results_cell_row Tryz.results69 _ W3 (g0+1) 36 (aa ⟨0,0,0,o.s1,o.n1,o.s2,o.n2,0,0,0,0,0,0,0,0,0,0,o.e,o.t,o.m⟩).toArray (0,0) _ (by rfl) mc.out Tryz.underlying36 rfl (by kernel_rfl)) rfl ⟨rfl,cY.out⟩
theorem Qt (o:cO) (hk:o.k=5) (w:ο):Ζ η 69 #[φ (aa o).toArray] w fun e w'=>e=.returned (φ (aa ⟨0,0,0,0,0,0,0,o.a0,o.a1,o.a2,o.a3,o.a4,o.b0,o.b1,o.b2,o.b3,o.b4,o.e,o.t,0⟩).toArray)∧σ w.heap.size w w':=by
 obtain⟨k,s,n,s1,n1,s2,n2,a0,a1,a2,a3,a4,b0,b1,b2,b3,b4,e,t,m⟩:=o;obtain rfl:k=5:=hk;obtain⟨o,go⟩:∃o:cO,o=⟨5,s,n,s1,n1,s2,n2,a0,a1,a2,a3,a4,b0,b1,b2,b3,b4,e,t,m⟩:=⟨_,rfl⟩
 have q:o.k=5:=by rw[go]
 rw[show(⟨0,0,0,0,0,0,0,a0,a1,a2,a3,a4,b0,b1,b2,b3,b4,e,t,0⟩:cO)=⟨0,0,0,0,0,0,0,o.a0,o.a1,o.a2,o.a3,o.a4,o.b0,o.b1,o.b2,o.b3,o.b4,o.e,o.t,0⟩ from by rw[go]];rw[←go];clear go;go_enter Tryz.func69,Tryz.ntmps69;go_upto_region 1 with fail
 obtain⟨W1,a7⟩:=az ((w.alloc (δ (aa o).toArray 36)).alloc (δ #[J 0,J 0,J 0,J 0,J 0,J 0,J 0,J 0,J 0,J 0,J 0,J 0,J 0,J 0,J 0,J 0,J 0,Β ρ,μ ⟨#[]⟩,J 0] 36));have HO:Hid (Whole W1 w.heap.size 36 (aa o)):=qh (by rw[←a7];exact(Whole.new_ w _ _).alloc _);have HR:Hid (Whole W1 (w.heap.size+1) 36 [J 0,J 0,J 0,J 0,J 0,J 0,J 0,J 0,J 0,J 0,J 0,J 0,J 0,J 0,J 0,J 0,J 0,Β ρ,μ ⟨#[]⟩,J 0]):=qh (by rw[←a7];exact Whole.new2 (cs:=[J 0,J 0,J 0,J 0,J 0,J 0,J 0,J 0,J 0,J 0,J 0,J 0,J 0,J 0,J 0,J 0,J 0,Β ρ,μ ⟨#[]⟩,J 0]) (by simp));have HB:Hid (σ w.heap.size w W1):=qh (by rw[←a7];exact bT _ _ _);rw[a7];clear a7;obtain⟨g0,dx⟩:=az w.heap.size;rw[dx] at HO HR ⊢;have im:Hid (w.heap.size≤g0):=qh (by omega);clear dx;have l3:=HO.out.cell (i:=3) rfl;have z3:=HO.out.free 3;have l4:=HO.out.cell (i:=4) rfl;have z4:=HO.out.free 4;have l5:=HO.out.cell (i:=5) rfl;have z5:=HO.out.free 5;have l6:=HO.out.cell (i:=6) rfl;have z6:=HO.out.free 6;have Ys:=HO.out.cell (i:=19) rfl;have R9:=HO.out.free 19;have l0:=HO.out.cell (i:=0) rfl
 have z0:=HO.out.free 0;have l1:=HO.out.cell (i:=1) rfl;have z1:=HO.out.free 1;have l2:=HO.out.cell (i:=2) rfl;have z2:=HO.out.free 2;go_upto_region 19 with fail
 clear l3 z3 l4 z4 l5 z5 l6 z6 Ys R9 l0 z0 l1 z1 l2 z2;obtain⟨W2,eO⟩:=az (((((((((((((((((W1).setCell ⟨g0,3,ε⟩ (J 0))).setCell ⟨g0,4,ε⟩ (J 0))).setCell ⟨g0,5,ε⟩ (J 0))).setCell ⟨g0,6,ε⟩ (J 0))).setCell ⟨g0,19,ε⟩ (J 0))).setCell ⟨g0,0,ε⟩ (J 0))).setCell ⟨g0,1,ε⟩ (J 0))).setCell ⟨g0,2,ε⟩ (J 0)));have gE:Hid (Whole W2 g0 36 (aa ⟨0,0,0,0,0,0,0,o.a0,o.a1,o.a2,o.a3,o.a4,o.b0,o.b1,o.b2,o.b3,o.b4,o.e,o.t,0⟩)):=qh (eO▸((((((((HO.out.set_ 3 _).set_ 4 _).set_ 5 _).set_ 6 _).set_ 19 _).set_ 0 _).set_ 1 _).set_ 2 _));have pN:Hid (Whole W2 (g0+1) 36 [J 0,J 0,J 0,J 0,J 0,J 0,J 0,J 0,J 0,J 0,J 0,J 0,J 0,J 0,J 0,J 0,J 0,Β ρ,μ ⟨#[]⟩,J 0]):=qh (eO▸((((((((HR.out.far (by show g0+1≠g0;omega) _).far (by show g0+1≠g0;omega) _).far (by show g0+1≠g0;omega) _).far (by show g0+1≠g0;omega) _).far (by show g0+1≠g0;omega) _).far (by show g0+1≠g0;omega) _).far (by show g0+1≠g0;omega) _).far (by show g0+1≠g0;omega) _));have cL:Hid (σ w.heap.size w W2):=qh (eO▸((((((((HB.out.setCell (by show w.heap.size≤g0;exact im.out) _).setCell (by show w.heap.size≤g0;exact im.out) _).setCell (by show w.heap.size≤g0;exact im.out) _).setCell (by show w.heap.size≤g0;exact im.out) _).setCell (by show w.heap.size≤g0;exact im.out) _).setCell (by show w.heap.size≤g0;exact im.out) _).setCell (by show w.heap.size≤g0;exact im.out) _).setCell (by show w.heap.size≤g0;exact im.out) _))
 rw[eO];clear eO;refine Jam ?_;refine wpList_load_row rfl 36 (.tmp 1) rfl g0 rfl 36 (aa ⟨0,0,0,0,0,0,0,o.a0,o.a1,o.a2,o.a3,o.a4,o.b0,o.b1,o.b2,o.b3,o.b4,o.e,o.t,0⟩).toArray (0,0) _ gE.out Tryz.underlying36 rfl (by kernel_rfl) ?_;simp only[ξ,ak,aj,ah];refine Jbu rfl 36 (.tmp 2) (.tmp 33) rfl (g0+1) (aa ⟨0,0,0,0,0,0,0,o.a0,o.a1,o.a2,o.a3,o.a4,o.b0,o.b1,o.b2,o.b3,o.b4,o.e,o.t,0⟩).toArray rfl rfl 36 #[J 0,J 0,J 0,J 0,J 0,J 0,J 0,J 0,J 0,J 0,J 0,J 0,J 0,J 0,J 0,J 0,J 0,Β ρ,μ ⟨#[]⟩,J 0] pN.out (by kernel_rfl) rfl (by simp[aa,Τ]) ?_;have mc:Hid (Whole (W2.setRow (g0+1) (aa ⟨0,0,0,0,0,0,0,o.a0,o.a1,o.a2,o.a3,o.a4,o.b0,o.b1,o.b2,o.b3,o.b4,o.e,o.t,0⟩).toArray) (g0+1) 36 (aa ⟨0,0,0,0,0,0,0,o.a0,o.a1,o.a2,o.a3,o.a4,o.b0,o.b1,o.b2,o.b3,o.b4,o.e,o.t,0⟩)):=qh (setRow_heap W2 (g0+1) _ _ _ _ pN.out);have cY:Hid (σ w.heap.size w (W2.setRow (g0+1) (aa ⟨0,0,0,0,0,0,0,o.a0,o.a1,o.a2,o.a3,o.a4,o.b0,o.b1,o.b2,o.b3,o.b4,o.e,o.t,0⟩).toArray)):=qh ⟨cL.out.os,cL.out.tape,cL.out.output,(by have:=cL.out.size;simpa [World.setRow] using this),fun i hi=>(setRow_other W2 (g0+1) i _ (by have:=im.out;omega)).trans (cL.out.block i hi)⟩;obtain⟨W3,lu⟩:=az (W2.setRow (g0+1) (aa ⟨0,0,0,0,0,0,0,o.a0,o.a1,o.a2,o.a3,o.a4,o.b0,o.b1,o.b2,o.b3,o.b4,o.e,o.t,0⟩).toArray)
 rw[lu] at mc cY ⊢;clear lu;go_wp2;exact JaN (v:=φ (aa ⟨0,0,0,0,0,0,0,o.a0,o.a1,o.a2,o.a3,o.a4,o.b0,o.b1,o.b2,o.b3,o.b4,o.e,o.t,0⟩).toArray) (results_cell_row Tryz.results69 _ W3 (g0+1) 36 (aa ⟨0,0,0,0,0,0,0,o.a0,o.a1,o.a2,o.a3,o.a4,o.b0,o.b1,o.b2,o.b3,o.b4,o.e,o.t,0⟩).toArray (0,0) _ (by rfl) mc.out Tryz.underlying36 rfl (by kernel_rfl)) rfl ⟨rfl,cY.out⟩
theorem RC (o:cO) (hk:o.k=6) (w:ο):Ζ η 69 #[φ (aa o).toArray] w fun e w'=>e=.returned (φ (aa ⟨0,0,0,o.s1,o.n1,0,0,o.a0,o.a1,o.a2,o.a3,o.a4,o.b0,o.b1,o.b2,o.b3,o.b4,o.e,o.t,o.m⟩).toArray)∧σ w.heap.size w w':=by
 obtain⟨k,s,n,s1,n1,s2,n2,a0,a1,a2,a3,a4,b0,b1,b2,b3,b4,e,t,m⟩:=o;obtain rfl:k=6:=hk;obtain⟨o,go⟩:∃o:cO,o=⟨6,s,n,s1,n1,s2,n2,a0,a1,a2,a3,a4,b0,b1,b2,b3,b4,e,t,m⟩:=⟨_,rfl⟩
 have q:o.k=6:=by rw[go]
 rw[show(⟨0,0,0,s1,n1,0,0,a0,a1,a2,a3,a4,b0,b1,b2,b3,b4,e,t,m⟩:cO)=⟨0,0,0,o.s1,o.n1,0,0,o.a0,o.a1,o.a2,o.a3,o.a4,o.b0,o.b1,o.b2,o.b3,o.b4,o.e,o.t,o.m⟩ from by rw[go]];rw[←go];clear go;go_enter Tryz.func69,Tryz.ntmps69;go_upto_region 1 with fail
 obtain⟨W1,a7⟩:=az ((w.alloc (δ (aa o).toArray 36)).alloc (δ #[J 0,J 0,J 0,J 0,J 0,J 0,J 0,J 0,J 0,J 0,J 0,J 0,J 0,J 0,J 0,J 0,J 0,Β ρ,μ ⟨#[]⟩,J 0] 36));have HO:Hid (Whole W1 w.heap.size 36 (aa o)):=qh (by rw[←a7];exact(Whole.new_ w _ _).alloc _);have HR:Hid (Whole W1 (w.heap.size+1) 36 [J 0,J 0,J 0,J 0,J 0,J 0,J 0,J 0,J 0,J 0,J 0,J 0,J 0,J 0,J 0,J 0,J 0,Β ρ,μ ⟨#[]⟩,J 0]):=qh (by rw[←a7];exact Whole.new2 (cs:=[J 0,J 0,J 0,J 0,J 0,J 0,J 0,J 0,J 0,J 0,J 0,J 0,J 0,J 0,J 0,J 0,J 0,Β ρ,μ ⟨#[]⟩,J 0]) (by simp));have HB:Hid (σ w.heap.size w W1):=qh (by rw[←a7];exact bT _ _ _);rw[a7];clear a7;obtain⟨g0,dx⟩:=az w.heap.size;rw[dx] at HO HR ⊢;have im:Hid (w.heap.size≤g0):=qh (by omega);clear dx;have l5:=HO.out.cell (i:=5) rfl;have z5:=HO.out.free 5;have l6:=HO.out.cell (i:=6) rfl;have z6:=HO.out.free 6;have l0:=HO.out.cell (i:=0) rfl;have z0:=HO.out.free 0;have l1:=HO.out.cell (i:=1) rfl;have z1:=HO.out.free 1;have l2:=HO.out.cell (i:=2) rfl;have z2:=HO.out.free 2;go_upto_region 19 with fail
 clear l5 z5 l6 z6 l0 z0 l1 z1 l2 z2;obtain⟨W2,eO⟩:=az (((((((((((W1).setCell ⟨g0,5,ε⟩ (J 0))).setCell ⟨g0,6,ε⟩ (J 0))).setCell ⟨g0,0,ε⟩ (J 0))).setCell ⟨g0,1,ε⟩ (J 0))).setCell ⟨g0,2,ε⟩ (J 0)));have gE:Hid (Whole W2 g0 36 (aa ⟨0,0,0,o.s1,o.n1,0,0,o.a0,o.a1,o.a2,o.a3,o.a4,o.b0,o.b1,o.b2,o.b3,o.b4,o.e,o.t,o.m⟩)):=qh (eO▸(((((HO.out.set_ 5 _).set_ 6 _).set_ 0 _).set_ 1 _).set_ 2 _));have pN:Hid (Whole W2 (g0+1) 36 [J 0,J 0,J 0,J 0,J 0,J 0,J 0,J 0,J 0,J 0,J 0,J 0,J 0,J 0,J 0,J 0,J 0,Β ρ,μ ⟨#[]⟩,J 0]):=qh (eO▸(((((HR.out.far (by show g0+1≠g0;omega) _).far (by show g0+1≠g0;omega) _).far (by show g0+1≠g0;omega) _).far (by show g0+1≠g0;omega) _).far (by show g0+1≠g0;omega) _));have cL:Hid (σ w.heap.size w W2):=qh (eO▸(((((HB.out.setCell (by show w.heap.size≤g0;exact im.out) _).setCell (by show w.heap.size≤g0;exact im.out) _).setCell (by show w.heap.size≤g0;exact im.out) _).setCell (by show w.heap.size≤g0;exact im.out) _).setCell (by show w.heap.size≤g0;exact im.out) _));rw[eO];clear eO;refine Jam ?_;refine wpList_load_row rfl 36 (.tmp 1) rfl g0 rfl 36 (aa ⟨0,0,0,o.s1,o.n1,0,0,o.a0,o.a1,o.a2,o.a3,o.a4,o.b0,o.b1,o.b2,o.b3,o.b4,o.e,o.t,o.m⟩).toArray (0,0) _ gE.out Tryz.underlying36 rfl (by kernel_rfl) ?_;simp only[ξ,ak,aj,ah]
 refine Jbu rfl 36 (.tmp 2) (.tmp 33) rfl (g0+1) (aa ⟨0,0,0,o.s1,o.n1,0,0,o.a0,o.a1,o.a2,o.a3,o.a4,o.b0,o.b1,o.b2,o.b3,o.b4,o.e,o.t,o.m⟩).toArray rfl rfl 36 #[J 0,J 0,J 0,J 0,J 0,J 0,J 0,J 0,J 0,J 0,J 0,J 0,J 0,J 0,J 0,J 0,J 0,Β ρ,μ ⟨#[]⟩,J 0] pN.out (by kernel_rfl) rfl (by simp[aa,Τ]) ?_;have mc:Hid (Whole (W2.setRow (g0+1) (aa ⟨0,0,0,o.s1,o.n1,0,0,o.a0,o.a1,o.a2,o.a3,o.a4,o.b0,o.b1,o.b2,o.b3,o.b4,o.e,o.t,o.m⟩).toArray) (g0+1) 36 (aa ⟨0,0,0,o.s1,o.n1,0,0,o.a0,o.a1,o.a2,o.a3,o.a4,o.b0,o.b1,o.b2,o.b3,o.b4,o.e,o.t,o.m⟩)):=qh (setRow_heap W2 (g0+1) _ _ _ _ pN.out);have cY:Hid (σ w.heap.size w (W2.setRow (g0+1) (aa ⟨0,0,0,o.s1,o.n1,0,0,o.a0,o.a1,o.a2,o.a3,o.a4,o.b0,o.b1,o.b2,o.b3,o.b4,o.e,o.t,o.m⟩).toArray)):=qh ⟨cL.out.os,cL.out.tape,cL.out.output,(by have:=cL.out.size;simpa [World.setRow] using this),fun i hi=>(setRow_other W2 (g0+1) i _ (by have:=im.out;omega)).trans (cL.out.block i hi)⟩;obtain⟨W3,lu⟩:=az (W2.setRow (g0+1) (aa ⟨0,0,0,o.s1,o.n1,0,0,o.a0,o.a1,o.a2,o.a3,o.a4,o.b0,o.b1,o.b2,o.b3,o.b4,o.e,o.t,o.m⟩).toArray);rw[lu] at mc cY ⊢;clear lu;go_wp2;exact JaN (v:=φ (aa ⟨0,0,0,o.s1,o.n1,0,0,o.a0,o.a1,o.a2,o.a3,o.a4,o.b0,o.b1,o.b2,o.b3,o.b4,o.e,o.t,o.m⟩).toArray) (results_cell_row Tryz.results69 _ W3 (g0+1) 36 (aa ⟨0,0,0,o.s1,o.n1,0,0,o.a0,o.a1,o.a2,o.a3,o.a4,o.b0,o.b1,o.b2,o.b3,o.b4,o.e,o.t,o.m⟩).toArray (0,0) _ (by rfl) mc.out Tryz.underlying36 rfl (by kernel_rfl)) rfl ⟨rfl,cY.out⟩
theorem RY (o:cO) (hk:o.k=7) (w:ο):Ζ η 69 #[φ (aa o).toArray] w fun e w'=>e=.returned (φ (aa ⟨0,0,0,o.s1,o.n1,o.s2,o.n2,o.a0,o.a1,o.a2,o.a3,o.a4,o.b0,o.b1,o.b2,o.b3,o.b4,ρ,⟨#[]⟩,o.m⟩).toArray)∧σ w.heap.size w w':=by
 obtain⟨k,s,n,s1,n1,s2,n2,a0,a1,a2,a3,a4,b0,b1,b2,b3,b4,e,t,m⟩:=o;obtain rfl:k=7:=hk;obtain⟨o,go⟩:∃o:cO,o=⟨7,s,n,s1,n1,s2,n2,a0,a1,a2,a3,a4,b0,b1,b2,b3,b4,e,t,m⟩:=⟨_,rfl⟩
 have q:o.k=7:=by rw[go]
 rw[show(⟨0,0,0,s1,n1,s2,n2,a0,a1,a2,a3,a4,b0,b1,b2,b3,b4,ρ,⟨#[]⟩,m⟩:cO)=⟨0,0,0,o.s1,o.n1,o.s2,o.n2,o.a0,o.a1,o.a2,o.a3,o.a4,o.b0,o.b1,o.b2,o.b3,o.b4,ρ,⟨#[]⟩,o.m⟩ from by rw[go]];rw[←go];clear go;go_enter Tryz.func69,Tryz.ntmps69;go_upto_region 1 with fail
 obtain⟨W1,a7⟩:=az ((w.alloc (δ (aa o).toArray 36)).alloc (δ #[J 0,J 0,J 0,J 0,J 0,J 0,J 0,J 0,J 0,J 0,J 0,J 0,J 0,J 0,J 0,J 0,J 0,Β ρ,μ ⟨#[]⟩,J 0] 36));have HO:Hid (Whole W1 w.heap.size 36 (aa o)):=qh (by rw[←a7];exact(Whole.new_ w _ _).alloc _);have HR:Hid (Whole W1 (w.heap.size+1) 36 [J 0,J 0,J 0,J 0,J 0,J 0,J 0,J 0,J 0,J 0,J 0,J 0,J 0,J 0,J 0,J 0,J 0,Β ρ,μ ⟨#[]⟩,J 0]):=qh (by rw[←a7];exact Whole.new2 (cs:=[J 0,J 0,J 0,J 0,J 0,J 0,J 0,J 0,J 0,J 0,J 0,J 0,J 0,J 0,J 0,J 0,J 0,Β ρ,μ ⟨#[]⟩,J 0]) (by simp));have HB:Hid (σ w.heap.size w W1):=qh (by rw[←a7];exact bT _ _ _);rw[a7];clear a7;obtain⟨g0,dx⟩:=az w.heap.size;rw[dx] at HO HR ⊢;have im:Hid (w.heap.size≤g0):=qh (by omega);clear dx;have ZB:=HO.out.cell (i:=17) rfl;have z17:=HO.out.free 17;have Yu:=HO.out.cell (i:=18) rfl;have Yp:=HO.out.free 18;have l0:=HO.out.cell (i:=0) rfl;have z0:=HO.out.free 0;have l1:=HO.out.cell (i:=1) rfl;have z1:=HO.out.free 1;have l2:=HO.out.cell (i:=2) rfl;have z2:=HO.out.free 2;go_upto_region 19 with fail
 clear ZB z17 Yu Yp l0 z0 l1 z1 l2 z2;obtain⟨W2,eO⟩:=az (((((((((((W1).setCell ⟨g0,17,ε⟩ (Β ρ))).setCell ⟨g0,18,ε⟩ (μ ⟨#[]⟩))).setCell ⟨g0,0,ε⟩ (J 0))).setCell ⟨g0,1,ε⟩ (J 0))).setCell ⟨g0,2,ε⟩ (J 0)));have gE:Hid (Whole W2 g0 36 (aa ⟨0,0,0,o.s1,o.n1,o.s2,o.n2,o.a0,o.a1,o.a2,o.a3,o.a4,o.b0,o.b1,o.b2,o.b3,o.b4,ρ,⟨#[]⟩,o.m⟩)):=qh (eO▸(((((HO.out.set_ 17 _).set_ 18 _).set_ 0 _).set_ 1 _).set_ 2 _));have pN:Hid (Whole W2 (g0+1) 36 [J 0,J 0,J 0,J 0,J 0,J 0,J 0,J 0,J 0,J 0,J 0,J 0,J 0,J 0,J 0,J 0,J 0,Β ρ,μ ⟨#[]⟩,J 0]):=qh (eO▸(((((HR.out.far (by show g0+1≠g0;omega) _).far (by show g0+1≠g0;omega) _).far (by show g0+1≠g0;omega) _).far (by show g0+1≠g0;omega) _).far (by show g0+1≠g0;omega) _));have cL:Hid (σ w.heap.size w W2):=qh (eO▸(((((HB.out.setCell (by show w.heap.size≤g0;exact im.out) _).setCell (by show w.heap.size≤g0;exact im.out) _).setCell (by show w.heap.size≤g0;exact im.out) _).setCell (by show w.heap.size≤g0;exact im.out) _).setCell (by show w.heap.size≤g0;exact im.out) _));rw[eO];clear eO;refine Jam ?_;refine wpList_load_row rfl 36 (.tmp 1) rfl g0 rfl 36 (aa ⟨0,0,0,o.s1,o.n1,o.s2,o.n2,o.a0,o.a1,o.a2,o.a3,o.a4,o.b0,o.b1,o.b2,o.b3,o.b4,ρ,⟨#[]⟩,o.m⟩).toArray (0,0) _ gE.out Tryz.underlying36 rfl (by kernel_rfl) ?_;simp only[ξ,ak,aj,ah]
 refine Jbu rfl 36 (.tmp 2) (.tmp 33) rfl (g0+1) (aa ⟨0,0,0,o.s1,o.n1,o.s2,o.n2,o.a0,o.a1,o.a2,o.a3,o.a4,o.b0,o.b1,o.b2,o.b3,o.b4,ρ,⟨#[]⟩,o.m⟩).toArray rfl rfl 36 #[J 0,J 0,J 0,J 0,J 0,J 0,J 0,J 0,J 0,J 0,J 0,J 0,J 0,J 0,J 0,J 0,J 0,Β ρ,μ ⟨#[]⟩,J 0] pN.out (by kernel_rfl) rfl (by simp[aa,Τ]) ?_;have mc:Hid (Whole (W2.setRow (g0+1) (aa ⟨0,0,0,o.s1,o.n1,o.s2,o.n2,o.a0,o.a1,o.a2,o.a3,o.a4,o.b0,o.b1,o.b2,o.b3,o.b4,ρ,⟨#[]⟩,o.m⟩).toArray) (g0+1) 36 (aa ⟨0,0,0,o.s1,o.n1,o.s2,o.n2,o.a0,o.a1,o.a2,o.a3,o.a4,o.b0,o.b1,o.b2,o.b3,o.b4,ρ,⟨#[]⟩,o.m⟩)):=qh (setRow_heap W2 (g0+1) _ _ _ _ pN.out);have cY:Hid (σ w.heap.size w (W2.setRow (g0+1) (aa ⟨0,0,0,o.s1,o.n1,o.s2,o.n2,o.a0,o.a1,o.a2,o.a3,o.a4,o.b0,o.b1,o.b2,o.b3,o.b4,ρ,⟨#[]⟩,o.m⟩).toArray)):=qh ⟨cL.out.os,cL.out.tape,cL.out.output,(by have:=cL.out.size;simpa [World.setRow] using this),fun i hi=>(setRow_other W2 (g0+1) i _ (by have:=im.out;omega)).trans (cL.out.block i hi)⟩;obtain⟨W3,lu⟩:=az (W2.setRow (g0+1) (aa ⟨0,0,0,o.s1,o.n1,o.s2,o.n2,o.a0,o.a1,o.a2,o.a3,o.a4,o.b0,o.b1,o.b2,o.b3,o.b4,ρ,⟨#[]⟩,o.m⟩).toArray);rw[lu] at mc cY ⊢;clear lu;go_wp2;exact JaN (v:=φ (aa ⟨0,0,0,o.s1,o.n1,o.s2,o.n2,o.a0,o.a1,o.a2,o.a3,o.a4,o.b0,o.b1,o.b2,o.b3,o.b4,ρ,⟨#[]⟩,o.m⟩).toArray) (results_cell_row Tryz.results69 _ W3 (g0+1) 36 (aa ⟨0,0,0,o.s1,o.n1,o.s2,o.n2,o.a0,o.a1,o.a2,o.a3,o.a4,o.b0,o.b1,o.b2,o.b3,o.b4,ρ,⟨#[]⟩,o.m⟩).toArray (0,0) _ (by rfl) mc.out Tryz.underlying36 rfl (by kernel_rfl)) rfl ⟨rfl,cY.out⟩
theorem QO (o:cO) (hk:o.k=8) (w:ο):Ζ η 69 #[φ (aa o).toArray] w fun e w'=>e=.returned (φ (aa ⟨0,0,0,o.s1,o.n1,o.s2,o.n2,o.a0,o.a1,o.a2,o.a3,o.a4,o.b0,o.b1,o.b2,o.b3,o.b4,ρ,o.t,0⟩).toArray)∧σ w.heap.size w w':=by
 obtain⟨k,s,n,s1,n1,s2,n2,a0,a1,a2,a3,a4,b0,b1,b2,b3,b4,e,t,m⟩:=o;obtain rfl:k=8:=hk;obtain⟨o,go⟩:∃o:cO,o=⟨8,s,n,s1,n1,s2,n2,a0,a1,a2,a3,a4,b0,b1,b2,b3,b4,e,t,m⟩:=⟨_,rfl⟩
 have q:o.k=8:=by rw[go]
 rw[show(⟨0,0,0,s1,n1,s2,n2,a0,a1,a2,a3,a4,b0,b1,b2,b3,b4,ρ,t,0⟩:cO)=⟨0,0,0,o.s1,o.n1,o.s2,o.n2,o.a0,o.a1,o.a2,o.a3,o.a4,o.b0,o.b1,o.b2,o.b3,o.b4,ρ,o.t,0⟩ from by rw[go]];rw[←go];clear go;go_enter Tryz.func69,Tryz.ntmps69;go_upto_region 1 with fail
 obtain⟨W1,a7⟩:=az ((w.alloc (δ (aa o).toArray 36)).alloc (δ #[J 0,J 0,J 0,J 0,J 0,J 0,J 0,J 0,J 0,J 0,J 0,J 0,J 0,J 0,J 0,J 0,J 0,Β ρ,μ ⟨#[]⟩,J 0] 36));have HO:Hid (Whole W1 w.heap.size 36 (aa o)):=qh (by rw[←a7];exact(Whole.new_ w _ _).alloc _);have HR:Hid (Whole W1 (w.heap.size+1) 36 [J 0,J 0,J 0,J 0,J 0,J 0,J 0,J 0,J 0,J 0,J 0,J 0,J 0,J 0,J 0,J 0,J 0,Β ρ,μ ⟨#[]⟩,J 0]):=qh (by rw[←a7];exact Whole.new2 (cs:=[J 0,J 0,J 0,J 0,J 0,J 0,J 0,J 0,J 0,J 0,J 0,J 0,J 0,J 0,J 0,J 0,J 0,Β ρ,μ ⟨#[]⟩,J 0]) (by simp));have HB:Hid (σ w.heap.size w W1):=qh (by rw[←a7];exact bT _ _ _);rw[a7];clear a7;obtain⟨g0,dx⟩:=az w.heap.size;rw[dx] at HO HR ⊢;have im:Hid (w.heap.size≤g0):=qh (by omega);clear dx;have ZB:=HO.out.cell (i:=17) rfl;have z17:=HO.out.free 17;have Ys:=HO.out.cell (i:=19) rfl;have R9:=HO.out.free 19;have l0:=HO.out.cell (i:=0) rfl;have z0:=HO.out.free 0;have l1:=HO.out.cell (i:=1) rfl;have z1:=HO.out.free 1;have l2:=HO.out.cell (i:=2) rfl;have z2:=HO.out.free 2;go_upto_region 19 with fail
 clear ZB z17 Ys R9 l0 z0 l1 z1 l2 z2;obtain⟨W2,eO⟩:=az (((((((((((W1).setCell ⟨g0,17,ε⟩ (Β ρ))).setCell ⟨g0,19,ε⟩ (J 0))).setCell ⟨g0,0,ε⟩ (J 0))).setCell ⟨g0,1,ε⟩ (J 0))).setCell ⟨g0,2,ε⟩ (J 0)));have gE:Hid (Whole W2 g0 36 (aa ⟨0,0,0,o.s1,o.n1,o.s2,o.n2,o.a0,o.a1,o.a2,o.a3,o.a4,o.b0,o.b1,o.b2,o.b3,o.b4,ρ,o.t,0⟩)):=qh (eO▸(((((HO.out.set_ 17 _).set_ 19 _).set_ 0 _).set_ 1 _).set_ 2 _));have pN:Hid (Whole W2 (g0+1) 36 [J 0,J 0,J 0,J 0,J 0,J 0,J 0,J 0,J 0,J 0,J 0,J 0,J 0,J 0,J 0,J 0,J 0,Β ρ,μ ⟨#[]⟩,J 0]):=qh (eO▸(((((HR.out.far (by show g0+1≠g0;omega) _).far (by show g0+1≠g0;omega) _).far (by show g0+1≠g0;omega) _).far (by show g0+1≠g0;omega) _).far (by show g0+1≠g0;omega) _));have cL:Hid (σ w.heap.size w W2):=qh (eO▸(((((HB.out.setCell (by show w.heap.size≤g0;exact im.out) _).setCell (by show w.heap.size≤g0;exact im.out) _).setCell (by show w.heap.size≤g0;exact im.out) _).setCell (by show w.heap.size≤g0;exact im.out) _).setCell (by show w.heap.size≤g0;exact im.out) _));rw[eO];clear eO;refine Jam ?_;refine wpList_load_row rfl 36 (.tmp 1) rfl g0 rfl 36 (aa ⟨0,0,0,o.s1,o.n1,o.s2,o.n2,o.a0,o.a1,o.a2,o.a3,o.a4,o.b0,o.b1,o.b2,o.b3,o.b4,ρ,o.t,0⟩).toArray (0,0) _ gE.out Tryz.underlying36 rfl (by kernel_rfl) ?_;simp only[ξ,ak,aj,ah]
 refine Jbu rfl 36 (.tmp 2) (.tmp 33) rfl (g0+1) (aa ⟨0,0,0,o.s1,o.n1,o.s2,o.n2,o.a0,o.a1,o.a2,o.a3,o.a4,o.b0,o.b1,o.b2,o.b3,o.b4,ρ,o.t,0⟩).toArray rfl rfl 36 #[J 0,J 0,J 0,J 0,J 0,J 0,J 0,J 0,J 0,J 0,J 0,J 0,J 0,J 0,J 0,J 0,J 0,Β ρ,μ ⟨#[]⟩,J 0] pN.out (by kernel_rfl) rfl (by simp[aa,Τ]) ?_;have mc:Hid (Whole (W2.setRow (g0+1) (aa ⟨0,0,0,o.s1,o.n1,o.s2,o.n2,o.a0,o.a1,o.a2,o.a3,o.a4,o.b0,o.b1,o.b2,o.b3,o.b4,ρ,o.t,0⟩).toArray) (g0+1) 36 (aa ⟨0,0,0,o.s1,o.n1,o.s2,o.n2,o.a0,o.a1,o.a2,o.a3,o.a4,o.b0,o.b1,o.b2,o.b3,o.b4,ρ,o.t,0⟩)):=qh (setRow_heap W2 (g0+1) _ _ _ _ pN.out);have cY:Hid (σ w.heap.size w (W2.setRow (g0+1) (aa ⟨0,0,0,o.s1,o.n1,o.s2,o.n2,o.a0,o.a1,o.a2,o.a3,o.a4,o.b0,o.b1,o.b2,o.b3,o.b4,ρ,o.t,0⟩).toArray)):=qh ⟨cL.out.os,cL.out.tape,cL.out.output,(by have:=cL.out.size;simpa [World.setRow] using this),fun i hi=>(setRow_other W2 (g0+1) i _ (by have:=im.out;omega)).trans (cL.out.block i hi)⟩;obtain⟨W3,lu⟩:=az (W2.setRow (g0+1) (aa ⟨0,0,0,o.s1,o.n1,o.s2,o.n2,o.a0,o.a1,o.a2,o.a3,o.a4,o.b0,o.b1,o.b2,o.b3,o.b4,ρ,o.t,0⟩).toArray);rw[lu] at mc cY ⊢;clear lu;go_wp2;exact JaN (v:=φ (aa ⟨0,0,0,o.s1,o.n1,o.s2,o.n2,o.a0,o.a1,o.a2,o.a3,o.a4,o.b0,o.b1,o.b2,o.b3,o.b4,ρ,o.t,0⟩).toArray) (results_cell_row Tryz.results69 _ W3 (g0+1) 36 (aa ⟨0,0,0,o.s1,o.n1,o.s2,o.n2,o.a0,o.a1,o.a2,o.a3,o.a4,o.b0,o.b1,o.b2,o.b3,o.b4,ρ,o.t,0⟩).toArray (0,0) _ (by rfl) mc.out Tryz.underlying36 rfl (by kernel_rfl)) rfl ⟨rfl,cY.out⟩
theorem dY (o:cO):Pure 69 #[φ (aa o).toArray] (φ (aa (cV o)).toArray):=fun w=>by
 unfold cV
 by_cases k3:o.k=3
 ·rw[if_pos k3];exact Rz o k3 w
 have q3:(o.k==3)=ρ:=by simpa using k3
 rw[if_neg k3]
 by_cases k5:o.k=5
 ·rw[if_pos k5];exact Qt o k5 w
 have q5:(o.k==5)=ρ:=by simpa using k5
 rw[if_neg k5]
 by_cases k6:o.k=6
 ·rw[if_pos k6];exact RC o k6 w
 have q6:(o.k==6)=ρ:=by simpa using k6
 rw[if_neg k6]
 by_cases k7:o.k=7
 ·rw[if_pos k7];exact RY o k7 w
 have q7:(o.k==7)=ρ:=by simpa using k7
 rw[if_neg k7]
 by_cases k8:o.k=8
 ·rw[if_pos k8];exact QO o k8 w
 have q8:(o.k==8)=ρ:=by simpa using k8
 rw[if_neg k8];exact QW o q3 q5 q6 q7 q8 w
end
end Go.Proofs.YtpdpbfmiahjiiaaGreat
