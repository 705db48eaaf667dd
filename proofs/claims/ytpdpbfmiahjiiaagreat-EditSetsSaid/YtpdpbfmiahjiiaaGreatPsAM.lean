/- Several texts in one. -/
import Derived.Test.YtpdpbfmiahjiiaaGreatPsAA
import Derived.Test.YtpdpbfmiahjiiaaGreatPsAB
import Derived.Test.YtpdpbfmiahjiiaaGreatPsAL
set_option linter.unusedSectionVars false
set_option linter.unusedSimpArgs false
set_option linter.unusedVariables false
set_option maxRecDepth 100000
set_option maxHeartbeats 16000000
namespace Go.Proofs.YtpdpbfmiahjiiaaGreat
open Go.RowKit
open _root_.Go.Obj renaming cells→δ
open _root_.Option renaming none→ε,some→ζ
open _root_.Go.Proofs.Tryz renaming prog→η
open _root_.Go renaming World→ο,Calls→Ζ
open _root_.Bool renaming false→ρ,true→τ
open _root_.Go.RowKit renaming Below→σ
open _root_.Go.Value renaming agg→φ
theorem Ql (k s n s1 n1 s2 n2 a0 a1 a2 a3 a4 b0 b1 b2 b3 b4:Int) (e:Bool) (t:ByteArray) (m:Int):Pure 66 #[φ #[J k,J s,J n,J s1,J n1,J s2,J n2,J a0,J a1,J a2,J a3,J a4,J b0,J b1,J b2,J b3,J b4,.bool e,.string t,J m]] (φ (ak (oh ⟨k,s,n,s1,n1,s2,n2,a0,a1,a2,a3,a4,b0,b1,b2,b3,b4,e,t,m⟩)).toArray):=by
 unfold oh;simp only
 by_cases k3:k=3
 ·subst k3;rw[if_pos rfl];exact Wi s n s1 n1 s2 n2 a0 a1 a2 a3 a4 b0 b1 b2 b3 b4 e t m
 have q3:(k==3)=ρ:=by simpa using k3
 rw[if_neg k3]
 by_cases k5:k=5
 ·subst k5;rw[if_pos rfl];exact Ug s n s1 n1 s2 n2 a0 a1 a2 a3 a4 b0 b1 b2 b3 b4 e t m
 have q5:(k==5)=ρ:=by simpa using k5
 rw[if_neg k5]
 by_cases k6:k=6
 ·subst k6;rw[if_pos rfl];exact UH s n s1 n1 s2 n2 a0 a1 a2 a3 a4 b0 b1 b2 b3 b4 e t m
 have q6:(k==6)=ρ:=by simpa using k6
 rw[if_neg k6]
 by_cases k7:k=7
 ·subst k7;rw[if_pos rfl];exact Vt s n s1 n1 s2 n2 a0 a1 a2 a3 a4 b0 b1 b2 b3 b4 e t m
 have q7:(k==7)=ρ:=by simpa using k7
 rw[if_neg k7]
 by_cases k8:k=8
 ·subst k8;rw[if_pos rfl];exact Vj s n s1 n1 s2 n2 a0 a1 a2 a3 a4 b0 b1 b2 b3 b4 e t m
 have q8:(k==8)=ρ:=by simpa using k8
 rw[if_neg k8];exact UI k s n s1 n1 s2 n2 a0 a1 a2 a3 a4 b0 b1 b2 b3 b4 e t m q3 q5 q6 q7 q8
theorem EY {t t':ByteArray} (h:t.toList=t'.toList):t=t':=by
 rw[ByteArray.toList_eq,ByteArray.toList_eq] at h;exact ByteArray.ext (Array.toList_inj.1 h)
theorem qQ (o o':dR) (W:ο):(binOp .neq 36 (φ (ak o).toArray) (φ (ak o').toArray)).run η W=.ok (.bool (!decide (o=o'))) W:=by
 obtain⟨k,s,n,s1,n1,s2,n2,a0,a1,a2,a3,a4,b0,b1,b2,b3,b4,e,t,m⟩:=o;obtain⟨k',s',n',s1',n1',s2',n2',a0',a1',a2',a3',a4',b0',b1',b2',b3',b4',e',t',m'⟩:=o';simp only[ak,dR.mk.injEq];simp[go_sem]
 by_cases hk:k=k'
 case neg=>simp[hk]
 rw[if_pos hk]
 by_cases hs:s=s'
 case neg=>simp[hs]
 rw[if_pos hs]
 by_cases hn:n=n'
 case neg=>simp[hn]
 rw[if_pos hn]
 by_cases pO:s1=s1'
 case neg=>simp[pO]
 rw[if_pos pO]
 by_cases ni:n1=n1'
 case neg=>simp[ni]
 rw[if_pos ni]
 by_cases X6:s2=s2'
 case neg=>simp[X6]
 rw[if_pos X6]
 by_cases SG:n2=n2'
 case neg=>simp[SG]
 rw[if_pos SG]
 by_cases ha0:a0=a0'
 case neg=>simp[ha0]
 rw[if_pos ha0]
 by_cases ha1:a1=a1'
 case neg=>simp[ha1]
 rw[if_pos ha1]
 by_cases Xu:a2=a2'
 case neg=>simp[Xu]
 rw[if_pos Xu]
 by_cases ha3:a3=a3'
 case neg=>simp[ha3]
 rw[if_pos ha3]
 by_cases ha4:a4=a4'
 case neg=>simp[ha4]
 rw[if_pos ha4]
 by_cases fp:b0=b0'
 case neg=>simp[fp]
 rw[if_pos fp]
 by_cases cP:b1=b1'
 case neg=>simp[cP]
 rw[if_pos cP]
 by_cases aP:b2=b2'
 case neg=>simp[aP]
 rw[if_pos aP]
 by_cases bA:b3=b3'
 case neg=>simp[bA]
 rw[if_pos bA]
 by_cases ns:b4=b4'
 case neg=>simp[ns]
 rw[if_pos ns]
 by_cases he:e=e'
 case neg=>simp[he]
 rw[if_pos he]
 by_cases ht:t=t'
 ·subst ht
  by_cases hm:m=m'<;>simp_all
 ·have Wh:¬t.toList=t'.toList:=fun q=>ht (EY q)
  rw[if_neg Wh];simp[ht]
def iu (o:dR):Int:=if dK o.s o.n=τ∧lO o=τ∧o=oh o then(if cQ o.t=τ then 0 else 4) else 1
theorem vr (o:dR):Pure 65 #[φ (ak o).toArray] (.bool (lO o)):=fun w=>RH o.k o.s o.n o.s1 o.n1 o.s2 o.n2 o.a0 o.a1 o.a2 o.a3 o.a4 o.b0 o.b1 o.b2 o.b3 o.b4 o.e o.t o.m w
theorem zM (o:dR):Pure 66 #[φ (ak o).toArray] (φ (ak (oh o)).toArray):=fun w=>Ql o.k o.s o.n o.s1 o.n1 o.s2 o.n2 o.a0 o.a1 o.a2 o.a3 o.a4 o.b0 o.b1 o.b2 o.b3 o.b4 o.e o.t o.m w
theorem aaU (o:dR) (h1:dK o.s o.n=ρ) (w:ο):Ζ η 43 #[φ (ak o).toArray] w fun e w'=>e=.returned (J 1)∧σ w.heap.size w w':=by
 have hm:=iT o.s o.n;rw[h1] at hm;have HM:=qh hm;clear hm h1;go_enter Tryz.func43,Tryz.ntmps43;go_upto_region 1 with fail
 obtain⟨W1,aV⟩:=aB (w.alloc (δ (ak o).toArray 36));have HO:Hid (Whole W1 w.heap.size 36 (ak o)):=qh (by rw[←aV];exact Whole.new_ w _ _);have HB:Hid (σ w.heap.size w W1):=qh (by rw[←aV];exact az _ _);rw[aV];clear aV;obtain⟨g0,pE⟩:=aB w.heap.size;rw[pE] at HO ⊢;clear pE;have ld1:∀w',Kept aO W1.drew w'→w'.cell? ⟨g0,1,ε⟩=ζ (J o.s):=fun w' h=>h.nil_cell (HO.out.drew.cell (i:=1) rfl)
 have ka:∀w',Kept aO W1.drew w'→w'.cell? ⟨g0,2,ε⟩=ζ (J o.n):=fun w' h=>h.nil_cell (HO.out.drew.cell (i:=2) rfl)
 refine ay (aO) (by kernel_rfl) ?_;refine aa 0 ?_;refine aa 1 ?_;refine cV 2 (hy:=by apply bP;rfl;rotate_left;intro w' aC;exact HM.out w';intro w';go_simp) (h:=?_);refine aa 3 ?_;refine aa 4 ?_;refine cp 5 ?_;refine cp 6 ?_;refine cp 7 ?_;refine aa 8 ?_;refine aa 9 ?_;refine cp 10 ?_;refine cp 11 ?_;refine cp 12 ?_;refine cp 13 ?_;refine aa 14 ?_;refine aF (by kernel_rfl) ?_ _;intro W2 fT;have bG:Hid (σ w.heap.size w W2):=qh (HB.out.drew.trans (fT.mono HB.out.drew.size));clear fT ld1 ka;go_wp2;go_ret;exact⟨rfl,bG.out⟩
theorem aaJ (o:dR) (h1:dK o.s o.n=τ) (h2:lO o=ρ) (w:ο):Ζ η 43 #[φ (ak o).toArray] w fun e w'=>e=.returned (J 1)∧σ w.heap.size w w':=by
 have hm:=iT o.s o.n;rw[h1] at hm;have HM:=qh hm;have hf:=vr o;rw[h2] at hf;have HF:=qh hf;clear hm h1 hf h2;go_enter Tryz.func43,Tryz.ntmps43;go_upto_region 1 with fail
 obtain⟨W1,aV⟩:=aB (w.alloc (δ (ak o).toArray 36));have HO:Hid (Whole W1 w.heap.size 36 (ak o)):=qh (by rw[←aV];exact Whole.new_ w _ _);have HB:Hid (σ w.heap.size w W1):=qh (by rw[←aV];exact az _ _);rw[aV];clear aV;obtain⟨g0,pE⟩:=aB w.heap.size;rw[pE] at HO ⊢;clear pE;have ld1:∀w',Kept aO W1.drew w'→w'.cell? ⟨g0,1,ε⟩=ζ (J o.s):=fun w' h=>h.nil_cell (HO.out.drew.cell (i:=1) rfl)
 have ka:∀w',Kept aO W1.drew w'→w'.cell? ⟨g0,2,ε⟩=ζ (J o.n):=fun w' h=>h.nil_cell (HO.out.drew.cell (i:=2) rfl)
 refine ay (aO) (by kernel_rfl) ?_;refine aa 0 ?_;refine aa 1 ?_;refine cV 2 (hy:=by apply bP;rfl;rotate_left;intro w' aC;exact HM.out w';intro w';go_simp) (h:=?_);refine aa 3 ?_;refine aa 4 ?_;refine cV 5 (hy:=ib (by rfl) 36 (.tmp 1) rfl g0 rfl 36 (ak o) _ (fun w' h=>h.whole HO.out.drew (fun h=>h)) Tryz.underlying36 rfl (by kernel_rfl)) (h:=?_);refine cV 6 (hy:=by apply bP;rfl;rotate_left;intro w' aC;exact HF.out w';intro w';go_simp) (h:=?_);refine aa 7 ?_;refine aa 8 ?_;refine aa 9 ?_;refine cp 10 ?_;refine cp 11 ?_;refine cp 12 ?_;refine cp 13 ?_;refine aa 14 ?_;refine aF (by kernel_rfl) ?_ _;intro W2 fT;have bG:Hid (σ w.heap.size w W2):=qh (HB.out.drew.trans (fT.mono HB.out.drew.size));clear fT ld1 ka;go_wp2;go_ret;exact⟨rfl,bG.out⟩
theorem YD (o:dR) (h1:dK o.s o.n=τ) (h2:lO o=τ) (h3:¬o=oh o) (w:ο):Ζ η 43 #[φ (ak o).toArray] w fun e w'=>e=.returned (J 1)∧σ w.heap.size w w':=by
 have hm:=iT o.s o.n;rw[h1] at hm;have HM:=qh hm;have hf:=vr o;rw[h2] at hf;have HF:=qh hf;have HN:=qh (zM o);have hq:=fun W=>qQ o (oh o) W
 rw[decide_eq_false h3] at hq;have HQ:=qh hq;clear hm h1 hf h2 hq h3;go_enter Tryz.func43,Tryz.ntmps43;go_upto_region 1 with fail
 obtain⟨W1,aV⟩:=aB (w.alloc (δ (ak o).toArray 36));have HO:Hid (Whole W1 w.heap.size 36 (ak o)):=qh (by rw[←aV];exact Whole.new_ w _ _);have HB:Hid (σ w.heap.size w W1):=qh (by rw[←aV];exact az _ _);rw[aV];clear aV;obtain⟨g0,pE⟩:=aB w.heap.size;rw[pE] at HO ⊢;clear pE;have ld1:∀w',Kept aO W1.drew w'→w'.cell? ⟨g0,1,ε⟩=ζ (J o.s):=fun w' h=>h.nil_cell (HO.out.drew.cell (i:=1) rfl)
 have ka:∀w',Kept aO W1.drew w'→w'.cell? ⟨g0,2,ε⟩=ζ (J o.n):=fun w' h=>h.nil_cell (HO.out.drew.cell (i:=2) rfl)
 refine ay (aO) (by kernel_rfl) ?_;refine aa 0 ?_;refine aa 1 ?_;refine cV 2 (hy:=by apply bP;rfl;rotate_left;intro w' aC;exact HM.out w';intro w';go_simp) (h:=?_);refine aa 3 ?_;refine aa 4 ?_;refine cV 5 (hy:=ib (by rfl) 36 (.tmp 1) rfl g0 rfl 36 (ak o) _ (fun w' h=>h.whole HO.out.drew (fun h=>h)) Tryz.underlying36 rfl (by kernel_rfl)) (h:=?_);refine cV 6 (hy:=by apply bP;rfl;rotate_left;intro w' aC;exact HF.out w';intro w';go_simp) (h:=?_);refine aa 7 ?_;refine aa 8 ?_;refine aa 9 ?_;refine cV 10 (hy:=ib (by rfl) 36 (.tmp 1) rfl g0 rfl 36 (ak o) _ (fun w' h=>h.whole HO.out.drew (fun h=>h)) Tryz.underlying36 rfl (by kernel_rfl)) (h:=?_);refine cV 11 (hy:=ib (by rfl) 36 (.tmp 1) rfl g0 rfl 36 (ak o) _ (fun w' h=>h.whole HO.out.drew (fun h=>h)) Tryz.underlying36 rfl (by kernel_rfl)) (h:=?_);refine cV 12 (hy:=by apply bP;rfl;rotate_left;intro w' aC;exact HN.out w';intro w';go_simp) (h:=?_);refine cV 13 (hy:=dD (by rfl) (fun w' _=>dU .neq 36 (.tmp 13) (.tmp 15) 36 rfl rfl rfl (by kernel_rfl) (HQ.out w'))) (h:=?_);refine aa 14 ?_;refine aF (by kernel_rfl) ?_ _;intro W2 fT;have bG:Hid (σ w.heap.size w W2):=qh (HB.out.drew.trans (fT.mono HB.out.drew.size));clear fT ld1 ka;go_wp2;go_ret;exact⟨rfl,bG.out⟩
theorem ZQ (o:dR) (h1:dK o.s o.n=τ) (h2:lO o=τ) (h3:o=oh o) (h4:cQ o.t=ρ) (w:ο):Ζ η 43 #[φ (ak o).toArray] w fun e w'=>e=.returned (J 4)∧σ w.heap.size w w':=by
 have hm:=iT o.s o.n;rw[h1] at hm;have HM:=qh hm;have hf:=vr o;rw[h2] at hf;have HF:=qh hf;have HN:=qh (zM o);have hq:=fun W=>qQ o (oh o) W
 rw[decide_eq_true h3] at hq;have HQ:=qh hq;clear hm h1 hf h2 hq h3;have hl:=rN o.t;rw[h4] at hl;have HL:=qh hl;clear hl h4;go_enter Tryz.func43,Tryz.ntmps43;go_upto_region 1 with fail
 obtain⟨W1,aV⟩:=aB (w.alloc (δ (ak o).toArray 36));have HO:Hid (Whole W1 w.heap.size 36 (ak o)):=qh (by rw[←aV];exact Whole.new_ w _ _);have HB:Hid (σ w.heap.size w W1):=qh (by rw[←aV];exact az _ _);rw[aV];clear aV;obtain⟨g0,pE⟩:=aB w.heap.size;rw[pE] at HO ⊢;clear pE;have ld1:∀w',Kept aO W1.drew w'→w'.cell? ⟨g0,1,ε⟩=ζ (J o.s):=fun w' h=>h.nil_cell (HO.out.drew.cell (i:=1) rfl)
 have ka:∀w',Kept aO W1.drew w'→w'.cell? ⟨g0,2,ε⟩=ζ (J o.n):=fun w' h=>h.nil_cell (HO.out.drew.cell (i:=2) rfl)
 refine ay (aO) (by kernel_rfl) ?_;refine aa 0 ?_;refine aa 1 ?_;refine cV 2 (hy:=by apply bP;rfl;rotate_left;intro w' aC;exact HM.out w';intro w';go_simp) (h:=?_);refine aa 3 ?_;refine aa 4 ?_;refine cV 5 (hy:=ib (by rfl) 36 (.tmp 1) rfl g0 rfl 36 (ak o) _ (fun w' h=>h.whole HO.out.drew (fun h=>h)) Tryz.underlying36 rfl (by kernel_rfl)) (h:=?_);refine cV 6 (hy:=by apply bP;rfl;rotate_left;intro w' aC;exact HF.out w';intro w';go_simp) (h:=?_);refine aa 7 ?_;refine aa 8 ?_;refine aa 9 ?_;refine cV 10 (hy:=ib (by rfl) 36 (.tmp 1) rfl g0 rfl 36 (ak o) _ (fun w' h=>h.whole HO.out.drew (fun h=>h)) Tryz.underlying36 rfl (by kernel_rfl)) (h:=?_);refine cV 11 (hy:=ib (by rfl) 36 (.tmp 1) rfl g0 rfl 36 (ak o) _ (fun w' h=>h.whole HO.out.drew (fun h=>h)) Tryz.underlying36 rfl (by kernel_rfl)) (h:=?_);refine cV 12 (hy:=by apply bP;rfl;rotate_left;intro w' aC;exact HN.out w';intro w';go_simp) (h:=?_);refine cV 13 (hy:=dD (by rfl) (fun w' _=>dU .neq 36 (.tmp 13) (.tmp 15) 36 rfl rfl rfl (by kernel_rfl) (HQ.out w'))) (h:=?_);refine aa 14 ?_;refine aF (by kernel_rfl) ?_ _;intro W2 fT;have bG:Hid (σ w.heap.size w W2):=qh (HB.out.drew.trans (fT.mono HB.out.drew.size));have iN:Hid (Whole W2 g0 36 (ak o)):=qh (HO.out.drew.below fT);have l18:=iN.out.cell (i:=18) rfl;clear fT ld1 ka;go_wp2_with (first|(go_at_call 67;refine(HL.out _).mono ?_;rintro e w3 ⟨rfl,bA⟩))
 go_ret;exact⟨rfl,bG.out.trans (bA.mono bG.out.size)⟩
theorem Zq (o:dR) (h1:dK o.s o.n=τ) (h2:lO o=τ) (h3:o=oh o) (h4:cQ o.t=τ) (w:ο):Ζ η 43 #[φ (ak o).toArray] w fun e w'=>e=.returned (J 0)∧σ w.heap.size w w':=by
 have hm:=iT o.s o.n;rw[h1] at hm;have HM:=qh hm;have hf:=vr o;rw[h2] at hf;have HF:=qh hf;have HN:=qh (zM o);have hq:=fun W=>qQ o (oh o) W
 rw[decide_eq_true h3] at hq;have HQ:=qh hq;clear hm h1 hf h2 hq h3;have hl:=rN o.t;rw[h4] at hl;have HL:=qh hl;clear hl h4;go_enter Tryz.func43,Tryz.ntmps43;go_upto_region 1 with fail
 obtain⟨W1,aV⟩:=aB (w.alloc (δ (ak o).toArray 36));have HO:Hid (Whole W1 w.heap.size 36 (ak o)):=qh (by rw[←aV];exact Whole.new_ w _ _);have HB:Hid (σ w.heap.size w W1):=qh (by rw[←aV];exact az _ _);rw[aV];clear aV;obtain⟨g0,pE⟩:=aB w.heap.size;rw[pE] at HO ⊢;clear pE;have ld1:∀w',Kept aO W1.drew w'→w'.cell? ⟨g0,1,ε⟩=ζ (J o.s):=fun w' h=>h.nil_cell (HO.out.drew.cell (i:=1) rfl)
 have ka:∀w',Kept aO W1.drew w'→w'.cell? ⟨g0,2,ε⟩=ζ (J o.n):=fun w' h=>h.nil_cell (HO.out.drew.cell (i:=2) rfl)
 refine ay (aO) (by kernel_rfl) ?_;refine aa 0 ?_;refine aa 1 ?_;refine cV 2 (hy:=by apply bP;rfl;rotate_left;intro w' aC;exact HM.out w';intro w';go_simp) (h:=?_);refine aa 3 ?_;refine aa 4 ?_;refine cV 5 (hy:=ib (by rfl) 36 (.tmp 1) rfl g0 rfl 36 (ak o) _ (fun w' h=>h.whole HO.out.drew (fun h=>h)) Tryz.underlying36 rfl (by kernel_rfl)) (h:=?_);refine cV 6 (hy:=by apply bP;rfl;rotate_left;intro w' aC;exact HF.out w';intro w';go_simp) (h:=?_);refine aa 7 ?_;refine aa 8 ?_;refine aa 9 ?_;refine cV 10 (hy:=ib (by rfl) 36 (.tmp 1) rfl g0 rfl 36 (ak o) _ (fun w' h=>h.whole HO.out.drew (fun h=>h)) Tryz.underlying36 rfl (by kernel_rfl)) (h:=?_);refine cV 11 (hy:=ib (by rfl) 36 (.tmp 1) rfl g0 rfl 36 (ak o) _ (fun w' h=>h.whole HO.out.drew (fun h=>h)) Tryz.underlying36 rfl (by kernel_rfl)) (h:=?_);refine cV 12 (hy:=by apply bP;rfl;rotate_left;intro w' aC;exact HN.out w';intro w';go_simp) (h:=?_);refine cV 13 (hy:=dD (by rfl) (fun w' _=>dU .neq 36 (.tmp 13) (.tmp 15) 36 rfl rfl rfl (by kernel_rfl) (HQ.out w'))) (h:=?_);refine aa 14 ?_;refine aF (by kernel_rfl) ?_ _;intro W2 fT;have bG:Hid (σ w.heap.size w W2):=qh (HB.out.drew.trans (fT.mono HB.out.drew.size));have iN:Hid (Whole W2 g0 36 (ak o)):=qh (HO.out.drew.below fT);have l18:=iN.out.cell (i:=18) rfl;clear fT ld1 ka;go_wp2_with (first|(go_at_call 67;refine(HL.out _).mono ?_;rintro e w3 ⟨rfl,bA⟩))
 go_ret;exact⟨rfl,bG.out.trans (bA.mono bG.out.size)⟩
theorem yx (o:dR):Pure 43 #[φ (ak o).toArray] (J (iu o)):=fun w=>by
 unfold iu
 by_cases h1:dK o.s o.n=τ
 case neg=>
  rw[if_neg (fun h=>h1 h.1)];exact aaU o (by simpa using h1) w
 by_cases h2:lO o=τ
 case neg=>
  rw[if_neg (fun h=>h2 h.2.1)];exact aaJ o h1 (by simpa using h2) w
 by_cases h3:o=oh o
 case neg=>
  rw[if_neg (fun h=>h3 h.2.2)];exact YD o h1 h2 h3 w
 rw[if_pos ⟨h1,h2,h3⟩]
 by_cases h4:cQ o.t=τ
 ·rw[if_pos h4];exact Zq o h1 h2 h3 h4 w
 ·rw[if_neg h4];exact ZQ o h1 h2 h3 (by simpa using h4) w
end Go.Proofs.YtpdpbfmiahjiiaaGreat
