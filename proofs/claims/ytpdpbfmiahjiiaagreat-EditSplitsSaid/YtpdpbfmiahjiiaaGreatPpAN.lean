/- Several texts in one. -/
import Derived.Test.YtpdpbfmiahjiiaaGreatPpAA
import Derived.Test.YtpdpbfmiahjiiaaGreatPpAB
import Derived.Test.YtpdpbfmiahjiiaaGreatPpAK
import Derived.Test.YtpdpbfmiahjiiaaGreatPpAM
set_option linter.unusedSectionVars false
set_option linter.unusedSimpArgs false
set_option linter.unusedVariables false
set_option maxRecDepth 100000
set_option maxHeartbeats 16000000
namespace Go.Proofs.YtpdpbfmiahjiiaaGreat
open Go.RowKit
open _root_.Go.Obj renaming cells→δ
open _root_.Option renaming some→ζ
open _root_.Go.Proofs.Tryz renaming prog→η
open _root_.Go.Act renaming put→ξ
open _root_.Go renaming World→ο,Calls→Ζ,wp_region_lit→Jam
open _root_.Bool renaming false→ρ,true→τ
open _root_.Go.RowKit renaming Below→σ
open _root_.Go.Value renaming agg→φ
open _root_.Go.RowKit.Below renaming refl→Θ
theorem rH (n:Int):Pure 38 #[J n] (.bool (pJ n)):=fun w=>by
 unfold pJ
 by_cases h1:-1099511627776≤n
 ·by_cases h2:n≤1099511627776
  ·rw[decide_eq_true ⟨h1,h2⟩];go_enter Tryz.func38,Tryz.ntmps38;go_wp2;go_ret;exact⟨rfl,Θ _ _⟩
  ·rw[decide_eq_false (fun h=>h2 h.2)];go_enter Tryz.func38,Tryz.ntmps38;go_wp2;go_ret;exact⟨rfl,Θ _ _⟩
 ·rw[decide_eq_false (fun h=>h1 h.1)];go_enter Tryz.func38,Tryz.ntmps38;go_wp2;go_ret;exact⟨rfl,Θ _ _⟩
theorem jm (a0 a1 a2 a3 a4:Int):Pure 70 #[φ #[J a0,J a1,J a2,J a3,J a4]] (.bool (oA a0 a1 a2 a3 a4)):=fun w=>by
 unfold oA;have hq:=tD a2 a3 a4;have HM:=qh (bH a0 a1);have HD:=qh (AO a2 a3 a4)
 by_cases hz:a2=0∧a3=0∧a4=0
 all_goals
  first|rw[decide_eq_true hz] at hq ⊢|rw[decide_eq_false hz] at hq ⊢
  obtain⟨V,gV⟩:=ay (bQ a0 a1);obtain⟨D,gD⟩:=ay (KT a2 a3 a4);rw[gV] at HM ⊢;rw[gD] at HD ⊢;clear gV gD hz;cases V<;>cases D
  all_goals
   go_enter Tryz.func70,Tryz.ntmps70
   go_wp2_with (first
    |(go_at_call 28;refine(HM.out _).mono ?_;rintro e w' ⟨rfl,hb⟩;obtain⟨hc,hf⟩:=eK hb;have jL:w.heap.size<w'.heap.size:=by have:=hb.size;simp at this;omega)
    |(go_at_call 97;refine(HD.out _).mono ?_;rintro e cT ⟨rfl,ar⟩;obtain⟨yH,Ju⟩:=eK ar))
   go_ret;exact⟨by simp,(aT hb).trans (ar.mono (aT hb).size)⟩
def dM:cZ:=⟨0,0,0,0,0,0,0,0,0,0,0,0,0,0,0,0,0,ρ,⟨#[]⟩,0⟩
theorem cm:(aa dM).toArray=#[J 0,J 0,J 0,J 0,J 0,J 0,J 0,J 0,J 0,J 0,J 0,J 0,J 0,J 0,J 0,J 0,J 0,.bool ρ,.string ⟨#[]⟩,J 0]:=rfl
theorem aaa (o:cZ) (h0:decide (o.k<1)=τ) (w:ο):Ζ η 45 #[φ (aa o).toArray] w fun e w'=>e=.returned (J 1)∧σ w.heap.size w w':=by
 go_enter Tryz.func45,Tryz.ntmps45;go_upto_region 1 with fail
 obtain⟨W1,aO⟩:=ay (w.alloc (δ (aa o).toArray 36));have HO:Hid (Whole W1 w.heap.size 36 (aa o)):=qh (by rw[←aO];exact Whole.new_ w _ _);have HB:Hid (σ w.heap.size w W1):=qh (by rw[←aO];exact ax _ _);rw[aO];clear aO;obtain⟨g0,dU⟩:=ay w.heap.size;rw[dU] at HO ⊢;clear dU;have lV:=HO.out.cell (i:=1) rfl;have lX:=HO.out.cell (i:=2) rfl;go_wp2_with fail
 clear lV lX
 refine(bH o.s o.n _).mono ?_
 rintro e w3 ⟨rfl,bC⟩;have iq:=qh (HO.out.bl bC);have dv:=qh (af HB.out bC);clear bC;have oY:=iq.out.cell (i:=0) rfl;go_wp2;go_ret;exact⟨rfl,dv.out⟩
theorem WB (o:cZ) (h0:decide (o.k<1)=ρ) (h9:decide (8<o.k)=τ) (w:ο):Ζ η 45 #[φ (aa o).toArray] w fun e w'=>e=.returned (J 1)∧σ w.heap.size w w':=by
 go_enter Tryz.func45,Tryz.ntmps45;go_upto_region 1 with fail
 obtain⟨W1,aO⟩:=ay (w.alloc (δ (aa o).toArray 36));have HO:Hid (Whole W1 w.heap.size 36 (aa o)):=qh (by rw[←aO];exact Whole.new_ w _ _);have HB:Hid (σ w.heap.size w W1):=qh (by rw[←aO];exact ax _ _);rw[aO];clear aO;obtain⟨g0,dU⟩:=ay w.heap.size;rw[dU] at HO ⊢;clear dU;have lV:=HO.out.cell (i:=1) rfl;have lX:=HO.out.cell (i:=2) rfl;go_wp2_with fail
 clear lV lX
 refine(bH o.s o.n _).mono ?_
 rintro e w3 ⟨rfl,bC⟩;have iq:=qh (HO.out.bl bC);have dv:=qh (af HB.out bC);clear bC;have oY:=iq.out.cell (i:=0) rfl;go_wp2;go_ret;exact⟨rfl,dv.out⟩
theorem WM (o:cZ) (h0:decide (o.k<1)=ρ) (h9:decide (8<o.k)=ρ) (h1:bQ o.s o.n=ρ) (w:ο):Ζ η 45 #[φ (aa o).toArray] w fun e w'=>e=.returned (J 1)∧σ w.heap.size w w':=by
 go_enter Tryz.func45,Tryz.ntmps45;go_upto_region 1 with fail
 obtain⟨W1,aO⟩:=ay (w.alloc (δ (aa o).toArray 36));have HO:Hid (Whole W1 w.heap.size 36 (aa o)):=qh (by rw[←aO];exact Whole.new_ w _ _);have HB:Hid (σ w.heap.size w W1):=qh (by rw[←aO];exact ax _ _);rw[aO];clear aO;obtain⟨g0,dU⟩:=ay w.heap.size;rw[dU] at HO ⊢;clear dU;have lV:=HO.out.cell (i:=1) rfl;have lX:=HO.out.cell (i:=2) rfl;go_wp2_with fail
 clear lV lX
 refine(bH o.s o.n _).mono ?_
 rintro e w3 ⟨rfl,bC⟩;have iq:=qh (HO.out.bl bC);have dv:=qh (af HB.out bC);clear bC;have oY:=iq.out.cell (i:=0) rfl;go_wp2;go_ret;exact⟨rfl,dv.out⟩
theorem Qp (o:cZ) (h0:decide (o.k<1)=ρ) (h9:decide (8<o.k)=ρ) (h1:bQ o.s o.n=τ) (h2:¬dy o=dM) (w:ο):Ζ η 45 #[φ (aa o).toArray] w fun e w'=>e=.returned (J 1)∧σ w.heap.size w w':=by
 have he:η.eqGuardType η.depth 36=ρ:=by kernel_rfl
 have hq:=cD (dy o) dM;rw[cm,decide_eq_false h2] at hq;clear h2;go_enter Tryz.func45,Tryz.ntmps45;go_upto_region 1 with fail
 obtain⟨W1,aO⟩:=ay (w.alloc (δ (aa o).toArray 36));have HO:Hid (Whole W1 w.heap.size 36 (aa o)):=qh (by rw[←aO];exact Whole.new_ w _ _);have HB:Hid (σ w.heap.size w W1):=qh (by rw[←aO];exact ax _ _);rw[aO];clear aO;obtain⟨g0,dU⟩:=ay w.heap.size;rw[dU] at HO ⊢;clear dU;have lV:=HO.out.cell (i:=1) rfl;have lX:=HO.out.cell (i:=2) rfl;go_wp2_with fail
 clear lV lX
 refine(bH o.s o.n _).mono ?_
 rintro e w3 ⟨rfl,bC⟩;have iq:=qh (HO.out.bl bC);have dv:=qh (af HB.out bC);clear bC;have oY:=iq.out.cell (i:=0) rfl;go_upto_region 2 with fail
 refine Jam ?_;refine ah (v:=?_) (ζ 12) rfl (by rfl) ?_ ?_;rotate_left
 ·go_simp;(try with_reducible rfl)
 simp only[ξ,aq,ak,ao];refine ah (v:=?_) (ζ 13) rfl (by rfl) ?_ ?_;rotate_left
 ·go_simp;(try with_reducible rfl)
 simp only[ξ,aq,ak,ao];refine ah (v:=?_) (ζ 14) rfl (by rfl) ?_ ?_;rotate_left
 ·go_simp;(try with_reducible rfl)
 simp only[ξ,aq,ak,ao];refine ah (v:=?_) (ζ 15) rfl (by rfl) ?_ ?_;rotate_left
 ·go_simp;(try with_reducible rfl)
 simp only[ξ,aq,ak,ao];refine ah (v:=?_) (ζ 16) rfl (by rfl) ?_ ?_;rotate_left
 ·go_simp;(try with_reducible rfl)
 simp only[ξ,aq,ak,ao];refine ah (v:=?_) (ζ 17) rfl (by rfl) ?_ ?_;rotate_left
 ·go_simp;(try with_reducible rfl)
 simp only[ξ,aq,ak,ao];refine ah (v:=?_) (ζ 18) rfl (by rfl) ?_ ?_;rotate_left
 ·go_simp;(try with_reducible rfl)
 simp only[ξ,aq,ak,ao];refine ah (v:=?_) (ζ 19) rfl (by rfl) ?_ ?_;rotate_left
 ·go_simp;(try with_reducible rfl)
 simp only[ξ,aq,ak,ao];refine ah (v:=?_) (ζ 20) rfl (by rfl) ?_ ?_;rotate_left
 ·go_simp;(try with_reducible rfl)
 simp only[ξ,aq,ak,ao];refine ah (v:=?_) (ζ 21) rfl (by rfl) ?_ ?_;rotate_left
 ·go_simp;(try with_reducible rfl)
 simp only[ξ,aq,ak,ao];refine ah (v:=?_) (ζ 22) rfl (by rfl) ?_ ?_;rotate_left
 ·go_simp;(try with_reducible rfl)
 simp only[ξ,aq,ak,ao];refine ah (v:=?_) (ζ 23) rfl (by rfl) ?_ ?_;rotate_left
 ·go_simp;(try with_reducible rfl)
 simp only[ξ,aq,ak,ao];refine ah (v:=?_) (ζ 24) rfl (by rfl) ?_ ?_;rotate_left
 ·go_simp;(try with_reducible rfl)
 simp only[ξ,aq,ak,ao];refine bw (ζ 25) rfl (by rfl) 36 (.tmp 1) rfl g0 rfl 36 (aa o) _ iq.out Tryz.underlying36 rfl (by kernel_rfl) ?_;simp only[ξ,aq,ak,ao];go_wp2_with fail
 clear oY
 refine(eJ o _).mono ?_
 rintro e w6 ⟨rfl,eP⟩;have fS:=qh (iq.out.bl eP);have dD:=qh (af dv.out eP);clear eP;have s6:=fS.out.cell (i:=0) rfl;go_wp2;go_ret;exact⟨rfl,dD.out⟩
theorem YK (o:cZ) (h0:decide (o.k<1)=ρ) (h9:decide (8<o.k)=ρ) (h1:bQ o.s o.n=τ) (h2:dy o=dM) (hk:o.k=3) (h3:oA o.a0 o.a1 o.a2 o.a3 o.a4=ρ) (w:ο):Ζ η 45 #[φ (aa o).toArray] w fun e w'=>e=.returned (J 1)∧σ w.heap.size w w':=by
 have he:η.eqGuardType η.depth 36=ρ:=by kernel_rfl
 have hq:=cD (dy o) dM;rw[cm,decide_eq_true h2] at hq;clear h2;have q3:(o.k==3)=τ:=by rw[hk];decide
 have q5:(o.k==5)=ρ:=by rw[hk];decide
 have q6:(o.k==6)=ρ:=by rw[hk];decide
 have q7:(o.k==7)=ρ:=by rw[hk];decide
 have q8:(o.k==8)=ρ:=by rw[hk];decide
 clear hk;go_enter Tryz.func45,Tryz.ntmps45;go_upto_region 1 with fail
 obtain⟨W1,aO⟩:=ay (w.alloc (δ (aa o).toArray 36));have HO:Hid (Whole W1 w.heap.size 36 (aa o)):=qh (by rw[←aO];exact Whole.new_ w _ _);have HB:Hid (σ w.heap.size w W1):=qh (by rw[←aO];exact ax _ _);rw[aO];clear aO;obtain⟨g0,dU⟩:=ay w.heap.size;rw[dU] at HO ⊢;clear dU;have lV:=HO.out.cell (i:=1) rfl;have lX:=HO.out.cell (i:=2) rfl;go_wp2_with fail
 clear lV lX
 refine(bH o.s o.n _).mono ?_
 rintro e w3 ⟨rfl,bC⟩;have iq:=qh (HO.out.bl bC);have dv:=qh (af HB.out bC);clear bC;have oY:=iq.out.cell (i:=0) rfl;go_upto_region 2 with fail
 refine Jam ?_;refine ah (v:=?_) (ζ 12) rfl (by rfl) ?_ ?_;rotate_left
 ·go_simp;(try with_reducible rfl)
 simp only[ξ,aq,ak,ao];refine ah (v:=?_) (ζ 13) rfl (by rfl) ?_ ?_;rotate_left
 ·go_simp;(try with_reducible rfl)
 simp only[ξ,aq,ak,ao];refine ah (v:=?_) (ζ 14) rfl (by rfl) ?_ ?_;rotate_left
 ·go_simp;(try with_reducible rfl)
 simp only[ξ,aq,ak,ao];refine ah (v:=?_) (ζ 15) rfl (by rfl) ?_ ?_;rotate_left
 ·go_simp;(try with_reducible rfl)
 simp only[ξ,aq,ak,ao];refine ah (v:=?_) (ζ 16) rfl (by rfl) ?_ ?_;rotate_left
 ·go_simp;(try with_reducible rfl)
 simp only[ξ,aq,ak,ao];refine ah (v:=?_) (ζ 17) rfl (by rfl) ?_ ?_;rotate_left
 ·go_simp;(try with_reducible rfl)
 simp only[ξ,aq,ak,ao];refine ah (v:=?_) (ζ 18) rfl (by rfl) ?_ ?_;rotate_left
 ·go_simp;(try with_reducible rfl)
 simp only[ξ,aq,ak,ao];refine ah (v:=?_) (ζ 19) rfl (by rfl) ?_ ?_;rotate_left
 ·go_simp;(try with_reducible rfl)
 simp only[ξ,aq,ak,ao];refine ah (v:=?_) (ζ 20) rfl (by rfl) ?_ ?_;rotate_left
 ·go_simp;(try with_reducible rfl)
 simp only[ξ,aq,ak,ao];refine ah (v:=?_) (ζ 21) rfl (by rfl) ?_ ?_;rotate_left
 ·go_simp;(try with_reducible rfl)
 simp only[ξ,aq,ak,ao];refine ah (v:=?_) (ζ 22) rfl (by rfl) ?_ ?_;rotate_left
 ·go_simp;(try with_reducible rfl)
 simp only[ξ,aq,ak,ao];refine ah (v:=?_) (ζ 23) rfl (by rfl) ?_ ?_;rotate_left
 ·go_simp;(try with_reducible rfl)
 simp only[ξ,aq,ak,ao];refine ah (v:=?_) (ζ 24) rfl (by rfl) ?_ ?_;rotate_left
 ·go_simp;(try with_reducible rfl)
 simp only[ξ,aq,ak,ao];refine bw (ζ 25) rfl (by rfl) 36 (.tmp 1) rfl g0 rfl 36 (aa o) _ iq.out Tryz.underlying36 rfl (by kernel_rfl) ?_;simp only[ξ,aq,ak,ao];go_wp2_with fail
 clear oY
 refine(eJ o _).mono ?_
 rintro e w6 ⟨rfl,eP⟩;have fS:=qh (iq.out.bl eP);have dD:=qh (af dv.out eP);clear eP;have s6:=fS.out.cell (i:=0) rfl;have uf:=fS.out.cell (i:=7) rfl;have oM:=fS.out.cell (i:=8) rfl;have GD:=fS.out.cell (i:=9) rfl;have xT:=fS.out.cell (i:=10) rfl;have oc:=fS.out.cell (i:=11) rfl;go_wp2_with fail
 clear s6 uf oM GD xT oc
 refine(jm o.a0 o.a1 o.a2 o.a3 o.a4 _).mono ?_
 rintro e w14 ⟨rfl,xa⟩;have me:=qh (fS.out.bl xa);have yj:=qh (af dD.out xa);clear xa;have Nz:=me.out.cell (i:=0) rfl;have FA:=me.out.cell (i:=12) rfl;have vH:=me.out.cell (i:=13) rfl;have vz:=me.out.cell (i:=14) rfl;have FD:=me.out.cell (i:=15) rfl;have OC:=me.out.cell (i:=16) rfl;go_wp2_with fail
 clear Nz FA vH vz FD OC
 refine(jm o.b0 o.b1 o.b2 o.b3 o.b4 _).mono ?_
 rintro e w22 ⟨rfl,wT⟩;have MR:=qh (me.out.bl wT);have wN:=qh (af yj.out wT);clear wT;have YE:=MR.out.cell (i:=0) rfl;go_wp2;go_ret;exact⟨rfl,wN.out⟩
theorem Y5 (o:cZ) (h0:decide (o.k<1)=ρ) (h9:decide (8<o.k)=ρ) (h1:bQ o.s o.n=τ) (h2:dy o=dM) (hk:o.k=3) (h3:oA o.a0 o.a1 o.a2 o.a3 o.a4=τ) (h4:oA o.b0 o.b1 o.b2 o.b3 o.b4=ρ) (w:ο):Ζ η 45 #[φ (aa o).toArray] w fun e w'=>e=.returned (J 1)∧σ w.heap.size w w':=by
 have he:η.eqGuardType η.depth 36=ρ:=by kernel_rfl
 have hq:=cD (dy o) dM;rw[cm,decide_eq_true h2] at hq;clear h2;have q3:(o.k==3)=τ:=by rw[hk];decide
 have q5:(o.k==5)=ρ:=by rw[hk];decide
 have q6:(o.k==6)=ρ:=by rw[hk];decide
 have q7:(o.k==7)=ρ:=by rw[hk];decide
 have q8:(o.k==8)=ρ:=by rw[hk];decide
 clear hk;go_enter Tryz.func45,Tryz.ntmps45;go_upto_region 1 with fail
 obtain⟨W1,aO⟩:=ay (w.alloc (δ (aa o).toArray 36));have HO:Hid (Whole W1 w.heap.size 36 (aa o)):=qh (by rw[←aO];exact Whole.new_ w _ _);have HB:Hid (σ w.heap.size w W1):=qh (by rw[←aO];exact ax _ _);rw[aO];clear aO;obtain⟨g0,dU⟩:=ay w.heap.size;rw[dU] at HO ⊢;clear dU;have lV:=HO.out.cell (i:=1) rfl;have lX:=HO.out.cell (i:=2) rfl;go_wp2_with fail
 clear lV lX
 refine(bH o.s o.n _).mono ?_
 rintro e w3 ⟨rfl,bC⟩;have iq:=qh (HO.out.bl bC);have dv:=qh (af HB.out bC);clear bC;have oY:=iq.out.cell (i:=0) rfl;go_upto_region 2 with fail
 refine Jam ?_;refine ah (v:=?_) (ζ 12) rfl (by rfl) ?_ ?_;rotate_left
 ·go_simp;(try with_reducible rfl)
 simp only[ξ,aq,ak,ao];refine ah (v:=?_) (ζ 13) rfl (by rfl) ?_ ?_;rotate_left
 ·go_simp;(try with_reducible rfl)
 simp only[ξ,aq,ak,ao];refine ah (v:=?_) (ζ 14) rfl (by rfl) ?_ ?_;rotate_left
 ·go_simp;(try with_reducible rfl)
 simp only[ξ,aq,ak,ao];refine ah (v:=?_) (ζ 15) rfl (by rfl) ?_ ?_;rotate_left
 ·go_simp;(try with_reducible rfl)
 simp only[ξ,aq,ak,ao];refine ah (v:=?_) (ζ 16) rfl (by rfl) ?_ ?_;rotate_left
 ·go_simp;(try with_reducible rfl)
 simp only[ξ,aq,ak,ao];refine ah (v:=?_) (ζ 17) rfl (by rfl) ?_ ?_;rotate_left
 ·go_simp;(try with_reducible rfl)
 simp only[ξ,aq,ak,ao];refine ah (v:=?_) (ζ 18) rfl (by rfl) ?_ ?_;rotate_left
 ·go_simp;(try with_reducible rfl)
 simp only[ξ,aq,ak,ao];refine ah (v:=?_) (ζ 19) rfl (by rfl) ?_ ?_;rotate_left
 ·go_simp;(try with_reducible rfl)
 simp only[ξ,aq,ak,ao];refine ah (v:=?_) (ζ 20) rfl (by rfl) ?_ ?_;rotate_left
 ·go_simp;(try with_reducible rfl)
 simp only[ξ,aq,ak,ao];refine ah (v:=?_) (ζ 21) rfl (by rfl) ?_ ?_;rotate_left
 ·go_simp;(try with_reducible rfl)
 simp only[ξ,aq,ak,ao];refine ah (v:=?_) (ζ 22) rfl (by rfl) ?_ ?_;rotate_left
 ·go_simp;(try with_reducible rfl)
 simp only[ξ,aq,ak,ao];refine ah (v:=?_) (ζ 23) rfl (by rfl) ?_ ?_;rotate_left
 ·go_simp;(try with_reducible rfl)
 simp only[ξ,aq,ak,ao];refine ah (v:=?_) (ζ 24) rfl (by rfl) ?_ ?_;rotate_left
 ·go_simp;(try with_reducible rfl)
 simp only[ξ,aq,ak,ao];refine bw (ζ 25) rfl (by rfl) 36 (.tmp 1) rfl g0 rfl 36 (aa o) _ iq.out Tryz.underlying36 rfl (by kernel_rfl) ?_;simp only[ξ,aq,ak,ao];go_wp2_with fail
 clear oY
 refine(eJ o _).mono ?_
 rintro e w6 ⟨rfl,eP⟩;have fS:=qh (iq.out.bl eP);have dD:=qh (af dv.out eP);clear eP;have s6:=fS.out.cell (i:=0) rfl;have uf:=fS.out.cell (i:=7) rfl;have oM:=fS.out.cell (i:=8) rfl;have GD:=fS.out.cell (i:=9) rfl;have xT:=fS.out.cell (i:=10) rfl;have oc:=fS.out.cell (i:=11) rfl;go_wp2_with fail
 clear s6 uf oM GD xT oc
 refine(jm o.a0 o.a1 o.a2 o.a3 o.a4 _).mono ?_
 rintro e w14 ⟨rfl,xa⟩;have me:=qh (fS.out.bl xa);have yj:=qh (af dD.out xa);clear xa;have Nz:=me.out.cell (i:=0) rfl;have FA:=me.out.cell (i:=12) rfl;have vH:=me.out.cell (i:=13) rfl;have vz:=me.out.cell (i:=14) rfl;have FD:=me.out.cell (i:=15) rfl;have OC:=me.out.cell (i:=16) rfl;go_wp2_with fail
 clear Nz FA vH vz FD OC
 refine(jm o.b0 o.b1 o.b2 o.b3 o.b4 _).mono ?_
 rintro e w22 ⟨rfl,wT⟩;have MR:=qh (me.out.bl wT);have wN:=qh (af yj.out wT);clear wT;have YE:=MR.out.cell (i:=0) rfl;go_wp2;go_ret;exact⟨rfl,wN.out⟩
theorem WC (o:cZ) (h0:decide (o.k<1)=ρ) (h9:decide (8<o.k)=ρ) (h1:bQ o.s o.n=τ) (h2:dy o=dM) (hk:o.k=3) (h3:oA o.a0 o.a1 o.a2 o.a3 o.a4=τ) (h4:oA o.b0 o.b1 o.b2 o.b3 o.b4=τ) (w:ο):Ζ η 45 #[φ (aa o).toArray] w fun e w'=>e=.returned (J 0)∧σ w.heap.size w w':=by
 have he:η.eqGuardType η.depth 36=ρ:=by kernel_rfl
 have hq:=cD (dy o) dM;rw[cm,decide_eq_true h2] at hq;clear h2;have q3:(o.k==3)=τ:=by rw[hk];decide
 have q5:(o.k==5)=ρ:=by rw[hk];decide
 have q6:(o.k==6)=ρ:=by rw[hk];decide
 have q7:(o.k==7)=ρ:=by rw[hk];decide
 have q8:(o.k==8)=ρ:=by rw[hk];decide
 clear hk;go_enter Tryz.func45,Tryz.ntmps45;go_upto_region 1 with fail
 obtain⟨W1,aO⟩:=ay (w.alloc (δ (aa o).toArray 36));have HO:Hid (Whole W1 w.heap.size 36 (aa o)):=qh (by rw[←aO];exact Whole.new_ w _ _);have HB:Hid (σ w.heap.size w W1):=qh (by rw[←aO];exact ax _ _);rw[aO];clear aO;obtain⟨g0,dU⟩:=ay w.heap.size;rw[dU] at HO ⊢;clear dU;have lV:=HO.out.cell (i:=1) rfl;have lX:=HO.out.cell (i:=2) rfl;go_wp2_with fail
 clear lV lX
 refine(bH o.s o.n _).mono ?_
 rintro e w3 ⟨rfl,bC⟩;have iq:=qh (HO.out.bl bC);have dv:=qh (af HB.out bC);clear bC;have oY:=iq.out.cell (i:=0) rfl;go_upto_region 2 with fail
 refine Jam ?_;refine ah (v:=?_) (ζ 12) rfl (by rfl) ?_ ?_;rotate_left
 ·go_simp;(try with_reducible rfl)
 simp only[ξ,aq,ak,ao];refine ah (v:=?_) (ζ 13) rfl (by rfl) ?_ ?_;rotate_left
 ·go_simp;(try with_reducible rfl)
 simp only[ξ,aq,ak,ao];refine ah (v:=?_) (ζ 14) rfl (by rfl) ?_ ?_;rotate_left
 ·go_simp;(try with_reducible rfl)
 simp only[ξ,aq,ak,ao];refine ah (v:=?_) (ζ 15) rfl (by rfl) ?_ ?_;rotate_left
 ·go_simp;(try with_reducible rfl)
 simp only[ξ,aq,ak,ao];refine ah (v:=?_) (ζ 16) rfl (by rfl) ?_ ?_;rotate_left
 ·go_simp;(try with_reducible rfl)
 simp only[ξ,aq,ak,ao];refine ah (v:=?_) (ζ 17) rfl (by rfl) ?_ ?_;rotate_left
 ·go_simp;(try with_reducible rfl)
 simp only[ξ,aq,ak,ao];refine ah (v:=?_) (ζ 18) rfl (by rfl) ?_ ?_;rotate_left
 ·go_simp;(try with_reducible rfl)
 simp only[ξ,aq,ak,ao];refine ah (v:=?_) (ζ 19) rfl (by rfl) ?_ ?_;rotate_left
 ·go_simp;(try with_reducible rfl)
 simp only[ξ,aq,ak,ao];refine ah (v:=?_) (ζ 20) rfl (by rfl) ?_ ?_;rotate_left
 ·go_simp;(try with_reducible rfl)
 simp only[ξ,aq,ak,ao];refine ah (v:=?_) (ζ 21) rfl (by rfl) ?_ ?_;rotate_left
 ·go_simp;(try with_reducible rfl)
 simp only[ξ,aq,ak,ao];refine ah (v:=?_) (ζ 22) rfl (by rfl) ?_ ?_;rotate_left
 ·go_simp;(try with_reducible rfl)
 simp only[ξ,aq,ak,ao];refine ah (v:=?_) (ζ 23) rfl (by rfl) ?_ ?_;rotate_left
 ·go_simp;(try with_reducible rfl)
 simp only[ξ,aq,ak,ao];refine ah (v:=?_) (ζ 24) rfl (by rfl) ?_ ?_;rotate_left
 ·go_simp;(try with_reducible rfl)
 simp only[ξ,aq,ak,ao];refine bw (ζ 25) rfl (by rfl) 36 (.tmp 1) rfl g0 rfl 36 (aa o) _ iq.out Tryz.underlying36 rfl (by kernel_rfl) ?_;simp only[ξ,aq,ak,ao];go_wp2_with fail
 clear oY
 refine(eJ o _).mono ?_
 rintro e w6 ⟨rfl,eP⟩;have fS:=qh (iq.out.bl eP);have dD:=qh (af dv.out eP);clear eP;have s6:=fS.out.cell (i:=0) rfl;have uf:=fS.out.cell (i:=7) rfl;have oM:=fS.out.cell (i:=8) rfl;have GD:=fS.out.cell (i:=9) rfl;have xT:=fS.out.cell (i:=10) rfl;have oc:=fS.out.cell (i:=11) rfl;go_wp2_with fail
 clear s6 uf oM GD xT oc
 refine(jm o.a0 o.a1 o.a2 o.a3 o.a4 _).mono ?_
 rintro e w14 ⟨rfl,xa⟩;have me:=qh (fS.out.bl xa);have yj:=qh (af dD.out xa);clear xa;have Nz:=me.out.cell (i:=0) rfl;have FA:=me.out.cell (i:=12) rfl;have vH:=me.out.cell (i:=13) rfl;have vz:=me.out.cell (i:=14) rfl;have FD:=me.out.cell (i:=15) rfl;have OC:=me.out.cell (i:=16) rfl;go_wp2_with fail
 clear Nz FA vH vz FD OC
 refine(jm o.b0 o.b1 o.b2 o.b3 o.b4 _).mono ?_
 rintro e w22 ⟨rfl,wT⟩;have MR:=qh (me.out.bl wT);have wN:=qh (af yj.out wT);clear wT;have YE:=MR.out.cell (i:=0) rfl;go_wp2;go_ret;exact⟨rfl,wN.out⟩
theorem XW (o:cZ) (h0:decide (o.k<1)=ρ) (h9:decide (8<o.k)=ρ) (h1:bQ o.s o.n=τ) (h2:dy o=dM) (hk:o.k=5) (h3:bQ o.s1 o.n1=ρ) (w:ο):Ζ η 45 #[φ (aa o).toArray] w fun e w'=>e=.returned (J 1)∧σ w.heap.size w w':=by
 have he:η.eqGuardType η.depth 36=ρ:=by kernel_rfl
 have hq:=cD (dy o) dM;rw[cm,decide_eq_true h2] at hq;clear h2;have q3:(o.k==3)=ρ:=by rw[hk];decide
 have q5:(o.k==5)=τ:=by rw[hk];decide
 have q6:(o.k==6)=ρ:=by rw[hk];decide
 have q7:(o.k==7)=ρ:=by rw[hk];decide
 have q8:(o.k==8)=ρ:=by rw[hk];decide
 clear hk;go_enter Tryz.func45,Tryz.ntmps45;go_upto_region 1 with fail
 obtain⟨W1,aO⟩:=ay (w.alloc (δ (aa o).toArray 36));have HO:Hid (Whole W1 w.heap.size 36 (aa o)):=qh (by rw[←aO];exact Whole.new_ w _ _);have HB:Hid (σ w.heap.size w W1):=qh (by rw[←aO];exact ax _ _);rw[aO];clear aO;obtain⟨g0,dU⟩:=ay w.heap.size;rw[dU] at HO ⊢;clear dU;have lV:=HO.out.cell (i:=1) rfl;have lX:=HO.out.cell (i:=2) rfl;go_wp2_with fail
 clear lV lX
 refine(bH o.s o.n _).mono ?_
 rintro e w3 ⟨rfl,bC⟩;have iq:=qh (HO.out.bl bC);have dv:=qh (af HB.out bC);clear bC;have oY:=iq.out.cell (i:=0) rfl;go_upto_region 2 with fail
 refine Jam ?_;refine ah (v:=?_) (ζ 12) rfl (by rfl) ?_ ?_;rotate_left
 ·go_simp;(try with_reducible rfl)
 simp only[ξ,aq,ak,ao];refine ah (v:=?_) (ζ 13) rfl (by rfl) ?_ ?_;rotate_left
 ·go_simp;(try with_reducible rfl)
 simp only[ξ,aq,ak,ao];refine ah (v:=?_) (ζ 14) rfl (by rfl) ?_ ?_;rotate_left
 ·go_simp;(try with_reducible rfl)
 simp only[ξ,aq,ak,ao];refine ah (v:=?_) (ζ 15) rfl (by rfl) ?_ ?_;rotate_left
 ·go_simp;(try with_reducible rfl)
 simp only[ξ,aq,ak,ao];refine ah (v:=?_) (ζ 16) rfl (by rfl) ?_ ?_;rotate_left
 ·go_simp;(try with_reducible rfl)
 simp only[ξ,aq,ak,ao];refine ah (v:=?_) (ζ 17) rfl (by rfl) ?_ ?_;rotate_left
 ·go_simp;(try with_reducible rfl)
 simp only[ξ,aq,ak,ao];refine ah (v:=?_) (ζ 18) rfl (by rfl) ?_ ?_;rotate_left
 ·go_simp;(try with_reducible rfl)
 simp only[ξ,aq,ak,ao];refine ah (v:=?_) (ζ 19) rfl (by rfl) ?_ ?_;rotate_left
 ·go_simp;(try with_reducible rfl)
 simp only[ξ,aq,ak,ao];refine ah (v:=?_) (ζ 20) rfl (by rfl) ?_ ?_;rotate_left
 ·go_simp;(try with_reducible rfl)
 simp only[ξ,aq,ak,ao];refine ah (v:=?_) (ζ 21) rfl (by rfl) ?_ ?_;rotate_left
 ·go_simp;(try with_reducible rfl)
 simp only[ξ,aq,ak,ao];refine ah (v:=?_) (ζ 22) rfl (by rfl) ?_ ?_;rotate_left
 ·go_simp;(try with_reducible rfl)
 simp only[ξ,aq,ak,ao];refine ah (v:=?_) (ζ 23) rfl (by rfl) ?_ ?_;rotate_left
 ·go_simp;(try with_reducible rfl)
 simp only[ξ,aq,ak,ao];refine ah (v:=?_) (ζ 24) rfl (by rfl) ?_ ?_;rotate_left
 ·go_simp;(try with_reducible rfl)
 simp only[ξ,aq,ak,ao];refine bw (ζ 25) rfl (by rfl) 36 (.tmp 1) rfl g0 rfl 36 (aa o) _ iq.out Tryz.underlying36 rfl (by kernel_rfl) ?_;simp only[ξ,aq,ak,ao];go_wp2_with fail
 clear oY
 refine(eJ o _).mono ?_
 rintro e w6 ⟨rfl,eP⟩;have fS:=qh (iq.out.bl eP);have dD:=qh (af dv.out eP);clear eP;have s6:=fS.out.cell (i:=0) rfl;have uf:=fS.out.cell (i:=3) rfl;have oM:=fS.out.cell (i:=4) rfl;go_wp2_with fail
 clear s6 uf oM
 refine(bH o.s1 o.n1 _).mono ?_
 rintro e PB ⟨rfl,fU⟩;have jM:=qh (fS.out.bl fU);have jV:=qh (af dD.out fU);clear fU;have oc:=jM.out.cell (i:=0) rfl;have wW:=jM.out.cell (i:=5) rfl;have AM:=jM.out.cell (i:=6) rfl;go_wp2_with fail
 clear oc wW AM
 refine(bH o.s2 o.n2 _).mono ?_
 rintro e w16 ⟨rfl,og⟩;have tw:=qh (jM.out.bl og);have nZ:=qh (af jV.out og);clear og;have vH:=tw.out.cell (i:=0) rfl;have vz:=tw.out.cell (i:=19) rfl;go_wp2;go_ret;exact⟨rfl,nZ.out⟩
theorem Z5 (o:cZ) (h0:decide (o.k<1)=ρ) (h9:decide (8<o.k)=ρ) (h1:bQ o.s o.n=τ) (h2:dy o=dM) (hk:o.k=5) (h3:bQ o.s1 o.n1=τ) (h4:bQ o.s2 o.n2=ρ) (w:ο):Ζ η 45 #[φ (aa o).toArray] w fun e w'=>e=.returned (J 1)∧σ w.heap.size w w':=by
 have he:η.eqGuardType η.depth 36=ρ:=by kernel_rfl
 have hq:=cD (dy o) dM;rw[cm,decide_eq_true h2] at hq;clear h2;have q3:(o.k==3)=ρ:=by rw[hk];decide
 have q5:(o.k==5)=τ:=by rw[hk];decide
 have q6:(o.k==6)=ρ:=by rw[hk];decide
 have q7:(o.k==7)=ρ:=by rw[hk];decide
 have q8:(o.k==8)=ρ:=by rw[hk];decide
 clear hk;go_enter Tryz.func45,Tryz.ntmps45;go_upto_region 1 with fail
 obtain⟨W1,aO⟩:=ay (w.alloc (δ (aa o).toArray 36));have HO:Hid (Whole W1 w.heap.size 36 (aa o)):=qh (by rw[←aO];exact Whole.new_ w _ _);have HB:Hid (σ w.heap.size w W1):=qh (by rw[←aO];exact ax _ _);rw[aO];clear aO;obtain⟨g0,dU⟩:=ay w.heap.size;rw[dU] at HO ⊢;clear dU;have lV:=HO.out.cell (i:=1) rfl;have lX:=HO.out.cell (i:=2) rfl;go_wp2_with fail
 clear lV lX
 refine(bH o.s o.n _).mono ?_
 rintro e w3 ⟨rfl,bC⟩;have iq:=qh (HO.out.bl bC);have dv:=qh (af HB.out bC);clear bC;have oY:=iq.out.cell (i:=0) rfl;go_upto_region 2 with fail
 refine Jam ?_;refine ah (v:=?_) (ζ 12) rfl (by rfl) ?_ ?_;rotate_left
 ·go_simp;(try with_reducible rfl)
 simp only[ξ,aq,ak,ao];refine ah (v:=?_) (ζ 13) rfl (by rfl) ?_ ?_;rotate_left
 ·go_simp;(try with_reducible rfl)
 simp only[ξ,aq,ak,ao];refine ah (v:=?_) (ζ 14) rfl (by rfl) ?_ ?_;rotate_left
 ·go_simp;(try with_reducible rfl)
 simp only[ξ,aq,ak,ao];refine ah (v:=?_) (ζ 15) rfl (by rfl) ?_ ?_;rotate_left
 ·go_simp;(try with_reducible rfl)
 simp only[ξ,aq,ak,ao];refine ah (v:=?_) (ζ 16) rfl (by rfl) ?_ ?_;rotate_left
 ·go_simp;(try with_reducible rfl)
 simp only[ξ,aq,ak,ao];refine ah (v:=?_) (ζ 17) rfl (by rfl) ?_ ?_;rotate_left
 ·go_simp;(try with_reducible rfl)
 simp only[ξ,aq,ak,ao];refine ah (v:=?_) (ζ 18) rfl (by rfl) ?_ ?_;rotate_left
 ·go_simp;(try with_reducible rfl)
 simp only[ξ,aq,ak,ao];refine ah (v:=?_) (ζ 19) rfl (by rfl) ?_ ?_;rotate_left
 ·go_simp;(try with_reducible rfl)
 simp only[ξ,aq,ak,ao];refine ah (v:=?_) (ζ 20) rfl (by rfl) ?_ ?_;rotate_left
 ·go_simp;(try with_reducible rfl)
 simp only[ξ,aq,ak,ao];refine ah (v:=?_) (ζ 21) rfl (by rfl) ?_ ?_;rotate_left
 ·go_simp;(try with_reducible rfl)
 simp only[ξ,aq,ak,ao];refine ah (v:=?_) (ζ 22) rfl (by rfl) ?_ ?_;rotate_left
 ·go_simp;(try with_reducible rfl)
 simp only[ξ,aq,ak,ao];refine ah (v:=?_) (ζ 23) rfl (by rfl) ?_ ?_;rotate_left
 ·go_simp;(try with_reducible rfl)
 simp only[ξ,aq,ak,ao];refine ah (v:=?_) (ζ 24) rfl (by rfl) ?_ ?_;rotate_left
 ·go_simp;(try with_reducible rfl)
 simp only[ξ,aq,ak,ao];refine bw (ζ 25) rfl (by rfl) 36 (.tmp 1) rfl g0 rfl 36 (aa o) _ iq.out Tryz.underlying36 rfl (by kernel_rfl) ?_;simp only[ξ,aq,ak,ao];go_wp2_with fail
 clear oY
 refine(eJ o _).mono ?_
 rintro e w6 ⟨rfl,eP⟩;have fS:=qh (iq.out.bl eP);have dD:=qh (af dv.out eP);clear eP;have s6:=fS.out.cell (i:=0) rfl;have uf:=fS.out.cell (i:=3) rfl;have oM:=fS.out.cell (i:=4) rfl;go_wp2_with fail
 clear s6 uf oM
 refine(bH o.s1 o.n1 _).mono ?_
 rintro e PB ⟨rfl,fU⟩;have jM:=qh (fS.out.bl fU);have jV:=qh (af dD.out fU);clear fU;have oc:=jM.out.cell (i:=0) rfl;have wW:=jM.out.cell (i:=5) rfl;have AM:=jM.out.cell (i:=6) rfl;go_wp2_with fail
 clear oc wW AM
 refine(bH o.s2 o.n2 _).mono ?_
 rintro e w16 ⟨rfl,og⟩;have tw:=qh (jM.out.bl og);have nZ:=qh (af jV.out og);clear og;have vH:=tw.out.cell (i:=0) rfl;have vz:=tw.out.cell (i:=19) rfl;go_wp2;go_ret;exact⟨rfl,nZ.out⟩
theorem Zh (o:cZ) (h0:decide (o.k<1)=ρ) (h9:decide (8<o.k)=ρ) (h1:bQ o.s o.n=τ) (h2:dy o=dM) (hk:o.k=5) (h3:bQ o.s1 o.n1=τ) (h4:bQ o.s2 o.n2=τ) (h5:decide (o.m<0)=τ) (w:ο):Ζ η 45 #[φ (aa o).toArray] w fun e w'=>e=.returned (J 1)∧σ w.heap.size w w':=by
 have he:η.eqGuardType η.depth 36=ρ:=by kernel_rfl
 have hq:=cD (dy o) dM;rw[cm,decide_eq_true h2] at hq;clear h2;have q3:(o.k==3)=ρ:=by rw[hk];decide
 have q5:(o.k==5)=τ:=by rw[hk];decide
 have q6:(o.k==6)=ρ:=by rw[hk];decide
 have q7:(o.k==7)=ρ:=by rw[hk];decide
 have q8:(o.k==8)=ρ:=by rw[hk];decide
 clear hk;go_enter Tryz.func45,Tryz.ntmps45;go_upto_region 1 with fail
 obtain⟨W1,aO⟩:=ay (w.alloc (δ (aa o).toArray 36));have HO:Hid (Whole W1 w.heap.size 36 (aa o)):=qh (by rw[←aO];exact Whole.new_ w _ _);have HB:Hid (σ w.heap.size w W1):=qh (by rw[←aO];exact ax _ _);rw[aO];clear aO;obtain⟨g0,dU⟩:=ay w.heap.size;rw[dU] at HO ⊢;clear dU;have lV:=HO.out.cell (i:=1) rfl;have lX:=HO.out.cell (i:=2) rfl;go_wp2_with fail
 clear lV lX
 refine(bH o.s o.n _).mono ?_
 rintro e w3 ⟨rfl,bC⟩;have iq:=qh (HO.out.bl bC);have dv:=qh (af HB.out bC);clear bC;have oY:=iq.out.cell (i:=0) rfl;go_upto_region 2 with fail
 refine Jam ?_;refine ah (v:=?_) (ζ 12) rfl (by rfl) ?_ ?_;rotate_left
 ·go_simp;(try with_reducible rfl)
 simp only[ξ,aq,ak,ao];refine ah (v:=?_) (ζ 13) rfl (by rfl) ?_ ?_;rotate_left
 ·go_simp;(try with_reducible rfl)
 simp only[ξ,aq,ak,ao];refine ah (v:=?_) (ζ 14) rfl (by rfl) ?_ ?_;rotate_left
 ·go_simp;(try with_reducible rfl)
 simp only[ξ,aq,ak,ao];refine ah (v:=?_) (ζ 15) rfl (by rfl) ?_ ?_;rotate_left
 ·go_simp;(try with_reducible rfl)
 simp only[ξ,aq,ak,ao];refine ah (v:=?_) (ζ 16) rfl (by rfl) ?_ ?_;rotate_left
 ·go_simp;(try with_reducible rfl)
 simp only[ξ,aq,ak,ao];refine ah (v:=?_) (ζ 17) rfl (by rfl) ?_ ?_;rotate_left
 ·go_simp;(try with_reducible rfl)
 simp only[ξ,aq,ak,ao];refine ah (v:=?_) (ζ 18) rfl (by rfl) ?_ ?_;rotate_left
 ·go_simp;(try with_reducible rfl)
 simp only[ξ,aq,ak,ao];refine ah (v:=?_) (ζ 19) rfl (by rfl) ?_ ?_;rotate_left
 ·go_simp;(try with_reducible rfl)
 simp only[ξ,aq,ak,ao];refine ah (v:=?_) (ζ 20) rfl (by rfl) ?_ ?_;rotate_left
 ·go_simp;(try with_reducible rfl)
 simp only[ξ,aq,ak,ao];refine ah (v:=?_) (ζ 21) rfl (by rfl) ?_ ?_;rotate_left
 ·go_simp;(try with_reducible rfl)
 simp only[ξ,aq,ak,ao];refine ah (v:=?_) (ζ 22) rfl (by rfl) ?_ ?_;rotate_left
 ·go_simp;(try with_reducible rfl)
 simp only[ξ,aq,ak,ao];refine ah (v:=?_) (ζ 23) rfl (by rfl) ?_ ?_;rotate_left
 ·go_simp;(try with_reducible rfl)
 simp only[ξ,aq,ak,ao];refine ah (v:=?_) (ζ 24) rfl (by rfl) ?_ ?_;rotate_left
 ·go_simp;(try with_reducible rfl)
 simp only[ξ,aq,ak,ao];refine bw (ζ 25) rfl (by rfl) 36 (.tmp 1) rfl g0 rfl 36 (aa o) _ iq.out Tryz.underlying36 rfl (by kernel_rfl) ?_;simp only[ξ,aq,ak,ao];go_wp2_with fail
 clear oY
 refine(eJ o _).mono ?_
 rintro e w6 ⟨rfl,eP⟩;have fS:=qh (iq.out.bl eP);have dD:=qh (af dv.out eP);clear eP;have s6:=fS.out.cell (i:=0) rfl;have uf:=fS.out.cell (i:=3) rfl;have oM:=fS.out.cell (i:=4) rfl;go_wp2_with fail
 clear s6 uf oM
 refine(bH o.s1 o.n1 _).mono ?_
 rintro e PB ⟨rfl,fU⟩;have jM:=qh (fS.out.bl fU);have jV:=qh (af dD.out fU);clear fU;have oc:=jM.out.cell (i:=0) rfl;have wW:=jM.out.cell (i:=5) rfl;have AM:=jM.out.cell (i:=6) rfl;go_wp2_with fail
 clear oc wW AM
 refine(bH o.s2 o.n2 _).mono ?_
 rintro e w16 ⟨rfl,og⟩;have tw:=qh (jM.out.bl og);have nZ:=qh (af jV.out og);clear og;have vH:=tw.out.cell (i:=0) rfl;have vz:=tw.out.cell (i:=19) rfl;go_wp2;go_ret;exact⟨rfl,nZ.out⟩
theorem XG (o:cZ) (h0:decide (o.k<1)=ρ) (h9:decide (8<o.k)=ρ) (h1:bQ o.s o.n=τ) (h2:dy o=dM) (hk:o.k=5) (h3:bQ o.s1 o.n1=τ) (h4:bQ o.s2 o.n2=τ) (h5:decide (o.m<0)=ρ) (h6:decide (3<o.m)=τ) (w:ο):Ζ η 45 #[φ (aa o).toArray] w fun e w'=>e=.returned (J 1)∧σ w.heap.size w w':=by
 have he:η.eqGuardType η.depth 36=ρ:=by kernel_rfl
 have hq:=cD (dy o) dM;rw[cm,decide_eq_true h2] at hq;clear h2;have q3:(o.k==3)=ρ:=by rw[hk];decide
 have q5:(o.k==5)=τ:=by rw[hk];decide
 have q6:(o.k==6)=ρ:=by rw[hk];decide
 have q7:(o.k==7)=ρ:=by rw[hk];decide
 have q8:(o.k==8)=ρ:=by rw[hk];decide
 clear hk;go_enter Tryz.func45,Tryz.ntmps45;go_upto_region 1 with fail
 obtain⟨W1,aO⟩:=ay (w.alloc (δ (aa o).toArray 36));have HO:Hid (Whole W1 w.heap.size 36 (aa o)):=qh (by rw[←aO];exact Whole.new_ w _ _);have HB:Hid (σ w.heap.size w W1):=qh (by rw[←aO];exact ax _ _);rw[aO];clear aO;obtain⟨g0,dU⟩:=ay w.heap.size;rw[dU] at HO ⊢;clear dU;have lV:=HO.out.cell (i:=1) rfl;have lX:=HO.out.cell (i:=2) rfl;go_wp2_with fail
 clear lV lX
 refine(bH o.s o.n _).mono ?_
 rintro e w3 ⟨rfl,bC⟩;have iq:=qh (HO.out.bl bC);have dv:=qh (af HB.out bC);clear bC;have oY:=iq.out.cell (i:=0) rfl;go_upto_region 2 with fail
 refine Jam ?_;refine ah (v:=?_) (ζ 12) rfl (by rfl) ?_ ?_;rotate_left
 ·go_simp;(try with_reducible rfl)
 simp only[ξ,aq,ak,ao];refine ah (v:=?_) (ζ 13) rfl (by rfl) ?_ ?_;rotate_left
 ·go_simp;(try with_reducible rfl)
 simp only[ξ,aq,ak,ao];refine ah (v:=?_) (ζ 14) rfl (by rfl) ?_ ?_;rotate_left
 ·go_simp;(try with_reducible rfl)
 simp only[ξ,aq,ak,ao];refine ah (v:=?_) (ζ 15) rfl (by rfl) ?_ ?_;rotate_left
 ·go_simp;(try with_reducible rfl)
 simp only[ξ,aq,ak,ao];refine ah (v:=?_) (ζ 16) rfl (by rfl) ?_ ?_;rotate_left
 ·go_simp;(try with_reducible rfl)
 simp only[ξ,aq,ak,ao];refine ah (v:=?_) (ζ 17) rfl (by rfl) ?_ ?_;rotate_left
 ·go_simp;(try with_reducible rfl)
 simp only[ξ,aq,ak,ao];refine ah (v:=?_) (ζ 18) rfl (by rfl) ?_ ?_;rotate_left
 ·go_simp;(try with_reducible rfl)
 simp only[ξ,aq,ak,ao];refine ah (v:=?_) (ζ 19) rfl (by rfl) ?_ ?_;rotate_left
 ·go_simp;(try with_reducible rfl)
 simp only[ξ,aq,ak,ao];refine ah (v:=?_) (ζ 20) rfl (by rfl) ?_ ?_;rotate_left
 ·go_simp;(try with_reducible rfl)
 simp only[ξ,aq,ak,ao];refine ah (v:=?_) (ζ 21) rfl (by rfl) ?_ ?_;rotate_left
 ·go_simp;(try with_reducible rfl)
 simp only[ξ,aq,ak,ao];refine ah (v:=?_) (ζ 22) rfl (by rfl) ?_ ?_;rotate_left
 ·go_simp;(try with_reducible rfl)
 simp only[ξ,aq,ak,ao];refine ah (v:=?_) (ζ 23) rfl (by rfl) ?_ ?_;rotate_left
 ·go_simp;(try with_reducible rfl)
 simp only[ξ,aq,ak,ao];refine ah (v:=?_) (ζ 24) rfl (by rfl) ?_ ?_;rotate_left
 ·go_simp;(try with_reducible rfl)
 simp only[ξ,aq,ak,ao];refine bw (ζ 25) rfl (by rfl) 36 (.tmp 1) rfl g0 rfl 36 (aa o) _ iq.out Tryz.underlying36 rfl (by kernel_rfl) ?_;simp only[ξ,aq,ak,ao];go_wp2_with fail
 clear oY
 refine(eJ o _).mono ?_
 rintro e w6 ⟨rfl,eP⟩;have fS:=qh (iq.out.bl eP);have dD:=qh (af dv.out eP);clear eP;have s6:=fS.out.cell (i:=0) rfl;have uf:=fS.out.cell (i:=3) rfl;have oM:=fS.out.cell (i:=4) rfl;go_wp2_with fail
 clear s6 uf oM
 refine(bH o.s1 o.n1 _).mono ?_
 rintro e PB ⟨rfl,fU⟩;have jM:=qh (fS.out.bl fU);have jV:=qh (af dD.out fU);clear fU;have oc:=jM.out.cell (i:=0) rfl;have wW:=jM.out.cell (i:=5) rfl;have AM:=jM.out.cell (i:=6) rfl;go_wp2_with fail
 clear oc wW AM
 refine(bH o.s2 o.n2 _).mono ?_
 rintro e w16 ⟨rfl,og⟩;have tw:=qh (jM.out.bl og);have nZ:=qh (af jV.out og);clear og;have vH:=tw.out.cell (i:=0) rfl;have vz:=tw.out.cell (i:=19) rfl;go_wp2;go_ret;exact⟨rfl,nZ.out⟩
theorem YZ (o:cZ) (h0:decide (o.k<1)=ρ) (h9:decide (8<o.k)=ρ) (h1:bQ o.s o.n=τ) (h2:dy o=dM) (hk:o.k=5) (h3:bQ o.s1 o.n1=τ) (h4:bQ o.s2 o.n2=τ) (h5:decide (o.m<0)=ρ) (h6:decide (3<o.m)=ρ) (w:ο):Ζ η 45 #[φ (aa o).toArray] w fun e w'=>e=.returned (J 0)∧σ w.heap.size w w':=by
 have he:η.eqGuardType η.depth 36=ρ:=by kernel_rfl
 have hq:=cD (dy o) dM;rw[cm,decide_eq_true h2] at hq;clear h2;have q3:(o.k==3)=ρ:=by rw[hk];decide
 have q5:(o.k==5)=τ:=by rw[hk];decide
 have q6:(o.k==6)=ρ:=by rw[hk];decide
 have q7:(o.k==7)=ρ:=by rw[hk];decide
 have q8:(o.k==8)=ρ:=by rw[hk];decide
 clear hk;go_enter Tryz.func45,Tryz.ntmps45;go_upto_region 1 with fail
 obtain⟨W1,aO⟩:=ay (w.alloc (δ (aa o).toArray 36));have HO:Hid (Whole W1 w.heap.size 36 (aa o)):=qh (by rw[←aO];exact Whole.new_ w _ _);have HB:Hid (σ w.heap.size w W1):=qh (by rw[←aO];exact ax _ _);rw[aO];clear aO;obtain⟨g0,dU⟩:=ay w.heap.size;rw[dU] at HO ⊢;clear dU;have lV:=HO.out.cell (i:=1) rfl;have lX:=HO.out.cell (i:=2) rfl;go_wp2_with fail
 clear lV lX
 refine(bH o.s o.n _).mono ?_
 rintro e w3 ⟨rfl,bC⟩;have iq:=qh (HO.out.bl bC);have dv:=qh (af HB.out bC);clear bC;have oY:=iq.out.cell (i:=0) rfl;go_upto_region 2 with fail
 refine Jam ?_;refine ah (v:=?_) (ζ 12) rfl (by rfl) ?_ ?_;rotate_left
 ·go_simp;(try with_reducible rfl)
 simp only[ξ,aq,ak,ao];refine ah (v:=?_) (ζ 13) rfl (by rfl) ?_ ?_;rotate_left
 ·go_simp;(try with_reducible rfl)
 simp only[ξ,aq,ak,ao];refine ah (v:=?_) (ζ 14) rfl (by rfl) ?_ ?_;rotate_left
 ·go_simp;(try with_reducible rfl)
 simp only[ξ,aq,ak,ao];refine ah (v:=?_) (ζ 15) rfl (by rfl) ?_ ?_;rotate_left
 ·go_simp;(try with_reducible rfl)
 simp only[ξ,aq,ak,ao];refine ah (v:=?_) (ζ 16) rfl (by rfl) ?_ ?_;rotate_left
 ·go_simp;(try with_reducible rfl)
 simp only[ξ,aq,ak,ao];refine ah (v:=?_) (ζ 17) rfl (by rfl) ?_ ?_;rotate_left
 ·go_simp;(try with_reducible rfl)
 simp only[ξ,aq,ak,ao];refine ah (v:=?_) (ζ 18) rfl (by rfl) ?_ ?_;rotate_left
 ·go_simp;(try with_reducible rfl)
 simp only[ξ,aq,ak,ao];refine ah (v:=?_) (ζ 19) rfl (by rfl) ?_ ?_;rotate_left
 ·go_simp;(try with_reducible rfl)
 simp only[ξ,aq,ak,ao];refine ah (v:=?_) (ζ 20) rfl (by rfl) ?_ ?_;rotate_left
 ·go_simp;(try with_reducible rfl)
 simp only[ξ,aq,ak,ao];refine ah (v:=?_) (ζ 21) rfl (by rfl) ?_ ?_;rotate_left
 ·go_simp;(try with_reducible rfl)
 simp only[ξ,aq,ak,ao];refine ah (v:=?_) (ζ 22) rfl (by rfl) ?_ ?_;rotate_left
 ·go_simp;(try with_reducible rfl)
 simp only[ξ,aq,ak,ao];refine ah (v:=?_) (ζ 23) rfl (by rfl) ?_ ?_;rotate_left
 ·go_simp;(try with_reducible rfl)
 simp only[ξ,aq,ak,ao];refine ah (v:=?_) (ζ 24) rfl (by rfl) ?_ ?_;rotate_left
 ·go_simp;(try with_reducible rfl)
 simp only[ξ,aq,ak,ao];refine bw (ζ 25) rfl (by rfl) 36 (.tmp 1) rfl g0 rfl 36 (aa o) _ iq.out Tryz.underlying36 rfl (by kernel_rfl) ?_;simp only[ξ,aq,ak,ao];go_wp2_with fail
 clear oY
 refine(eJ o _).mono ?_
 rintro e w6 ⟨rfl,eP⟩;have fS:=qh (iq.out.bl eP);have dD:=qh (af dv.out eP);clear eP;have s6:=fS.out.cell (i:=0) rfl;have uf:=fS.out.cell (i:=3) rfl;have oM:=fS.out.cell (i:=4) rfl;go_wp2_with fail
 clear s6 uf oM
 refine(bH o.s1 o.n1 _).mono ?_
 rintro e PB ⟨rfl,fU⟩;have jM:=qh (fS.out.bl fU);have jV:=qh (af dD.out fU);clear fU;have oc:=jM.out.cell (i:=0) rfl;have wW:=jM.out.cell (i:=5) rfl;have AM:=jM.out.cell (i:=6) rfl;go_wp2_with fail
 clear oc wW AM
 refine(bH o.s2 o.n2 _).mono ?_
 rintro e w16 ⟨rfl,og⟩;have tw:=qh (jM.out.bl og);have nZ:=qh (af jV.out og);clear og;have vH:=tw.out.cell (i:=0) rfl;have vz:=tw.out.cell (i:=19) rfl;go_wp2;go_ret;exact⟨rfl,nZ.out⟩
theorem Z6 (o:cZ) (h0:decide (o.k<1)=ρ) (h9:decide (8<o.k)=ρ) (h1:bQ o.s o.n=τ) (h2:dy o=dM) (hk:o.k=6) (h3:bQ o.s2 o.n2=ρ) (w:ο):Ζ η 45 #[φ (aa o).toArray] w fun e w'=>e=.returned (J 1)∧σ w.heap.size w w':=by
 have he:η.eqGuardType η.depth 36=ρ:=by kernel_rfl
 have hq:=cD (dy o) dM;rw[cm,decide_eq_true h2] at hq;clear h2;have q3:(o.k==3)=ρ:=by rw[hk];decide
 have q5:(o.k==5)=ρ:=by rw[hk];decide
 have q6:(o.k==6)=τ:=by rw[hk];decide
 have q7:(o.k==7)=ρ:=by rw[hk];decide
 have q8:(o.k==8)=ρ:=by rw[hk];decide
 clear hk;go_enter Tryz.func45,Tryz.ntmps45;go_upto_region 1 with fail
 obtain⟨W1,aO⟩:=ay (w.alloc (δ (aa o).toArray 36));have HO:Hid (Whole W1 w.heap.size 36 (aa o)):=qh (by rw[←aO];exact Whole.new_ w _ _);have HB:Hid (σ w.heap.size w W1):=qh (by rw[←aO];exact ax _ _);rw[aO];clear aO;obtain⟨g0,dU⟩:=ay w.heap.size;rw[dU] at HO ⊢;clear dU;have lV:=HO.out.cell (i:=1) rfl;have lX:=HO.out.cell (i:=2) rfl;go_wp2_with fail
 clear lV lX
 refine(bH o.s o.n _).mono ?_
 rintro e w3 ⟨rfl,bC⟩;have iq:=qh (HO.out.bl bC);have dv:=qh (af HB.out bC);clear bC;have oY:=iq.out.cell (i:=0) rfl;go_upto_region 2 with fail
 refine Jam ?_;refine ah (v:=?_) (ζ 12) rfl (by rfl) ?_ ?_;rotate_left
 ·go_simp;(try with_reducible rfl)
 simp only[ξ,aq,ak,ao];refine ah (v:=?_) (ζ 13) rfl (by rfl) ?_ ?_;rotate_left
 ·go_simp;(try with_reducible rfl)
 simp only[ξ,aq,ak,ao];refine ah (v:=?_) (ζ 14) rfl (by rfl) ?_ ?_;rotate_left
 ·go_simp;(try with_reducible rfl)
 simp only[ξ,aq,ak,ao];refine ah (v:=?_) (ζ 15) rfl (by rfl) ?_ ?_;rotate_left
 ·go_simp;(try with_reducible rfl)
 simp only[ξ,aq,ak,ao];refine ah (v:=?_) (ζ 16) rfl (by rfl) ?_ ?_;rotate_left
 ·go_simp;(try with_reducible rfl)
 simp only[ξ,aq,ak,ao];refine ah (v:=?_) (ζ 17) rfl (by rfl) ?_ ?_;rotate_left
 ·go_simp;(try with_reducible rfl)
 simp only[ξ,aq,ak,ao];refine ah (v:=?_) (ζ 18) rfl (by rfl) ?_ ?_;rotate_left
 ·go_simp;(try with_reducible rfl)
 simp only[ξ,aq,ak,ao];refine ah (v:=?_) (ζ 19) rfl (by rfl) ?_ ?_;rotate_left
 ·go_simp;(try with_reducible rfl)
 simp only[ξ,aq,ak,ao];refine ah (v:=?_) (ζ 20) rfl (by rfl) ?_ ?_;rotate_left
 ·go_simp;(try with_reducible rfl)
 simp only[ξ,aq,ak,ao];refine ah (v:=?_) (ζ 21) rfl (by rfl) ?_ ?_;rotate_left
 ·go_simp;(try with_reducible rfl)
 simp only[ξ,aq,ak,ao];refine ah (v:=?_) (ζ 22) rfl (by rfl) ?_ ?_;rotate_left
 ·go_simp;(try with_reducible rfl)
 simp only[ξ,aq,ak,ao];refine ah (v:=?_) (ζ 23) rfl (by rfl) ?_ ?_;rotate_left
 ·go_simp;(try with_reducible rfl)
 simp only[ξ,aq,ak,ao];refine ah (v:=?_) (ζ 24) rfl (by rfl) ?_ ?_;rotate_left
 ·go_simp;(try with_reducible rfl)
 simp only[ξ,aq,ak,ao];refine bw (ζ 25) rfl (by rfl) 36 (.tmp 1) rfl g0 rfl 36 (aa o) _ iq.out Tryz.underlying36 rfl (by kernel_rfl) ?_;simp only[ξ,aq,ak,ao];go_wp2_with fail
 clear oY
 refine(eJ o _).mono ?_
 rintro e w6 ⟨rfl,eP⟩;have fS:=qh (iq.out.bl eP);have dD:=qh (af dv.out eP);clear eP;have s6:=fS.out.cell (i:=0) rfl;have uf:=fS.out.cell (i:=5) rfl;have oM:=fS.out.cell (i:=6) rfl;go_wp2_with fail
 clear s6 uf oM
 refine(bH o.s2 o.n2 _).mono ?_
 rintro e PB ⟨rfl,fU⟩;have jM:=qh (fS.out.bl fU);have jV:=qh (af dD.out fU);clear fU;have oc:=jM.out.cell (i:=0) rfl;go_wp2;go_ret;exact⟨rfl,jV.out⟩
theorem Z1 (o:cZ) (h0:decide (o.k<1)=ρ) (h9:decide (8<o.k)=ρ) (h1:bQ o.s o.n=τ) (h2:dy o=dM) (hk:o.k=6) (h3:bQ o.s2 o.n2=τ) (w:ο):Ζ η 45 #[φ (aa o).toArray] w fun e w'=>e=.returned (J 0)∧σ w.heap.size w w':=by
 have he:η.eqGuardType η.depth 36=ρ:=by kernel_rfl
 have hq:=cD (dy o) dM;rw[cm,decide_eq_true h2] at hq;clear h2;have q3:(o.k==3)=ρ:=by rw[hk];decide
 have q5:(o.k==5)=ρ:=by rw[hk];decide
 have q6:(o.k==6)=τ:=by rw[hk];decide
 have q7:(o.k==7)=ρ:=by rw[hk];decide
 have q8:(o.k==8)=ρ:=by rw[hk];decide
 clear hk;go_enter Tryz.func45,Tryz.ntmps45;go_upto_region 1 with fail
 obtain⟨W1,aO⟩:=ay (w.alloc (δ (aa o).toArray 36));have HO:Hid (Whole W1 w.heap.size 36 (aa o)):=qh (by rw[←aO];exact Whole.new_ w _ _);have HB:Hid (σ w.heap.size w W1):=qh (by rw[←aO];exact ax _ _);rw[aO];clear aO;obtain⟨g0,dU⟩:=ay w.heap.size;rw[dU] at HO ⊢;clear dU;have lV:=HO.out.cell (i:=1) rfl;have lX:=HO.out.cell (i:=2) rfl;go_wp2_with fail
 clear lV lX
 refine(bH o.s o.n _).mono ?_
 rintro e w3 ⟨rfl,bC⟩;have iq:=qh (HO.out.bl bC);have dv:=qh (af HB.out bC);clear bC;have oY:=iq.out.cell (i:=0) rfl;go_upto_region 2 with fail
 refine Jam ?_;refine ah (v:=?_) (ζ 12) rfl (by rfl) ?_ ?_;rotate_left
 ·go_simp;(try with_reducible rfl)
 simp only[ξ,aq,ak,ao];refine ah (v:=?_) (ζ 13) rfl (by rfl) ?_ ?_;rotate_left
 ·go_simp;(try with_reducible rfl)
 simp only[ξ,aq,ak,ao];refine ah (v:=?_) (ζ 14) rfl (by rfl) ?_ ?_;rotate_left
 ·go_simp;(try with_reducible rfl)
 simp only[ξ,aq,ak,ao];refine ah (v:=?_) (ζ 15) rfl (by rfl) ?_ ?_;rotate_left
 ·go_simp;(try with_reducible rfl)
 simp only[ξ,aq,ak,ao];refine ah (v:=?_) (ζ 16) rfl (by rfl) ?_ ?_;rotate_left
 ·go_simp;(try with_reducible rfl)
 simp only[ξ,aq,ak,ao];refine ah (v:=?_) (ζ 17) rfl (by rfl) ?_ ?_;rotate_left
 ·go_simp;(try with_reducible rfl)
 simp only[ξ,aq,ak,ao];refine ah (v:=?_) (ζ 18) rfl (by rfl) ?_ ?_;rotate_left
 ·go_simp;(try with_reducible rfl)
 simp only[ξ,aq,ak,ao];refine ah (v:=?_) (ζ 19) rfl (by rfl) ?_ ?_;rotate_left
 ·go_simp;(try with_reducible rfl)
 simp only[ξ,aq,ak,ao];refine ah (v:=?_) (ζ 20) rfl (by rfl) ?_ ?_;rotate_left
 ·go_simp;(try with_reducible rfl)
 simp only[ξ,aq,ak,ao];refine ah (v:=?_) (ζ 21) rfl (by rfl) ?_ ?_;rotate_left
 ·go_simp;(try with_reducible rfl)
 simp only[ξ,aq,ak,ao];refine ah (v:=?_) (ζ 22) rfl (by rfl) ?_ ?_;rotate_left
 ·go_simp;(try with_reducible rfl)
 simp only[ξ,aq,ak,ao];refine ah (v:=?_) (ζ 23) rfl (by rfl) ?_ ?_;rotate_left
 ·go_simp;(try with_reducible rfl)
 simp only[ξ,aq,ak,ao];refine ah (v:=?_) (ζ 24) rfl (by rfl) ?_ ?_;rotate_left
 ·go_simp;(try with_reducible rfl)
 simp only[ξ,aq,ak,ao];refine bw (ζ 25) rfl (by rfl) 36 (.tmp 1) rfl g0 rfl 36 (aa o) _ iq.out Tryz.underlying36 rfl (by kernel_rfl) ?_;simp only[ξ,aq,ak,ao];go_wp2_with fail
 clear oY
 refine(eJ o _).mono ?_
 rintro e w6 ⟨rfl,eP⟩;have fS:=qh (iq.out.bl eP);have dD:=qh (af dv.out eP);clear eP;have s6:=fS.out.cell (i:=0) rfl;have uf:=fS.out.cell (i:=5) rfl;have oM:=fS.out.cell (i:=6) rfl;go_wp2_with fail
 clear s6 uf oM
 refine(bH o.s2 o.n2 _).mono ?_
 rintro e PB ⟨rfl,fU⟩;have jM:=qh (fS.out.bl fU);have jV:=qh (af dD.out fU);clear fU;have oc:=jM.out.cell (i:=0) rfl;go_wp2;go_ret;exact⟨rfl,jV.out⟩
theorem Zj (o:cZ) (h0:decide (o.k<1)=ρ) (h9:decide (8<o.k)=ρ) (h1:bQ o.s o.n=τ) (h2:dy o=dM) (hk:o.k=8) (h3:pJ o.m=ρ) (w:ο):Ζ η 45 #[φ (aa o).toArray] w fun e w'=>e=.returned (J 1)∧σ w.heap.size w w':=by
 have he:η.eqGuardType η.depth 36=ρ:=by kernel_rfl
 have hq:=cD (dy o) dM;rw[cm,decide_eq_true h2] at hq;clear h2;have q3:(o.k==3)=ρ:=by rw[hk];decide
 have q5:(o.k==5)=ρ:=by rw[hk];decide
 have q6:(o.k==6)=ρ:=by rw[hk];decide
 have q7:(o.k==7)=ρ:=by rw[hk];decide
 have q8:(o.k==8)=τ:=by rw[hk];decide
 clear hk;go_enter Tryz.func45,Tryz.ntmps45;go_upto_region 1 with fail
 obtain⟨W1,aO⟩:=ay (w.alloc (δ (aa o).toArray 36));have HO:Hid (Whole W1 w.heap.size 36 (aa o)):=qh (by rw[←aO];exact Whole.new_ w _ _);have HB:Hid (σ w.heap.size w W1):=qh (by rw[←aO];exact ax _ _);rw[aO];clear aO;obtain⟨g0,dU⟩:=ay w.heap.size;rw[dU] at HO ⊢;clear dU;have lV:=HO.out.cell (i:=1) rfl;have lX:=HO.out.cell (i:=2) rfl;go_wp2_with fail
 clear lV lX
 refine(bH o.s o.n _).mono ?_
 rintro e w3 ⟨rfl,bC⟩;have iq:=qh (HO.out.bl bC);have dv:=qh (af HB.out bC);clear bC;have oY:=iq.out.cell (i:=0) rfl;go_upto_region 2 with fail
 refine Jam ?_;refine ah (v:=?_) (ζ 12) rfl (by rfl) ?_ ?_;rotate_left
 ·go_simp;(try with_reducible rfl)
 simp only[ξ,aq,ak,ao];refine ah (v:=?_) (ζ 13) rfl (by rfl) ?_ ?_;rotate_left
 ·go_simp;(try with_reducible rfl)
 simp only[ξ,aq,ak,ao];refine ah (v:=?_) (ζ 14) rfl (by rfl) ?_ ?_;rotate_left
 ·go_simp;(try with_reducible rfl)
 simp only[ξ,aq,ak,ao];refine ah (v:=?_) (ζ 15) rfl (by rfl) ?_ ?_;rotate_left
 ·go_simp;(try with_reducible rfl)
 simp only[ξ,aq,ak,ao];refine ah (v:=?_) (ζ 16) rfl (by rfl) ?_ ?_;rotate_left
 ·go_simp;(try with_reducible rfl)
 simp only[ξ,aq,ak,ao];refine ah (v:=?_) (ζ 17) rfl (by rfl) ?_ ?_;rotate_left
 ·go_simp;(try with_reducible rfl)
 simp only[ξ,aq,ak,ao];refine ah (v:=?_) (ζ 18) rfl (by rfl) ?_ ?_;rotate_left
 ·go_simp;(try with_reducible rfl)
 simp only[ξ,aq,ak,ao];refine ah (v:=?_) (ζ 19) rfl (by rfl) ?_ ?_;rotate_left
 ·go_simp;(try with_reducible rfl)
 simp only[ξ,aq,ak,ao];refine ah (v:=?_) (ζ 20) rfl (by rfl) ?_ ?_;rotate_left
 ·go_simp;(try with_reducible rfl)
 simp only[ξ,aq,ak,ao];refine ah (v:=?_) (ζ 21) rfl (by rfl) ?_ ?_;rotate_left
 ·go_simp;(try with_reducible rfl)
 simp only[ξ,aq,ak,ao];refine ah (v:=?_) (ζ 22) rfl (by rfl) ?_ ?_;rotate_left
 ·go_simp;(try with_reducible rfl)
 simp only[ξ,aq,ak,ao];refine ah (v:=?_) (ζ 23) rfl (by rfl) ?_ ?_;rotate_left
 ·go_simp;(try with_reducible rfl)
 simp only[ξ,aq,ak,ao];refine ah (v:=?_) (ζ 24) rfl (by rfl) ?_ ?_;rotate_left
 ·go_simp;(try with_reducible rfl)
 simp only[ξ,aq,ak,ao];refine bw (ζ 25) rfl (by rfl) 36 (.tmp 1) rfl g0 rfl 36 (aa o) _ iq.out Tryz.underlying36 rfl (by kernel_rfl) ?_;simp only[ξ,aq,ak,ao];go_wp2_with fail
 clear oY
 refine(eJ o _).mono ?_
 rintro e w6 ⟨rfl,eP⟩;have fS:=qh (iq.out.bl eP);have dD:=qh (af dv.out eP);clear eP;have s6:=fS.out.cell (i:=0) rfl;have uf:=fS.out.cell (i:=19) rfl;go_wp2_with fail
 clear s6 uf
 refine(rH o.m _).mono ?_
 rintro e vB ⟨rfl,e6⟩;have FX:=qh (fS.out.bl e6);have mT:=qh (af dD.out e6);clear e6;have xT:=FX.out.cell (i:=0) rfl;go_wp2;go_ret;exact⟨rfl,mT.out⟩
theorem Yr (o:cZ) (h0:decide (o.k<1)=ρ) (h9:decide (8<o.k)=ρ) (h1:bQ o.s o.n=τ) (h2:dy o=dM) (hk:o.k=8) (h3:pJ o.m=τ) (w:ο):Ζ η 45 #[φ (aa o).toArray] w fun e w'=>e=.returned (J 0)∧σ w.heap.size w w':=by
 have he:η.eqGuardType η.depth 36=ρ:=by kernel_rfl
 have hq:=cD (dy o) dM;rw[cm,decide_eq_true h2] at hq;clear h2;have q3:(o.k==3)=ρ:=by rw[hk];decide
 have q5:(o.k==5)=ρ:=by rw[hk];decide
 have q6:(o.k==6)=ρ:=by rw[hk];decide
 have q7:(o.k==7)=ρ:=by rw[hk];decide
 have q8:(o.k==8)=τ:=by rw[hk];decide
 clear hk;go_enter Tryz.func45,Tryz.ntmps45;go_upto_region 1 with fail
 obtain⟨W1,aO⟩:=ay (w.alloc (δ (aa o).toArray 36));have HO:Hid (Whole W1 w.heap.size 36 (aa o)):=qh (by rw[←aO];exact Whole.new_ w _ _);have HB:Hid (σ w.heap.size w W1):=qh (by rw[←aO];exact ax _ _);rw[aO];clear aO;obtain⟨g0,dU⟩:=ay w.heap.size;rw[dU] at HO ⊢;clear dU;have lV:=HO.out.cell (i:=1) rfl;have lX:=HO.out.cell (i:=2) rfl;go_wp2_with fail
 clear lV lX
 refine(bH o.s o.n _).mono ?_
 rintro e w3 ⟨rfl,bC⟩;have iq:=qh (HO.out.bl bC);have dv:=qh (af HB.out bC);clear bC;have oY:=iq.out.cell (i:=0) rfl;go_upto_region 2 with fail
 refine Jam ?_;refine ah (v:=?_) (ζ 12) rfl (by rfl) ?_ ?_;rotate_left
 ·go_simp;(try with_reducible rfl)
 simp only[ξ,aq,ak,ao];refine ah (v:=?_) (ζ 13) rfl (by rfl) ?_ ?_;rotate_left
 ·go_simp;(try with_reducible rfl)
 simp only[ξ,aq,ak,ao];refine ah (v:=?_) (ζ 14) rfl (by rfl) ?_ ?_;rotate_left
 ·go_simp;(try with_reducible rfl)
 simp only[ξ,aq,ak,ao];refine ah (v:=?_) (ζ 15) rfl (by rfl) ?_ ?_;rotate_left
 ·go_simp;(try with_reducible rfl)
 simp only[ξ,aq,ak,ao];refine ah (v:=?_) (ζ 16) rfl (by rfl) ?_ ?_;rotate_left
 ·go_simp;(try with_reducible rfl)
 simp only[ξ,aq,ak,ao];refine ah (v:=?_) (ζ 17) rfl (by rfl) ?_ ?_;rotate_left
 ·go_simp;(try with_reducible rfl)
 simp only[ξ,aq,ak,ao];refine ah (v:=?_) (ζ 18) rfl (by rfl) ?_ ?_;rotate_left
 ·go_simp;(try with_reducible rfl)
 simp only[ξ,aq,ak,ao];refine ah (v:=?_) (ζ 19) rfl (by rfl) ?_ ?_;rotate_left
 ·go_simp;(try with_reducible rfl)
 simp only[ξ,aq,ak,ao];refine ah (v:=?_) (ζ 20) rfl (by rfl) ?_ ?_;rotate_left
 ·go_simp;(try with_reducible rfl)
 simp only[ξ,aq,ak,ao];refine ah (v:=?_) (ζ 21) rfl (by rfl) ?_ ?_;rotate_left
 ·go_simp;(try with_reducible rfl)
 simp only[ξ,aq,ak,ao];refine ah (v:=?_) (ζ 22) rfl (by rfl) ?_ ?_;rotate_left
 ·go_simp;(try with_reducible rfl)
 simp only[ξ,aq,ak,ao];refine ah (v:=?_) (ζ 23) rfl (by rfl) ?_ ?_;rotate_left
 ·go_simp;(try with_reducible rfl)
 simp only[ξ,aq,ak,ao];refine ah (v:=?_) (ζ 24) rfl (by rfl) ?_ ?_;rotate_left
 ·go_simp;(try with_reducible rfl)
 simp only[ξ,aq,ak,ao];refine bw (ζ 25) rfl (by rfl) 36 (.tmp 1) rfl g0 rfl 36 (aa o) _ iq.out Tryz.underlying36 rfl (by kernel_rfl) ?_;simp only[ξ,aq,ak,ao];go_wp2_with fail
 clear oY
 refine(eJ o _).mono ?_
 rintro e w6 ⟨rfl,eP⟩;have fS:=qh (iq.out.bl eP);have dD:=qh (af dv.out eP);clear eP;have s6:=fS.out.cell (i:=0) rfl;have uf:=fS.out.cell (i:=19) rfl;go_wp2_with fail
 clear s6 uf
 refine(rH o.m _).mono ?_
 rintro e vB ⟨rfl,e6⟩;have FX:=qh (fS.out.bl e6);have mT:=qh (af dD.out e6);clear e6;have xT:=FX.out.cell (i:=0) rfl;go_wp2;go_ret;exact⟨rfl,mT.out⟩
theorem ZJ (o:cZ) (h0:decide (o.k<1)=ρ) (h9:decide (8<o.k)=ρ) (h1:bQ o.s o.n=τ) (h2:dy o=dM) (hk:o.k=7) (ht:Hid (o.t.size≤maxLen)) (h3:dX o.t=ρ) (w:ο):Ζ η 45 #[φ (aa o).toArray] w fun e w'=>e=.returned (J 4)∧σ w.heap.size w w':=by
 have he:η.eqGuardType η.depth 36=ρ:=by kernel_rfl
 have hq:=cD (dy o) dM;rw[cm,decide_eq_true h2] at hq;clear h2;have q3:(o.k==3)=ρ:=by rw[hk];decide
 have q5:(o.k==5)=ρ:=by rw[hk];decide
 have q6:(o.k==6)=ρ:=by rw[hk];decide
 have q7:(o.k==7)=τ:=by rw[hk];decide
 have q8:(o.k==8)=ρ:=by rw[hk];decide
 clear hk;go_enter Tryz.func45,Tryz.ntmps45;go_upto_region 1 with fail
 obtain⟨W1,aO⟩:=ay (w.alloc (δ (aa o).toArray 36));have HO:Hid (Whole W1 w.heap.size 36 (aa o)):=qh (by rw[←aO];exact Whole.new_ w _ _);have HB:Hid (σ w.heap.size w W1):=qh (by rw[←aO];exact ax _ _);rw[aO];clear aO;obtain⟨g0,dU⟩:=ay w.heap.size;rw[dU] at HO ⊢;clear dU;have lV:=HO.out.cell (i:=1) rfl;have lX:=HO.out.cell (i:=2) rfl;go_wp2_with fail
 clear lV lX
 refine(bH o.s o.n _).mono ?_
 rintro e w3 ⟨rfl,bC⟩;have iq:=qh (HO.out.bl bC);have dv:=qh (af HB.out bC);clear bC;have oY:=iq.out.cell (i:=0) rfl;go_upto_region 2 with fail
 refine Jam ?_;refine ah (v:=?_) (ζ 12) rfl (by rfl) ?_ ?_;rotate_left
 ·go_simp;(try with_reducible rfl)
 simp only[ξ,aq,ak,ao];refine ah (v:=?_) (ζ 13) rfl (by rfl) ?_ ?_;rotate_left
 ·go_simp;(try with_reducible rfl)
 simp only[ξ,aq,ak,ao];refine ah (v:=?_) (ζ 14) rfl (by rfl) ?_ ?_;rotate_left
 ·go_simp;(try with_reducible rfl)
 simp only[ξ,aq,ak,ao];refine ah (v:=?_) (ζ 15) rfl (by rfl) ?_ ?_;rotate_left
 ·go_simp;(try with_reducible rfl)
 simp only[ξ,aq,ak,ao];refine ah (v:=?_) (ζ 16) rfl (by rfl) ?_ ?_;rotate_left
 ·go_simp;(try with_reducible rfl)
 simp only[ξ,aq,ak,ao];refine ah (v:=?_) (ζ 17) rfl (by rfl) ?_ ?_;rotate_left
 ·go_simp;(try with_reducible rfl)
 simp only[ξ,aq,ak,ao];refine ah (v:=?_) (ζ 18) rfl (by rfl) ?_ ?_;rotate_left
 ·go_simp;(try with_reducible rfl)
 simp only[ξ,aq,ak,ao];refine ah (v:=?_) (ζ 19) rfl (by rfl) ?_ ?_;rotate_left
 ·go_simp;(try with_reducible rfl)
 simp only[ξ,aq,ak,ao];refine ah (v:=?_) (ζ 20) rfl (by rfl) ?_ ?_;rotate_left
 ·go_simp;(try with_reducible rfl)
 simp only[ξ,aq,ak,ao];refine ah (v:=?_) (ζ 21) rfl (by rfl) ?_ ?_;rotate_left
 ·go_simp;(try with_reducible rfl)
 simp only[ξ,aq,ak,ao];refine ah (v:=?_) (ζ 22) rfl (by rfl) ?_ ?_;rotate_left
 ·go_simp;(try with_reducible rfl)
 simp only[ξ,aq,ak,ao];refine ah (v:=?_) (ζ 23) rfl (by rfl) ?_ ?_;rotate_left
 ·go_simp;(try with_reducible rfl)
 simp only[ξ,aq,ak,ao];refine ah (v:=?_) (ζ 24) rfl (by rfl) ?_ ?_;rotate_left
 ·go_simp;(try with_reducible rfl)
 simp only[ξ,aq,ak,ao];refine bw (ζ 25) rfl (by rfl) 36 (.tmp 1) rfl g0 rfl 36 (aa o) _ iq.out Tryz.underlying36 rfl (by kernel_rfl) ?_;simp only[ξ,aq,ak,ao];go_wp2_with fail
 clear oY
 refine(eJ o _).mono ?_
 rintro e w6 ⟨rfl,eP⟩;have fS:=qh (iq.out.bl eP);have dD:=qh (af dv.out eP);clear eP;have s6:=fS.out.cell (i:=0) rfl;have uf:=fS.out.cell (i:=18) rfl;go_wp2_with fail
 clear s6 uf
 refine(rC o.t ht.out _).mono ?_
 rintro e vB ⟨rfl,e6⟩;have FX:=qh (fS.out.bl e6);have mT:=qh (af dD.out e6);clear e6;have xT:=FX.out.cell (i:=0) rfl;go_wp2;go_ret;exact⟨rfl,mT.out⟩
theorem Xa (o:cZ) (h0:decide (o.k<1)=ρ) (h9:decide (8<o.k)=ρ) (h1:bQ o.s o.n=τ) (h2:dy o=dM) (hk:o.k=7) (ht:Hid (o.t.size≤maxLen)) (h3:dX o.t=τ) (w:ο):Ζ η 45 #[φ (aa o).toArray] w fun e w'=>e=.returned (J 0)∧σ w.heap.size w w':=by
 have he:η.eqGuardType η.depth 36=ρ:=by kernel_rfl
 have hq:=cD (dy o) dM;rw[cm,decide_eq_true h2] at hq;clear h2;have q3:(o.k==3)=ρ:=by rw[hk];decide
 have q5:(o.k==5)=ρ:=by rw[hk];decide
 have q6:(o.k==6)=ρ:=by rw[hk];decide
 have q7:(o.k==7)=τ:=by rw[hk];decide
 have q8:(o.k==8)=ρ:=by rw[hk];decide
 clear hk;go_enter Tryz.func45,Tryz.ntmps45;go_upto_region 1 with fail
 obtain⟨W1,aO⟩:=ay (w.alloc (δ (aa o).toArray 36));have HO:Hid (Whole W1 w.heap.size 36 (aa o)):=qh (by rw[←aO];exact Whole.new_ w _ _);have HB:Hid (σ w.heap.size w W1):=qh (by rw[←aO];exact ax _ _);rw[aO];clear aO;obtain⟨g0,dU⟩:=ay w.heap.size;rw[dU] at HO ⊢;clear dU;have lV:=HO.out.cell (i:=1) rfl;have lX:=HO.out.cell (i:=2) rfl;go_wp2_with fail
 clear lV lX
 refine(bH o.s o.n _).mono ?_
 rintro e w3 ⟨rfl,bC⟩;have iq:=qh (HO.out.bl bC);have dv:=qh (af HB.out bC);clear bC;have oY:=iq.out.cell (i:=0) rfl;go_upto_region 2 with fail
 refine Jam ?_;refine ah (v:=?_) (ζ 12) rfl (by rfl) ?_ ?_;rotate_left
 ·go_simp;(try with_reducible rfl)
 simp only[ξ,aq,ak,ao];refine ah (v:=?_) (ζ 13) rfl (by rfl) ?_ ?_;rotate_left
 ·go_simp;(try with_reducible rfl)
 simp only[ξ,aq,ak,ao];refine ah (v:=?_) (ζ 14) rfl (by rfl) ?_ ?_;rotate_left
 ·go_simp;(try with_reducible rfl)
 simp only[ξ,aq,ak,ao];refine ah (v:=?_) (ζ 15) rfl (by rfl) ?_ ?_;rotate_left
 ·go_simp;(try with_reducible rfl)
 simp only[ξ,aq,ak,ao];refine ah (v:=?_) (ζ 16) rfl (by rfl) ?_ ?_;rotate_left
 ·go_simp;(try with_reducible rfl)
 simp only[ξ,aq,ak,ao];refine ah (v:=?_) (ζ 17) rfl (by rfl) ?_ ?_;rotate_left
 ·go_simp;(try with_reducible rfl)
 simp only[ξ,aq,ak,ao];refine ah (v:=?_) (ζ 18) rfl (by rfl) ?_ ?_;rotate_left
 ·go_simp;(try with_reducible rfl)
 simp only[ξ,aq,ak,ao];refine ah (v:=?_) (ζ 19) rfl (by rfl) ?_ ?_;rotate_left
 ·go_simp;(try with_reducible rfl)
 simp only[ξ,aq,ak,ao];refine ah (v:=?_) (ζ 20) rfl (by rfl) ?_ ?_;rotate_left
 ·go_simp;(try with_reducible rfl)
 simp only[ξ,aq,ak,ao];refine ah (v:=?_) (ζ 21) rfl (by rfl) ?_ ?_;rotate_left
 ·go_simp;(try with_reducible rfl)
 simp only[ξ,aq,ak,ao];refine ah (v:=?_) (ζ 22) rfl (by rfl) ?_ ?_;rotate_left
 ·go_simp;(try with_reducible rfl)
 simp only[ξ,aq,ak,ao];refine ah (v:=?_) (ζ 23) rfl (by rfl) ?_ ?_;rotate_left
 ·go_simp;(try with_reducible rfl)
 simp only[ξ,aq,ak,ao];refine ah (v:=?_) (ζ 24) rfl (by rfl) ?_ ?_;rotate_left
 ·go_simp;(try with_reducible rfl)
 simp only[ξ,aq,ak,ao];refine bw (ζ 25) rfl (by rfl) 36 (.tmp 1) rfl g0 rfl 36 (aa o) _ iq.out Tryz.underlying36 rfl (by kernel_rfl) ?_;simp only[ξ,aq,ak,ao];go_wp2_with fail
 clear oY
 refine(eJ o _).mono ?_
 rintro e w6 ⟨rfl,eP⟩;have fS:=qh (iq.out.bl eP);have dD:=qh (af dv.out eP);clear eP;have s6:=fS.out.cell (i:=0) rfl;have uf:=fS.out.cell (i:=18) rfl;go_wp2_with fail
 clear s6 uf
 refine(rC o.t ht.out _).mono ?_
 rintro e vB ⟨rfl,e6⟩;have FX:=qh (fS.out.bl e6);have mT:=qh (af dD.out e6);clear e6;have xT:=FX.out.cell (i:=0) rfl;go_wp2;go_ret;exact⟨rfl,mT.out⟩
theorem X3 (o:cZ) (h0:decide (o.k<1)=ρ) (h9:decide (8<o.k)=ρ) (h1:bQ o.s o.n=τ) (h2:dy o=dM) (q3:(o.k==3)=ρ) (q5:(o.k==5)=ρ) (q6:(o.k==6)=ρ) (q7:(o.k==7)=ρ) (q8:(o.k==8)=ρ) (w:ο):Ζ η 45 #[φ (aa o).toArray] w fun e w'=>e=.returned (J 0)∧σ w.heap.size w w':=by
 have he:η.eqGuardType η.depth 36=ρ:=by kernel_rfl
 have hq:=cD (dy o) dM;rw[cm,decide_eq_true h2] at hq;clear h2;go_enter Tryz.func45,Tryz.ntmps45;go_upto_region 1 with fail
 obtain⟨W1,aO⟩:=ay (w.alloc (δ (aa o).toArray 36));have HO:Hid (Whole W1 w.heap.size 36 (aa o)):=qh (by rw[←aO];exact Whole.new_ w _ _);have HB:Hid (σ w.heap.size w W1):=qh (by rw[←aO];exact ax _ _);rw[aO];clear aO;obtain⟨g0,dU⟩:=ay w.heap.size;rw[dU] at HO ⊢;clear dU;have lV:=HO.out.cell (i:=1) rfl;have lX:=HO.out.cell (i:=2) rfl;go_wp2_with fail
 clear lV lX
 refine(bH o.s o.n _).mono ?_
 rintro e w3 ⟨rfl,bC⟩;have iq:=qh (HO.out.bl bC);have dv:=qh (af HB.out bC);clear bC;have oY:=iq.out.cell (i:=0) rfl;go_upto_region 2 with fail
 refine Jam ?_;refine ah (v:=?_) (ζ 12) rfl (by rfl) ?_ ?_;rotate_left
 ·go_simp;(try with_reducible rfl)
 simp only[ξ,aq,ak,ao];refine ah (v:=?_) (ζ 13) rfl (by rfl) ?_ ?_;rotate_left
 ·go_simp;(try with_reducible rfl)
 simp only[ξ,aq,ak,ao];refine ah (v:=?_) (ζ 14) rfl (by rfl) ?_ ?_;rotate_left
 ·go_simp;(try with_reducible rfl)
 simp only[ξ,aq,ak,ao];refine ah (v:=?_) (ζ 15) rfl (by rfl) ?_ ?_;rotate_left
 ·go_simp;(try with_reducible rfl)
 simp only[ξ,aq,ak,ao];refine ah (v:=?_) (ζ 16) rfl (by rfl) ?_ ?_;rotate_left
 ·go_simp;(try with_reducible rfl)
 simp only[ξ,aq,ak,ao];refine ah (v:=?_) (ζ 17) rfl (by rfl) ?_ ?_;rotate_left
 ·go_simp;(try with_reducible rfl)
 simp only[ξ,aq,ak,ao];refine ah (v:=?_) (ζ 18) rfl (by rfl) ?_ ?_;rotate_left
 ·go_simp;(try with_reducible rfl)
 simp only[ξ,aq,ak,ao];refine ah (v:=?_) (ζ 19) rfl (by rfl) ?_ ?_;rotate_left
 ·go_simp;(try with_reducible rfl)
 simp only[ξ,aq,ak,ao];refine ah (v:=?_) (ζ 20) rfl (by rfl) ?_ ?_;rotate_left
 ·go_simp;(try with_reducible rfl)
 simp only[ξ,aq,ak,ao];refine ah (v:=?_) (ζ 21) rfl (by rfl) ?_ ?_;rotate_left
 ·go_simp;(try with_reducible rfl)
 simp only[ξ,aq,ak,ao];refine ah (v:=?_) (ζ 22) rfl (by rfl) ?_ ?_;rotate_left
 ·go_simp;(try with_reducible rfl)
 simp only[ξ,aq,ak,ao];refine ah (v:=?_) (ζ 23) rfl (by rfl) ?_ ?_;rotate_left
 ·go_simp;(try with_reducible rfl)
 simp only[ξ,aq,ak,ao];refine ah (v:=?_) (ζ 24) rfl (by rfl) ?_ ?_;rotate_left
 ·go_simp;(try with_reducible rfl)
 simp only[ξ,aq,ak,ao];refine bw (ζ 25) rfl (by rfl) 36 (.tmp 1) rfl g0 rfl 36 (aa o) _ iq.out Tryz.underlying36 rfl (by kernel_rfl) ?_;simp only[ξ,aq,ak,ao];go_wp2_with fail
 clear oY
 refine(eJ o _).mono ?_
 rintro e w6 ⟨rfl,eP⟩;have fS:=qh (iq.out.bl eP);have dD:=qh (af dv.out eP);clear eP;have s6:=fS.out.cell (i:=0) rfl;go_wp2;go_ret;exact⟨rfl,dD.out⟩
end Go.Proofs.YtpdpbfmiahjiiaaGreat
