/- Several texts in one. -/
import Derived.Test.YtpdpbfmiahjiiaaGreatPlAA
import Derived.Test.YtpdpbfmiahjiiaaGreatPlAB
import Derived.Test.YtpdpbfmiahjiiaaGreatPlAJ
import Derived.Test.YtpdpbfmiahjiiaaGreatPlAL
set_option linter.unusedSectionVars false
set_option linter.unusedSimpArgs false
set_option linter.unusedVariables false
set_option maxRecDepth 100000
set_option maxHeartbeats 16000000
namespace Go.Proofs.YtpdpbfmiahjiiaaGreat
open Go.RowKit
open _root_.Go.Obj renaming cells→δ
open _root_.Option renaming some→ζ
open _root_.Go.Proofs.Tryz renaming prog→η
open _root_.Go.Act renaming put→ξ
open _root_.Go renaming World→ο,Calls→Ζ,wp_region_lit→Jam
open _root_.Bool renaming false→ρ,true→τ
open _root_.Go.RowKit renaming Below→σ
open _root_.Go.Value renaming agg→φ
open _root_.Go.RowKit.Below renaming refl→Θ
theorem pX (n:Int):Pure 38 #[J n] (.bool (oI n)):=fun w=>by
 unfold oI
 by_cases h1:-1099511627776≤n
 ·by_cases h2:n≤1099511627776
  ·rw[decide_eq_true ⟨h1,h2⟩];go_enter Tryz.func38,Tryz.ntmps38;go_wp2;go_ret;exact⟨rfl,Θ _ _⟩
  ·rw[decide_eq_false (fun h=>h2 h.2)];go_enter Tryz.func38,Tryz.ntmps38;go_wp2;go_ret;exact⟨rfl,Θ _ _⟩
 ·rw[decide_eq_false (fun h=>h1 h.1)];go_enter Tryz.func38,Tryz.ntmps38;go_wp2;go_ret;exact⟨rfl,Θ _ _⟩
theorem iO (a0 a1 a2 a3 a4:Int):Pure 70 #[φ #[J a0,J a1,J a2,J a3,J a4]] (.bool (mR a0 a1 a2 a3 a4)):=fun w=>by
 unfold mR;have hq:=sr a2 a3 a4;have HM:=qh (bp a0 a1);have HD:=qh (yK a2 a3 a4)
 by_cases hz:a2=0∧a3=0∧a4=0
 all_goals
  first|rw[decide_eq_true hz] at hq ⊢|rw[decide_eq_false hz] at hq ⊢
  obtain⟨V,gV⟩:=az (bB a0 a1);obtain⟨D,gD⟩:=az (G1 a2 a3 a4);rw[gV] at HM ⊢;rw[gD] at HD ⊢;clear gV gD hz;cases V<;>cases D
  all_goals
   go_enter Tryz.func70,Tryz.ntmps70
   go_wp2_with (first
    |(go_at_call 28;refine(HM.out _).mono ?_;rintro e w' ⟨rfl,hb⟩;obtain⟨hc,hf⟩:=ec hb;have j7:w.heap.size<w'.heap.size:=by have:=hb.size;simp at this;omega)
    |(go_at_call 97;refine(HD.out _).mono ?_;rintro e cD ⟨rfl,ar⟩;obtain⟨wy,Jy⟩:=ec ar))
   go_ret;exact⟨by simp,(aK hb).trans (ar.mono (aK hb).size)⟩
def dk:cO:=⟨0,0,0,0,0,0,0,0,0,0,0,0,0,0,0,0,0,ρ,⟨#[]⟩,0⟩
theorem bR:(aa dk).toArray=#[J 0,J 0,J 0,J 0,J 0,J 0,J 0,J 0,J 0,J 0,J 0,J 0,J 0,J 0,J 0,J 0,J 0,.bool ρ,.string ⟨#[]⟩,J 0]:=rfl
theorem Vc (o:cO) (h0:decide (o.k<1)=τ) (w:ο):Ζ η 45 #[φ (aa o).toArray] w fun e w'=>e=.returned (J 1)∧σ w.heap.size w w':=by
 go_enter Tryz.func45,Tryz.ntmps45;go_upto_region 1 with fail
 obtain⟨W1,a7⟩:=az (w.alloc (δ (aa o).toArray 36));have HO:Hid (Whole W1 w.heap.size 36 (aa o)):=qh (by rw[←a7];exact Whole.new_ w _ _);have HB:Hid (σ w.heap.size w W1):=qh (by rw[←a7];exact ax _ _);rw[a7];clear a7;obtain⟨g0,dx⟩:=az w.heap.size;rw[dx] at HO ⊢;clear dx;have ks:=HO.out.cell (i:=1) rfl;have ko:=HO.out.cell (i:=2) rfl;go_wp2_with fail
 clear ks ko
 refine(bp o.s o.n _).mono ?_
 rintro e w3 ⟨rfl,bw⟩;have hJ:=qh (HO.out.bl bw);have cQ:=qh (af HB.out bw);clear bw;have nE:=hJ.out.cell (i:=0) rfl;go_wp2;go_ret;exact⟨rfl,cQ.out⟩
theorem Uk (o:cO) (h0:decide (o.k<1)=ρ) (h9:decide (8<o.k)=τ) (w:ο):Ζ η 45 #[φ (aa o).toArray] w fun e w'=>e=.returned (J 1)∧σ w.heap.size w w':=by
 go_enter Tryz.func45,Tryz.ntmps45;go_upto_region 1 with fail
 obtain⟨W1,a7⟩:=az (w.alloc (δ (aa o).toArray 36));have HO:Hid (Whole W1 w.heap.size 36 (aa o)):=qh (by rw[←a7];exact Whole.new_ w _ _);have HB:Hid (σ w.heap.size w W1):=qh (by rw[←a7];exact ax _ _);rw[a7];clear a7;obtain⟨g0,dx⟩:=az w.heap.size;rw[dx] at HO ⊢;clear dx;have ks:=HO.out.cell (i:=1) rfl;have ko:=HO.out.cell (i:=2) rfl;go_wp2_with fail
 clear ks ko
 refine(bp o.s o.n _).mono ?_
 rintro e w3 ⟨rfl,bw⟩;have hJ:=qh (HO.out.bl bw);have cQ:=qh (af HB.out bw);clear bw;have nE:=hJ.out.cell (i:=0) rfl;go_wp2;go_ret;exact⟨rfl,cQ.out⟩
theorem WE (o:cO) (h0:decide (o.k<1)=ρ) (h9:decide (8<o.k)=ρ) (h1:bB o.s o.n=ρ) (w:ο):Ζ η 45 #[φ (aa o).toArray] w fun e w'=>e=.returned (J 1)∧σ w.heap.size w w':=by
 go_enter Tryz.func45,Tryz.ntmps45;go_upto_region 1 with fail
 obtain⟨W1,a7⟩:=az (w.alloc (δ (aa o).toArray 36));have HO:Hid (Whole W1 w.heap.size 36 (aa o)):=qh (by rw[←a7];exact Whole.new_ w _ _);have HB:Hid (σ w.heap.size w W1):=qh (by rw[←a7];exact ax _ _);rw[a7];clear a7;obtain⟨g0,dx⟩:=az w.heap.size;rw[dx] at HO ⊢;clear dx;have ks:=HO.out.cell (i:=1) rfl;have ko:=HO.out.cell (i:=2) rfl;go_wp2_with fail
 clear ks ko
 refine(bp o.s o.n _).mono ?_
 rintro e w3 ⟨rfl,bw⟩;have hJ:=qh (HO.out.bl bw);have cQ:=qh (af HB.out bw);clear bw;have nE:=hJ.out.cell (i:=0) rfl;go_wp2;go_ret;exact⟨rfl,cQ.out⟩
theorem OC (o:cO) (h0:decide (o.k<1)=ρ) (h9:decide (8<o.k)=ρ) (h1:bB o.s o.n=τ) (h2:¬cV o=dk) (w:ο):Ζ η 45 #[φ (aa o).toArray] w fun e w'=>e=.returned (J 1)∧σ w.heap.size w w':=by
 have he:η.eqGuardType η.depth 36=ρ:=by kernel_rfl
 have hq:=cg (cV o) dk;rw[bR,decide_eq_false h2] at hq;clear h2;go_enter Tryz.func45,Tryz.ntmps45;go_upto_region 1 with fail
 obtain⟨W1,a7⟩:=az (w.alloc (δ (aa o).toArray 36));have HO:Hid (Whole W1 w.heap.size 36 (aa o)):=qh (by rw[←a7];exact Whole.new_ w _ _);have HB:Hid (σ w.heap.size w W1):=qh (by rw[←a7];exact ax _ _);rw[a7];clear a7;obtain⟨g0,dx⟩:=az w.heap.size;rw[dx] at HO ⊢;clear dx;have ks:=HO.out.cell (i:=1) rfl;have ko:=HO.out.cell (i:=2) rfl;go_wp2_with fail
 clear ks ko
 refine(bp o.s o.n _).mono ?_
 rintro e w3 ⟨rfl,bw⟩;have hJ:=qh (HO.out.bl bw);have cQ:=qh (af HB.out bw);clear bw;have nE:=hJ.out.cell (i:=0) rfl;go_upto_region 2 with fail
 refine Jam ?_;refine ag (v:=?_) (ζ 12) rfl (by rfl) ?_ ?_;rotate_left
 ·go_simp;(try with_reducible rfl)
 simp only[ξ,ak,aj,ah];refine ag (v:=?_) (ζ 13) rfl (by rfl) ?_ ?_;rotate_left
 ·go_simp;(try with_reducible rfl)
 simp only[ξ,ak,aj,ah];refine ag (v:=?_) (ζ 14) rfl (by rfl) ?_ ?_;rotate_left
 ·go_simp;(try with_reducible rfl)
 simp only[ξ,ak,aj,ah];refine ag (v:=?_) (ζ 15) rfl (by rfl) ?_ ?_;rotate_left
 ·go_simp;(try with_reducible rfl)
 simp only[ξ,ak,aj,ah];refine ag (v:=?_) (ζ 16) rfl (by rfl) ?_ ?_;rotate_left
 ·go_simp;(try with_reducible rfl)
 simp only[ξ,ak,aj,ah];refine ag (v:=?_) (ζ 17) rfl (by rfl) ?_ ?_;rotate_left
 ·go_simp;(try with_reducible rfl)
 simp only[ξ,ak,aj,ah];refine ag (v:=?_) (ζ 18) rfl (by rfl) ?_ ?_;rotate_left
 ·go_simp;(try with_reducible rfl)
 simp only[ξ,ak,aj,ah];refine ag (v:=?_) (ζ 19) rfl (by rfl) ?_ ?_;rotate_left
 ·go_simp;(try with_reducible rfl)
 simp only[ξ,ak,aj,ah];refine ag (v:=?_) (ζ 20) rfl (by rfl) ?_ ?_;rotate_left
 ·go_simp;(try with_reducible rfl)
 simp only[ξ,ak,aj,ah];refine ag (v:=?_) (ζ 21) rfl (by rfl) ?_ ?_;rotate_left
 ·go_simp;(try with_reducible rfl)
 simp only[ξ,ak,aj,ah];refine ag (v:=?_) (ζ 22) rfl (by rfl) ?_ ?_;rotate_left
 ·go_simp;(try with_reducible rfl)
 simp only[ξ,ak,aj,ah];refine ag (v:=?_) (ζ 23) rfl (by rfl) ?_ ?_;rotate_left
 ·go_simp;(try with_reducible rfl)
 simp only[ξ,ak,aj,ah];refine ag (v:=?_) (ζ 24) rfl (by rfl) ?_ ?_;rotate_left
 ·go_simp;(try with_reducible rfl)
 simp only[ξ,ak,aj,ah];refine bh (ζ 25) rfl (by rfl) 36 (.tmp 1) rfl g0 rfl 36 (aa o) _ hJ.out Tryz.underlying36 rfl (by kernel_rfl) ?_;simp only[ξ,ak,aj,ah];go_wp2_with fail
 clear nE
 refine(dY o _).mono ?_
 rintro e w6 ⟨rfl,dO⟩;have fE:=qh (hJ.out.bl dO);have de:=qh (af cQ.out dO);clear dO;have ri:=fE.out.cell (i:=0) rfl;go_wp2;go_ret;exact⟨rfl,de.out⟩
theorem TK (o:cO) (h0:decide (o.k<1)=ρ) (h9:decide (8<o.k)=ρ) (h1:bB o.s o.n=τ) (h2:cV o=dk) (hk:o.k=3) (h3:mR o.a0 o.a1 o.a2 o.a3 o.a4=ρ) (w:ο):Ζ η 45 #[φ (aa o).toArray] w fun e w'=>e=.returned (J 1)∧σ w.heap.size w w':=by
 have he:η.eqGuardType η.depth 36=ρ:=by kernel_rfl
 have hq:=cg (cV o) dk;rw[bR,decide_eq_true h2] at hq;clear h2;have q3:(o.k==3)=τ:=by rw[hk];decide
 have q5:(o.k==5)=ρ:=by rw[hk];decide
 have q6:(o.k==6)=ρ:=by rw[hk];decide
 have q7:(o.k==7)=ρ:=by rw[hk];decide
 have q8:(o.k==8)=ρ:=by rw[hk];decide
 clear hk;go_enter Tryz.func45,Tryz.ntmps45;go_upto_region 1 with fail
 obtain⟨W1,a7⟩:=az (w.alloc (δ (aa o).toArray 36));have HO:Hid (Whole W1 w.heap.size 36 (aa o)):=qh (by rw[←a7];exact Whole.new_ w _ _);have HB:Hid (σ w.heap.size w W1):=qh (by rw[←a7];exact ax _ _);rw[a7];clear a7;obtain⟨g0,dx⟩:=az w.heap.size;rw[dx] at HO ⊢;clear dx;have ks:=HO.out.cell (i:=1) rfl;have ko:=HO.out.cell (i:=2) rfl;go_wp2_with fail
 clear ks ko
 refine(bp o.s o.n _).mono ?_
 rintro e w3 ⟨rfl,bw⟩;have hJ:=qh (HO.out.bl bw);have cQ:=qh (af HB.out bw);clear bw;have nE:=hJ.out.cell (i:=0) rfl;go_upto_region 2 with fail
 refine Jam ?_;refine ag (v:=?_) (ζ 12) rfl (by rfl) ?_ ?_;rotate_left
 ·go_simp;(try with_reducible rfl)
 simp only[ξ,ak,aj,ah];refine ag (v:=?_) (ζ 13) rfl (by rfl) ?_ ?_;rotate_left
 ·go_simp;(try with_reducible rfl)
 simp only[ξ,ak,aj,ah];refine ag (v:=?_) (ζ 14) rfl (by rfl) ?_ ?_;rotate_left
 ·go_simp;(try with_reducible rfl)
 simp only[ξ,ak,aj,ah];refine ag (v:=?_) (ζ 15) rfl (by rfl) ?_ ?_;rotate_left
 ·go_simp;(try with_reducible rfl)
 simp only[ξ,ak,aj,ah];refine ag (v:=?_) (ζ 16) rfl (by rfl) ?_ ?_;rotate_left
 ·go_simp;(try with_reducible rfl)
 simp only[ξ,ak,aj,ah];refine ag (v:=?_) (ζ 17) rfl (by rfl) ?_ ?_;rotate_left
 ·go_simp;(try with_reducible rfl)
 simp only[ξ,ak,aj,ah];refine ag (v:=?_) (ζ 18) rfl (by rfl) ?_ ?_;rotate_left
 ·go_simp;(try with_reducible rfl)
 simp only[ξ,ak,aj,ah];refine ag (v:=?_) (ζ 19) rfl (by rfl) ?_ ?_;rotate_left
 ·go_simp;(try with_reducible rfl)
 simp only[ξ,ak,aj,ah];refine ag (v:=?_) (ζ 20) rfl (by rfl) ?_ ?_;rotate_left
 ·go_simp;(try with_reducible rfl)
 simp only[ξ,ak,aj,ah];refine ag (v:=?_) (ζ 21) rfl (by rfl) ?_ ?_;rotate_left
 ·go_simp;(try with_reducible rfl)
 simp only[ξ,ak,aj,ah];refine ag (v:=?_) (ζ 22) rfl (by rfl) ?_ ?_;rotate_left
 ·go_simp;(try with_reducible rfl)
 simp only[ξ,ak,aj,ah];refine ag (v:=?_) (ζ 23) rfl (by rfl) ?_ ?_;rotate_left
 ·go_simp;(try with_reducible rfl)
 simp only[ξ,ak,aj,ah];refine ag (v:=?_) (ζ 24) rfl (by rfl) ?_ ?_;rotate_left
 ·go_simp;(try with_reducible rfl)
 simp only[ξ,ak,aj,ah];refine bh (ζ 25) rfl (by rfl) 36 (.tmp 1) rfl g0 rfl 36 (aa o) _ hJ.out Tryz.underlying36 rfl (by kernel_rfl) ?_;simp only[ξ,ak,aj,ah];go_wp2_with fail
 clear nE
 refine(dY o _).mono ?_
 rintro e w6 ⟨rfl,dO⟩;have fE:=qh (hJ.out.bl dO);have de:=qh (af cQ.out dO);clear dO;have ri:=fE.out.cell (i:=0) rfl;have sF:=fE.out.cell (i:=7) rfl;have mP:=fE.out.cell (i:=8) rfl;have DG:=fE.out.cell (i:=9) rfl;have vu:=fE.out.cell (i:=10) rfl;have mL:=fE.out.cell (i:=11) rfl;go_wp2_with fail
 clear ri sF mP DG vu mL
 refine(iO o.a0 o.a1 o.a2 o.a3 o.a4 _).mono ?_
 rintro e w14 ⟨rfl,uP⟩;have kE:=qh (fE.out.bl uP);have wu:=qh (af de.out uP);clear uP;have LP:=kE.out.cell (i:=0) rfl;have Da:=kE.out.cell (i:=12) rfl;have tY:=kE.out.cell (i:=13) rfl;have tO:=kE.out.cell (i:=14) rfl;have Dy:=kE.out.cell (i:=15) rfl;have Jq:=kE.out.cell (i:=16) rfl;go_wp2_with fail
 clear LP Da tY tO Dy Jq
 refine(iO o.b0 o.b1 o.b2 o.b3 o.b4 _).mono ?_
 rintro e w22 ⟨rfl,ve⟩;have Je:=qh (kE.out.bl ve);have vO:=qh (af wu.out ve);clear ve;have TN:=Je.out.cell (i:=0) rfl;go_wp2;go_ret;exact⟨rfl,vO.out⟩
theorem Va (o:cO) (h0:decide (o.k<1)=ρ) (h9:decide (8<o.k)=ρ) (h1:bB o.s o.n=τ) (h2:cV o=dk) (hk:o.k=3) (h3:mR o.a0 o.a1 o.a2 o.a3 o.a4=τ) (h4:mR o.b0 o.b1 o.b2 o.b3 o.b4=ρ) (w:ο):Ζ η 45 #[φ (aa o).toArray] w fun e w'=>e=.returned (J 1)∧σ w.heap.size w w':=by
 have he:η.eqGuardType η.depth 36=ρ:=by kernel_rfl
 have hq:=cg (cV o) dk;rw[bR,decide_eq_true h2] at hq;clear h2;have q3:(o.k==3)=τ:=by rw[hk];decide
 have q5:(o.k==5)=ρ:=by rw[hk];decide
 have q6:(o.k==6)=ρ:=by rw[hk];decide
 have q7:(o.k==7)=ρ:=by rw[hk];decide
 have q8:(o.k==8)=ρ:=by rw[hk];decide
 clear hk;go_enter Tryz.func45,Tryz.ntmps45;go_upto_region 1 with fail
 obtain⟨W1,a7⟩:=az (w.alloc (δ (aa o).toArray 36));have HO:Hid (Whole W1 w.heap.size 36 (aa o)):=qh (by rw[←a7];exact Whole.new_ w _ _);have HB:Hid (σ w.heap.size w W1):=qh (by rw[←a7];exact ax _ _);rw[a7];clear a7;obtain⟨g0,dx⟩:=az w.heap.size;rw[dx] at HO ⊢;clear dx;have ks:=HO.out.cell (i:=1) rfl;have ko:=HO.out.cell (i:=2) rfl;go_wp2_with fail
 clear ks ko
 refine(bp o.s o.n _).mono ?_
 rintro e w3 ⟨rfl,bw⟩;have hJ:=qh (HO.out.bl bw);have cQ:=qh (af HB.out bw);clear bw;have nE:=hJ.out.cell (i:=0) rfl;go_upto_region 2 with fail
 refine Jam ?_;refine ag (v:=?_) (ζ 12) rfl (by rfl) ?_ ?_;rotate_left
 ·go_simp;(try with_reducible rfl)
 simp only[ξ,ak,aj,ah];refine ag (v:=?_) (ζ 13) rfl (by rfl) ?_ ?_;rotate_left
 ·go_simp;(try with_reducible rfl)
 simp only[ξ,ak,aj,ah];refine ag (v:=?_) (ζ 14) rfl (by rfl) ?_ ?_;rotate_left
 ·go_simp;(try with_reducible rfl)
 simp only[ξ,ak,aj,ah];refine ag (v:=?_) (ζ 15) rfl (by rfl) ?_ ?_;rotate_left
 ·go_simp;(try with_reducible rfl)
 simp only[ξ,ak,aj,ah];refine ag (v:=?_) (ζ 16) rfl (by rfl) ?_ ?_;rotate_left
 ·go_simp;(try with_reducible rfl)
 simp only[ξ,ak,aj,ah];refine ag (v:=?_) (ζ 17) rfl (by rfl) ?_ ?_;rotate_left
 ·go_simp;(try with_reducible rfl)
 simp only[ξ,ak,aj,ah];refine ag (v:=?_) (ζ 18) rfl (by rfl) ?_ ?_;rotate_left
 ·go_simp;(try with_reducible rfl)
 simp only[ξ,ak,aj,ah];refine ag (v:=?_) (ζ 19) rfl (by rfl) ?_ ?_;rotate_left
 ·go_simp;(try with_reducible rfl)
 simp only[ξ,ak,aj,ah];refine ag (v:=?_) (ζ 20) rfl (by rfl) ?_ ?_;rotate_left
 ·go_simp;(try with_reducible rfl)
 simp only[ξ,ak,aj,ah];refine ag (v:=?_) (ζ 21) rfl (by rfl) ?_ ?_;rotate_left
 ·go_simp;(try with_reducible rfl)
 simp only[ξ,ak,aj,ah];refine ag (v:=?_) (ζ 22) rfl (by rfl) ?_ ?_;rotate_left
 ·go_simp;(try with_reducible rfl)
 simp only[ξ,ak,aj,ah];refine ag (v:=?_) (ζ 23) rfl (by rfl) ?_ ?_;rotate_left
 ·go_simp;(try with_reducible rfl)
 simp only[ξ,ak,aj,ah];refine ag (v:=?_) (ζ 24) rfl (by rfl) ?_ ?_;rotate_left
 ·go_simp;(try with_reducible rfl)
 simp only[ξ,ak,aj,ah];refine bh (ζ 25) rfl (by rfl) 36 (.tmp 1) rfl g0 rfl 36 (aa o) _ hJ.out Tryz.underlying36 rfl (by kernel_rfl) ?_;simp only[ξ,ak,aj,ah];go_wp2_with fail
 clear nE
 refine(dY o _).mono ?_
 rintro e w6 ⟨rfl,dO⟩;have fE:=qh (hJ.out.bl dO);have de:=qh (af cQ.out dO);clear dO;have ri:=fE.out.cell (i:=0) rfl;have sF:=fE.out.cell (i:=7) rfl;have mP:=fE.out.cell (i:=8) rfl;have DG:=fE.out.cell (i:=9) rfl;have vu:=fE.out.cell (i:=10) rfl;have mL:=fE.out.cell (i:=11) rfl;go_wp2_with fail
 clear ri sF mP DG vu mL
 refine(iO o.a0 o.a1 o.a2 o.a3 o.a4 _).mono ?_
 rintro e w14 ⟨rfl,uP⟩;have kE:=qh (fE.out.bl uP);have wu:=qh (af de.out uP);clear uP;have LP:=kE.out.cell (i:=0) rfl;have Da:=kE.out.cell (i:=12) rfl;have tY:=kE.out.cell (i:=13) rfl;have tO:=kE.out.cell (i:=14) rfl;have Dy:=kE.out.cell (i:=15) rfl;have Jq:=kE.out.cell (i:=16) rfl;go_wp2_with fail
 clear LP Da tY tO Dy Jq
 refine(iO o.b0 o.b1 o.b2 o.b3 o.b4 _).mono ?_
 rintro e w22 ⟨rfl,ve⟩;have Je:=qh (kE.out.bl ve);have vO:=qh (af wu.out ve);clear ve;have TN:=Je.out.cell (i:=0) rfl;go_wp2;go_ret;exact⟨rfl,vO.out⟩
theorem Vg (o:cO) (h0:decide (o.k<1)=ρ) (h9:decide (8<o.k)=ρ) (h1:bB o.s o.n=τ) (h2:cV o=dk) (hk:o.k=3) (h3:mR o.a0 o.a1 o.a2 o.a3 o.a4=τ) (h4:mR o.b0 o.b1 o.b2 o.b3 o.b4=τ) (w:ο):Ζ η 45 #[φ (aa o).toArray] w fun e w'=>e=.returned (J 0)∧σ w.heap.size w w':=by
 have he:η.eqGuardType η.depth 36=ρ:=by kernel_rfl
 have hq:=cg (cV o) dk;rw[bR,decide_eq_true h2] at hq;clear h2;have q3:(o.k==3)=τ:=by rw[hk];decide
 have q5:(o.k==5)=ρ:=by rw[hk];decide
 have q6:(o.k==6)=ρ:=by rw[hk];decide
 have q7:(o.k==7)=ρ:=by rw[hk];decide
 have q8:(o.k==8)=ρ:=by rw[hk];decide
 clear hk;go_enter Tryz.func45,Tryz.ntmps45;go_upto_region 1 with fail
 obtain⟨W1,a7⟩:=az (w.alloc (δ (aa o).toArray 36));have HO:Hid (Whole W1 w.heap.size 36 (aa o)):=qh (by rw[←a7];exact Whole.new_ w _ _);have HB:Hid (σ w.heap.size w W1):=qh (by rw[←a7];exact ax _ _);rw[a7];clear a7;obtain⟨g0,dx⟩:=az w.heap.size;rw[dx] at HO ⊢;clear dx;have ks:=HO.out.cell (i:=1) rfl;have ko:=HO.out.cell (i:=2) rfl;go_wp2_with fail
 clear ks ko
 refine(bp o.s o.n _).mono ?_
 rintro e w3 ⟨rfl,bw⟩;have hJ:=qh (HO.out.bl bw);have cQ:=qh (af HB.out bw);clear bw;have nE:=hJ.out.cell (i:=0) rfl;go_upto_region 2 with fail
 refine Jam ?_;refine ag (v:=?_) (ζ 12) rfl (by rfl) ?_ ?_;rotate_left
 ·go_simp;(try with_reducible rfl)
 simp only[ξ,ak,aj,ah];refine ag (v:=?_) (ζ 13) rfl (by rfl) ?_ ?_;rotate_left
 ·go_simp;(try with_reducible rfl)
 simp only[ξ,ak,aj,ah];refine ag (v:=?_) (ζ 14) rfl (by rfl) ?_ ?_;rotate_left
 ·go_simp;(try with_reducible rfl)
 simp only[ξ,ak,aj,ah];refine ag (v:=?_) (ζ 15) rfl (by rfl) ?_ ?_;rotate_left
 ·go_simp;(try with_reducible rfl)
 simp only[ξ,ak,aj,ah];refine ag (v:=?_) (ζ 16) rfl (by rfl) ?_ ?_;rotate_left
 ·go_simp;(try with_reducible rfl)
 simp only[ξ,ak,aj,ah];refine ag (v:=?_) (ζ 17) rfl (by rfl) ?_ ?_;rotate_left
 ·go_simp;(try with_reducible rfl)
 simp only[ξ,ak,aj,ah];refine ag (v:=?_) (ζ 18) rfl (by rfl) ?_ ?_;rotate_left
 ·go_simp;(try with_reducible rfl)
 simp only[ξ,ak,aj,ah];refine ag (v:=?_) (ζ 19) rfl (by rfl) ?_ ?_;rotate_left
 ·go_simp;(try with_reducible rfl)
 simp only[ξ,ak,aj,ah];refine ag (v:=?_) (ζ 20) rfl (by rfl) ?_ ?_;rotate_left
 ·go_simp;(try with_reducible rfl)
 simp only[ξ,ak,aj,ah];refine ag (v:=?_) (ζ 21) rfl (by rfl) ?_ ?_;rotate_left
 ·go_simp;(try with_reducible rfl)
 simp only[ξ,ak,aj,ah];refine ag (v:=?_) (ζ 22) rfl (by rfl) ?_ ?_;rotate_left
 ·go_simp;(try with_reducible rfl)
 simp only[ξ,ak,aj,ah];refine ag (v:=?_) (ζ 23) rfl (by rfl) ?_ ?_;rotate_left
 ·go_simp;(try with_reducible rfl)
 simp only[ξ,ak,aj,ah];refine ag (v:=?_) (ζ 24) rfl (by rfl) ?_ ?_;rotate_left
 ·go_simp;(try with_reducible rfl)
 simp only[ξ,ak,aj,ah];refine bh (ζ 25) rfl (by rfl) 36 (.tmp 1) rfl g0 rfl 36 (aa o) _ hJ.out Tryz.underlying36 rfl (by kernel_rfl) ?_;simp only[ξ,ak,aj,ah];go_wp2_with fail
 clear nE
 refine(dY o _).mono ?_
 rintro e w6 ⟨rfl,dO⟩;have fE:=qh (hJ.out.bl dO);have de:=qh (af cQ.out dO);clear dO;have ri:=fE.out.cell (i:=0) rfl;have sF:=fE.out.cell (i:=7) rfl;have mP:=fE.out.cell (i:=8) rfl;have DG:=fE.out.cell (i:=9) rfl;have vu:=fE.out.cell (i:=10) rfl;have mL:=fE.out.cell (i:=11) rfl;go_wp2_with fail
 clear ri sF mP DG vu mL
 refine(iO o.a0 o.a1 o.a2 o.a3 o.a4 _).mono ?_
 rintro e w14 ⟨rfl,uP⟩;have kE:=qh (fE.out.bl uP);have wu:=qh (af de.out uP);clear uP;have LP:=kE.out.cell (i:=0) rfl;have Da:=kE.out.cell (i:=12) rfl;have tY:=kE.out.cell (i:=13) rfl;have tO:=kE.out.cell (i:=14) rfl;have Dy:=kE.out.cell (i:=15) rfl;have Jq:=kE.out.cell (i:=16) rfl;go_wp2_with fail
 clear LP Da tY tO Dy Jq
 refine(iO o.b0 o.b1 o.b2 o.b3 o.b4 _).mono ?_
 rintro e w22 ⟨rfl,ve⟩;have Je:=qh (kE.out.bl ve);have vO:=qh (af wu.out ve);clear ve;have TN:=Je.out.cell (i:=0) rfl;go_wp2;go_ret;exact⟨rfl,vO.out⟩
theorem U9 (o:cO) (h0:decide (o.k<1)=ρ) (h9:decide (8<o.k)=ρ) (h1:bB o.s o.n=τ) (h2:cV o=dk) (hk:o.k=5) (h3:bB o.s1 o.n1=ρ) (w:ο):Ζ η 45 #[φ (aa o).toArray] w fun e w'=>e=.returned (J 1)∧σ w.heap.size w w':=by
 have he:η.eqGuardType η.depth 36=ρ:=by kernel_rfl
 have hq:=cg (cV o) dk;rw[bR,decide_eq_true h2] at hq;clear h2;have q3:(o.k==3)=ρ:=by rw[hk];decide
 have q5:(o.k==5)=τ:=by rw[hk];decide
 have q6:(o.k==6)=ρ:=by rw[hk];decide
 have q7:(o.k==7)=ρ:=by rw[hk];decide
 have q8:(o.k==8)=ρ:=by rw[hk];decide
 clear hk;go_enter Tryz.func45,Tryz.ntmps45;go_upto_region 1 with fail
 obtain⟨W1,a7⟩:=az (w.alloc (δ (aa o).toArray 36));have HO:Hid (Whole W1 w.heap.size 36 (aa o)):=qh (by rw[←a7];exact Whole.new_ w _ _);have HB:Hid (σ w.heap.size w W1):=qh (by rw[←a7];exact ax _ _);rw[a7];clear a7;obtain⟨g0,dx⟩:=az w.heap.size;rw[dx] at HO ⊢;clear dx;have ks:=HO.out.cell (i:=1) rfl;have ko:=HO.out.cell (i:=2) rfl;go_wp2_with fail
 clear ks ko
 refine(bp o.s o.n _).mono ?_
 rintro e w3 ⟨rfl,bw⟩;have hJ:=qh (HO.out.bl bw);have cQ:=qh (af HB.out bw);clear bw;have nE:=hJ.out.cell (i:=0) rfl;go_upto_region 2 with fail
 refine Jam ?_;refine ag (v:=?_) (ζ 12) rfl (by rfl) ?_ ?_;rotate_left
 ·go_simp;(try with_reducible rfl)
 simp only[ξ,ak,aj,ah];refine ag (v:=?_) (ζ 13) rfl (by rfl) ?_ ?_;rotate_left
 ·go_simp;(try with_reducible rfl)
 simp only[ξ,ak,aj,ah];refine ag (v:=?_) (ζ 14) rfl (by rfl) ?_ ?_;rotate_left
 ·go_simp;(try with_reducible rfl)
 simp only[ξ,ak,aj,ah];refine ag (v:=?_) (ζ 15) rfl (by rfl) ?_ ?_;rotate_left
 ·go_simp;(try with_reducible rfl)
 simp only[ξ,ak,aj,ah];refine ag (v:=?_) (ζ 16) rfl (by rfl) ?_ ?_;rotate_left
 ·go_simp;(try with_reducible rfl)
 simp only[ξ,ak,aj,ah];refine ag (v:=?_) (ζ 17) rfl (by rfl) ?_ ?_;rotate_left
 ·go_simp;(try with_reducible rfl)
 simp only[ξ,ak,aj,ah];refine ag (v:=?_) (ζ 18) rfl (by rfl) ?_ ?_;rotate_left
 ·go_simp;(try with_reducible rfl)
 simp only[ξ,ak,aj,ah];refine ag (v:=?_) (ζ 19) rfl (by rfl) ?_ ?_;rotate_left
 ·go_simp;(try with_reducible rfl)
 simp only[ξ,ak,aj,ah];refine ag (v:=?_) (ζ 20) rfl (by rfl) ?_ ?_;rotate_left
 ·go_simp;(try with_reducible rfl)
 simp only[ξ,ak,aj,ah];refine ag (v:=?_) (ζ 21) rfl (by rfl) ?_ ?_;rotate_left
 ·go_simp;(try with_reducible rfl)
 simp only[ξ,ak,aj,ah];refine ag (v:=?_) (ζ 22) rfl (by rfl) ?_ ?_;rotate_left
 ·go_simp;(try with_reducible rfl)
 simp only[ξ,ak,aj,ah];refine ag (v:=?_) (ζ 23) rfl (by rfl) ?_ ?_;rotate_left
 ·go_simp;(try with_reducible rfl)
 simp only[ξ,ak,aj,ah];refine ag (v:=?_) (ζ 24) rfl (by rfl) ?_ ?_;rotate_left
 ·go_simp;(try with_reducible rfl)
 simp only[ξ,ak,aj,ah];refine bh (ζ 25) rfl (by rfl) 36 (.tmp 1) rfl g0 rfl 36 (aa o) _ hJ.out Tryz.underlying36 rfl (by kernel_rfl) ?_;simp only[ξ,ak,aj,ah];go_wp2_with fail
 clear nE
 refine(dY o _).mono ?_
 rintro e w6 ⟨rfl,dO⟩;have fE:=qh (hJ.out.bl dO);have de:=qh (af cQ.out dO);clear dO;have ri:=fE.out.cell (i:=0) rfl;have sF:=fE.out.cell (i:=3) rfl;have mP:=fE.out.cell (i:=4) rfl;go_wp2_with fail
 clear ri sF mP
 refine(bp o.s1 o.n1 _).mono ?_
 rintro e tZ ⟨rfl,dU⟩;have jo:=qh (fE.out.bl dU);have ju:=qh (af de.out dU);clear dU;have mL:=jo.out.cell (i:=0) rfl;have wj:=jo.out.cell (i:=5) rfl;have yV:=jo.out.cell (i:=6) rfl;go_wp2_with fail
 clear mL wj yV
 refine(bp o.s2 o.n2 _).mono ?_
 rintro e Xo ⟨rfl,nq⟩;have rq:=qh (jo.out.bl nq);have nt:=qh (af ju.out nq);clear nq;have tY:=rq.out.cell (i:=0) rfl;have tO:=rq.out.cell (i:=19) rfl;go_wp2;go_ret;exact⟨rfl,nt.out⟩
theorem VE (o:cO) (h0:decide (o.k<1)=ρ) (h9:decide (8<o.k)=ρ) (h1:bB o.s o.n=τ) (h2:cV o=dk) (hk:o.k=5) (h3:bB o.s1 o.n1=τ) (h4:bB o.s2 o.n2=ρ) (w:ο):Ζ η 45 #[φ (aa o).toArray] w fun e w'=>e=.returned (J 1)∧σ w.heap.size w w':=by
 have he:η.eqGuardType η.depth 36=ρ:=by kernel_rfl
 have hq:=cg (cV o) dk;rw[bR,decide_eq_true h2] at hq;clear h2;have q3:(o.k==3)=ρ:=by rw[hk];decide
 have q5:(o.k==5)=τ:=by rw[hk];decide
 have q6:(o.k==6)=ρ:=by rw[hk];decide
 have q7:(o.k==7)=ρ:=by rw[hk];decide
 have q8:(o.k==8)=ρ:=by rw[hk];decide
 clear hk;go_enter Tryz.func45,Tryz.ntmps45;go_upto_region 1 with fail
 obtain⟨W1,a7⟩:=az (w.alloc (δ (aa o).toArray 36));have HO:Hid (Whole W1 w.heap.size 36 (aa o)):=qh (by rw[←a7];exact Whole.new_ w _ _);have HB:Hid (σ w.heap.size w W1):=qh (by rw[←a7];exact ax _ _);rw[a7];clear a7;obtain⟨g0,dx⟩:=az w.heap.size;rw[dx] at HO ⊢;clear dx;have ks:=HO.out.cell (i:=1) rfl;have ko:=HO.out.cell (i:=2) rfl;go_wp2_with fail
 clear ks ko
 refine(bp o.s o.n _).mono ?_
 rintro e w3 ⟨rfl,bw⟩;have hJ:=qh (HO.out.bl bw);have cQ:=qh (af HB.out bw);clear bw;have nE:=hJ.out.cell (i:=0) rfl;go_upto_region 2 with fail
 refine Jam ?_;refine ag (v:=?_) (ζ 12) rfl (by rfl) ?_ ?_;rotate_left
 ·go_simp;(try with_reducible rfl)
 simp only[ξ,ak,aj,ah];refine ag (v:=?_) (ζ 13) rfl (by rfl) ?_ ?_;rotate_left
 ·go_simp;(try with_reducible rfl)
 simp only[ξ,ak,aj,ah];refine ag (v:=?_) (ζ 14) rfl (by rfl) ?_ ?_;rotate_left
 ·go_simp;(try with_reducible rfl)
 simp only[ξ,ak,aj,ah];refine ag (v:=?_) (ζ 15) rfl (by rfl) ?_ ?_;rotate_left
 ·go_simp;(try with_reducible rfl)
 simp only[ξ,ak,aj,ah];refine ag (v:=?_) (ζ 16) rfl (by rfl) ?_ ?_;rotate_left
 ·go_simp;(try with_reducible rfl)
 simp only[ξ,ak,aj,ah];refine ag (v:=?_) (ζ 17) rfl (by rfl) ?_ ?_;rotate_left
 ·go_simp;(try with_reducible rfl)
 simp only[ξ,ak,aj,ah];refine ag (v:=?_) (ζ 18) rfl (by rfl) ?_ ?_;rotate_left
 ·go_simp;(try with_reducible rfl)
 simp only[ξ,ak,aj,ah];refine ag (v:=?_) (ζ 19) rfl (by rfl) ?_ ?_;rotate_left
 ·go_simp;(try with_reducible rfl)
 simp only[ξ,ak,aj,ah];refine ag (v:=?_) (ζ 20) rfl (by rfl) ?_ ?_;rotate_left
 ·go_simp;(try with_reducible rfl)
 simp only[ξ,ak,aj,ah];refine ag (v:=?_) (ζ 21) rfl (by rfl) ?_ ?_;rotate_left
 ·go_simp;(try with_reducible rfl)
 simp only[ξ,ak,aj,ah];refine ag (v:=?_) (ζ 22) rfl (by rfl) ?_ ?_;rotate_left
 ·go_simp;(try with_reducible rfl)
 simp only[ξ,ak,aj,ah];refine ag (v:=?_) (ζ 23) rfl (by rfl) ?_ ?_;rotate_left
 ·go_simp;(try with_reducible rfl)
 simp only[ξ,ak,aj,ah];refine ag (v:=?_) (ζ 24) rfl (by rfl) ?_ ?_;rotate_left
 ·go_simp;(try with_reducible rfl)
 simp only[ξ,ak,aj,ah];refine bh (ζ 25) rfl (by rfl) 36 (.tmp 1) rfl g0 rfl 36 (aa o) _ hJ.out Tryz.underlying36 rfl (by kernel_rfl) ?_;simp only[ξ,ak,aj,ah];go_wp2_with fail
 clear nE
 refine(dY o _).mono ?_
 rintro e w6 ⟨rfl,dO⟩;have fE:=qh (hJ.out.bl dO);have de:=qh (af cQ.out dO);clear dO;have ri:=fE.out.cell (i:=0) rfl;have sF:=fE.out.cell (i:=3) rfl;have mP:=fE.out.cell (i:=4) rfl;go_wp2_with fail
 clear ri sF mP
 refine(bp o.s1 o.n1 _).mono ?_
 rintro e tZ ⟨rfl,dU⟩;have jo:=qh (fE.out.bl dU);have ju:=qh (af de.out dU);clear dU;have mL:=jo.out.cell (i:=0) rfl;have wj:=jo.out.cell (i:=5) rfl;have yV:=jo.out.cell (i:=6) rfl;go_wp2_with fail
 clear mL wj yV
 refine(bp o.s2 o.n2 _).mono ?_
 rintro e Xo ⟨rfl,nq⟩;have rq:=qh (jo.out.bl nq);have nt:=qh (af ju.out nq);clear nq;have tY:=rq.out.cell (i:=0) rfl;have tO:=rq.out.cell (i:=19) rfl;go_wp2;go_ret;exact⟨rfl,nt.out⟩
theorem Tz (o:cO) (h0:decide (o.k<1)=ρ) (h9:decide (8<o.k)=ρ) (h1:bB o.s o.n=τ) (h2:cV o=dk) (hk:o.k=5) (h3:bB o.s1 o.n1=τ) (h4:bB o.s2 o.n2=τ) (h5:decide (o.m<0)=τ) (w:ο):Ζ η 45 #[φ (aa o).toArray] w fun e w'=>e=.returned (J 1)∧σ w.heap.size w w':=by
 have he:η.eqGuardType η.depth 36=ρ:=by kernel_rfl
 have hq:=cg (cV o) dk;rw[bR,decide_eq_true h2] at hq;clear h2;have q3:(o.k==3)=ρ:=by rw[hk];decide
 have q5:(o.k==5)=τ:=by rw[hk];decide
 have q6:(o.k==6)=ρ:=by rw[hk];decide
 have q7:(o.k==7)=ρ:=by rw[hk];decide
 have q8:(o.k==8)=ρ:=by rw[hk];decide
 clear hk;go_enter Tryz.func45,Tryz.ntmps45;go_upto_region 1 with fail
 obtain⟨W1,a7⟩:=az (w.alloc (δ (aa o).toArray 36));have HO:Hid (Whole W1 w.heap.size 36 (aa o)):=qh (by rw[←a7];exact Whole.new_ w _ _);have HB:Hid (σ w.heap.size w W1):=qh (by rw[←a7];exact ax _ _);rw[a7];clear a7;obtain⟨g0,dx⟩:=az w.heap.size;rw[dx] at HO ⊢;clear dx;have ks:=HO.out.cell (i:=1) rfl;have ko:=HO.out.cell (i:=2) rfl;go_wp2_with fail
 clear ks ko
 refine(bp o.s o.n _).mono ?_
 rintro e w3 ⟨rfl,bw⟩;have hJ:=qh (HO.out.bl bw);have cQ:=qh (af HB.out bw);clear bw;have nE:=hJ.out.cell (i:=0) rfl;go_upto_region 2 with fail
 refine Jam ?_;refine ag (v:=?_) (ζ 12) rfl (by rfl) ?_ ?_;rotate_left
 ·go_simp;(try with_reducible rfl)
 simp only[ξ,ak,aj,ah];refine ag (v:=?_) (ζ 13) rfl (by rfl) ?_ ?_;rotate_left
 ·go_simp;(try with_reducible rfl)
 simp only[ξ,ak,aj,ah];refine ag (v:=?_) (ζ 14) rfl (by rfl) ?_ ?_;rotate_left
 ·go_simp;(try with_reducible rfl)
 simp only[ξ,ak,aj,ah];refine ag (v:=?_) (ζ 15) rfl (by rfl) ?_ ?_;rotate_left
 ·go_simp;(try with_reducible rfl)
 simp only[ξ,ak,aj,ah];refine ag (v:=?_) (ζ 16) rfl (by rfl) ?_ ?_;rotate_left
 ·go_simp;(try with_reducible rfl)
 simp only[ξ,ak,aj,ah];refine ag (v:=?_) (ζ 17) rfl (by rfl) ?_ ?_;rotate_left
 ·go_simp;(try with_reducible rfl)
 simp only[ξ,ak,aj,ah];refine ag (v:=?_) (ζ 18) rfl (by rfl) ?_ ?_;rotate_left
 ·go_simp;(try with_reducible rfl)
 simp only[ξ,ak,aj,ah];refine ag (v:=?_) (ζ 19) rfl (by rfl) ?_ ?_;rotate_left
 ·go_simp;(try with_reducible rfl)
 simp only[ξ,ak,aj,ah];refine ag (v:=?_) (ζ 20) rfl (by rfl) ?_ ?_;rotate_left
 ·go_simp;(try with_reducible rfl)
 simp only[ξ,ak,aj,ah];refine ag (v:=?_) (ζ 21) rfl (by rfl) ?_ ?_;rotate_left
 ·go_simp;(try with_reducible rfl)
 simp only[ξ,ak,aj,ah];refine ag (v:=?_) (ζ 22) rfl (by rfl) ?_ ?_;rotate_left
 ·go_simp;(try with_reducible rfl)
 simp only[ξ,ak,aj,ah];refine ag (v:=?_) (ζ 23) rfl (by rfl) ?_ ?_;rotate_left
 ·go_simp;(try with_reducible rfl)
 simp only[ξ,ak,aj,ah];refine ag (v:=?_) (ζ 24) rfl (by rfl) ?_ ?_;rotate_left
 ·go_simp;(try with_reducible rfl)
 simp only[ξ,ak,aj,ah];refine bh (ζ 25) rfl (by rfl) 36 (.tmp 1) rfl g0 rfl 36 (aa o) _ hJ.out Tryz.underlying36 rfl (by kernel_rfl) ?_;simp only[ξ,ak,aj,ah];go_wp2_with fail
 clear nE
 refine(dY o _).mono ?_
 rintro e w6 ⟨rfl,dO⟩;have fE:=qh (hJ.out.bl dO);have de:=qh (af cQ.out dO);clear dO;have ri:=fE.out.cell (i:=0) rfl;have sF:=fE.out.cell (i:=3) rfl;have mP:=fE.out.cell (i:=4) rfl;go_wp2_with fail
 clear ri sF mP
 refine(bp o.s1 o.n1 _).mono ?_
 rintro e tZ ⟨rfl,dU⟩;have jo:=qh (fE.out.bl dU);have ju:=qh (af de.out dU);clear dU;have mL:=jo.out.cell (i:=0) rfl;have wj:=jo.out.cell (i:=5) rfl;have yV:=jo.out.cell (i:=6) rfl;go_wp2_with fail
 clear mL wj yV
 refine(bp o.s2 o.n2 _).mono ?_
 rintro e Xo ⟨rfl,nq⟩;have rq:=qh (jo.out.bl nq);have nt:=qh (af ju.out nq);clear nq;have tY:=rq.out.cell (i:=0) rfl;have tO:=rq.out.cell (i:=19) rfl;go_wp2;go_ret;exact⟨rfl,nt.out⟩
theorem Wp (o:cO) (h0:decide (o.k<1)=ρ) (h9:decide (8<o.k)=ρ) (h1:bB o.s o.n=τ) (h2:cV o=dk) (hk:o.k=5) (h3:bB o.s1 o.n1=τ) (h4:bB o.s2 o.n2=τ) (h5:decide (o.m<0)=ρ) (h6:decide (3<o.m)=τ) (w:ο):Ζ η 45 #[φ (aa o).toArray] w fun e w'=>e=.returned (J 1)∧σ w.heap.size w w':=by
 have he:η.eqGuardType η.depth 36=ρ:=by kernel_rfl
 have hq:=cg (cV o) dk;rw[bR,decide_eq_true h2] at hq;clear h2;have q3:(o.k==3)=ρ:=by rw[hk];decide
 have q5:(o.k==5)=τ:=by rw[hk];decide
 have q6:(o.k==6)=ρ:=by rw[hk];decide
 have q7:(o.k==7)=ρ:=by rw[hk];decide
 have q8:(o.k==8)=ρ:=by rw[hk];decide
 clear hk;go_enter Tryz.func45,Tryz.ntmps45;go_upto_region 1 with fail
 obtain⟨W1,a7⟩:=az (w.alloc (δ (aa o).toArray 36));have HO:Hid (Whole W1 w.heap.size 36 (aa o)):=qh (by rw[←a7];exact Whole.new_ w _ _);have HB:Hid (σ w.heap.size w W1):=qh (by rw[←a7];exact ax _ _);rw[a7];clear a7;obtain⟨g0,dx⟩:=az w.heap.size;rw[dx] at HO ⊢;clear dx;have ks:=HO.out.cell (i:=1) rfl;have ko:=HO.out.cell (i:=2) rfl;go_wp2_with fail
 clear ks ko
 refine(bp o.s o.n _).mono ?_
 rintro e w3 ⟨rfl,bw⟩;have hJ:=qh (HO.out.bl bw);have cQ:=qh (af HB.out bw);clear bw;have nE:=hJ.out.cell (i:=0) rfl;go_upto_region 2 with fail
 refine Jam ?_;refine ag (v:=?_) (ζ 12) rfl (by rfl) ?_ ?_;rotate_left
 ·go_simp;(try with_reducible rfl)
 simp only[ξ,ak,aj,ah];refine ag (v:=?_) (ζ 13) rfl (by rfl) ?_ ?_;rotate_left
 ·go_simp;(try with_reducible rfl)
 simp only[ξ,ak,aj,ah];refine ag (v:=?_) (ζ 14) rfl (by rfl) ?_ ?_;rotate_left
 ·go_simp;(try with_reducible rfl)
 simp only[ξ,ak,aj,ah];refine ag (v:=?_) (ζ 15) rfl (by rfl) ?_ ?_;rotate_left
 ·go_simp;(try with_reducible rfl)
 simp only[ξ,ak,aj,ah];refine ag (v:=?_) (ζ 16) rfl (by rfl) ?_ ?_;rotate_left
 ·go_simp;(try with_reducible rfl)
 simp only[ξ,ak,aj,ah];refine ag (v:=?_) (ζ 17) rfl (by rfl) ?_ ?_;rotate_left
 ·go_simp;(try with_reducible rfl)
 simp only[ξ,ak,aj,ah];refine ag (v:=?_) (ζ 18) rfl (by rfl) ?_ ?_;rotate_left
 ·go_simp;(try with_reducible rfl)
 simp only[ξ,ak,aj,ah];refine ag (v:=?_) (ζ 19) rfl (by rfl) ?_ ?_;rotate_left
 ·go_simp;(try with_reducible rfl)
 simp only[ξ,ak,aj,ah];refine ag (v:=?_) (ζ 20) rfl (by rfl) ?_ ?_;rotate_left
 ·go_simp;(try with_reducible rfl)
 simp only[ξ,ak,aj,ah];refine ag (v:=?_) (ζ 21) rfl (by rfl) ?_ ?_;rotate_left
 ·go_simp;(try with_reducible rfl)
 simp only[ξ,ak,aj,ah];refine ag (v:=?_) (ζ 22) rfl (by rfl) ?_ ?_;rotate_left
 ·go_simp;(try with_reducible rfl)
 simp only[ξ,ak,aj,ah];refine ag (v:=?_) (ζ 23) rfl (by rfl) ?_ ?_;rotate_left
 ·go_simp;(try with_reducible rfl)
 simp only[ξ,ak,aj,ah];refine ag (v:=?_) (ζ 24) rfl (by rfl) ?_ ?_;rotate_left
 ·go_simp;(try with_reducible rfl)
 simp only[ξ,ak,aj,ah];refine bh (ζ 25) rfl (by rfl) 36 (.tmp 1) rfl g0 rfl 36 (aa o) _ hJ.out Tryz.underlying36 rfl (by kernel_rfl) ?_;simp only[ξ,ak,aj,ah];go_wp2_with fail
 clear nE
 refine(dY o _).mono ?_
 rintro e w6 ⟨rfl,dO⟩;have fE:=qh (hJ.out.bl dO);have de:=qh (af cQ.out dO);clear dO;have ri:=fE.out.cell (i:=0) rfl;have sF:=fE.out.cell (i:=3) rfl;have mP:=fE.out.cell (i:=4) rfl;go_wp2_with fail
 clear ri sF mP
 refine(bp o.s1 o.n1 _).mono ?_
 rintro e tZ ⟨rfl,dU⟩;have jo:=qh (fE.out.bl dU);have ju:=qh (af de.out dU);clear dU;have mL:=jo.out.cell (i:=0) rfl;have wj:=jo.out.cell (i:=5) rfl;have yV:=jo.out.cell (i:=6) rfl;go_wp2_with fail
 clear mL wj yV
 refine(bp o.s2 o.n2 _).mono ?_
 rintro e Xo ⟨rfl,nq⟩;have rq:=qh (jo.out.bl nq);have nt:=qh (af ju.out nq);clear nq;have tY:=rq.out.cell (i:=0) rfl;have tO:=rq.out.cell (i:=19) rfl;go_wp2;go_ret;exact⟨rfl,nt.out⟩
theorem V8 (o:cO) (h0:decide (o.k<1)=ρ) (h9:decide (8<o.k)=ρ) (h1:bB o.s o.n=τ) (h2:cV o=dk) (hk:o.k=5) (h3:bB o.s1 o.n1=τ) (h4:bB o.s2 o.n2=τ) (h5:decide (o.m<0)=ρ) (h6:decide (3<o.m)=ρ) (w:ο):Ζ η 45 #[φ (aa o).toArray] w fun e w'=>e=.returned (J 0)∧σ w.heap.size w w':=by
 have he:η.eqGuardType η.depth 36=ρ:=by kernel_rfl
 have hq:=cg (cV o) dk;rw[bR,decide_eq_true h2] at hq;clear h2;have q3:(o.k==3)=ρ:=by rw[hk];decide
 have q5:(o.k==5)=τ:=by rw[hk];decide
 have q6:(o.k==6)=ρ:=by rw[hk];decide
 have q7:(o.k==7)=ρ:=by rw[hk];decide
 have q8:(o.k==8)=ρ:=by rw[hk];decide
 clear hk;go_enter Tryz.func45,Tryz.ntmps45;go_upto_region 1 with fail
 obtain⟨W1,a7⟩:=az (w.alloc (δ (aa o).toArray 36));have HO:Hid (Whole W1 w.heap.size 36 (aa o)):=qh (by rw[←a7];exact Whole.new_ w _ _);have HB:Hid (σ w.heap.size w W1):=qh (by rw[←a7];exact ax _ _);rw[a7];clear a7;obtain⟨g0,dx⟩:=az w.heap.size;rw[dx] at HO ⊢;clear dx;have ks:=HO.out.cell (i:=1) rfl;have ko:=HO.out.cell (i:=2) rfl;go_wp2_with fail
 clear ks ko
 refine(bp o.s o.n _).mono ?_
 rintro e w3 ⟨rfl,bw⟩;have hJ:=qh (HO.out.bl bw);have cQ:=qh (af HB.out bw);clear bw;have nE:=hJ.out.cell (i:=0) rfl;go_upto_region 2 with fail
 refine Jam ?_;refine ag (v:=?_) (ζ 12) rfl (by rfl) ?_ ?_;rotate_left
 ·go_simp;(try with_reducible rfl)
 simp only[ξ,ak,aj,ah];refine ag (v:=?_) (ζ 13) rfl (by rfl) ?_ ?_;rotate_left
 ·go_simp;(try with_reducible rfl)
 simp only[ξ,ak,aj,ah];refine ag (v:=?_) (ζ 14) rfl (by rfl) ?_ ?_;rotate_left
 ·go_simp;(try with_reducible rfl)
 simp only[ξ,ak,aj,ah];refine ag (v:=?_) (ζ 15) rfl (by rfl) ?_ ?_;rotate_left
 ·go_simp;(try with_reducible rfl)
 simp only[ξ,ak,aj,ah];refine ag (v:=?_) (ζ 16) rfl (by rfl) ?_ ?_;rotate_left
 ·go_simp;(try with_reducible rfl)
 simp only[ξ,ak,aj,ah];refine ag (v:=?_) (ζ 17) rfl (by rfl) ?_ ?_;rotate_left
 ·go_simp;(try with_reducible rfl)
 simp only[ξ,ak,aj,ah];refine ag (v:=?_) (ζ 18) rfl (by rfl) ?_ ?_;rotate_left
 ·go_simp;(try with_reducible rfl)
 simp only[ξ,ak,aj,ah];refine ag (v:=?_) (ζ 19) rfl (by rfl) ?_ ?_;rotate_left
 ·go_simp;(try with_reducible rfl)
 simp only[ξ,ak,aj,ah];refine ag (v:=?_) (ζ 20) rfl (by rfl) ?_ ?_;rotate_left
 ·go_simp;(try with_reducible rfl)
 simp only[ξ,ak,aj,ah];refine ag (v:=?_) (ζ 21) rfl (by rfl) ?_ ?_;rotate_left
 ·go_simp;(try with_reducible rfl)
 simp only[ξ,ak,aj,ah];refine ag (v:=?_) (ζ 22) rfl (by rfl) ?_ ?_;rotate_left
 ·go_simp;(try with_reducible rfl)
 simp only[ξ,ak,aj,ah];refine ag (v:=?_) (ζ 23) rfl (by rfl) ?_ ?_;rotate_left
 ·go_simp;(try with_reducible rfl)
 simp only[ξ,ak,aj,ah];refine ag (v:=?_) (ζ 24) rfl (by rfl) ?_ ?_;rotate_left
 ·go_simp;(try with_reducible rfl)
 simp only[ξ,ak,aj,ah];refine bh (ζ 25) rfl (by rfl) 36 (.tmp 1) rfl g0 rfl 36 (aa o) _ hJ.out Tryz.underlying36 rfl (by kernel_rfl) ?_;simp only[ξ,ak,aj,ah];go_wp2_with fail
 clear nE
 refine(dY o _).mono ?_
 rintro e w6 ⟨rfl,dO⟩;have fE:=qh (hJ.out.bl dO);have de:=qh (af cQ.out dO);clear dO;have ri:=fE.out.cell (i:=0) rfl;have sF:=fE.out.cell (i:=3) rfl;have mP:=fE.out.cell (i:=4) rfl;go_wp2_with fail
 clear ri sF mP
 refine(bp o.s1 o.n1 _).mono ?_
 rintro e tZ ⟨rfl,dU⟩;have jo:=qh (fE.out.bl dU);have ju:=qh (af de.out dU);clear dU;have mL:=jo.out.cell (i:=0) rfl;have wj:=jo.out.cell (i:=5) rfl;have yV:=jo.out.cell (i:=6) rfl;go_wp2_with fail
 clear mL wj yV
 refine(bp o.s2 o.n2 _).mono ?_
 rintro e Xo ⟨rfl,nq⟩;have rq:=qh (jo.out.bl nq);have nt:=qh (af ju.out nq);clear nq;have tY:=rq.out.cell (i:=0) rfl;have tO:=rq.out.cell (i:=19) rfl;go_wp2;go_ret;exact⟨rfl,nt.out⟩
theorem T8 (o:cO) (h0:decide (o.k<1)=ρ) (h9:decide (8<o.k)=ρ) (h1:bB o.s o.n=τ) (h2:cV o=dk) (hk:o.k=6) (h3:bB o.s2 o.n2=ρ) (w:ο):Ζ η 45 #[φ (aa o).toArray] w fun e w'=>e=.returned (J 1)∧σ w.heap.size w w':=by
 have he:η.eqGuardType η.depth 36=ρ:=by kernel_rfl
 have hq:=cg (cV o) dk;rw[bR,decide_eq_true h2] at hq;clear h2;have q3:(o.k==3)=ρ:=by rw[hk];decide
 have q5:(o.k==5)=ρ:=by rw[hk];decide
 have q6:(o.k==6)=τ:=by rw[hk];decide
 have q7:(o.k==7)=ρ:=by rw[hk];decide
 have q8:(o.k==8)=ρ:=by rw[hk];decide
 clear hk;go_enter Tryz.func45,Tryz.ntmps45;go_upto_region 1 with fail
 obtain⟨W1,a7⟩:=az (w.alloc (δ (aa o).toArray 36));have HO:Hid (Whole W1 w.heap.size 36 (aa o)):=qh (by rw[←a7];exact Whole.new_ w _ _);have HB:Hid (σ w.heap.size w W1):=qh (by rw[←a7];exact ax _ _);rw[a7];clear a7;obtain⟨g0,dx⟩:=az w.heap.size;rw[dx] at HO ⊢;clear dx;have ks:=HO.out.cell (i:=1) rfl;have ko:=HO.out.cell (i:=2) rfl;go_wp2_with fail
 clear ks ko
 refine(bp o.s o.n _).mono ?_
 rintro e w3 ⟨rfl,bw⟩;have hJ:=qh (HO.out.bl bw);have cQ:=qh (af HB.out bw);clear bw;have nE:=hJ.out.cell (i:=0) rfl;go_upto_region 2 with fail
 refine Jam ?_;refine ag (v:=?_) (ζ 12) rfl (by rfl) ?_ ?_;rotate_left
 ·go_simp;(try with_reducible rfl)
 simp only[ξ,ak,aj,ah];refine ag (v:=?_) (ζ 13) rfl (by rfl) ?_ ?_;rotate_left
 ·go_simp;(try with_reducible rfl)
 simp only[ξ,ak,aj,ah];refine ag (v:=?_) (ζ 14) rfl (by rfl) ?_ ?_;rotate_left
 ·go_simp;(try with_reducible rfl)
 simp only[ξ,ak,aj,ah];refine ag (v:=?_) (ζ 15) rfl (by rfl) ?_ ?_;rotate_left
 ·go_simp;(try with_reducible rfl)
 simp only[ξ,ak,aj,ah];refine ag (v:=?_) (ζ 16) rfl (by rfl) ?_ ?_;rotate_left
 ·go_simp;(try with_reducible rfl)
 simp only[ξ,ak,aj,ah];refine ag (v:=?_) (ζ 17) rfl (by rfl) ?_ ?_;rotate_left
 ·go_simp;(try with_reducible rfl)
 simp only[ξ,ak,aj,ah];refine ag (v:=?_) (ζ 18) rfl (by rfl) ?_ ?_;rotate_left
 ·go_simp;(try with_reducible rfl)
 simp only[ξ,ak,aj,ah];refine ag (v:=?_) (ζ 19) rfl (by rfl) ?_ ?_;rotate_left
 ·go_simp;(try with_reducible rfl)
 simp only[ξ,ak,aj,ah];refine ag (v:=?_) (ζ 20) rfl (by rfl) ?_ ?_;rotate_left
 ·go_simp;(try with_reducible rfl)
 simp only[ξ,ak,aj,ah];refine ag (v:=?_) (ζ 21) rfl (by rfl) ?_ ?_;rotate_left
 ·go_simp;(try with_reducible rfl)
 simp only[ξ,ak,aj,ah];refine ag (v:=?_) (ζ 22) rfl (by rfl) ?_ ?_;rotate_left
 ·go_simp;(try with_reducible rfl)
 simp only[ξ,ak,aj,ah];refine ag (v:=?_) (ζ 23) rfl (by rfl) ?_ ?_;rotate_left
 ·go_simp;(try with_reducible rfl)
 simp only[ξ,ak,aj,ah];refine ag (v:=?_) (ζ 24) rfl (by rfl) ?_ ?_;rotate_left
 ·go_simp;(try with_reducible rfl)
 simp only[ξ,ak,aj,ah];refine bh (ζ 25) rfl (by rfl) 36 (.tmp 1) rfl g0 rfl 36 (aa o) _ hJ.out Tryz.underlying36 rfl (by kernel_rfl) ?_;simp only[ξ,ak,aj,ah];go_wp2_with fail
 clear nE
 refine(dY o _).mono ?_
 rintro e w6 ⟨rfl,dO⟩;have fE:=qh (hJ.out.bl dO);have de:=qh (af cQ.out dO);clear dO;have ri:=fE.out.cell (i:=0) rfl;have sF:=fE.out.cell (i:=5) rfl;have mP:=fE.out.cell (i:=6) rfl;go_wp2_with fail
 clear ri sF mP
 refine(bp o.s2 o.n2 _).mono ?_
 rintro e tZ ⟨rfl,dU⟩;have jo:=qh (fE.out.bl dU);have ju:=qh (af de.out dU);clear dU;have mL:=jo.out.cell (i:=0) rfl;go_wp2;go_ret;exact⟨rfl,ju.out⟩
theorem VQ (o:cO) (h0:decide (o.k<1)=ρ) (h9:decide (8<o.k)=ρ) (h1:bB o.s o.n=τ) (h2:cV o=dk) (hk:o.k=6) (h3:bB o.s2 o.n2=τ) (w:ο):Ζ η 45 #[φ (aa o).toArray] w fun e w'=>e=.returned (J 0)∧σ w.heap.size w w':=by
 have he:η.eqGuardType η.depth 36=ρ:=by kernel_rfl
 have hq:=cg (cV o) dk;rw[bR,decide_eq_true h2] at hq;clear h2;have q3:(o.k==3)=ρ:=by rw[hk];decide
 have q5:(o.k==5)=ρ:=by rw[hk];decide
 have q6:(o.k==6)=τ:=by rw[hk];decide
 have q7:(o.k==7)=ρ:=by rw[hk];decide
 have q8:(o.k==8)=ρ:=by rw[hk];decide
 clear hk;go_enter Tryz.func45,Tryz.ntmps45;go_upto_region 1 with fail
 obtain⟨W1,a7⟩:=az (w.alloc (δ (aa o).toArray 36));have HO:Hid (Whole W1 w.heap.size 36 (aa o)):=qh (by rw[←a7];exact Whole.new_ w _ _);have HB:Hid (σ w.heap.size w W1):=qh (by rw[←a7];exact ax _ _);rw[a7];clear a7;obtain⟨g0,dx⟩:=az w.heap.size;rw[dx] at HO ⊢;clear dx;have ks:=HO.out.cell (i:=1) rfl;have ko:=HO.out.cell (i:=2) rfl;go_wp2_with fail
 clear ks ko
 refine(bp o.s o.n _).mono ?_
 rintro e w3 ⟨rfl,bw⟩;have hJ:=qh (HO.out.bl bw);have cQ:=qh (af HB.out bw);clear bw;have nE:=hJ.out.cell (i:=0) rfl;go_upto_region 2 with fail
 refine Jam ?_;refine ag (v:=?_) (ζ 12) rfl (by rfl) ?_ ?_;rotate_left
 ·go_simp;(try with_reducible rfl)
 simp only[ξ,ak,aj,ah];refine ag (v:=?_) (ζ 13) rfl (by rfl) ?_ ?_;rotate_left
 ·go_simp;(try with_reducible rfl)
 simp only[ξ,ak,aj,ah];refine ag (v:=?_) (ζ 14) rfl (by rfl) ?_ ?_;rotate_left
 ·go_simp;(try with_reducible rfl)
 simp only[ξ,ak,aj,ah];refine ag (v:=?_) (ζ 15) rfl (by rfl) ?_ ?_;rotate_left
 ·go_simp;(try with_reducible rfl)
 simp only[ξ,ak,aj,ah];refine ag (v:=?_) (ζ 16) rfl (by rfl) ?_ ?_;rotate_left
 ·go_simp;(try with_reducible rfl)
 simp only[ξ,ak,aj,ah];refine ag (v:=?_) (ζ 17) rfl (by rfl) ?_ ?_;rotate_left
 ·go_simp;(try with_reducible rfl)
 simp only[ξ,ak,aj,ah];refine ag (v:=?_) (ζ 18) rfl (by rfl) ?_ ?_;rotate_left
 ·go_simp;(try with_reducible rfl)
 simp only[ξ,ak,aj,ah];refine ag (v:=?_) (ζ 19) rfl (by rfl) ?_ ?_;rotate_left
 ·go_simp;(try with_reducible rfl)
 simp only[ξ,ak,aj,ah];refine ag (v:=?_) (ζ 20) rfl (by rfl) ?_ ?_;rotate_left
 ·go_simp;(try with_reducible rfl)
 simp only[ξ,ak,aj,ah];refine ag (v:=?_) (ζ 21) rfl (by rfl) ?_ ?_;rotate_left
 ·go_simp;(try with_reducible rfl)
 simp only[ξ,ak,aj,ah];refine ag (v:=?_) (ζ 22) rfl (by rfl) ?_ ?_;rotate_left
 ·go_simp;(try with_reducible rfl)
 simp only[ξ,ak,aj,ah];refine ag (v:=?_) (ζ 23) rfl (by rfl) ?_ ?_;rotate_left
 ·go_simp;(try with_reducible rfl)
 simp only[ξ,ak,aj,ah];refine ag (v:=?_) (ζ 24) rfl (by rfl) ?_ ?_;rotate_left
 ·go_simp;(try with_reducible rfl)
 simp only[ξ,ak,aj,ah];refine bh (ζ 25) rfl (by rfl) 36 (.tmp 1) rfl g0 rfl 36 (aa o) _ hJ.out Tryz.underlying36 rfl (by kernel_rfl) ?_;simp only[ξ,ak,aj,ah];go_wp2_with fail
 clear nE
 refine(dY o _).mono ?_
 rintro e w6 ⟨rfl,dO⟩;have fE:=qh (hJ.out.bl dO);have de:=qh (af cQ.out dO);clear dO;have ri:=fE.out.cell (i:=0) rfl;have sF:=fE.out.cell (i:=5) rfl;have mP:=fE.out.cell (i:=6) rfl;go_wp2_with fail
 clear ri sF mP
 refine(bp o.s2 o.n2 _).mono ?_
 rintro e tZ ⟨rfl,dU⟩;have jo:=qh (fE.out.bl dU);have ju:=qh (af de.out dU);clear dU;have mL:=jo.out.cell (i:=0) rfl;go_wp2;go_ret;exact⟨rfl,ju.out⟩
theorem Vn (o:cO) (h0:decide (o.k<1)=ρ) (h9:decide (8<o.k)=ρ) (h1:bB o.s o.n=τ) (h2:cV o=dk) (hk:o.k=8) (h3:oI o.m=ρ) (w:ο):Ζ η 45 #[φ (aa o).toArray] w fun e w'=>e=.returned (J 1)∧σ w.heap.size w w':=by
 have he:η.eqGuardType η.depth 36=ρ:=by kernel_rfl
 have hq:=cg (cV o) dk;rw[bR,decide_eq_true h2] at hq;clear h2;have q3:(o.k==3)=ρ:=by rw[hk];decide
 have q5:(o.k==5)=ρ:=by rw[hk];decide
 have q6:(o.k==6)=ρ:=by rw[hk];decide
 have q7:(o.k==7)=ρ:=by rw[hk];decide
 have q8:(o.k==8)=τ:=by rw[hk];decide
 clear hk;go_enter Tryz.func45,Tryz.ntmps45;go_upto_region 1 with fail
 obtain⟨W1,a7⟩:=az (w.alloc (δ (aa o).toArray 36));have HO:Hid (Whole W1 w.heap.size 36 (aa o)):=qh (by rw[←a7];exact Whole.new_ w _ _);have HB:Hid (σ w.heap.size w W1):=qh (by rw[←a7];exact ax _ _);rw[a7];clear a7;obtain⟨g0,dx⟩:=az w.heap.size;rw[dx] at HO ⊢;clear dx;have ks:=HO.out.cell (i:=1) rfl;have ko:=HO.out.cell (i:=2) rfl;go_wp2_with fail
 clear ks ko
 refine(bp o.s o.n _).mono ?_
 rintro e w3 ⟨rfl,bw⟩;have hJ:=qh (HO.out.bl bw);have cQ:=qh (af HB.out bw);clear bw;have nE:=hJ.out.cell (i:=0) rfl;go_upto_region 2 with fail
 refine Jam ?_;refine ag (v:=?_) (ζ 12) rfl (by rfl) ?_ ?_;rotate_left
 ·go_simp;(try with_reducible rfl)
 simp only[ξ,ak,aj,ah];refine ag (v:=?_) (ζ 13) rfl (by rfl) ?_ ?_;rotate_left
 ·go_simp;(try with_reducible rfl)
 simp only[ξ,ak,aj,ah];refine ag (v:=?_) (ζ 14) rfl (by rfl) ?_ ?_;rotate_left
 ·go_simp;(try with_reducible rfl)
 simp only[ξ,ak,aj,ah];refine ag (v:=?_) (ζ 15) rfl (by rfl) ?_ ?_;rotate_left
 ·go_simp;(try with_reducible rfl)
 simp only[ξ,ak,aj,ah];refine ag (v:=?_) (ζ 16) rfl (by rfl) ?_ ?_;rotate_left
 ·go_simp;(try with_reducible rfl)
 simp only[ξ,ak,aj,ah];refine ag (v:=?_) (ζ 17) rfl (by rfl) ?_ ?_;rotate_left
 ·go_simp;(try with_reducible rfl)
 simp only[ξ,ak,aj,ah];refine ag (v:=?_) (ζ 18) rfl (by rfl) ?_ ?_;rotate_left
 ·go_simp;(try with_reducible rfl)
 simp only[ξ,ak,aj,ah];refine ag (v:=?_) (ζ 19) rfl (by rfl) ?_ ?_;rotate_left
 ·go_simp;(try with_reducible rfl)
 simp only[ξ,ak,aj,ah];refine ag (v:=?_) (ζ 20) rfl (by rfl) ?_ ?_;rotate_left
 ·go_simp;(try with_reducible rfl)
 simp only[ξ,ak,aj,ah];refine ag (v:=?_) (ζ 21) rfl (by rfl) ?_ ?_;rotate_left
 ·go_simp;(try with_reducible rfl)
 simp only[ξ,ak,aj,ah];refine ag (v:=?_) (ζ 22) rfl (by rfl) ?_ ?_;rotate_left
 ·go_simp;(try with_reducible rfl)
 simp only[ξ,ak,aj,ah];refine ag (v:=?_) (ζ 23) rfl (by rfl) ?_ ?_;rotate_left
 ·go_simp;(try with_reducible rfl)
 simp only[ξ,ak,aj,ah];refine ag (v:=?_) (ζ 24) rfl (by rfl) ?_ ?_;rotate_left
 ·go_simp;(try with_reducible rfl)
 simp only[ξ,ak,aj,ah];refine bh (ζ 25) rfl (by rfl) 36 (.tmp 1) rfl g0 rfl 36 (aa o) _ hJ.out Tryz.underlying36 rfl (by kernel_rfl) ?_;simp only[ξ,ak,aj,ah];go_wp2_with fail
 clear nE
 refine(dY o _).mono ?_
 rintro e w6 ⟨rfl,dO⟩;have fE:=qh (hJ.out.bl dO);have de:=qh (af cQ.out dO);clear dO;have ri:=fE.out.cell (i:=0) rfl;have sF:=fE.out.cell (i:=19) rfl;go_wp2_with fail
 clear ri sF
 refine(pX o.m _).mono ?_
 rintro e vG ⟨rfl,fF⟩;have DW:=qh (fE.out.bl fF);have lO:=qh (af de.out fF);clear fF;have vu:=DW.out.cell (i:=0) rfl;go_wp2;go_ret;exact⟨rfl,lO.out⟩
theorem Wy (o:cO) (h0:decide (o.k<1)=ρ) (h9:decide (8<o.k)=ρ) (h1:bB o.s o.n=τ) (h2:cV o=dk) (hk:o.k=8) (h3:oI o.m=τ) (w:ο):Ζ η 45 #[φ (aa o).toArray] w fun e w'=>e=.returned (J 0)∧σ w.heap.size w w':=by
 have he:η.eqGuardType η.depth 36=ρ:=by kernel_rfl
 have hq:=cg (cV o) dk;rw[bR,decide_eq_true h2] at hq;clear h2;have q3:(o.k==3)=ρ:=by rw[hk];decide
 have q5:(o.k==5)=ρ:=by rw[hk];decide
 have q6:(o.k==6)=ρ:=by rw[hk];decide
 have q7:(o.k==7)=ρ:=by rw[hk];decide
 have q8:(o.k==8)=τ:=by rw[hk];decide
 clear hk;go_enter Tryz.func45,Tryz.ntmps45;go_upto_region 1 with fail
 obtain⟨W1,a7⟩:=az (w.alloc (δ (aa o).toArray 36));have HO:Hid (Whole W1 w.heap.size 36 (aa o)):=qh (by rw[←a7];exact Whole.new_ w _ _);have HB:Hid (σ w.heap.size w W1):=qh (by rw[←a7];exact ax _ _);rw[a7];clear a7;obtain⟨g0,dx⟩:=az w.heap.size;rw[dx] at HO ⊢;clear dx;have ks:=HO.out.cell (i:=1) rfl;have ko:=HO.out.cell (i:=2) rfl;go_wp2_with fail
 clear ks ko
 refine(bp o.s o.n _).mono ?_
 rintro e w3 ⟨rfl,bw⟩;have hJ:=qh (HO.out.bl bw);have cQ:=qh (af HB.out bw);clear bw;have nE:=hJ.out.cell (i:=0) rfl;go_upto_region 2 with fail
 refine Jam ?_;refine ag (v:=?_) (ζ 12) rfl (by rfl) ?_ ?_;rotate_left
 ·go_simp;(try with_reducible rfl)
 simp only[ξ,ak,aj,ah];refine ag (v:=?_) (ζ 13) rfl (by rfl) ?_ ?_;rotate_left
 ·go_simp;(try with_reducible rfl)
 simp only[ξ,ak,aj,ah];refine ag (v:=?_) (ζ 14) rfl (by rfl) ?_ ?_;rotate_left
 ·go_simp;(try with_reducible rfl)
 simp only[ξ,ak,aj,ah];refine ag (v:=?_) (ζ 15) rfl (by rfl) ?_ ?_;rotate_left
 ·go_simp;(try with_reducible rfl)
 simp only[ξ,ak,aj,ah];refine ag (v:=?_) (ζ 16) rfl (by rfl) ?_ ?_;rotate_left
 ·go_simp;(try with_reducible rfl)
 simp only[ξ,ak,aj,ah];refine ag (v:=?_) (ζ 17) rfl (by rfl) ?_ ?_;rotate_left
 ·go_simp;(try with_reducible rfl)
 simp only[ξ,ak,aj,ah];refine ag (v:=?_) (ζ 18) rfl (by rfl) ?_ ?_;rotate_left
 ·go_simp;(try with_reducible rfl)
 simp only[ξ,ak,aj,ah];refine ag (v:=?_) (ζ 19) rfl (by rfl) ?_ ?_;rotate_left
 ·go_simp;(try with_reducible rfl)
 simp only[ξ,ak,aj,ah];refine ag (v:=?_) (ζ 20) rfl (by rfl) ?_ ?_;rotate_left
 ·go_simp;(try with_reducible rfl)
 simp only[ξ,ak,aj,ah];refine ag (v:=?_) (ζ 21) rfl (by rfl) ?_ ?_;rotate_left
 ·go_simp;(try with_reducible rfl)
 simp only[ξ,ak,aj,ah];refine ag (v:=?_) (ζ 22) rfl (by rfl) ?_ ?_;rotate_left
 ·go_simp;(try with_reducible rfl)
 simp only[ξ,ak,aj,ah];refine ag (v:=?_) (ζ 23) rfl (by rfl) ?_ ?_;rotate_left
 ·go_simp;(try with_reducible rfl)
 simp only[ξ,ak,aj,ah];refine ag (v:=?_) (ζ 24) rfl (by rfl) ?_ ?_;rotate_left
 ·go_simp;(try with_reducible rfl)
 simp only[ξ,ak,aj,ah];refine bh (ζ 25) rfl (by rfl) 36 (.tmp 1) rfl g0 rfl 36 (aa o) _ hJ.out Tryz.underlying36 rfl (by kernel_rfl) ?_;simp only[ξ,ak,aj,ah];go_wp2_with fail
 clear nE
 refine(dY o _).mono ?_
 rintro e w6 ⟨rfl,dO⟩;have fE:=qh (hJ.out.bl dO);have de:=qh (af cQ.out dO);clear dO;have ri:=fE.out.cell (i:=0) rfl;have sF:=fE.out.cell (i:=19) rfl;go_wp2_with fail
 clear ri sF
 refine(pX o.m _).mono ?_
 rintro e vG ⟨rfl,fF⟩;have DW:=qh (fE.out.bl fF);have lO:=qh (af de.out fF);clear fF;have vu:=DW.out.cell (i:=0) rfl;go_wp2;go_ret;exact⟨rfl,lO.out⟩
theorem Vx (o:cO) (h0:decide (o.k<1)=ρ) (h9:decide (8<o.k)=ρ) (h1:bB o.s o.n=τ) (h2:cV o=dk) (hk:o.k=7) (ht:Hid (o.t.size≤maxLen)) (h3:dv o.t=ρ) (w:ο):Ζ η 45 #[φ (aa o).toArray] w fun e w'=>e=.returned (J 4)∧σ w.heap.size w w':=by
 have he:η.eqGuardType η.depth 36=ρ:=by kernel_rfl
 have hq:=cg (cV o) dk;rw[bR,decide_eq_true h2] at hq;clear h2;have q3:(o.k==3)=ρ:=by rw[hk];decide
 have q5:(o.k==5)=ρ:=by rw[hk];decide
 have q6:(o.k==6)=ρ:=by rw[hk];decide
 have q7:(o.k==7)=τ:=by rw[hk];decide
 have q8:(o.k==8)=ρ:=by rw[hk];decide
 clear hk;go_enter Tryz.func45,Tryz.ntmps45;go_upto_region 1 with fail
 obtain⟨W1,a7⟩:=az (w.alloc (δ (aa o).toArray 36));have HO:Hid (Whole W1 w.heap.size 36 (aa o)):=qh (by rw[←a7];exact Whole.new_ w _ _);have HB:Hid (σ w.heap.size w W1):=qh (by rw[←a7];exact ax _ _);rw[a7];clear a7;obtain⟨g0,dx⟩:=az w.heap.size;rw[dx] at HO ⊢;clear dx;have ks:=HO.out.cell (i:=1) rfl;have ko:=HO.out.cell (i:=2) rfl;go_wp2_with fail
 clear ks ko
 refine(bp o.s o.n _).mono ?_
 rintro e w3 ⟨rfl,bw⟩;have hJ:=qh (HO.out.bl bw);have cQ:=qh (af HB.out bw);clear bw;have nE:=hJ.out.cell (i:=0) rfl;go_upto_region 2 with fail
 refine Jam ?_;refine ag (v:=?_) (ζ 12) rfl (by rfl) ?_ ?_;rotate_left
 ·go_simp;(try with_reducible rfl)
 simp only[ξ,ak,aj,ah];refine ag (v:=?_) (ζ 13) rfl (by rfl) ?_ ?_;rotate_left
 ·go_simp;(try with_reducible rfl)
 simp only[ξ,ak,aj,ah];refine ag (v:=?_) (ζ 14) rfl (by rfl) ?_ ?_;rotate_left
 ·go_simp;(try with_reducible rfl)
 simp only[ξ,ak,aj,ah];refine ag (v:=?_) (ζ 15) rfl (by rfl) ?_ ?_;rotate_left
 ·go_simp;(try with_reducible rfl)
 simp only[ξ,ak,aj,ah];refine ag (v:=?_) (ζ 16) rfl (by rfl) ?_ ?_;rotate_left
 ·go_simp;(try with_reducible rfl)
 simp only[ξ,ak,aj,ah];refine ag (v:=?_) (ζ 17) rfl (by rfl) ?_ ?_;rotate_left
 ·go_simp;(try with_reducible rfl)
 simp only[ξ,ak,aj,ah];refine ag (v:=?_) (ζ 18) rfl (by rfl) ?_ ?_;rotate_left
 ·go_simp;(try with_reducible rfl)
 simp only[ξ,ak,aj,ah];refine ag (v:=?_) (ζ 19) rfl (by rfl) ?_ ?_;rotate_left
 ·go_simp;(try with_reducible rfl)
 simp only[ξ,ak,aj,ah];refine ag (v:=?_) (ζ 20) rfl (by rfl) ?_ ?_;rotate_left
 ·go_simp;(try with_reducible rfl)
 simp only[ξ,ak,aj,ah];refine ag (v:=?_) (ζ 21) rfl (by rfl) ?_ ?_;rotate_left
 ·go_simp;(try with_reducible rfl)
 simp only[ξ,ak,aj,ah];refine ag (v:=?_) (ζ 22) rfl (by rfl) ?_ ?_;rotate_left
 ·go_simp;(try with_reducible rfl)
 simp only[ξ,ak,aj,ah];refine ag (v:=?_) (ζ 23) rfl (by rfl) ?_ ?_;rotate_left
 ·go_simp;(try with_reducible rfl)
 simp only[ξ,ak,aj,ah];refine ag (v:=?_) (ζ 24) rfl (by rfl) ?_ ?_;rotate_left
 ·go_simp;(try with_reducible rfl)
 simp only[ξ,ak,aj,ah];refine bh (ζ 25) rfl (by rfl) 36 (.tmp 1) rfl g0 rfl 36 (aa o) _ hJ.out Tryz.underlying36 rfl (by kernel_rfl) ?_;simp only[ξ,ak,aj,ah];go_wp2_with fail
 clear nE
 refine(dY o _).mono ?_
 rintro e w6 ⟨rfl,dO⟩;have fE:=qh (hJ.out.bl dO);have de:=qh (af cQ.out dO);clear dO;have ri:=fE.out.cell (i:=0) rfl;have sF:=fE.out.cell (i:=18) rfl;go_wp2_with fail
 clear ri sF
 refine(p5 o.t ht.out _).mono ?_
 rintro e vG ⟨rfl,fF⟩;have DW:=qh (fE.out.bl fF);have lO:=qh (af de.out fF);clear fF;have vu:=DW.out.cell (i:=0) rfl;go_wp2;go_ret;exact⟨rfl,lO.out⟩
theorem To (o:cO) (h0:decide (o.k<1)=ρ) (h9:decide (8<o.k)=ρ) (h1:bB o.s o.n=τ) (h2:cV o=dk) (hk:o.k=7) (ht:Hid (o.t.size≤maxLen)) (h3:dv o.t=τ) (w:ο):Ζ η 45 #[φ (aa o).toArray] w fun e w'=>e=.returned (J 0)∧σ w.heap.size w w':=by
 have he:η.eqGuardType η.depth 36=ρ:=by kernel_rfl
 have hq:=cg (cV o) dk;rw[bR,decide_eq_true h2] at hq;clear h2;have q3:(o.k==3)=ρ:=by rw[hk];decide
 have q5:(o.k==5)=ρ:=by rw[hk];decide
 have q6:(o.k==6)=ρ:=by rw[hk];decide
 have q7:(o.k==7)=τ:=by rw[hk];decide
 have q8:(o.k==8)=ρ:=by rw[hk];decide
 clear hk;go_enter Tryz.func45,Tryz.ntmps45;go_upto_region 1 with fail
 obtain⟨W1,a7⟩:=az (w.alloc (δ (aa o).toArray 36));have HO:Hid (Whole W1 w.heap.size 36 (aa o)):=qh (by rw[←a7];exact Whole.new_ w _ _);have HB:Hid (σ w.heap.size w W1):=qh (by rw[←a7];exact ax _ _);rw[a7];clear a7;obtain⟨g0,dx⟩:=az w.heap.size;rw[dx] at HO ⊢;clear dx;have ks:=HO.out.cell (i:=1) rfl;have ko:=HO.out.cell (i:=2) rfl;go_wp2_with fail
 clear ks ko
 refine(bp o.s o.n _).mono ?_
 rintro e w3 ⟨rfl,bw⟩;have hJ:=qh (HO.out.bl bw);have cQ:=qh (af HB.out bw);clear bw;have nE:=hJ.out.cell (i:=0) rfl;go_upto_region 2 with fail
 refine Jam ?_;refine ag (v:=?_) (ζ 12) rfl (by rfl) ?_ ?_;rotate_left
 ·go_simp;(try with_reducible rfl)
 simp only[ξ,ak,aj,ah];refine ag (v:=?_) (ζ 13) rfl (by rfl) ?_ ?_;rotate_left
 ·go_simp;(try with_reducible rfl)
 simp only[ξ,ak,aj,ah];refine ag (v:=?_) (ζ 14) rfl (by rfl) ?_ ?_;rotate_left
 ·go_simp;(try with_reducible rfl)
 simp only[ξ,ak,aj,ah];refine ag (v:=?_) (ζ 15) rfl (by rfl) ?_ ?_;rotate_left
 ·go_simp;(try with_reducible rfl)
 simp only[ξ,ak,aj,ah];refine ag (v:=?_) (ζ 16) rfl (by rfl) ?_ ?_;rotate_left
 ·go_simp;(try with_reducible rfl)
 simp only[ξ,ak,aj,ah];refine ag (v:=?_) (ζ 17) rfl (by rfl) ?_ ?_;rotate_left
 ·go_simp;(try with_reducible rfl)
 simp only[ξ,ak,aj,ah];refine ag (v:=?_) (ζ 18) rfl (by rfl) ?_ ?_;rotate_left
 ·go_simp;(try with_reducible rfl)
 simp only[ξ,ak,aj,ah];refine ag (v:=?_) (ζ 19) rfl (by rfl) ?_ ?_;rotate_left
 ·go_simp;(try with_reducible rfl)
 simp only[ξ,ak,aj,ah];refine ag (v:=?_) (ζ 20) rfl (by rfl) ?_ ?_;rotate_left
 ·go_simp;(try with_reducible rfl)
 simp only[ξ,ak,aj,ah];refine ag (v:=?_) (ζ 21) rfl (by rfl) ?_ ?_;rotate_left
 ·go_simp;(try with_reducible rfl)
 simp only[ξ,ak,aj,ah];refine ag (v:=?_) (ζ 22) rfl (by rfl) ?_ ?_;rotate_left
 ·go_simp;(try with_reducible rfl)
 simp only[ξ,ak,aj,ah];refine ag (v:=?_) (ζ 23) rfl (by rfl) ?_ ?_;rotate_left
 ·go_simp;(try with_reducible rfl)
 simp only[ξ,ak,aj,ah];refine ag (v:=?_) (ζ 24) rfl (by rfl) ?_ ?_;rotate_left
 ·go_simp;(try with_reducible rfl)
 simp only[ξ,ak,aj,ah];refine bh (ζ 25) rfl (by rfl) 36 (.tmp 1) rfl g0 rfl 36 (aa o) _ hJ.out Tryz.underlying36 rfl (by kernel_rfl) ?_;simp only[ξ,ak,aj,ah];go_wp2_with fail
 clear nE
 refine(dY o _).mono ?_
 rintro e w6 ⟨rfl,dO⟩;have fE:=qh (hJ.out.bl dO);have de:=qh (af cQ.out dO);clear dO;have ri:=fE.out.cell (i:=0) rfl;have sF:=fE.out.cell (i:=18) rfl;go_wp2_with fail
 clear ri sF
 refine(p5 o.t ht.out _).mono ?_
 rintro e vG ⟨rfl,fF⟩;have DW:=qh (fE.out.bl fF);have lO:=qh (af de.out fF);clear fF;have vu:=DW.out.cell (i:=0) rfl;go_wp2;go_ret;exact⟨rfl,lO.out⟩
theorem Ve (o:cO) (h0:decide (o.k<1)=ρ) (h9:decide (8<o.k)=ρ) (h1:bB o.s o.n=τ) (h2:cV o=dk) (q3:(o.k==3)=ρ) (q5:(o.k==5)=ρ) (q6:(o.k==6)=ρ) (q7:(o.k==7)=ρ) (q8:(o.k==8)=ρ) (w:ο):Ζ η 45 #[φ (aa o).toArray] w fun e w'=>e=.returned (J 0)∧σ w.heap.size w w':=by
 have he:η.eqGuardType η.depth 36=ρ:=by kernel_rfl
 have hq:=cg (cV o) dk;rw[bR,decide_eq_true h2] at hq;clear h2;go_enter Tryz.func45,Tryz.ntmps45;go_upto_region 1 with fail
 obtain⟨W1,a7⟩:=az (w.alloc (δ (aa o).toArray 36));have HO:Hid (Whole W1 w.heap.size 36 (aa o)):=qh (by rw[←a7];exact Whole.new_ w _ _);have HB:Hid (σ w.heap.size w W1):=qh (by rw[←a7];exact ax _ _);rw[a7];clear a7;obtain⟨g0,dx⟩:=az w.heap.size;rw[dx] at HO ⊢;clear dx;have ks:=HO.out.cell (i:=1) rfl;have ko:=HO.out.cell (i:=2) rfl;go_wp2_with fail
 clear ks ko
 refine(bp o.s o.n _).mono ?_
 rintro e w3 ⟨rfl,bw⟩;have hJ:=qh (HO.out.bl bw);have cQ:=qh (af HB.out bw);clear bw;have nE:=hJ.out.cell (i:=0) rfl;go_upto_region 2 with fail
 refine Jam ?_;refine ag (v:=?_) (ζ 12) rfl (by rfl) ?_ ?_;rotate_left
 ·go_simp;(try with_reducible rfl)
 simp only[ξ,ak,aj,ah];refine ag (v:=?_) (ζ 13) rfl (by rfl) ?_ ?_;rotate_left
 ·go_simp;(try with_reducible rfl)
 simp only[ξ,ak,aj,ah];refine ag (v:=?_) (ζ 14) rfl (by rfl) ?_ ?_;rotate_left
 ·go_simp;(try with_reducible rfl)
 simp only[ξ,ak,aj,ah];refine ag (v:=?_) (ζ 15) rfl (by rfl) ?_ ?_;rotate_left
 ·go_simp;(try with_reducible rfl)
 simp only[ξ,ak,aj,ah];refine ag (v:=?_) (ζ 16) rfl (by rfl) ?_ ?_;rotate_left
 ·go_simp;(try with_reducible rfl)
 simp only[ξ,ak,aj,ah];refine ag (v:=?_) (ζ 17) rfl (by rfl) ?_ ?_;rotate_left
 ·go_simp;(try with_reducible rfl)
 simp only[ξ,ak,aj,ah];refine ag (v:=?_) (ζ 18) rfl (by rfl) ?_ ?_;rotate_left
 ·go_simp;(try with_reducible rfl)
 simp only[ξ,ak,aj,ah];refine ag (v:=?_) (ζ 19) rfl (by rfl) ?_ ?_;rotate_left
 ·go_simp;(try with_reducible rfl)
 simp only[ξ,ak,aj,ah];refine ag (v:=?_) (ζ 20) rfl (by rfl) ?_ ?_;rotate_left
 ·go_simp;(try with_reducible rfl)
 simp only[ξ,ak,aj,ah];refine ag (v:=?_) (ζ 21) rfl (by rfl) ?_ ?_;rotate_left
 ·go_simp;(try with_reducible rfl)
 simp only[ξ,ak,aj,ah];refine ag (v:=?_) (ζ 22) rfl (by rfl) ?_ ?_;rotate_left
 ·go_simp;(try with_reducible rfl)
 simp only[ξ,ak,aj,ah];refine ag (v:=?_) (ζ 23) rfl (by rfl) ?_ ?_;rotate_left
 ·go_simp;(try with_reducible rfl)
 simp only[ξ,ak,aj,ah];refine ag (v:=?_) (ζ 24) rfl (by rfl) ?_ ?_;rotate_left
 ·go_simp;(try with_reducible rfl)
 simp only[ξ,ak,aj,ah];refine bh (ζ 25) rfl (by rfl) 36 (.tmp 1) rfl g0 rfl 36 (aa o) _ hJ.out Tryz.underlying36 rfl (by kernel_rfl) ?_;simp only[ξ,ak,aj,ah];go_wp2_with fail
 clear nE
 refine(dY o _).mono ?_
 rintro e w6 ⟨rfl,dO⟩;have fE:=qh (hJ.out.bl dO);have de:=qh (af cQ.out dO);clear dO;have ri:=fE.out.cell (i:=0) rfl;go_wp2;go_ret;exact⟨rfl,de.out⟩
end Go.Proofs.YtpdpbfmiahjiiaaGreat
