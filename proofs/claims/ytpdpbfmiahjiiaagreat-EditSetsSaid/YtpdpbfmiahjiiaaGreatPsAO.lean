/- Several texts in one. -/
import Derived.Test.YtpdpbfmiahjiiaaGreatPsAA
import Derived.Test.YtpdpbfmiahjiiaaGreatPsAB
import Derived.Test.YtpdpbfmiahjiiaaGreatPsAK
import Derived.Test.YtpdpbfmiahjiiaaGreatPsAN
set_option linter.unusedSectionVars false
set_option linter.unusedSimpArgs false
set_option linter.unusedVariables false
set_option maxRecDepth 100000
set_option maxHeartbeats 16000000
namespace Go.Proofs.YtpdpbfmiahjiiaaGreat
open Go.RowKit
open _root_.Go.Obj renaming cells→δ
open _root_.Option renaming some→ζ
open _root_.Go.Proofs.Tryz renaming prog→η
open _root_.Go.Act renaming put→ξ
open _root_.Go renaming World→ο,Calls→Ζ,wp_region_lit→Jam
open _root_.Bool renaming false→ρ,true→τ
open _root_.Go.RowKit renaming Below→σ
open _root_.Go.Value renaming agg→φ
open _root_.Go.RowKit.Below renaming refl→Θ
theorem rmayattr_anyO (n:Int):Pure 38 #[J n] (.bool (Hi n)):=fun w=>by
 unfold Hi
 by_cases h1:-1099511627776≤n
 ·by_cases h2:n≤1099511627776
  ·rw[decide_eq_true ⟨h1,h2⟩];go_enter Tryz.func38,Tryz.ntmps38;go_wp2;go_ret;exact⟨rfl,Θ _ _⟩
  ·rw[decide_eq_false (fun h=>h2 h.2)];go_enter Tryz.func38,Tryz.ntmps38;go_wp2;go_ret;exact⟨rfl,Θ _ _⟩
 ·rw[decide_eq_false (fun h=>h1 h.1)];go_enter Tryz.func38,Tryz.ntmps38;go_wp2;go_ret;exact⟨rfl,Θ _ _⟩
theorem rcorner_any (a0 a1 a2 a3 a4:Int):Pure 70 #[φ #[J a0,J a1,J a2,J a3,J a4]] (.bool (Jn a0 a1 a2 a3 a4)):=fun w=>by
 unfold Jn;have hq:=Bk a2 a3 a4;have HM:=qh (NJ a0 a1);have HD:=qh (rmaydart_any a2 a3 a4)
 by_cases hz:a2=0∧a3=0∧a4=0
 all_goals
  first|rw[decide_eq_true hz] at hq ⊢|rw[decide_eq_false hz] at hq ⊢
  obtain⟨V,gV⟩:=aB (dK a0 a1);obtain⟨D,gD⟩:=aB (Uy a2 a3 a4);rw[gV] at HM ⊢;rw[gD] at HD ⊢;clear gV gD hz;cases V<;>cases D
  all_goals
   go_enter Tryz.func70,Tryz.ntmps70
   go_wp2_with (first
    |(go_at_call 28;refine(HM.out _).mono ?_;rintro e w' ⟨rfl,hb⟩;obtain⟨hc,hf⟩:=ew hb;have ly:w.heap.size<w'.heap.size:=by have:=hb.size;simp at this;omega)
    |(go_at_call 97;refine(HD.out _).mono ?_;rintro e bW ⟨rfl,aP⟩;obtain⟨qB,Fy⟩:=ew aP))
   go_ret;exact⟨by simp,(bc hb).trans (aP.mono (bc hb).size)⟩
def zeroO:dR:=⟨0,0,0,0,0,0,0,0,0,0,0,0,0,0,0,0,0,ρ,⟨#[]⟩,0⟩
theorem opCells_zero:(ak zeroO).toArray=#[J 0,J 0,J 0,J 0,J 0,J 0,J 0,J 0,J 0,J 0,J 0,J 0,J 0,J 0,J 0,J 0,J 0,.bool ρ,.string ⟨#[]⟩,J 0]:=rfl
theorem rm_lo (o:dR) (h0:decide (o.k<1)=τ) (w:ο):Ζ η 45 #[φ (ak o).toArray] w fun e w'=>e=.returned (J 1)∧σ w.heap.size w w':=by
 go_enter Tryz.func45,Tryz.ntmps45;go_upto_region 1 with fail
 obtain⟨W1,aV⟩:=aB (w.alloc (δ (ak o).toArray 36));have HO:Hid (Whole W1 w.heap.size 36 (ak o)):=qh (by rw[←aV];exact Whole.new_ w _ _);have HB:Hid (σ w.heap.size w W1):=qh (by rw[←aV];exact az _ _);rw[aV];clear aV;obtain⟨g0,pE⟩:=aB w.heap.size;rw[pE] at HO ⊢;clear pE;have rD:=HO.out.cell (i:=1) rfl;have sW:=HO.out.cell (i:=2) rfl;go_wp2_with fail
 clear rD sW
 refine(NJ o.s o.n _).mono ?_
 rintro e w3 ⟨rfl,bA⟩;have O_4:=qh (HO.out.bl bA);have jo:=qh (ag HB.out bA);clear bA;have Up:=O_4.out.cell (i:=0) rfl;go_wp2;go_ret;exact⟨rfl,jo.out⟩
theorem rm_hi (o:dR) (h0:decide (o.k<1)=ρ) (h9:decide (8<o.k)=τ) (w:ο):Ζ η 45 #[φ (ak o).toArray] w fun e w'=>e=.returned (J 1)∧σ w.heap.size w w':=by
 go_enter Tryz.func45,Tryz.ntmps45;go_upto_region 1 with fail
 obtain⟨W1,aV⟩:=aB (w.alloc (δ (ak o).toArray 36));have HO:Hid (Whole W1 w.heap.size 36 (ak o)):=qh (by rw[←aV];exact Whole.new_ w _ _);have HB:Hid (σ w.heap.size w W1):=qh (by rw[←aV];exact az _ _);rw[aV];clear aV;obtain⟨g0,pE⟩:=aB w.heap.size;rw[pE] at HO ⊢;clear pE;have rD:=HO.out.cell (i:=1) rfl;have sW:=HO.out.cell (i:=2) rfl;go_wp2_with fail
 clear rD sW
 refine(NJ o.s o.n _).mono ?_
 rintro e w3 ⟨rfl,bA⟩;have O_4:=qh (HO.out.bl bA);have jo:=qh (ag HB.out bA);clear bA;have Up:=O_4.out.cell (i:=0) rfl;go_wp2;go_ret;exact⟨rfl,jo.out⟩
theorem rm_id (o:dR) (h0:decide (o.k<1)=ρ) (h9:decide (8<o.k)=ρ) (h1:dK o.s o.n=ρ) (w:ο):Ζ η 45 #[φ (ak o).toArray] w fun e w'=>e=.returned (J 1)∧σ w.heap.size w w':=by
 go_enter Tryz.func45,Tryz.ntmps45;go_upto_region 1 with fail
 obtain⟨W1,aV⟩:=aB (w.alloc (δ (ak o).toArray 36));have HO:Hid (Whole W1 w.heap.size 36 (ak o)):=qh (by rw[←aV];exact Whole.new_ w _ _);have HB:Hid (σ w.heap.size w W1):=qh (by rw[←aV];exact az _ _);rw[aV];clear aV;obtain⟨g0,pE⟩:=aB w.heap.size;rw[pE] at HO ⊢;clear pE;have rD:=HO.out.cell (i:=1) rfl;have sW:=HO.out.cell (i:=2) rfl;go_wp2_with fail
 clear rD sW
 refine(NJ o.s o.n _).mono ?_
 rintro e w3 ⟨rfl,bA⟩;have O_4:=qh (HO.out.bl bA);have jo:=qh (ag HB.out bA);clear bA;have Up:=O_4.out.cell (i:=0) rfl;go_wp2;go_ret;exact⟨rfl,jo.out⟩
theorem rm_rest (o:dR) (h0:decide (o.k<1)=ρ) (h9:decide (8<o.k)=ρ) (h1:dK o.s o.n=τ) (h2:¬restO o=zeroO) (w:ο):Ζ η 45 #[φ (ak o).toArray] w fun e w'=>e=.returned (J 1)∧σ w.heap.size w w':=by
 have he:η.eqGuardType η.depth 36=ρ:=by kernel_rfl
 have hq:=qQ (restO o) zeroO;rw[opCells_zero,decide_eq_false h2] at hq;clear h2;go_enter Tryz.func45,Tryz.ntmps45;go_upto_region 1 with fail
 obtain⟨W1,aV⟩:=aB (w.alloc (δ (ak o).toArray 36));have HO:Hid (Whole W1 w.heap.size 36 (ak o)):=qh (by rw[←aV];exact Whole.new_ w _ _);have HB:Hid (σ w.heap.size w W1):=qh (by rw[←aV];exact az _ _);rw[aV];clear aV;obtain⟨g0,pE⟩:=aB w.heap.size;rw[pE] at HO ⊢;clear pE;have rD:=HO.out.cell (i:=1) rfl;have sW:=HO.out.cell (i:=2) rfl;go_wp2_with fail
 clear rD sW
 refine(NJ o.s o.n _).mono ?_
 rintro e w3 ⟨rfl,bA⟩;have O_4:=qh (HO.out.bl bA);have jo:=qh (ag HB.out bA);clear bA;have Up:=O_4.out.cell (i:=0) rfl;go_upto_region 2 with fail
 refine Jam ?_;refine a7 (v:=?_) (ζ 12) rfl (by rfl) ?_ ?_;rotate_left
 ·go_simp;(try with_reducible rfl)
 simp only[ξ,aw,ar,aq];refine a7 (v:=?_) (ζ 13) rfl (by rfl) ?_ ?_;rotate_left
 ·go_simp;(try with_reducible rfl)
 simp only[ξ,aw,ar,aq];refine a7 (v:=?_) (ζ 14) rfl (by rfl) ?_ ?_;rotate_left
 ·go_simp;(try with_reducible rfl)
 simp only[ξ,aw,ar,aq];refine a7 (v:=?_) (ζ 15) rfl (by rfl) ?_ ?_;rotate_left
 ·go_simp;(try with_reducible rfl)
 simp only[ξ,aw,ar,aq];refine a7 (v:=?_) (ζ 16) rfl (by rfl) ?_ ?_;rotate_left
 ·go_simp;(try with_reducible rfl)
 simp only[ξ,aw,ar,aq];refine a7 (v:=?_) (ζ 17) rfl (by rfl) ?_ ?_;rotate_left
 ·go_simp;(try with_reducible rfl)
 simp only[ξ,aw,ar,aq];refine a7 (v:=?_) (ζ 18) rfl (by rfl) ?_ ?_;rotate_left
 ·go_simp;(try with_reducible rfl)
 simp only[ξ,aw,ar,aq];refine a7 (v:=?_) (ζ 19) rfl (by rfl) ?_ ?_;rotate_left
 ·go_simp;(try with_reducible rfl)
 simp only[ξ,aw,ar,aq];refine a7 (v:=?_) (ζ 20) rfl (by rfl) ?_ ?_;rotate_left
 ·go_simp;(try with_reducible rfl)
 simp only[ξ,aw,ar,aq];refine a7 (v:=?_) (ζ 21) rfl (by rfl) ?_ ?_;rotate_left
 ·go_simp;(try with_reducible rfl)
 simp only[ξ,aw,ar,aq];refine a7 (v:=?_) (ζ 22) rfl (by rfl) ?_ ?_;rotate_left
 ·go_simp;(try with_reducible rfl)
 simp only[ξ,aw,ar,aq];refine a7 (v:=?_) (ζ 23) rfl (by rfl) ?_ ?_;rotate_left
 ·go_simp;(try with_reducible rfl)
 simp only[ξ,aw,ar,aq];refine a7 (v:=?_) (ζ 24) rfl (by rfl) ?_ ?_;rotate_left
 ·go_simp;(try with_reducible rfl)
 simp only[ξ,aw,ar,aq];refine eJ (ζ 25) rfl (by rfl) 36 (.tmp 1) rfl g0 rfl 36 (ak o) _ O_4.out Tryz.underlying36 rfl (by kernel_rfl) ?_;simp only[ξ,aw,ar,aq];go_wp2_with fail
 clear Up
 refine(rest_any o _).mono ?_
 rintro e w6 ⟨rfl,oE⟩;have O_7:=qh (O_4.out.bl oE);have rS:=qh (ag jo.out oE);clear oE;have lw8:=O_7.out.cell (i:=0) rfl;go_wp2;go_ret;exact⟨rfl,rS.out⟩
theorem rm_3n (o:dR) (h0:decide (o.k<1)=ρ) (h9:decide (8<o.k)=ρ) (h1:dK o.s o.n=τ) (h2:restO o=zeroO) (hk:o.k=3) (h3:Jn o.a0 o.a1 o.a2 o.a3 o.a4=ρ) (w:ο):Ζ η 45 #[φ (ak o).toArray] w fun e w'=>e=.returned (J 1)∧σ w.heap.size w w':=by
 have he:η.eqGuardType η.depth 36=ρ:=by kernel_rfl
 have hq:=qQ (restO o) zeroO;rw[opCells_zero,decide_eq_true h2] at hq;clear h2;have q3:(o.k==3)=τ:=by rw[hk];decide
 have q5:(o.k==5)=ρ:=by rw[hk];decide
 have q6:(o.k==6)=ρ:=by rw[hk];decide
 have q7:(o.k==7)=ρ:=by rw[hk];decide
 have q8:(o.k==8)=ρ:=by rw[hk];decide
 clear hk;go_enter Tryz.func45,Tryz.ntmps45;go_upto_region 1 with fail
 obtain⟨W1,aV⟩:=aB (w.alloc (δ (ak o).toArray 36));have HO:Hid (Whole W1 w.heap.size 36 (ak o)):=qh (by rw[←aV];exact Whole.new_ w _ _);have HB:Hid (σ w.heap.size w W1):=qh (by rw[←aV];exact az _ _);rw[aV];clear aV;obtain⟨g0,pE⟩:=aB w.heap.size;rw[pE] at HO ⊢;clear pE;have rD:=HO.out.cell (i:=1) rfl;have sW:=HO.out.cell (i:=2) rfl;go_wp2_with fail
 clear rD sW
 refine(NJ o.s o.n _).mono ?_
 rintro e w3 ⟨rfl,bA⟩;have O_4:=qh (HO.out.bl bA);have jo:=qh (ag HB.out bA);clear bA;have Up:=O_4.out.cell (i:=0) rfl;go_upto_region 2 with fail
 refine Jam ?_;refine a7 (v:=?_) (ζ 12) rfl (by rfl) ?_ ?_;rotate_left
 ·go_simp;(try with_reducible rfl)
 simp only[ξ,aw,ar,aq];refine a7 (v:=?_) (ζ 13) rfl (by rfl) ?_ ?_;rotate_left
 ·go_simp;(try with_reducible rfl)
 simp only[ξ,aw,ar,aq];refine a7 (v:=?_) (ζ 14) rfl (by rfl) ?_ ?_;rotate_left
 ·go_simp;(try with_reducible rfl)
 simp only[ξ,aw,ar,aq];refine a7 (v:=?_) (ζ 15) rfl (by rfl) ?_ ?_;rotate_left
 ·go_simp;(try with_reducible rfl)
 simp only[ξ,aw,ar,aq];refine a7 (v:=?_) (ζ 16) rfl (by rfl) ?_ ?_;rotate_left
 ·go_simp;(try with_reducible rfl)
 simp only[ξ,aw,ar,aq];refine a7 (v:=?_) (ζ 17) rfl (by rfl) ?_ ?_;rotate_left
 ·go_simp;(try with_reducible rfl)
 simp only[ξ,aw,ar,aq];refine a7 (v:=?_) (ζ 18) rfl (by rfl) ?_ ?_;rotate_left
 ·go_simp;(try with_reducible rfl)
 simp only[ξ,aw,ar,aq];refine a7 (v:=?_) (ζ 19) rfl (by rfl) ?_ ?_;rotate_left
 ·go_simp;(try with_reducible rfl)
 simp only[ξ,aw,ar,aq];refine a7 (v:=?_) (ζ 20) rfl (by rfl) ?_ ?_;rotate_left
 ·go_simp;(try with_reducible rfl)
 simp only[ξ,aw,ar,aq];refine a7 (v:=?_) (ζ 21) rfl (by rfl) ?_ ?_;rotate_left
 ·go_simp;(try with_reducible rfl)
 simp only[ξ,aw,ar,aq];refine a7 (v:=?_) (ζ 22) rfl (by rfl) ?_ ?_;rotate_left
 ·go_simp;(try with_reducible rfl)
 simp only[ξ,aw,ar,aq];refine a7 (v:=?_) (ζ 23) rfl (by rfl) ?_ ?_;rotate_left
 ·go_simp;(try with_reducible rfl)
 simp only[ξ,aw,ar,aq];refine a7 (v:=?_) (ζ 24) rfl (by rfl) ?_ ?_;rotate_left
 ·go_simp;(try with_reducible rfl)
 simp only[ξ,aw,ar,aq];refine eJ (ζ 25) rfl (by rfl) 36 (.tmp 1) rfl g0 rfl 36 (ak o) _ O_4.out Tryz.underlying36 rfl (by kernel_rfl) ?_;simp only[ξ,aw,ar,aq];go_wp2_with fail
 clear Up
 refine(rest_any o _).mono ?_
 rintro e w6 ⟨rfl,oE⟩;have O_7:=qh (O_4.out.bl oE);have rS:=qh (ag jo.out oE);clear oE;have lw8:=O_7.out.cell (i:=0) rfl;have lw9:=O_7.out.cell (i:=7) rfl;have lw10:=O_7.out.cell (i:=8) rfl;have afk:=O_7.out.cell (i:=9) rfl;have adU:=O_7.out.cell (i:=10) rfl;have adC:=O_7.out.cell (i:=11) rfl;go_wp2_with fail
 clear lw8 lw9 lw10 afk adU adC
 refine(rcorner_any o.a0 o.a1 o.a2 o.a3 o.a4 _).mono ?_
 rintro e w14 ⟨rfl,hb14⟩;have O_15:=qh (O_7.out.bl hb14);have Bel_15:=qh (ag rS.out hb14);clear hb14;have lw16:=O_15.out.cell (i:=0) rfl;have AN:=O_15.out.cell (i:=12) rfl;have ad1:=O_15.out.cell (i:=13) rfl;have aeq:=O_15.out.cell (i:=14) rfl;have agM:=O_15.out.cell (i:=15) rfl;have lw21:=O_15.out.cell (i:=16) rfl;go_wp2_with fail
 clear lw16 AN ad1 aeq agM lw21
 refine(rcorner_any o.b0 o.b1 o.b2 o.b3 o.b4 _).mono ?_
 rintro e w22 ⟨rfl,hb22⟩;have O_23:=qh (O_15.out.bl hb22);have Bel_23:=qh (ag Bel_15.out hb22);clear hb22;have lw24:=O_23.out.cell (i:=0) rfl;go_wp2;go_ret;exact⟨rfl,Bel_23.out⟩
theorem rm_3m (o:dR) (h0:decide (o.k<1)=ρ) (h9:decide (8<o.k)=ρ) (h1:dK o.s o.n=τ) (h2:restO o=zeroO) (hk:o.k=3) (h3:Jn o.a0 o.a1 o.a2 o.a3 o.a4=τ) (h4:Jn o.b0 o.b1 o.b2 o.b3 o.b4=ρ) (w:ο):Ζ η 45 #[φ (ak o).toArray] w fun e w'=>e=.returned (J 1)∧σ w.heap.size w w':=by
 have he:η.eqGuardType η.depth 36=ρ:=by kernel_rfl
 have hq:=qQ (restO o) zeroO;rw[opCells_zero,decide_eq_true h2] at hq;clear h2;have q3:(o.k==3)=τ:=by rw[hk];decide
 have q5:(o.k==5)=ρ:=by rw[hk];decide
 have q6:(o.k==6)=ρ:=by rw[hk];decide
 have q7:(o.k==7)=ρ:=by rw[hk];decide
 have q8:(o.k==8)=ρ:=by rw[hk];decide
 clear hk;go_enter Tryz.func45,Tryz.ntmps45;go_upto_region 1 with fail
 obtain⟨W1,aV⟩:=aB (w.alloc (δ (ak o).toArray 36));have HO:Hid (Whole W1 w.heap.size 36 (ak o)):=qh (by rw[←aV];exact Whole.new_ w _ _);have HB:Hid (σ w.heap.size w W1):=qh (by rw[←aV];exact az _ _);rw[aV];clear aV;obtain⟨g0,pE⟩:=aB w.heap.size;rw[pE] at HO ⊢;clear pE;have rD:=HO.out.cell (i:=1) rfl;have sW:=HO.out.cell (i:=2) rfl;go_wp2_with fail
 clear rD sW
 refine(NJ o.s o.n _).mono ?_
 rintro e w3 ⟨rfl,bA⟩;have O_4:=qh (HO.out.bl bA);have jo:=qh (ag HB.out bA);clear bA;have Up:=O_4.out.cell (i:=0) rfl;go_upto_region 2 with fail
 refine Jam ?_;refine a7 (v:=?_) (ζ 12) rfl (by rfl) ?_ ?_;rotate_left
 ·go_simp;(try with_reducible rfl)
 simp only[ξ,aw,ar,aq];refine a7 (v:=?_) (ζ 13) rfl (by rfl) ?_ ?_;rotate_left
 ·go_simp;(try with_reducible rfl)
 simp only[ξ,aw,ar,aq];refine a7 (v:=?_) (ζ 14) rfl (by rfl) ?_ ?_;rotate_left
 ·go_simp;(try with_reducible rfl)
 simp only[ξ,aw,ar,aq];refine a7 (v:=?_) (ζ 15) rfl (by rfl) ?_ ?_;rotate_left
 ·go_simp;(try with_reducible rfl)
 simp only[ξ,aw,ar,aq];refine a7 (v:=?_) (ζ 16) rfl (by rfl) ?_ ?_;rotate_left
 ·go_simp;(try with_reducible rfl)
 simp only[ξ,aw,ar,aq];refine a7 (v:=?_) (ζ 17) rfl (by rfl) ?_ ?_;rotate_left
 ·go_simp;(try with_reducible rfl)
 simp only[ξ,aw,ar,aq];refine a7 (v:=?_) (ζ 18) rfl (by rfl) ?_ ?_;rotate_left
 ·go_simp;(try with_reducible rfl)
 simp only[ξ,aw,ar,aq];refine a7 (v:=?_) (ζ 19) rfl (by rfl) ?_ ?_;rotate_left
 ·go_simp;(try with_reducible rfl)
 simp only[ξ,aw,ar,aq];refine a7 (v:=?_) (ζ 20) rfl (by rfl) ?_ ?_;rotate_left
 ·go_simp;(try with_reducible rfl)
 simp only[ξ,aw,ar,aq];refine a7 (v:=?_) (ζ 21) rfl (by rfl) ?_ ?_;rotate_left
 ·go_simp;(try with_reducible rfl)
 simp only[ξ,aw,ar,aq];refine a7 (v:=?_) (ζ 22) rfl (by rfl) ?_ ?_;rotate_left
 ·go_simp;(try with_reducible rfl)
 simp only[ξ,aw,ar,aq];refine a7 (v:=?_) (ζ 23) rfl (by rfl) ?_ ?_;rotate_left
 ·go_simp;(try with_reducible rfl)
 simp only[ξ,aw,ar,aq];refine a7 (v:=?_) (ζ 24) rfl (by rfl) ?_ ?_;rotate_left
 ·go_simp;(try with_reducible rfl)
 simp only[ξ,aw,ar,aq];refine eJ (ζ 25) rfl (by rfl) 36 (.tmp 1) rfl g0 rfl 36 (ak o) _ O_4.out Tryz.underlying36 rfl (by kernel_rfl) ?_;simp only[ξ,aw,ar,aq];go_wp2_with fail
 clear Up
 refine(rest_any o _).mono ?_
 rintro e w6 ⟨rfl,oE⟩;have O_7:=qh (O_4.out.bl oE);have rS:=qh (ag jo.out oE);clear oE;have lw8:=O_7.out.cell (i:=0) rfl;have lw9:=O_7.out.cell (i:=7) rfl;have lw10:=O_7.out.cell (i:=8) rfl;have afk:=O_7.out.cell (i:=9) rfl;have adU:=O_7.out.cell (i:=10) rfl;have adC:=O_7.out.cell (i:=11) rfl;go_wp2_with fail
 clear lw8 lw9 lw10 afk adU adC
 refine(rcorner_any o.a0 o.a1 o.a2 o.a3 o.a4 _).mono ?_
 rintro e w14 ⟨rfl,hb14⟩;have O_15:=qh (O_7.out.bl hb14);have Bel_15:=qh (ag rS.out hb14);clear hb14;have lw16:=O_15.out.cell (i:=0) rfl;have AN:=O_15.out.cell (i:=12) rfl;have ad1:=O_15.out.cell (i:=13) rfl;have aeq:=O_15.out.cell (i:=14) rfl;have agM:=O_15.out.cell (i:=15) rfl;have lw21:=O_15.out.cell (i:=16) rfl;go_wp2_with fail
 clear lw16 AN ad1 aeq agM lw21
 refine(rcorner_any o.b0 o.b1 o.b2 o.b3 o.b4 _).mono ?_
 rintro e w22 ⟨rfl,hb22⟩;have O_23:=qh (O_15.out.bl hb22);have Bel_23:=qh (ag Bel_15.out hb22);clear hb22;have lw24:=O_23.out.cell (i:=0) rfl;go_wp2;go_ret;exact⟨rfl,Bel_23.out⟩
theorem rm_3y (o:dR) (h0:decide (o.k<1)=ρ) (h9:decide (8<o.k)=ρ) (h1:dK o.s o.n=τ) (h2:restO o=zeroO) (hk:o.k=3) (h3:Jn o.a0 o.a1 o.a2 o.a3 o.a4=τ) (h4:Jn o.b0 o.b1 o.b2 o.b3 o.b4=τ) (w:ο):Ζ η 45 #[φ (ak o).toArray] w fun e w'=>e=.returned (J 0)∧σ w.heap.size w w':=by
 have he:η.eqGuardType η.depth 36=ρ:=by kernel_rfl
 have hq:=qQ (restO o) zeroO;rw[opCells_zero,decide_eq_true h2] at hq;clear h2;have q3:(o.k==3)=τ:=by rw[hk];decide
 have q5:(o.k==5)=ρ:=by rw[hk];decide
 have q6:(o.k==6)=ρ:=by rw[hk];decide
 have q7:(o.k==7)=ρ:=by rw[hk];decide
 have q8:(o.k==8)=ρ:=by rw[hk];decide
 clear hk;go_enter Tryz.func45,Tryz.ntmps45;go_upto_region 1 with fail
 obtain⟨W1,aV⟩:=aB (w.alloc (δ (ak o).toArray 36));have HO:Hid (Whole W1 w.heap.size 36 (ak o)):=qh (by rw[←aV];exact Whole.new_ w _ _);have HB:Hid (σ w.heap.size w W1):=qh (by rw[←aV];exact az _ _);rw[aV];clear aV;obtain⟨g0,pE⟩:=aB w.heap.size;rw[pE] at HO ⊢;clear pE;have rD:=HO.out.cell (i:=1) rfl;have sW:=HO.out.cell (i:=2) rfl;go_wp2_with fail
 clear rD sW
 refine(NJ o.s o.n _).mono ?_
 rintro e w3 ⟨rfl,bA⟩;have O_4:=qh (HO.out.bl bA);have jo:=qh (ag HB.out bA);clear bA;have Up:=O_4.out.cell (i:=0) rfl;go_upto_region 2 with fail
 refine Jam ?_;refine a7 (v:=?_) (ζ 12) rfl (by rfl) ?_ ?_;rotate_left
 ·go_simp;(try with_reducible rfl)
 simp only[ξ,aw,ar,aq];refine a7 (v:=?_) (ζ 13) rfl (by rfl) ?_ ?_;rotate_left
 ·go_simp;(try with_reducible rfl)
 simp only[ξ,aw,ar,aq];refine a7 (v:=?_) (ζ 14) rfl (by rfl) ?_ ?_;rotate_left
 ·go_simp;(try with_reducible rfl)
 simp only[ξ,aw,ar,aq];refine a7 (v:=?_) (ζ 15) rfl (by rfl) ?_ ?_;rotate_left
 ·go_simp;(try with_reducible rfl)
 simp only[ξ,aw,ar,aq];refine a7 (v:=?_) (ζ 16) rfl (by rfl) ?_ ?_;rotate_left
 ·go_simp;(try with_reducible rfl)
 simp only[ξ,aw,ar,aq];refine a7 (v:=?_) (ζ 17) rfl (by rfl) ?_ ?_;rotate_left
 ·go_simp;(try with_reducible rfl)
 simp only[ξ,aw,ar,aq];refine a7 (v:=?_) (ζ 18) rfl (by rfl) ?_ ?_;rotate_left
 ·go_simp;(try with_reducible rfl)
 simp only[ξ,aw,ar,aq];refine a7 (v:=?_) (ζ 19) rfl (by rfl) ?_ ?_;rotate_left
 ·go_simp;(try with_reducible rfl)
 simp only[ξ,aw,ar,aq];refine a7 (v:=?_) (ζ 20) rfl (by rfl) ?_ ?_;rotate_left
 ·go_simp;(try with_reducible rfl)
 simp only[ξ,aw,ar,aq];refine a7 (v:=?_) (ζ 21) rfl (by rfl) ?_ ?_;rotate_left
 ·go_simp;(try with_reducible rfl)
 simp only[ξ,aw,ar,aq];refine a7 (v:=?_) (ζ 22) rfl (by rfl) ?_ ?_;rotate_left
 ·go_simp;(try with_reducible rfl)
 simp only[ξ,aw,ar,aq];refine a7 (v:=?_) (ζ 23) rfl (by rfl) ?_ ?_;rotate_left
 ·go_simp;(try with_reducible rfl)
 simp only[ξ,aw,ar,aq];refine a7 (v:=?_) (ζ 24) rfl (by rfl) ?_ ?_;rotate_left
 ·go_simp;(try with_reducible rfl)
 simp only[ξ,aw,ar,aq];refine eJ (ζ 25) rfl (by rfl) 36 (.tmp 1) rfl g0 rfl 36 (ak o) _ O_4.out Tryz.underlying36 rfl (by kernel_rfl) ?_;simp only[ξ,aw,ar,aq];go_wp2_with fail
 clear Up
 refine(rest_any o _).mono ?_
 rintro e w6 ⟨rfl,oE⟩;have O_7:=qh (O_4.out.bl oE);have rS:=qh (ag jo.out oE);clear oE;have lw8:=O_7.out.cell (i:=0) rfl;have lw9:=O_7.out.cell (i:=7) rfl;have lw10:=O_7.out.cell (i:=8) rfl;have afk:=O_7.out.cell (i:=9) rfl;have adU:=O_7.out.cell (i:=10) rfl;have adC:=O_7.out.cell (i:=11) rfl;go_wp2_with fail
 clear lw8 lw9 lw10 afk adU adC
 refine(rcorner_any o.a0 o.a1 o.a2 o.a3 o.a4 _).mono ?_
 rintro e w14 ⟨rfl,hb14⟩;have O_15:=qh (O_7.out.bl hb14);have Bel_15:=qh (ag rS.out hb14);clear hb14;have lw16:=O_15.out.cell (i:=0) rfl;have AN:=O_15.out.cell (i:=12) rfl;have ad1:=O_15.out.cell (i:=13) rfl;have aeq:=O_15.out.cell (i:=14) rfl;have agM:=O_15.out.cell (i:=15) rfl;have lw21:=O_15.out.cell (i:=16) rfl;go_wp2_with fail
 clear lw16 AN ad1 aeq agM lw21
 refine(rcorner_any o.b0 o.b1 o.b2 o.b3 o.b4 _).mono ?_
 rintro e w22 ⟨rfl,hb22⟩;have O_23:=qh (O_15.out.bl hb22);have Bel_23:=qh (ag Bel_15.out hb22);clear hb22;have lw24:=O_23.out.cell (i:=0) rfl;go_wp2;go_ret;exact⟨rfl,Bel_23.out⟩
theorem rm_5a (o:dR) (h0:decide (o.k<1)=ρ) (h9:decide (8<o.k)=ρ) (h1:dK o.s o.n=τ) (h2:restO o=zeroO) (hk:o.k=5) (h3:dK o.s1 o.n1=ρ) (w:ο):Ζ η 45 #[φ (ak o).toArray] w fun e w'=>e=.returned (J 1)∧σ w.heap.size w w':=by
 have he:η.eqGuardType η.depth 36=ρ:=by kernel_rfl
 have hq:=qQ (restO o) zeroO;rw[opCells_zero,decide_eq_true h2] at hq;clear h2;have q3:(o.k==3)=ρ:=by rw[hk];decide
 have q5:(o.k==5)=τ:=by rw[hk];decide
 have q6:(o.k==6)=ρ:=by rw[hk];decide
 have q7:(o.k==7)=ρ:=by rw[hk];decide
 have q8:(o.k==8)=ρ:=by rw[hk];decide
 clear hk;go_enter Tryz.func45,Tryz.ntmps45;go_upto_region 1 with fail
 obtain⟨W1,aV⟩:=aB (w.alloc (δ (ak o).toArray 36));have HO:Hid (Whole W1 w.heap.size 36 (ak o)):=qh (by rw[←aV];exact Whole.new_ w _ _);have HB:Hid (σ w.heap.size w W1):=qh (by rw[←aV];exact az _ _);rw[aV];clear aV;obtain⟨g0,pE⟩:=aB w.heap.size;rw[pE] at HO ⊢;clear pE;have rD:=HO.out.cell (i:=1) rfl;have sW:=HO.out.cell (i:=2) rfl;go_wp2_with fail
 clear rD sW
 refine(NJ o.s o.n _).mono ?_
 rintro e w3 ⟨rfl,bA⟩;have O_4:=qh (HO.out.bl bA);have jo:=qh (ag HB.out bA);clear bA;have Up:=O_4.out.cell (i:=0) rfl;go_upto_region 2 with fail
 refine Jam ?_;refine a7 (v:=?_) (ζ 12) rfl (by rfl) ?_ ?_;rotate_left
 ·go_simp;(try with_reducible rfl)
 simp only[ξ,aw,ar,aq];refine a7 (v:=?_) (ζ 13) rfl (by rfl) ?_ ?_;rotate_left
 ·go_simp;(try with_reducible rfl)
 simp only[ξ,aw,ar,aq];refine a7 (v:=?_) (ζ 14) rfl (by rfl) ?_ ?_;rotate_left
 ·go_simp;(try with_reducible rfl)
 simp only[ξ,aw,ar,aq];refine a7 (v:=?_) (ζ 15) rfl (by rfl) ?_ ?_;rotate_left
 ·go_simp;(try with_reducible rfl)
 simp only[ξ,aw,ar,aq];refine a7 (v:=?_) (ζ 16) rfl (by rfl) ?_ ?_;rotate_left
 ·go_simp;(try with_reducible rfl)
 simp only[ξ,aw,ar,aq];refine a7 (v:=?_) (ζ 17) rfl (by rfl) ?_ ?_;rotate_left
 ·go_simp;(try with_reducible rfl)
 simp only[ξ,aw,ar,aq];refine a7 (v:=?_) (ζ 18) rfl (by rfl) ?_ ?_;rotate_left
 ·go_simp;(try with_reducible rfl)
 simp only[ξ,aw,ar,aq];refine a7 (v:=?_) (ζ 19) rfl (by rfl) ?_ ?_;rotate_left
 ·go_simp;(try with_reducible rfl)
 simp only[ξ,aw,ar,aq];refine a7 (v:=?_) (ζ 20) rfl (by rfl) ?_ ?_;rotate_left
 ·go_simp;(try with_reducible rfl)
 simp only[ξ,aw,ar,aq];refine a7 (v:=?_) (ζ 21) rfl (by rfl) ?_ ?_;rotate_left
 ·go_simp;(try with_reducible rfl)
 simp only[ξ,aw,ar,aq];refine a7 (v:=?_) (ζ 22) rfl (by rfl) ?_ ?_;rotate_left
 ·go_simp;(try with_reducible rfl)
 simp only[ξ,aw,ar,aq];refine a7 (v:=?_) (ζ 23) rfl (by rfl) ?_ ?_;rotate_left
 ·go_simp;(try with_reducible rfl)
 simp only[ξ,aw,ar,aq];refine a7 (v:=?_) (ζ 24) rfl (by rfl) ?_ ?_;rotate_left
 ·go_simp;(try with_reducible rfl)
 simp only[ξ,aw,ar,aq];refine eJ (ζ 25) rfl (by rfl) 36 (.tmp 1) rfl g0 rfl 36 (ak o) _ O_4.out Tryz.underlying36 rfl (by kernel_rfl) ?_;simp only[ξ,aw,ar,aq];go_wp2_with fail
 clear Up
 refine(rest_any o _).mono ?_
 rintro e w6 ⟨rfl,oE⟩;have O_7:=qh (O_4.out.bl oE);have rS:=qh (ag jo.out oE);clear oE;have lw8:=O_7.out.cell (i:=0) rfl;have lw9:=O_7.out.cell (i:=3) rfl;have lw10:=O_7.out.cell (i:=4) rfl;go_wp2_with fail
 clear lw8 lw9 lw10
 refine(NJ o.s1 o.n1 _).mono ?_
 rintro e DR ⟨rfl,jY⟩;have O_12:=qh (O_7.out.bl jY);have Bel_12:=qh (ag rS.out jY);clear jY;have adC:=O_12.out.cell (i:=0) rfl;have afh:=O_12.out.cell (i:=5) rfl;have lw15:=O_12.out.cell (i:=6) rfl;go_wp2_with fail
 clear adC afh lw15
 refine(NJ o.s2 o.n2 _).mono ?_
 rintro e w16 ⟨rfl,hb16⟩;have O_17:=qh (O_12.out.bl hb16);have Bel_17:=qh (ag Bel_12.out hb16);clear hb16;have ad1:=O_17.out.cell (i:=0) rfl;have aeq:=O_17.out.cell (i:=19) rfl;go_wp2;go_ret;exact⟨rfl,Bel_17.out⟩
theorem rm_5b (o:dR) (h0:decide (o.k<1)=ρ) (h9:decide (8<o.k)=ρ) (h1:dK o.s o.n=τ) (h2:restO o=zeroO) (hk:o.k=5) (h3:dK o.s1 o.n1=τ) (h4:dK o.s2 o.n2=ρ) (w:ο):Ζ η 45 #[φ (ak o).toArray] w fun e w'=>e=.returned (J 1)∧σ w.heap.size w w':=by
 have he:η.eqGuardType η.depth 36=ρ:=by kernel_rfl
 have hq:=qQ (restO o) zeroO;rw[opCells_zero,decide_eq_true h2] at hq;clear h2;have q3:(o.k==3)=ρ:=by rw[hk];decide
 have q5:(o.k==5)=τ:=by rw[hk];decide
 have q6:(o.k==6)=ρ:=by rw[hk];decide
 have q7:(o.k==7)=ρ:=by rw[hk];decide
 have q8:(o.k==8)=ρ:=by rw[hk];decide
 clear hk;go_enter Tryz.func45,Tryz.ntmps45;go_upto_region 1 with fail
 obtain⟨W1,aV⟩:=aB (w.alloc (δ (ak o).toArray 36));have HO:Hid (Whole W1 w.heap.size 36 (ak o)):=qh (by rw[←aV];exact Whole.new_ w _ _);have HB:Hid (σ w.heap.size w W1):=qh (by rw[←aV];exact az _ _);rw[aV];clear aV;obtain⟨g0,pE⟩:=aB w.heap.size;rw[pE] at HO ⊢;clear pE;have rD:=HO.out.cell (i:=1) rfl;have sW:=HO.out.cell (i:=2) rfl;go_wp2_with fail
 clear rD sW
 refine(NJ o.s o.n _).mono ?_
 rintro e w3 ⟨rfl,bA⟩;have O_4:=qh (HO.out.bl bA);have jo:=qh (ag HB.out bA);clear bA;have Up:=O_4.out.cell (i:=0) rfl;go_upto_region 2 with fail
 refine Jam ?_;refine a7 (v:=?_) (ζ 12) rfl (by rfl) ?_ ?_;rotate_left
 ·go_simp;(try with_reducible rfl)
 simp only[ξ,aw,ar,aq];refine a7 (v:=?_) (ζ 13) rfl (by rfl) ?_ ?_;rotate_left
 ·go_simp;(try with_reducible rfl)
 simp only[ξ,aw,ar,aq];refine a7 (v:=?_) (ζ 14) rfl (by rfl) ?_ ?_;rotate_left
 ·go_simp;(try with_reducible rfl)
 simp only[ξ,aw,ar,aq];refine a7 (v:=?_) (ζ 15) rfl (by rfl) ?_ ?_;rotate_left
 ·go_simp;(try with_reducible rfl)
 simp only[ξ,aw,ar,aq];refine a7 (v:=?_) (ζ 16) rfl (by rfl) ?_ ?_;rotate_left
 ·go_simp;(try with_reducible rfl)
 simp only[ξ,aw,ar,aq];refine a7 (v:=?_) (ζ 17) rfl (by rfl) ?_ ?_;rotate_left
 ·go_simp;(try with_reducible rfl)
 simp only[ξ,aw,ar,aq];refine a7 (v:=?_) (ζ 18) rfl (by rfl) ?_ ?_;rotate_left
 ·go_simp;(try with_reducible rfl)
 simp only[ξ,aw,ar,aq];refine a7 (v:=?_) (ζ 19) rfl (by rfl) ?_ ?_;rotate_left
 ·go_simp;(try with_reducible rfl)
 simp only[ξ,aw,ar,aq];refine a7 (v:=?_) (ζ 20) rfl (by rfl) ?_ ?_;rotate_left
 ·go_simp;(try with_reducible rfl)
 simp only[ξ,aw,ar,aq];refine a7 (v:=?_) (ζ 21) rfl (by rfl) ?_ ?_;rotate_left
 ·go_simp;(try with_reducible rfl)
 simp only[ξ,aw,ar,aq];refine a7 (v:=?_) (ζ 22) rfl (by rfl) ?_ ?_;rotate_left
 ·go_simp;(try with_reducible rfl)
 simp only[ξ,aw,ar,aq];refine a7 (v:=?_) (ζ 23) rfl (by rfl) ?_ ?_;rotate_left
 ·go_simp;(try with_reducible rfl)
 simp only[ξ,aw,ar,aq];refine a7 (v:=?_) (ζ 24) rfl (by rfl) ?_ ?_;rotate_left
 ·go_simp;(try with_reducible rfl)
 simp only[ξ,aw,ar,aq];refine eJ (ζ 25) rfl (by rfl) 36 (.tmp 1) rfl g0 rfl 36 (ak o) _ O_4.out Tryz.underlying36 rfl (by kernel_rfl) ?_;simp only[ξ,aw,ar,aq];go_wp2_with fail
 clear Up
 refine(rest_any o _).mono ?_
 rintro e w6 ⟨rfl,oE⟩;have O_7:=qh (O_4.out.bl oE);have rS:=qh (ag jo.out oE);clear oE;have lw8:=O_7.out.cell (i:=0) rfl;have lw9:=O_7.out.cell (i:=3) rfl;have lw10:=O_7.out.cell (i:=4) rfl;go_wp2_with fail
 clear lw8 lw9 lw10
 refine(NJ o.s1 o.n1 _).mono ?_
 rintro e DR ⟨rfl,jY⟩;have O_12:=qh (O_7.out.bl jY);have Bel_12:=qh (ag rS.out jY);clear jY;have adC:=O_12.out.cell (i:=0) rfl;have afh:=O_12.out.cell (i:=5) rfl;have lw15:=O_12.out.cell (i:=6) rfl;go_wp2_with fail
 clear adC afh lw15
 refine(NJ o.s2 o.n2 _).mono ?_
 rintro e w16 ⟨rfl,hb16⟩;have O_17:=qh (O_12.out.bl hb16);have Bel_17:=qh (ag Bel_12.out hb16);clear hb16;have ad1:=O_17.out.cell (i:=0) rfl;have aeq:=O_17.out.cell (i:=19) rfl;go_wp2;go_ret;exact⟨rfl,Bel_17.out⟩
theorem rm_5c (o:dR) (h0:decide (o.k<1)=ρ) (h9:decide (8<o.k)=ρ) (h1:dK o.s o.n=τ) (h2:restO o=zeroO) (hk:o.k=5) (h3:dK o.s1 o.n1=τ) (h4:dK o.s2 o.n2=τ) (h5:decide (o.m<0)=τ) (w:ο):Ζ η 45 #[φ (ak o).toArray] w fun e w'=>e=.returned (J 1)∧σ w.heap.size w w':=by
 have he:η.eqGuardType η.depth 36=ρ:=by kernel_rfl
 have hq:=qQ (restO o) zeroO;rw[opCells_zero,decide_eq_true h2] at hq;clear h2;have q3:(o.k==3)=ρ:=by rw[hk];decide
 have q5:(o.k==5)=τ:=by rw[hk];decide
 have q6:(o.k==6)=ρ:=by rw[hk];decide
 have q7:(o.k==7)=ρ:=by rw[hk];decide
 have q8:(o.k==8)=ρ:=by rw[hk];decide
 clear hk;go_enter Tryz.func45,Tryz.ntmps45;go_upto_region 1 with fail
 obtain⟨W1,aV⟩:=aB (w.alloc (δ (ak o).toArray 36));have HO:Hid (Whole W1 w.heap.size 36 (ak o)):=qh (by rw[←aV];exact Whole.new_ w _ _);have HB:Hid (σ w.heap.size w W1):=qh (by rw[←aV];exact az _ _);rw[aV];clear aV;obtain⟨g0,pE⟩:=aB w.heap.size;rw[pE] at HO ⊢;clear pE;have rD:=HO.out.cell (i:=1) rfl;have sW:=HO.out.cell (i:=2) rfl;go_wp2_with fail
 clear rD sW
 refine(NJ o.s o.n _).mono ?_
 rintro e w3 ⟨rfl,bA⟩;have O_4:=qh (HO.out.bl bA);have jo:=qh (ag HB.out bA);clear bA;have Up:=O_4.out.cell (i:=0) rfl;go_upto_region 2 with fail
 refine Jam ?_;refine a7 (v:=?_) (ζ 12) rfl (by rfl) ?_ ?_;rotate_left
 ·go_simp;(try with_reducible rfl)
 simp only[ξ,aw,ar,aq];refine a7 (v:=?_) (ζ 13) rfl (by rfl) ?_ ?_;rotate_left
 ·go_simp;(try with_reducible rfl)
 simp only[ξ,aw,ar,aq];refine a7 (v:=?_) (ζ 14) rfl (by rfl) ?_ ?_;rotate_left
 ·go_simp;(try with_reducible rfl)
 simp only[ξ,aw,ar,aq];refine a7 (v:=?_) (ζ 15) rfl (by rfl) ?_ ?_;rotate_left
 ·go_simp;(try with_reducible rfl)
 simp only[ξ,aw,ar,aq];refine a7 (v:=?_) (ζ 16) rfl (by rfl) ?_ ?_;rotate_left
 ·go_simp;(try with_reducible rfl)
 simp only[ξ,aw,ar,aq];refine a7 (v:=?_) (ζ 17) rfl (by rfl) ?_ ?_;rotate_left
 ·go_simp;(try with_reducible rfl)
 simp only[ξ,aw,ar,aq];refine a7 (v:=?_) (ζ 18) rfl (by rfl) ?_ ?_;rotate_left
 ·go_simp;(try with_reducible rfl)
 simp only[ξ,aw,ar,aq];refine a7 (v:=?_) (ζ 19) rfl (by rfl) ?_ ?_;rotate_left
 ·go_simp;(try with_reducible rfl)
 simp only[ξ,aw,ar,aq];refine a7 (v:=?_) (ζ 20) rfl (by rfl) ?_ ?_;rotate_left
 ·go_simp;(try with_reducible rfl)
 simp only[ξ,aw,ar,aq];refine a7 (v:=?_) (ζ 21) rfl (by rfl) ?_ ?_;rotate_left
 ·go_simp;(try with_reducible rfl)
 simp only[ξ,aw,ar,aq];refine a7 (v:=?_) (ζ 22) rfl (by rfl) ?_ ?_;rotate_left
 ·go_simp;(try with_reducible rfl)
 simp only[ξ,aw,ar,aq];refine a7 (v:=?_) (ζ 23) rfl (by rfl) ?_ ?_;rotate_left
 ·go_simp;(try with_reducible rfl)
 simp only[ξ,aw,ar,aq];refine a7 (v:=?_) (ζ 24) rfl (by rfl) ?_ ?_;rotate_left
 ·go_simp;(try with_reducible rfl)
 simp only[ξ,aw,ar,aq];refine eJ (ζ 25) rfl (by rfl) 36 (.tmp 1) rfl g0 rfl 36 (ak o) _ O_4.out Tryz.underlying36 rfl (by kernel_rfl) ?_;simp only[ξ,aw,ar,aq];go_wp2_with fail
 clear Up
 refine(rest_any o _).mono ?_
 rintro e w6 ⟨rfl,oE⟩;have O_7:=qh (O_4.out.bl oE);have rS:=qh (ag jo.out oE);clear oE;have lw8:=O_7.out.cell (i:=0) rfl;have lw9:=O_7.out.cell (i:=3) rfl;have lw10:=O_7.out.cell (i:=4) rfl;go_wp2_with fail
 clear lw8 lw9 lw10
 refine(NJ o.s1 o.n1 _).mono ?_
 rintro e DR ⟨rfl,jY⟩;have O_12:=qh (O_7.out.bl jY);have Bel_12:=qh (ag rS.out jY);clear jY;have adC:=O_12.out.cell (i:=0) rfl;have afh:=O_12.out.cell (i:=5) rfl;have lw15:=O_12.out.cell (i:=6) rfl;go_wp2_with fail
 clear adC afh lw15
 refine(NJ o.s2 o.n2 _).mono ?_
 rintro e w16 ⟨rfl,hb16⟩;have O_17:=qh (O_12.out.bl hb16);have Bel_17:=qh (ag Bel_12.out hb16);clear hb16;have ad1:=O_17.out.cell (i:=0) rfl;have aeq:=O_17.out.cell (i:=19) rfl;go_wp2;go_ret;exact⟨rfl,Bel_17.out⟩
theorem rm_5d (o:dR) (h0:decide (o.k<1)=ρ) (h9:decide (8<o.k)=ρ) (h1:dK o.s o.n=τ) (h2:restO o=zeroO) (hk:o.k=5) (h3:dK o.s1 o.n1=τ) (h4:dK o.s2 o.n2=τ) (h5:decide (o.m<0)=ρ) (h6:decide (3<o.m)=τ) (w:ο):Ζ η 45 #[φ (ak o).toArray] w fun e w'=>e=.returned (J 1)∧σ w.heap.size w w':=by
 have he:η.eqGuardType η.depth 36=ρ:=by kernel_rfl
 have hq:=qQ (restO o) zeroO;rw[opCells_zero,decide_eq_true h2] at hq;clear h2;have q3:(o.k==3)=ρ:=by rw[hk];decide
 have q5:(o.k==5)=τ:=by rw[hk];decide
 have q6:(o.k==6)=ρ:=by rw[hk];decide
 have q7:(o.k==7)=ρ:=by rw[hk];decide
 have q8:(o.k==8)=ρ:=by rw[hk];decide
 clear hk;go_enter Tryz.func45,Tryz.ntmps45;go_upto_region 1 with fail
 obtain⟨W1,aV⟩:=aB (w.alloc (δ (ak o).toArray 36));have HO:Hid (Whole W1 w.heap.size 36 (ak o)):=qh (by rw[←aV];exact Whole.new_ w _ _);have HB:Hid (σ w.heap.size w W1):=qh (by rw[←aV];exact az _ _);rw[aV];clear aV;obtain⟨g0,pE⟩:=aB w.heap.size;rw[pE] at HO ⊢;clear pE;have rD:=HO.out.cell (i:=1) rfl;have sW:=HO.out.cell (i:=2) rfl;go_wp2_with fail
 clear rD sW
 refine(NJ o.s o.n _).mono ?_
 rintro e w3 ⟨rfl,bA⟩;have O_4:=qh (HO.out.bl bA);have jo:=qh (ag HB.out bA);clear bA;have Up:=O_4.out.cell (i:=0) rfl;go_upto_region 2 with fail
 refine Jam ?_;refine a7 (v:=?_) (ζ 12) rfl (by rfl) ?_ ?_;rotate_left
 ·go_simp;(try with_reducible rfl)
 simp only[ξ,aw,ar,aq];refine a7 (v:=?_) (ζ 13) rfl (by rfl) ?_ ?_;rotate_left
 ·go_simp;(try with_reducible rfl)
 simp only[ξ,aw,ar,aq];refine a7 (v:=?_) (ζ 14) rfl (by rfl) ?_ ?_;rotate_left
 ·go_simp;(try with_reducible rfl)
 simp only[ξ,aw,ar,aq];refine a7 (v:=?_) (ζ 15) rfl (by rfl) ?_ ?_;rotate_left
 ·go_simp;(try with_reducible rfl)
 simp only[ξ,aw,ar,aq];refine a7 (v:=?_) (ζ 16) rfl (by rfl) ?_ ?_;rotate_left
 ·go_simp;(try with_reducible rfl)
 simp only[ξ,aw,ar,aq];refine a7 (v:=?_) (ζ 17) rfl (by rfl) ?_ ?_;rotate_left
 ·go_simp;(try with_reducible rfl)
 simp only[ξ,aw,ar,aq];refine a7 (v:=?_) (ζ 18) rfl (by rfl) ?_ ?_;rotate_left
 ·go_simp;(try with_reducible rfl)
 simp only[ξ,aw,ar,aq];refine a7 (v:=?_) (ζ 19) rfl (by rfl) ?_ ?_;rotate_left
 ·go_simp;(try with_reducible rfl)
 simp only[ξ,aw,ar,aq];refine a7 (v:=?_) (ζ 20) rfl (by rfl) ?_ ?_;rotate_left
 ·go_simp;(try with_reducible rfl)
 simp only[ξ,aw,ar,aq];refine a7 (v:=?_) (ζ 21) rfl (by rfl) ?_ ?_;rotate_left
 ·go_simp;(try with_reducible rfl)
 simp only[ξ,aw,ar,aq];refine a7 (v:=?_) (ζ 22) rfl (by rfl) ?_ ?_;rotate_left
 ·go_simp;(try with_reducible rfl)
 simp only[ξ,aw,ar,aq];refine a7 (v:=?_) (ζ 23) rfl (by rfl) ?_ ?_;rotate_left
 ·go_simp;(try with_reducible rfl)
 simp only[ξ,aw,ar,aq];refine a7 (v:=?_) (ζ 24) rfl (by rfl) ?_ ?_;rotate_left
 ·go_simp;(try with_reducible rfl)
 simp only[ξ,aw,ar,aq];refine eJ (ζ 25) rfl (by rfl) 36 (.tmp 1) rfl g0 rfl 36 (ak o) _ O_4.out Tryz.underlying36 rfl (by kernel_rfl) ?_;simp only[ξ,aw,ar,aq];go_wp2_with fail
 clear Up
 refine(rest_any o _).mono ?_
 rintro e w6 ⟨rfl,oE⟩;have O_7:=qh (O_4.out.bl oE);have rS:=qh (ag jo.out oE);clear oE;have lw8:=O_7.out.cell (i:=0) rfl;have lw9:=O_7.out.cell (i:=3) rfl;have lw10:=O_7.out.cell (i:=4) rfl;go_wp2_with fail
 clear lw8 lw9 lw10
 refine(NJ o.s1 o.n1 _).mono ?_
 rintro e DR ⟨rfl,jY⟩;have O_12:=qh (O_7.out.bl jY);have Bel_12:=qh (ag rS.out jY);clear jY;have adC:=O_12.out.cell (i:=0) rfl;have afh:=O_12.out.cell (i:=5) rfl;have lw15:=O_12.out.cell (i:=6) rfl;go_wp2_with fail
 clear adC afh lw15
 refine(NJ o.s2 o.n2 _).mono ?_
 rintro e w16 ⟨rfl,hb16⟩;have O_17:=qh (O_12.out.bl hb16);have Bel_17:=qh (ag Bel_12.out hb16);clear hb16;have ad1:=O_17.out.cell (i:=0) rfl;have aeq:=O_17.out.cell (i:=19) rfl;go_wp2;go_ret;exact⟨rfl,Bel_17.out⟩
theorem rm_5y (o:dR) (h0:decide (o.k<1)=ρ) (h9:decide (8<o.k)=ρ) (h1:dK o.s o.n=τ) (h2:restO o=zeroO) (hk:o.k=5) (h3:dK o.s1 o.n1=τ) (h4:dK o.s2 o.n2=τ) (h5:decide (o.m<0)=ρ) (h6:decide (3<o.m)=ρ) (w:ο):Ζ η 45 #[φ (ak o).toArray] w fun e w'=>e=.returned (J 0)∧σ w.heap.size w w':=by
 have he:η.eqGuardType η.depth 36=ρ:=by kernel_rfl
 have hq:=qQ (restO o) zeroO;rw[opCells_zero,decide_eq_true h2] at hq;clear h2;have q3:(o.k==3)=ρ:=by rw[hk];decide
 have q5:(o.k==5)=τ:=by rw[hk];decide
 have q6:(o.k==6)=ρ:=by rw[hk];decide
 have q7:(o.k==7)=ρ:=by rw[hk];decide
 have q8:(o.k==8)=ρ:=by rw[hk];decide
 clear hk;go_enter Tryz.func45,Tryz.ntmps45;go_upto_region 1 with fail
 obtain⟨W1,aV⟩:=aB (w.alloc (δ (ak o).toArray 36));have HO:Hid (Whole W1 w.heap.size 36 (ak o)):=qh (by rw[←aV];exact Whole.new_ w _ _);have HB:Hid (σ w.heap.size w W1):=qh (by rw[←aV];exact az _ _);rw[aV];clear aV;obtain⟨g0,pE⟩:=aB w.heap.size;rw[pE] at HO ⊢;clear pE;have rD:=HO.out.cell (i:=1) rfl;have sW:=HO.out.cell (i:=2) rfl;go_wp2_with fail
 clear rD sW
 refine(NJ o.s o.n _).mono ?_
 rintro e w3 ⟨rfl,bA⟩;have O_4:=qh (HO.out.bl bA);have jo:=qh (ag HB.out bA);clear bA;have Up:=O_4.out.cell (i:=0) rfl;go_upto_region 2 with fail
 refine Jam ?_;refine a7 (v:=?_) (ζ 12) rfl (by rfl) ?_ ?_;rotate_left
 ·go_simp;(try with_reducible rfl)
 simp only[ξ,aw,ar,aq];refine a7 (v:=?_) (ζ 13) rfl (by rfl) ?_ ?_;rotate_left
 ·go_simp;(try with_reducible rfl)
 simp only[ξ,aw,ar,aq];refine a7 (v:=?_) (ζ 14) rfl (by rfl) ?_ ?_;rotate_left
 ·go_simp;(try with_reducible rfl)
 simp only[ξ,aw,ar,aq];refine a7 (v:=?_) (ζ 15) rfl (by rfl) ?_ ?_;rotate_left
 ·go_simp;(try with_reducible rfl)
 simp only[ξ,aw,ar,aq];refine a7 (v:=?_) (ζ 16) rfl (by rfl) ?_ ?_;rotate_left
 ·go_simp;(try with_reducible rfl)
 simp only[ξ,aw,ar,aq];refine a7 (v:=?_) (ζ 17) rfl (by rfl) ?_ ?_;rotate_left
 ·go_simp;(try with_reducible rfl)
 simp only[ξ,aw,ar,aq];refine a7 (v:=?_) (ζ 18) rfl (by rfl) ?_ ?_;rotate_left
 ·go_simp;(try with_reducible rfl)
 simp only[ξ,aw,ar,aq];refine a7 (v:=?_) (ζ 19) rfl (by rfl) ?_ ?_;rotate_left
 ·go_simp;(try with_reducible rfl)
 simp only[ξ,aw,ar,aq];refine a7 (v:=?_) (ζ 20) rfl (by rfl) ?_ ?_;rotate_left
 ·go_simp;(try with_reducible rfl)
 simp only[ξ,aw,ar,aq];refine a7 (v:=?_) (ζ 21) rfl (by rfl) ?_ ?_;rotate_left
 ·go_simp;(try with_reducible rfl)
 simp only[ξ,aw,ar,aq];refine a7 (v:=?_) (ζ 22) rfl (by rfl) ?_ ?_;rotate_left
 ·go_simp;(try with_reducible rfl)
 simp only[ξ,aw,ar,aq];refine a7 (v:=?_) (ζ 23) rfl (by rfl) ?_ ?_;rotate_left
 ·go_simp;(try with_reducible rfl)
 simp only[ξ,aw,ar,aq];refine a7 (v:=?_) (ζ 24) rfl (by rfl) ?_ ?_;rotate_left
 ·go_simp;(try with_reducible rfl)
 simp only[ξ,aw,ar,aq];refine eJ (ζ 25) rfl (by rfl) 36 (.tmp 1) rfl g0 rfl 36 (ak o) _ O_4.out Tryz.underlying36 rfl (by kernel_rfl) ?_;simp only[ξ,aw,ar,aq];go_wp2_with fail
 clear Up
 refine(rest_any o _).mono ?_
 rintro e w6 ⟨rfl,oE⟩;have O_7:=qh (O_4.out.bl oE);have rS:=qh (ag jo.out oE);clear oE;have lw8:=O_7.out.cell (i:=0) rfl;have lw9:=O_7.out.cell (i:=3) rfl;have lw10:=O_7.out.cell (i:=4) rfl;go_wp2_with fail
 clear lw8 lw9 lw10
 refine(NJ o.s1 o.n1 _).mono ?_
 rintro e DR ⟨rfl,jY⟩;have O_12:=qh (O_7.out.bl jY);have Bel_12:=qh (ag rS.out jY);clear jY;have adC:=O_12.out.cell (i:=0) rfl;have afh:=O_12.out.cell (i:=5) rfl;have lw15:=O_12.out.cell (i:=6) rfl;go_wp2_with fail
 clear adC afh lw15
 refine(NJ o.s2 o.n2 _).mono ?_
 rintro e w16 ⟨rfl,hb16⟩;have O_17:=qh (O_12.out.bl hb16);have Bel_17:=qh (ag Bel_12.out hb16);clear hb16;have ad1:=O_17.out.cell (i:=0) rfl;have aeq:=O_17.out.cell (i:=19) rfl;go_wp2;go_ret;exact⟨rfl,Bel_17.out⟩
theorem rm_6n (o:dR) (h0:decide (o.k<1)=ρ) (h9:decide (8<o.k)=ρ) (h1:dK o.s o.n=τ) (h2:restO o=zeroO) (hk:o.k=6) (h3:dK o.s2 o.n2=ρ) (w:ο):Ζ η 45 #[φ (ak o).toArray] w fun e w'=>e=.returned (J 1)∧σ w.heap.size w w':=by
 have he:η.eqGuardType η.depth 36=ρ:=by kernel_rfl
 have hq:=qQ (restO o) zeroO;rw[opCells_zero,decide_eq_true h2] at hq;clear h2;have q3:(o.k==3)=ρ:=by rw[hk];decide
 have q5:(o.k==5)=ρ:=by rw[hk];decide
 have q6:(o.k==6)=τ:=by rw[hk];decide
 have q7:(o.k==7)=ρ:=by rw[hk];decide
 have q8:(o.k==8)=ρ:=by rw[hk];decide
 clear hk;go_enter Tryz.func45,Tryz.ntmps45;go_upto_region 1 with fail
 obtain⟨W1,aV⟩:=aB (w.alloc (δ (ak o).toArray 36));have HO:Hid (Whole W1 w.heap.size 36 (ak o)):=qh (by rw[←aV];exact Whole.new_ w _ _);have HB:Hid (σ w.heap.size w W1):=qh (by rw[←aV];exact az _ _);rw[aV];clear aV;obtain⟨g0,pE⟩:=aB w.heap.size;rw[pE] at HO ⊢;clear pE;have rD:=HO.out.cell (i:=1) rfl;have sW:=HO.out.cell (i:=2) rfl;go_wp2_with fail
 clear rD sW
 refine(NJ o.s o.n _).mono ?_
 rintro e w3 ⟨rfl,bA⟩;have O_4:=qh (HO.out.bl bA);have jo:=qh (ag HB.out bA);clear bA;have Up:=O_4.out.cell (i:=0) rfl;go_upto_region 2 with fail
 refine Jam ?_;refine a7 (v:=?_) (ζ 12) rfl (by rfl) ?_ ?_;rotate_left
 ·go_simp;(try with_reducible rfl)
 simp only[ξ,aw,ar,aq];refine a7 (v:=?_) (ζ 13) rfl (by rfl) ?_ ?_;rotate_left
 ·go_simp;(try with_reducible rfl)
 simp only[ξ,aw,ar,aq];refine a7 (v:=?_) (ζ 14) rfl (by rfl) ?_ ?_;rotate_left
 ·go_simp;(try with_reducible rfl)
 simp only[ξ,aw,ar,aq];refine a7 (v:=?_) (ζ 15) rfl (by rfl) ?_ ?_;rotate_left
 ·go_simp;(try with_reducible rfl)
 simp only[ξ,aw,ar,aq];refine a7 (v:=?_) (ζ 16) rfl (by rfl) ?_ ?_;rotate_left
 ·go_simp;(try with_reducible rfl)
 simp only[ξ,aw,ar,aq];refine a7 (v:=?_) (ζ 17) rfl (by rfl) ?_ ?_;rotate_left
 ·go_simp;(try with_reducible rfl)
 simp only[ξ,aw,ar,aq];refine a7 (v:=?_) (ζ 18) rfl (by rfl) ?_ ?_;rotate_left
 ·go_simp;(try with_reducible rfl)
 simp only[ξ,aw,ar,aq];refine a7 (v:=?_) (ζ 19) rfl (by rfl) ?_ ?_;rotate_left
 ·go_simp;(try with_reducible rfl)
 simp only[ξ,aw,ar,aq];refine a7 (v:=?_) (ζ 20) rfl (by rfl) ?_ ?_;rotate_left
 ·go_simp;(try with_reducible rfl)
 simp only[ξ,aw,ar,aq];refine a7 (v:=?_) (ζ 21) rfl (by rfl) ?_ ?_;rotate_left
 ·go_simp;(try with_reducible rfl)
 simp only[ξ,aw,ar,aq];refine a7 (v:=?_) (ζ 22) rfl (by rfl) ?_ ?_;rotate_left
 ·go_simp;(try with_reducible rfl)
 simp only[ξ,aw,ar,aq];refine a7 (v:=?_) (ζ 23) rfl (by rfl) ?_ ?_;rotate_left
 ·go_simp;(try with_reducible rfl)
 simp only[ξ,aw,ar,aq];refine a7 (v:=?_) (ζ 24) rfl (by rfl) ?_ ?_;rotate_left
 ·go_simp;(try with_reducible rfl)
 simp only[ξ,aw,ar,aq];refine eJ (ζ 25) rfl (by rfl) 36 (.tmp 1) rfl g0 rfl 36 (ak o) _ O_4.out Tryz.underlying36 rfl (by kernel_rfl) ?_;simp only[ξ,aw,ar,aq];go_wp2_with fail
 clear Up
 refine(rest_any o _).mono ?_
 rintro e w6 ⟨rfl,oE⟩;have O_7:=qh (O_4.out.bl oE);have rS:=qh (ag jo.out oE);clear oE;have lw8:=O_7.out.cell (i:=0) rfl;have lw9:=O_7.out.cell (i:=5) rfl;have lw10:=O_7.out.cell (i:=6) rfl;go_wp2_with fail
 clear lw8 lw9 lw10
 refine(NJ o.s2 o.n2 _).mono ?_
 rintro e DR ⟨rfl,jY⟩;have O_12:=qh (O_7.out.bl jY);have Bel_12:=qh (ag rS.out jY);clear jY;have adC:=O_12.out.cell (i:=0) rfl;go_wp2;go_ret;exact⟨rfl,Bel_12.out⟩
theorem rm_6y (o:dR) (h0:decide (o.k<1)=ρ) (h9:decide (8<o.k)=ρ) (h1:dK o.s o.n=τ) (h2:restO o=zeroO) (hk:o.k=6) (h3:dK o.s2 o.n2=τ) (w:ο):Ζ η 45 #[φ (ak o).toArray] w fun e w'=>e=.returned (J 0)∧σ w.heap.size w w':=by
 have he:η.eqGuardType η.depth 36=ρ:=by kernel_rfl
 have hq:=qQ (restO o) zeroO;rw[opCells_zero,decide_eq_true h2] at hq;clear h2;have q3:(o.k==3)=ρ:=by rw[hk];decide
 have q5:(o.k==5)=ρ:=by rw[hk];decide
 have q6:(o.k==6)=τ:=by rw[hk];decide
 have q7:(o.k==7)=ρ:=by rw[hk];decide
 have q8:(o.k==8)=ρ:=by rw[hk];decide
 clear hk;go_enter Tryz.func45,Tryz.ntmps45;go_upto_region 1 with fail
 obtain⟨W1,aV⟩:=aB (w.alloc (δ (ak o).toArray 36));have HO:Hid (Whole W1 w.heap.size 36 (ak o)):=qh (by rw[←aV];exact Whole.new_ w _ _);have HB:Hid (σ w.heap.size w W1):=qh (by rw[←aV];exact az _ _);rw[aV];clear aV;obtain⟨g0,pE⟩:=aB w.heap.size;rw[pE] at HO ⊢;clear pE;have rD:=HO.out.cell (i:=1) rfl;have sW:=HO.out.cell (i:=2) rfl;go_wp2_with fail
 clear rD sW
 refine(NJ o.s o.n _).mono ?_
 rintro e w3 ⟨rfl,bA⟩;have O_4:=qh (HO.out.bl bA);have jo:=qh (ag HB.out bA);clear bA;have Up:=O_4.out.cell (i:=0) rfl;go_upto_region 2 with fail
 refine Jam ?_;refine a7 (v:=?_) (ζ 12) rfl (by rfl) ?_ ?_;rotate_left
 ·go_simp;(try with_reducible rfl)
 simp only[ξ,aw,ar,aq];refine a7 (v:=?_) (ζ 13) rfl (by rfl) ?_ ?_;rotate_left
 ·go_simp;(try with_reducible rfl)
 simp only[ξ,aw,ar,aq];refine a7 (v:=?_) (ζ 14) rfl (by rfl) ?_ ?_;rotate_left
 ·go_simp;(try with_reducible rfl)
 simp only[ξ,aw,ar,aq];refine a7 (v:=?_) (ζ 15) rfl (by rfl) ?_ ?_;rotate_left
 ·go_simp;(try with_reducible rfl)
 simp only[ξ,aw,ar,aq];refine a7 (v:=?_) (ζ 16) rfl (by rfl) ?_ ?_;rotate_left
 ·go_simp;(try with_reducible rfl)
 simp only[ξ,aw,ar,aq];refine a7 (v:=?_) (ζ 17) rfl (by rfl) ?_ ?_;rotate_left
 ·go_simp;(try with_reducible rfl)
 simp only[ξ,aw,ar,aq];refine a7 (v:=?_) (ζ 18) rfl (by rfl) ?_ ?_;rotate_left
 ·go_simp;(try with_reducible rfl)
 simp only[ξ,aw,ar,aq];refine a7 (v:=?_) (ζ 19) rfl (by rfl) ?_ ?_;rotate_left
 ·go_simp;(try with_reducible rfl)
 simp only[ξ,aw,ar,aq];refine a7 (v:=?_) (ζ 20) rfl (by rfl) ?_ ?_;rotate_left
 ·go_simp;(try with_reducible rfl)
 simp only[ξ,aw,ar,aq];refine a7 (v:=?_) (ζ 21) rfl (by rfl) ?_ ?_;rotate_left
 ·go_simp;(try with_reducible rfl)
 simp only[ξ,aw,ar,aq];refine a7 (v:=?_) (ζ 22) rfl (by rfl) ?_ ?_;rotate_left
 ·go_simp;(try with_reducible rfl)
 simp only[ξ,aw,ar,aq];refine a7 (v:=?_) (ζ 23) rfl (by rfl) ?_ ?_;rotate_left
 ·go_simp;(try with_reducible rfl)
 simp only[ξ,aw,ar,aq];refine a7 (v:=?_) (ζ 24) rfl (by rfl) ?_ ?_;rotate_left
 ·go_simp;(try with_reducible rfl)
 simp only[ξ,aw,ar,aq];refine eJ (ζ 25) rfl (by rfl) 36 (.tmp 1) rfl g0 rfl 36 (ak o) _ O_4.out Tryz.underlying36 rfl (by kernel_rfl) ?_;simp only[ξ,aw,ar,aq];go_wp2_with fail
 clear Up
 refine(rest_any o _).mono ?_
 rintro e w6 ⟨rfl,oE⟩;have O_7:=qh (O_4.out.bl oE);have rS:=qh (ag jo.out oE);clear oE;have lw8:=O_7.out.cell (i:=0) rfl;have lw9:=O_7.out.cell (i:=5) rfl;have lw10:=O_7.out.cell (i:=6) rfl;go_wp2_with fail
 clear lw8 lw9 lw10
 refine(NJ o.s2 o.n2 _).mono ?_
 rintro e DR ⟨rfl,jY⟩;have O_12:=qh (O_7.out.bl jY);have Bel_12:=qh (ag rS.out jY);clear jY;have adC:=O_12.out.cell (i:=0) rfl;go_wp2;go_ret;exact⟨rfl,Bel_12.out⟩
theorem rm_8n (o:dR) (h0:decide (o.k<1)=ρ) (h9:decide (8<o.k)=ρ) (h1:dK o.s o.n=τ) (h2:restO o=zeroO) (hk:o.k=8) (h3:Hi o.m=ρ) (w:ο):Ζ η 45 #[φ (ak o).toArray] w fun e w'=>e=.returned (J 1)∧σ w.heap.size w w':=by
 have he:η.eqGuardType η.depth 36=ρ:=by kernel_rfl
 have hq:=qQ (restO o) zeroO;rw[opCells_zero,decide_eq_true h2] at hq;clear h2;have q3:(o.k==3)=ρ:=by rw[hk];decide
 have q5:(o.k==5)=ρ:=by rw[hk];decide
 have q6:(o.k==6)=ρ:=by rw[hk];decide
 have q7:(o.k==7)=ρ:=by rw[hk];decide
 have q8:(o.k==8)=τ:=by rw[hk];decide
 clear hk;go_enter Tryz.func45,Tryz.ntmps45;go_upto_region 1 with fail
 obtain⟨W1,aV⟩:=aB (w.alloc (δ (ak o).toArray 36));have HO:Hid (Whole W1 w.heap.size 36 (ak o)):=qh (by rw[←aV];exact Whole.new_ w _ _);have HB:Hid (σ w.heap.size w W1):=qh (by rw[←aV];exact az _ _);rw[aV];clear aV;obtain⟨g0,pE⟩:=aB w.heap.size;rw[pE] at HO ⊢;clear pE;have rD:=HO.out.cell (i:=1) rfl;have sW:=HO.out.cell (i:=2) rfl;go_wp2_with fail
 clear rD sW
 refine(NJ o.s o.n _).mono ?_
 rintro e w3 ⟨rfl,bA⟩;have O_4:=qh (HO.out.bl bA);have jo:=qh (ag HB.out bA);clear bA;have Up:=O_4.out.cell (i:=0) rfl;go_upto_region 2 with fail
 refine Jam ?_;refine a7 (v:=?_) (ζ 12) rfl (by rfl) ?_ ?_;rotate_left
 ·go_simp;(try with_reducible rfl)
 simp only[ξ,aw,ar,aq];refine a7 (v:=?_) (ζ 13) rfl (by rfl) ?_ ?_;rotate_left
 ·go_simp;(try with_reducible rfl)
 simp only[ξ,aw,ar,aq];refine a7 (v:=?_) (ζ 14) rfl (by rfl) ?_ ?_;rotate_left
 ·go_simp;(try with_reducible rfl)
 simp only[ξ,aw,ar,aq];refine a7 (v:=?_) (ζ 15) rfl (by rfl) ?_ ?_;rotate_left
 ·go_simp;(try with_reducible rfl)
 simp only[ξ,aw,ar,aq];refine a7 (v:=?_) (ζ 16) rfl (by rfl) ?_ ?_;rotate_left
 ·go_simp;(try with_reducible rfl)
 simp only[ξ,aw,ar,aq];refine a7 (v:=?_) (ζ 17) rfl (by rfl) ?_ ?_;rotate_left
 ·go_simp;(try with_reducible rfl)
 simp only[ξ,aw,ar,aq];refine a7 (v:=?_) (ζ 18) rfl (by rfl) ?_ ?_;rotate_left
 ·go_simp;(try with_reducible rfl)
 simp only[ξ,aw,ar,aq];refine a7 (v:=?_) (ζ 19) rfl (by rfl) ?_ ?_;rotate_left
 ·go_simp;(try with_reducible rfl)
 simp only[ξ,aw,ar,aq];refine a7 (v:=?_) (ζ 20) rfl (by rfl) ?_ ?_;rotate_left
 ·go_simp;(try with_reducible rfl)
 simp only[ξ,aw,ar,aq];refine a7 (v:=?_) (ζ 21) rfl (by rfl) ?_ ?_;rotate_left
 ·go_simp;(try with_reducible rfl)
 simp only[ξ,aw,ar,aq];refine a7 (v:=?_) (ζ 22) rfl (by rfl) ?_ ?_;rotate_left
 ·go_simp;(try with_reducible rfl)
 simp only[ξ,aw,ar,aq];refine a7 (v:=?_) (ζ 23) rfl (by rfl) ?_ ?_;rotate_left
 ·go_simp;(try with_reducible rfl)
 simp only[ξ,aw,ar,aq];refine a7 (v:=?_) (ζ 24) rfl (by rfl) ?_ ?_;rotate_left
 ·go_simp;(try with_reducible rfl)
 simp only[ξ,aw,ar,aq];refine eJ (ζ 25) rfl (by rfl) 36 (.tmp 1) rfl g0 rfl 36 (ak o) _ O_4.out Tryz.underlying36 rfl (by kernel_rfl) ?_;simp only[ξ,aw,ar,aq];go_wp2_with fail
 clear Up
 refine(rest_any o _).mono ?_
 rintro e w6 ⟨rfl,oE⟩;have O_7:=qh (O_4.out.bl oE);have rS:=qh (ag jo.out oE);clear oE;have lw8:=O_7.out.cell (i:=0) rfl;have lw9:=O_7.out.cell (i:=19) rfl;go_wp2_with fail
 clear lw8 lw9
 refine(rmayattr_anyO o.m _).mono ?_
 rintro e Nw ⟨rfl,oD⟩;have O_11:=qh (O_7.out.bl oD);have M5:=qh (ag rS.out oD);clear oD;have adU:=O_11.out.cell (i:=0) rfl;go_wp2;go_ret;exact⟨rfl,M5.out⟩
theorem rm_8y (o:dR) (h0:decide (o.k<1)=ρ) (h9:decide (8<o.k)=ρ) (h1:dK o.s o.n=τ) (h2:restO o=zeroO) (hk:o.k=8) (h3:Hi o.m=τ) (w:ο):Ζ η 45 #[φ (ak o).toArray] w fun e w'=>e=.returned (J 0)∧σ w.heap.size w w':=by
 have he:η.eqGuardType η.depth 36=ρ:=by kernel_rfl
 have hq:=qQ (restO o) zeroO;rw[opCells_zero,decide_eq_true h2] at hq;clear h2;have q3:(o.k==3)=ρ:=by rw[hk];decide
 have q5:(o.k==5)=ρ:=by rw[hk];decide
 have q6:(o.k==6)=ρ:=by rw[hk];decide
 have q7:(o.k==7)=ρ:=by rw[hk];decide
 have q8:(o.k==8)=τ:=by rw[hk];decide
 clear hk;go_enter Tryz.func45,Tryz.ntmps45;go_upto_region 1 with fail
 obtain⟨W1,aV⟩:=aB (w.alloc (δ (ak o).toArray 36));have HO:Hid (Whole W1 w.heap.size 36 (ak o)):=qh (by rw[←aV];exact Whole.new_ w _ _);have HB:Hid (σ w.heap.size w W1):=qh (by rw[←aV];exact az _ _);rw[aV];clear aV;obtain⟨g0,pE⟩:=aB w.heap.size;rw[pE] at HO ⊢;clear pE;have rD:=HO.out.cell (i:=1) rfl;have sW:=HO.out.cell (i:=2) rfl;go_wp2_with fail
 clear rD sW
 refine(NJ o.s o.n _).mono ?_
 rintro e w3 ⟨rfl,bA⟩;have O_4:=qh (HO.out.bl bA);have jo:=qh (ag HB.out bA);clear bA;have Up:=O_4.out.cell (i:=0) rfl;go_upto_region 2 with fail
 refine Jam ?_;refine a7 (v:=?_) (ζ 12) rfl (by rfl) ?_ ?_;rotate_left
 ·go_simp;(try with_reducible rfl)
 simp only[ξ,aw,ar,aq];refine a7 (v:=?_) (ζ 13) rfl (by rfl) ?_ ?_;rotate_left
 ·go_simp;(try with_reducible rfl)
 simp only[ξ,aw,ar,aq];refine a7 (v:=?_) (ζ 14) rfl (by rfl) ?_ ?_;rotate_left
 ·go_simp;(try with_reducible rfl)
 simp only[ξ,aw,ar,aq];refine a7 (v:=?_) (ζ 15) rfl (by rfl) ?_ ?_;rotate_left
 ·go_simp;(try with_reducible rfl)
 simp only[ξ,aw,ar,aq];refine a7 (v:=?_) (ζ 16) rfl (by rfl) ?_ ?_;rotate_left
 ·go_simp;(try with_reducible rfl)
 simp only[ξ,aw,ar,aq];refine a7 (v:=?_) (ζ 17) rfl (by rfl) ?_ ?_;rotate_left
 ·go_simp;(try with_reducible rfl)
 simp only[ξ,aw,ar,aq];refine a7 (v:=?_) (ζ 18) rfl (by rfl) ?_ ?_;rotate_left
 ·go_simp;(try with_reducible rfl)
 simp only[ξ,aw,ar,aq];refine a7 (v:=?_) (ζ 19) rfl (by rfl) ?_ ?_;rotate_left
 ·go_simp;(try with_reducible rfl)
 simp only[ξ,aw,ar,aq];refine a7 (v:=?_) (ζ 20) rfl (by rfl) ?_ ?_;rotate_left
 ·go_simp;(try with_reducible rfl)
 simp only[ξ,aw,ar,aq];refine a7 (v:=?_) (ζ 21) rfl (by rfl) ?_ ?_;rotate_left
 ·go_simp;(try with_reducible rfl)
 simp only[ξ,aw,ar,aq];refine a7 (v:=?_) (ζ 22) rfl (by rfl) ?_ ?_;rotate_left
 ·go_simp;(try with_reducible rfl)
 simp only[ξ,aw,ar,aq];refine a7 (v:=?_) (ζ 23) rfl (by rfl) ?_ ?_;rotate_left
 ·go_simp;(try with_reducible rfl)
 simp only[ξ,aw,ar,aq];refine a7 (v:=?_) (ζ 24) rfl (by rfl) ?_ ?_;rotate_left
 ·go_simp;(try with_reducible rfl)
 simp only[ξ,aw,ar,aq];refine eJ (ζ 25) rfl (by rfl) 36 (.tmp 1) rfl g0 rfl 36 (ak o) _ O_4.out Tryz.underlying36 rfl (by kernel_rfl) ?_;simp only[ξ,aw,ar,aq];go_wp2_with fail
 clear Up
 refine(rest_any o _).mono ?_
 rintro e w6 ⟨rfl,oE⟩;have O_7:=qh (O_4.out.bl oE);have rS:=qh (ag jo.out oE);clear oE;have lw8:=O_7.out.cell (i:=0) rfl;have lw9:=O_7.out.cell (i:=19) rfl;go_wp2_with fail
 clear lw8 lw9
 refine(rmayattr_anyO o.m _).mono ?_
 rintro e Nw ⟨rfl,oD⟩;have O_11:=qh (O_7.out.bl oD);have M5:=qh (ag rS.out oD);clear oD;have adU:=O_11.out.cell (i:=0) rfl;go_wp2;go_ret;exact⟨rfl,M5.out⟩
theorem rm_7n (o:dR) (h0:decide (o.k<1)=ρ) (h9:decide (8<o.k)=ρ) (h1:dK o.s o.n=τ) (h2:restO o=zeroO) (hk:o.k=7) (ht:Hid (o.t.size≤maxLen)) (h3:cQ o.t=ρ) (w:ο):Ζ η 45 #[φ (ak o).toArray] w fun e w'=>e=.returned (J 4)∧σ w.heap.size w w':=by
 have he:η.eqGuardType η.depth 36=ρ:=by kernel_rfl
 have hq:=qQ (restO o) zeroO;rw[opCells_zero,decide_eq_true h2] at hq;clear h2;have q3:(o.k==3)=ρ:=by rw[hk];decide
 have q5:(o.k==5)=ρ:=by rw[hk];decide
 have q6:(o.k==6)=ρ:=by rw[hk];decide
 have q7:(o.k==7)=τ:=by rw[hk];decide
 have q8:(o.k==8)=ρ:=by rw[hk];decide
 clear hk;go_enter Tryz.func45,Tryz.ntmps45;go_upto_region 1 with fail
 obtain⟨W1,aV⟩:=aB (w.alloc (δ (ak o).toArray 36));have HO:Hid (Whole W1 w.heap.size 36 (ak o)):=qh (by rw[←aV];exact Whole.new_ w _ _);have HB:Hid (σ w.heap.size w W1):=qh (by rw[←aV];exact az _ _);rw[aV];clear aV;obtain⟨g0,pE⟩:=aB w.heap.size;rw[pE] at HO ⊢;clear pE;have rD:=HO.out.cell (i:=1) rfl;have sW:=HO.out.cell (i:=2) rfl;go_wp2_with fail
 clear rD sW
 refine(NJ o.s o.n _).mono ?_
 rintro e w3 ⟨rfl,bA⟩;have O_4:=qh (HO.out.bl bA);have jo:=qh (ag HB.out bA);clear bA;have Up:=O_4.out.cell (i:=0) rfl;go_upto_region 2 with fail
 refine Jam ?_;refine a7 (v:=?_) (ζ 12) rfl (by rfl) ?_ ?_;rotate_left
 ·go_simp;(try with_reducible rfl)
 simp only[ξ,aw,ar,aq];refine a7 (v:=?_) (ζ 13) rfl (by rfl) ?_ ?_;rotate_left
 ·go_simp;(try with_reducible rfl)
 simp only[ξ,aw,ar,aq];refine a7 (v:=?_) (ζ 14) rfl (by rfl) ?_ ?_;rotate_left
 ·go_simp;(try with_reducible rfl)
 simp only[ξ,aw,ar,aq];refine a7 (v:=?_) (ζ 15) rfl (by rfl) ?_ ?_;rotate_left
 ·go_simp;(try with_reducible rfl)
 simp only[ξ,aw,ar,aq];refine a7 (v:=?_) (ζ 16) rfl (by rfl) ?_ ?_;rotate_left
 ·go_simp;(try with_reducible rfl)
 simp only[ξ,aw,ar,aq];refine a7 (v:=?_) (ζ 17) rfl (by rfl) ?_ ?_;rotate_left
 ·go_simp;(try with_reducible rfl)
 simp only[ξ,aw,ar,aq];refine a7 (v:=?_) (ζ 18) rfl (by rfl) ?_ ?_;rotate_left
 ·go_simp;(try with_reducible rfl)
 simp only[ξ,aw,ar,aq];refine a7 (v:=?_) (ζ 19) rfl (by rfl) ?_ ?_;rotate_left
 ·go_simp;(try with_reducible rfl)
 simp only[ξ,aw,ar,aq];refine a7 (v:=?_) (ζ 20) rfl (by rfl) ?_ ?_;rotate_left
 ·go_simp;(try with_reducible rfl)
 simp only[ξ,aw,ar,aq];refine a7 (v:=?_) (ζ 21) rfl (by rfl) ?_ ?_;rotate_left
 ·go_simp;(try with_reducible rfl)
 simp only[ξ,aw,ar,aq];refine a7 (v:=?_) (ζ 22) rfl (by rfl) ?_ ?_;rotate_left
 ·go_simp;(try with_reducible rfl)
 simp only[ξ,aw,ar,aq];refine a7 (v:=?_) (ζ 23) rfl (by rfl) ?_ ?_;rotate_left
 ·go_simp;(try with_reducible rfl)
 simp only[ξ,aw,ar,aq];refine a7 (v:=?_) (ζ 24) rfl (by rfl) ?_ ?_;rotate_left
 ·go_simp;(try with_reducible rfl)
 simp only[ξ,aw,ar,aq];refine eJ (ζ 25) rfl (by rfl) 36 (.tmp 1) rfl g0 rfl 36 (ak o) _ O_4.out Tryz.underlying36 rfl (by kernel_rfl) ?_;simp only[ξ,aw,ar,aq];go_wp2_with fail
 clear Up
 refine(rest_any o _).mono ?_
 rintro e w6 ⟨rfl,oE⟩;have O_7:=qh (O_4.out.bl oE);have rS:=qh (ag jo.out oE);clear oE;have lw8:=O_7.out.cell (i:=0) rfl;have lw9:=O_7.out.cell (i:=18) rfl;go_wp2_with fail
 clear lw8 lw9
 refine(qp o.t ht.out _).mono ?_
 rintro e Nw ⟨rfl,oD⟩;have O_11:=qh (O_7.out.bl oD);have M5:=qh (ag rS.out oD);clear oD;have adU:=O_11.out.cell (i:=0) rfl;go_wp2;go_ret;exact⟨rfl,M5.out⟩
theorem rm_7y (o:dR) (h0:decide (o.k<1)=ρ) (h9:decide (8<o.k)=ρ) (h1:dK o.s o.n=τ) (h2:restO o=zeroO) (hk:o.k=7) (ht:Hid (o.t.size≤maxLen)) (h3:cQ o.t=τ) (w:ο):Ζ η 45 #[φ (ak o).toArray] w fun e w'=>e=.returned (J 0)∧σ w.heap.size w w':=by
 have he:η.eqGuardType η.depth 36=ρ:=by kernel_rfl
 have hq:=qQ (restO o) zeroO;rw[opCells_zero,decide_eq_true h2] at hq;clear h2;have q3:(o.k==3)=ρ:=by rw[hk];decide
 have q5:(o.k==5)=ρ:=by rw[hk];decide
 have q6:(o.k==6)=ρ:=by rw[hk];decide
 have q7:(o.k==7)=τ:=by rw[hk];decide
 have q8:(o.k==8)=ρ:=by rw[hk];decide
 clear hk;go_enter Tryz.func45,Tryz.ntmps45;go_upto_region 1 with fail
 obtain⟨W1,aV⟩:=aB (w.alloc (δ (ak o).toArray 36));have HO:Hid (Whole W1 w.heap.size 36 (ak o)):=qh (by rw[←aV];exact Whole.new_ w _ _);have HB:Hid (σ w.heap.size w W1):=qh (by rw[←aV];exact az _ _);rw[aV];clear aV;obtain⟨g0,pE⟩:=aB w.heap.size;rw[pE] at HO ⊢;clear pE;have rD:=HO.out.cell (i:=1) rfl;have sW:=HO.out.cell (i:=2) rfl;go_wp2_with fail
 clear rD sW
 refine(NJ o.s o.n _).mono ?_
 rintro e w3 ⟨rfl,bA⟩;have O_4:=qh (HO.out.bl bA);have jo:=qh (ag HB.out bA);clear bA;have Up:=O_4.out.cell (i:=0) rfl;go_upto_region 2 with fail
 refine Jam ?_;refine a7 (v:=?_) (ζ 12) rfl (by rfl) ?_ ?_;rotate_left
 ·go_simp;(try with_reducible rfl)
 simp only[ξ,aw,ar,aq];refine a7 (v:=?_) (ζ 13) rfl (by rfl) ?_ ?_;rotate_left
 ·go_simp;(try with_reducible rfl)
 simp only[ξ,aw,ar,aq];refine a7 (v:=?_) (ζ 14) rfl (by rfl) ?_ ?_;rotate_left
 ·go_simp;(try with_reducible rfl)
 simp only[ξ,aw,ar,aq];refine a7 (v:=?_) (ζ 15) rfl (by rfl) ?_ ?_;rotate_left
 ·go_simp;(try with_reducible rfl)
 simp only[ξ,aw,ar,aq];refine a7 (v:=?_) (ζ 16) rfl (by rfl) ?_ ?_;rotate_left
 ·go_simp;(try with_reducible rfl)
 simp only[ξ,aw,ar,aq];refine a7 (v:=?_) (ζ 17) rfl (by rfl) ?_ ?_;rotate_left
 ·go_simp;(try with_reducible rfl)
 simp only[ξ,aw,ar,aq];refine a7 (v:=?_) (ζ 18) rfl (by rfl) ?_ ?_;rotate_left
 ·go_simp;(try with_reducible rfl)
 simp only[ξ,aw,ar,aq];refine a7 (v:=?_) (ζ 19) rfl (by rfl) ?_ ?_;rotate_left
 ·go_simp;(try with_reducible rfl)
 simp only[ξ,aw,ar,aq];refine a7 (v:=?_) (ζ 20) rfl (by rfl) ?_ ?_;rotate_left
 ·go_simp;(try with_reducible rfl)
 simp only[ξ,aw,ar,aq];refine a7 (v:=?_) (ζ 21) rfl (by rfl) ?_ ?_;rotate_left
 ·go_simp;(try with_reducible rfl)
 simp only[ξ,aw,ar,aq];refine a7 (v:=?_) (ζ 22) rfl (by rfl) ?_ ?_;rotate_left
 ·go_simp;(try with_reducible rfl)
 simp only[ξ,aw,ar,aq];refine a7 (v:=?_) (ζ 23) rfl (by rfl) ?_ ?_;rotate_left
 ·go_simp;(try with_reducible rfl)
 simp only[ξ,aw,ar,aq];refine a7 (v:=?_) (ζ 24) rfl (by rfl) ?_ ?_;rotate_left
 ·go_simp;(try with_reducible rfl)
 simp only[ξ,aw,ar,aq];refine eJ (ζ 25) rfl (by rfl) 36 (.tmp 1) rfl g0 rfl 36 (ak o) _ O_4.out Tryz.underlying36 rfl (by kernel_rfl) ?_;simp only[ξ,aw,ar,aq];go_wp2_with fail
 clear Up
 refine(rest_any o _).mono ?_
 rintro e w6 ⟨rfl,oE⟩;have O_7:=qh (O_4.out.bl oE);have rS:=qh (ag jo.out oE);clear oE;have lw8:=O_7.out.cell (i:=0) rfl;have lw9:=O_7.out.cell (i:=18) rfl;go_wp2_with fail
 clear lw8 lw9
 refine(qp o.t ht.out _).mono ?_
 rintro e Nw ⟨rfl,oD⟩;have O_11:=qh (O_7.out.bl oD);have M5:=qh (ag rS.out oD);clear oD;have adU:=O_11.out.cell (i:=0) rfl;go_wp2;go_ret;exact⟨rfl,M5.out⟩
theorem rm_0y (o:dR) (h0:decide (o.k<1)=ρ) (h9:decide (8<o.k)=ρ) (h1:dK o.s o.n=τ) (h2:restO o=zeroO) (q3:(o.k==3)=ρ) (q5:(o.k==5)=ρ) (q6:(o.k==6)=ρ) (q7:(o.k==7)=ρ) (q8:(o.k==8)=ρ) (w:ο):Ζ η 45 #[φ (ak o).toArray] w fun e w'=>e=.returned (J 0)∧σ w.heap.size w w':=by
 have he:η.eqGuardType η.depth 36=ρ:=by kernel_rfl
 have hq:=qQ (restO o) zeroO;rw[opCells_zero,decide_eq_true h2] at hq;clear h2;go_enter Tryz.func45,Tryz.ntmps45;go_upto_region 1 with fail
 obtain⟨W1,aV⟩:=aB (w.alloc (δ (ak o).toArray 36));have HO:Hid (Whole W1 w.heap.size 36 (ak o)):=qh (by rw[←aV];exact Whole.new_ w _ _);have HB:Hid (σ w.heap.size w W1):=qh (by rw[←aV];exact az _ _);rw[aV];clear aV;obtain⟨g0,pE⟩:=aB w.heap.size;rw[pE] at HO ⊢;clear pE;have rD:=HO.out.cell (i:=1) rfl;have sW:=HO.out.cell (i:=2) rfl;go_wp2_with fail
 clear rD sW
 refine(NJ o.s o.n _).mono ?_
 rintro e w3 ⟨rfl,bA⟩;have O_4:=qh (HO.out.bl bA);have jo:=qh (ag HB.out bA);clear bA;have Up:=O_4.out.cell (i:=0) rfl;go_upto_region 2 with fail
 refine Jam ?_;refine a7 (v:=?_) (ζ 12) rfl (by rfl) ?_ ?_;rotate_left
 ·go_simp;(try with_reducible rfl)
 simp only[ξ,aw,ar,aq];refine a7 (v:=?_) (ζ 13) rfl (by rfl) ?_ ?_;rotate_left
 ·go_simp;(try with_reducible rfl)
 simp only[ξ,aw,ar,aq];refine a7 (v:=?_) (ζ 14) rfl (by rfl) ?_ ?_;rotate_left
 ·go_simp;(try with_reducible rfl)
 simp only[ξ,aw,ar,aq];refine a7 (v:=?_) (ζ 15) rfl (by rfl) ?_ ?_;rotate_left
 ·go_simp;(try with_reducible rfl)
 simp only[ξ,aw,ar,aq];refine a7 (v:=?_) (ζ 16) rfl (by rfl) ?_ ?_;rotate_left
 ·go_simp;(try with_reducible rfl)
 simp only[ξ,aw,ar,aq];refine a7 (v:=?_) (ζ 17) rfl (by rfl) ?_ ?_;rotate_left
 ·go_simp;(try with_reducible rfl)
 simp only[ξ,aw,ar,aq];refine a7 (v:=?_) (ζ 18) rfl (by rfl) ?_ ?_;rotate_left
 ·go_simp;(try with_reducible rfl)
 simp only[ξ,aw,ar,aq];refine a7 (v:=?_) (ζ 19) rfl (by rfl) ?_ ?_;rotate_left
 ·go_simp;(try with_reducible rfl)
 simp only[ξ,aw,ar,aq];refine a7 (v:=?_) (ζ 20) rfl (by rfl) ?_ ?_;rotate_left
 ·go_simp;(try with_reducible rfl)
 simp only[ξ,aw,ar,aq];refine a7 (v:=?_) (ζ 21) rfl (by rfl) ?_ ?_;rotate_left
 ·go_simp;(try with_reducible rfl)
 simp only[ξ,aw,ar,aq];refine a7 (v:=?_) (ζ 22) rfl (by rfl) ?_ ?_;rotate_left
 ·go_simp;(try with_reducible rfl)
 simp only[ξ,aw,ar,aq];refine a7 (v:=?_) (ζ 23) rfl (by rfl) ?_ ?_;rotate_left
 ·go_simp;(try with_reducible rfl)
 simp only[ξ,aw,ar,aq];refine a7 (v:=?_) (ζ 24) rfl (by rfl) ?_ ?_;rotate_left
 ·go_simp;(try with_reducible rfl)
 simp only[ξ,aw,ar,aq];refine eJ (ζ 25) rfl (by rfl) 36 (.tmp 1) rfl g0 rfl 36 (ak o) _ O_4.out Tryz.underlying36 rfl (by kernel_rfl) ?_;simp only[ξ,aw,ar,aq];go_wp2_with fail
 clear Up
 refine(rest_any o _).mono ?_
 rintro e w6 ⟨rfl,oE⟩;have O_7:=qh (O_4.out.bl oE);have rS:=qh (ag jo.out oE);clear oE;have lw8:=O_7.out.cell (i:=0) rfl;go_wp2;go_ret;exact⟨rfl,rS.out⟩
end Go.Proofs.YtpdpbfmiahjiiaaGreat
