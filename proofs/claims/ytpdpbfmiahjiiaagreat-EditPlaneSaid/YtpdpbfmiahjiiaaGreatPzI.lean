/- Several texts in one. -/
import Derived.Test.YtpdpbfmiahjiiaaGreatPzA
import Derived.Test.YtpdpbfmiahjiiaaGreatPzB
import Derived.Test.YtpdpbfmiahjiiaaGreatPzE
import Derived.Test.YtpdpbfmiahjiiaaGreatPzH
import Derived.Deep.WholeRow
import Derived.Great.Walk
import Derived.Laws.MakeOwn
import Derived.Laws.Strings
import Derived.Lib.SliceRun
import Derived.LoopTactic
set_option linter.unusedSectionVars false
set_option linter.unusedSimpArgs false
set_option linter.unusedVariables false
set_option maxRecDepth 100000
set_option maxHeartbeats 16000000
namespace Go.Proofs.YtpdpbfmiahjiiaaGreat
open Go.RowKit
open _root_.Go.Obj renaming cells→δ
open _root_.Option renaming none→ε,some→ζ
open _root_.Go.Proofs.Tryz renaming prog→η
open _root_.Go.Value renaming string→μ,pointer→υ,agg→φ,bool→Β,oneCell'→Τ
open _root_.Go.Act renaming put→ξ
open _root_.Go renaming World→ο,Calls→Ζ,Addr→Κ,wp_region_lit→Jam,bodyPost_ret→JaN,wpList_store_row→Jbu
open _root_.Bool renaming false→ρ,true→τ,and_eq_true→Jar
open _root_.Go.RowKit renaming Below→σ
open _root_.List renaming mem_of_getElem?→ω,mem_map→Α,length_map→Ρ,map_congr_left→JaV,map_map→JaW,pairwise_map→Jbg
open _root_.Nat renaming le_trans→Λ,zero_le→Jas
open _root_.Go.Addr renaming add_lit→Ν
open _root_.ByteArray renaming empty→Jaf
open _root_.And renaming intro→Jax
open _root_.Exists renaming intro→JaG
section
open Go.RowKit Go.Great
def oh (o:dR):dR:=
 if o.k=3 then⟨o.k,o.s,o.n,0,0,0,0,o.a0,o.a1,o.a2,o.a3,o.a4,o.b0,o.b1,o.b2,o.b3,o.b4,ρ,⟨#[]⟩,0⟩
 else if o.k=5 then⟨o.k,o.s,o.n,o.s1,o.n1,o.s2,o.n2,0,0,0,0,0,0,0,0,0,0,ρ,⟨#[]⟩,o.m⟩
 else if o.k=6 then⟨o.k,o.s,o.n,0,0,o.s2,o.n2,0,0,0,0,0,0,0,0,0,0,ρ,⟨#[]⟩,0⟩
 else if o.k=7 then⟨o.k,o.s,o.n,0,0,0,0,0,0,0,0,0,0,0,0,0,0,o.e,o.t,0⟩
 else if o.k=8 then⟨o.k,o.s,o.n,0,0,0,0,0,0,0,0,0,0,0,0,0,0,o.e,⟨#[]⟩,o.m⟩
 else⟨o.k,o.s,o.n,0,0,0,0,0,0,0,0,0,0,0,0,0,0,ρ,⟨#[]⟩,0⟩
theorem UI (k s n s1 n1 s2 n2 a0 a1 a2 a3 a4 b0 b1 b2 b3 b4:Int) (e:Bool) (t:ByteArray) (m:Int) (q3:(k==3)=ρ) (q5:(k==5)=ρ) (q6:(k==6)=ρ) (q7:(k==7)=ρ) (q8:(k==8)=ρ):Pure 66 #[φ #[J k,J s,J n,J s1,J n1,J s2,J n2,J a0,J a1,J a2,J a3,J a4,J b0,J b1,J b2,J b3,J b4,Β e,μ t,J m]] (φ #[J k,J s,J n,J 0,J 0,J 0,J 0,J 0,J 0,J 0,J 0,J 0,J 0,J 0,J 0,J 0,J 0,Β ρ,μ ⟨#[]⟩,J 0]):=fun w=>by
 go_enter Tryz.func66,Tryz.ntmps66;go_upto_region 1 with fail
 obtain⟨W1,aV⟩:=aB ((w.alloc (δ #[J k,J s,J n,J s1,J n1,J s2,J n2,J a0,J a1,J a2,J a3,J a4,J b0,J b1,J b2,J b3,J b4,Β e,μ t,J m] 36)).alloc (δ #[J 0,J 0,J 0,J 0,J 0,J 0,J 0,J 0,J 0,J 0,J 0,J 0,J 0,J 0,J 0,J 0,J 0,Β ρ,μ ⟨#[]⟩,J 0] 36));have hO:Whole W1 w.heap.size 36 [J k,J s,J n,J s1,J n1,J s2,J n2,J a0,J a1,J a2,J a3,J a4,J b0,J b1,J b2,J b3,J b4,Β e,μ t,J m]:=by rw[←aV];exact(Whole.new_ w _ [J k,J s,J n,J s1,J n1,J s2,J n2,J a0,J a1,J a2,J a3,J a4,J b0,J b1,J b2,J b3,J b4,Β e,μ t,J m]).alloc _
 have hR:Whole W1 (w.heap.size+1) 36 [J 0,J 0,J 0,J 0,J 0,J 0,J 0,J 0,J 0,J 0,J 0,J 0,J 0,J 0,J 0,J 0,J 0,Β ρ,μ ⟨#[]⟩,J 0]:=by rw[←aV];exact Whole.new2 (cs:=[J 0,J 0,J 0,J 0,J 0,J 0,J 0,J 0,J 0,J 0,J 0,J 0,J 0,J 0,J 0,J 0,J 0,Β ρ,μ ⟨#[]⟩,J 0]) (by simp)
 have hB:σ w.heap.size w W1:=by rw[←aV];exact cr _ _ _
 rw[aV];clear aV;have HO:=qh hO;have HR:=qh hR;have HB:=qh hB;have l0:=hO.cell (i:=0) rfl;have l1:=hO.cell (i:=1) rfl;have l2:=hO.cell (i:=2) rfl;clear hO hR hB;obtain⟨g0,pE⟩:=aB w.heap.size;rw[pE] at HO HR l0 l1 l2 ⊢;have Ce:Hid (w.heap.size≤g0):=qh (by omega);clear pE;refine Jam ?_;refine wpList_readTo rfl (ζ 4) rfl ?_ ?_ ?_;rotate_left
 ·go_simp;exact rfl
 simp only[ξ,aw,ar,aq];refine wpList_readTo rfl (ζ 5) rfl ?_ ?_ ?_;rotate_left
 ·go_simp;exact rfl
 simp only[ξ,aw,ar,aq];refine wpList_readTo rfl (ζ 6) rfl ?_ ?_ ?_;rotate_left
 ·go_simp;exact rfl
 simp only[ξ,aw,ar,aq];refine wpList_readTo rfl (ζ 7) rfl ?_ ?_ ?_;rotate_left
 ·go_simp;exact rfl
 simp only[ξ,aw,ar,aq];refine wpList_readTo rfl (ζ 8) rfl ?_ ?_ ?_;rotate_left
 ·go_simp;exact rfl
 simp only[ξ,aw,ar,aq];refine wpList_allocTo rfl (ζ 3) rfl ?_ (δ #[J 0,J 0,J 0,J 0,J 0,J 0,J 0,J 0,J 0,J 0,J 0,J 0,J 0,J 0,J 0,J 0,J 0,Β ρ,μ ⟨#[]⟩,J 0] 36) ?_ ?_;rotate_left
 ·go_simp;exact rfl
 simp only[ξ,aw,ar,aq];refine Jbu rfl 36 (.tmp 3) (.tmp 8) rfl W1.heap.size #[J k,J s,J n,J 0,J 0,J 0,J 0,J 0,J 0,J 0,J 0,J 0,J 0,J 0,J 0,J 0,J 0,Β ρ,μ ⟨#[]⟩,J 0] rfl rfl 36 #[J 0,J 0,J 0,J 0,J 0,J 0,J 0,J 0,J 0,J 0,J 0,J 0,J 0,J 0,J 0,J 0,J 0,Β ρ,μ ⟨#[]⟩,J 0] (heap_alloc_last _ _) (by kernel_rfl) rfl (by simp[Τ]) ?_;rw[World.setRow_alloc_new];obtain⟨W2,eU⟩:=aB (W1.alloc (δ #[J k,J s,J n,J 0,J 0,J 0,J 0,J 0,J 0,J 0,J 0,J 0,J 0,J 0,J 0,J 0,J 0,Β ρ,μ ⟨#[]⟩,J 0] 36));obtain⟨g2,mA⟩:=aB W1.heap.size;have HN:Hid (Whole W2 g2 36 [J k,J s,J n,J 0,J 0,J 0,J 0,J 0,J 0,J 0,J 0,J 0,J 0,J 0,J 0,J 0,J 0,Β ρ,μ ⟨#[]⟩,J 0]):=qh (by rw[←eU,←mA];exact Whole.new_ W1 _ [J k,J s,J n,J 0,J 0,J 0,J 0,J 0,J 0,J 0,J 0,J 0,J 0,J 0,J 0,J 0,J 0,Β ρ,μ ⟨#[]⟩,J 0])
 have iN:=qh (show Whole W2 g0 _ _ from eU▸HO.out.alloc _);have tL:=qh (show Whole W2 (g0+1) _ _ from eU▸HR.out.alloc _);have bG:=qh (show σ w.heap.size w W2 from eU▸HB.out.alloc HB.out.size _);have l0:=iN.out.cell (i:=0) rfl;rw[eU,mA];clear eU mA;go_upto_region 13 with fail
 refine Jam ?_;refine wpList_load_row rfl 36 (.tmp 3) rfl g2 rfl 36 #[J k,J s,J n,J 0,J 0,J 0,J 0,J 0,J 0,J 0,J 0,J 0,J 0,J 0,J 0,J 0,J 0,Β ρ,μ ⟨#[]⟩,J 0] (0,0) _ HN.out Tryz.underlying36 rfl (by kernel_rfl) ?_;simp only[ξ,aw,ar,aq];refine Jbu rfl 36 (.tmp 2) (.tmp 51) rfl (g0+1) #[J k,J s,J n,J 0,J 0,J 0,J 0,J 0,J 0,J 0,J 0,J 0,J 0,J 0,J 0,J 0,J 0,Β ρ,μ ⟨#[]⟩,J 0] rfl rfl 36 #[J 0,J 0,J 0,J 0,J 0,J 0,J 0,J 0,J 0,J 0,J 0,J 0,J 0,J 0,J 0,J 0,J 0,Β ρ,μ ⟨#[]⟩,J 0] tL.out (by kernel_rfl) rfl (by simp[Τ]) ?_;have o8:Hid (Whole (W2.setRow (g0+1) #[J k,J s,J n,J 0,J 0,J 0,J 0,J 0,J 0,J 0,J 0,J 0,J 0,J 0,J 0,J 0,J 0,Β ρ,μ ⟨#[]⟩,J 0]) (g0+1) 36 [J k,J s,J n,J 0,J 0,J 0,J 0,J 0,J 0,J 0,J 0,J 0,J 0,J 0,J 0,J 0,J 0,Β ρ,μ ⟨#[]⟩,J 0]):=qh (setRow_heap W2 (g0+1) _ _ _ _ tL.out)
 have bB:Hid (σ w.heap.size w (W2.setRow (g0+1) #[J k,J s,J n,J 0,J 0,J 0,J 0,J 0,J 0,J 0,J 0,J 0,J 0,J 0,J 0,J 0,J 0,Β ρ,μ ⟨#[]⟩,J 0])):=qh ⟨bG.out.os,bG.out.tape,bG.out.output,(by have:=bG.out.size;simpa [World.setRow] using this),fun i hi=>(setRow_other W2 (g0+1) i _ (by have:=Ce.out;omega)).trans (bG.out.block i hi)⟩;obtain⟨W3,kh⟩:=aB (W2.setRow (g0+1) #[J k,J s,J n,J 0,J 0,J 0,J 0,J 0,J 0,J 0,J 0,J 0,J 0,J 0,J 0,J 0,J 0,Β ρ,μ ⟨#[]⟩,J 0]);rw[kh] at o8 bB ⊢;clear kh;go_wp2;exact JaN (v:=φ #[J k,J s,J n,J 0,J 0,J 0,J 0,J 0,J 0,J 0,J 0,J 0,J 0,J 0,J 0,J 0,J 0,Β ρ,μ ⟨#[]⟩,J 0]) (results_cell_row Tryz.results66 _ W3 (g0+1) 36 #[J k,J s,J n,J 0,J 0,J 0,J 0,J 0,J 0,J 0,J 0,J 0,J 0,J 0,J 0,J 0,J 0,Β ρ,μ ⟨#[]⟩,J 0] (0,0) _ (by rfl) o8.out Tryz.underlying36 rfl (by kernel_rfl)) rfl ⟨rfl,bB.out⟩
theorem UH (s n s1 n1 s2 n2 a0 a1 a2 a3 a4 b0 b1 b2 b3 b4:Int) (e:Bool) (t:ByteArray) (m:Int):Pure 66 #[φ #[J 6,J s,J n,J s1,J n1,J s2,J n2,J a0,J a1,J a2,J a3,J a4,J b0,J b1,J b2,J b3,J b4,Β e,μ t,J m]] (φ #[J 6,J s,J n,J 0,J 0,J s2,J n2,J 0,J 0,J 0,J 0,J 0,J 0,J 0,J 0,J 0,J 0,Β ρ,μ ⟨#[]⟩,J 0]):=fun w=>by
 go_enter Tryz.func66,Tryz.ntmps66;go_upto_region 1 with fail
 obtain⟨W1,aV⟩:=aB ((w.alloc (δ #[J 6,J s,J n,J s1,J n1,J s2,J n2,J a0,J a1,J a2,J a3,J a4,J b0,J b1,J b2,J b3,J b4,Β e,μ t,J m] 36)).alloc (δ #[J 0,J 0,J 0,J 0,J 0,J 0,J 0,J 0,J 0,J 0,J 0,J 0,J 0,J 0,J 0,J 0,J 0,Β ρ,μ ⟨#[]⟩,J 0] 36));have hO:Whole W1 w.heap.size 36 [J 6,J s,J n,J s1,J n1,J s2,J n2,J a0,J a1,J a2,J a3,J a4,J b0,J b1,J b2,J b3,J b4,Β e,μ t,J m]:=by rw[←aV];exact(Whole.new_ w _ [J 6,J s,J n,J s1,J n1,J s2,J n2,J a0,J a1,J a2,J a3,J a4,J b0,J b1,J b2,J b3,J b4,Β e,μ t,J m]).alloc _
 have hR:Whole W1 (w.heap.size+1) 36 [J 0,J 0,J 0,J 0,J 0,J 0,J 0,J 0,J 0,J 0,J 0,J 0,J 0,J 0,J 0,J 0,J 0,Β ρ,μ ⟨#[]⟩,J 0]:=by rw[←aV];exact Whole.new2 (cs:=[J 0,J 0,J 0,J 0,J 0,J 0,J 0,J 0,J 0,J 0,J 0,J 0,J 0,J 0,J 0,J 0,J 0,Β ρ,μ ⟨#[]⟩,J 0]) (by simp)
 have hB:σ w.heap.size w W1:=by rw[←aV];exact cr _ _ _
 rw[aV];clear aV;have HO:=qh hO;have HR:=qh hR;have HB:=qh hB;have l0:=hO.cell (i:=0) rfl;have l1:=hO.cell (i:=1) rfl;have l2:=hO.cell (i:=2) rfl;clear hO hR hB;obtain⟨g0,pE⟩:=aB w.heap.size;rw[pE] at HO HR l0 l1 l2 ⊢;have Ce:Hid (w.heap.size≤g0):=qh (by omega);clear pE;refine Jam ?_;refine wpList_readTo rfl (ζ 4) rfl ?_ ?_ ?_;rotate_left
 ·go_simp;exact rfl
 simp only[ξ,aw,ar,aq];refine wpList_readTo rfl (ζ 5) rfl ?_ ?_ ?_;rotate_left
 ·go_simp;exact rfl
 simp only[ξ,aw,ar,aq];refine wpList_readTo rfl (ζ 6) rfl ?_ ?_ ?_;rotate_left
 ·go_simp;exact rfl
 simp only[ξ,aw,ar,aq];refine wpList_readTo rfl (ζ 7) rfl ?_ ?_ ?_;rotate_left
 ·go_simp;exact rfl
 simp only[ξ,aw,ar,aq];refine wpList_readTo rfl (ζ 8) rfl ?_ ?_ ?_;rotate_left
 ·go_simp;exact rfl
 simp only[ξ,aw,ar,aq];refine wpList_allocTo rfl (ζ 3) rfl ?_ (δ #[J 0,J 0,J 0,J 0,J 0,J 0,J 0,J 0,J 0,J 0,J 0,J 0,J 0,J 0,J 0,J 0,J 0,Β ρ,μ ⟨#[]⟩,J 0] 36) ?_ ?_;rotate_left
 ·go_simp;exact rfl
 simp only[ξ,aw,ar,aq];refine Jbu rfl 36 (.tmp 3) (.tmp 8) rfl W1.heap.size #[J 6,J s,J n,J 0,J 0,J 0,J 0,J 0,J 0,J 0,J 0,J 0,J 0,J 0,J 0,J 0,J 0,Β ρ,μ ⟨#[]⟩,J 0] rfl rfl 36 #[J 0,J 0,J 0,J 0,J 0,J 0,J 0,J 0,J 0,J 0,J 0,J 0,J 0,J 0,J 0,J 0,J 0,Β ρ,μ ⟨#[]⟩,J 0] (heap_alloc_last _ _) (by kernel_rfl) rfl (by simp[Τ]) ?_;rw[World.setRow_alloc_new];obtain⟨W2,eU⟩:=aB (W1.alloc (δ #[J 6,J s,J n,J 0,J 0,J 0,J 0,J 0,J 0,J 0,J 0,J 0,J 0,J 0,J 0,J 0,J 0,Β ρ,μ ⟨#[]⟩,J 0] 36));obtain⟨g2,mA⟩:=aB W1.heap.size;have HN:Hid (Whole W2 g2 36 [J 6,J s,J n,J 0,J 0,J 0,J 0,J 0,J 0,J 0,J 0,J 0,J 0,J 0,J 0,J 0,J 0,Β ρ,μ ⟨#[]⟩,J 0]):=qh (by rw[←eU,←mA];exact Whole.new_ W1 _ [J 6,J s,J n,J 0,J 0,J 0,J 0,J 0,J 0,J 0,J 0,J 0,J 0,J 0,J 0,J 0,J 0,Β ρ,μ ⟨#[]⟩,J 0])
 have iN:=qh (show Whole W2 g0 _ _ from eU▸HO.out.alloc _);have tL:=qh (show Whole W2 (g0+1) _ _ from eU▸HR.out.alloc _);have bG:=qh (show σ w.heap.size w W2 from eU▸HB.out.alloc HB.out.size _);have l0:=iN.out.cell (i:=0) rfl;have uS:Hid (g0+1≠g2):=qh (by have:=HR.out.lt;omega);have dQ:Hid (w.heap.size≤g2):=qh (by have:=HB.out.size;omega);rw[eU,mA];clear eU mA;have m5:=iN.out.cell (i:=5) rfl;have y5:=HN.out.cell (i:=5) rfl;have z5:=HN.out.free 5;have m6:=iN.out.cell (i:=6) rfl;have y6:=HN.out.cell (i:=6) rfl;have z6:=HN.out.free 6;go_upto_region 13 with fail
 clear m5 m6 y5 y6 z5 z6;obtain⟨qo,OP⟩:=aB ((W2.setCell ⟨g2,5,ε⟩ (J s2)).setCell ⟨g2,6,ε⟩ (J n2));have QD:Hid (Whole qo g2 36 [J 6,J s,J n,J 0,J 0,J s2,J n2,J 0,J 0,J 0,J 0,J 0,J 0,J 0,J 0,J 0,J 0,Β ρ,μ ⟨#[]⟩,J 0]):=qh (OP▸(HN.out.set_ 5 _).set_ 6 _);have sI:Hid (Whole qo (g0+1) 36 [J 0,J 0,J 0,J 0,J 0,J 0,J 0,J 0,J 0,J 0,J 0,J 0,J 0,J 0,J 0,J 0,J 0,Β ρ,μ ⟨#[]⟩,J 0]):=qh (OP▸(tL.out.far (by show g0+1≠g2;exact uS.out) _).far (by show g0+1≠g2;exact uS.out) _);have jb:Hid (σ w.heap.size w qo):=qh (OP▸(bG.out.setCell (by show w.heap.size≤g2;exact dQ.out) _).setCell (by show w.heap.size≤g2;exact dQ.out) _);rw[OP];clear OP;refine Jam ?_;refine wpList_load_row rfl 36 (.tmp 3) rfl g2 rfl 36 #[J 6,J s,J n,J 0,J 0,J s2,J n2,J 0,J 0,J 0,J 0,J 0,J 0,J 0,J 0,J 0,J 0,Β ρ,μ ⟨#[]⟩,J 0] (0,0) _ QD.out Tryz.underlying36 rfl (by kernel_rfl) ?_;simp only[ξ,aw,ar,aq];refine Jbu rfl 36 (.tmp 2) (.tmp 51) rfl (g0+1) #[J 6,J s,J n,J 0,J 0,J s2,J n2,J 0,J 0,J 0,J 0,J 0,J 0,J 0,J 0,J 0,J 0,Β ρ,μ ⟨#[]⟩,J 0] rfl rfl 36 #[J 0,J 0,J 0,J 0,J 0,J 0,J 0,J 0,J 0,J 0,J 0,J 0,J 0,J 0,J 0,J 0,J 0,Β ρ,μ ⟨#[]⟩,J 0] sI.out (by kernel_rfl) rfl (by simp[Τ]) ?_
 have o8:Hid (Whole (qo.setRow (g0+1) #[J 6,J s,J n,J 0,J 0,J s2,J n2,J 0,J 0,J 0,J 0,J 0,J 0,J 0,J 0,J 0,J 0,Β ρ,μ ⟨#[]⟩,J 0]) (g0+1) 36 [J 6,J s,J n,J 0,J 0,J s2,J n2,J 0,J 0,J 0,J 0,J 0,J 0,J 0,J 0,J 0,J 0,Β ρ,μ ⟨#[]⟩,J 0]):=qh (setRow_heap qo (g0+1) _ _ _ _ sI.out);have bB:Hid (σ w.heap.size w (qo.setRow (g0+1) #[J 6,J s,J n,J 0,J 0,J s2,J n2,J 0,J 0,J 0,J 0,J 0,J 0,J 0,J 0,J 0,J 0,Β ρ,μ ⟨#[]⟩,J 0])):=qh ⟨jb.out.os,jb.out.tape,jb.out.output,(by have:=jb.out.size;simpa [World.setRow] using this),fun i hi=>(setRow_other qo (g0+1) i _ (by have:=Ce.out;omega)).trans (jb.out.block i hi)⟩;obtain⟨W3,kh⟩:=aB (qo.setRow (g0+1) #[J 6,J s,J n,J 0,J 0,J s2,J n2,J 0,J 0,J 0,J 0,J 0,J 0,J 0,J 0,J 0,J 0,Β ρ,μ ⟨#[]⟩,J 0]);rw[kh] at o8 bB ⊢;clear kh;go_wp2;exact JaN (v:=φ #[J 6,J s,J n,J 0,J 0,J s2,J n2,J 0,J 0,J 0,J 0,J 0,J 0,J 0,J 0,J 0,J 0,Β ρ,μ ⟨#[]⟩,J 0]) (results_cell_row Tryz.results66 _ W3 (g0+1) 36 #[J 6,J s,J n,J 0,J 0,J s2,J n2,J 0,J 0,J 0,J 0,J 0,J 0,J 0,J 0,J 0,J 0,Β ρ,μ ⟨#[]⟩,J 0] (0,0) _ (by rfl) o8.out Tryz.underlying36 rfl (by kernel_rfl)) rfl ⟨rfl,bB.out⟩
theorem Wi (s n s1 n1 s2 n2 a0 a1 a2 a3 a4 b0 b1 b2 b3 b4:Int) (e:Bool) (t:ByteArray) (m:Int):Pure 66 #[φ #[J 3,J s,J n,J s1,J n1,J s2,J n2,J a0,J a1,J a2,J a3,J a4,J b0,J b1,J b2,J b3,J b4,Β e,μ t,J m]] (φ #[J 3,J s,J n,J 0,J 0,J 0,J 0,J a0,J a1,J a2,J a3,J a4,J b0,J b1,J b2,J b3,J b4,Β ρ,μ ⟨#[]⟩,J 0]):=fun w=>by
 go_enter Tryz.func66,Tryz.ntmps66;go_upto_region 1 with fail
 obtain⟨W1,aV⟩:=aB ((w.alloc (δ #[J 3,J s,J n,J s1,J n1,J s2,J n2,J a0,J a1,J a2,J a3,J a4,J b0,J b1,J b2,J b3,J b4,Β e,μ t,J m] 36)).alloc (δ #[J 0,J 0,J 0,J 0,J 0,J 0,J 0,J 0,J 0,J 0,J 0,J 0,J 0,J 0,J 0,J 0,J 0,Β ρ,μ ⟨#[]⟩,J 0] 36));have hO:Whole W1 w.heap.size 36 [J 3,J s,J n,J s1,J n1,J s2,J n2,J a0,J a1,J a2,J a3,J a4,J b0,J b1,J b2,J b3,J b4,Β e,μ t,J m]:=by rw[←aV];exact(Whole.new_ w _ [J 3,J s,J n,J s1,J n1,J s2,J n2,J a0,J a1,J a2,J a3,J a4,J b0,J b1,J b2,J b3,J b4,Β e,μ t,J m]).alloc _
 have hR:Whole W1 (w.heap.size+1) 36 [J 0,J 0,J 0,J 0,J 0,J 0,J 0,J 0,J 0,J 0,J 0,J 0,J 0,J 0,J 0,J 0,J 0,Β ρ,μ ⟨#[]⟩,J 0]:=by rw[←aV];exact Whole.new2 (cs:=[J 0,J 0,J 0,J 0,J 0,J 0,J 0,J 0,J 0,J 0,J 0,J 0,J 0,J 0,J 0,J 0,J 0,Β ρ,μ ⟨#[]⟩,J 0]) (by simp)
 have hB:σ w.heap.size w W1:=by rw[←aV];exact cr _ _ _
 rw[aV];clear aV;have HO:=qh hO;have HR:=qh hR;have HB:=qh hB;have l0:=hO.cell (i:=0) rfl;have l1:=hO.cell (i:=1) rfl;have l2:=hO.cell (i:=2) rfl;clear hO hR hB;obtain⟨g0,pE⟩:=aB w.heap.size;rw[pE] at HO HR l0 l1 l2 ⊢;have Ce:Hid (w.heap.size≤g0):=qh (by omega);clear pE;refine Jam ?_;refine wpList_readTo rfl (ζ 4) rfl ?_ ?_ ?_;rotate_left
 ·go_simp;exact rfl
 simp only[ξ,aw,ar,aq];refine wpList_readTo rfl (ζ 5) rfl ?_ ?_ ?_;rotate_left
 ·go_simp;exact rfl
 simp only[ξ,aw,ar,aq];refine wpList_readTo rfl (ζ 6) rfl ?_ ?_ ?_;rotate_left
 ·go_simp;exact rfl
 simp only[ξ,aw,ar,aq];refine wpList_readTo rfl (ζ 7) rfl ?_ ?_ ?_;rotate_left
 ·go_simp;exact rfl
 simp only[ξ,aw,ar,aq];refine wpList_readTo rfl (ζ 8) rfl ?_ ?_ ?_;rotate_left
 ·go_simp;exact rfl
 simp only[ξ,aw,ar,aq];refine wpList_allocTo rfl (ζ 3) rfl ?_ (δ #[J 0,J 0,J 0,J 0,J 0,J 0,J 0,J 0,J 0,J 0,J 0,J 0,J 0,J 0,J 0,J 0,J 0,Β ρ,μ ⟨#[]⟩,J 0] 36) ?_ ?_;rotate_left
 ·go_simp;exact rfl
 simp only[ξ,aw,ar,aq];refine Jbu rfl 36 (.tmp 3) (.tmp 8) rfl W1.heap.size #[J 3,J s,J n,J 0,J 0,J 0,J 0,J 0,J 0,J 0,J 0,J 0,J 0,J 0,J 0,J 0,J 0,Β ρ,μ ⟨#[]⟩,J 0] rfl rfl 36 #[J 0,J 0,J 0,J 0,J 0,J 0,J 0,J 0,J 0,J 0,J 0,J 0,J 0,J 0,J 0,J 0,J 0,Β ρ,μ ⟨#[]⟩,J 0] (heap_alloc_last _ _) (by kernel_rfl) rfl (by simp[Τ]) ?_;rw[World.setRow_alloc_new];obtain⟨W2,eU⟩:=aB (W1.alloc (δ #[J 3,J s,J n,J 0,J 0,J 0,J 0,J 0,J 0,J 0,J 0,J 0,J 0,J 0,J 0,J 0,J 0,Β ρ,μ ⟨#[]⟩,J 0] 36));obtain⟨g2,mA⟩:=aB W1.heap.size;have HN:Hid (Whole W2 g2 36 [J 3,J s,J n,J 0,J 0,J 0,J 0,J 0,J 0,J 0,J 0,J 0,J 0,J 0,J 0,J 0,J 0,Β ρ,μ ⟨#[]⟩,J 0]):=qh (by rw[←eU,←mA];exact Whole.new_ W1 _ [J 3,J s,J n,J 0,J 0,J 0,J 0,J 0,J 0,J 0,J 0,J 0,J 0,J 0,J 0,J 0,J 0,Β ρ,μ ⟨#[]⟩,J 0])
 have iN:=qh (show Whole W2 g0 _ _ from eU▸HO.out.alloc _);have tL:=qh (show Whole W2 (g0+1) _ _ from eU▸HR.out.alloc _);have bG:=qh (show σ w.heap.size w W2 from eU▸HB.out.alloc HB.out.size _);have l0:=iN.out.cell (i:=0) rfl;have uS:Hid (g0+1≠g2):=qh (by have:=HR.out.lt;omega);have xO:Hid (¬g0=g2):=qh (by have:=HR.out.lt;omega);have dQ:Hid (w.heap.size≤g2):=qh (by have:=HB.out.size;omega);rw[eU,mA];clear eU mA;go_upto_region 4 with fail
 have f7:∀w',Kept (fun i=>i=g2) W2.drew w'→w'.cell? ⟨g0,7,ε⟩=ζ (J a0):=fun w' h=>h.cell (iN.out.drew.cell (i:=7) rfl) (fun e=>absurd (show g0=g2 from e) xO.out)
 have f8:∀w',Kept (fun i=>i=g2) W2.drew w'→w'.cell? ⟨g0,8,ε⟩=ζ (J a1):=fun w' h=>h.cell (iN.out.drew.cell (i:=8) rfl) (fun e=>absurd (show g0=g2 from e) xO.out)
 have f9:∀w',Kept (fun i=>i=g2) W2.drew w'→w'.cell? ⟨g0,9,ε⟩=ζ (J a2):=fun w' h=>h.cell (iN.out.drew.cell (i:=9) rfl) (fun e=>absurd (show g0=g2 from e) xO.out)
 have f10:∀w',Kept (fun i=>i=g2) W2.drew w'→w'.cell? ⟨g0,10,ε⟩=ζ (J a3):=fun w' h=>h.cell (iN.out.drew.cell (i:=10) rfl) (fun e=>absurd (show g0=g2 from e) xO.out)
 have f11:∀w',Kept (fun i=>i=g2) W2.drew w'→w'.cell? ⟨g0,11,ε⟩=ζ (J a4):=fun w' h=>h.cell (iN.out.drew.cell (i:=11) rfl) (fun e=>absurd (show g0=g2 from e) xO.out)
 have f12:∀w',Kept (fun i=>i=g2) W2.drew w'→w'.cell? ⟨g0,12,ε⟩=ζ (J b0):=fun w' h=>h.cell (iN.out.drew.cell (i:=12) rfl) (fun e=>absurd (show g0=g2 from e) xO.out)
 have f13:∀w',Kept (fun i=>i=g2) W2.drew w'→w'.cell? ⟨g0,13,ε⟩=ζ (J b1):=fun w' h=>h.cell (iN.out.drew.cell (i:=13) rfl) (fun e=>absurd (show g0=g2 from e) xO.out)
 have f14:∀w',Kept (fun i=>i=g2) W2.drew w'→w'.cell? ⟨g0,14,ε⟩=ζ (J b2):=fun w' h=>h.cell (iN.out.drew.cell (i:=14) rfl) (fun e=>absurd (show g0=g2 from e) xO.out)
 have f15:∀w',Kept (fun i=>i=g2) W2.drew w'→w'.cell? ⟨g0,15,ε⟩=ζ (J b3):=fun w' h=>h.cell (iN.out.drew.cell (i:=15) rfl) (fun e=>absurd (show g0=g2 from e) xO.out)
 have f16:∀w',Kept (fun i=>i=g2) W2.drew w'→w'.cell? ⟨g0,16,ε⟩=ζ (J b4):=fun w' h=>h.cell (iN.out.drew.cell (i:=16) rfl) (fun e=>absurd (show g0=g2 from e) xO.out)
 have Et:Hid (Whole W2.drew g2 _ _):=qh HN.out.drew;have Iw:Hid (Whole W2.drew (g0+1) _ _):=qh tL.out.drew;have sx:Hid (σ w.heap.size w W2.drew):=qh bG.out.drew;refine ay (fun i=>i=g2) (by kernel_rfl) ?_;refine aa 0 ?_;refine aa 1 ?_;refine aa 2 ?_;refine aa 3 ?_;refine aa 4 ?_;refine gI 5 ?_;intro w' aC;have eh:=qh (Et.out.below aC);have tW:=qh (Iw.out.below aC);have uy:=qh (sx.out.trans (aC.mono sx.out.size));have y7:=eh.out.cell (i:=7) rfl;have z7:=eh.out.free 7;have y8:=eh.out.cell (i:=8) rfl;have z8:=eh.out.free 8;have y9:=eh.out.cell (i:=9) rfl;have z9:=eh.out.free 9;have y10:=eh.out.cell (i:=10) rfl;have z10:=eh.out.free 10;have y11:=eh.out.cell (i:=11) rfl;have z11:=eh.out.free 11;apply JaG;apply Jax
 ·go_simp;exact rfl
 apply Jax
 ·exact((((((Kept.refl (fun i=>i=g2) _).setCell (.inl (show g2=g2 from rfl)) _).setCell (.inl (show g2=g2 from rfl)) _).setCell (.inl (show g2=g2 from rfl)) _).setCell (.inl (show g2=g2 from rfl)) _).setCell (.inl (show g2=g2 from rfl)) _)
 obtain⟨V0,xC⟩:=aB ((((((w').setCell ⟨g2,7,ε⟩ (J a0)).setCell ⟨g2,8,ε⟩ (J a1)).setCell ⟨g2,9,ε⟩ (J a2)).setCell ⟨g2,10,ε⟩ (J a3)).setCell ⟨g2,11,ε⟩ (J a4));have KT:=qh (show Whole V0 g2 _ _ from xC▸(((((eh.out.set_ 7 _).set_ 8 _).set_ 9 _).set_ 10 _).set_ 11 _));have D7:=qh (show Whole V0 (g0+1) _ _ from xC▸(((((tW.out.far (by show g0+1≠g2;exact uS.out) _).far (by show g0+1≠g2;exact uS.out) _).far (by show g0+1≠g2;exact uS.out) _).far (by show g0+1≠g2;exact uS.out) _).far (by show g0+1≠g2;exact uS.out) _));have bw:=qh (show σ w.heap.size w V0 from xC▸(((((uy.out.setCell (by show w.heap.size≤g2;exact dQ.out) _).setCell (by show w.heap.size≤g2;exact dQ.out) _).setCell (by show w.heap.size≤g2;exact dQ.out) _).setCell (by show w.heap.size≤g2;exact dQ.out) _).setCell (by show w.heap.size≤g2;exact dQ.out) _));rw[xC];clear xC aC eh tW uy y7 z7 y8 z8 y9 z9 y10 z10 y11 z11;(try simp only[ξ,aw,ar,aq]);refine aa 6 ?_;refine gI 7 ?_;intro w' aC;have eh:=qh (KT.out.below aC);have tW:=qh (D7.out.below aC);have uy:=qh (bw.out.trans (aC.mono bw.out.size));have y12:=eh.out.cell (i:=12) rfl;have z12:=eh.out.free 12;have y13:=eh.out.cell (i:=13) rfl;have z13:=eh.out.free 13;have y14:=eh.out.cell (i:=14) rfl;have z14:=eh.out.free 14;have y15:=eh.out.cell (i:=15) rfl;have z15:=eh.out.free 15;have y16:=eh.out.cell (i:=16) rfl;have z16:=eh.out.free 16;apply JaG;apply Jax
 ·go_simp;exact rfl
 apply Jax
 ·exact((((((Kept.refl (fun i=>i=g2) _).setCell (.inl (show g2=g2 from rfl)) _).setCell (.inl (show g2=g2 from rfl)) _).setCell (.inl (show g2=g2 from rfl)) _).setCell (.inl (show g2=g2 from rfl)) _).setCell (.inl (show g2=g2 from rfl)) _)
 obtain⟨V1,fD⟩:=aB ((((((w').setCell ⟨g2,12,ε⟩ (J b0)).setCell ⟨g2,13,ε⟩ (J b1)).setCell ⟨g2,14,ε⟩ (J b2)).setCell ⟨g2,15,ε⟩ (J b3)).setCell ⟨g2,16,ε⟩ (J b4));have Ed:=qh (show Whole V1 g2 _ _ from fD▸(((((eh.out.set_ 12 _).set_ 13 _).set_ 14 _).set_ 15 _).set_ 16 _));have lR:=qh (show Whole V1 (g0+1) _ _ from fD▸(((((tW.out.far (by show g0+1≠g2;exact uS.out) _).far (by show g0+1≠g2;exact uS.out) _).far (by show g0+1≠g2;exact uS.out) _).far (by show g0+1≠g2;exact uS.out) _).far (by show g0+1≠g2;exact uS.out) _));have bE:=qh (show σ w.heap.size w V1 from fD▸(((((uy.out.setCell (by show w.heap.size≤g2;exact dQ.out) _).setCell (by show w.heap.size≤g2;exact dQ.out) _).setCell (by show w.heap.size≤g2;exact dQ.out) _).setCell (by show w.heap.size≤g2;exact dQ.out) _).setCell (by show w.heap.size≤g2;exact dQ.out) _));rw[fD];clear fD aC eh tW uy y12 z12 y13 z13 y14 z14 y15 z15 y16 z16;(try simp only[ξ,aw,ar,aq]);refine aF (by kernel_rfl) ?_ _;intro qo aC;have QD:=qh (Ed.out.below aC);have sI:=qh (lR.out.below aC);have jb:=qh (bE.out.trans (aC.mono bE.out.size));clear aC;go_upto_region 13 with fail
 refine Jam ?_;refine wpList_load_row rfl 36 (.tmp 3) rfl g2 rfl 36 #[J 3,J s,J n,J 0,J 0,J 0,J 0,J a0,J a1,J a2,J a3,J a4,J b0,J b1,J b2,J b3,J b4,Β ρ,μ ⟨#[]⟩,J 0] (0,0) _ QD.out Tryz.underlying36 rfl (by kernel_rfl) ?_;simp only[ξ,aw,ar,aq];refine Jbu rfl 36 (.tmp 2) (.tmp 51) rfl (g0+1) #[J 3,J s,J n,J 0,J 0,J 0,J 0,J a0,J a1,J a2,J a3,J a4,J b0,J b1,J b2,J b3,J b4,Β ρ,μ ⟨#[]⟩,J 0] rfl rfl 36 #[J 0,J 0,J 0,J 0,J 0,J 0,J 0,J 0,J 0,J 0,J 0,J 0,J 0,J 0,J 0,J 0,J 0,Β ρ,μ ⟨#[]⟩,J 0] sI.out (by kernel_rfl) rfl (by simp[Τ]) ?_;have o8:Hid (Whole (qo.setRow (g0+1) #[J 3,J s,J n,J 0,J 0,J 0,J 0,J a0,J a1,J a2,J a3,J a4,J b0,J b1,J b2,J b3,J b4,Β ρ,μ ⟨#[]⟩,J 0]) (g0+1) 36 [J 3,J s,J n,J 0,J 0,J 0,J 0,J a0,J a1,J a2,J a3,J a4,J b0,J b1,J b2,J b3,J b4,Β ρ,μ ⟨#[]⟩,J 0]):=qh (setRow_heap qo (g0+1) _ _ _ _ sI.out)
 have bB:Hid (σ w.heap.size w (qo.setRow (g0+1) #[J 3,J s,J n,J 0,J 0,J 0,J 0,J a0,J a1,J a2,J a3,J a4,J b0,J b1,J b2,J b3,J b4,Β ρ,μ ⟨#[]⟩,J 0])):=qh ⟨jb.out.os,jb.out.tape,jb.out.output,(by have:=jb.out.size;simpa [World.setRow] using this),fun i hi=>(setRow_other qo (g0+1) i _ (by have:=Ce.out;omega)).trans (jb.out.block i hi)⟩;obtain⟨W3,kh⟩:=aB (qo.setRow (g0+1) #[J 3,J s,J n,J 0,J 0,J 0,J 0,J a0,J a1,J a2,J a3,J a4,J b0,J b1,J b2,J b3,J b4,Β ρ,μ ⟨#[]⟩,J 0]);rw[kh] at o8 bB ⊢;clear kh;go_wp2;exact JaN (v:=φ #[J 3,J s,J n,J 0,J 0,J 0,J 0,J a0,J a1,J a2,J a3,J a4,J b0,J b1,J b2,J b3,J b4,Β ρ,μ ⟨#[]⟩,J 0]) (results_cell_row Tryz.results66 _ W3 (g0+1) 36 #[J 3,J s,J n,J 0,J 0,J 0,J 0,J a0,J a1,J a2,J a3,J a4,J b0,J b1,J b2,J b3,J b4,Β ρ,μ ⟨#[]⟩,J 0] (0,0) _ (by rfl) o8.out Tryz.underlying36 rfl (by kernel_rfl)) rfl ⟨rfl,bB.out⟩
theorem Ug (s n s1 n1 s2 n2 a0 a1 a2 a3 a4 b0 b1 b2 b3 b4:Int) (e:Bool) (t:ByteArray) (m:Int):Pure 66 #[φ #[J 5,J s,J n,J s1,J n1,J s2,J n2,J a0,J a1,J a2,J a3,J a4,J b0,J b1,J b2,J b3,J b4,Β e,μ t,J m]] (φ #[J 5,J s,J n,J s1,J n1,J s2,J n2,J 0,J 0,J 0,J 0,J 0,J 0,J 0,J 0,J 0,J 0,Β ρ,μ ⟨#[]⟩,J m]):=fun w=>by
 go_enter Tryz.func66,Tryz.ntmps66;go_upto_region 1 with fail
 obtain⟨W1,aV⟩:=aB ((w.alloc (δ #[J 5,J s,J n,J s1,J n1,J s2,J n2,J a0,J a1,J a2,J a3,J a4,J b0,J b1,J b2,J b3,J b4,Β e,μ t,J m] 36)).alloc (δ #[J 0,J 0,J 0,J 0,J 0,J 0,J 0,J 0,J 0,J 0,J 0,J 0,J 0,J 0,J 0,J 0,J 0,Β ρ,μ ⟨#[]⟩,J 0] 36));have hO:Whole W1 w.heap.size 36 [J 5,J s,J n,J s1,J n1,J s2,J n2,J a0,J a1,J a2,J a3,J a4,J b0,J b1,J b2,J b3,J b4,Β e,μ t,J m]:=by rw[←aV];exact(Whole.new_ w _ [J 5,J s,J n,J s1,J n1,J s2,J n2,J a0,J a1,J a2,J a3,J a4,J b0,J b1,J b2,J b3,J b4,Β e,μ t,J m]).alloc _
 have hR:Whole W1 (w.heap.size+1) 36 [J 0,J 0,J 0,J 0,J 0,J 0,J 0,J 0,J 0,J 0,J 0,J 0,J 0,J 0,J 0,J 0,J 0,Β ρ,μ ⟨#[]⟩,J 0]:=by rw[←aV];exact Whole.new2 (cs:=[J 0,J 0,J 0,J 0,J 0,J 0,J 0,J 0,J 0,J 0,J 0,J 0,J 0,J 0,J 0,J 0,J 0,Β ρ,μ ⟨#[]⟩,J 0]) (by simp)
 have hB:σ w.heap.size w W1:=by rw[←aV];exact cr _ _ _
 rw[aV];clear aV;have HO:=qh hO;have HR:=qh hR;have HB:=qh hB;have l0:=hO.cell (i:=0) rfl;have l1:=hO.cell (i:=1) rfl;have l2:=hO.cell (i:=2) rfl;clear hO hR hB;obtain⟨g0,pE⟩:=aB w.heap.size;rw[pE] at HO HR l0 l1 l2 ⊢;have Ce:Hid (w.heap.size≤g0):=qh (by omega);clear pE;refine Jam ?_;refine wpList_readTo rfl (ζ 4) rfl ?_ ?_ ?_;rotate_left
 ·go_simp;exact rfl
 simp only[ξ,aw,ar,aq];refine wpList_readTo rfl (ζ 5) rfl ?_ ?_ ?_;rotate_left
 ·go_simp;exact rfl
 simp only[ξ,aw,ar,aq];refine wpList_readTo rfl (ζ 6) rfl ?_ ?_ ?_;rotate_left
 ·go_simp;exact rfl
 simp only[ξ,aw,ar,aq];refine wpList_readTo rfl (ζ 7) rfl ?_ ?_ ?_;rotate_left
 ·go_simp;exact rfl
 simp only[ξ,aw,ar,aq];refine wpList_readTo rfl (ζ 8) rfl ?_ ?_ ?_;rotate_left
 ·go_simp;exact rfl
 simp only[ξ,aw,ar,aq];refine wpList_allocTo rfl (ζ 3) rfl ?_ (δ #[J 0,J 0,J 0,J 0,J 0,J 0,J 0,J 0,J 0,J 0,J 0,J 0,J 0,J 0,J 0,J 0,J 0,Β ρ,μ ⟨#[]⟩,J 0] 36) ?_ ?_;rotate_left
 ·go_simp;exact rfl
 simp only[ξ,aw,ar,aq];refine Jbu rfl 36 (.tmp 3) (.tmp 8) rfl W1.heap.size #[J 5,J s,J n,J 0,J 0,J 0,J 0,J 0,J 0,J 0,J 0,J 0,J 0,J 0,J 0,J 0,J 0,Β ρ,μ ⟨#[]⟩,J 0] rfl rfl 36 #[J 0,J 0,J 0,J 0,J 0,J 0,J 0,J 0,J 0,J 0,J 0,J 0,J 0,J 0,J 0,J 0,J 0,Β ρ,μ ⟨#[]⟩,J 0] (heap_alloc_last _ _) (by kernel_rfl) rfl (by simp[Τ]) ?_;rw[World.setRow_alloc_new];obtain⟨W2,eU⟩:=aB (W1.alloc (δ #[J 5,J s,J n,J 0,J 0,J 0,J 0,J 0,J 0,J 0,J 0,J 0,J 0,J 0,J 0,J 0,J 0,Β ρ,μ ⟨#[]⟩,J 0] 36));obtain⟨g2,mA⟩:=aB W1.heap.size;have HN:Hid (Whole W2 g2 36 [J 5,J s,J n,J 0,J 0,J 0,J 0,J 0,J 0,J 0,J 0,J 0,J 0,J 0,J 0,J 0,J 0,Β ρ,μ ⟨#[]⟩,J 0]):=qh (by rw[←eU,←mA];exact Whole.new_ W1 _ [J 5,J s,J n,J 0,J 0,J 0,J 0,J 0,J 0,J 0,J 0,J 0,J 0,J 0,J 0,J 0,J 0,Β ρ,μ ⟨#[]⟩,J 0])
 have iN:=qh (show Whole W2 g0 _ _ from eU▸HO.out.alloc _);have tL:=qh (show Whole W2 (g0+1) _ _ from eU▸HR.out.alloc _);have bG:=qh (show σ w.heap.size w W2 from eU▸HB.out.alloc HB.out.size _);have l0:=iN.out.cell (i:=0) rfl;have uS:Hid (g0+1≠g2):=qh (by have:=HR.out.lt;omega);have xO:Hid (¬g0=g2):=qh (by have:=HR.out.lt;omega);have dQ:Hid (w.heap.size≤g2):=qh (by have:=HB.out.size;omega);rw[eU,mA];clear eU mA;go_upto_region 6 with fail
 have f3:∀w',Kept (fun i=>i=g2) W2.drew w'→w'.cell? ⟨g0,3,ε⟩=ζ (J s1):=fun w' h=>h.cell (iN.out.drew.cell (i:=3) rfl) (fun e=>absurd (show g0=g2 from e) xO.out)
 have f4:∀w',Kept (fun i=>i=g2) W2.drew w'→w'.cell? ⟨g0,4,ε⟩=ζ (J n1):=fun w' h=>h.cell (iN.out.drew.cell (i:=4) rfl) (fun e=>absurd (show g0=g2 from e) xO.out)
 have f5:∀w',Kept (fun i=>i=g2) W2.drew w'→w'.cell? ⟨g0,5,ε⟩=ζ (J s2):=fun w' h=>h.cell (iN.out.drew.cell (i:=5) rfl) (fun e=>absurd (show g0=g2 from e) xO.out)
 have f6:∀w',Kept (fun i=>i=g2) W2.drew w'→w'.cell? ⟨g0,6,ε⟩=ζ (J n2):=fun w' h=>h.cell (iN.out.drew.cell (i:=6) rfl) (fun e=>absurd (show g0=g2 from e) xO.out)
 have f19:∀w',Kept (fun i=>i=g2) W2.drew w'→w'.cell? ⟨g0,19,ε⟩=ζ (J m):=fun w' h=>h.cell (iN.out.drew.cell (i:=19) rfl) (fun e=>absurd (show g0=g2 from e) xO.out)
 have Et:Hid (Whole W2.drew g2 _ _):=qh HN.out.drew;have Iw:Hid (Whole W2.drew (g0+1) _ _):=qh tL.out.drew;have sx:Hid (σ w.heap.size w W2.drew):=qh bG.out.drew;refine ay (fun i=>i=g2) (by kernel_rfl) ?_;refine aa 0 ?_;refine aa 1 ?_;refine aa 2 ?_;refine aa 3 ?_;refine aa 4 ?_;refine aa 5 ?_;refine aa 6 ?_;refine gI 7 ?_;intro w' aC;have eh:=qh (Et.out.below aC);have tW:=qh (Iw.out.below aC);have uy:=qh (sx.out.trans (aC.mono sx.out.size));have y3:=eh.out.cell (i:=3) rfl;have z3:=eh.out.free 3;have y4:=eh.out.cell (i:=4) rfl;have z4:=eh.out.free 4;apply JaG;apply Jax
 ·go_simp;exact rfl
 apply Jax
 ·exact(((Kept.refl (fun i=>i=g2) _).setCell (.inl (show g2=g2 from rfl)) _).setCell (.inl (show g2=g2 from rfl)) _)
 obtain⟨V0,xC⟩:=aB (((w').setCell ⟨g2,3,ε⟩ (J s1)).setCell ⟨g2,4,ε⟩ (J n1));have KT:=qh (show Whole V0 g2 _ _ from xC▸((eh.out.set_ 3 _).set_ 4 _));have D7:=qh (show Whole V0 (g0+1) _ _ from xC▸((tW.out.far (by show g0+1≠g2;exact uS.out) _).far (by show g0+1≠g2;exact uS.out) _));have bw:=qh (show σ w.heap.size w V0 from xC▸((uy.out.setCell (by show w.heap.size≤g2;exact dQ.out) _).setCell (by show w.heap.size≤g2;exact dQ.out) _));rw[xC];clear xC aC eh tW uy y3 z3 y4 z4;(try simp only[ξ,aw,ar,aq]);refine aa 8 ?_;refine gI 9 ?_;intro w' aC;have eh:=qh (KT.out.below aC);have tW:=qh (D7.out.below aC);have uy:=qh (bw.out.trans (aC.mono bw.out.size));have y5:=eh.out.cell (i:=5) rfl;have z5:=eh.out.free 5;have y6:=eh.out.cell (i:=6) rfl;have z6:=eh.out.free 6;apply JaG;apply Jax
 ·go_simp;exact rfl
 apply Jax
 ·exact(((Kept.refl (fun i=>i=g2) _).setCell (.inl (show g2=g2 from rfl)) _).setCell (.inl (show g2=g2 from rfl)) _)
 obtain⟨V1,fD⟩:=aB (((w').setCell ⟨g2,5,ε⟩ (J s2)).setCell ⟨g2,6,ε⟩ (J n2));have Ed:=qh (show Whole V1 g2 _ _ from fD▸((eh.out.set_ 5 _).set_ 6 _));have lR:=qh (show Whole V1 (g0+1) _ _ from fD▸((tW.out.far (by show g0+1≠g2;exact uS.out) _).far (by show g0+1≠g2;exact uS.out) _));have bE:=qh (show σ w.heap.size w V1 from fD▸((uy.out.setCell (by show w.heap.size≤g2;exact dQ.out) _).setCell (by show w.heap.size≤g2;exact dQ.out) _));rw[fD];clear fD aC eh tW uy y5 z5 y6 z6;(try simp only[ξ,aw,ar,aq]);refine aa 10 ?_;refine gI 11 ?_;intro w' aC;have eh:=qh (Ed.out.below aC);have tW:=qh (lR.out.below aC);have uy:=qh (bE.out.trans (aC.mono bE.out.size));have y19:=eh.out.cell (i:=19) rfl;have z19:=eh.out.free 19;apply JaG;apply Jax
 ·go_simp;exact rfl
 apply Jax
 ·exact((Kept.refl (fun i=>i=g2) _).setCell (.inl (show g2=g2 from rfl)) _)
 obtain⟨V2,yV⟩:=aB ((w').setCell ⟨g2,19,ε⟩ (J m));have Xc:=qh (show Whole V2 g2 _ _ from yV▸(eh.out.set_ 19 _));have tL:=qh (show Whole V2 (g0+1) _ _ from yV▸(tW.out.far (by show g0+1≠g2;exact uS.out) _));have bG:=qh (show σ w.heap.size w V2 from yV▸(uy.out.setCell (by show w.heap.size≤g2;exact dQ.out) _));rw[yV];clear yV aC eh tW uy y19 z19;(try simp only[ξ,aw,ar,aq]);refine aF (by kernel_rfl) ?_ _;intro qo aC;have QD:=qh (Xc.out.below aC);have sI:=qh (tL.out.below aC);have jb:=qh (bG.out.trans (aC.mono bG.out.size));clear aC;go_upto_region 13 with fail
 refine Jam ?_;refine wpList_load_row rfl 36 (.tmp 3) rfl g2 rfl 36 #[J 5,J s,J n,J s1,J n1,J s2,J n2,J 0,J 0,J 0,J 0,J 0,J 0,J 0,J 0,J 0,J 0,Β ρ,μ ⟨#[]⟩,J m] (0,0) _ QD.out Tryz.underlying36 rfl (by kernel_rfl) ?_;simp only[ξ,aw,ar,aq];refine Jbu rfl 36 (.tmp 2) (.tmp 51) rfl (g0+1) #[J 5,J s,J n,J s1,J n1,J s2,J n2,J 0,J 0,J 0,J 0,J 0,J 0,J 0,J 0,J 0,J 0,Β ρ,μ ⟨#[]⟩,J m] rfl rfl 36 #[J 0,J 0,J 0,J 0,J 0,J 0,J 0,J 0,J 0,J 0,J 0,J 0,J 0,J 0,J 0,J 0,J 0,Β ρ,μ ⟨#[]⟩,J 0] sI.out (by kernel_rfl) rfl (by simp[Τ]) ?_;have o8:Hid (Whole (qo.setRow (g0+1) #[J 5,J s,J n,J s1,J n1,J s2,J n2,J 0,J 0,J 0,J 0,J 0,J 0,J 0,J 0,J 0,J 0,Β ρ,μ ⟨#[]⟩,J m]) (g0+1) 36 [J 5,J s,J n,J s1,J n1,J s2,J n2,J 0,J 0,J 0,J 0,J 0,J 0,J 0,J 0,J 0,J 0,Β ρ,μ ⟨#[]⟩,J m]):=qh (setRow_heap qo (g0+1) _ _ _ _ sI.out)
 have bB:Hid (σ w.heap.size w (qo.setRow (g0+1) #[J 5,J s,J n,J s1,J n1,J s2,J n2,J 0,J 0,J 0,J 0,J 0,J 0,J 0,J 0,J 0,J 0,Β ρ,μ ⟨#[]⟩,J m])):=qh ⟨jb.out.os,jb.out.tape,jb.out.output,(by have:=jb.out.size;simpa [World.setRow] using this),fun i hi=>(setRow_other qo (g0+1) i _ (by have:=Ce.out;omega)).trans (jb.out.block i hi)⟩;obtain⟨W3,kh⟩:=aB (qo.setRow (g0+1) #[J 5,J s,J n,J s1,J n1,J s2,J n2,J 0,J 0,J 0,J 0,J 0,J 0,J 0,J 0,J 0,J 0,Β ρ,μ ⟨#[]⟩,J m]);rw[kh] at o8 bB ⊢;clear kh;go_wp2;exact JaN (v:=φ #[J 5,J s,J n,J s1,J n1,J s2,J n2,J 0,J 0,J 0,J 0,J 0,J 0,J 0,J 0,J 0,J 0,Β ρ,μ ⟨#[]⟩,J m]) (results_cell_row Tryz.results66 _ W3 (g0+1) 36 #[J 5,J s,J n,J s1,J n1,J s2,J n2,J 0,J 0,J 0,J 0,J 0,J 0,J 0,J 0,J 0,J 0,Β ρ,μ ⟨#[]⟩,J m] (0,0) _ (by rfl) o8.out Tryz.underlying36 rfl (by kernel_rfl)) rfl ⟨rfl,bB.out⟩
theorem Vt (s n s1 n1 s2 n2 a0 a1 a2 a3 a4 b0 b1 b2 b3 b4:Int) (e:Bool) (t:ByteArray) (m:Int):Pure 66 #[φ #[J 7,J s,J n,J s1,J n1,J s2,J n2,J a0,J a1,J a2,J a3,J a4,J b0,J b1,J b2,J b3,J b4,Β e,μ t,J m]] (φ #[J 7,J s,J n,J 0,J 0,J 0,J 0,J 0,J 0,J 0,J 0,J 0,J 0,J 0,J 0,J 0,J 0,Β e,μ t,J 0]):=fun w=>by
 go_enter Tryz.func66,Tryz.ntmps66;go_upto_region 1 with fail
 obtain⟨W1,aV⟩:=aB ((w.alloc (δ #[J 7,J s,J n,J s1,J n1,J s2,J n2,J a0,J a1,J a2,J a3,J a4,J b0,J b1,J b2,J b3,J b4,Β e,μ t,J m] 36)).alloc (δ #[J 0,J 0,J 0,J 0,J 0,J 0,J 0,J 0,J 0,J 0,J 0,J 0,J 0,J 0,J 0,J 0,J 0,Β ρ,μ ⟨#[]⟩,J 0] 36));have hO:Whole W1 w.heap.size 36 [J 7,J s,J n,J s1,J n1,J s2,J n2,J a0,J a1,J a2,J a3,J a4,J b0,J b1,J b2,J b3,J b4,Β e,μ t,J m]:=by rw[←aV];exact(Whole.new_ w _ [J 7,J s,J n,J s1,J n1,J s2,J n2,J a0,J a1,J a2,J a3,J a4,J b0,J b1,J b2,J b3,J b4,Β e,μ t,J m]).alloc _
 have hR:Whole W1 (w.heap.size+1) 36 [J 0,J 0,J 0,J 0,J 0,J 0,J 0,J 0,J 0,J 0,J 0,J 0,J 0,J 0,J 0,J 0,J 0,Β ρ,μ ⟨#[]⟩,J 0]:=by rw[←aV];exact Whole.new2 (cs:=[J 0,J 0,J 0,J 0,J 0,J 0,J 0,J 0,J 0,J 0,J 0,J 0,J 0,J 0,J 0,J 0,J 0,Β ρ,μ ⟨#[]⟩,J 0]) (by simp)
 have hB:σ w.heap.size w W1:=by rw[←aV];exact cr _ _ _
 rw[aV];clear aV;have HO:=qh hO;have HR:=qh hR;have HB:=qh hB;have l0:=hO.cell (i:=0) rfl;have l1:=hO.cell (i:=1) rfl;have l2:=hO.cell (i:=2) rfl;clear hO hR hB;obtain⟨g0,pE⟩:=aB w.heap.size;rw[pE] at HO HR l0 l1 l2 ⊢;have Ce:Hid (w.heap.size≤g0):=qh (by omega);clear pE;refine Jam ?_;refine wpList_readTo rfl (ζ 4) rfl ?_ ?_ ?_;rotate_left
 ·go_simp;exact rfl
 simp only[ξ,aw,ar,aq];refine wpList_readTo rfl (ζ 5) rfl ?_ ?_ ?_;rotate_left
 ·go_simp;exact rfl
 simp only[ξ,aw,ar,aq];refine wpList_readTo rfl (ζ 6) rfl ?_ ?_ ?_;rotate_left
 ·go_simp;exact rfl
 simp only[ξ,aw,ar,aq];refine wpList_readTo rfl (ζ 7) rfl ?_ ?_ ?_;rotate_left
 ·go_simp;exact rfl
 simp only[ξ,aw,ar,aq];refine wpList_readTo rfl (ζ 8) rfl ?_ ?_ ?_;rotate_left
 ·go_simp;exact rfl
 simp only[ξ,aw,ar,aq];refine wpList_allocTo rfl (ζ 3) rfl ?_ (δ #[J 0,J 0,J 0,J 0,J 0,J 0,J 0,J 0,J 0,J 0,J 0,J 0,J 0,J 0,J 0,J 0,J 0,Β ρ,μ ⟨#[]⟩,J 0] 36) ?_ ?_;rotate_left
 ·go_simp;exact rfl
 simp only[ξ,aw,ar,aq];refine Jbu rfl 36 (.tmp 3) (.tmp 8) rfl W1.heap.size #[J 7,J s,J n,J 0,J 0,J 0,J 0,J 0,J 0,J 0,J 0,J 0,J 0,J 0,J 0,J 0,J 0,Β ρ,μ ⟨#[]⟩,J 0] rfl rfl 36 #[J 0,J 0,J 0,J 0,J 0,J 0,J 0,J 0,J 0,J 0,J 0,J 0,J 0,J 0,J 0,J 0,J 0,Β ρ,μ ⟨#[]⟩,J 0] (heap_alloc_last _ _) (by kernel_rfl) rfl (by simp[Τ]) ?_;rw[World.setRow_alloc_new];obtain⟨W2,eU⟩:=aB (W1.alloc (δ #[J 7,J s,J n,J 0,J 0,J 0,J 0,J 0,J 0,J 0,J 0,J 0,J 0,J 0,J 0,J 0,J 0,Β ρ,μ ⟨#[]⟩,J 0] 36));obtain⟨g2,mA⟩:=aB W1.heap.size;have HN:Hid (Whole W2 g2 36 [J 7,J s,J n,J 0,J 0,J 0,J 0,J 0,J 0,J 0,J 0,J 0,J 0,J 0,J 0,J 0,J 0,Β ρ,μ ⟨#[]⟩,J 0]):=qh (by rw[←eU,←mA];exact Whole.new_ W1 _ [J 7,J s,J n,J 0,J 0,J 0,J 0,J 0,J 0,J 0,J 0,J 0,J 0,J 0,J 0,J 0,J 0,Β ρ,μ ⟨#[]⟩,J 0])
 have iN:=qh (show Whole W2 g0 _ _ from eU▸HO.out.alloc _);have tL:=qh (show Whole W2 (g0+1) _ _ from eU▸HR.out.alloc _);have bG:=qh (show σ w.heap.size w W2 from eU▸HB.out.alloc HB.out.size _);have l0:=iN.out.cell (i:=0) rfl;have uS:Hid (g0+1≠g2):=qh (by have:=HR.out.lt;omega);have xO:Hid (¬g0=g2):=qh (by have:=HR.out.lt;omega);have dQ:Hid (w.heap.size≤g2):=qh (by have:=HB.out.size;omega);rw[eU,mA];clear eU mA;go_upto_region 10 with fail
 have f17:∀w',Kept (fun i=>i=g2) W2.drew w'→w'.cell? ⟨g0,17,ε⟩=ζ (Β e):=fun w' h=>h.cell (iN.out.drew.cell (i:=17) rfl) (fun e=>absurd (show g0=g2 from e) xO.out)
 have f18:∀w',Kept (fun i=>i=g2) W2.drew w'→w'.cell? ⟨g0,18,ε⟩=ζ (μ t):=fun w' h=>h.cell (iN.out.drew.cell (i:=18) rfl) (fun e=>absurd (show g0=g2 from e) xO.out)
 have Et:Hid (Whole W2.drew g2 _ _):=qh HN.out.drew;have Iw:Hid (Whole W2.drew (g0+1) _ _):=qh tL.out.drew;have sx:Hid (σ w.heap.size w W2.drew):=qh bG.out.drew;refine ay (fun i=>i=g2) (by kernel_rfl) ?_;refine aa 0 ?_;refine aa 1 ?_;refine aa 2 ?_;refine aa 3 ?_;refine aa 4 ?_;refine gI 5 ?_;intro w' aC;have eh:=qh (Et.out.below aC);have tW:=qh (Iw.out.below aC);have uy:=qh (sx.out.trans (aC.mono sx.out.size));have y17:=eh.out.cell (i:=17) rfl;have z17:=eh.out.free 17;apply JaG;apply Jax
 ·go_simp;exact rfl
 apply Jax
 ·exact((Kept.refl (fun i=>i=g2) _).setCell (.inl (show g2=g2 from rfl)) _)
 obtain⟨V0,xC⟩:=aB ((w').setCell ⟨g2,17,ε⟩ (Β e));have KT:=qh (show Whole V0 g2 _ _ from xC▸(eh.out.set_ 17 _));have D7:=qh (show Whole V0 (g0+1) _ _ from xC▸(tW.out.far (by show g0+1≠g2;exact uS.out) _));have bw:=qh (show σ w.heap.size w V0 from xC▸(uy.out.setCell (by show w.heap.size≤g2;exact dQ.out) _));rw[xC];clear xC aC eh tW uy y17 z17;(try simp only[ξ,aw,ar,aq]);refine aa 6 ?_;refine gI 7 ?_;intro w' aC;have eh:=qh (KT.out.below aC);have tW:=qh (D7.out.below aC);have uy:=qh (bw.out.trans (aC.mono bw.out.size));have y18:=eh.out.cell (i:=18) rfl;have z18:=eh.out.free 18;apply JaG;apply Jax
 ·go_simp;exact rfl
 apply Jax
 ·exact((Kept.refl (fun i=>i=g2) _).setCell (.inl (show g2=g2 from rfl)) _)
 obtain⟨V1,fD⟩:=aB ((w').setCell ⟨g2,18,ε⟩ (μ t));have Ed:=qh (show Whole V1 g2 _ _ from fD▸(eh.out.set_ 18 _));have lR:=qh (show Whole V1 (g0+1) _ _ from fD▸(tW.out.far (by show g0+1≠g2;exact uS.out) _));have bE:=qh (show σ w.heap.size w V1 from fD▸(uy.out.setCell (by show w.heap.size≤g2;exact dQ.out) _));rw[fD];clear fD aC eh tW uy y18 z18;(try simp only[ξ,aw,ar,aq]);refine aF (by kernel_rfl) ?_ _;intro qo aC;have QD:=qh (Ed.out.below aC);have sI:=qh (lR.out.below aC);have jb:=qh (bE.out.trans (aC.mono bE.out.size));clear aC;go_upto_region 13 with fail
 refine Jam ?_;refine wpList_load_row rfl 36 (.tmp 3) rfl g2 rfl 36 #[J 7,J s,J n,J 0,J 0,J 0,J 0,J 0,J 0,J 0,J 0,J 0,J 0,J 0,J 0,J 0,J 0,Β e,μ t,J 0] (0,0) _ QD.out Tryz.underlying36 rfl (by kernel_rfl) ?_;simp only[ξ,aw,ar,aq];refine Jbu rfl 36 (.tmp 2) (.tmp 51) rfl (g0+1) #[J 7,J s,J n,J 0,J 0,J 0,J 0,J 0,J 0,J 0,J 0,J 0,J 0,J 0,J 0,J 0,J 0,Β e,μ t,J 0] rfl rfl 36 #[J 0,J 0,J 0,J 0,J 0,J 0,J 0,J 0,J 0,J 0,J 0,J 0,J 0,J 0,J 0,J 0,J 0,Β ρ,μ ⟨#[]⟩,J 0] sI.out (by kernel_rfl) rfl (by simp[Τ]) ?_;have o8:Hid (Whole (qo.setRow (g0+1) #[J 7,J s,J n,J 0,J 0,J 0,J 0,J 0,J 0,J 0,J 0,J 0,J 0,J 0,J 0,J 0,J 0,Β e,μ t,J 0]) (g0+1) 36 [J 7,J s,J n,J 0,J 0,J 0,J 0,J 0,J 0,J 0,J 0,J 0,J 0,J 0,J 0,J 0,J 0,Β e,μ t,J 0]):=qh (setRow_heap qo (g0+1) _ _ _ _ sI.out)
 have bB:Hid (σ w.heap.size w (qo.setRow (g0+1) #[J 7,J s,J n,J 0,J 0,J 0,J 0,J 0,J 0,J 0,J 0,J 0,J 0,J 0,J 0,J 0,J 0,Β e,μ t,J 0])):=qh ⟨jb.out.os,jb.out.tape,jb.out.output,(by have:=jb.out.size;simpa [World.setRow] using this),fun i hi=>(setRow_other qo (g0+1) i _ (by have:=Ce.out;omega)).trans (jb.out.block i hi)⟩;obtain⟨W3,kh⟩:=aB (qo.setRow (g0+1) #[J 7,J s,J n,J 0,J 0,J 0,J 0,J 0,J 0,J 0,J 0,J 0,J 0,J 0,J 0,J 0,J 0,Β e,μ t,J 0]);rw[kh] at o8 bB ⊢;clear kh;go_wp2;exact JaN (v:=φ #[J 7,J s,J n,J 0,J 0,J 0,J 0,J 0,J 0,J 0,J 0,J 0,J 0,J 0,J 0,J 0,J 0,Β e,μ t,J 0]) (results_cell_row Tryz.results66 _ W3 (g0+1) 36 #[J 7,J s,J n,J 0,J 0,J 0,J 0,J 0,J 0,J 0,J 0,J 0,J 0,J 0,J 0,J 0,J 0,Β e,μ t,J 0] (0,0) _ (by rfl) o8.out Tryz.underlying36 rfl (by kernel_rfl)) rfl ⟨rfl,bB.out⟩
theorem Vj (s n s1 n1 s2 n2 a0 a1 a2 a3 a4 b0 b1 b2 b3 b4:Int) (e:Bool) (t:ByteArray) (m:Int):Pure 66 #[φ #[J 8,J s,J n,J s1,J n1,J s2,J n2,J a0,J a1,J a2,J a3,J a4,J b0,J b1,J b2,J b3,J b4,Β e,μ t,J m]] (φ #[J 8,J s,J n,J 0,J 0,J 0,J 0,J 0,J 0,J 0,J 0,J 0,J 0,J 0,J 0,J 0,J 0,Β e,μ ⟨#[]⟩,J m]):=fun w=>by
 go_enter Tryz.func66,Tryz.ntmps66;go_upto_region 1 with fail
 obtain⟨W1,aV⟩:=aB ((w.alloc (δ #[J 8,J s,J n,J s1,J n1,J s2,J n2,J a0,J a1,J a2,J a3,J a4,J b0,J b1,J b2,J b3,J b4,Β e,μ t,J m] 36)).alloc (δ #[J 0,J 0,J 0,J 0,J 0,J 0,J 0,J 0,J 0,J 0,J 0,J 0,J 0,J 0,J 0,J 0,J 0,Β ρ,μ ⟨#[]⟩,J 0] 36));have hO:Whole W1 w.heap.size 36 [J 8,J s,J n,J s1,J n1,J s2,J n2,J a0,J a1,J a2,J a3,J a4,J b0,J b1,J b2,J b3,J b4,Β e,μ t,J m]:=by rw[←aV];exact(Whole.new_ w _ [J 8,J s,J n,J s1,J n1,J s2,J n2,J a0,J a1,J a2,J a3,J a4,J b0,J b1,J b2,J b3,J b4,Β e,μ t,J m]).alloc _
 have hR:Whole W1 (w.heap.size+1) 36 [J 0,J 0,J 0,J 0,J 0,J 0,J 0,J 0,J 0,J 0,J 0,J 0,J 0,J 0,J 0,J 0,J 0,Β ρ,μ ⟨#[]⟩,J 0]:=by rw[←aV];exact Whole.new2 (cs:=[J 0,J 0,J 0,J 0,J 0,J 0,J 0,J 0,J 0,J 0,J 0,J 0,J 0,J 0,J 0,J 0,J 0,Β ρ,μ ⟨#[]⟩,J 0]) (by simp)
 have hB:σ w.heap.size w W1:=by rw[←aV];exact cr _ _ _
 rw[aV];clear aV;have HO:=qh hO;have HR:=qh hR;have HB:=qh hB;have l0:=hO.cell (i:=0) rfl;have l1:=hO.cell (i:=1) rfl;have l2:=hO.cell (i:=2) rfl;clear hO hR hB;obtain⟨g0,pE⟩:=aB w.heap.size;rw[pE] at HO HR l0 l1 l2 ⊢;have Ce:Hid (w.heap.size≤g0):=qh (by omega);clear pE;refine Jam ?_;refine wpList_readTo rfl (ζ 4) rfl ?_ ?_ ?_;rotate_left
 ·go_simp;exact rfl
 simp only[ξ,aw,ar,aq];refine wpList_readTo rfl (ζ 5) rfl ?_ ?_ ?_;rotate_left
 ·go_simp;exact rfl
 simp only[ξ,aw,ar,aq];refine wpList_readTo rfl (ζ 6) rfl ?_ ?_ ?_;rotate_left
 ·go_simp;exact rfl
 simp only[ξ,aw,ar,aq];refine wpList_readTo rfl (ζ 7) rfl ?_ ?_ ?_;rotate_left
 ·go_simp;exact rfl
 simp only[ξ,aw,ar,aq];refine wpList_readTo rfl (ζ 8) rfl ?_ ?_ ?_;rotate_left
 ·go_simp;exact rfl
 simp only[ξ,aw,ar,aq];refine wpList_allocTo rfl (ζ 3) rfl ?_ (δ #[J 0,J 0,J 0,J 0,J 0,J 0,J 0,J 0,J 0,J 0,J 0,J 0,J 0,J 0,J 0,J 0,J 0,Β ρ,μ ⟨#[]⟩,J 0] 36) ?_ ?_;rotate_left
 ·go_simp;exact rfl
 simp only[ξ,aw,ar,aq];refine Jbu rfl 36 (.tmp 3) (.tmp 8) rfl W1.heap.size #[J 8,J s,J n,J 0,J 0,J 0,J 0,J 0,J 0,J 0,J 0,J 0,J 0,J 0,J 0,J 0,J 0,Β ρ,μ ⟨#[]⟩,J 0] rfl rfl 36 #[J 0,J 0,J 0,J 0,J 0,J 0,J 0,J 0,J 0,J 0,J 0,J 0,J 0,J 0,J 0,J 0,J 0,Β ρ,μ ⟨#[]⟩,J 0] (heap_alloc_last _ _) (by kernel_rfl) rfl (by simp[Τ]) ?_;rw[World.setRow_alloc_new];obtain⟨W2,eU⟩:=aB (W1.alloc (δ #[J 8,J s,J n,J 0,J 0,J 0,J 0,J 0,J 0,J 0,J 0,J 0,J 0,J 0,J 0,J 0,J 0,Β ρ,μ ⟨#[]⟩,J 0] 36));obtain⟨g2,mA⟩:=aB W1.heap.size;have HN:Hid (Whole W2 g2 36 [J 8,J s,J n,J 0,J 0,J 0,J 0,J 0,J 0,J 0,J 0,J 0,J 0,J 0,J 0,J 0,J 0,Β ρ,μ ⟨#[]⟩,J 0]):=qh (by rw[←eU,←mA];exact Whole.new_ W1 _ [J 8,J s,J n,J 0,J 0,J 0,J 0,J 0,J 0,J 0,J 0,J 0,J 0,J 0,J 0,J 0,J 0,Β ρ,μ ⟨#[]⟩,J 0])
 have iN:=qh (show Whole W2 g0 _ _ from eU▸HO.out.alloc _);have tL:=qh (show Whole W2 (g0+1) _ _ from eU▸HR.out.alloc _);have bG:=qh (show σ w.heap.size w W2 from eU▸HB.out.alloc HB.out.size _);have l0:=iN.out.cell (i:=0) rfl;have uS:Hid (g0+1≠g2):=qh (by have:=HR.out.lt;omega);have xO:Hid (¬g0=g2):=qh (by have:=HR.out.lt;omega);have dQ:Hid (w.heap.size≤g2):=qh (by have:=HB.out.size;omega);rw[eU,mA];clear eU mA;go_upto_region 12 with fail
 have f17:∀w',Kept (fun i=>i=g2) W2.drew w'→w'.cell? ⟨g0,17,ε⟩=ζ (Β e):=fun w' h=>h.cell (iN.out.drew.cell (i:=17) rfl) (fun e=>absurd (show g0=g2 from e) xO.out)
 have f19:∀w',Kept (fun i=>i=g2) W2.drew w'→w'.cell? ⟨g0,19,ε⟩=ζ (J m):=fun w' h=>h.cell (iN.out.drew.cell (i:=19) rfl) (fun e=>absurd (show g0=g2 from e) xO.out)
 have Et:Hid (Whole W2.drew g2 _ _):=qh HN.out.drew;have Iw:Hid (Whole W2.drew (g0+1) _ _):=qh tL.out.drew;have sx:Hid (σ w.heap.size w W2.drew):=qh bG.out.drew;refine ay (fun i=>i=g2) (by kernel_rfl) ?_;refine aa 0 ?_;refine aa 1 ?_;refine aa 2 ?_;refine aa 3 ?_;refine aa 4 ?_;refine gI 5 ?_;intro w' aC;have eh:=qh (Et.out.below aC);have tW:=qh (Iw.out.below aC);have uy:=qh (sx.out.trans (aC.mono sx.out.size));have y17:=eh.out.cell (i:=17) rfl;have z17:=eh.out.free 17;apply JaG;apply Jax
 ·go_simp;exact rfl
 apply Jax
 ·exact((Kept.refl (fun i=>i=g2) _).setCell (.inl (show g2=g2 from rfl)) _)
 obtain⟨V0,xC⟩:=aB ((w').setCell ⟨g2,17,ε⟩ (Β e));have KT:=qh (show Whole V0 g2 _ _ from xC▸(eh.out.set_ 17 _));have D7:=qh (show Whole V0 (g0+1) _ _ from xC▸(tW.out.far (by show g0+1≠g2;exact uS.out) _));have bw:=qh (show σ w.heap.size w V0 from xC▸(uy.out.setCell (by show w.heap.size≤g2;exact dQ.out) _));rw[xC];clear xC aC eh tW uy y17 z17;(try simp only[ξ,aw,ar,aq]);refine aa 6 ?_;refine gI 7 ?_;intro w' aC;have eh:=qh (KT.out.below aC);have tW:=qh (D7.out.below aC);have uy:=qh (bw.out.trans (aC.mono bw.out.size));have y19:=eh.out.cell (i:=19) rfl;have z19:=eh.out.free 19;apply JaG;apply Jax
 ·go_simp;exact rfl
 apply Jax
 ·exact((Kept.refl (fun i=>i=g2) _).setCell (.inl (show g2=g2 from rfl)) _)
 obtain⟨V1,fD⟩:=aB ((w').setCell ⟨g2,19,ε⟩ (J m));have Ed:=qh (show Whole V1 g2 _ _ from fD▸(eh.out.set_ 19 _));have lR:=qh (show Whole V1 (g0+1) _ _ from fD▸(tW.out.far (by show g0+1≠g2;exact uS.out) _));have bE:=qh (show σ w.heap.size w V1 from fD▸(uy.out.setCell (by show w.heap.size≤g2;exact dQ.out) _));rw[fD];clear fD aC eh tW uy y19 z19;(try simp only[ξ,aw,ar,aq]);refine aF (by kernel_rfl) ?_ _;intro qo aC;have QD:=qh (Ed.out.below aC);have sI:=qh (lR.out.below aC);have jb:=qh (bE.out.trans (aC.mono bE.out.size));clear aC;go_upto_region 13 with fail
 refine Jam ?_;refine wpList_load_row rfl 36 (.tmp 3) rfl g2 rfl 36 #[J 8,J s,J n,J 0,J 0,J 0,J 0,J 0,J 0,J 0,J 0,J 0,J 0,J 0,J 0,J 0,J 0,Β e,μ ⟨#[]⟩,J m] (0,0) _ QD.out Tryz.underlying36 rfl (by kernel_rfl) ?_;simp only[ξ,aw,ar,aq];refine Jbu rfl 36 (.tmp 2) (.tmp 51) rfl (g0+1) #[J 8,J s,J n,J 0,J 0,J 0,J 0,J 0,J 0,J 0,J 0,J 0,J 0,J 0,J 0,J 0,J 0,Β e,μ ⟨#[]⟩,J m] rfl rfl 36 #[J 0,J 0,J 0,J 0,J 0,J 0,J 0,J 0,J 0,J 0,J 0,J 0,J 0,J 0,J 0,J 0,J 0,Β ρ,μ ⟨#[]⟩,J 0] sI.out (by kernel_rfl) rfl (by simp[Τ]) ?_;have o8:Hid (Whole (qo.setRow (g0+1) #[J 8,J s,J n,J 0,J 0,J 0,J 0,J 0,J 0,J 0,J 0,J 0,J 0,J 0,J 0,J 0,J 0,Β e,μ ⟨#[]⟩,J m]) (g0+1) 36 [J 8,J s,J n,J 0,J 0,J 0,J 0,J 0,J 0,J 0,J 0,J 0,J 0,J 0,J 0,J 0,J 0,Β e,μ ⟨#[]⟩,J m]):=qh (setRow_heap qo (g0+1) _ _ _ _ sI.out)
 have bB:Hid (σ w.heap.size w (qo.setRow (g0+1) #[J 8,J s,J n,J 0,J 0,J 0,J 0,J 0,J 0,J 0,J 0,J 0,J 0,J 0,J 0,J 0,J 0,Β e,μ ⟨#[]⟩,J m])):=qh ⟨jb.out.os,jb.out.tape,jb.out.output,(by have:=jb.out.size;simpa [World.setRow] using this),fun i hi=>(setRow_other qo (g0+1) i _ (by have:=Ce.out;omega)).trans (jb.out.block i hi)⟩;obtain⟨W3,kh⟩:=aB (qo.setRow (g0+1) #[J 8,J s,J n,J 0,J 0,J 0,J 0,J 0,J 0,J 0,J 0,J 0,J 0,J 0,J 0,J 0,J 0,Β e,μ ⟨#[]⟩,J m]);rw[kh] at o8 bB ⊢;clear kh;go_wp2;exact JaN (v:=φ #[J 8,J s,J n,J 0,J 0,J 0,J 0,J 0,J 0,J 0,J 0,J 0,J 0,J 0,J 0,J 0,J 0,Β e,μ ⟨#[]⟩,J m]) (results_cell_row Tryz.results66 _ W3 (g0+1) 36 #[J 8,J s,J n,J 0,J 0,J 0,J 0,J 0,J 0,J 0,J 0,J 0,J 0,J 0,J 0,J 0,J 0,Β e,μ ⟨#[]⟩,J m] (0,0) _ (by rfl) o8.out Tryz.underlying36 rfl (by kernel_rfl)) rfl ⟨rfl,bB.out⟩
end
theorem Ql (k s n s1 n1 s2 n2 a0 a1 a2 a3 a4 b0 b1 b2 b3 b4:Int) (e:Bool) (t:ByteArray) (m:Int):Pure 66 #[φ #[J k,J s,J n,J s1,J n1,J s2,J n2,J a0,J a1,J a2,J a3,J a4,J b0,J b1,J b2,J b3,J b4,Β e,μ t,J m]] (φ (ak (oh ⟨k,s,n,s1,n1,s2,n2,a0,a1,a2,a3,a4,b0,b1,b2,b3,b4,e,t,m⟩)).toArray):=by
 unfold oh;simp only
 by_cases k3:k=3
 ·subst k3;rw[if_pos rfl];exact Wi s n s1 n1 s2 n2 a0 a1 a2 a3 a4 b0 b1 b2 b3 b4 e t m
 have q3:(k==3)=ρ:=by simpa using k3
 rw[if_neg k3]
 by_cases k5:k=5
 ·subst k5;rw[if_pos rfl];exact Ug s n s1 n1 s2 n2 a0 a1 a2 a3 a4 b0 b1 b2 b3 b4 e t m
 have q5:(k==5)=ρ:=by simpa using k5
 rw[if_neg k5]
 by_cases k6:k=6
 ·subst k6;rw[if_pos rfl];exact UH s n s1 n1 s2 n2 a0 a1 a2 a3 a4 b0 b1 b2 b3 b4 e t m
 have q6:(k==6)=ρ:=by simpa using k6
 rw[if_neg k6]
 by_cases k7:k=7
 ·subst k7;rw[if_pos rfl];exact Vt s n s1 n1 s2 n2 a0 a1 a2 a3 a4 b0 b1 b2 b3 b4 e t m
 have q7:(k==7)=ρ:=by simpa using k7
 rw[if_neg k7]
 by_cases k8:k=8
 ·subst k8;rw[if_pos rfl];exact Vj s n s1 n1 s2 n2 a0 a1 a2 a3 a4 b0 b1 b2 b3 b4 e t m
 have q8:(k==8)=ρ:=by simpa using k8
 rw[if_neg k8];exact UI k s n s1 n1 s2 n2 a0 a1 a2 a3 a4 b0 b1 b2 b3 b4 e t m q3 q5 q6 q7 q8
theorem EY {t t':ByteArray} (h:t.toList=t'.toList):t=t':=by
 rw[ByteArray.toList_eq,ByteArray.toList_eq] at h;exact ByteArray.ext (Array.toList_inj.1 h)
theorem qQ (o o':dR) (W:ο):(binOp .neq 36 (φ (ak o).toArray) (φ (ak o').toArray)).run η W=.ok (Β (!decide (o=o'))) W:=by
 obtain⟨k,s,n,s1,n1,s2,n2,a0,a1,a2,a3,a4,b0,b1,b2,b3,b4,e,t,m⟩:=o;obtain⟨k',s',n',s1',n1',s2',n2',a0',a1',a2',a3',a4',b0',b1',b2',b3',b4',e',t',m'⟩:=o';simp only[ak,dR.mk.injEq];simp[go_sem]
 by_cases hk:k=k'
 case neg=>simp[hk]
 rw[if_pos hk]
 by_cases hs:s=s'
 case neg=>simp[hs]
 rw[if_pos hs]
 by_cases hn:n=n'
 case neg=>simp[hn]
 rw[if_pos hn]
 by_cases pO:s1=s1'
 case neg=>simp[pO]
 rw[if_pos pO]
 by_cases ni:n1=n1'
 case neg=>simp[ni]
 rw[if_pos ni]
 by_cases X6:s2=s2'
 case neg=>simp[X6]
 rw[if_pos X6]
 by_cases SG:n2=n2'
 case neg=>simp[SG]
 rw[if_pos SG]
 by_cases ha0:a0=a0'
 case neg=>simp[ha0]
 rw[if_pos ha0]
 by_cases ha1:a1=a1'
 case neg=>simp[ha1]
 rw[if_pos ha1]
 by_cases Xu:a2=a2'
 case neg=>simp[Xu]
 rw[if_pos Xu]
 by_cases ha3:a3=a3'
 case neg=>simp[ha3]
 rw[if_pos ha3]
 by_cases ha4:a4=a4'
 case neg=>simp[ha4]
 rw[if_pos ha4]
 by_cases fp:b0=b0'
 case neg=>simp[fp]
 rw[if_pos fp]
 by_cases cP:b1=b1'
 case neg=>simp[cP]
 rw[if_pos cP]
 by_cases aP:b2=b2'
 case neg=>simp[aP]
 rw[if_pos aP]
 by_cases bA:b3=b3'
 case neg=>simp[bA]
 rw[if_pos bA]
 by_cases ns:b4=b4'
 case neg=>simp[ns]
 rw[if_pos ns]
 by_cases he:e=e'
 case neg=>simp[he]
 rw[if_pos he]
 by_cases ht:t=t'
 ·subst ht
  by_cases hm:m=m'<;>simp_all
 ·have Wh:¬t.toList=t'.toList:=fun q=>ht (EY q)
  rw[if_neg Wh];simp[ht]
def iu (o:dR):Int:=if dK o.s o.n=τ∧lO o=τ∧o=oh o then(if cQ o.t=τ then 0 else 4) else 1
theorem vr (o:dR):Pure 65 #[φ (ak o).toArray] (Β (lO o)):=fun w=>RH o.k o.s o.n o.s1 o.n1 o.s2 o.n2 o.a0 o.a1 o.a2 o.a3 o.a4 o.b0 o.b1 o.b2 o.b3 o.b4 o.e o.t o.m w
theorem zM (o:dR):Pure 66 #[φ (ak o).toArray] (φ (ak (oh o)).toArray):=fun w=>Ql o.k o.s o.n o.s1 o.n1 o.s2 o.n2 o.a0 o.a1 o.a2 o.a3 o.a4 o.b0 o.b1 o.b2 o.b3 o.b4 o.e o.t o.m w
theorem aaU (o:dR) (h1:dK o.s o.n=ρ) (w:ο):Ζ η 43 #[φ (ak o).toArray] w fun e w'=>e=.returned (J 1)∧σ w.heap.size w w':=by
 have hm:=iT o.s o.n;rw[h1] at hm;have HM:=qh hm;clear hm h1;go_enter Tryz.func43,Tryz.ntmps43;go_upto_region 1 with fail
 obtain⟨W1,aV⟩:=aB (w.alloc (δ (ak o).toArray 36));have HO:Hid (Whole W1 w.heap.size 36 (ak o)):=qh (by rw[←aV];exact Whole.new_ w _ _);have HB:Hid (σ w.heap.size w W1):=qh (by rw[←aV];exact az _ _);rw[aV];clear aV;obtain⟨g0,pE⟩:=aB w.heap.size;rw[pE] at HO ⊢;clear pE;have ld1:∀w',Kept aO W1.drew w'→w'.cell? ⟨g0,1,ε⟩=ζ (J o.s):=fun w' h=>h.nil_cell (HO.out.drew.cell (i:=1) rfl)
 have ka:∀w',Kept aO W1.drew w'→w'.cell? ⟨g0,2,ε⟩=ζ (J o.n):=fun w' h=>h.nil_cell (HO.out.drew.cell (i:=2) rfl)
 refine ay (aO) (by kernel_rfl) ?_;refine aa 0 ?_;refine aa 1 ?_;refine cV 2 (hy:=by apply bP;rfl;rotate_left;intro w' aC;exact HM.out w';intro w';go_simp) (h:=?_);refine aa 3 ?_;refine aa 4 ?_;refine cp 5 ?_;refine cp 6 ?_;refine cp 7 ?_;refine aa 8 ?_;refine aa 9 ?_;refine cp 10 ?_;refine cp 11 ?_;refine cp 12 ?_;refine cp 13 ?_;refine aa 14 ?_;refine aF (by kernel_rfl) ?_ _;intro W2 fT;have bG:Hid (σ w.heap.size w W2):=qh (HB.out.drew.trans (fT.mono HB.out.drew.size));clear fT ld1 ka;go_wp2;go_ret;exact⟨rfl,bG.out⟩
theorem aaJ (o:dR) (h1:dK o.s o.n=τ) (h2:lO o=ρ) (w:ο):Ζ η 43 #[φ (ak o).toArray] w fun e w'=>e=.returned (J 1)∧σ w.heap.size w w':=by
 have hm:=iT o.s o.n;rw[h1] at hm;have HM:=qh hm;have hf:=vr o;rw[h2] at hf;have HF:=qh hf;clear hm h1 hf h2;go_enter Tryz.func43,Tryz.ntmps43;go_upto_region 1 with fail
 obtain⟨W1,aV⟩:=aB (w.alloc (δ (ak o).toArray 36));have HO:Hid (Whole W1 w.heap.size 36 (ak o)):=qh (by rw[←aV];exact Whole.new_ w _ _);have HB:Hid (σ w.heap.size w W1):=qh (by rw[←aV];exact az _ _);rw[aV];clear aV;obtain⟨g0,pE⟩:=aB w.heap.size;rw[pE] at HO ⊢;clear pE;have ld1:∀w',Kept aO W1.drew w'→w'.cell? ⟨g0,1,ε⟩=ζ (J o.s):=fun w' h=>h.nil_cell (HO.out.drew.cell (i:=1) rfl)
 have ka:∀w',Kept aO W1.drew w'→w'.cell? ⟨g0,2,ε⟩=ζ (J o.n):=fun w' h=>h.nil_cell (HO.out.drew.cell (i:=2) rfl)
 refine ay (aO) (by kernel_rfl) ?_;refine aa 0 ?_;refine aa 1 ?_;refine cV 2 (hy:=by apply bP;rfl;rotate_left;intro w' aC;exact HM.out w';intro w';go_simp) (h:=?_);refine aa 3 ?_;refine aa 4 ?_;refine cV 5 (hy:=ib (by rfl) 36 (.tmp 1) rfl g0 rfl 36 (ak o) _ (fun w' h=>h.whole HO.out.drew (fun h=>h)) Tryz.underlying36 rfl (by kernel_rfl)) (h:=?_);refine cV 6 (hy:=by apply bP;rfl;rotate_left;intro w' aC;exact HF.out w';intro w';go_simp) (h:=?_);refine aa 7 ?_;refine aa 8 ?_;refine aa 9 ?_;refine cp 10 ?_;refine cp 11 ?_;refine cp 12 ?_;refine cp 13 ?_;refine aa 14 ?_;refine aF (by kernel_rfl) ?_ _;intro W2 fT;have bG:Hid (σ w.heap.size w W2):=qh (HB.out.drew.trans (fT.mono HB.out.drew.size));clear fT ld1 ka;go_wp2;go_ret;exact⟨rfl,bG.out⟩
theorem YD (o:dR) (h1:dK o.s o.n=τ) (h2:lO o=τ) (h3:¬o=oh o) (w:ο):Ζ η 43 #[φ (ak o).toArray] w fun e w'=>e=.returned (J 1)∧σ w.heap.size w w':=by
 have hm:=iT o.s o.n;rw[h1] at hm;have HM:=qh hm;have hf:=vr o;rw[h2] at hf;have HF:=qh hf;have HN:=qh (zM o);have hq:=fun W=>qQ o (oh o) W
 rw[decide_eq_false h3] at hq;have HQ:=qh hq;clear hm h1 hf h2 hq h3;go_enter Tryz.func43,Tryz.ntmps43;go_upto_region 1 with fail
 obtain⟨W1,aV⟩:=aB (w.alloc (δ (ak o).toArray 36));have HO:Hid (Whole W1 w.heap.size 36 (ak o)):=qh (by rw[←aV];exact Whole.new_ w _ _);have HB:Hid (σ w.heap.size w W1):=qh (by rw[←aV];exact az _ _);rw[aV];clear aV;obtain⟨g0,pE⟩:=aB w.heap.size;rw[pE] at HO ⊢;clear pE;have ld1:∀w',Kept aO W1.drew w'→w'.cell? ⟨g0,1,ε⟩=ζ (J o.s):=fun w' h=>h.nil_cell (HO.out.drew.cell (i:=1) rfl)
 have ka:∀w',Kept aO W1.drew w'→w'.cell? ⟨g0,2,ε⟩=ζ (J o.n):=fun w' h=>h.nil_cell (HO.out.drew.cell (i:=2) rfl)
 refine ay (aO) (by kernel_rfl) ?_;refine aa 0 ?_;refine aa 1 ?_;refine cV 2 (hy:=by apply bP;rfl;rotate_left;intro w' aC;exact HM.out w';intro w';go_simp) (h:=?_);refine aa 3 ?_;refine aa 4 ?_;refine cV 5 (hy:=ib (by rfl) 36 (.tmp 1) rfl g0 rfl 36 (ak o) _ (fun w' h=>h.whole HO.out.drew (fun h=>h)) Tryz.underlying36 rfl (by kernel_rfl)) (h:=?_);refine cV 6 (hy:=by apply bP;rfl;rotate_left;intro w' aC;exact HF.out w';intro w';go_simp) (h:=?_);refine aa 7 ?_;refine aa 8 ?_;refine aa 9 ?_;refine cV 10 (hy:=ib (by rfl) 36 (.tmp 1) rfl g0 rfl 36 (ak o) _ (fun w' h=>h.whole HO.out.drew (fun h=>h)) Tryz.underlying36 rfl (by kernel_rfl)) (h:=?_);refine cV 11 (hy:=ib (by rfl) 36 (.tmp 1) rfl g0 rfl 36 (ak o) _ (fun w' h=>h.whole HO.out.drew (fun h=>h)) Tryz.underlying36 rfl (by kernel_rfl)) (h:=?_);refine cV 12 (hy:=by apply bP;rfl;rotate_left;intro w' aC;exact HN.out w';intro w';go_simp) (h:=?_);refine cV 13 (hy:=dD (by rfl) (fun w' _=>dU .neq 36 (.tmp 13) (.tmp 15) 36 rfl rfl rfl (by kernel_rfl) (HQ.out w'))) (h:=?_);refine aa 14 ?_;refine aF (by kernel_rfl) ?_ _;intro W2 fT;have bG:Hid (σ w.heap.size w W2):=qh (HB.out.drew.trans (fT.mono HB.out.drew.size));clear fT ld1 ka;go_wp2;go_ret;exact⟨rfl,bG.out⟩
theorem ZQ (o:dR) (h1:dK o.s o.n=τ) (h2:lO o=τ) (h3:o=oh o) (h4:cQ o.t=ρ) (w:ο):Ζ η 43 #[φ (ak o).toArray] w fun e w'=>e=.returned (J 4)∧σ w.heap.size w w':=by
 have hm:=iT o.s o.n;rw[h1] at hm;have HM:=qh hm;have hf:=vr o;rw[h2] at hf;have HF:=qh hf;have HN:=qh (zM o);have hq:=fun W=>qQ o (oh o) W
 rw[decide_eq_true h3] at hq;have HQ:=qh hq;clear hm h1 hf h2 hq h3;have hl:=rN o.t;rw[h4] at hl;have HL:=qh hl;clear hl h4;go_enter Tryz.func43,Tryz.ntmps43;go_upto_region 1 with fail
 obtain⟨W1,aV⟩:=aB (w.alloc (δ (ak o).toArray 36));have HO:Hid (Whole W1 w.heap.size 36 (ak o)):=qh (by rw[←aV];exact Whole.new_ w _ _);have HB:Hid (σ w.heap.size w W1):=qh (by rw[←aV];exact az _ _);rw[aV];clear aV;obtain⟨g0,pE⟩:=aB w.heap.size;rw[pE] at HO ⊢;clear pE;have ld1:∀w',Kept aO W1.drew w'→w'.cell? ⟨g0,1,ε⟩=ζ (J o.s):=fun w' h=>h.nil_cell (HO.out.drew.cell (i:=1) rfl)
 have ka:∀w',Kept aO W1.drew w'→w'.cell? ⟨g0,2,ε⟩=ζ (J o.n):=fun w' h=>h.nil_cell (HO.out.drew.cell (i:=2) rfl)
 refine ay (aO) (by kernel_rfl) ?_;refine aa 0 ?_;refine aa 1 ?_;refine cV 2 (hy:=by apply bP;rfl;rotate_left;intro w' aC;exact HM.out w';intro w';go_simp) (h:=?_);refine aa 3 ?_;refine aa 4 ?_;refine cV 5 (hy:=ib (by rfl) 36 (.tmp 1) rfl g0 rfl 36 (ak o) _ (fun w' h=>h.whole HO.out.drew (fun h=>h)) Tryz.underlying36 rfl (by kernel_rfl)) (h:=?_);refine cV 6 (hy:=by apply bP;rfl;rotate_left;intro w' aC;exact HF.out w';intro w';go_simp) (h:=?_);refine aa 7 ?_;refine aa 8 ?_;refine aa 9 ?_;refine cV 10 (hy:=ib (by rfl) 36 (.tmp 1) rfl g0 rfl 36 (ak o) _ (fun w' h=>h.whole HO.out.drew (fun h=>h)) Tryz.underlying36 rfl (by kernel_rfl)) (h:=?_);refine cV 11 (hy:=ib (by rfl) 36 (.tmp 1) rfl g0 rfl 36 (ak o) _ (fun w' h=>h.whole HO.out.drew (fun h=>h)) Tryz.underlying36 rfl (by kernel_rfl)) (h:=?_);refine cV 12 (hy:=by apply bP;rfl;rotate_left;intro w' aC;exact HN.out w';intro w';go_simp) (h:=?_);refine cV 13 (hy:=dD (by rfl) (fun w' _=>dU .neq 36 (.tmp 13) (.tmp 15) 36 rfl rfl rfl (by kernel_rfl) (HQ.out w'))) (h:=?_);refine aa 14 ?_;refine aF (by kernel_rfl) ?_ _;intro W2 fT;have bG:Hid (σ w.heap.size w W2):=qh (HB.out.drew.trans (fT.mono HB.out.drew.size));have iN:Hid (Whole W2 g0 36 (ak o)):=qh (HO.out.drew.below fT);have l18:=iN.out.cell (i:=18) rfl;clear fT ld1 ka;go_wp2_with (first|(go_at_call 67;refine(HL.out _).mono ?_;rintro e w3 ⟨rfl,bA⟩))
 go_ret;exact⟨rfl,bG.out.trans (bA.mono bG.out.size)⟩
theorem Zq (o:dR) (h1:dK o.s o.n=τ) (h2:lO o=τ) (h3:o=oh o) (h4:cQ o.t=τ) (w:ο):Ζ η 43 #[φ (ak o).toArray] w fun e w'=>e=.returned (J 0)∧σ w.heap.size w w':=by
 have hm:=iT o.s o.n;rw[h1] at hm;have HM:=qh hm;have hf:=vr o;rw[h2] at hf;have HF:=qh hf;have HN:=qh (zM o);have hq:=fun W=>qQ o (oh o) W
 rw[decide_eq_true h3] at hq;have HQ:=qh hq;clear hm h1 hf h2 hq h3;have hl:=rN o.t;rw[h4] at hl;have HL:=qh hl;clear hl h4;go_enter Tryz.func43,Tryz.ntmps43;go_upto_region 1 with fail
 obtain⟨W1,aV⟩:=aB (w.alloc (δ (ak o).toArray 36));have HO:Hid (Whole W1 w.heap.size 36 (ak o)):=qh (by rw[←aV];exact Whole.new_ w _ _);have HB:Hid (σ w.heap.size w W1):=qh (by rw[←aV];exact az _ _);rw[aV];clear aV;obtain⟨g0,pE⟩:=aB w.heap.size;rw[pE] at HO ⊢;clear pE;have ld1:∀w',Kept aO W1.drew w'→w'.cell? ⟨g0,1,ε⟩=ζ (J o.s):=fun w' h=>h.nil_cell (HO.out.drew.cell (i:=1) rfl)
 have ka:∀w',Kept aO W1.drew w'→w'.cell? ⟨g0,2,ε⟩=ζ (J o.n):=fun w' h=>h.nil_cell (HO.out.drew.cell (i:=2) rfl)
 refine ay (aO) (by kernel_rfl) ?_;refine aa 0 ?_;refine aa 1 ?_;refine cV 2 (hy:=by apply bP;rfl;rotate_left;intro w' aC;exact HM.out w';intro w';go_simp) (h:=?_);refine aa 3 ?_;refine aa 4 ?_;refine cV 5 (hy:=ib (by rfl) 36 (.tmp 1) rfl g0 rfl 36 (ak o) _ (fun w' h=>h.whole HO.out.drew (fun h=>h)) Tryz.underlying36 rfl (by kernel_rfl)) (h:=?_);refine cV 6 (hy:=by apply bP;rfl;rotate_left;intro w' aC;exact HF.out w';intro w';go_simp) (h:=?_);refine aa 7 ?_;refine aa 8 ?_;refine aa 9 ?_;refine cV 10 (hy:=ib (by rfl) 36 (.tmp 1) rfl g0 rfl 36 (ak o) _ (fun w' h=>h.whole HO.out.drew (fun h=>h)) Tryz.underlying36 rfl (by kernel_rfl)) (h:=?_);refine cV 11 (hy:=ib (by rfl) 36 (.tmp 1) rfl g0 rfl 36 (ak o) _ (fun w' h=>h.whole HO.out.drew (fun h=>h)) Tryz.underlying36 rfl (by kernel_rfl)) (h:=?_);refine cV 12 (hy:=by apply bP;rfl;rotate_left;intro w' aC;exact HN.out w';intro w';go_simp) (h:=?_);refine cV 13 (hy:=dD (by rfl) (fun w' _=>dU .neq 36 (.tmp 13) (.tmp 15) 36 rfl rfl rfl (by kernel_rfl) (HQ.out w'))) (h:=?_);refine aa 14 ?_;refine aF (by kernel_rfl) ?_ _;intro W2 fT;have bG:Hid (σ w.heap.size w W2):=qh (HB.out.drew.trans (fT.mono HB.out.drew.size));have iN:Hid (Whole W2 g0 36 (ak o)):=qh (HO.out.drew.below fT);have l18:=iN.out.cell (i:=18) rfl;clear fT ld1 ka;go_wp2_with (first|(go_at_call 67;refine(HL.out _).mono ?_;rintro e w3 ⟨rfl,bA⟩))
 go_ret;exact⟨rfl,bG.out.trans (bA.mono bG.out.size)⟩
theorem yx (o:dR):Pure 43 #[φ (ak o).toArray] (J (iu o)):=fun w=>by
 unfold iu
 by_cases h1:dK o.s o.n=τ
 case neg=>
  rw[if_neg (fun h=>h1 h.1)];exact aaU o (by simpa using h1) w
 by_cases h2:lO o=τ
 case neg=>
  rw[if_neg (fun h=>h2 h.2.1)];exact aaJ o h1 (by simpa using h2) w
 by_cases h3:o=oh o
 case neg=>
  rw[if_neg (fun h=>h3 h.2.2)];exact YD o h1 h2 h3 w
 rw[if_pos ⟨h1,h2,h3⟩]
 by_cases h4:cQ o.t=τ
 ·rw[if_pos h4];exact Zq o h1 h2 h3 h4 w
 ·rw[if_neg h4];exact ZQ o h1 h2 h3 (by simpa using h4) w
theorem wV {α:Type} (l:List α) (k:Nat) (x:α) (h:l[k]? =ζ x):l.take (k+1)=l.take k++[x]:=by
 rw[List.take_add_one,h];rfl
theorem Bj (w:ο) (B size:Nat):bg w B size ε 0 0 []:=⟨by simp,fun _=>⟨rfl,rfl⟩,Nat.le_refl _,fun a ha=>(by cases ha),fun a ha=>(by cases ha)⟩
def fY:List dR→Int
 |[]=>0
 |o::l=>if iu o=0 then fY l else iu o
def pB (L:List dR):Int:=if L.length<1∨6<L.length then 3 else fY L
theorem yw (l m:List dR):fY (l++m)=if fY l=0 then fY m else fY l:=by
 induction l with
 |nil=>simp[fY]
 |cons o l ih=>
  simp only[List.cons_append,fY]
  by_cases h:iu o=0
  ·simp[h,ih]
  ·simp[h]
theorem FO (L:List dR) (k:Nat) (o:dR) (h:L[k]? =ζ o) (h0:fY (L.take k)=0) (ho:iu o=0):fY (L.take (k+1))=0:=by
 rw[wV L k o h,yw,if_pos h0];simp[fY,ho]
theorem E0 (L:List dR) (k:Nat) (o:dR) (h:L[k]? =ζ o) (h0:fY (L.take k)=0) (ho:iu o≠0):fY L=iu o:=by
 have e:L=L.take (k+1)++L.drop (k+1):=(List.take_append_drop _ _).symm;rw[e,wV L k o h,List.append_assoc,yw,if_pos h0];simp[fY,ho]
theorem eB (o:dR):(ak o).length=20:=rfl
theorem uw (o:dR):(ak o).toArray.all (·.oneCell')=τ:=by simp[ak,Τ]
def Zm (L:List dR) (W1:ο) (k:Nat) (wr:ο):Prop:=Ext W1 wr∧fY (L.take k)=0
theorem Cp (A:Option Κ) (n c:Nat) (L:List dR) (w:ο) (h:bg w w.heap.size 20 A n c (ah ak L)) (hn:n≤maxLen):
 Ζ η 54 #[φ #[.slice A n c]] w fun e w'=>e=.returned (J (pB L))∧σ w.heap.size w w':=by
 have hl:=h.rlen eB (by decide);unfold maxLen at hn
 by_cases h1:n<1
 ·have hm:pB L=3:=by unfold pB;rw[if_pos (by omega)]
  rw[hm];have q1:decide ((n:Int)<1)=τ:=decide_eq_true (by omega);clear hm hl h1;go_enter Tryz.func54,Tryz.ntmps54;go_wp2;go_ret;exact⟨rfl,az _ _⟩
 have q1:decide ((n:Int)<1)=ρ:=decide_eq_false (by omega)
 by_cases h6:6<n
 ·have hm:pB L=3:=by unfold pB;rw[if_pos (by omega)]
  rw[hm];have q6:decide ((6:Int)<(n:Int))=τ:=decide_eq_true (by omega);clear hm hl h1;go_enter Tryz.func54,Tryz.ntmps54;go_wp2;go_ret;exact⟨rfl,az _ _⟩
 have q6:decide ((6:Int)<(n:Int))=ρ:=decide_eq_false (by omega);have hm:pB L=fY L:=by unfold pB;rw[if_neg (by omega)]
 have HM:=qh hm;have HR:=qh h;obtain rfl:=hl;clear hm h;go_enter Tryz.func54,Tryz.ntmps54;go_wp2;clear q1 q6;obtain⟨W1,aV⟩:=aB (w.alloc (δ #[.slice A L.length c] 49));have HB:Hid (σ w.heap.size w W1):=qh (by rw[←aV];exact az _ _);have VP:Hid (bg W1 W1.heap.size 20 A L.length c (ah ak L)):=qh (by rw[←aV];exact HR.out.al _);have HE:Hid (Whole W1 w.heap.size 49 [.slice A L.length c]):=qh (by rw[←aV];exact Whole.new_ w _ [_]);rw[aV];clear aV;obtain⟨g0,pE⟩:=aB w.heap.size;rw[pE] at HE ⊢;clear pE;go_loopw [19] (fun i wr=>∃k:Nat,k≤L.length∧i=J k∧Hid (Zm L W1 k wr)) (fun i _=>L.length - (intOf i).toNat)
 case atStart=>exact⟨0,Jas _,rfl,qh ⟨Ext.refl _,rfl⟩⟩
 case round=>
  rename_i wr _;obtain⟨k,hk,rfl,jm⟩:=hrel
  by_cases dz:k<L.length
  ·have BD:L[k]? =ζ (L[k]'(by omega)):=List.getElem?_eq_getElem _;obtain⟨o,go⟩:=aB (L[k]'(by omega));rw[go] at BD;have HK:=qh BD;have aez:=qh (VP.out.bl jm.out.1);obtain⟨b,off,rfl,aY,a8⟩:=aez.out.place eB (by decide) (by omega);have HP:=qh (a8 k o BD);clear go BD a8 aY;obtain⟨x,gx⟩:=aB (iu o);have HC:=qh (yx o);rw[gx] at HC;have HX:=qh gx;clear gx;go_upto_region 5 with fail
   refine Jam ?_;refine a7 (v:=?_) (ζ 21) rfl (by rfl) ?_ ?_;rotate_left
   ·go_simp;(try with_reducible rfl)
   simp only[ξ,aw,ar,aq];refine wR (ζ 22) rfl (by rfl) 36 (.tmp 21) rfl ⟨b,off+k*20,ε⟩ rfl (ak o) _ HP.out Tryz.underlying36 rfl (by kernel_rfl) ?_;simp only[ξ,aw,ar,aq];refine Om 4 rfl rfl rfl 36 (.tmp 22) rfl rfl #[J 0,J 0,J 0,J 0,J 0,J 0,J 0,J 0,J 0,J 0,J 0,J 0,J 0,J 0,J 0,J 0,J 0,Β ρ,μ ⟨#[]⟩,J 0] ?_ (ak o).toArray (by simp) rfl (by kernel_rfl) rfl (uw o) ?_
   ·go_simp;(try with_reducible rfl)
   simp only[ξ,aw,ar,aq];have aZ:Hid (Ext W1 (wr.alloc (δ (ak o).toArray 36))):=qh (jm.out.1.trans (az _ _));have HN:Hid (Whole (wr.alloc (δ (ak o).toArray 36)) wr.heap.size 36 (ak o)):=qh (Whole.new_ _ _ _);obtain⟨W2,eU⟩:=aB (wr.alloc (δ (ak o).toArray 36));obtain⟨g2,mA⟩:=aB wr.heap.size;rw[eU] at aZ HN ⊢;rw[mA] at HN ⊢;clear eU mA;go_upto_region 6 with fail
   refine Jam ?_;refine eJ (ζ 23) rfl (by rfl) 36 (.tmp 4) rfl g2 rfl 36 (ak o) _ HN.out Tryz.underlying36 rfl (by kernel_rfl) ?_;simp only[ξ,aw,ar,aq];go_wp2_with fail
   refine(HC.out _).mono ?_
   rintro e w3 ⟨rfl,bA⟩;have cF:=qh (aZ.out.trans bA);clear bA
   by_cases hx:x=0
   ·subst hx;have HI:Hid (Zm L W1 (k+1) w3):=qh ⟨cF.out,FO L k o HK.out jm.out.2 HX.out⟩;go_wp2;go_roundw
    case rel=>exact⟨k+1,by omega,by go_num,HI⟩
    case measure=>simp[intOf];omega
   ·have q:(x==0)=ρ:=by simpa using hx
    have q':(x !=0)=τ:=by simpa using hx
    have rK:Hid (fY L=x):=qh (by rw[E0 L k o HK.out jm.out.2 (by rw[HX.out];exact hx),HX.out]);clear hx;go_wp2;go_ret;exact⟨pY (by rw[HM.out,rK.out]),HB.out.trans (cF.out.mono HB.out.size)⟩
  ·have rK:Hid (fY L=0):=qh (by have:=jm.out.2;rwa [List.take_of_length_le (by omega)] at this);go_wp2;go_ret;exact⟨pY (by rw[HM.out,rK.out]),HB.out.trans (jm.out.1.mono HB.out.size)⟩
def bL (o:dR):Nm:=(o.s,o.n)
def rz (o:dR):Nm:=(o.s1,o.n1)
def cX (o:dR):Nm:=(o.s2,o.n2)
def uC (o:dR):Nm × D:=((o.a0,o.a1),(o.a2,o.a3,o.a4))
def jh (o:dR):Nm × D:=((o.b0,o.b1),(o.b2,o.b3,o.b4))
def fV (o:dR) (p:ByteArray × Int):ByteArray × Int:=if o.k=7 then(o.t,p.2) else(p.1,o.m)
def bQ (S:SS) (o:dR):SS × Int:=
 if o.k=1 then og S (bL o) else if o.k=2 then oc S (bL o) else if o.k=3 then fO eO S (bL o) (uC o) (jh o)
 else if o.k=4 then jK S (bL o) else if o.k=5 then dJ S (bL o) (rz o) (cX o) o.m else if o.k=6 then gU S (bL o) (cX o) else setS S (bL o) o.e (fV o)
def yi (S:SS) (o:dR):SS × Int:=if iu o=0 then bQ S o else(dv,iu o)
def jT (S:SS):List dR→SS × Int
 |[]=>(S,0)
 |o::L=>if (bQ S o).2=0 then jT (bQ S o).1 L else(dv,(bQ S o).2)
def la (S:SS) (L:List dR):SS × Int:=if pB L=0 then jT S L else(dv,pB L)
def tw (S:SS) (L:List dR):SS:=if (la S L).2=0 then(la S L).1 else S
theorem Eh (V:List VS) (x:Nm) (f:ByteArray × Int→ByteArray × Int):(lg V x f).map (·.1)=V.map (·.1):=by
 unfold lg;rw[JaW];refine JaV (fun v _=>?_)
 show(if v.1=x then(v.1,v.2.1,f v.2.2) else v).1=v.1
 split<;>rfl
theorem Cv (V:List VS) (x:Nm) (f:ByteArray × Int→ByteArray × Int):(lg V x f).map (·.2.1)=V.map (·.2.1):=by
 unfold lg;rw[JaW];refine JaV (fun v _=>?_)
 show(if v.1=x then(v.1,v.2.1,f v.2.2) else v).2.1=v.2.1
 split<;>rfl
theorem wy (E:List EC) (x:Nm) (f:ByteArray × Int→ByteArray × Int):(o6 E x f).map (·.1)=E.map (·.1):=by
 unfold o6;rw[JaW];refine JaV (fun v _=>?_)
 show(if v.1=x then(v.1,f v.2) else v).1=v.1
 split<;>rfl
theorem LO {V W:List VS} (e:W.map (·.2.1)=V.map (·.2.1)):W.flatMap (fun v=>v.2.1)=V.flatMap (fun v=>v.2.1)∧(∀d,bX W d=bX V d)∧∀v∈W,∃u∈V,u.2.1=v.2.1:=by
 refine⟨?_,fun d=>?_,fun v hv=>?_⟩
 ·rw[List.flatMap_def,List.flatMap_def,e]
 ·have k:∀U:List VS,bX U d=(U.map (·.2.1)).any (fun l=>decide (d∈l)):=fun U=>by unfold bX;rw[List.any_map];rfl
  rw[k,k,e]
 ·have:v.2.1∈V.map (·.2.1):=e▸Α.2 ⟨v,hv,rfl⟩
  obtain⟨u,hu,q⟩:=Α.1 this;exact⟨u,hu,q⟩
theorem JD {E F:List EC} (e:F.map (·.1)=E.map (·.1)) (x:Nm):bI F x=bI E x:=by
 have h:∀U:List EC,bI U x=(U.map (·.1)).any (fun k=>decide (k=x)):=fun U=>by
  unfold bI pf;rw[List.any_map];rfl
 rw[h,h,e]
theorem dx.setV {S:SS} (h:dx S) (x:Nm) (f:ByteArray × Int→ByteArray × Int):dx (lg S.1 x f,S.2):=by
 obtain⟨r1,r2,r3⟩:=LO (Cv S.1 x f)
 refine⟨mM h.vup (Eh _ _ _),h.eup,by show(List.flatMap _ _).Nodup;rw[r1];exact h.once,fun v hv=>?_,fun v hv d hd=>?_,fun e he=>?_⟩
 ·obtain⟨u,hu,q⟩:=r3 v hv;rw[←q];exact h.turned u hu
 ·obtain⟨u,hu,q⟩:=r3 v hv;exact h.known u hu d (q▸hd)
 ·show bX (lg S.1 x f) _=τ∧bX (lg S.1 x f) _=τ;rw[r2,r2];exact h.ends e he
theorem dx.setE {S:SS} (h:dx S) (x:Nm) (f:ByteArray × Int→ByteArray × Int):dx (S.1,o6 S.2.1 x f,S.2.2):=by
 have k:=wy S.2.1 x f
 refine⟨h.vup,?_,h.once,h.turned,fun v hv d hd=>?_,fun e he=>?_⟩
 ·have h1:(S.2.1.map (·.1)).Pairwise (fun a b=>dW a b<0):=Jbg.2 h.eup;rw[←k] at h1;exact Jbg.1 h1
 ·show bI (o6 S.2.1 x f) _=τ∧_;rw[JD k];exact h.known v hv d hd
 ·have:e.1∈S.2.1.map (·.1):=k▸Α.2 ⟨e,he,rfl⟩
  obtain⟨u,hu,q⟩:=Α.1 this;rw[←q];exact h.ends u hu
theorem ph:∀(G:List Gn) (g:Gn),cT G→(G.any fun y=>decide (y.1=g.1))=τ→(rq G g).length≤G.length
 |[],g,_,h=>by simp at h
 |y::G,g,hr,h=>by
  show(if cH y g<0 then y::rq G g else if cH y g=0 then g::G else g::y::G).length≤G.length+1
  split
  ·rename_i dz;have bj:¬y.1=g.1:=fun e=>by have:=(kL y g).2 e;omega
   have h2:(G.any fun y=>decide (y.1=g.1))=τ:=by
    rw[List.any_cons,decide_eq_false bj] at h;exact h
   have:=ph G g (qN hr) h2
   simp only[List.length_cons];omega
  ·split
   ·simp
   ·rename_i h1 h2;obtain⟨z,hz,e⟩:=List.any_eq_true.1 h;have h3:=lF G hr hz;have h4:cH y g=cH y z:=by unfold cH;rw[of_decide_eq_true e]
    omega
theorem EJ {G:List Gn} {x:Gn} (h:(G.any fun y=>decide (y.1=x.1))=ρ) (hn:¬G.length≥400):dP G x=rq G x:=by unfold dP;rw[h,if_neg (by simpa using hn)]
theorem Fz {G:List Gn} {x:Gn} (h:(G.any fun y=>decide (y.1=x.1))=ρ) (hn:G.length≥400):dP G x=G:=by unfold dP;rw[h,if_pos (by simpa using hn)]
theorem BN {G:List Gn} {x:Gn} (h:(G.any fun y=>decide (y.1=x.1))=τ) (hn:¬G.length - 1≥400):dP G x=rq G x:=by unfold dP;rw[h,if_neg (by simpa using hn)]
theorem mT (G:List Gn) (g:Gn) (h:G.length≤400) (hr:cT G):(dP G g).length≤400:=by
 cases ha:(G.any fun y=>decide (y.1=g.1)) with
 |true=>
  by_cases hq:G.length - 1≥400
  ·omega
  ·rw[BN ha hq];have h1:=ph G g hr ha;omega
 |false=>
  by_cases hq:G.length≥400
  ·rw[Fz ha hq];exact h
  ·rw[EJ ha hq]
   have:=BL G g
   omega
theorem fN {G:List Gn} (g:Gn) (h:cT G):cT (dP G g):=by
 have h1:=yY G g h;unfold dP;split<;>split<;>assumption
theorem jU {P:Nm→ByteArray × Int→Prop} {V:List VS} {x:Nm} {l:List D} (h:∀v∈V,P v.1 v.2.2):∀v∈dS V x l,P v.1 v.2.2:=fun v hv=>by
 rcases iA hv with⟨h1,h2⟩|⟨u,hu,h1,h2⟩
 ·exact h v h1
 ·rw[h2];exact h u hu
theorem fE (V:List VS) (x:Nm) (l:List D):(dS V x l).length=V.length:=by unfold dS;rw[Ρ]
theorem sB {α:Type} {k:α→Nm} (l:List α) (x:Nm):(CL k l x).length≤l.length:=List.length_filter_le _ _
theorem AP {o:dR} (h:iu o=0):dK o.s o.n=τ∧lO o=τ∧o=oh o∧cQ o.t=τ:=by
 unfold iu at h;split at h
 ·rename_i h1;split at h
  ·rename_i h2;exact⟨h1.1,h1.2.1,h1.2.2,h2⟩
  ·cases h
 ·cases h
theorem pg:cQ Jaf=τ:=by decide
theorem o4:eR 0=τ:=by decide
theorem vo {α:Type} {p:α→Bool} {l:List α} {a:α} (h:a∈l.filter p):a∈l:=(List.mem_filter.1 h).1
theorem gD.kind {S:SS} (h:gD S) {o:dR} (ho:iu o=0):gD (bQ S o).1:=by
 obtain⟨m1,m2,m3,m4⟩:=AP ho;unfold bQ;split
 ·unfold og;split
  ·exact dy
  ·rename_i hn;split
   ·exact dy
   ·have hn:=Bool.eq_false_iff.2 hn
    refine⟨h.fit.addV hn,by show(fx _ _).length≤24;unfold fx;rw[ll];omega,h.e40,h.g400,fun v hv=>?_,h.em,h.gr⟩
    rcases cy.1 hv with rfl|hv
    ·exact⟨m1,pg,o4⟩
    ·exact h.vm v hv
 split
 ·unfold oc;split
  ·exact dy
  ·rename_i hh;split
   ·exact dy
   ·rename_i hr;have hh:bu S.1 (bL o)=τ:=by simpa using hh
    obtain⟨u,hu,e⟩:=db.1 hh;have hr:eS S.1 (bL o)=[]:=by simpa using hr
    have e:u.1=bL o:=e;rw[←e,fI h.fit.rg.keys hu] at hr;rw[←e];exact⟨h.fit.remV hu hr,Λ (sB _ _) h.v24,h.e40,h.g400,fun v hv=>h.vm v (vo hv),h.em,h.gr⟩
 split
 ·unfold fO;split
  ·exact dy
  ·rename_i hE;split
   ·exact dy
   ·split
    ·exact dy
    ·rename_i hl s8;rw[not_or] at s8;have ha:bu S.1 (uC o).1=τ:=by simpa using s8.1
     have hb:bu S.1 (jh o).1=τ:=by simpa using s8.2
     have hE:bI S.2.1 (bL o)=ρ:=by simpa using hE
     obtain⟨b2,jc⟩:=aB ((if (jh o).2=bh (bL o) 0 then jh o else lz S.1 S.2.2 (jh o)));have aP:bu S.1 b2.1=τ:=by rw[←jc];split<;>exact hb
     dsimp only;rw[jc];split
     ·refine⟨h.fit.link hE (a:=lz S.1 S.2.2 (uC o)) ha aP _,by show(cO _ _ _).length≤24;unfold cO;rw[fE,fE];exact h.v24,by show(gH _ _).length≤40;unfold gH;rw[ll];omega,h.g400,?_,fun e he=>?_,h.gr⟩
      ·exact jU (P:=fun x t=>dK x.1 x.2=τ∧cQ t.1=τ∧eR t.2=τ) (jU (P:=fun x t=>dK x.1 x.2=τ∧cQ t.1=τ∧eR t.2=τ) h.vm)
      ·rcases cy.1 he with rfl|he
       ·exact⟨m1,pg,o4⟩
       ·exact h.em e he
     ·exact dy
 split
 ·unfold jK;split
  ·exact dy
  ·rename_i hE;have hE:bI S.2.1 (bL o)=τ:=by simpa using hE
   refine⟨h.fit.unlink hE _,by show(iU _ _).length≤24;unfold iU;rw[fE,fE];exact h.v24,Λ (sB _ _) h.e40,mT _ _ (mT _ _ h.g400 h.gr) (fN _ h.gr),?_,fun e he=>h.em e (vo he),fN _ (fN _ h.gr)⟩
   exact jU (P:=fun x t=>dK x.1 x.2=τ∧cQ t.1=τ∧eR t.2=τ) (jU (P:=fun x t=>dK x.1 x.2=τ∧cQ t.1=τ∧eR t.2=τ) h.vm)
 split
 ·rename_i k1 k2 k3 k4 k5;unfold dJ;split
  ·exact dy
  ·rename_i hE;split
   ·exact dy
   ·rename_i kZ;split
    ·exact dy
    ·rename_i hl;rw[not_or] at kZ hl;have hE:bI S.2.1 (bL o)=τ:=by simpa using hE
     have hn:bu S.1 (rz o)=ρ:=by simpa using kZ.1
     have hot:bI S.2.1 (cX o)=ρ:=by simpa using kZ.2
     have hf:dK o.s1 o.n1=τ∧dK o.s2 o.n2=τ∧0≤o.m∧o.m≤3:=by
      unfold lO at m2;rw[if_neg (by omega),if_neg k3,if_pos k5,Jar,Jar] at m2;exact⟨m2.1.1,m2.1.2,(of_decide_eq_true m2.2).1,(of_decide_eq_true m2.2).2⟩
     obtain⟨f1,f2,f3,f4⟩:=hf;have hs:(1:Int) - o.m.tmod 2=0∨1 - o.m.tmod 2=1:=by rw[Int.tmod_eq_emod_of_nonneg f3];omega
     have ht:o.m.tdiv 2=0∨o.m.tdiv 2=1:=by rw[Int.tdiv_eq_ediv_of_nonneg f3];omega
     refine⟨h.fit.split hE hn hot hs ht _,by show(fx _ _).length≤24;unfold fx dL;rw[ll,fE];omega,by show(gH _ _).length≤40;unfold gH;rw[ll];omega,h.g400,fun v hv=>?_,fun e he=>?_,h.gr⟩
     ·rcases cy.1 hv with rfl|hv
      ·exact⟨f1,pg,o4⟩
      ·exact jU (P:=fun x t=>dK x.1 x.2=τ∧cQ t.1=τ∧eR t.2=τ) h.vm v hv
     ·rcases cy.1 he with rfl|he
      ·exact⟨f2,pg,o4⟩
      ·exact h.em e he
 split
 ·unfold gU;split
  ·exact dy
  ·rename_i hh;have hh:bu S.1 (bL o)=τ:=by simpa using hh
   obtain⟨u,hu,e⟩:=db.1 hh;have e:u.1=bL o:=e;rw[←e,fI h.fit.rg.keys hu];split
   ·exact dy
   ·rename_i a b hm
    refine⟨h.fit.smooth hu hm _,by show(dL _ _ _).length≤24;unfold dL;rw[fE];exact Λ (sB _ _) h.v24,Λ (sB _ _) h.e40,mT _ _ (mT _ _ h.g400 h.gr) (fN _ h.gr),?_,fun e he=>h.em e (vo he),fN _ (fN _ h.gr)⟩
    exact jU (P:=fun x t=>dK x.1 x.2=τ∧cQ t.1=τ∧eR t.2=τ) (fun v hv=>h.vm v (vo hv))
 ·rename_i k1 k2 k3 k4 k5 k6
  have hp:∀p:ByteArray × Int,cQ p.1=τ∧eR p.2=τ→cQ (fV o p).1=τ∧eR (fV o p).2=τ:=fun p hp=>by
   unfold fV;split
   ·exact⟨m4,hp.2⟩
   ·rename_i k7;unfold lO at m2;rw[if_neg (by omega),if_neg k3,if_neg k5,if_neg k6] at m2;split at m2
    ·exact⟨hp.1,m2⟩
    ·cases m2
  unfold setS;split
  ·split
   ·exact⟨dx.setE h.fit _ _,h.v24,by show(o6 _ _ _).length≤40;unfold o6;rw[Ρ];exact h.e40,h.g400,h.vm,fun e he=>by
     obtain⟨u,hu,rfl⟩:=Α.1 he;have hq:=h.em u hu
     by_cases q:u.1=bL o
     ·rw[if_pos q];exact⟨hq.1,hp u.2 hq.2⟩
     ·rw[if_neg q];exact hq,h.gr⟩
   ·exact dy
  ·split
   ·exact⟨dx.setV h.fit _ _,by show(lg _ _ _).length≤24;unfold lg;rw[Ρ];exact h.v24,h.e40,h.g400,fun v hv=>by
     obtain⟨u,hu,rfl⟩:=Α.1 hv;have hq:=h.vm u hu
     by_cases q:u.1=bL o
     ·rw[if_pos q];exact⟨hq.1,hp u.2.2 hq.2⟩
     ·rw[if_neg q];exact hq,h.em,h.gr⟩
   ·exact dy
theorem gD.one {S:SS} (h:gD S) (o:dR):gD (yi S o).1:=by
 unfold yi;split
 ·rename_i ho;exact h.kind ho
 ·exact dy
theorem cx (Vs:List VC) (x:Nm):pf (fun v:VC=>v.1) Vs x=bu (Vs.map vS) x:=by
 unfold bu pf;rw[List.any_map];rfl
theorem wG (v:VC):∀Vs:List VC,(kq (fun v:VC=>v.1) Vs v).map vS=fx (Vs.map vS) (vS v)
 |[]=>rfl
 |u::Vs=>by
  show(if dW v.1 u.1<0 then v::u::Vs else u::kq (fun v:VC=>v.1) Vs v).map vS=if dW v.1 u.1<0 then vS v::vS u::Vs.map vS else vS u::fx (Vs.map vS) (vS v)
  split
  ·rfl
  ·rw[List.map_cons,wG v Vs]
theorem G5 {Vs:List VC}:od (fun v:VS=>v.1) (Vs.map vS)↔od (fun v:VC=>v.1) Vs:=Jbg
theorem Cm {Vs:List VC} (hu:od (fun v:VS=>v.1) (Vs.map vS)) {i:Nat} {v:VC} (hv:Vs[i]? =ζ v):(Vs.eraseIdx i).map vS=dM (Vs.map vS) v.1:=by
 have h1:(Vs.map vS)[i]? =ζ (vS v):=by rw[List.getElem?_map,hv];rfl
 have h2:=sh (k:=fun v:VS=>v.1) hu h1;unfold dM;rw[show v.1=(vS v).1 from rfl,h2,List.eraseIdx_eq_take_drop_succ,List.map_append,List.map_take,List.map_drop]
theorem Hh {Es:List EC} (hu:od (fun e:EC=>e.1) Es) {i:Nat} {v:EC} (hv:Es[i]? =ζ v):Es.eraseIdx i=jX Es v.1:=by
 unfold jX;rw[sh (k:=fun e:EC=>e.1) hu hv,List.eraseIdx_eq_take_drop_succ]
theorem tg {Vs:List VC} (hk:(Vs.map (·.1)).Nodup) {i:Nat} {v:VC} (hv:Vs[i]? =ζ v):eS (Vs.map vS) v.1=v.2.1.2.2.2:=
 fI (V:=Vs.map vS) (u:=vS v) (by rw[iB];exact hk) (Α.2 ⟨v,ω hv,rfl⟩)
def cG (w W:ο) (lo g:Nat) (R:SS × Int) (e:Ending) (w':ο):Prop:=
 e=.returned (J R.2)∧σ w.heap.size w w'∧aJ g W w'∧(R.2=0→∃A n c Vs B m k Es C r rc G,bK w lo g A n c Vs B m k Es C r rc G w'∧(Vs.map vS,Es,G)=R.1)
theorem cG.no {w W w':ο} {lo g:Nat} {R:SS × Int} {e:Ending} {z:Int} (hR:R=(dv,z)) (hz:z≠0) (he:e=.returned (J z)) (hb:σ w.heap.size w w') (hk:aJ g W w'):cG w W lo g R e w':=by
 subst hR;exact⟨he,hb,hk,fun q=>absurd q hz⟩
theorem cG.yes {w W w':ο} {lo g:Nat} {R:SS × Int} {e:Ending} {S:SS} {A:Option Κ} {n c:Nat} {Vs:List VC} {B:Option Κ} {m k:Nat} {Es:List EC} {C:Option Κ} {r rc:Nat} {G:List Gn} (hR:R=(S,0)) (he:e=.returned (J 0)) (hk:aJ g W w') (h:bK w lo g A n c Vs B m k Es C r rc G w') (hS:(Vs.map vS,Es,G)=S):cG w W lo g R e w':=by
 subst hR;exact⟨he,h.below,hk,fun _=>⟨A,n,c,Vs,B,m,k,Es,C,r,rc,G,h,hS⟩⟩
theorem gD.n24 {A B C:Option Κ} {w W:ο} {lo g n c m k r rc:Nat} {Vs:List VC} {Es:List EC} {G:List Gn} (hS:gD (Vs.map vS,Es,G)) (h:bK w lo g A n c Vs B m k Es C r rc G W):n≤24∧m≤40∧r≤400∧∀x∈Vs,x.2.1.2.1≤80:=by
 have h1:=hS.v24;have h2:(Vs.map vS).length=n:=by rw[Ρ];exact h.vlen
 have h3:=hS.e40;have h4:=hS.g400
 refine⟨by rw[←h2];exact h1,by rw[←h.elen];exact h3,by rw[←h.glen];exact h4,fun x hx=>?_⟩
 have:=hS.short (vS x) (Α.2 ⟨x,hx,rfl⟩)
 have h5:x.2.1.2.2.2.length=x.2.1.2.1:=(h.rg x hx).2.1.dlen;rw[←h5];exact this
section
variable {w W:ο} {lo g:Nat} {A:Option Κ} {n c:Nat} {Vs:List VC} {B:Option Κ} {m k:Nat} {Es:List EC} {C:Option Κ} {r rc:Nat} {G:List Gn}
theorem JE (h:bK w lo g A n c Vs B m k Es C r rc G W) (hS:gD (Vs.map vS,Es,G)) (x1 x2:Int):Ζ η 90 #[υ (ζ ⟨g,0,ε⟩),φ #[J x1,J x2]] W (cG w W lo g (og (Vs.map vS,Es,G) (x1,x2))):=by
 obtain⟨hn,hm,hr,fy⟩:=hS.n24 h;have IH:(Vs.map (·.1)).Nodup:=iB Vs▸hS.fit.vup.nodup;have fp:=az W (δ #[J x1,J x2] 30);have HV:Hid (∀X,bK w lo g A n c Vs B m k Es C r rc G X→Ζ η 110 #[υ (ζ ⟨g,0,ε⟩),φ #[J x1,J x2]] X fun e w'=>e=.returned (J (dX (fun v:VC=>v.1) Vs (x1,x2)))∧σ X.heap.size X w'):=qh (fun X hX=>fB g A n c B m k C r rc x1 x2 Vs X hX.s (aK hX.v) (by omega));have H0:=qh (h.up fp);have HQ:=H0;have aQ:Hid (Whole (W.alloc (δ #[J x1,J x2] 30)) W.heap.size 30 [J x1,J x2]):=qh (Whole.new_ _ _ [_,_]);have yP:=qh (aJ.of_below (g:=g) fp);have tT:=qh hS;have O7:=aQ.out.cell (i:=0) rfl;have O1:=aQ.out.cell (i:=1) rfl;cases hh:bu (Vs.map vS) (x1,x2) with
 |true=>
  obtain⟨i,v,e1,e2,e3,e4⟩:=ck (k:=fun v:VC=>v.1) (l:=Vs) ((cx Vs (x1,x2)).trans hh);rw[e1] at HV;have HR:Hid (og (Vs.map vS,Es,G) (x1,x2)=(dv,12)):=qh (by unfold og;rw[if_pos hh]);clear h hS fy IH hh e1 e2 e3 fp;go_enter Tryz.func90,Tryz.ntmps90
  go_wp2_with (first
   |(go_at_call 110
     refine(HV.out _ HQ.out).mono ?_
     rintro e w2 ⟨rfl,aP⟩;have cY:=qh (H0.out.bl aP);have aZ:=qh (aQ.out.bl aP);have jG:=qh (yP.out.trans (aJ.of_below aP));have c0:=aZ.out.cell (i:=0) rfl;have c1:=aZ.out.cell (i:=1) rfl;have s0:=cY.out.s.cell (i:=0) rfl;clear aP H0 aQ yP O7 O1))
  go_ret;exact cG.no HR.out (by decide) rfl cY.out.below jG.out
 |false=>
  have e1:=dH (k:=fun v:VC=>v.1) (l:=Vs) ((cx Vs (x1,x2)).trans hh);rw[e1] at HV
  by_cases h24:n=24
  ·have HR:Hid (og (Vs.map vS,Es,G) (x1,x2)=(dv,3)):=qh (by unfold og;rw[if_neg (by rw[hh];decide),if_pos (by rw[Ρ,h.vlen];omega)]);have q1:(24:Int)≤(n:Int):=by omega
   have q2:24≤n:=by omega
   clear h hS fy IH hh e1 fp;go_enter Tryz.func90,Tryz.ntmps90
   go_wp2_with (first
    |(go_at_call 110
      refine(HV.out _ HQ.out).mono ?_
      rintro e w2 ⟨rfl,aP⟩;have cY:=qh (H0.out.bl aP);have aZ:=qh (aQ.out.bl aP);have jG:=qh (yP.out.trans (aJ.of_below aP));have c0:=aZ.out.cell (i:=0) rfl;have c1:=aZ.out.cell (i:=1) rfl;have s0:=cY.out.s.cell (i:=0) rfl;clear aP H0 aQ yP O7 O1))
   go_ret;exact cG.no HR.out (by decide) rfl cY.out.below jG.out
  ·have HR:Hid (og (Vs.map vS,Es,G) (x1,x2)=((fx (Vs.map vS) ((x1,x2),[],Jaf,0),Es,G),0)):=qh (by unfold og;rw[if_neg (by rw[hh];decide),if_neg (by rw[Ρ,h.vlen];omega)]);have q1:¬(24:Int)≤(n:Int):=by omega
   have q2:¬24≤n:=by omega
   have HU:=qh (G5.1 hS.fit.vup);have HNo:Hid (∀u∈Vs,¬u.1=(x1,x2)):=qh (gY.1 ((cx Vs (x1,x2)).trans hh));clear h hS fy IH hh e1 fp;go_enter Tryz.func90,Tryz.ntmps90
   go_wp2_with (first
    |(go_at_call 110
      refine(HV.out _ HQ.out).mono ?_
      rintro e w2 ⟨rfl,aP⟩;have cY:=qh (H0.out.bl aP);have aZ:=qh (aQ.out.bl aP);have jG:=qh (yP.out.trans (aJ.of_below aP));have c0:=aZ.out.cell (i:=0) rfl;have c1:=aZ.out.cell (i:=1) rfl;have s0:=cY.out.s.cell (i:=0) rfl;clear aP H0 aQ yP O7 O1)
    |(go_at_call 111
      refine(CU cY.out ((x1,x2),(ε,0,0,[]),⟨#[]⟩,0) (ko.nil_ _) (by omega) HU.out HNo.out).mono ?_
      rintro e w3 ⟨rfl,A3,c3,u6,Ec⟩;have gE:=qh u6;have BF:=qh (jG.out.trans Ec);clear u6 Ec cY jG aZ c0 c1 s0))
   go_ret;exact cG.yes HR.out rfl BF.out gE.out (by rw[wG];rfl)
theorem I7 (h:bK w lo g A n c Vs B m k Es C r rc G W) (hS:gD (Vs.map vS,Es,G)) (x1 x2:Int):Ζ η 91 #[υ (ζ ⟨g,0,ε⟩),φ #[J x1,J x2]] W (cG w W lo g (oc (Vs.map vS,Es,G) (x1,x2))):=by
 obtain⟨hn,hm,hr,fy⟩:=hS.n24 h;have IH:(Vs.map (·.1)).Nodup:=iB Vs▸hS.fit.vup.nodup;have fp:=az W (δ #[J x1,J x2] 30);have HV:Hid (∀X,bK w lo g A n c Vs B m k Es C r rc G X→Ζ η 110 #[υ (ζ ⟨g,0,ε⟩),φ #[J x1,J x2]] X fun e w'=>e=.returned (J (dX (fun v:VC=>v.1) Vs (x1,x2)))∧σ X.heap.size X w'):=qh (fun X hX=>fB g A n c B m k C r rc x1 x2 Vs X hX.s (aK hX.v) (by omega));have H0:=qh (h.up fp);have HQ:=H0;have aQ:Hid (Whole (W.alloc (δ #[J x1,J x2] 30)) W.heap.size 30 [J x1,J x2]):=qh (Whole.new_ _ _ [_,_]);have yP:=qh (aJ.of_below (g:=g) fp);have tT:=qh hS;have O7:=aQ.out.cell (i:=0) rfl;have O1:=aQ.out.cell (i:=1) rfl;cases hh:bu (Vs.map vS) (x1,x2) with
 |false=>
  have e1:=dH (k:=fun v:VC=>v.1) (l:=Vs) ((cx Vs (x1,x2)).trans hh);rw[e1] at HV;have HR:Hid (oc (Vs.map vS,Es,G) (x1,x2)=(dv,13)):=qh (by unfold oc;rw[if_pos hh]);clear h hS fy IH hh e1 fp;go_enter Tryz.func91,Tryz.ntmps91
  go_wp2_with (first
   |(go_at_call 110
     refine(HV.out _ HQ.out).mono ?_
     rintro e w2 ⟨rfl,aP⟩;have cY:=qh (H0.out.bl aP);have aZ:=qh (aQ.out.bl aP);have jG:=qh (yP.out.trans (aJ.of_below aP));have c0:=aZ.out.cell (i:=0) rfl;have c1:=aZ.out.cell (i:=1) rfl;have s0:=cY.out.s.cell (i:=0) rfl;clear aP H0 aQ yP O7 O1))
  go_ret;exact cG.no HR.out (by decide) rfl cY.out.below jG.out
 |true=>
  obtain⟨i,v,e1,e2,e3,e4⟩:=ck (k:=fun v:VC=>v.1) (l:=Vs) ((cx Vs (x1,x2)).trans hh);rw[e1] at HV;have hi:i<n:=by rw[←h.vlen];exact e4
  have ec:=tg IH e2;have e3:v.1=(x1,x2):=e3;rw[e3] at ec;have qx:v.2.1.2.2.2.length=v.2.1.2.1:=(h.rg v (ω e2)).2.1.dlen;have FX:=fy v (ω e2);have OQ:=qh ((Cm hS.fit.vup e2).trans (by rw[e3]));have dQ:=qh e2;have Uz:Hid (i<n):=qh hi;obtain⟨⟨i1,i2⟩,⟨rA,rn,jg,rL⟩,lb,at_⟩:=v;have qx:rL.length=rn:=qx;have FX:rn≤80:=FX;have ec:eS (Vs.map vS) (x1,x2)=rL:=ec;have hiI:(i:Int)<(n:Int):=by omega
  by_cases h0:rn=0
  ·have kE:rL=[]:=List.eq_nil_of_length_eq_zero (by omega);have HR:Hid (oc (Vs.map vS,Es,G) (x1,x2)=((dM (Vs.map vS) (x1,x2),Es,G),0)):=qh (by unfold oc;rw[if_neg (by rw[hh];decide),if_neg (by rw[ec,kE];simp)]);clear h hS fy IH hh e1 fp e2 ec kE qx e4 e3;subst h0;go_enter Tryz.func91,Tryz.ntmps91
   go_wp2_with (first
    |(go_at_call 110
      refine(HV.out _ HQ.out).mono ?_
      rintro e w2 ⟨rfl,aP⟩;have cY:=qh (H0.out.bl aP);have aZ:=qh (aQ.out.bl aP);have jG:=qh (yP.out.trans (aJ.of_below aP));have c0:=aZ.out.cell (i:=0) rfl;have c1:=aZ.out.cell (i:=1) rfl;have s0:=cY.out.s.cell (i:=0) rfl;obtain⟨bb,off,rfl,aY,a8⟩:=(aK cY.out.v).place aS (by decide) (Nat.lt_of_le_of_lt (Jas _) Uz.out);have l2:=a8 i _ dQ.out 2 _ rfl;simp only[Ν] at l2;clear a8 aP H0 aQ yP O7 O1)
    |(go_at_call 112
      refine(CD cY.out i Uz.out (by omega)).mono ?_
      rintro e w3 ⟨rfl,A3,c3,u6,Ec⟩;have gE:=qh u6;have BF:=qh (jG.out.trans Ec);clear u6 Ec cY jG aZ c0 c1 s0 l2))
   go_ret;exact cG.yes HR.out rfl BF.out gE.out (by rw[OQ.out])
  ·have bj:¬rL=[]:=fun e=>h0 (by rw[←qx,e];rfl)
   have HR:Hid (oc (Vs.map vS,Es,G) (x1,x2)=(dv,14)):=qh (by unfold oc;rw[if_neg (by rw[hh];decide),if_pos (by rw[ec];exact bj)]);have q1:(0:Int)<(rn:Int):=by omega
   have q2:0<rn:=by omega
   clear h hS fy IH hh e1 fp e2 ec bj qx e4 e3;go_enter Tryz.func91,Tryz.ntmps91
   go_wp2_with (first
    |(go_at_call 110
      refine(HV.out _ HQ.out).mono ?_
      rintro e w2 ⟨rfl,aP⟩;have cY:=qh (H0.out.bl aP);have aZ:=qh (aQ.out.bl aP);have jG:=qh (yP.out.trans (aJ.of_below aP));have c0:=aZ.out.cell (i:=0) rfl;have c1:=aZ.out.cell (i:=1) rfl;have s0:=cY.out.s.cell (i:=0) rfl;obtain⟨bb,off,rfl,aY,a8⟩:=(aK cY.out.v).place aS (by decide) (Nat.lt_of_le_of_lt (Jas _) Uz.out);have l2:=a8 i _ dQ.out 2 _ rfl;simp only[Ν] at l2;clear a8 aP H0 aQ yP O7 O1))
   go_ret;exact cG.no HR.out (by decide) rfl cY.out.below jG.out
end
end Go.Proofs.YtpdpbfmiahjiiaaGreat
