/- Several texts in one. -/
import Derived.Test.YtpdpbfmiahjiiaaGreatPzA
import Derived.Test.YtpdpbfmiahjiiaaGreatPzC
import Derived.Test.YtpdpbfmiahjiiaaGreatPzG
import Derived.Test.YtpdpbfmiahjiiaaGreatPzJ
set_option linter.unusedSectionVars false
set_option linter.unusedSimpArgs false
set_option linter.unusedVariables false
set_option maxRecDepth 100000
set_option maxHeartbeats 16000000
namespace Go.Proofs.YtpdpbfmiahjiiaaGreat
open Go.RowKit
open _root_.Go.Value renaming slice→γ,pointer→υ,agg→φ,bool→Β,tuple→Ξ,oneCell'→Τ
open _root_.Go.Obj renaming cells→δ
open _root_.Option renaming none→ε,some→ζ,some→Jae
open _root_.Go.Proofs.Tryz renaming prog→η
open _root_.List renaming map_cons→ι,map_nil→π,mem_of_getElem?→ω,mem_map→Α,all_eq_true→Φ,getElem?_map→Ψ,range→Ω,getElem?_cons_succ→Jag,getElem?_cons_zero→Jah,getElem?_toArray→Jaj,mem_filter→JaC
open _root_.Go.Act renaming put→ξ
open _root_.Go renaming World→ο,Value→ψ,Calls→Ζ,Addr→Κ,wp_region_lit→Jam,getD_set_ne→Jbq
open _root_.Bool renaming false→ρ,true→τ
open _root_.Go.RowKit renaming Below→σ
open _root_.Nat renaming le_refl→Δ,not_lt→JbT
open _root_.Go.RowKit.Below renaming refl→Θ
open _root_.Array renaming getElem?_eq_some_iff→Jaa,getD→JaD,replicate→Jbe
open _root_.Go.Region renaming ready→Jaq,Mode→Jbj,noSelect→JbJ,free→JbP
def ji (L:List D) (ot:Nm):(D × D) × Bool:=match jn L ot with
 |some p=>(p,τ)
 |none=>((zD,zD),ρ)
theorem xn {P:Program} {fn:Func} {R:Ending→ο→Prop} {a:Act} {w:ο} {p p2 q:Tmp} {t t2:TypeId} (h:fn.results=#[.cell p t,.cell p2 t2,.tmp q]) (g g2:Nat) {t' t2':TypeId} {cs cs2:List ψ} {d d2:TypeDesc}
 (hp:a.tmps.getD p undef=υ (ζ ⟨g,0,ε⟩)) (hW:Whole w g t' cs) (hu:P.underlying t=ζ d) (hd:d.isRow=τ) (hi:(P.info? t).map (·.size)=ζ cs.length)
 (ob:a.tmps.getD p2 undef=υ (ζ ⟨g2,0,ε⟩)) (AW:Whole w g2 t2' cs2) (PJ:P.underlying t2=ζ d2) (lB:d2.isRow=τ) (Rj:(P.info? t2).map (·.size)=ζ cs2.length)
 (v:ψ) (hv:a.tmps.getD q undef=v) (Qe:a.defers=[]) (hR:R (.returned (Ξ #[φ cs.toArray,φ cs2.toArray,v])) w):bodyPost P fn R .ret a w:=by
 refine bodyPost_ret (v:=Ξ #[φ cs.toArray,φ cs2.toArray,v]) ?_ Qe hR
 have hl:=run_loadVar_mid (P:=P) w g 0 t cs d (fun j v hv=>by
  have:=hW.cell hv
  simpa using this) hu hd hi
 have jd:=run_loadVar_mid (P:=P) w g2 0 t2 cs2 d2 (fun j v hv=>by
  have:=AW.cell hv
  simpa using this) PJ lB Rj
 rw[Array.getD_eq_getD_getElem?] at hp ob hv;simp[results,h,hp,ob,hv,asAddr,Sem.run_bind,Result.andThen,hl,jd]
theorem lJ (a b x y:Int) (X:ο):(binOp .eql 30 (φ #[J a,J b]) (φ #[J x,J y])).run η X=.ok (Β (decide ((a,b)=(x,y)))) X:=by
 by_cases h1:a=x
 ·by_cases h2:b=y
  ·simp[go_sem,h1,h2]
  ·simp[go_sem,h1,h2]
 ·simp[go_sem,h1]
section
variable {w W:ο} {lo g:Nat} {A:Option Κ} {n c:Nat} {Vs:List VC} {B:Option Κ} {m k:Nat} {Es:List EC} {C:Option Κ} {r rc:Nat} {G:List Gn}
theorem I4 (A:Option Κ) (n c:Nat) (x1 x2:Int) (L:List D) (hn:¬n=2) (hR:ji L (x1,x2)=((zD,zD),ρ)):Ζ η 129 #[γ A n c,φ #[J x1,J x2]] W fun e w'=>e=.returned (Ξ #[φ #[J (ji L (x1,x2)).1.1.1,J (ji L (x1,x2)).1.1.2.1,J (ji L (x1,x2)).1.1.2.2],φ #[J (ji L (x1,x2)).1.2.1,J (ji L (x1,x2)).1.2.2.1,J (ji L (x1,x2)).1.2.2.2],Β (ji L (x1,x2)).2])∧σ W.heap.size W w':=by
 have HR:=qh hR;have hnI:¬(n:Int)=2:=by omega
 clear hR;have bw:Hid (σ W.heap.size W (((W.alloc (δ #[J x1,J x2] 30)).alloc (δ #[J 0,J 0,J 0] 32)).alloc (δ #[J 0,J 0,J 0] 32))):=qh (aI (aI (az W _) _) _);have aQ:Hid (Whole (((W.alloc (δ #[J x1,J x2] 30)).alloc (δ #[J 0,J 0,J 0] 32)).alloc (δ #[J 0,J 0,J 0] 32)) W.heap.size 30 [J x1,J x2]):=qh (((Whole.new_ _ _ [_,_]).al _).al _);have fk:Hid (Whole (((W.alloc (δ #[J x1,J x2] 30)).alloc (δ #[J 0,J 0,J 0] 32)).alloc (δ #[J 0,J 0,J 0] 32)) (W.heap.size+1) 32 [J 0,J 0,J 0]):=qh ((Whole.new2 (by simp)).al _);have mf:Hid (Whole (((W.alloc (δ #[J x1,J x2] 30)).alloc (δ #[J 0,J 0,J 0] 32)).alloc (δ #[J 0,J 0,J 0] 32)) (W.heap.size+1+1) 32 [J 0,J 0,J 0]):=qh (Whole.new2 (by simp));go_enter Tryz.func129,Tryz.ntmps129;go_upto_region 1 with fail
 obtain⟨W0,bO⟩:=aB ((((W.alloc (δ #[J x1,J x2] 30)).alloc (δ #[J 0,J 0,J 0] 32)).alloc (δ #[J 0,J 0,J 0] 32)));obtain⟨b2,jc⟩:=aB (W.heap.size+1+1);obtain⟨b1,dE⟩:=aB (W.heap.size+1);obtain⟨b0,bp⟩:=aB W.heap.size;have L1:Hid (W.heap.size≤b1):=qh (by omega);have L2:Hid (W.heap.size≤b2):=qh (by omega);have tU:Hid (b1≠b2):=qh (by omega);rw[bO] at bw aQ fk mf ⊢;rw[jc] at mf ⊢;rw[dE] at fk ⊢;rw[bp] at aQ ⊢;clear bO bp dE jc;refine ay (aO) (by kernel_rfl) ?_;refine aa 0 ?_;refine aa 1 ?_;refine cV 2 (hy:=dD (v:=Β τ) (by rfl) (fun w' aC=>by go_simp)) (h:=?_);refine aa 3 ?_;refine cp 4 ?_;refine cp 5 ?_;refine cp 6 ?_;refine cp 7 ?_;refine cp 8 ?_;refine cp 9 ?_;refine cp 10 ?_;refine cp 11 ?_;refine cp 12 ?_;refine cp 13 ?_;refine cp 14 ?_;refine cp 15 ?_;refine cp 16 ?_;refine aa 17 ?_;refine aF (by kernel_rfl) ?_ _;intro w1 ia;have aL:=qh (aQ.out.dr.bl ia);have mZ:=qh (fk.out.dr.bl ia);have Jz:=qh (mf.out.dr.bl ia);have bE:=qh (ag (aN bw.out) ia);clear ia aQ fk mf bw;go_upto_region 2 with fail
 refine Jam ?_;refine a7 (v:=?_) (ζ 25) rfl (by rfl) ?_ ?_;rotate_left
 ·go_simp;(try with_reducible rfl)
 simp only[ξ,aw,ar,aq];refine a7 (v:=?_) (ζ 26) rfl (by rfl) ?_ ?_;rotate_left
 ·go_simp;(try with_reducible rfl)
 simp only[ξ,aw,ar,aq];refine jC rfl (by rfl) (aR 32 (.tmp 4) (.tmp 25) rfl b1 rfl [J 0,J 0,J 0] rfl 32 [J 0,J 0,J 0] mZ.out (by kernel_rfl) rfl (by simp[Τ])) ?_;have Pk:=qh (Jz.out.row_far tU.out.symm #[J 0,J 0,J 0]);have HYa:=qh (Whole.row mZ.out [J 0,J 0,J 0]);have lX:=qh (bH bE.out L1.out #[J 0,J 0,J 0]);refine jC rfl (by rfl) (aR 32 (.tmp 5) (.tmp 26) rfl b2 rfl [J 0,J 0,J 0] rfl 32 [J 0,J 0,J 0] Pk.out (by kernel_rfl) rfl (by simp[Τ])) ?_;have MB:=qh (HYa.out.row_far tU.out #[J 0,J 0,J 0]);have Kf:=qh (Whole.row Pk.out [J 0,J 0,J 0]);have oC:=qh (bH lX.out L2.out #[J 0,J 0,J 0]);go_wp2;exact xn rfl b1 b2 rfl MB.out Tryz.underlying32 rfl (by kernel_rfl) rfl Kf.out Tryz.underlying32 rfl (by kernel_rfl) _ rfl rfl ⟨by rw[HR.out];rfl,oC.out⟩
theorem Wk (c:Nat) (x1 x2:Int) (bb off:Nat) (aY:bb<W.heap.size) (a b:D) (c0:W.cell? ⟨bb,off,ε⟩=ζ (J a.1)) (c1:W.cell? ⟨bb,off+1,ε⟩=ζ (J a.2.1)) (c2:W.cell? ⟨bb,off+2,ε⟩=ζ (J a.2.2)) (c3:W.cell? ⟨bb,off+3,ε⟩=ζ (J b.1)) (c4:W.cell? ⟨bb,off+4,ε⟩=ζ (J b.2.1)) (c5:W.cell? ⟨bb,off+5,ε⟩=ζ (J b.2.2)) (ha:decide (dI a=(x1,x2))=τ) (hb:decide (dI b=(x1,x2))=τ):Ζ η 129 #[γ (ζ ⟨bb,off,ε⟩) 2 c,φ #[J x1,J x2]] W fun e w'=>e=.returned (Ξ #[φ #[J (ji [a,b] (x1,x2)).1.1.1,J (ji [a,b] (x1,x2)).1.1.2.1,J (ji [a,b] (x1,x2)).1.1.2.2],φ #[J (ji [a,b] (x1,x2)).1.2.1,J (ji [a,b] (x1,x2)).1.2.2.1,J (ji [a,b] (x1,x2)).1.2.2.2],Β (ji [a,b] (x1,x2)).2])∧σ W.heap.size W w':=by
 have HR:Hid (ji [a,b] (x1,x2)=((zD,zD),ρ)):=qh (by
  replace ha:=of_decide_eq_true ha;replace hb:=of_decide_eq_true hb
  have e:jn [a,b] (x1,x2)=ε:=by
   show(if dI a=dI b then ε else if dI a=(x1,x2) then ζ (b,a) else if dI b=(x1,x2) then ζ (a,b) else ε)=_
   rw[if_pos (ha.trans hb.symm)]
  unfold ji;rw[e])
 have qa:∀X:ο,(binOp .eql 30 (φ #[J a.1,J a.2.1]) (φ #[J x1,J x2])).run η X=.ok (Β τ) X:=fun X=>by rw[lJ,show(a.1,a.2.1)=dI a from rfl,ha]
 have qb:∀X:ο,(binOp .eql 30 (φ #[J b.1,J b.2.1]) (φ #[J x1,J x2])).run η X=.ok (Β τ) X:=fun X=>by rw[lJ,show(b.1,b.2.1)=dI b from rfl,hb]
 clear ha hb;have C0:=qh c0;have C1:=qh c1;have C2:=qh c2;have C3:=qh c3;have C4:=qh c4;have C5:=qh c5;clear c0 c1 c2 c3 c4 c5;have bw:Hid (σ W.heap.size W (((W.alloc (δ #[J x1,J x2] 30)).alloc (δ #[J 0,J 0,J 0] 32)).alloc (δ #[J 0,J 0,J 0] 32))):=qh (aI (aI (az W _) _) _);have aQ:Hid (Whole (((W.alloc (δ #[J x1,J x2] 30)).alloc (δ #[J 0,J 0,J 0] 32)).alloc (δ #[J 0,J 0,J 0] 32)) W.heap.size 30 [J x1,J x2]):=qh (((Whole.new_ _ _ [_,_]).al _).al _);have fk:Hid (Whole (((W.alloc (δ #[J x1,J x2] 30)).alloc (δ #[J 0,J 0,J 0] 32)).alloc (δ #[J 0,J 0,J 0] 32)) (W.heap.size+1) 32 [J 0,J 0,J 0]):=qh ((Whole.new2 (by simp)).al _);have mf:Hid (Whole (((W.alloc (δ #[J x1,J x2] 30)).alloc (δ #[J 0,J 0,J 0] 32)).alloc (δ #[J 0,J 0,J 0] 32)) (W.heap.size+1+1) 32 [J 0,J 0,J 0]):=qh (Whole.new2 (by simp));go_enter Tryz.func129,Tryz.ntmps129;go_upto_region 1 with fail
 obtain⟨W0,bO⟩:=aB ((((W.alloc (δ #[J x1,J x2] 30)).alloc (δ #[J 0,J 0,J 0] 32)).alloc (δ #[J 0,J 0,J 0] 32)));obtain⟨b2,jc⟩:=aB (W.heap.size+1+1);obtain⟨b1,dE⟩:=aB (W.heap.size+1);obtain⟨b0,bp⟩:=aB W.heap.size;have L1:Hid (W.heap.size≤b1):=qh (by omega);have L2:Hid (W.heap.size≤b2):=qh (by omega);have tU:Hid (b1≠b2):=qh (by omega);rw[bO] at bw aQ fk mf ⊢;rw[jc] at mf ⊢;rw[dE] at fk ⊢;rw[bp] at aQ ⊢;clear bO bp dE jc;have fL:∀w',Kept aO W0.drew w'→w'.cell? ⟨bb,off,ε⟩=ζ (J a.1):=fun w' h=>h.cell ((bw.out.cell (p:=⟨bb,off,ε⟩) aY).trans C0.out) (fun e=>e)
 have ld1:∀w',Kept aO W0.drew w'→w'.cell? ⟨bb,off+1,ε⟩=ζ (J a.2.1):=fun w' h=>h.cell ((bw.out.cell (p:=⟨bb,off+1,ε⟩) aY).trans C1.out) (fun e=>e)
 have ka:∀w',Kept aO W0.drew w'→w'.cell? ⟨bb,off+2,ε⟩=ζ (J a.2.2):=fun w' h=>h.cell ((bw.out.cell (p:=⟨bb,off+2,ε⟩) aY).trans C2.out) (fun e=>e)
 have pV:∀w',Kept aO W0.drew w'→w'.cell? ⟨bb,off+3,ε⟩=ζ (J b.1):=fun w' h=>h.cell ((bw.out.cell (p:=⟨bb,off+3,ε⟩) aY).trans C3.out) (fun e=>e)
 have tX:∀w',Kept aO W0.drew w'→w'.cell? ⟨bb,off+4,ε⟩=ζ (J b.2.1):=fun w' h=>h.cell ((bw.out.cell (p:=⟨bb,off+4,ε⟩) aY).trans C4.out) (fun e=>e)
 have yc:∀w',Kept aO W0.drew w'→w'.cell? ⟨bb,off+5,ε⟩=ζ (J b.2.2):=fun w' h=>h.cell ((bw.out.cell (p:=⟨bb,off+5,ε⟩) aY).trans C5.out) (fun e=>e)
 have s6:=cm (i:=0) aQ.out rfl;have sX:=cm (i:=1) aQ.out rfl;refine ay (aO) (by kernel_rfl) ?_;refine aa 0 ?_;refine aa 1 ?_;refine aa 2 ?_;refine aa 3 ?_;refine aa 4 ?_;refine aa 5 ?_;refine aa 6 ?_;refine aa 7 ?_;refine aa 8 ?_;refine aa 9 ?_;refine aa 10 ?_;refine aa 11 ?_;refine aa 12 ?_;refine aa 13 ?_;refine aa 14 ?_;refine aa 15 ?_;refine aa 16 ?_;refine aa 17 ?_;refine aF (by kernel_rfl) ?_ _;clear fL ld1 ka pV tX yc s6 sX;intro w1 ia;have aL:=qh (aQ.out.dr.bl ia);have mZ:=qh (fk.out.dr.bl ia);have Jz:=qh (mf.out.dr.bl ia);have bE:=qh (ag (aN bw.out) ia);clear ia aQ fk mf bw;go_upto_region 2 with fail
 refine Jam ?_;refine a7 (v:=?_) (ζ 25) rfl (by rfl) ?_ ?_;rotate_left
 ·go_simp;(try with_reducible rfl)
 simp only[ξ,aw,ar,aq];refine a7 (v:=?_) (ζ 26) rfl (by rfl) ?_ ?_;rotate_left
 ·go_simp;(try with_reducible rfl)
 simp only[ξ,aw,ar,aq];refine jC rfl (by rfl) (aR 32 (.tmp 4) (.tmp 25) rfl b1 rfl [J 0,J 0,J 0] rfl 32 [J 0,J 0,J 0] mZ.out (by kernel_rfl) rfl (by simp[Τ])) ?_;have Pk:=qh (Jz.out.row_far tU.out.symm #[J 0,J 0,J 0]);have HYa:=qh (Whole.row mZ.out [J 0,J 0,J 0]);have lX:=qh (bH bE.out L1.out #[J 0,J 0,J 0]);refine jC rfl (by rfl) (aR 32 (.tmp 5) (.tmp 26) rfl b2 rfl [J 0,J 0,J 0] rfl 32 [J 0,J 0,J 0] Pk.out (by kernel_rfl) rfl (by simp[Τ])) ?_;have MB:=qh (HYa.out.row_far tU.out #[J 0,J 0,J 0]);have Kf:=qh (Whole.row Pk.out [J 0,J 0,J 0]);have oC:=qh (bH lX.out L2.out #[J 0,J 0,J 0]);go_wp2;exact xn rfl b1 b2 rfl MB.out Tryz.underlying32 rfl (by kernel_rfl) rfl Kf.out Tryz.underlying32 rfl (by kernel_rfl) _ rfl rfl ⟨by rw[HR.out];rfl,oC.out⟩
theorem Uv (c:Nat) (x1 x2:Int) (bb off:Nat) (aY:bb<W.heap.size) (a b:D) (c0:W.cell? ⟨bb,off,ε⟩=ζ (J a.1)) (c1:W.cell? ⟨bb,off+1,ε⟩=ζ (J a.2.1)) (c2:W.cell? ⟨bb,off+2,ε⟩=ζ (J a.2.2)) (c3:W.cell? ⟨bb,off+3,ε⟩=ζ (J b.1)) (c4:W.cell? ⟨bb,off+4,ε⟩=ζ (J b.2.1)) (c5:W.cell? ⟨bb,off+5,ε⟩=ζ (J b.2.2)) (ha:decide (dI a=(x1,x2))=ρ) (hb:decide (dI b=(x1,x2))=ρ):Ζ η 129 #[γ (ζ ⟨bb,off,ε⟩) 2 c,φ #[J x1,J x2]] W fun e w'=>e=.returned (Ξ #[φ #[J (ji [a,b] (x1,x2)).1.1.1,J (ji [a,b] (x1,x2)).1.1.2.1,J (ji [a,b] (x1,x2)).1.1.2.2],φ #[J (ji [a,b] (x1,x2)).1.2.1,J (ji [a,b] (x1,x2)).1.2.2.1,J (ji [a,b] (x1,x2)).1.2.2.2],Β (ji [a,b] (x1,x2)).2])∧σ W.heap.size W w':=by
 have HR:Hid (ji [a,b] (x1,x2)=((zD,zD),ρ)):=qh (by
  replace ha:=of_decide_eq_false ha;replace hb:=of_decide_eq_false hb
  have e:jn [a,b] (x1,x2)=ε:=by
   show(if dI a=dI b then ε else if dI a=(x1,x2) then ζ (b,a) else if dI b=(x1,x2) then ζ (a,b) else ε)=_
   by_cases e:dI a=dI b;rw[if_pos e];rw[if_neg e,if_neg ha,if_neg hb]
  unfold ji;rw[e])
 have qa:∀X:ο,(binOp .eql 30 (φ #[J a.1,J a.2.1]) (φ #[J x1,J x2])).run η X=.ok (Β ρ) X:=fun X=>by rw[lJ,show(a.1,a.2.1)=dI a from rfl,ha]
 have qb:∀X:ο,(binOp .eql 30 (φ #[J b.1,J b.2.1]) (φ #[J x1,J x2])).run η X=.ok (Β ρ) X:=fun X=>by rw[lJ,show(b.1,b.2.1)=dI b from rfl,hb]
 clear ha hb;have C0:=qh c0;have C1:=qh c1;have C2:=qh c2;have C3:=qh c3;have C4:=qh c4;have C5:=qh c5;clear c0 c1 c2 c3 c4 c5;have bw:Hid (σ W.heap.size W (((W.alloc (δ #[J x1,J x2] 30)).alloc (δ #[J 0,J 0,J 0] 32)).alloc (δ #[J 0,J 0,J 0] 32))):=qh (aI (aI (az W _) _) _);have aQ:Hid (Whole (((W.alloc (δ #[J x1,J x2] 30)).alloc (δ #[J 0,J 0,J 0] 32)).alloc (δ #[J 0,J 0,J 0] 32)) W.heap.size 30 [J x1,J x2]):=qh (((Whole.new_ _ _ [_,_]).al _).al _);have fk:Hid (Whole (((W.alloc (δ #[J x1,J x2] 30)).alloc (δ #[J 0,J 0,J 0] 32)).alloc (δ #[J 0,J 0,J 0] 32)) (W.heap.size+1) 32 [J 0,J 0,J 0]):=qh ((Whole.new2 (by simp)).al _);have mf:Hid (Whole (((W.alloc (δ #[J x1,J x2] 30)).alloc (δ #[J 0,J 0,J 0] 32)).alloc (δ #[J 0,J 0,J 0] 32)) (W.heap.size+1+1) 32 [J 0,J 0,J 0]):=qh (Whole.new2 (by simp));go_enter Tryz.func129,Tryz.ntmps129;go_upto_region 1 with fail
 obtain⟨W0,bO⟩:=aB ((((W.alloc (δ #[J x1,J x2] 30)).alloc (δ #[J 0,J 0,J 0] 32)).alloc (δ #[J 0,J 0,J 0] 32)));obtain⟨b2,jc⟩:=aB (W.heap.size+1+1);obtain⟨b1,dE⟩:=aB (W.heap.size+1);obtain⟨b0,bp⟩:=aB W.heap.size;have L1:Hid (W.heap.size≤b1):=qh (by omega);have L2:Hid (W.heap.size≤b2):=qh (by omega);have tU:Hid (b1≠b2):=qh (by omega);rw[bO] at bw aQ fk mf ⊢;rw[jc] at mf ⊢;rw[dE] at fk ⊢;rw[bp] at aQ ⊢;clear bO bp dE jc;have fL:∀w',Kept aO W0.drew w'→w'.cell? ⟨bb,off,ε⟩=ζ (J a.1):=fun w' h=>h.cell ((bw.out.cell (p:=⟨bb,off,ε⟩) aY).trans C0.out) (fun e=>e)
 have ld1:∀w',Kept aO W0.drew w'→w'.cell? ⟨bb,off+1,ε⟩=ζ (J a.2.1):=fun w' h=>h.cell ((bw.out.cell (p:=⟨bb,off+1,ε⟩) aY).trans C1.out) (fun e=>e)
 have ka:∀w',Kept aO W0.drew w'→w'.cell? ⟨bb,off+2,ε⟩=ζ (J a.2.2):=fun w' h=>h.cell ((bw.out.cell (p:=⟨bb,off+2,ε⟩) aY).trans C2.out) (fun e=>e)
 have pV:∀w',Kept aO W0.drew w'→w'.cell? ⟨bb,off+3,ε⟩=ζ (J b.1):=fun w' h=>h.cell ((bw.out.cell (p:=⟨bb,off+3,ε⟩) aY).trans C3.out) (fun e=>e)
 have tX:∀w',Kept aO W0.drew w'→w'.cell? ⟨bb,off+4,ε⟩=ζ (J b.2.1):=fun w' h=>h.cell ((bw.out.cell (p:=⟨bb,off+4,ε⟩) aY).trans C4.out) (fun e=>e)
 have yc:∀w',Kept aO W0.drew w'→w'.cell? ⟨bb,off+5,ε⟩=ζ (J b.2.2):=fun w' h=>h.cell ((bw.out.cell (p:=⟨bb,off+5,ε⟩) aY).trans C5.out) (fun e=>e)
 have s6:=cm (i:=0) aQ.out rfl;have sX:=cm (i:=1) aQ.out rfl;refine ay (aO) (by kernel_rfl) ?_;refine aa 0 ?_;refine aa 1 ?_;refine aa 2 ?_;refine aa 3 ?_;refine aa 4 ?_;refine aa 5 ?_;refine aa 6 ?_;refine aa 7 ?_;refine aa 8 ?_;refine aa 9 ?_;refine aa 10 ?_;refine aa 11 ?_;refine aa 12 ?_;refine aa 13 ?_;refine aa 14 ?_;refine aa 15 ?_;refine aa 16 ?_;refine aa 17 ?_;refine aF (by kernel_rfl) ?_ _;clear fL ld1 ka pV tX yc s6 sX;intro w1 ia;have aL:=qh (aQ.out.dr.bl ia);have mZ:=qh (fk.out.dr.bl ia);have Jz:=qh (mf.out.dr.bl ia);have bE:=qh (ag (aN bw.out) ia);clear ia aQ fk mf bw;go_upto_region 2 with fail
 refine Jam ?_;refine a7 (v:=?_) (ζ 25) rfl (by rfl) ?_ ?_;rotate_left
 ·go_simp;(try with_reducible rfl)
 simp only[ξ,aw,ar,aq];refine a7 (v:=?_) (ζ 26) rfl (by rfl) ?_ ?_;rotate_left
 ·go_simp;(try with_reducible rfl)
 simp only[ξ,aw,ar,aq];refine jC rfl (by rfl) (aR 32 (.tmp 4) (.tmp 25) rfl b1 rfl [J 0,J 0,J 0] rfl 32 [J 0,J 0,J 0] mZ.out (by kernel_rfl) rfl (by simp[Τ])) ?_;have Pk:=qh (Jz.out.row_far tU.out.symm #[J 0,J 0,J 0]);have HYa:=qh (Whole.row mZ.out [J 0,J 0,J 0]);have lX:=qh (bH bE.out L1.out #[J 0,J 0,J 0]);refine jC rfl (by rfl) (aR 32 (.tmp 5) (.tmp 26) rfl b2 rfl [J 0,J 0,J 0] rfl 32 [J 0,J 0,J 0] Pk.out (by kernel_rfl) rfl (by simp[Τ])) ?_;have MB:=qh (HYa.out.row_far tU.out #[J 0,J 0,J 0]);have Kf:=qh (Whole.row Pk.out [J 0,J 0,J 0]);have oC:=qh (bH lX.out L2.out #[J 0,J 0,J 0]);go_wp2;exact xn rfl b1 b2 rfl MB.out Tryz.underlying32 rfl (by kernel_rfl) rfl Kf.out Tryz.underlying32 rfl (by kernel_rfl) _ rfl rfl ⟨by rw[HR.out];rfl,oC.out⟩
theorem TQ (c:Nat) (x1 x2:Int) (bb off:Nat) (aY:bb<W.heap.size) (a b:D) (c0:W.cell? ⟨bb,off,ε⟩=ζ (J a.1)) (c1:W.cell? ⟨bb,off+1,ε⟩=ζ (J a.2.1)) (c2:W.cell? ⟨bb,off+2,ε⟩=ζ (J a.2.2)) (c3:W.cell? ⟨bb,off+3,ε⟩=ζ (J b.1)) (c4:W.cell? ⟨bb,off+4,ε⟩=ζ (J b.2.1)) (c5:W.cell? ⟨bb,off+5,ε⟩=ζ (J b.2.2)) (ha:decide (dI a=(x1,x2))=τ) (hb:decide (dI b=(x1,x2))=ρ):Ζ η 129 #[γ (ζ ⟨bb,off,ε⟩) 2 c,φ #[J x1,J x2]] W fun e w'=>e=.returned (Ξ #[φ #[J (ji [a,b] (x1,x2)).1.1.1,J (ji [a,b] (x1,x2)).1.1.2.1,J (ji [a,b] (x1,x2)).1.1.2.2],φ #[J (ji [a,b] (x1,x2)).1.2.1,J (ji [a,b] (x1,x2)).1.2.2.1,J (ji [a,b] (x1,x2)).1.2.2.2],Β (ji [a,b] (x1,x2)).2])∧σ W.heap.size W w':=by
 have HR:Hid (ji [a,b] (x1,x2)=((b,a),τ)):=qh (by
  replace ha:=of_decide_eq_true ha;replace hb:=of_decide_eq_false hb
  have e:jn [a,b] (x1,x2)=ζ (b,a):=by
   show(if dI a=dI b then ε else if dI a=(x1,x2) then ζ (b,a) else if dI b=(x1,x2) then ζ (a,b) else ε)=_
   rw[if_neg (fun e:dI a=dI b=>hb (e.symm.trans ha)),if_pos ha]
  unfold ji;rw[e])
 have qa:∀X:ο,(binOp .eql 30 (φ #[J a.1,J a.2.1]) (φ #[J x1,J x2])).run η X=.ok (Β τ) X:=fun X=>by rw[lJ,show(a.1,a.2.1)=dI a from rfl,ha]
 have qb:∀X:ο,(binOp .eql 30 (φ #[J b.1,J b.2.1]) (φ #[J x1,J x2])).run η X=.ok (Β ρ) X:=fun X=>by rw[lJ,show(b.1,b.2.1)=dI b from rfl,hb]
 clear ha hb;have C0:=qh c0;have C1:=qh c1;have C2:=qh c2;have C3:=qh c3;have C4:=qh c4;have C5:=qh c5;clear c0 c1 c2 c3 c4 c5;have bw:Hid (σ W.heap.size W (((W.alloc (δ #[J x1,J x2] 30)).alloc (δ #[J 0,J 0,J 0] 32)).alloc (δ #[J 0,J 0,J 0] 32))):=qh (aI (aI (az W _) _) _);have aQ:Hid (Whole (((W.alloc (δ #[J x1,J x2] 30)).alloc (δ #[J 0,J 0,J 0] 32)).alloc (δ #[J 0,J 0,J 0] 32)) W.heap.size 30 [J x1,J x2]):=qh (((Whole.new_ _ _ [_,_]).al _).al _);have fk:Hid (Whole (((W.alloc (δ #[J x1,J x2] 30)).alloc (δ #[J 0,J 0,J 0] 32)).alloc (δ #[J 0,J 0,J 0] 32)) (W.heap.size+1) 32 [J 0,J 0,J 0]):=qh ((Whole.new2 (by simp)).al _);have mf:Hid (Whole (((W.alloc (δ #[J x1,J x2] 30)).alloc (δ #[J 0,J 0,J 0] 32)).alloc (δ #[J 0,J 0,J 0] 32)) (W.heap.size+1+1) 32 [J 0,J 0,J 0]):=qh (Whole.new2 (by simp));go_enter Tryz.func129,Tryz.ntmps129;go_upto_region 1 with fail
 obtain⟨W0,bO⟩:=aB ((((W.alloc (δ #[J x1,J x2] 30)).alloc (δ #[J 0,J 0,J 0] 32)).alloc (δ #[J 0,J 0,J 0] 32)));obtain⟨b2,jc⟩:=aB (W.heap.size+1+1);obtain⟨b1,dE⟩:=aB (W.heap.size+1);obtain⟨b0,bp⟩:=aB W.heap.size;have L1:Hid (W.heap.size≤b1):=qh (by omega);have L2:Hid (W.heap.size≤b2):=qh (by omega);have tU:Hid (b1≠b2):=qh (by omega);rw[bO] at bw aQ fk mf ⊢;rw[jc] at mf ⊢;rw[dE] at fk ⊢;rw[bp] at aQ ⊢;clear bO bp dE jc;have fL:∀w',Kept aO W0.drew w'→w'.cell? ⟨bb,off,ε⟩=ζ (J a.1):=fun w' h=>h.cell ((bw.out.cell (p:=⟨bb,off,ε⟩) aY).trans C0.out) (fun e=>e)
 have ld1:∀w',Kept aO W0.drew w'→w'.cell? ⟨bb,off+1,ε⟩=ζ (J a.2.1):=fun w' h=>h.cell ((bw.out.cell (p:=⟨bb,off+1,ε⟩) aY).trans C1.out) (fun e=>e)
 have ka:∀w',Kept aO W0.drew w'→w'.cell? ⟨bb,off+2,ε⟩=ζ (J a.2.2):=fun w' h=>h.cell ((bw.out.cell (p:=⟨bb,off+2,ε⟩) aY).trans C2.out) (fun e=>e)
 have pV:∀w',Kept aO W0.drew w'→w'.cell? ⟨bb,off+3,ε⟩=ζ (J b.1):=fun w' h=>h.cell ((bw.out.cell (p:=⟨bb,off+3,ε⟩) aY).trans C3.out) (fun e=>e)
 have tX:∀w',Kept aO W0.drew w'→w'.cell? ⟨bb,off+4,ε⟩=ζ (J b.2.1):=fun w' h=>h.cell ((bw.out.cell (p:=⟨bb,off+4,ε⟩) aY).trans C4.out) (fun e=>e)
 have yc:∀w',Kept aO W0.drew w'→w'.cell? ⟨bb,off+5,ε⟩=ζ (J b.2.2):=fun w' h=>h.cell ((bw.out.cell (p:=⟨bb,off+5,ε⟩) aY).trans C5.out) (fun e=>e)
 have s6:=cm (i:=0) aQ.out rfl;have sX:=cm (i:=1) aQ.out rfl;refine ay (aO) (by kernel_rfl) ?_;refine aa 0 ?_;refine aa 1 ?_;refine aa 2 ?_;refine aa 3 ?_;refine aa 4 ?_;refine aa 5 ?_;refine aa 6 ?_;refine aa 7 ?_;refine aa 8 ?_;refine aa 9 ?_;refine aa 10 ?_;refine aa 11 ?_;refine aa 12 ?_;refine aa 13 ?_;refine aa 14 ?_;refine aa 15 ?_;refine aa 16 ?_;refine aa 17 ?_;refine aF (by kernel_rfl) ?_ _;clear fL ld1 ka pV tX yc s6 sX;intro w1 ia;have aL:=qh (aQ.out.dr.bl ia);have mZ:=qh (fk.out.dr.bl ia);have Jz:=qh (mf.out.dr.bl ia);have bE:=qh (ag (aN bw.out) ia);clear ia aQ fk mf bw;go_upto_region 3 with fail
 obtain⟨W1,aV⟩:=aB w1;rw[aV] at aL mZ Jz bE ⊢;clear aV;have fL:∀w',Kept aO W1.drew w'→w'.cell? ⟨bb,off,ε⟩=ζ (J a.1):=fun w' h=>h.cell ((bE.out.cell (p:=⟨bb,off,ε⟩) aY).trans C0.out) (fun e=>e)
 have ld1:∀w',Kept aO W1.drew w'→w'.cell? ⟨bb,off+1,ε⟩=ζ (J a.2.1):=fun w' h=>h.cell ((bE.out.cell (p:=⟨bb,off+1,ε⟩) aY).trans C1.out) (fun e=>e)
 have ka:∀w',Kept aO W1.drew w'→w'.cell? ⟨bb,off+2,ε⟩=ζ (J a.2.2):=fun w' h=>h.cell ((bE.out.cell (p:=⟨bb,off+2,ε⟩) aY).trans C2.out) (fun e=>e)
 have pV:∀w',Kept aO W1.drew w'→w'.cell? ⟨bb,off+3,ε⟩=ζ (J b.1):=fun w' h=>h.cell ((bE.out.cell (p:=⟨bb,off+3,ε⟩) aY).trans C3.out) (fun e=>e)
 have tX:∀w',Kept aO W1.drew w'→w'.cell? ⟨bb,off+4,ε⟩=ζ (J b.2.1):=fun w' h=>h.cell ((bE.out.cell (p:=⟨bb,off+4,ε⟩) aY).trans C4.out) (fun e=>e)
 have yc:∀w',Kept aO W1.drew w'→w'.cell? ⟨bb,off+5,ε⟩=ζ (J b.2.2):=fun w' h=>h.cell ((bE.out.cell (p:=⟨bb,off+5,ε⟩) aY).trans C5.out) (fun e=>e)
 have s6:=cm (i:=0) aL.out rfl;have sX:=cm (i:=1) aL.out rfl;refine ay (aO) (by kernel_rfl) ?_;refine aa 0 ?_;refine aa 1 ?_;refine aa 2 ?_;refine aa 3 ?_;refine aa 4 ?_;refine aa 5 ?_;refine aF (by kernel_rfl) ?_ _;clear fL ld1 ka pV tX yc s6 sX;intro w2 fT;have aZ:=qh (aL.out.dr.bl fT);have rG:=qh (mZ.out.dr.bl fT);have VQ:=qh (Jz.out.dr.bl fT);have bG:=qh (ag (aN bE.out) fT);clear fT aL mZ Jz bE;go_upto_region 4 with fail
 obtain⟨W2,eU⟩:=aB w2;rw[eU] at aZ rG VQ bG ⊢;clear eU;have fL:∀w',Kept (cw W.heap.size) W2.drew w'→w'.cell? ⟨bb,off,ε⟩=ζ (J a.1):=fun w' h=>h.cell ((bG.out.cell (p:=⟨bb,off,ε⟩) aY).trans C0.out) (fun k=>absurd aY (JbT.2 k))
 have ld1:∀w',Kept (cw W.heap.size) W2.drew w'→w'.cell? ⟨bb,off+1,ε⟩=ζ (J a.2.1):=fun w' h=>h.cell ((bG.out.cell (p:=⟨bb,off+1,ε⟩) aY).trans C1.out) (fun k=>absurd aY (JbT.2 k))
 have ka:∀w',Kept (cw W.heap.size) W2.drew w'→w'.cell? ⟨bb,off+2,ε⟩=ζ (J a.2.2):=fun w' h=>h.cell ((bG.out.cell (p:=⟨bb,off+2,ε⟩) aY).trans C2.out) (fun k=>absurd aY (JbT.2 k))
 have pV:∀w',Kept (cw W.heap.size) W2.drew w'→w'.cell? ⟨bb,off+3,ε⟩=ζ (J b.1):=fun w' h=>h.cell ((bG.out.cell (p:=⟨bb,off+3,ε⟩) aY).trans C3.out) (fun k=>absurd aY (JbT.2 k))
 have tX:∀w',Kept (cw W.heap.size) W2.drew w'→w'.cell? ⟨bb,off+4,ε⟩=ζ (J b.2.1):=fun w' h=>h.cell ((bG.out.cell (p:=⟨bb,off+4,ε⟩) aY).trans C4.out) (fun k=>absurd aY (JbT.2 k))
 have yc:∀w',Kept (cw W.heap.size) W2.drew w'→w'.cell? ⟨bb,off+5,ε⟩=ζ (J b.2.2):=fun w' h=>h.cell ((bG.out.cell (p:=⟨bb,off+5,ε⟩) aY).trans C5.out) (fun k=>absurd aY (JbT.2 k))
 refine ay (cw W.heap.size) (by kernel_rfl) ?_;refine aa 0 ?_;refine aa 1 ?_;refine aa 2 ?_;refine aa 3 ?_;refine aa 4 ?_;refine aa 5 ?_;refine gI 6 ?_;intro w' aC
 refine⟨w'.setRow b1 #[J b.1,J b.2.1,J b.2.2],aR 32 (.tmp 4) (.tmp 35) rfl b1 rfl [J b.1,J b.2.1,J b.2.2] rfl 32 [J 0,J 0,J 0] (rG.out.dr.bl aC) (by kernel_rfl) rfl (by simp[Τ]),bN (show W.heap.size≤b1 from L1.out) _,?_⟩
 have nK:=qh (Whole.row (rG.out.dr.bl aC) [J b.1,J b.2.1,J b.2.2]);have jk:=qh ((VQ.out.dr.bl aC).row_far tU.out.symm #[J b.1,J b.2.1,J b.2.2]);have bB:=qh (bH (ag (aN bG.out) aC) L1.out #[J b.1,J b.2.1,J b.2.2]);obtain⟨V3,Oi⟩:=aB (w'.setRow b1 #[J b.1,J b.2.1,J b.2.2]);rw[Oi] at nK jk bB ⊢;clear aC Oi aZ rG VQ bG;(try simp only[ξ,aw,ar,aq]);refine gI 7 ?_;intro w' aC
 refine⟨w'.setRow b2 #[J a.1,J a.2.1,J a.2.2],aR 32 (.tmp 5) (.tmp 38) rfl b2 rfl [J a.1,J a.2.1,J a.2.2] rfl 32 [J 0,J 0,J 0] (jk.out.bl aC) (by kernel_rfl) rfl (by simp[Τ]),bN (show W.heap.size≤b2 from L2.out) _,?_⟩
 have UP:=qh (Whole.row (jk.out.bl aC) [J a.1,J a.2.1,J a.2.2]);have FA:=qh ((nK.out.bl aC).row_far tU.out #[J a.1,J a.2.1,J a.2.2]);have kC:=qh (bH (ag bB.out aC) L2.out #[J a.1,J a.2.1,J a.2.2]);obtain⟨V4,Te⟩:=aB (w'.setRow b2 #[J a.1,J a.2.1,J a.2.2]);rw[Te] at FA UP kC ⊢;clear aC Te nK jk bB;(try simp only[ξ,aw,ar,aq]);refine aa 8 ?_;refine aF (by kernel_rfl) ?_ _;intro w9 Rc;have MB:=qh (FA.out.bl Rc);have Kf:=qh (UP.out.bl Rc);have oC:=qh (ag kC.out Rc);clear Rc FA UP kC;go_wp2;exact xn rfl b1 b2 rfl MB.out Tryz.underlying32 rfl (by kernel_rfl) rfl Kf.out Tryz.underlying32 rfl (by kernel_rfl) _ rfl rfl ⟨by rw[HR.out];rfl,oC.out⟩
theorem VH (c:Nat) (x1 x2:Int) (bb off:Nat) (aY:bb<W.heap.size) (a b:D) (c0:W.cell? ⟨bb,off,ε⟩=ζ (J a.1)) (c1:W.cell? ⟨bb,off+1,ε⟩=ζ (J a.2.1)) (c2:W.cell? ⟨bb,off+2,ε⟩=ζ (J a.2.2)) (c3:W.cell? ⟨bb,off+3,ε⟩=ζ (J b.1)) (c4:W.cell? ⟨bb,off+4,ε⟩=ζ (J b.2.1)) (c5:W.cell? ⟨bb,off+5,ε⟩=ζ (J b.2.2)) (ha:decide (dI a=(x1,x2))=ρ) (hb:decide (dI b=(x1,x2))=τ):Ζ η 129 #[γ (ζ ⟨bb,off,ε⟩) 2 c,φ #[J x1,J x2]] W fun e w'=>e=.returned (Ξ #[φ #[J (ji [a,b] (x1,x2)).1.1.1,J (ji [a,b] (x1,x2)).1.1.2.1,J (ji [a,b] (x1,x2)).1.1.2.2],φ #[J (ji [a,b] (x1,x2)).1.2.1,J (ji [a,b] (x1,x2)).1.2.2.1,J (ji [a,b] (x1,x2)).1.2.2.2],Β (ji [a,b] (x1,x2)).2])∧σ W.heap.size W w':=by
 have HR:Hid (ji [a,b] (x1,x2)=((a,b),τ)):=qh (by
  replace ha:=of_decide_eq_false ha;replace hb:=of_decide_eq_true hb
  have e:jn [a,b] (x1,x2)=ζ (a,b):=by
   show(if dI a=dI b then ε else if dI a=(x1,x2) then ζ (b,a) else if dI b=(x1,x2) then ζ (a,b) else ε)=_
   rw[if_neg (fun e:dI a=dI b=>ha (e.trans hb)),if_neg ha,if_pos hb]
  unfold ji;rw[e])
 have qa:∀X:ο,(binOp .eql 30 (φ #[J a.1,J a.2.1]) (φ #[J x1,J x2])).run η X=.ok (Β ρ) X:=fun X=>by rw[lJ,show(a.1,a.2.1)=dI a from rfl,ha]
 have qb:∀X:ο,(binOp .eql 30 (φ #[J b.1,J b.2.1]) (φ #[J x1,J x2])).run η X=.ok (Β τ) X:=fun X=>by rw[lJ,show(b.1,b.2.1)=dI b from rfl,hb]
 clear ha hb;have C0:=qh c0;have C1:=qh c1;have C2:=qh c2;have C3:=qh c3;have C4:=qh c4;have C5:=qh c5;clear c0 c1 c2 c3 c4 c5;have bw:Hid (σ W.heap.size W (((W.alloc (δ #[J x1,J x2] 30)).alloc (δ #[J 0,J 0,J 0] 32)).alloc (δ #[J 0,J 0,J 0] 32))):=qh (aI (aI (az W _) _) _);have aQ:Hid (Whole (((W.alloc (δ #[J x1,J x2] 30)).alloc (δ #[J 0,J 0,J 0] 32)).alloc (δ #[J 0,J 0,J 0] 32)) W.heap.size 30 [J x1,J x2]):=qh (((Whole.new_ _ _ [_,_]).al _).al _);have fk:Hid (Whole (((W.alloc (δ #[J x1,J x2] 30)).alloc (δ #[J 0,J 0,J 0] 32)).alloc (δ #[J 0,J 0,J 0] 32)) (W.heap.size+1) 32 [J 0,J 0,J 0]):=qh ((Whole.new2 (by simp)).al _);have mf:Hid (Whole (((W.alloc (δ #[J x1,J x2] 30)).alloc (δ #[J 0,J 0,J 0] 32)).alloc (δ #[J 0,J 0,J 0] 32)) (W.heap.size+1+1) 32 [J 0,J 0,J 0]):=qh (Whole.new2 (by simp));go_enter Tryz.func129,Tryz.ntmps129;go_upto_region 1 with fail
 obtain⟨W0,bO⟩:=aB ((((W.alloc (δ #[J x1,J x2] 30)).alloc (δ #[J 0,J 0,J 0] 32)).alloc (δ #[J 0,J 0,J 0] 32)));obtain⟨b2,jc⟩:=aB (W.heap.size+1+1);obtain⟨b1,dE⟩:=aB (W.heap.size+1);obtain⟨b0,bp⟩:=aB W.heap.size;have L1:Hid (W.heap.size≤b1):=qh (by omega);have L2:Hid (W.heap.size≤b2):=qh (by omega);have tU:Hid (b1≠b2):=qh (by omega);rw[bO] at bw aQ fk mf ⊢;rw[jc] at mf ⊢;rw[dE] at fk ⊢;rw[bp] at aQ ⊢;clear bO bp dE jc;have fL:∀w',Kept aO W0.drew w'→w'.cell? ⟨bb,off,ε⟩=ζ (J a.1):=fun w' h=>h.cell ((bw.out.cell (p:=⟨bb,off,ε⟩) aY).trans C0.out) (fun e=>e)
 have ld1:∀w',Kept aO W0.drew w'→w'.cell? ⟨bb,off+1,ε⟩=ζ (J a.2.1):=fun w' h=>h.cell ((bw.out.cell (p:=⟨bb,off+1,ε⟩) aY).trans C1.out) (fun e=>e)
 have ka:∀w',Kept aO W0.drew w'→w'.cell? ⟨bb,off+2,ε⟩=ζ (J a.2.2):=fun w' h=>h.cell ((bw.out.cell (p:=⟨bb,off+2,ε⟩) aY).trans C2.out) (fun e=>e)
 have pV:∀w',Kept aO W0.drew w'→w'.cell? ⟨bb,off+3,ε⟩=ζ (J b.1):=fun w' h=>h.cell ((bw.out.cell (p:=⟨bb,off+3,ε⟩) aY).trans C3.out) (fun e=>e)
 have tX:∀w',Kept aO W0.drew w'→w'.cell? ⟨bb,off+4,ε⟩=ζ (J b.2.1):=fun w' h=>h.cell ((bw.out.cell (p:=⟨bb,off+4,ε⟩) aY).trans C4.out) (fun e=>e)
 have yc:∀w',Kept aO W0.drew w'→w'.cell? ⟨bb,off+5,ε⟩=ζ (J b.2.2):=fun w' h=>h.cell ((bw.out.cell (p:=⟨bb,off+5,ε⟩) aY).trans C5.out) (fun e=>e)
 have s6:=cm (i:=0) aQ.out rfl;have sX:=cm (i:=1) aQ.out rfl;refine ay (aO) (by kernel_rfl) ?_;refine aa 0 ?_;refine aa 1 ?_;refine aa 2 ?_;refine aa 3 ?_;refine aa 4 ?_;refine aa 5 ?_;refine aa 6 ?_;refine aa 7 ?_;refine aa 8 ?_;refine aa 9 ?_;refine aa 10 ?_;refine aa 11 ?_;refine aa 12 ?_;refine aa 13 ?_;refine aa 14 ?_;refine aa 15 ?_;refine aa 16 ?_;refine aa 17 ?_;refine aF (by kernel_rfl) ?_ _;clear fL ld1 ka pV tX yc s6 sX;intro w1 ia;have aL:=qh (aQ.out.dr.bl ia);have mZ:=qh (fk.out.dr.bl ia);have Jz:=qh (mf.out.dr.bl ia);have bE:=qh (ag (aN bw.out) ia);clear ia aQ fk mf bw;go_upto_region 3 with fail
 obtain⟨W1,aV⟩:=aB w1;rw[aV] at aL mZ Jz bE ⊢;clear aV;have fL:∀w',Kept aO W1.drew w'→w'.cell? ⟨bb,off,ε⟩=ζ (J a.1):=fun w' h=>h.cell ((bE.out.cell (p:=⟨bb,off,ε⟩) aY).trans C0.out) (fun e=>e)
 have ld1:∀w',Kept aO W1.drew w'→w'.cell? ⟨bb,off+1,ε⟩=ζ (J a.2.1):=fun w' h=>h.cell ((bE.out.cell (p:=⟨bb,off+1,ε⟩) aY).trans C1.out) (fun e=>e)
 have ka:∀w',Kept aO W1.drew w'→w'.cell? ⟨bb,off+2,ε⟩=ζ (J a.2.2):=fun w' h=>h.cell ((bE.out.cell (p:=⟨bb,off+2,ε⟩) aY).trans C2.out) (fun e=>e)
 have pV:∀w',Kept aO W1.drew w'→w'.cell? ⟨bb,off+3,ε⟩=ζ (J b.1):=fun w' h=>h.cell ((bE.out.cell (p:=⟨bb,off+3,ε⟩) aY).trans C3.out) (fun e=>e)
 have tX:∀w',Kept aO W1.drew w'→w'.cell? ⟨bb,off+4,ε⟩=ζ (J b.2.1):=fun w' h=>h.cell ((bE.out.cell (p:=⟨bb,off+4,ε⟩) aY).trans C4.out) (fun e=>e)
 have yc:∀w',Kept aO W1.drew w'→w'.cell? ⟨bb,off+5,ε⟩=ζ (J b.2.2):=fun w' h=>h.cell ((bE.out.cell (p:=⟨bb,off+5,ε⟩) aY).trans C5.out) (fun e=>e)
 have s6:=cm (i:=0) aL.out rfl;have sX:=cm (i:=1) aL.out rfl;refine ay (aO) (by kernel_rfl) ?_;refine aa 0 ?_;refine aa 1 ?_;refine aa 2 ?_;refine aa 3 ?_;refine aa 4 ?_;refine aa 5 ?_;refine aF (by kernel_rfl) ?_ _;clear fL ld1 ka pV tX yc s6 sX;intro w2 fT;have aZ:=qh (aL.out.dr.bl fT);have rG:=qh (mZ.out.dr.bl fT);have VQ:=qh (Jz.out.dr.bl fT);have bG:=qh (ag (aN bE.out) fT);clear fT aL mZ Jz bE;go_upto_region 5 with fail
 obtain⟨W2,eU⟩:=aB w2;rw[eU] at aZ rG VQ bG ⊢;clear eU;have fL:∀w',Kept (cw W.heap.size) W2.drew w'→w'.cell? ⟨bb,off,ε⟩=ζ (J a.1):=fun w' h=>h.cell ((bG.out.cell (p:=⟨bb,off,ε⟩) aY).trans C0.out) (fun k=>absurd aY (JbT.2 k))
 have ld1:∀w',Kept (cw W.heap.size) W2.drew w'→w'.cell? ⟨bb,off+1,ε⟩=ζ (J a.2.1):=fun w' h=>h.cell ((bG.out.cell (p:=⟨bb,off+1,ε⟩) aY).trans C1.out) (fun k=>absurd aY (JbT.2 k))
 have ka:∀w',Kept (cw W.heap.size) W2.drew w'→w'.cell? ⟨bb,off+2,ε⟩=ζ (J a.2.2):=fun w' h=>h.cell ((bG.out.cell (p:=⟨bb,off+2,ε⟩) aY).trans C2.out) (fun k=>absurd aY (JbT.2 k))
 have pV:∀w',Kept (cw W.heap.size) W2.drew w'→w'.cell? ⟨bb,off+3,ε⟩=ζ (J b.1):=fun w' h=>h.cell ((bG.out.cell (p:=⟨bb,off+3,ε⟩) aY).trans C3.out) (fun k=>absurd aY (JbT.2 k))
 have tX:∀w',Kept (cw W.heap.size) W2.drew w'→w'.cell? ⟨bb,off+4,ε⟩=ζ (J b.2.1):=fun w' h=>h.cell ((bG.out.cell (p:=⟨bb,off+4,ε⟩) aY).trans C4.out) (fun k=>absurd aY (JbT.2 k))
 have yc:∀w',Kept (cw W.heap.size) W2.drew w'→w'.cell? ⟨bb,off+5,ε⟩=ζ (J b.2.2):=fun w' h=>h.cell ((bG.out.cell (p:=⟨bb,off+5,ε⟩) aY).trans C5.out) (fun k=>absurd aY (JbT.2 k))
 refine ay (cw W.heap.size) (by kernel_rfl) ?_;refine aa 0 ?_;refine aa 1 ?_;refine aa 2 ?_;refine aa 3 ?_;refine aa 4 ?_;refine aa 5 ?_;refine gI 6 ?_;intro w' aC
 refine⟨w'.setRow b1 #[J a.1,J a.2.1,J a.2.2],aR 32 (.tmp 4) (.tmp 41) rfl b1 rfl [J a.1,J a.2.1,J a.2.2] rfl 32 [J 0,J 0,J 0] (rG.out.dr.bl aC) (by kernel_rfl) rfl (by simp[Τ]),bN (show W.heap.size≤b1 from L1.out) _,?_⟩
 have nK:=qh (Whole.row (rG.out.dr.bl aC) [J a.1,J a.2.1,J a.2.2]);have jk:=qh ((VQ.out.dr.bl aC).row_far tU.out.symm #[J a.1,J a.2.1,J a.2.2]);have bB:=qh (bH (ag (aN bG.out) aC) L1.out #[J a.1,J a.2.1,J a.2.2]);obtain⟨V3,Oi⟩:=aB (w'.setRow b1 #[J a.1,J a.2.1,J a.2.2]);rw[Oi] at nK jk bB ⊢;clear aC Oi aZ rG VQ bG;(try simp only[ξ,aw,ar,aq]);refine gI 7 ?_;intro w' aC
 refine⟨w'.setRow b2 #[J b.1,J b.2.1,J b.2.2],aR 32 (.tmp 5) (.tmp 44) rfl b2 rfl [J b.1,J b.2.1,J b.2.2] rfl 32 [J 0,J 0,J 0] (jk.out.bl aC) (by kernel_rfl) rfl (by simp[Τ]),bN (show W.heap.size≤b2 from L2.out) _,?_⟩
 have UP:=qh (Whole.row (jk.out.bl aC) [J b.1,J b.2.1,J b.2.2]);have FA:=qh ((nK.out.bl aC).row_far tU.out #[J b.1,J b.2.1,J b.2.2]);have kC:=qh (bH (ag bB.out aC) L2.out #[J b.1,J b.2.1,J b.2.2]);obtain⟨V4,Te⟩:=aB (w'.setRow b2 #[J b.1,J b.2.1,J b.2.2]);rw[Te] at FA UP kC ⊢;clear aC Te nK jk bB;(try simp only[ξ,aw,ar,aq]);refine aa 8 ?_;refine aF (by kernel_rfl) ?_ _;intro w9 Rc;have MB:=qh (FA.out.bl Rc);have Kf:=qh (UP.out.bl Rc);have oC:=qh (ag kC.out Rc);clear Rc FA UP kC;go_wp2;exact xn rfl b1 b2 rfl MB.out Tryz.underlying32 rfl (by kernel_rfl) rfl Kf.out Tryz.underlying32 rfl (by kernel_rfl) _ rfl rfl ⟨by rw[HR.out];rfl,oC.out⟩
theorem Nu (A:Option Κ) (n c:Nat) (L:List D) (x1 x2:Int) (h:bg W W.heap.size 3 A n c (aA L)):Ζ η 129 #[γ A n c,φ #[J x1,J x2]] W fun e w'=>e=.returned (Ξ #[φ #[J (ji L (x1,x2)).1.1.1,J (ji L (x1,x2)).1.1.2.1,J (ji L (x1,x2)).1.1.2.2],φ #[J (ji L (x1,x2)).1.2.1,J (ji L (x1,x2)).1.2.2.1,J (ji L (x1,x2)).1.2.2.2],Β (ji L (x1,x2)).2])∧σ W.heap.size W w':=by
 have hl:L.length=n:=h.dlen
 by_cases h2:n=2
 ·subst h2;obtain⟨b,off,rfl,aY,hc⟩:=h.darts (by omega)
  obtain⟨p,q,rfl⟩:∃p q,L=[p,q]:=by
   match L,hl with
   |[p,q],_=>exact⟨p,q,rfl⟩
  obtain⟨c0,c1,c2⟩:=hc 0 (by omega);obtain⟨c3,c4,c5⟩:=hc 1 (by omega);simp only[Nat.zero_mul,Nat.one_mul,Nat.add_zero,Nat.add_assoc,Nat.reduceAdd,List.getD_cons_zero,List.getD_cons_succ] at c0 c1 c2 c3 c4 c5;cases ha:decide (dI p=(x1,x2)) with
  |true=>cases hb:decide (dI q=(x1,x2)) with
   |true=>exact Wk c x1 x2 b off aY p q c0 c1 c2 c3 c4 c5 ha hb
   |false=>exact TQ c x1 x2 b off aY p q c0 c1 c2 c3 c4 c5 ha hb
  |false=>cases hb:decide (dI q=(x1,x2)) with
   |true=>exact VH c x1 x2 b off aY p q c0 c1 c2 c3 c4 c5 ha hb
   |false=>exact Uv c x1 x2 b off aY p q c0 c1 c2 c3 c4 c5 ha hb
 ·refine I4 A n c x1 x2 L h2 ?_;unfold ji
  rw[show jn L (x1,x2)=ε from by
   unfold jn;split
   ·exact absurd hl.symm h2
   ·rfl]
end
section
variable {P:Program} {ops:Array Oper} {Q:Exit→Act→ο→Prop} {md:Jbj}
def OS (md:Jbj) (ops:Array Oper) (n e e2:Nat):Bool:=(Ω ops.size).all fun k=>decide (k<n)||match ops[k]? with|some o=>(Ω n).all fun j=>j==e||j==e2||(dB md o).contains j|none=>τ
theorem EN {n e e2 k:Nat} {o:Oper} (h:OS md ops n e e2=τ) (hk:n≤k) (ho:ops[k]? =ζ o):∀j,j<n→j≠e→j≠e2→j∈dB md o:=by
 intro j hj D0 Vl;have U3:=(Jaa.1 ho).1;have h1:=Φ.1 h k (by simp[U3]);rw[ho] at h1;have h2:decide (k<n)=ρ:=decide_eq_false (by omega);simp only[h2,Bool.false_or] at h1;have h3:=Φ.1 h1 j (by simp[hj]);have h4:(j==e)=ρ:=by simpa using D0
 have h5:(j==e2)=ρ:=by simpa using Vl
 rw[h4,h5,Bool.false_or,Bool.false_or] at h3;simpa using h3
def kG (n m e e2:Nat) (a b:Bool):Array Bool:=((jl n m).setIfInBounds e a).setIfInBounds e2 b
theorem Rb {n e e2:Nat} {af:Array Bool} {m:Nat} (hs:af.size=m) (hk:∀k,n≤k→k<m→af.getD k ρ=ρ) (h:∀i,i<n→i≠e→i≠e2→af.getD i ρ=τ):
 af=kG n m e e2 (af.getD e ρ) (af.getD e2 ρ):=by
 apply Array.ext
 ·unfold kG;rw[Array.size_setIfInBounds,Array.size_setIfInBounds,fW,hs]
 ·intro j h1 h2;unfold kG at h2 ⊢;rw[Array.getElem_setIfInBounds (by simpa using h2)]
  by_cases KJ:e2=j
  ·subst KJ;rw[if_pos rfl];simp[JaD,h1]
  ·rw[if_neg KJ,Array.getElem_setIfInBounds (by simpa using h2)]
   by_cases KV:e=j
   ·subst KV;rw[if_pos rfl];simp[JaD,h1]
   ·rw[if_neg KV];have hjm:j<m:=by rw[←hs];exact h1
    have h4:=eV n m j hjm;have hju:j<(jl n m).size:=by rw[fW];exact hjm
    simp[JaD,hju] at h4
    by_cases hj:j<n
    ·have h3:=h j hj (Ne.symm KV) (Ne.symm KJ);simp[JaD,h1] at h3;rw[h3,h4,decide_eq_true hj]
    ·have h3:=hk j (by omega) hjm;simp[JaD,h1] at h3;rw[h3,h4,decide_eq_false hj]
def An (P:Program) (md:Jbj) (ops:Array Oper) (Γ:Nat→ψ→ο→Prop) (G:ο→Prop) (a0:Act) (i j:Nat):Prop:=
 ∀(o:Oper),ops[i]? =ζ o→∀(x:Nat→ψ) (w:ο),G w→(∀k∈dB md o,Γ k (x k) w)→
  Region.wanted o (yielded ops (aj x (aE ops) 0 a0).tmps)=τ∧FG P (fun v w'=>Γ i v w'∧∀v0,Γ j v0 w→v0≠v) w ((execOp (aj x (aE ops) 0 a0).eval o).run P w)
theorem JP (n e e2 p q:Nat) (S:Nat→Prop) (Γ:Nat→ψ→ο→Prop) (G:ο→Prop) (a0:Act) (hΓ:∀i v w w',Γ i v w→Ext w w'→Γ i v w') (hG:∀w w',G w→Ext w w'→G w')
 (hd:eL ops=τ) (hr:lC md ops=τ) (hn:n≤ops.size) (ht:OS md ops n e e2=τ) (ti:p<n∧q<n∧p≠q∧p≠e∧p≠e2∧q≠e∧q≠e2) (lp:∀i,i<n→i≠p→i≠q→nU P md ops Γ G a0 i) (hsp:An P md ops Γ G a0 p q) (hsq:An P md ops Γ G a0 q p)
 (jw:∀a b x w f,G w→(∀i,i<n→(i=e→a=τ)→(i=e2→b=τ)→Γ i (x i) w)→x p≠x q→(Ω ops.size).countP (fun j=>(kG n ops.size e e2 a b).getD j ρ)+f=ops.size→nc P md ops S Q f (kG n ops.size e e2 a b) (aj x (aE ops) 0 a0) w):
 ∀(fuel:Nat) (af:Array Bool) (x:Nat→ψ) (w:ο),af.size=ops.size→(∀k,n≤k→k<ops.size→af.getD k ρ=ρ)→(Ω ops.size).countP (fun j=>af.getD j ρ)+fuel=ops.size→
  G w→(∀i,i<n→af.getD i ρ=τ→Γ i (x i) w)→(af.getD p ρ=τ→af.getD q ρ=τ→x p≠x q)→wpAny P md ops Q fuel af (aj x (aE ops) 0 a0) w:=by
 have ml:∀(af:Array Bool),af.size=ops.size→(¬∀i,i<n→af.getD i ρ=τ)→∃i,i<n∧i∈Jaq md ops af:=by
  intro af hs kZ
  by_cases hex:∃i,i<n∧i∈Jaq md ops af
  ·exact hex
  ·exfalso;refine kZ fun i=>?_
   induction i using Nat.strongRecOn with
   |_ i ih=>
    intro hi
    by_cases hl:af.getD i ρ=τ
    ·exact hl
    ·exfalso;refine hex ⟨i,hi,?_⟩;rw[mem_ready];have sY:i<ops.size:=by omega
     have zf:i<af.size:=by omega
     have h1:af.getD i τ=ρ:=by
      simp[JaD,zf] at hl ⊢;exact hl
     refine⟨h1,ops[i],by simp[sY],fun e he hb=>?_⟩
     have h2:=Φ.1 (show(Ω ops.size).all _=τ from hr) i (by simp[sY]);simp[sY] at h2
     have h3:=h2 e.on (by
      unfold dB;exact Α.2 ⟨e,JaC.2 ⟨by simpa using he,hb⟩,rfl⟩)
     exact ih e.on h3 (by omega)
 have kg:∀(fuel:Nat) (af:Array Bool) (x:Nat→ψ) (w:ο),af.size=ops.size→(∀k,n≤k→k<ops.size→af.getD k ρ=ρ)→(Ω ops.size).countP (fun j=>af.getD j ρ)+fuel=ops.size→
  G w→(∀i,i<n→af.getD i ρ=τ→Γ i (x i) w)→(af.getD p ρ=τ→af.getD q ρ=τ→x p≠x q)→(∀i,i<n→i≠e→i≠e2→af.getD i ρ=τ)→wpAny P md ops Q fuel af (aj x (aE ops) 0 a0) w:=by
  intro fuel af x w hs hk hc hg hx Tl h2;have e1:=Rb (e:=e) (e2:=e2) hs hk h2
  have hE:=jw (af.getD e ρ) (af.getD e2 ρ) x w fuel hg (fun i hi h3 h4=>hx i hi (by
   by_cases q1:i=e
   ·rw[q1];exact h3 q1
   ·by_cases q2:i=e2
    ·rw[q2];exact h4 q2
    ·exact h2 i hi q1 q2)) (Tl (h2 p ti.1 ti.2.2.2.1 ti.2.2.2.2.1) (h2 q ti.2.1 ti.2.2.2.2.2.1 ti.2.2.2.2.2.2)) (by rw[←e1];exact hc)
  rw[←e1] at hE;exact fH _ _ _ _ hE
 intro fuel
 induction fuel with
 |zero=>
  intro af x w hs hk hc hg hx Tl
  have hl:∀i,i<ops.size→af.getD i ρ=τ:=fun i hi=>by
   have h1:(Ω ops.size).countP (fun j=>af.getD j ρ)=(Ω ops.size).length:=by simpa using hc
   exact List.countP_eq_length.1 h1 i (by simp[hi])
  exact kg 0 af x w hs hk hc hg hx Tl (fun i hi _ _=>hl i (by omega))
 |succ fuel ih=>
  intro af x w hs hk hc hg hx Tl
  by_cases rU:∀i,i<n→i≠e→i≠e2→af.getD i ρ=τ
  ·exact kg (fuel+1) af x w hs hk hc hg hx Tl rU
  ·have aX:¬∀i,i<n→af.getD i ρ=τ:=fun XD=>rU fun i hi _ _=>XD i hi
   obtain⟨i0,Bz,xq⟩:=ml af hs aX
   refine⟨fun h0=>(by rw[h0] at xq;cases xq),fun i hi=>?_⟩
   obtain⟨h1,o,ho,aD⟩:=mem_ready.1 hi;have sY:i<ops.size:=(Jaa.1 ho).1;have zf:i<af.size:=by omega
   have jm:i<n:=by
    rcases Nat.lt_or_ge i n with h|h
    ·exact h
    ·exfalso;refine rU fun j hj D0 Vl=>?_
     have h2:=EN ht h ho j hj D0 Vl;unfold dB at h2;obtain⟨e,he,rfl⟩:=Α.1 h2;obtain⟨BS,BA⟩:=JaC.1 he;exact aD e (by simpa using BS) BA
   have tq:(aE ops)[i]? =ζ o.dst:=by
    unfold aE;rw[Ψ,Array.getElem?_toList,ho];rfl
   have kf:∀v,(aj x (aE ops) 0 a0).put o.dst v=aj (kQ x i v) (aE ops) 0 a0:=fun v=>
    iy x i v (aE ops) 0 a0 o.dst (Nat.zero_le _) (by simpa using tq) (fun j e hj bj t ht he=>by
     rw[Nat.sub_zero] at bj;rw[ht] at tq;rw[he] at hj;exact bj (fc hd hj tq))
   have mR:∀v w',Ext w w'→Γ i v w'→((af.setIfInBounds i τ).getD p ρ=τ→(af.setIfInBounds i τ).getD q ρ=τ→kQ x i v p≠kQ x i v q)→wpAny P md ops Q fuel (af.setIfInBounds i τ) (aj (kQ x i v) (aE ops) 0 a0) w':=fun v w' hw hv hxz=>by
    refine ih _ _ _ (by simpa using hs) (fun k h1 h2=>?_) ?_ (hG _ _ hg hw) (fun j KV hj=>?_) hxz
    ·rw[Jbq ρ (by omega)];exact hk k h1 h2
    ·have mX:=fG (fun j=>af.getD j ρ) (fun j=>(af.setIfInBounds i τ).getD j ρ) i (by simp[JaD,zf] at h1 ⊢;exact h1) (by simp[JaD,zf]) (fun j hj=>Jbq ρ (Ne.symm hj)) ops.size;rw[mX,if_pos sY];omega
    ·by_cases e:j=i
     ·subst e;simpa [kQ] using hv
     ·rw[Jbq ρ (Ne.symm e)] at hj;rw[show kQ x i v j=x j from if_neg e];exact hΓ _ _ _ _ (hx j KV hj) hw
   have hdp:∀j∈dB md o,Γ j (x j) w:=fun j hj=>by
    have ya:j<i:=by
     have h2:=Φ.1 (show(Ω ops.size).all _=τ from hr) i (by simp[sY]);rw[ho] at h2;simpa using Φ.1 h2 j hj
    unfold dB at hj;obtain⟨e,he,rfl⟩:=Α.1 hj;obtain⟨BS,BA⟩:=JaC.1 he;exact hx _ (by omega) (aD e (by simpa using BS) BA)
   unfold wpOp;simp only[ho]
   by_cases Pz:i=p
   ·obtain⟨hw,wQ⟩:=hsp o (Pz▸ho) x w hg hdp;simp only[hw,if_true];refine .inl (wQ.wp fun v w' jq hv=>?_);rw[kf];refine mR v w' jq (Pz▸hv.1) (fun _ hq=>?_);rw[Jbq ρ (by rw[Pz];exact ti.2.2.1)] at hq;rw[show kQ x i v q=x q from if_neg (by rw[Pz];exact ti.2.2.1.symm),show kQ x i v p=v from if_pos Pz.symm];exact(hv.2 _ (hx q ti.2.1 hq)).symm
   ·by_cases X7:i=q
    ·obtain⟨hw,wQ⟩:=hsq o (X7▸ho) x w hg hdp;simp only[hw,if_true];refine .inl (wQ.wp fun v w' jq hv=>?_);rw[kf];refine mR v w' jq (X7▸hv.1) (fun hq _=>?_);rw[Jbq ρ Pz] at hq;rw[show kQ x i v p=x p from if_neg (Ne.symm Pz),show kQ x i v q=v from if_pos X7.symm];exact hv.2 _ (hx p ti.1 hq)
    ·have SI:∀v,(af.setIfInBounds i τ).getD p ρ=τ→(af.setIfInBounds i τ).getD q ρ=τ→kQ x i v p≠kQ x i v q:=fun v h1 h2=>by
      rw[Jbq ρ Pz] at h1;rw[Jbq ρ X7] at h2;rw[show kQ x i v p=x p from if_neg (Ne.symm Pz),show kQ x i v q=x q from if_neg (Ne.symm X7)];exact Tl h1 h2
     rcases lp i jm Pz X7 o ho x w hg hdp with⟨hw,wQ⟩|⟨hw,hu⟩
     ·simp only[hw,if_true];exact .inl (wQ.wp fun v w' jq hv=>by rw[kf];exact mR v w' jq hv (SI v))
     ·simp only[hw,Bool.false_eq_true,if_false];rw[kf];exact mR undef w (Ext.refl w) hu (SI undef)
theorem vU {S:Nat→Prop} {a0:Act} {w:ο} {q:Nat} {oq:Oper} {l l':Array Bool} {f:Nat} {x:Nat→ψ} (hd:eL ops=τ) (hoq:ops[q]? =ζ oq) (qO:JbJ ops=τ)
 (Iv:JbP md ops l q=τ) (GI:(Jaq md ops l).contains q=τ) (hQ:∀v c a w,Q (.panic c) (a.put oq.dst v) w→Q (.panic c) a w) (hl:l.setIfInBounds q τ=l')
 (h:∃v,cM P ops S oq v (aj x (aE ops) 0 a0) w∧nc P md ops S Q f l' (aj (kQ x q v) (aE ops) 0 a0) w):nc P md ops S Q (f+1) l (aj x (aE ops) 0 a0) w:=by
 obtain⟨v,hy,hK⟩:=h
 have tq:(aE ops)[q]? =ζ oq.dst:=by
  unfold aE;rw[Ψ,Array.getElem?_toList,hoq];rfl
 have kf:(aj x (aE ops) 0 a0).put oq.dst v=aj (kQ x q v) (aE ops) 0 a0:=
  iy x q v (aE ops) 0 a0 oq.dst (Nat.zero_le _) (by simpa using tq) (fun j e2 hj bj t ht he=>by
   rw[Nat.sub_zero] at bj;rw[ht] at tq;rw[he] at hj;exact bj (fc hd hj tq))
 refine vZ q oq.dst hoq rfl qO Iv GI hQ ⟨v,hy,?_⟩;rw[kf,hl];exact hK
theorem ym (n e e2 p q f:Nat) (S:Nat→Prop) {id:Nat} {a0:Act} {w:ο} {oe oe2:Oper} (Γ:Nat→ψ→ο→Prop) (G:ο→Prop) (hm:P.follows .mixedOrders=τ)
 (hd:eL ops=τ) (hr:lC .any ops=τ) (hn:decide (n≤ops.size)=τ) (ht:OS .any ops n e e2=τ) (Ke:ops[e]? =ζ oe) (aeh:ops[e2]? =ζ oe2) (qO:JbJ ops=τ)
 (oH:JbP .any ops (kG n ops.size e e2 ρ ρ) e=τ∧(Jaq .any ops (kG n ops.size e e2 ρ ρ)).contains e=τ∧(kG n ops.size e e2 ρ ρ).setIfInBounds e τ=kG n ops.size e e2 τ ρ)
 (Fy:JbP .any ops (kG n ops.size e e2 τ ρ) e2=τ∧(Jaq .any ops (kG n ops.size e e2 τ ρ)).contains e2=τ∧(kG n ops.size e e2 τ ρ).setIfInBounds e2 τ=kG n ops.size e e2 τ τ)
 (VI:JbP .any ops (kG n ops.size e e2 ρ τ) e=τ∧(Jaq .any ops (kG n ops.size e e2 ρ τ)).contains e=τ∧(kG n ops.size e e2 ρ τ).setIfInBounds e τ=kG n ops.size e e2 τ τ)
 (xi:(Ω ops.size).countP (fun j=>(kG n ops.size e e2 τ τ).getD j ρ)+f=ops.size∧(Ω ops.size).countP (fun j=>(kG n ops.size e e2 τ ρ).getD j ρ)+(f+1)=ops.size∧(Ω ops.size).countP (fun j=>(kG n ops.size e e2 ρ τ).getD j ρ)+(f+1)=ops.size∧(Ω ops.size).countP (fun j=>(kG n ops.size e e2 ρ ρ).getD j ρ)+(f+2)=ops.size)
 (ti:p<n∧q<n∧p≠q∧p≠e∧p≠e2∧q≠e∧q≠e2) (hQ:∀v c a w,Q (.panic c) (a.put oe.dst v) w→Q (.panic c) a w) (hQ2:∀v c a w,Q (.panic c) (a.put oe2.dst v) w→Q (.panic c) a w)
 (hΓ:∀i v w w',Γ i v w→Ext w w'→Γ i v w') (hG:∀w w',G w→Ext w w'→G w') (hg:G w.drew)
 (lp:∀i,i<n→i≠p→i≠q→nU P .any ops Γ G a0 i) (hsp:An P .any ops Γ G a0 p q) (hsq:An P .any ops Γ G a0 q p)
 (DI:∀x w,G w→(∀i,i<n→i≠e→i≠e2→Γ i (x i) w)→∃v,cM P ops S oe v (aj x (aE ops) 0 a0) w∧Γ e v w)
 (Z9:∀x w,G w→(∀i,i<n→i≠e→i≠e2→Γ i (x i) w)→∃v,cM P ops S oe2 v (aj x (aE ops) 0 a0) w∧Γ e2 v w)
 (jw:∀x w,G w→(∀i,i<n→Γ i (x i) w)→x p≠x q→nc P .any ops S Q f (kG n ops.size e e2 τ τ) (aj x (aE ops) 0 a0) w):(Code.region id ops τ).wp P Q a0 w:=by
 obtain⟨x,hx⟩:=jN (aE ops) 0 a0
 have hz:∀k,(Jbe ops.size ρ).getD k ρ=ρ:=fun k=>by
  by_cases h:k<ops.size<;>simp[JaD,h]
 have KI:∀(x:Nat→ψ) (k:Nat) (v:ψ),(k=e∨k=e2)→x p≠x q→kQ x k v p≠kQ x k v q:=fun x k v hk Tl=>by
  obtain⟨-,-,-,h1,h2,h3,h4⟩:=ti;rw[show kQ x k v p=x p from if_neg (by omega),show kQ x k v q=x q from if_neg (by omega)];exact Tl
 have htf:∀x w,G w→(∀i,i<n→(i=e2→ρ=τ)→Γ i (x i) w)→x p≠x q→nc P .any ops S Q (f+1) (kG n ops.size e e2 τ ρ) (aj x (aE ops) 0 a0) w:=fun x w g1 g2 g3=>by
  obtain⟨v,hy,hv⟩:=Z9 x w g1 (fun i hi _ h2=>g2 i hi (fun q=>absurd q h2));refine vU hd aeh qO Fy.1 Fy.2.1 hQ2 Fy.2.2 ⟨v,hy,jw _ w g1 (fun i hi=>?_) (KI x e2 v (.inr rfl) g3)⟩
  by_cases q:i=e2
  ·subst q;simpa [kQ] using hv
  ·rw[show kQ x e2 v i=x i from if_neg q];exact g2 i hi (fun k=>absurd k q)
 have h:=JP (P:=P) (Q:=Q) (md:=.any) n e e2 p q S Γ G a0 hΓ hG hd hr (of_decide_eq_true hn) ht ti lp hsp hsq (fun a b x w f' g1 g2 g3 hc=>by
  cases a with
  |true=>cases b with
   |true=>
    obtain rfl:f'=f:=by omega
    exact jw x w g1 (fun i hi=>g2 i hi (fun _=>rfl) (fun _=>rfl)) g3
   |false=>
    obtain rfl:f'=f+1:=by omega
    exact htf x w g1 (fun i hi k=>g2 i hi (fun _=>rfl) k) g3
  |false=>
   obtain⟨v,hy,hv⟩:=DI x w g1 (fun i hi h1 h2=>g2 i hi (fun q=>absurd q h1) (fun q=>absurd q h2))
   have uU:∀i,i<n→(i=e2→b=τ)→Γ i (kQ x e v i) w:=fun i hi k=>by
    by_cases q:i=e
    ·subst q;simpa [kQ] using hv
    ·rw[show kQ x e v i=x i from if_neg q];exact g2 i hi (fun k=>absurd k q) k
   cases b with
   |true=>
    obtain rfl:f'=f+1:=by omega
    exact vU hd Ke qO VI.1 VI.2.1 hQ VI.2.2 ⟨v,hy,jw _ w g1 (fun i hi=>uU i hi (fun _=>rfl)) (KI x e v (.inl rfl) g3)⟩
   |false=>
    obtain rfl:f'=f+2:=by omega
    exact vU hd Ke qO oH.1 oH.2.1 hQ oH.2.2 ⟨v,hy,htf _ w g1 uU (KI x e v (.inl rfl) g3)⟩) ops.size (Jbe ops.size ρ) x w.drew (by simp) (fun k _ _=>hz k) (by
  have:(Ω ops.size).countP (fun j=>(Jbe ops.size ρ).getD j ρ)=0:=by
   rw[List.countP_eq_zero];intro j hj;rw[hz j];simp
  omega) hg (fun i _ hi=>by rw[hz i] at hi;cases hi) (fun hi=>by rw[hz p] at hi;cases hi)
 rw[hx] at h;exact wp_region_any hm h
end
def fu (x:Nm) (t:Int→D) (G:List Gn):Nat→List Gn
 |0=>G
 |j+1=>dP (fu x t G j) (bh x (j:Int),t (j:Int))
theorem sP (x:Nm) (t:Int→D) {G:List Gn} (h:cT G) (hl:G.length≤400):∀j,cT (fu x t G j)∧(fu x t G j).length≤400
 |0=>⟨h,hl⟩
 |j+1=>⟨fN _ (sP x t h hl j).1,mT _ _ (sP x t h hl j).2 (sP x t h hl j).1⟩
theorem G0 (a b c x y z:Int) (X:ο):(binOp .eql 32 (φ #[J a,J b,J c]) (φ #[J x,J y,J z])).run η X=.ok (Β (decide ((a,b,c)=(x,y,z)))) X:=by
 by_cases h1:a=x
 ·by_cases h2:b=y
  ·by_cases h3:c=z
   ·simp[go_sem,h1,h2,h3]
   ·simp[go_sem,h1,h2,h3]
  ·simp[go_sem,h1,h2]
 ·simp[go_sem,h1]
section
variable {w W:ο} {lo g:Nat} {A:Option Κ} {n c:Nat} {Vs:List VC} {B:Option Κ} {m k:Nat} {Es:List EC} {C:Option Κ} {r rc:Nat} {G:List Gn}
theorem Uo (h:bK w lo g A n c Vs B m k Es C r rc G W) (hS:gD (Vs.map vS,Es,G)) (o:dR) (h1:bu (Vs.map vS) (bL o)=ρ):Ζ η 95 #[υ (ζ ⟨g,0,ε⟩),φ (ak o).toArray] W (cG w W lo g (gU (Vs.map vS,Es,G) (bL o) (cX o))):=by
 obtain⟨hn,hm,hr,fy⟩:=hS.n24 h;have HV:Hid (∀X,bK w lo g A n c Vs B m k Es C r rc G X→Ζ η 110 #[υ (ζ ⟨g,0,ε⟩),φ #[J o.s,J o.n]] X fun e w'=>e=.returned (J (dX (fun v:VC=>v.1) Vs (bL o)))∧σ X.heap.size X w'):=qh (fun X hX=>fB g A n c B m k C r rc o.s o.n Vs X hX.s (aK hX.v) (by omega));have HR:Hid (gU (Vs.map vS,Es,G) (bL o) (cX o)=(dv,13)):=qh (by unfold gU;rw[if_pos h1]);have e1:=dH (k:=fun v:VC=>v.1) (l:=Vs) ((cx Vs _).trans h1);rw[e1] at HV;clear hS fy e1;have H:=qh h;clear h;go_enter Tryz.func95,Tryz.ntmps95;go_upto_region 1 with fail
 obtain⟨W1,aV⟩:=aB (W.alloc (δ (ak o).toArray 36));have aL:Hid (Whole W1 W.heap.size 36 (ak o)):=qh (by rw[←aV];exact Whole.new_ _ _ _);have cB:Hid (bK w lo g A n c Vs B m k Es C r rc G W1):=qh (by rw[←aV];exact H.out.al _);have bE:Hid (σ W.heap.size W W1):=qh (by rw[←aV];exact az _ _);rw[aV];clear aV H;have Nb:Hid (W.heap.size≠g):=qh (aL.out.ne_ cB.out.s (by decide));obtain⟨b0,bp⟩:=aB W.heap.size;rw[bp] at aL Nb ⊢;clear bp;have gM:=aL.out.cell (i:=1) rfl;have gO:=aL.out.cell (i:=2) rfl
 go_wp2_with (first
  |(go_at_call 110
    refine(HV.out _ cB.out).mono ?_
    rintro e w2 ⟨rfl,aP⟩;have cY:=qh (cB.out.bl aP);have aZ:=qh (aL.out.bl aP);have bG:=qh (ag bE.out aP);clear aP cB aL bE gM gO;have mr:=aZ.out.cell (i:=1) rfl;have mS:=aZ.out.cell (i:=2) rfl;have mO:=aZ.out.cell (i:=5) rfl;have mq:=aZ.out.cell (i:=6) rfl;have s0:=cY.out.s.cell (i:=0) rfl;have s1:=cY.out.s.cell (i:=1) rfl))
 go_ret;exact cG.no HR.out (by decide) rfl cY.out.below (aJ.of_below bG.out)
theorem Ub (h:bK w lo g A n c Vs B m k Es C r rc G W) (hS:gD (Vs.map vS,Es,G)) (o:dR) (i:Nat) (v:VC) (hv:Vs[i]? =ζ v) (hid:v.1=bL o) (SM:dX (fun v:VC=>v.1) Vs (bL o)=(i:Int)):Ζ η 95 #[υ (ζ ⟨g,0,ε⟩),φ (ak o).toArray] W (cG w W lo g (gU (Vs.map vS,Es,G) (bL o) (cX o))):=by
 obtain⟨hn,hm,hr,fy⟩:=hS.n24 h;have HV:Hid (∀X,bK w lo g A n c Vs B m k Es C r rc G X→Ζ η 110 #[υ (ζ ⟨g,0,ε⟩),φ #[J o.s,J o.n]] X fun e w'=>e=.returned (J (dX (fun v:VC=>v.1) Vs (bL o)))∧σ X.heap.size X w'):=qh (fun X hX=>fB g A n c B m k C r rc o.s o.n Vs X hX.s (aK hX.v) (by omega));have hi:i<n:=by rw[←h.vlen];exact(List.getElem?_eq_some_iff.1 hv).1
 have IH:(Vs.map (·.1)).Nodup:=iB Vs▸hS.fit.vup.nodup;have ec:=tg IH hv;rw[hid] at ec;have xM:=ω hv;have kc:=fy v xM;have h1:bu (Vs.map vS) (bL o)=τ:=(cx Vs _).symm.trans (db.2 ⟨v,xM,hid⟩);rw[SM] at HV;obtain⟨⟨sd,gd⟩,ok,gmt⟩:∃p ok,ji v.2.1.2.2.2 (cX o)=(p,ok):=⟨_,_,rfl⟩
 have HMt:Hid (∀X,ko X v.2.1→Ζ η 129 #[γ v.2.1.1 v.2.1.2.1 v.2.1.2.2.1,φ #[J o.s2,J o.n2]] X fun e w'=>e=.returned (Ξ #[φ #[J sd.1,J sd.2.1,J sd.2.2],φ #[J gd.1,J gd.2.1,J gd.2.2],Β ok])∧σ X.heap.size X w'):=qh (fun X hX=>by
  have:=Nu (W:=X) v.2.1.1 v.2.1.2.1 v.2.1.2.2.1 v.2.1.2.2.2 o.s2 o.n2 hX.2.1
  rw[show((o.s2,o.n2):Nm)=cX o from rfl,gmt] at this;exact this)
 obtain⟨bv,junk,rfl,-,-⟩:=cN h.v (by omega);have hiI:(i:Int)<(n:Int):=by omega
 obtain⟨tf,gtf⟩:∃z:Int→D,z=fun t=>if bh (cX o) t=gd then zD else sd:=⟨_,rfl⟩
 have Yg:Hid (∀s,tf s=if bh (cX o) s=gd then zD else sd):=qh (fun s=>by rw[gtf])
 have HSm:Hid (gU (Vs.map vS,Es,G) (bL o) (cX o)=if ok=τ then((rings (dM (Vs.map vS) (bL o)) (fun l=>aM (j4 l (gd.1,gd.2.1,1 - gd.2.2) sd)),jX Es (cX o),fu (cX o) tf G 2),0) else(dv,14)):=qh (by
  subst gtf;have Kd:ji v.2.1.2.2.2 (cX o)=((sd,gd),ok):=gmt;unfold gU;rw[if_neg (by rw[h1];decide),ec];unfold ji at Kd;cases hq:jn v.2.1.2.2.2 (cX o) with
  |none=>
   rw[hq] at Kd;have e3:ρ=ok:=congrArg Prod.snd Kd;rw[←e3];rfl
  |some p=>
   rw[hq] at Kd;obtain⟨a,b⟩:=p;have e3:τ=ok:=congrArg Prod.snd Kd;have e1:a=sd:=congrArg (fun z:(D × D) × Bool=>z.1.1) Kd;have e2:b=gd:=congrArg (fun z:(D × D) × Bool=>z.1.2) Kd;rw[←e3,←e1,←e2,if_pos rfl];have hu:vS v∈(Vs.map vS,Es,G).1:=Α.2 ⟨v,xM,rfl⟩;obtain⟨f1,f2,f3⟩:=qM hS.fit hu (show jn (vS v).2.1 (cX o)=ζ (a,b) from hq);have f4:=Ac hS.fit hu (show jn (vS v).2.1 (cX o)=ζ (a,b) from hq);rw[show(vS v).1=bL o from hid] at f4;rw[f4]
   show((dL (dM (Vs.map vS) (bL o)) (b.1,b.2.1,1 - b.2.2) a,jX Es (cX o),dP (dP G (bh (cX o) 0,if bh (cX o) 0=(b.1,b.2.1,1 - b.2.2) then a else zD)) (bh (cX o) 1,if bh (cX o) 1=(b.1,b.2.1,1 - b.2.2) then a else zD)),(0:Int))=((_,_,dP (dP G (bh (cX o) 0,if bh (cX o) 0=b then zD else a)) (bh (cX o) 1,if bh (cX o) 1=b then zD else a)),0)
   rw[f2,←uF f1 (.inl rfl),←uF f1 (.inr rfl)])
 have XZ:Hid (ok=τ→(gd.2.2=0∨gd.2.2=1)∧bI Es (cX o)=τ):=qh (fun OY=>by
  have Kd:ji v.2.1.2.2.2 (cX o)=((sd,gd),ok):=gmt;unfold ji at Kd;cases hq:jn v.2.1.2.2.2 (cX o) with
  |none=>
   rw[hq] at Kd;have e3:ρ=ok:=congrArg Prod.snd Kd;rw[OY] at e3;cases e3
  |some p=>
   rw[hq] at Kd;obtain⟨a,b⟩:=p;have e2:b=gd:=congrArg (fun z:(D × D) × Bool=>z.1.2) Kd;obtain⟨hl,bj,hb⟩:=mB hq
   have hbm:b∈(vS v).2.1:=by
    show b∈v.2.1.2.2.2;rcases hl with e|e<;>rw[e]<;>simp
   have:=hS.fit.known (vS v) (Α.2 ⟨v,xM,rfl⟩) b hbm
   rw[hb,e2] at this;exact⟨this.2,this.1⟩)
 have OQ:=qh ((Cm hS.fit.vup hv).trans (by rw[hid]));have Zf:Hid (od (fun e:EC=>e.1) Es):=qh hS.fit.eup;have HT:Hid (∀j,cT (fu (cX o) tf G j)∧(fu (cX o) tf G j).length≤400):=qh (sP (cX o) _ hS.gr (by rw[h.glen];omega));have BG:Hid (∀x∈Vs.eraseIdx i,x.2.1.2.1≤1000):=qh (fun x hx=>Nat.le_trans (fy x (List.mem_of_mem_eraseIdx hx)) (by decide));have Eg:Hid (M8 130):=qh (nH Tryz.func130 (by kernel_rfl) rfl);have HVi:=qh hv;clear hS fy IH ec hid SM xM h1 gmt hv gtf;obtain⟨⟨i1,i2⟩,⟨rA,rn,jg,rL⟩,lb,at_⟩:=v;have H:=qh h;clear h;go_enter Tryz.func95,Tryz.ntmps95;go_upto_region 1 with fail
 obtain⟨W1,aV⟩:=aB (W.alloc (δ (ak o).toArray 36));have aL:Hid (Whole W1 W.heap.size 36 (ak o)):=qh (by rw[←aV];exact Whole.new_ _ _ _);have cB:Hid (bK w lo g (ζ ⟨bv,0,ε⟩) n c Vs B m k Es C r rc G W1):=qh (by rw[←aV];exact H.out.al _);have bE:Hid (σ W.heap.size W W1):=qh (by rw[←aV];exact az _ _);rw[aV];clear aV H;have Nb:Hid (W.heap.size≠g):=qh (aL.out.ne_ cB.out.s (by decide));obtain⟨b0,bp⟩:=aB W.heap.size;rw[bp] at aL Nb ⊢;clear bp;have gM:=aL.out.cell (i:=1) rfl;have gO:=aL.out.cell (i:=2) rfl
 go_upto_region 4 with (first
  |(go_at_call 110
    refine(HV.out _ cB.out).mono ?_
    rintro e w2 ⟨rfl,aP⟩;have cY:=qh (cB.out.bl aP);have aZ:=qh (aL.out.bl aP);have bG:=qh (ag bE.out aP);clear aP cB aL bE gM gO;have mr:=aZ.out.cell (i:=1) rfl;have mS:=aZ.out.cell (i:=2) rfl;have mO:=aZ.out.cell (i:=5) rfl;have mq:=aZ.out.cell (i:=6) rfl;have s0:=cY.out.s.cell (i:=0) rfl;have s1:=cY.out.s.cell (i:=1) rfl))
 obtain⟨W3,kh⟩:=aB w2;rw[kh] at cY aZ bG ⊢;clear kh mr mS mO mq s0 s1;obtain⟨b9,off,e9,aY,a8⟩:=(aK cY.out.v).place aS (by decide) (by omega)
 have e3:b9=bv∧off=0:=by
  injection e9 with e9
  injection e9 with e4 e5
  exact⟨e4.symm,e5.symm⟩
 obtain⟨rfl,rfl⟩:=e3;have ob:=a8 i _ HVi.out 2 _ rfl;simp only[Addr.add_lit,Nat.zero_add] at ob;have qW:Hid (W3.cell? ⟨b9,i*5+2,ε⟩=ζ (γ rA rn jg)):=qh ob;have o8:Hid (ko W3 (rA,rn,jg,rL)):=qh (cY.out.rg _ (ω HVi.out));have Jd:Hid (b9<W3.heap.size):=qh aY;clear a8 e9 aY ob
 have jB:Hid (∀y,Ext W3.drew y→y.cell? ⟨g,0,ε⟩=ζ (γ (ζ ⟨b9,0,ε⟩) n c)∧y.cell? ⟨b9,i*5+2,ε⟩=ζ (γ rA rn jg)∧y.cell? ⟨b0,5,ε⟩=ζ (J o.s2)∧y.cell? ⟨b0,6,ε⟩=ζ (J o.n2)):=qh (fun y hy=>
  ⟨(cY.out.dr.bl hy).s.cell (i:=0) rfl,hy.cell (show W3.drew.cell? _=_ from qW.out),(aZ.out.dr.bl hy).cell (i:=5) rfl,(aZ.out.dr.bl hy).cell (i:=6) rfl⟩)
 refine ym 18 14 15 16 17 3 (cw W3.heap.size) (tc [fun v W=>v=υ (ζ ⟨g,0,ε⟩),fun v W=>v=υ (ζ ⟨g,0,ε⟩),fun v W=>v=υ (ζ ⟨g,0,ε⟩),fun v W=>v=υ (ζ ⟨g,0,ε⟩),fun v W=>v=γ (ζ ⟨b9,0,ε⟩) n c,fun v W=>v=J (i:Int),fun v W=>v=υ (ζ ⟨b9,i*5,ε⟩),fun v W=>v=υ (ζ ⟨b9,i*5+2,ε⟩),fun v W=>v=γ rA rn jg,fun v W=>v=υ (ζ ⟨b0,5,ε⟩),fun v W=>v=φ #[J o.s2,J o.n2],fun v W=>v=Ξ #[φ #[J sd.1,J sd.2.1,J sd.2.2],φ #[J gd.1,J gd.2.1,J gd.2.2],Β ok],fun v W=>v=Ξ #[φ #[J sd.1,J sd.2.1,J sd.2.2],φ #[J gd.1,J gd.2.1,J gd.2.2],Β ok],fun v W=>v=φ #[J sd.1,J sd.2.1,J sd.2.2],fun v W=>v=φ #[J gd.1,J gd.2.1,J gd.2.2],fun v W=>v=Β ok,fun v W=>∃q,v=υ (ζ ⟨q,0,ε⟩)∧W3.heap.size≤q∧Whole (W) q 32 [J 0,J 0,J 0],fun v W=>∃q,v=υ (ζ ⟨q,0,ε⟩)∧W3.heap.size≤q∧Whole (W) q 32 [J 0,J 0,J 0]]) (Ext W3.drew) (by kernel_rfl) (by kernel_rfl) (by kernel_rfl) (by kernel_rfl) (by kernel_rfl) (by simp only[Jaj,Jag,Jah];exact rfl) (by simp only[Jaj,Jag,Jah];exact rfl) (by kernel_rfl) ⟨by kernel_rfl,by kernel_rfl,by kernel_rfl⟩ ⟨by kernel_rfl,by kernel_rfl,by kernel_rfl⟩ ⟨by kernel_rfl,by kernel_rfl,by kernel_rfl⟩ ⟨by kernel_rfl,by kernel_rfl,by kernel_rfl,by kernel_rfl⟩ (by decide) ?_ ?_ (jH (by
  intro Q hQ v w1 w2 h hx;simp only[List.mem_cons,List.not_mem_nil,or_false] at hQ;rcases hQ with rfl|rfl|rfl|rfl|rfl|rfl|rfl|rfl|rfl|rfl|rfl|rfl|rfl|rfl|rfl|rfl|rfl|rfl
  ·exact(fun v w1 w2 h hx=>h) v w1 w2 h hx
  ·exact(fun v w1 w2 h hx=>h) v w1 w2 h hx
  ·exact(fun v w1 w2 h hx=>h) v w1 w2 h hx
  ·exact(fun v w1 w2 h hx=>h) v w1 w2 h hx
  ·exact(fun v w1 w2 h hx=>h) v w1 w2 h hx
  ·exact(fun v w1 w2 h hx=>h) v w1 w2 h hx
  ·exact(fun v w1 w2 h hx=>h) v w1 w2 h hx
  ·exact(fun v w1 w2 h hx=>h) v w1 w2 h hx
  ·exact(fun v w1 w2 h hx=>h) v w1 w2 h hx
  ·exact(fun v w1 w2 h hx=>h) v w1 w2 h hx
  ·exact(fun v w1 w2 h hx=>h) v w1 w2 h hx
  ·exact(fun v w1 w2 h hx=>h) v w1 w2 h hx
  ·exact(fun v w1 w2 h hx=>h) v w1 w2 h hx
  ·exact(fun v w1 w2 h hx=>h) v w1 w2 h hx
  ·exact(fun v w1 w2 h hx=>h) v w1 w2 h hx
  ·exact(fun v w1 w2 h hx=>h) v w1 w2 h hx
  ·exact(fun v w1 w2 h hx=>(by obtain⟨q,e1,e2,e3⟩:=h;exact⟨q,e1,e2,e3.bl hx⟩)) v w1 w2 h hx
  ·exact(fun v w1 w2 h hx=>(by obtain⟨q,e1,e2,e3⟩:=h;exact⟨q,e1,e2,e3.bl hx⟩)) v w1 w2 h hx)) (fun _ _ h k=>h.trans k) (Ext.refl _) ?_ ?_ ?_ ?_ ?_ ?_
 ·exact fun _ _ _ _ h=>h
 ·exact fun _ _ _ _ h=>h
 ·intro i9 Ef Iu hq9;have dF:i9=0∨i9=1∨i9=2∨i9=3∨i9=4∨i9=5∨i9=6∨i9=7∨i9=8∨i9=9∨i9=10∨i9=11∨i9=12∨i9=13∨i9=14∨i9=15:=by omega
  rcases dF with rfl|rfl|rfl|rfl|rfl|rfl|rfl|rfl|rfl|rfl|rfl|rfl|rfl|rfl|rfl|rfl
  ·refine aH ?_;intro xf y hg aD;simp only[aE,ι,π,aj,ξ,aw,ar,aq];refine .inl ⟨by rfl,?_⟩;go_simp;exact⟨Ext.refl _,rfl⟩
  ·refine aH ?_;intro xf y hg aD;have d0:xf 0=υ (ζ ⟨g,0,ε⟩):=aD 0 (by decide);simp only[aE,ι,π,aj,ξ,aw,ar,aq];simp only[d0];refine .inl ⟨by rfl,?_⟩;go_simp;exact⟨Ext.refl _,rfl⟩
  ·refine aH ?_;intro xf y hg aD;have d1:xf 1=υ (ζ ⟨g,0,ε⟩):=aD 1 (by decide);simp only[aE,ι,π,aj,ξ,aw,ar,aq];simp only[d1];refine .inl ⟨by rfl,?_⟩;go_simp;exact⟨Ext.refl _,rfl⟩
  ·refine aH ?_;intro xf y hg aD;have d2:xf 2=υ (ζ ⟨g,0,ε⟩):=aD 2 (by decide);simp only[aE,ι,π,aj,ξ,aw,ar,aq];simp only[d2];refine .inl ⟨by rfl,?_⟩;go_simp;exact⟨Ext.refl _,rfl⟩
  ·refine aH ?_;intro xf y hg aD;have d3:xf 3=υ (ζ ⟨g,0,ε⟩):=aD 3 (by decide);obtain⟨qE,iQ,jd,qi⟩:=jB.out _ hg;simp only[aE,ι,π,aj,ξ,aw,ar,aq];simp only[d3];refine .inl ⟨by rfl,?_⟩;go_simp;exact⟨Ext.refl _,rfl⟩
  ·refine aH ?_;intro xf y hg aD;simp only[aE,ι,π,aj,ξ,aw,ar,aq];refine .inl ⟨by rfl,?_⟩;go_simp;exact⟨Ext.refl _,rfl⟩
  ·refine aH ?_;intro xf y hg aD;have d4:xf 4=γ (ζ ⟨b9,0,ε⟩) n c:=aD 4 (by decide);have d5:xf 5=J (i:Int):=aD 5 (by decide);simp only[aE,ι,π,aj,ξ,aw,ar,aq];simp only[d4,d5];refine .inl ⟨by rfl,?_⟩;go_simp;exact⟨Ext.refl _,rfl⟩
  ·refine aH ?_;intro xf y hg aD;have d6:xf 6=υ (ζ ⟨b9,i*5,ε⟩):=aD 6 (by decide);simp only[aE,ι,π,aj,ξ,aw,ar,aq];simp only[d6];refine .inl ⟨by rfl,?_⟩;go_simp;exact⟨Ext.refl _,rfl⟩
  ·refine aH ?_;intro xf y hg aD;have d7:xf 7=υ (ζ ⟨b9,i*5+2,ε⟩):=aD 7 (by decide);obtain⟨qE,iQ,jd,qi⟩:=jB.out _ hg;simp only[aE,ι,π,aj,ξ,aw,ar,aq];simp only[d7];refine .inl ⟨by rfl,?_⟩;go_simp;exact⟨Ext.refl _,rfl⟩
  ·refine aH ?_;intro xf y hg aD;simp only[aE,ι,π,aj,ξ,aw,ar,aq];refine .inl ⟨by rfl,?_⟩;go_simp;exact⟨Ext.refl _,rfl⟩
  ·refine aH ?_;intro xf y hg aD;have d9:xf 9=υ (ζ ⟨b0,5,ε⟩):=aD 9 (by decide);obtain⟨qE,iQ,jd,qi⟩:=jB.out _ hg;simp only[aE,ι,π,aj,ξ,aw,ar,aq];simp only[d9];refine .inl ⟨by rfl,?_⟩;go_simp;exact⟨Ext.refl _,rfl⟩
  ·refine aH ?_;intro xf y hg aD;have d8:xf 8=γ rA rn jg:=aD 8 (by decide);have d10:xf 10=φ #[J o.s2,J o.n2]:=aD 10 (by decide);simp only[aE,ι,π,aj,ξ,aw,ar,aq];simp only[d8,d10];refine .inl ⟨by rfl,cu (by go_simp;first|done|exact⟨rfl,rfl⟩|with_reducible rfl) ?_⟩
   refine(HMt.out y (o8.out.bl ((Θ _ W3).drew.trans (hg.mono (Δ _))))).mono ?_
   rintro e w2 ⟨rfl,hb⟩
   refine⟨_,rfl,hb,?_⟩
   show(_:ψ)=Ξ #[φ #[J sd.1,J sd.2.1,J sd.2.2],φ #[J gd.1,J gd.2.1,J gd.2.2],Β ok]
   exact rfl
  ·refine aH ?_;intro xf y hg aD;have d11:xf 11=Ξ #[φ #[J sd.1,J sd.2.1,J sd.2.2],φ #[J gd.1,J gd.2.1,J gd.2.2],Β ok]:=aD 11 (by decide);simp only[aE,ι,π,aj,ξ,aw,ar,aq];simp only[d11];refine .inl ⟨by rfl,?_⟩;go_simp;exact⟨Ext.refl _,rfl⟩
  ·refine aH ?_;intro xf y hg aD;have d12:xf 12=Ξ #[φ #[J sd.1,J sd.2.1,J sd.2.2],φ #[J gd.1,J gd.2.1,J gd.2.2],Β ok]:=aD 12 (by decide);simp only[aE,ι,π,aj,ξ,aw,ar,aq];simp only[d12];refine .inl ⟨by rfl,?_⟩;go_simp;exact⟨Ext.refl _,rfl⟩
  ·refine aH ?_;intro xf y hg aD;have d12:xf 12=Ξ #[φ #[J sd.1,J sd.2.1,J sd.2.2],φ #[J gd.1,J gd.2.1,J gd.2.2],Β ok]:=aD 12 (by decide);simp only[aE,ι,π,aj,ξ,aw,ar,aq];simp only[d12];refine .inl ⟨by rfl,?_⟩;go_simp;exact⟨Ext.refl _,rfl⟩
  ·refine aH ?_;intro xf y hg aD;have d12:xf 12=Ξ #[φ #[J sd.1,J sd.2.1,J sd.2.2],φ #[J gd.1,J gd.2.1,J gd.2.2],Β ok]:=aD 12 (by decide);simp only[aE,ι,π,aj,ξ,aw,ar,aq];simp only[d12];refine .inl ⟨by rfl,?_⟩;go_simp;exact⟨Ext.refl _,rfl⟩
 ·intro o ho xf y hg aD;simp only[Jaj,Jag,Jah,Jae.injEq] at ho;subst ho;simp only[aE,ι,π,aj,ξ,aw,ar,aq]
  refine⟨by rfl,dZ (w':=y.alloc (δ #[J 0,J 0,J 0] 32)) (by go_simp;first|done|exact rfl|exact⟨rfl,rfl⟩) (az _ _) ⟨?_,fun v0 h0=>?_⟩⟩
  ·show ∃q,(_:ψ)=υ (ζ ⟨q,0,ε⟩)∧W3.heap.size≤q∧Whole ((y.alloc (δ #[J 0,J 0,J 0] 32))) q 32 [J 0,J 0,J 0]
   exact⟨y.heap.size,rfl,hg.size,Whole.new_ _ _ [_,_,_]⟩
  ·obtain⟨q0,rfl,-,hw0⟩:∃q,v0=υ (ζ ⟨q,0,ε⟩)∧W3.heap.size≤q∧Whole (y) q 32 [J 0,J 0,J 0]:=h0
   intro he;injection he with he
   injection he with he
   injection he with he _
   have:=hw0.lt
   omega
 ·intro o ho xf y hg aD;simp only[Jaj,Jag,Jah,Jae.injEq] at ho;subst ho;simp only[aE,ι,π,aj,ξ,aw,ar,aq]
  refine⟨by rfl,dZ (w':=y.alloc (δ #[J 0,J 0,J 0] 32)) (by go_simp;first|done|exact rfl|exact⟨rfl,rfl⟩) (az _ _) ⟨?_,fun v0 h0=>?_⟩⟩
  ·show ∃q,(_:ψ)=υ (ζ ⟨q,0,ε⟩)∧W3.heap.size≤q∧Whole ((y.alloc (δ #[J 0,J 0,J 0] 32))) q 32 [J 0,J 0,J 0]
   exact⟨y.heap.size,rfl,hg.size,Whole.new_ _ _ [_,_,_]⟩
  ·obtain⟨q0,rfl,-,hw0⟩:∃q,v0=υ (ζ ⟨q,0,ε⟩)∧W3.heap.size≤q∧Whole (y) q 32 [J 0,J 0,J 0]:=h0
   intro he;injection he with he
   injection he with he
   injection he with he _
   have:=hw0.lt
   omega
 ·intro xf y hg aX;have d12:xf 12=Ξ #[φ #[J sd.1,J sd.2.1,J sd.2.2],φ #[J gd.1,J gd.2.1,J gd.2.2],Β ok]:=aX 12 (by decide) (by decide) (by decide);simp only[aE,ι,π,aj,ξ,aw,ar,aq];simp only[d12]
  refine⟨φ #[J gd.1,J gd.2.1,J gd.2.2],?_,rfl⟩
  apply dD;rfl;intro w' aC;go_simp;(try with_reducible rfl)
 ·intro xf y hg aX;have d12:xf 12=Ξ #[φ #[J sd.1,J sd.2.1,J sd.2.2],φ #[J gd.1,J gd.2.1,J gd.2.2],Β ok]:=aX 12 (by decide) (by decide) (by decide);simp only[aE,ι,π,aj,ξ,aw,ar,aq];simp only[d12]
  refine⟨Β ok,?_,rfl⟩
  apply dD;rfl;intro w' aC;go_simp;(try with_reducible rfl)
 intro xf y hg aX bj;have d13:xf 13=φ #[J sd.1,J sd.2.1,J sd.2.2]:=aX 13 (by decide);have d14:xf 14=φ #[J gd.1,J gd.2.1,J gd.2.2]:=aX 14 (by decide);have d15:xf 15=Β ok:=aX 15 (by decide);obtain⟨b6,d16,DZ,hw6⟩:∃q,xf 16=υ (ζ ⟨q,0,ε⟩)∧W3.heap.size≤q∧Whole (y) q 32 [J 0,J 0,J 0]:=aX 16 (by decide)
 obtain⟨b7,d17,DX,BH⟩:∃q,xf 17=υ (ζ ⟨q,0,ε⟩)∧W3.heap.size≤q∧Whole (y) q 32 [J 0,J 0,J 0]:=aX 17 (by decide)
 have aaD:b6≠b7:=fun e=>bj (by rw[d16,d17,e])
 simp only[aE,ι,π,aj,ξ,aw,ar,aq];simp only[d13,d14,d15,d16,d17];clear aX d13 d14 d15 d16 d17 bj;have N67:=qh aaD;have L6:=qh DZ;have L7:=qh DX;have uP:=qh hw6;have YB:=qh BH;have qH:=qh (ag (aN (Θ _ W3)) hg);clear aaD DZ DX hw6 BH;unfold kG;refine gI 18 ?_;intro w' aC
 refine⟨w'.setRow b6 #[J sd.1,J sd.2.1,J sd.2.2],aR 32 (.tmp 6) (.tmp 32) rfl b6 rfl [J sd.1,J sd.2.1,J sd.2.2] rfl 32 [J 0,J 0,J 0] (uP.out.bl aC) (by kernel_rfl) rfl (by simp[Τ]),bN (show W3.heap.size≤b6 from L6.out) _,?_⟩
 have HWc:=qh (Whole.row (uP.out.bl aC) [J sd.1,J sd.2.1,J sd.2.2]);have HWd:=qh ((YB.out.bl aC).row_far N67.out.symm #[J sd.1,J sd.2.1,J sd.2.2]);have D6:=qh (bH (ag qH.out aC) L6.out #[J sd.1,J sd.2.1,J sd.2.2]);obtain⟨V3,Oi⟩:=aB (w'.setRow b6 #[J sd.1,J sd.2.1,J sd.2.2]);rw[Oi] at HWc HWd D6 ⊢;clear aC Oi uP YB qH;refine gI 19 ?_;intro w' aC
 refine⟨w'.setRow b7 #[J gd.1,J gd.2.1,J gd.2.2],aR 32 (.tmp 7) (.tmp 33) rfl b7 rfl [J gd.1,J gd.2.1,J gd.2.2] rfl 32 [J 0,J 0,J 0] (HWd.out.bl aC) (by kernel_rfl) rfl (by simp[Τ]),bN (show W3.heap.size≤b7 from L7.out) _,?_⟩
 have HWe:=qh ((HWc.out.bl aC).row_far N67.out #[J gd.1,J gd.2.1,J gd.2.2]);have PL:=qh (Whole.row (HWd.out.bl aC) [J gd.1,J gd.2.1,J gd.2.2]);have HBd:=qh (bH (ag D6.out aC) L7.out #[J gd.1,J gd.2.1,J gd.2.2]);obtain⟨V4,Te⟩:=aB (w'.setRow b7 #[J gd.1,J gd.2.1,J gd.2.2]);rw[Te] at HWe PL HBd ⊢;clear aC Te HWc HWd D6;refine aa 20 ?_;refine aF (by kernel_rfl) ?_ _;intro W8 cg;have H6:=qh (HWe.out.bl cg);have H7:=qh (PL.out.bl cg);have nV:=qh (ag HBd.out cg);clear cg HWe PL HBd;have kj:=qh (cY.out.bl nV.out);have ue:=qh (aZ.out.bl nV.out);have LP:=qh (aJ.of_below (g:=g) (ag bG.out nV.out));clear cY aZ bG nV jB qW o8 Jd HMt HV;have N6:Hid (b6≠g):=qh (H6.out.ne_ kj.out.s (by decide));have N7:Hid (b7≠g):=qh (H7.out.ne_ kj.out.s (by decide));have Uz:Hid (i<n):=qh hi;cases ok with
 |false=>
  go_wp2;go_ret;exact cG.no (HSm.out.trans (if_neg (by decide))) (by decide) rfl kj.out.below LP.out
 |true=>
  have HR:=qh (HSm.out.trans (if_pos rfl));have HGd:=qh (XZ.out rfl).1;obtain⟨je,ve,e1,e2,e3,e4⟩:=ck (k:=fun v:EC=>v.1) (l:=Es) (XZ.out rfl).2;have D0:je<m:=by rw[←kj.out.elen];exact e4
  have HJe:Hid (je<m):=qh D0;have HCe:=qh ((Hh Zf.out e2).trans (by rw[show ve.1=cX o from e3]))
  have HE:Hid (∀X A n c Vs,bK w lo g A n c Vs B m k Es C r rc G X→Ζ η 113 #[υ (ζ ⟨g,0,ε⟩),φ #[J o.s2,J o.n2]] X fun e w'=>e=.returned (J (je:Int))∧σ X.heap.size X w'):=qh (fun X A n c Vs hX=>by
   have:=dG g A n c B m k C r rc o.s2 o.n2 Es X hX.s (aK hX.e) (by omega)
   rw[show((o.s2,o.n2):Nm)=cX o from rfl,e1] at this;exact this)
  have hr4:r≤400:=hr;clear HSm XZ e1 e2 e3 e4 Zf
  go_wp2_with (first
   |(go_at_call 112
     refine(CD kj.out i Uz.out (by omega)).mono ?_
     rintro e w9 ⟨rfl,A9,c9,iS,ff⟩;have fe:=qh iS;have xK:=qh (ff.box ue.out kj.out.s);have H69:=qh (ff.box H6.out kj.out.s);have H79:=qh (ff.box H7.out kj.out.s);have Xi:=qh (LP.out.trans ff);clear iS ff kj ue H6 H7 LP)
   |(go_at_call 121
     refine(vE fe.out (by omega) BG.out 130 (ζ ⟨b7,0,ε⟩) (ζ ⟨b6,0,ε⟩) (fun l=>aM (j4 l (gd.1,gd.2.1,1 - gd.2.2) sd)) (fun X=>Whole X b7 32 [J gd.1,J gd.2.1,J gd.2.2]∧Whole X b6 32 [J sd.1,J sd.2.1,J sd.2.2]) ⟨H79.out,H69.out⟩ (fun X Y hx hk=>⟨hk.w _ _ _ hx.1 N7.out (by decide) (by decide) (by decide),hk.w _ _ _ hx.2 N6.out (by decide) (by decide) (by decide)⟩) Eg.out (fun X A n c L hx hr hn=>ML A n c b7 b6 L gd sd X hr hx.1 hx.2 HGd.out hn)).mono ?_
     rintro e Nw ⟨rfl,Us,aaZ,Yy,Mc⟩;have nX:=qh aaZ;have aek:=qh Yy;have mK:=qh (Mc.box xK.out fe.out.s);have Zj:=qh (Mc.box H69.out fe.out.s);have Yw:=qh (Mc.box H79.out fe.out.s);have NU:=qh (Xi.out.trans Mc);clear aaZ Yy Mc fe xK H69 H79 Xi;have x5:=mK.out.cell (i:=5) rfl;have x6:=mK.out.cell (i:=6) rfl)
   |(go_at_call 113
     refine(HE.out _ _ _ _ _ nX.out).mono ?_
     rintro e DR ⟨rfl,jY⟩;have DG:=qh (nX.out.bl jY);have cK:=qh (mK.out.bl jY);have aaR:=qh (Zj.out.bl jY);have ZL:=qh (Yw.out.bl jY);have N5:=qh (NU.out.trans (aJ.of_below jY));clear jY nX mK Zj Yw NU x5 x6)
   |(go_at_call 124
     refine(Ds DG.out je HJe.out (by omega)).mono ?_
     rintro e w12 ⟨rfl,B12,Ym,Yu,LY⟩;have R7:=qh Yu;have j7:=qh (LY.box cK.out DG.out.s);have Yj:=qh (LY.box aaR.out DG.out.s);have YS:=qh (LY.box ZL.out DG.out.s);have Q5:=qh (N5.out.trans LY);clear Yu LY DG cK aaR ZL N5;have x5:=j7.out.cell (i:=5) rfl;have x6:=j7.out.cell (i:=6) rfl)
   |(go_at_call 115
     refine(lH o.s2 o.n2 _).mono ?_
     rintro e w13 ⟨rfl,Nr⟩;have Y5:=qh (R7.out.bl Nr);have H6:=qh (Yj.out.bl Nr);have H7:=qh (YS.out.bl Nr);have Zr:=qh (Q5.out.trans (aJ.of_below Nr));clear Nr R7 j7 Yj YS Q5 x5 x6))
  obtain⟨w0,Pr⟩:=aB w13;rw[Pr] at Y5 H6 H7 Zr;go_loopw [55] (fun i wr=>∃(j:Nat) (C:Option Κ) (r rc:Nat),j≤2∧i=J (j:Int)∧Hid (bK w lo g A9 (n - 1) c9 Us B12 (m - 1) Ym (Es.eraseIdx je) C r rc (fu (cX o) tf G j) wr)∧Hid (aJ g w0 wr)) (fun i _=>2 - (intOf i).toNat)
  case atStart=>subst Pr;exact⟨0,C,r,rc,by omega,rfl,Y5,qh (aJ.refl g _)⟩
  case round=>
   clear Pr;obtain⟨j,C,r,rc,dz,rfl,HS,HK⟩:=hrel;have H4:Hid (cT (fu (cX o) tf G j)∧r≤400):=qh ⟨(HT.out j).1,by rw[←HS.out.glen];exact(HT.out j).2⟩;have hj:j=0∨j=1∨j=2:=by omega
   rcases hj with rfl|rfl|rfl
   ·clear dz;have ix0:∀w:ο,(Instr.index 141 (φ #[J o.s2,J o.n2,J 0,J o.s2,J o.n2,J 1]) (J 0)).run η w=.ok (φ #[J o.s2,J o.n2,J 0]) w:=fun _=>by kernel_rfl
    have YK:=qh (HK.out.w _ _ _ H6.out N6.out (by decide) (by decide) (by decide));have Ze:=qh (HK.out.w _ _ _ H7.out N7.out (by decide) (by decide) (by decide));go_upto_region 15 with fail
    have j8:=qh (HS.out.al (δ #[J o.s2,J o.n2,J 0] 32));have Ar:=qh (HK.out.trans (aJ.of_below (az wr (δ #[J o.s2,J o.n2,J 0] 32))));have Oe:Hid (Whole (wr.alloc (δ #[J o.s2,J o.n2,J 0] 32)) wr.heap.size 32 [J o.s2,J o.n2,J 0]):=qh (Whole.new_ _ _ [_,_,_]);have Of:=qh (YK.out.al (δ #[J o.s2,J o.n2,J 0] 32));have WG:=qh (Ze.out.al (δ #[J o.s2,J o.n2,J 0] 32));obtain⟨W4,uQ⟩:=aB (wr.alloc (δ #[J o.s2,J o.n2,J 0] 32));obtain⟨bd,Cc⟩:=aB wr.heap.size;rw[uQ] at j8 Ar Oe Of WG ⊢;rw[Cc] at Oe ⊢;clear uQ Cc HS HK YK Ze;have c60:=Of.out.cell (i:=0) rfl;have c61:=Of.out.cell (i:=1) rfl;have c62:=Of.out.cell (i:=2) rfl;go_upto_region 16 with fail
    have kF:=qh (az W4 (δ #[J sd.1,J sd.2.1,J sd.2.2] 32));have kx:=qh (Oe.out.al (δ #[J sd.1,J sd.2.1,J sd.2.2] 32));have JX:=qh (WG.out.al (δ #[J sd.1,J sd.2.1,J sd.2.2] 32));have uV:Hid (Whole (W4.alloc (δ #[J sd.1,J sd.2.1,J sd.2.2] 32)) W4.heap.size 32 [J sd.1,J sd.2.1,J sd.2.2]):=qh (Whole.new_ _ _ [_,_,_]);have P7:Hid (bd≠W4.heap.size):=qh (by have:=Oe.out.lt;omega);obtain⟨W5,sC⟩:=aB (W4.alloc (δ #[J sd.1,J sd.2.1,J sd.2.2] 32));obtain⟨bt,xY⟩:=aB W4.heap.size;have RK:=qh xY;rw[sC] at kF kx JX uV ⊢;rw[xY] at kF uV P7 ⊢;clear sC xY Oe Of WG c60 c61 c62;have d50:=kx.out.cell (i:=0) rfl;have d51:=kx.out.cell (i:=1) rfl;have d52:=kx.out.cell (i:=2) rfl;have c70:=JX.out.cell (i:=0) rfl;have c71:=JX.out.cell (i:=1) rfl;have c72:=JX.out.cell (i:=2) rfl;have t50:=uV.out.cell (i:=0) rfl;have t51:=uV.out.cell (i:=1) rfl;have t52:=uV.out.cell (i:=2) rfl;have Za:=uV.out.free 0;have u51:=uV.out.free 1;have u52:=uV.out.free 2;have qd:∀X:ο,(binOp .eql 32 (φ #[J o.s2,J o.n2,J 0]) (φ #[J gd.1,J gd.2.1,J gd.2.2])).run η X=.ok (Β (decide (bh (cX o) 0=gd))) X:=G0 _ _ _ _ _ _
    obtain⟨td,zY⟩:=aB (tf 0);have IZ:=(Yg.out 0).symm.trans zY;cases DY:decide (bh (cX o) 0=gd) with
    |true=>
     rw[DY] at qd;rw[if_pos (of_decide_eq_true DY)] at IZ;have WA:=qh IZ;have TZ:=qh zY;clear IZ zY DY;go_upto_region 18 with fail
     have s7:=qh (((kF.out.setCell (p:=⟨bt,0,ε⟩) (Δ _) (J 0)).setCell (p:=⟨bt,1,ε⟩) (Δ _) (J 0)).setCell (p:=⟨bt,2,ε⟩) (Δ _) (J 0));have yf:=qh (((kx.out.far (p:=⟨bt,0,ε⟩) P7.out (J 0)).far (p:=⟨bt,1,ε⟩) P7.out (J 0)).far (p:=⟨bt,2,ε⟩) P7.out (J 0));have vv:=qh (((uV.out.set_ 0 (J 0)).set_ 1 (J 0)).set_ 2 (J 0));have iF:=qh (j8.out.bl (by rw[RK.out];exact s7.out));have ki:=qh (Ar.out.trans (aJ.of_below (by rw[RK.out];exact s7.out)));obtain⟨W6,Dr⟩:=aB (((W5.setCell ⟨bt,0,ε⟩ (J 0)).setCell ⟨bt,1,ε⟩ (J 0)).setCell ⟨bt,2,ε⟩ (J 0));rw[Dr] at s7 yf vv iF ki ⊢;clear Dr;clear qd d50 d51 d52 c70 c71 c72 t50 t51 t52 Za u51 u52 kF kx JX uV j8 Ar;have d60:=yf.out.cell (i:=0) rfl;have d61:=yf.out.cell (i:=1) rfl;have d62:=yf.out.cell (i:=2) rfl;have t60:=vv.out.cell (i:=0) rfl;have t61:=vv.out.cell (i:=1) rfl;have t62:=vv.out.cell (i:=2) rfl
     go_wp2_with (first
      |(go_at_call 119
        refine(my iF.out (bh (cX o) 0) zD H4.out.2 H4.out.1).mono ?_
        rintro e w9 ⟨rfl,C9,r9,rF,iS,GK,ff,Iu⟩
        have fe:Hid (bK w lo g A9 (n - 1) c9 Us B12 (m - 1) Ym (Es.eraseIdx je) C9 r9 rF (fu (cX o) tf G 1) w9):=qh (by
         have e:fu (cX o) tf G 1=dP (fu (cX o) tf G 0) (bh (cX o) 0,zD):=by
          show dP (fu (cX o) tf G 0) (bh (cX o) 0,tf 0)=_;rw[TZ.out,←WA.out]
         rw[e];exact iS)
        have km:=qh (ki.out.trans ff);clear iS GK ff Iu iF ki yf vv s7))
     go_roundw
     case rel=>exact⟨1,_,_,_,by omega,by go_num,fe,km⟩
     case measure=>simp[intOf]
    |false=>
     rw[DY] at qd;rw[if_neg (of_decide_eq_false DY)] at IZ;have WA:=qh IZ;have TZ:=qh zY;clear IZ zY DY;go_upto_region 18 with fail
     have s7:=kF;have yf:=kx;have vv:=uV;have iF:=qh (j8.out.bl (by rw[RK.out];exact s7.out));have ki:=qh (Ar.out.trans (aJ.of_below (by rw[RK.out];exact s7.out)));clear qd d50 d51 d52 c70 c71 c72 t50 t51 t52 Za u51 u52 kF kx JX uV j8 Ar;have d60:=yf.out.cell (i:=0) rfl;have d61:=yf.out.cell (i:=1) rfl;have d62:=yf.out.cell (i:=2) rfl;have t60:=vv.out.cell (i:=0) rfl;have t61:=vv.out.cell (i:=1) rfl;have t62:=vv.out.cell (i:=2) rfl
     go_wp2_with (first
      |(go_at_call 119
        refine(my iF.out (bh (cX o) 0) sd H4.out.2 H4.out.1).mono ?_
        rintro e w9 ⟨rfl,C9,r9,rF,iS,GK,ff,Iu⟩
        have fe:Hid (bK w lo g A9 (n - 1) c9 Us B12 (m - 1) Ym (Es.eraseIdx je) C9 r9 rF (fu (cX o) tf G 1) w9):=qh (by
         have e:fu (cX o) tf G 1=dP (fu (cX o) tf G 0) (bh (cX o) 0,sd):=by
          show dP (fu (cX o) tf G 0) (bh (cX o) 0,tf 0)=_;rw[TZ.out,←WA.out]
         rw[e];exact iS)
        have km:=qh (ki.out.trans ff);clear iS GK ff Iu iF ki yf vv s7))
     go_roundw
     case rel=>exact⟨1,_,_,_,by omega,by go_num,fe,km⟩
     case measure=>simp[intOf]
   ·clear dz;have ix1:∀w:ο,(Instr.index 141 (φ #[J o.s2,J o.n2,J 0,J o.s2,J o.n2,J 1]) (J 1)).run η w=.ok (φ #[J o.s2,J o.n2,J 1]) w:=fun _=>by kernel_rfl
    have YK:=qh (HK.out.w _ _ _ H6.out N6.out (by decide) (by decide) (by decide));have Ze:=qh (HK.out.w _ _ _ H7.out N7.out (by decide) (by decide) (by decide));go_upto_region 15 with fail
    have j8:=qh (HS.out.al (δ #[J o.s2,J o.n2,J 1] 32));have Ar:=qh (HK.out.trans (aJ.of_below (az wr (δ #[J o.s2,J o.n2,J 1] 32))));have Oe:Hid (Whole (wr.alloc (δ #[J o.s2,J o.n2,J 1] 32)) wr.heap.size 32 [J o.s2,J o.n2,J 1]):=qh (Whole.new_ _ _ [_,_,_]);have Of:=qh (YK.out.al (δ #[J o.s2,J o.n2,J 1] 32));have WG:=qh (Ze.out.al (δ #[J o.s2,J o.n2,J 1] 32));obtain⟨W4,uQ⟩:=aB (wr.alloc (δ #[J o.s2,J o.n2,J 1] 32));obtain⟨bd,Cc⟩:=aB wr.heap.size;rw[uQ] at j8 Ar Oe Of WG ⊢;rw[Cc] at Oe ⊢;clear uQ Cc HS HK YK Ze;have c60:=Of.out.cell (i:=0) rfl;have c61:=Of.out.cell (i:=1) rfl;have c62:=Of.out.cell (i:=2) rfl;go_upto_region 16 with fail
    have kF:=qh (az W4 (δ #[J sd.1,J sd.2.1,J sd.2.2] 32));have kx:=qh (Oe.out.al (δ #[J sd.1,J sd.2.1,J sd.2.2] 32));have JX:=qh (WG.out.al (δ #[J sd.1,J sd.2.1,J sd.2.2] 32));have uV:Hid (Whole (W4.alloc (δ #[J sd.1,J sd.2.1,J sd.2.2] 32)) W4.heap.size 32 [J sd.1,J sd.2.1,J sd.2.2]):=qh (Whole.new_ _ _ [_,_,_]);have P7:Hid (bd≠W4.heap.size):=qh (by have:=Oe.out.lt;omega);obtain⟨W5,sC⟩:=aB (W4.alloc (δ #[J sd.1,J sd.2.1,J sd.2.2] 32));obtain⟨bt,xY⟩:=aB W4.heap.size;have RK:=qh xY;rw[sC] at kF kx JX uV ⊢;rw[xY] at kF uV P7 ⊢;clear sC xY Oe Of WG c60 c61 c62;have d50:=kx.out.cell (i:=0) rfl;have d51:=kx.out.cell (i:=1) rfl;have d52:=kx.out.cell (i:=2) rfl;have c70:=JX.out.cell (i:=0) rfl;have c71:=JX.out.cell (i:=1) rfl;have c72:=JX.out.cell (i:=2) rfl;have t50:=uV.out.cell (i:=0) rfl;have t51:=uV.out.cell (i:=1) rfl;have t52:=uV.out.cell (i:=2) rfl;have Za:=uV.out.free 0;have u51:=uV.out.free 1;have u52:=uV.out.free 2;have qd:∀X:ο,(binOp .eql 32 (φ #[J o.s2,J o.n2,J 1]) (φ #[J gd.1,J gd.2.1,J gd.2.2])).run η X=.ok (Β (decide (bh (cX o) 1=gd))) X:=G0 _ _ _ _ _ _
    obtain⟨td,zY⟩:=aB (tf 1);have IZ:=(Yg.out 1).symm.trans zY;cases DY:decide (bh (cX o) 1=gd) with
    |true=>
     rw[DY] at qd;rw[if_pos (of_decide_eq_true DY)] at IZ;have WA:=qh IZ;have TZ:=qh zY;clear IZ zY DY;go_upto_region 18 with fail
     have s7:=qh (((kF.out.setCell (p:=⟨bt,0,ε⟩) (Δ _) (J 0)).setCell (p:=⟨bt,1,ε⟩) (Δ _) (J 0)).setCell (p:=⟨bt,2,ε⟩) (Δ _) (J 0));have yf:=qh (((kx.out.far (p:=⟨bt,0,ε⟩) P7.out (J 0)).far (p:=⟨bt,1,ε⟩) P7.out (J 0)).far (p:=⟨bt,2,ε⟩) P7.out (J 0));have vv:=qh (((uV.out.set_ 0 (J 0)).set_ 1 (J 0)).set_ 2 (J 0));have iF:=qh (j8.out.bl (by rw[RK.out];exact s7.out));have ki:=qh (Ar.out.trans (aJ.of_below (by rw[RK.out];exact s7.out)));obtain⟨W6,Dr⟩:=aB (((W5.setCell ⟨bt,0,ε⟩ (J 0)).setCell ⟨bt,1,ε⟩ (J 0)).setCell ⟨bt,2,ε⟩ (J 0));rw[Dr] at s7 yf vv iF ki ⊢;clear Dr;clear qd d50 d51 d52 c70 c71 c72 t50 t51 t52 Za u51 u52 kF kx JX uV j8 Ar;have d60:=yf.out.cell (i:=0) rfl;have d61:=yf.out.cell (i:=1) rfl;have d62:=yf.out.cell (i:=2) rfl;have t60:=vv.out.cell (i:=0) rfl;have t61:=vv.out.cell (i:=1) rfl;have t62:=vv.out.cell (i:=2) rfl
     go_wp2_with (first
      |(go_at_call 119
        refine(my iF.out (bh (cX o) 1) zD H4.out.2 H4.out.1).mono ?_
        rintro e w9 ⟨rfl,C9,r9,rF,iS,GK,ff,Iu⟩
        have fe:Hid (bK w lo g A9 (n - 1) c9 Us B12 (m - 1) Ym (Es.eraseIdx je) C9 r9 rF (fu (cX o) tf G 2) w9):=qh (by
         have e:fu (cX o) tf G 2=dP (fu (cX o) tf G 1) (bh (cX o) 1,zD):=by
          show dP (fu (cX o) tf G 1) (bh (cX o) 1,tf 1)=_;rw[TZ.out,←WA.out]
         rw[e];exact iS)
        have km:=qh (ki.out.trans ff);clear iS GK ff Iu iF ki yf vv s7))
     go_roundw
     case rel=>exact⟨2,_,_,_,by omega,by go_num,fe,km⟩
     case measure=>simp[intOf]
    |false=>
     rw[DY] at qd;rw[if_neg (of_decide_eq_false DY)] at IZ;have WA:=qh IZ;have TZ:=qh zY;clear IZ zY DY;go_upto_region 18 with fail
     have s7:=kF;have yf:=kx;have vv:=uV;have iF:=qh (j8.out.bl (by rw[RK.out];exact s7.out));have ki:=qh (Ar.out.trans (aJ.of_below (by rw[RK.out];exact s7.out)));clear qd d50 d51 d52 c70 c71 c72 t50 t51 t52 Za u51 u52 kF kx JX uV j8 Ar;have d60:=yf.out.cell (i:=0) rfl;have d61:=yf.out.cell (i:=1) rfl;have d62:=yf.out.cell (i:=2) rfl;have t60:=vv.out.cell (i:=0) rfl;have t61:=vv.out.cell (i:=1) rfl;have t62:=vv.out.cell (i:=2) rfl
     go_wp2_with (first
      |(go_at_call 119
        refine(my iF.out (bh (cX o) 1) sd H4.out.2 H4.out.1).mono ?_
        rintro e w9 ⟨rfl,C9,r9,rF,iS,GK,ff,Iu⟩
        have fe:Hid (bK w lo g A9 (n - 1) c9 Us B12 (m - 1) Ym (Es.eraseIdx je) C9 r9 rF (fu (cX o) tf G 2) w9):=qh (by
         have e:fu (cX o) tf G 2=dP (fu (cX o) tf G 1) (bh (cX o) 1,sd):=by
          show dP (fu (cX o) tf G 1) (bh (cX o) 1,tf 1)=_;rw[TZ.out,←WA.out]
         rw[e];exact iS)
        have km:=qh (ki.out.trans ff);clear iS GK ff Iu iF ki yf vv s7))
     go_roundw
     case rel=>exact⟨2,_,_,_,by omega,by go_num,fe,km⟩
     case measure=>simp[intOf]
   ·have Ar:=qh (Zr.out.trans HK.out);go_wp2;go_ret;exact cG.yes HR.out rfl Ar.out HS.out (by rw[aek.out,OQ.out,HCe.out])
end
end Go.Proofs.YtpdpbfmiahjiiaaGreat
