/- Several texts in one. -/
import Derived.Test.YtpdpbfmiahjiiaaGreatPpAB
import Derived.Test.YtpdpbfmiahjiiaaGreatPpAJ
import Derived.Test.YtpdpbfmiahjiiaaGreatPpAP
set_option linter.unusedSectionVars false
set_option linter.unusedSimpArgs false
set_option linter.unusedVariables false
set_option maxRecDepth 100000
set_option maxHeartbeats 16000000
namespace Go.Proofs.YtpdpbfmiahjiiaaGreat
open Go.RowKit
open _root_.Go.Value renaming slice→γ,agg→φ,bool→Β,tuple→Ξ,oneCell'→Τ
open _root_.Go.Obj renaming cells→δ
open _root_.Option renaming none→ε,some→ζ
open _root_.Go.Proofs.Tryz renaming prog→η
open _root_.Go.Act renaming put→ξ
open _root_.Go renaming World→ο,Value→ψ,Calls→Ζ,wp_region_lit→Jam,getD_set_ne→Jbq
open _root_.Bool renaming false→ρ,true→τ
open _root_.Go.RowKit renaming Below→σ
open _root_.List renaming mem_map→Α,all_eq_true→Φ,getElem?_map→Ψ,range→Ω,mem_filter→JaC
open _root_.Array renaming getElem?_eq_some_iff→Jaa,getD→JaD,replicate→Jbe
open _root_.Go.Region renaming ready→Jaq,Mode→Jbj,noSelect→JbJ,free→JbP
open _root_.Nat renaming not_lt→JbT
def jP (L:List D) (ot:Nm):(D × D) × Bool:=match gH L ot with
 |some p=>(p,τ)
 |none=>((zD,zD),ρ)
theorem wU {P:Program} {fn:Func} {R:Ending→ο→Prop} {a:Act} {w:ο} {p p2 q:Tmp} {t t2:TypeId} (h:fn.results=#[.cell p t,.cell p2 t2,.tmp q]) (g g2:Nat) {t' t2':TypeId} {cs XS:List ψ} {d d2:TypeDesc}
 (hp:a.tmps.getD p undef=.pointer (ζ ⟨g,0,ε⟩)) (hW:Whole w g t' cs) (hu:P.underlying t=ζ d) (hd:d.isRow=τ) (hi:(P.info? t).map (·.size)=ζ cs.length)
 (wv:a.tmps.getD p2 undef=.pointer (ζ ⟨g2,0,ε⟩)) (Eu:Whole w g2 t2' XS) (hu2:P.underlying t2=ζ d2) (ze:d2.isRow=τ) (VA:(P.info? t2).map (·.size)=ζ XS.length)
 (v:ψ) (hv:a.tmps.getD q undef=v) (RD:a.defers=[]) (hR:R (.returned (Ξ #[φ cs.toArray,φ XS.toArray,v])) w):bodyPost P fn R .ret a w:=by
 refine bodyPost_ret (v:=Ξ #[φ cs.toArray,φ XS.toArray,v]) ?_ RD hR
 have hl:=run_loadVar_mid (P:=P) w g 0 t cs d (fun j v hv=>by
  have:=hW.cell hv
  simpa using this) hu hd hi
 have ox:=run_loadVar_mid (P:=P) w g2 0 t2 XS d2 (fun j v hv=>by
  have:=Eu.cell hv
  simpa using this) hu2 ze VA
 rw[Array.getD_eq_getD_getElem?] at hp wv hv;simp[results,h,hp,wv,hv,asAddr,Sem.run_bind,Result.andThen,hl,ox]
theorem eL (a b x y:Int) (X:ο):(binOp .eql 30 (φ #[J a,J b]) (φ #[J x,J y])).run η X=.ok (Β (decide ((a,b)=(x,y)))) X:=by
 by_cases h1:a=x
 ·by_cases h2:b=y
  ·simp[go_sem,h1,h2]
  ·simp[go_sem,h1,h2]
 ·simp[go_sem,h1]
section
variable {w W:ο} {lo g:Nat} {A:Option Addr} {n c:Nat} {Vs:List VC} {B:Option Addr} {m k:Nat} {Es:List EC} {C:Option Addr} {r rc:Nat} {G:List Gn}
theorem KN (A:Option Addr) (n c:Nat) (x1 x2:Int) (L:List D) (hn:¬n=2) (hR:jP L (x1,x2)=((zD,zD),ρ)):Ζ η 129 #[γ A n c,φ #[J x1,J x2]] W fun e w'=>e=.returned (Ξ #[φ #[J (jP L (x1,x2)).1.1.1,J (jP L (x1,x2)).1.1.2.1,J (jP L (x1,x2)).1.1.2.2],φ #[J (jP L (x1,x2)).1.2.1,J (jP L (x1,x2)).1.2.2.1,J (jP L (x1,x2)).1.2.2.2],Β (jP L (x1,x2)).2])∧σ W.heap.size W w':=by
 have HR:=qh hR;have hnI:¬(n:Int)=2:=by omega
 clear hR;have a8:Hid (σ W.heap.size W (((W.alloc (δ #[J x1,J x2] 30)).alloc (δ #[J 0,J 0,J 0] 32)).alloc (δ #[J 0,J 0,J 0] 32))):=qh (aE (aE (ax W _) _) _);have aN:Hid (Whole (((W.alloc (δ #[J x1,J x2] 30)).alloc (δ #[J 0,J 0,J 0] 32)).alloc (δ #[J 0,J 0,J 0] 32)) W.heap.size 30 [J x1,J x2]):=qh (((Whole.new_ _ _ [_,_]).al _).al _);have eU:Hid (Whole (((W.alloc (δ #[J x1,J x2] 30)).alloc (δ #[J 0,J 0,J 0] 32)).alloc (δ #[J 0,J 0,J 0] 32)) (W.heap.size+1) 32 [J 0,J 0,J 0]):=qh ((Whole.new2 (by simp)).al _);have mU:Hid (Whole (((W.alloc (δ #[J x1,J x2] 30)).alloc (δ #[J 0,J 0,J 0] 32)).alloc (δ #[J 0,J 0,J 0] 32)) (W.heap.size+1+1) 32 [J 0,J 0,J 0]):=qh (Whole.new2 (by simp));go_enter Tryz.func129,Tryz.ntmps129;go_upto_region 1 with fail
 obtain⟨W0,bP⟩:=ay ((((W.alloc (δ #[J x1,J x2] 30)).alloc (δ #[J 0,J 0,J 0] 32)).alloc (δ #[J 0,J 0,J 0] 32)));obtain⟨b2,dN⟩:=ay (W.heap.size+1+1);obtain⟨b1,cX⟩:=ay (W.heap.size+1);obtain⟨b0,bK⟩:=ay W.heap.size;have L1:Hid (W.heap.size≤b1):=qh (by omega);have L2:Hid (W.heap.size≤b2):=qh (by omega);have km:Hid (b1≠b2):=qh (by omega);rw[bP] at a8 aN eU mU ⊢;rw[dN] at mU ⊢;rw[cX] at eU ⊢;rw[bK] at aN ⊢;clear bP bK cX dN;refine aw (aF) (by kernel_rfl) ?_;refine ag 0 ?_;refine ag 1 ?_;refine bY 2 (hy:=dG (v:=Β τ) (by rfl) (fun w' aB=>by go_simp)) (h:=?_);refine ag 3 ?_;refine bg 4 ?_;refine bg 5 ?_;refine bg 6 ?_;refine bg 7 ?_;refine bg 8 ?_;refine bg 9 ?_;refine bg 10 ?_;refine bg 11 ?_;refine bg 12 ?_;refine bg 13 ?_;refine bg 14 ?_;refine bg 15 ?_;refine bg 16 ?_;refine ag 17 ?_;refine aD (by kernel_rfl) ?_ _;intro w1 jo;have aI:=qh (aN.out.dr.bl jo);have fi:=qh (eU.out.dr.bl jo);have Ck:=qh (mU.out.dr.bl jo);have eA:=qh (af (aL a8.out) jo);clear jo aN eU mU a8;go_upto_region 2 with fail
 refine Jam ?_;refine ah (v:=?_) (ζ 25) rfl (by rfl) ?_ ?_;rotate_left
 ·go_simp;(try with_reducible rfl)
 simp only[ξ,aq,ak,ao];refine ah (v:=?_) (ζ 26) rfl (by rfl) ?_ ?_;rotate_left
 ·go_simp;(try with_reducible rfl)
 simp only[ξ,aq,ak,ao];refine jZ rfl (by rfl) (bn 32 (.tmp 4) (.tmp 25) rfl b1 rfl [J 0,J 0,J 0] rfl 32 [J 0,J 0,J 0] fi.out (by kernel_rfl) rfl (by simp[Τ])) ?_;have Iy:=qh (Ck.out.row_far km.out.symm #[J 0,J 0,J 0]);have YO:=qh (Whole.row fi.out [J 0,J 0,J 0]);have zk:=qh (cC eA.out L1.out #[J 0,J 0,J 0]);refine jZ rfl (by rfl) (bn 32 (.tmp 5) (.tmp 26) rfl b2 rfl [J 0,J 0,J 0] rfl 32 [J 0,J 0,J 0] Iy.out (by kernel_rfl) rfl (by simp[Τ])) ?_;have MD:=qh (YO.out.row_far km.out #[J 0,J 0,J 0]);have zf:=qh (Whole.row Iy.out [J 0,J 0,J 0]);have te:=qh (cC zk.out L2.out #[J 0,J 0,J 0]);go_wp2;exact wU rfl b1 b2 rfl MD.out Tryz.underlying32 rfl (by kernel_rfl) rfl zf.out Tryz.underlying32 rfl (by kernel_rfl) _ rfl rfl ⟨by rw[HR.out];rfl,te.out⟩
theorem TZ (c:Nat) (x1 x2:Int) (bb off:Nat) (bD:bb<W.heap.size) (a b:D) (c0:W.cell? ⟨bb,off,ε⟩=ζ (J a.1)) (c1:W.cell? ⟨bb,off+1,ε⟩=ζ (J a.2.1)) (c2:W.cell? ⟨bb,off+2,ε⟩=ζ (J a.2.2)) (c3:W.cell? ⟨bb,off+3,ε⟩=ζ (J b.1)) (c4:W.cell? ⟨bb,off+4,ε⟩=ζ (J b.2.1)) (c5:W.cell? ⟨bb,off+5,ε⟩=ζ (J b.2.2)) (ha:decide (dS a=(x1,x2))=τ) (hb:decide (dS b=(x1,x2))=τ):Ζ η 129 #[γ (ζ ⟨bb,off,ε⟩) 2 c,φ #[J x1,J x2]] W fun e w'=>e=.returned (Ξ #[φ #[J (jP [a,b] (x1,x2)).1.1.1,J (jP [a,b] (x1,x2)).1.1.2.1,J (jP [a,b] (x1,x2)).1.1.2.2],φ #[J (jP [a,b] (x1,x2)).1.2.1,J (jP [a,b] (x1,x2)).1.2.2.1,J (jP [a,b] (x1,x2)).1.2.2.2],Β (jP [a,b] (x1,x2)).2])∧σ W.heap.size W w':=by
 have HR:Hid (jP [a,b] (x1,x2)=((zD,zD),ρ)):=qh (by
  replace ha:=of_decide_eq_true ha;replace hb:=of_decide_eq_true hb
  have e:gH [a,b] (x1,x2)=ε:=by
   show(if dS a=dS b then ε else if dS a=(x1,x2) then ζ (b,a) else if dS b=(x1,x2) then ζ (a,b) else ε)=_
   rw[if_pos (ha.trans hb.symm)]
  unfold jP;rw[e])
 have qa:∀X:ο,(binOp .eql 30 (φ #[J a.1,J a.2.1]) (φ #[J x1,J x2])).run η X=.ok (Β τ) X:=fun X=>by rw[eL,show(a.1,a.2.1)=dS a from rfl,ha]
 have qb:∀X:ο,(binOp .eql 30 (φ #[J b.1,J b.2.1]) (φ #[J x1,J x2])).run η X=.ok (Β τ) X:=fun X=>by rw[eL,show(b.1,b.2.1)=dS b from rfl,hb]
 clear ha hb;have C0:=qh c0;have C1:=qh c1;have C2:=qh c2;have C3:=qh c3;have C4:=qh c4;have C5:=qh c5;clear c0 c1 c2 c3 c4 c5;have a8:Hid (σ W.heap.size W (((W.alloc (δ #[J x1,J x2] 30)).alloc (δ #[J 0,J 0,J 0] 32)).alloc (δ #[J 0,J 0,J 0] 32))):=qh (aE (aE (ax W _) _) _);have aN:Hid (Whole (((W.alloc (δ #[J x1,J x2] 30)).alloc (δ #[J 0,J 0,J 0] 32)).alloc (δ #[J 0,J 0,J 0] 32)) W.heap.size 30 [J x1,J x2]):=qh (((Whole.new_ _ _ [_,_]).al _).al _);have eU:Hid (Whole (((W.alloc (δ #[J x1,J x2] 30)).alloc (δ #[J 0,J 0,J 0] 32)).alloc (δ #[J 0,J 0,J 0] 32)) (W.heap.size+1) 32 [J 0,J 0,J 0]):=qh ((Whole.new2 (by simp)).al _);have mU:Hid (Whole (((W.alloc (δ #[J x1,J x2] 30)).alloc (δ #[J 0,J 0,J 0] 32)).alloc (δ #[J 0,J 0,J 0] 32)) (W.heap.size+1+1) 32 [J 0,J 0,J 0]):=qh (Whole.new2 (by simp));go_enter Tryz.func129,Tryz.ntmps129;go_upto_region 1 with fail
 obtain⟨W0,bP⟩:=ay ((((W.alloc (δ #[J x1,J x2] 30)).alloc (δ #[J 0,J 0,J 0] 32)).alloc (δ #[J 0,J 0,J 0] 32)));obtain⟨b2,dN⟩:=ay (W.heap.size+1+1);obtain⟨b1,cX⟩:=ay (W.heap.size+1);obtain⟨b0,bK⟩:=ay W.heap.size;have L1:Hid (W.heap.size≤b1):=qh (by omega);have L2:Hid (W.heap.size≤b2):=qh (by omega);have km:Hid (b1≠b2):=qh (by omega);rw[bP] at a8 aN eU mU ⊢;rw[dN] at mU ⊢;rw[cX] at eU ⊢;rw[bK] at aN ⊢;clear bP bK cX dN;have fv:∀w',Kept aF W0.drew w'→w'.cell? ⟨bb,off,ε⟩=ζ (J a.1):=fun w' h=>h.cell ((a8.out.cell (p:=⟨bb,off,ε⟩) bD).trans C0.out) (fun e=>e)
 have ld1:∀w',Kept aF W0.drew w'→w'.cell? ⟨bb,off+1,ε⟩=ζ (J a.2.1):=fun w' h=>h.cell ((a8.out.cell (p:=⟨bb,off+1,ε⟩) bD).trans C1.out) (fun e=>e)
 have kO:∀w',Kept aF W0.drew w'→w'.cell? ⟨bb,off+2,ε⟩=ζ (J a.2.2):=fun w' h=>h.cell ((a8.out.cell (p:=⟨bb,off+2,ε⟩) bD).trans C2.out) (fun e=>e)
 have pt:∀w',Kept aF W0.drew w'→w'.cell? ⟨bb,off+3,ε⟩=ζ (J b.1):=fun w' h=>h.cell ((a8.out.cell (p:=⟨bb,off+3,ε⟩) bD).trans C3.out) (fun e=>e)
 have sU:∀w',Kept aF W0.drew w'→w'.cell? ⟨bb,off+4,ε⟩=ζ (J b.2.1):=fun w' h=>h.cell ((a8.out.cell (p:=⟨bb,off+4,ε⟩) bD).trans C4.out) (fun e=>e)
 have Cj:∀w',Kept aF W0.drew w'→w'.cell? ⟨bb,off+5,ε⟩=ζ (J b.2.2):=fun w' h=>h.cell ((a8.out.cell (p:=⟨bb,off+5,ε⟩) bD).trans C5.out) (fun e=>e)
 have qC:=dm (i:=0) aN.out rfl;have qw:=dm (i:=1) aN.out rfl;refine aw (aF) (by kernel_rfl) ?_;refine ag 0 ?_;refine ag 1 ?_;refine ag 2 ?_;refine ag 3 ?_;refine ag 4 ?_;refine ag 5 ?_;refine ag 6 ?_;refine ag 7 ?_;refine ag 8 ?_;refine ag 9 ?_;refine ag 10 ?_;refine ag 11 ?_;refine ag 12 ?_;refine ag 13 ?_;refine ag 14 ?_;refine ag 15 ?_;refine ag 16 ?_;refine ag 17 ?_;refine aD (by kernel_rfl) ?_ _;clear fv ld1 kO pt sU Cj qC qw;intro w1 jo;have aI:=qh (aN.out.dr.bl jo);have fi:=qh (eU.out.dr.bl jo);have Ck:=qh (mU.out.dr.bl jo);have eA:=qh (af (aL a8.out) jo);clear jo aN eU mU a8;go_upto_region 2 with fail
 refine Jam ?_;refine ah (v:=?_) (ζ 25) rfl (by rfl) ?_ ?_;rotate_left
 ·go_simp;(try with_reducible rfl)
 simp only[ξ,aq,ak,ao];refine ah (v:=?_) (ζ 26) rfl (by rfl) ?_ ?_;rotate_left
 ·go_simp;(try with_reducible rfl)
 simp only[ξ,aq,ak,ao];refine jZ rfl (by rfl) (bn 32 (.tmp 4) (.tmp 25) rfl b1 rfl [J 0,J 0,J 0] rfl 32 [J 0,J 0,J 0] fi.out (by kernel_rfl) rfl (by simp[Τ])) ?_;have Iy:=qh (Ck.out.row_far km.out.symm #[J 0,J 0,J 0]);have YO:=qh (Whole.row fi.out [J 0,J 0,J 0]);have zk:=qh (cC eA.out L1.out #[J 0,J 0,J 0]);refine jZ rfl (by rfl) (bn 32 (.tmp 5) (.tmp 26) rfl b2 rfl [J 0,J 0,J 0] rfl 32 [J 0,J 0,J 0] Iy.out (by kernel_rfl) rfl (by simp[Τ])) ?_;have MD:=qh (YO.out.row_far km.out #[J 0,J 0,J 0]);have zf:=qh (Whole.row Iy.out [J 0,J 0,J 0]);have te:=qh (cC zk.out L2.out #[J 0,J 0,J 0]);go_wp2;exact wU rfl b1 b2 rfl MD.out Tryz.underlying32 rfl (by kernel_rfl) rfl zf.out Tryz.underlying32 rfl (by kernel_rfl) _ rfl rfl ⟨by rw[HR.out];rfl,te.out⟩
theorem TV (c:Nat) (x1 x2:Int) (bb off:Nat) (bD:bb<W.heap.size) (a b:D) (c0:W.cell? ⟨bb,off,ε⟩=ζ (J a.1)) (c1:W.cell? ⟨bb,off+1,ε⟩=ζ (J a.2.1)) (c2:W.cell? ⟨bb,off+2,ε⟩=ζ (J a.2.2)) (c3:W.cell? ⟨bb,off+3,ε⟩=ζ (J b.1)) (c4:W.cell? ⟨bb,off+4,ε⟩=ζ (J b.2.1)) (c5:W.cell? ⟨bb,off+5,ε⟩=ζ (J b.2.2)) (ha:decide (dS a=(x1,x2))=ρ) (hb:decide (dS b=(x1,x2))=ρ):Ζ η 129 #[γ (ζ ⟨bb,off,ε⟩) 2 c,φ #[J x1,J x2]] W fun e w'=>e=.returned (Ξ #[φ #[J (jP [a,b] (x1,x2)).1.1.1,J (jP [a,b] (x1,x2)).1.1.2.1,J (jP [a,b] (x1,x2)).1.1.2.2],φ #[J (jP [a,b] (x1,x2)).1.2.1,J (jP [a,b] (x1,x2)).1.2.2.1,J (jP [a,b] (x1,x2)).1.2.2.2],Β (jP [a,b] (x1,x2)).2])∧σ W.heap.size W w':=by
 have HR:Hid (jP [a,b] (x1,x2)=((zD,zD),ρ)):=qh (by
  replace ha:=of_decide_eq_false ha;replace hb:=of_decide_eq_false hb
  have e:gH [a,b] (x1,x2)=ε:=by
   show(if dS a=dS b then ε else if dS a=(x1,x2) then ζ (b,a) else if dS b=(x1,x2) then ζ (a,b) else ε)=_
   by_cases e:dS a=dS b;rw[if_pos e];rw[if_neg e,if_neg ha,if_neg hb]
  unfold jP;rw[e])
 have qa:∀X:ο,(binOp .eql 30 (φ #[J a.1,J a.2.1]) (φ #[J x1,J x2])).run η X=.ok (Β ρ) X:=fun X=>by rw[eL,show(a.1,a.2.1)=dS a from rfl,ha]
 have qb:∀X:ο,(binOp .eql 30 (φ #[J b.1,J b.2.1]) (φ #[J x1,J x2])).run η X=.ok (Β ρ) X:=fun X=>by rw[eL,show(b.1,b.2.1)=dS b from rfl,hb]
 clear ha hb;have C0:=qh c0;have C1:=qh c1;have C2:=qh c2;have C3:=qh c3;have C4:=qh c4;have C5:=qh c5;clear c0 c1 c2 c3 c4 c5;have a8:Hid (σ W.heap.size W (((W.alloc (δ #[J x1,J x2] 30)).alloc (δ #[J 0,J 0,J 0] 32)).alloc (δ #[J 0,J 0,J 0] 32))):=qh (aE (aE (ax W _) _) _);have aN:Hid (Whole (((W.alloc (δ #[J x1,J x2] 30)).alloc (δ #[J 0,J 0,J 0] 32)).alloc (δ #[J 0,J 0,J 0] 32)) W.heap.size 30 [J x1,J x2]):=qh (((Whole.new_ _ _ [_,_]).al _).al _);have eU:Hid (Whole (((W.alloc (δ #[J x1,J x2] 30)).alloc (δ #[J 0,J 0,J 0] 32)).alloc (δ #[J 0,J 0,J 0] 32)) (W.heap.size+1) 32 [J 0,J 0,J 0]):=qh ((Whole.new2 (by simp)).al _);have mU:Hid (Whole (((W.alloc (δ #[J x1,J x2] 30)).alloc (δ #[J 0,J 0,J 0] 32)).alloc (δ #[J 0,J 0,J 0] 32)) (W.heap.size+1+1) 32 [J 0,J 0,J 0]):=qh (Whole.new2 (by simp));go_enter Tryz.func129,Tryz.ntmps129;go_upto_region 1 with fail
 obtain⟨W0,bP⟩:=ay ((((W.alloc (δ #[J x1,J x2] 30)).alloc (δ #[J 0,J 0,J 0] 32)).alloc (δ #[J 0,J 0,J 0] 32)));obtain⟨b2,dN⟩:=ay (W.heap.size+1+1);obtain⟨b1,cX⟩:=ay (W.heap.size+1);obtain⟨b0,bK⟩:=ay W.heap.size;have L1:Hid (W.heap.size≤b1):=qh (by omega);have L2:Hid (W.heap.size≤b2):=qh (by omega);have km:Hid (b1≠b2):=qh (by omega);rw[bP] at a8 aN eU mU ⊢;rw[dN] at mU ⊢;rw[cX] at eU ⊢;rw[bK] at aN ⊢;clear bP bK cX dN;have fv:∀w',Kept aF W0.drew w'→w'.cell? ⟨bb,off,ε⟩=ζ (J a.1):=fun w' h=>h.cell ((a8.out.cell (p:=⟨bb,off,ε⟩) bD).trans C0.out) (fun e=>e)
 have ld1:∀w',Kept aF W0.drew w'→w'.cell? ⟨bb,off+1,ε⟩=ζ (J a.2.1):=fun w' h=>h.cell ((a8.out.cell (p:=⟨bb,off+1,ε⟩) bD).trans C1.out) (fun e=>e)
 have kO:∀w',Kept aF W0.drew w'→w'.cell? ⟨bb,off+2,ε⟩=ζ (J a.2.2):=fun w' h=>h.cell ((a8.out.cell (p:=⟨bb,off+2,ε⟩) bD).trans C2.out) (fun e=>e)
 have pt:∀w',Kept aF W0.drew w'→w'.cell? ⟨bb,off+3,ε⟩=ζ (J b.1):=fun w' h=>h.cell ((a8.out.cell (p:=⟨bb,off+3,ε⟩) bD).trans C3.out) (fun e=>e)
 have sU:∀w',Kept aF W0.drew w'→w'.cell? ⟨bb,off+4,ε⟩=ζ (J b.2.1):=fun w' h=>h.cell ((a8.out.cell (p:=⟨bb,off+4,ε⟩) bD).trans C4.out) (fun e=>e)
 have Cj:∀w',Kept aF W0.drew w'→w'.cell? ⟨bb,off+5,ε⟩=ζ (J b.2.2):=fun w' h=>h.cell ((a8.out.cell (p:=⟨bb,off+5,ε⟩) bD).trans C5.out) (fun e=>e)
 have qC:=dm (i:=0) aN.out rfl;have qw:=dm (i:=1) aN.out rfl;refine aw (aF) (by kernel_rfl) ?_;refine ag 0 ?_;refine ag 1 ?_;refine ag 2 ?_;refine ag 3 ?_;refine ag 4 ?_;refine ag 5 ?_;refine ag 6 ?_;refine ag 7 ?_;refine ag 8 ?_;refine ag 9 ?_;refine ag 10 ?_;refine ag 11 ?_;refine ag 12 ?_;refine ag 13 ?_;refine ag 14 ?_;refine ag 15 ?_;refine ag 16 ?_;refine ag 17 ?_;refine aD (by kernel_rfl) ?_ _;clear fv ld1 kO pt sU Cj qC qw;intro w1 jo;have aI:=qh (aN.out.dr.bl jo);have fi:=qh (eU.out.dr.bl jo);have Ck:=qh (mU.out.dr.bl jo);have eA:=qh (af (aL a8.out) jo);clear jo aN eU mU a8;go_upto_region 2 with fail
 refine Jam ?_;refine ah (v:=?_) (ζ 25) rfl (by rfl) ?_ ?_;rotate_left
 ·go_simp;(try with_reducible rfl)
 simp only[ξ,aq,ak,ao];refine ah (v:=?_) (ζ 26) rfl (by rfl) ?_ ?_;rotate_left
 ·go_simp;(try with_reducible rfl)
 simp only[ξ,aq,ak,ao];refine jZ rfl (by rfl) (bn 32 (.tmp 4) (.tmp 25) rfl b1 rfl [J 0,J 0,J 0] rfl 32 [J 0,J 0,J 0] fi.out (by kernel_rfl) rfl (by simp[Τ])) ?_;have Iy:=qh (Ck.out.row_far km.out.symm #[J 0,J 0,J 0]);have YO:=qh (Whole.row fi.out [J 0,J 0,J 0]);have zk:=qh (cC eA.out L1.out #[J 0,J 0,J 0]);refine jZ rfl (by rfl) (bn 32 (.tmp 5) (.tmp 26) rfl b2 rfl [J 0,J 0,J 0] rfl 32 [J 0,J 0,J 0] Iy.out (by kernel_rfl) rfl (by simp[Τ])) ?_;have MD:=qh (YO.out.row_far km.out #[J 0,J 0,J 0]);have zf:=qh (Whole.row Iy.out [J 0,J 0,J 0]);have te:=qh (cC zk.out L2.out #[J 0,J 0,J 0]);go_wp2;exact wU rfl b1 b2 rfl MD.out Tryz.underlying32 rfl (by kernel_rfl) rfl zf.out Tryz.underlying32 rfl (by kernel_rfl) _ rfl rfl ⟨by rw[HR.out];rfl,te.out⟩
theorem Ts (c:Nat) (x1 x2:Int) (bb off:Nat) (bD:bb<W.heap.size) (a b:D) (c0:W.cell? ⟨bb,off,ε⟩=ζ (J a.1)) (c1:W.cell? ⟨bb,off+1,ε⟩=ζ (J a.2.1)) (c2:W.cell? ⟨bb,off+2,ε⟩=ζ (J a.2.2)) (c3:W.cell? ⟨bb,off+3,ε⟩=ζ (J b.1)) (c4:W.cell? ⟨bb,off+4,ε⟩=ζ (J b.2.1)) (c5:W.cell? ⟨bb,off+5,ε⟩=ζ (J b.2.2)) (ha:decide (dS a=(x1,x2))=τ) (hb:decide (dS b=(x1,x2))=ρ):Ζ η 129 #[γ (ζ ⟨bb,off,ε⟩) 2 c,φ #[J x1,J x2]] W fun e w'=>e=.returned (Ξ #[φ #[J (jP [a,b] (x1,x2)).1.1.1,J (jP [a,b] (x1,x2)).1.1.2.1,J (jP [a,b] (x1,x2)).1.1.2.2],φ #[J (jP [a,b] (x1,x2)).1.2.1,J (jP [a,b] (x1,x2)).1.2.2.1,J (jP [a,b] (x1,x2)).1.2.2.2],Β (jP [a,b] (x1,x2)).2])∧σ W.heap.size W w':=by
 have HR:Hid (jP [a,b] (x1,x2)=((b,a),τ)):=qh (by
  replace ha:=of_decide_eq_true ha;replace hb:=of_decide_eq_false hb
  have e:gH [a,b] (x1,x2)=ζ (b,a):=by
   show(if dS a=dS b then ε else if dS a=(x1,x2) then ζ (b,a) else if dS b=(x1,x2) then ζ (a,b) else ε)=_
   rw[if_neg (fun e:dS a=dS b=>hb (e.symm.trans ha)),if_pos ha]
  unfold jP;rw[e])
 have qa:∀X:ο,(binOp .eql 30 (φ #[J a.1,J a.2.1]) (φ #[J x1,J x2])).run η X=.ok (Β τ) X:=fun X=>by rw[eL,show(a.1,a.2.1)=dS a from rfl,ha]
 have qb:∀X:ο,(binOp .eql 30 (φ #[J b.1,J b.2.1]) (φ #[J x1,J x2])).run η X=.ok (Β ρ) X:=fun X=>by rw[eL,show(b.1,b.2.1)=dS b from rfl,hb]
 clear ha hb;have C0:=qh c0;have C1:=qh c1;have C2:=qh c2;have C3:=qh c3;have C4:=qh c4;have C5:=qh c5;clear c0 c1 c2 c3 c4 c5;have a8:Hid (σ W.heap.size W (((W.alloc (δ #[J x1,J x2] 30)).alloc (δ #[J 0,J 0,J 0] 32)).alloc (δ #[J 0,J 0,J 0] 32))):=qh (aE (aE (ax W _) _) _);have aN:Hid (Whole (((W.alloc (δ #[J x1,J x2] 30)).alloc (δ #[J 0,J 0,J 0] 32)).alloc (δ #[J 0,J 0,J 0] 32)) W.heap.size 30 [J x1,J x2]):=qh (((Whole.new_ _ _ [_,_]).al _).al _);have eU:Hid (Whole (((W.alloc (δ #[J x1,J x2] 30)).alloc (δ #[J 0,J 0,J 0] 32)).alloc (δ #[J 0,J 0,J 0] 32)) (W.heap.size+1) 32 [J 0,J 0,J 0]):=qh ((Whole.new2 (by simp)).al _);have mU:Hid (Whole (((W.alloc (δ #[J x1,J x2] 30)).alloc (δ #[J 0,J 0,J 0] 32)).alloc (δ #[J 0,J 0,J 0] 32)) (W.heap.size+1+1) 32 [J 0,J 0,J 0]):=qh (Whole.new2 (by simp));go_enter Tryz.func129,Tryz.ntmps129;go_upto_region 1 with fail
 obtain⟨W0,bP⟩:=ay ((((W.alloc (δ #[J x1,J x2] 30)).alloc (δ #[J 0,J 0,J 0] 32)).alloc (δ #[J 0,J 0,J 0] 32)));obtain⟨b2,dN⟩:=ay (W.heap.size+1+1);obtain⟨b1,cX⟩:=ay (W.heap.size+1);obtain⟨b0,bK⟩:=ay W.heap.size;have L1:Hid (W.heap.size≤b1):=qh (by omega);have L2:Hid (W.heap.size≤b2):=qh (by omega);have km:Hid (b1≠b2):=qh (by omega);rw[bP] at a8 aN eU mU ⊢;rw[dN] at mU ⊢;rw[cX] at eU ⊢;rw[bK] at aN ⊢;clear bP bK cX dN;have fv:∀w',Kept aF W0.drew w'→w'.cell? ⟨bb,off,ε⟩=ζ (J a.1):=fun w' h=>h.cell ((a8.out.cell (p:=⟨bb,off,ε⟩) bD).trans C0.out) (fun e=>e)
 have ld1:∀w',Kept aF W0.drew w'→w'.cell? ⟨bb,off+1,ε⟩=ζ (J a.2.1):=fun w' h=>h.cell ((a8.out.cell (p:=⟨bb,off+1,ε⟩) bD).trans C1.out) (fun e=>e)
 have kO:∀w',Kept aF W0.drew w'→w'.cell? ⟨bb,off+2,ε⟩=ζ (J a.2.2):=fun w' h=>h.cell ((a8.out.cell (p:=⟨bb,off+2,ε⟩) bD).trans C2.out) (fun e=>e)
 have pt:∀w',Kept aF W0.drew w'→w'.cell? ⟨bb,off+3,ε⟩=ζ (J b.1):=fun w' h=>h.cell ((a8.out.cell (p:=⟨bb,off+3,ε⟩) bD).trans C3.out) (fun e=>e)
 have sU:∀w',Kept aF W0.drew w'→w'.cell? ⟨bb,off+4,ε⟩=ζ (J b.2.1):=fun w' h=>h.cell ((a8.out.cell (p:=⟨bb,off+4,ε⟩) bD).trans C4.out) (fun e=>e)
 have Cj:∀w',Kept aF W0.drew w'→w'.cell? ⟨bb,off+5,ε⟩=ζ (J b.2.2):=fun w' h=>h.cell ((a8.out.cell (p:=⟨bb,off+5,ε⟩) bD).trans C5.out) (fun e=>e)
 have qC:=dm (i:=0) aN.out rfl;have qw:=dm (i:=1) aN.out rfl;refine aw (aF) (by kernel_rfl) ?_;refine ag 0 ?_;refine ag 1 ?_;refine ag 2 ?_;refine ag 3 ?_;refine ag 4 ?_;refine ag 5 ?_;refine ag 6 ?_;refine ag 7 ?_;refine ag 8 ?_;refine ag 9 ?_;refine ag 10 ?_;refine ag 11 ?_;refine ag 12 ?_;refine ag 13 ?_;refine ag 14 ?_;refine ag 15 ?_;refine ag 16 ?_;refine ag 17 ?_;refine aD (by kernel_rfl) ?_ _;clear fv ld1 kO pt sU Cj qC qw;intro w1 jo;have aI:=qh (aN.out.dr.bl jo);have fi:=qh (eU.out.dr.bl jo);have Ck:=qh (mU.out.dr.bl jo);have eA:=qh (af (aL a8.out) jo);clear jo aN eU mU a8;go_upto_region 3 with fail
 obtain⟨W1,aO⟩:=ay w1;rw[aO] at aI fi Ck eA ⊢;clear aO;have fv:∀w',Kept aF W1.drew w'→w'.cell? ⟨bb,off,ε⟩=ζ (J a.1):=fun w' h=>h.cell ((eA.out.cell (p:=⟨bb,off,ε⟩) bD).trans C0.out) (fun e=>e)
 have ld1:∀w',Kept aF W1.drew w'→w'.cell? ⟨bb,off+1,ε⟩=ζ (J a.2.1):=fun w' h=>h.cell ((eA.out.cell (p:=⟨bb,off+1,ε⟩) bD).trans C1.out) (fun e=>e)
 have kO:∀w',Kept aF W1.drew w'→w'.cell? ⟨bb,off+2,ε⟩=ζ (J a.2.2):=fun w' h=>h.cell ((eA.out.cell (p:=⟨bb,off+2,ε⟩) bD).trans C2.out) (fun e=>e)
 have pt:∀w',Kept aF W1.drew w'→w'.cell? ⟨bb,off+3,ε⟩=ζ (J b.1):=fun w' h=>h.cell ((eA.out.cell (p:=⟨bb,off+3,ε⟩) bD).trans C3.out) (fun e=>e)
 have sU:∀w',Kept aF W1.drew w'→w'.cell? ⟨bb,off+4,ε⟩=ζ (J b.2.1):=fun w' h=>h.cell ((eA.out.cell (p:=⟨bb,off+4,ε⟩) bD).trans C4.out) (fun e=>e)
 have Cj:∀w',Kept aF W1.drew w'→w'.cell? ⟨bb,off+5,ε⟩=ζ (J b.2.2):=fun w' h=>h.cell ((eA.out.cell (p:=⟨bb,off+5,ε⟩) bD).trans C5.out) (fun e=>e)
 have qC:=dm (i:=0) aI.out rfl;have qw:=dm (i:=1) aI.out rfl;refine aw (aF) (by kernel_rfl) ?_;refine ag 0 ?_;refine ag 1 ?_;refine ag 2 ?_;refine ag 3 ?_;refine ag 4 ?_;refine ag 5 ?_;refine aD (by kernel_rfl) ?_ _;clear fv ld1 kO pt sU Cj qC qw;intro w2 jd;have aV:=qh (aI.out.dr.bl jd);have eT:=qh (fi.out.dr.bl jd);have Vn:=qh (Ck.out.dr.bl jd);have bX:=qh (af (aL eA.out) jd);clear jd aI fi Ck eA;go_upto_region 4 with fail
 obtain⟨W2,eN⟩:=ay w2;rw[eN] at aV eT Vn bX ⊢;clear eN;have fv:∀w',Kept (de W.heap.size) W2.drew w'→w'.cell? ⟨bb,off,ε⟩=ζ (J a.1):=fun w' h=>h.cell ((bX.out.cell (p:=⟨bb,off,ε⟩) bD).trans C0.out) (fun k=>absurd bD (JbT.2 k))
 have ld1:∀w',Kept (de W.heap.size) W2.drew w'→w'.cell? ⟨bb,off+1,ε⟩=ζ (J a.2.1):=fun w' h=>h.cell ((bX.out.cell (p:=⟨bb,off+1,ε⟩) bD).trans C1.out) (fun k=>absurd bD (JbT.2 k))
 have kO:∀w',Kept (de W.heap.size) W2.drew w'→w'.cell? ⟨bb,off+2,ε⟩=ζ (J a.2.2):=fun w' h=>h.cell ((bX.out.cell (p:=⟨bb,off+2,ε⟩) bD).trans C2.out) (fun k=>absurd bD (JbT.2 k))
 have pt:∀w',Kept (de W.heap.size) W2.drew w'→w'.cell? ⟨bb,off+3,ε⟩=ζ (J b.1):=fun w' h=>h.cell ((bX.out.cell (p:=⟨bb,off+3,ε⟩) bD).trans C3.out) (fun k=>absurd bD (JbT.2 k))
 have sU:∀w',Kept (de W.heap.size) W2.drew w'→w'.cell? ⟨bb,off+4,ε⟩=ζ (J b.2.1):=fun w' h=>h.cell ((bX.out.cell (p:=⟨bb,off+4,ε⟩) bD).trans C4.out) (fun k=>absurd bD (JbT.2 k))
 have Cj:∀w',Kept (de W.heap.size) W2.drew w'→w'.cell? ⟨bb,off+5,ε⟩=ζ (J b.2.2):=fun w' h=>h.cell ((bX.out.cell (p:=⟨bb,off+5,ε⟩) bD).trans C5.out) (fun k=>absurd bD (JbT.2 k))
 refine aw (de W.heap.size) (by kernel_rfl) ?_;refine ag 0 ?_;refine ag 1 ?_;refine ag 2 ?_;refine ag 3 ?_;refine ag 4 ?_;refine ag 5 ?_;refine kI 6 ?_;intro w' aB
 refine⟨w'.setRow b1 #[J b.1,J b.2.1,J b.2.2],bn 32 (.tmp 4) (.tmp 35) rfl b1 rfl [J b.1,J b.2.1,J b.2.2] rfl 32 [J 0,J 0,J 0] (eT.out.dr.bl aB) (by kernel_rfl) rfl (by simp[Τ]),dV (show W.heap.size≤b1 from L1.out) _,?_⟩
 have Ez:=qh (Whole.row (eT.out.dr.bl aB) [J b.1,J b.2.1,J b.2.2]);have nF:=qh ((Vn.out.dr.bl aB).row_far km.out.symm #[J b.1,J b.2.1,J b.2.2]);have cI:=qh (cC (af (aL bX.out) aB) L1.out #[J b.1,J b.2.1,J b.2.2]);obtain⟨V3,tL⟩:=ay (w'.setRow b1 #[J b.1,J b.2.1,J b.2.2]);rw[tL] at Ez nF cI ⊢;clear aB tL aV eT Vn bX;(try simp only[ξ,aq,ak,ao]);refine kI 7 ?_;intro w' aB
 refine⟨w'.setRow b2 #[J a.1,J a.2.1,J a.2.2],bn 32 (.tmp 5) (.tmp 38) rfl b2 rfl [J a.1,J a.2.1,J a.2.2] rfl 32 [J 0,J 0,J 0] (nF.out.bl aB) (by kernel_rfl) rfl (by simp[Τ]),dV (show W.heap.size≤b2 from L2.out) _,?_⟩
 have xY:=qh (Whole.row (nF.out.bl aB) [J a.1,J a.2.1,J a.2.2]);have zP:=qh ((Ez.out.bl aB).row_far km.out #[J a.1,J a.2.1,J a.2.2]);have gW:=qh (cC (af cI.out aB) L2.out #[J a.1,J a.2.1,J a.2.2]);obtain⟨V4,zY⟩:=ay (w'.setRow b2 #[J a.1,J a.2.1,J a.2.2]);rw[zY] at zP xY gW ⊢;clear aB zY Ez nF cI;(try simp only[ξ,aq,ak,ao]);refine ag 8 ?_;refine aD (by kernel_rfl) ?_ _;intro w9 tA;have MD:=qh (zP.out.bl tA);have zf:=qh (xY.out.bl tA);have te:=qh (af gW.out tA);clear tA zP xY gW;go_wp2;exact wU rfl b1 b2 rfl MD.out Tryz.underlying32 rfl (by kernel_rfl) rfl zf.out Tryz.underlying32 rfl (by kernel_rfl) _ rfl rfl ⟨by rw[HR.out];rfl,te.out⟩
theorem T9 (c:Nat) (x1 x2:Int) (bb off:Nat) (bD:bb<W.heap.size) (a b:D) (c0:W.cell? ⟨bb,off,ε⟩=ζ (J a.1)) (c1:W.cell? ⟨bb,off+1,ε⟩=ζ (J a.2.1)) (c2:W.cell? ⟨bb,off+2,ε⟩=ζ (J a.2.2)) (c3:W.cell? ⟨bb,off+3,ε⟩=ζ (J b.1)) (c4:W.cell? ⟨bb,off+4,ε⟩=ζ (J b.2.1)) (c5:W.cell? ⟨bb,off+5,ε⟩=ζ (J b.2.2)) (ha:decide (dS a=(x1,x2))=ρ) (hb:decide (dS b=(x1,x2))=τ):Ζ η 129 #[γ (ζ ⟨bb,off,ε⟩) 2 c,φ #[J x1,J x2]] W fun e w'=>e=.returned (Ξ #[φ #[J (jP [a,b] (x1,x2)).1.1.1,J (jP [a,b] (x1,x2)).1.1.2.1,J (jP [a,b] (x1,x2)).1.1.2.2],φ #[J (jP [a,b] (x1,x2)).1.2.1,J (jP [a,b] (x1,x2)).1.2.2.1,J (jP [a,b] (x1,x2)).1.2.2.2],Β (jP [a,b] (x1,x2)).2])∧σ W.heap.size W w':=by
 have HR:Hid (jP [a,b] (x1,x2)=((a,b),τ)):=qh (by
  replace ha:=of_decide_eq_false ha;replace hb:=of_decide_eq_true hb
  have e:gH [a,b] (x1,x2)=ζ (a,b):=by
   show(if dS a=dS b then ε else if dS a=(x1,x2) then ζ (b,a) else if dS b=(x1,x2) then ζ (a,b) else ε)=_
   rw[if_neg (fun e:dS a=dS b=>ha (e.trans hb)),if_neg ha,if_pos hb]
  unfold jP;rw[e])
 have qa:∀X:ο,(binOp .eql 30 (φ #[J a.1,J a.2.1]) (φ #[J x1,J x2])).run η X=.ok (Β ρ) X:=fun X=>by rw[eL,show(a.1,a.2.1)=dS a from rfl,ha]
 have qb:∀X:ο,(binOp .eql 30 (φ #[J b.1,J b.2.1]) (φ #[J x1,J x2])).run η X=.ok (Β τ) X:=fun X=>by rw[eL,show(b.1,b.2.1)=dS b from rfl,hb]
 clear ha hb;have C0:=qh c0;have C1:=qh c1;have C2:=qh c2;have C3:=qh c3;have C4:=qh c4;have C5:=qh c5;clear c0 c1 c2 c3 c4 c5;have a8:Hid (σ W.heap.size W (((W.alloc (δ #[J x1,J x2] 30)).alloc (δ #[J 0,J 0,J 0] 32)).alloc (δ #[J 0,J 0,J 0] 32))):=qh (aE (aE (ax W _) _) _);have aN:Hid (Whole (((W.alloc (δ #[J x1,J x2] 30)).alloc (δ #[J 0,J 0,J 0] 32)).alloc (δ #[J 0,J 0,J 0] 32)) W.heap.size 30 [J x1,J x2]):=qh (((Whole.new_ _ _ [_,_]).al _).al _);have eU:Hid (Whole (((W.alloc (δ #[J x1,J x2] 30)).alloc (δ #[J 0,J 0,J 0] 32)).alloc (δ #[J 0,J 0,J 0] 32)) (W.heap.size+1) 32 [J 0,J 0,J 0]):=qh ((Whole.new2 (by simp)).al _);have mU:Hid (Whole (((W.alloc (δ #[J x1,J x2] 30)).alloc (δ #[J 0,J 0,J 0] 32)).alloc (δ #[J 0,J 0,J 0] 32)) (W.heap.size+1+1) 32 [J 0,J 0,J 0]):=qh (Whole.new2 (by simp));go_enter Tryz.func129,Tryz.ntmps129;go_upto_region 1 with fail
 obtain⟨W0,bP⟩:=ay ((((W.alloc (δ #[J x1,J x2] 30)).alloc (δ #[J 0,J 0,J 0] 32)).alloc (δ #[J 0,J 0,J 0] 32)));obtain⟨b2,dN⟩:=ay (W.heap.size+1+1);obtain⟨b1,cX⟩:=ay (W.heap.size+1);obtain⟨b0,bK⟩:=ay W.heap.size;have L1:Hid (W.heap.size≤b1):=qh (by omega);have L2:Hid (W.heap.size≤b2):=qh (by omega);have km:Hid (b1≠b2):=qh (by omega);rw[bP] at a8 aN eU mU ⊢;rw[dN] at mU ⊢;rw[cX] at eU ⊢;rw[bK] at aN ⊢;clear bP bK cX dN;have fv:∀w',Kept aF W0.drew w'→w'.cell? ⟨bb,off,ε⟩=ζ (J a.1):=fun w' h=>h.cell ((a8.out.cell (p:=⟨bb,off,ε⟩) bD).trans C0.out) (fun e=>e)
 have ld1:∀w',Kept aF W0.drew w'→w'.cell? ⟨bb,off+1,ε⟩=ζ (J a.2.1):=fun w' h=>h.cell ((a8.out.cell (p:=⟨bb,off+1,ε⟩) bD).trans C1.out) (fun e=>e)
 have kO:∀w',Kept aF W0.drew w'→w'.cell? ⟨bb,off+2,ε⟩=ζ (J a.2.2):=fun w' h=>h.cell ((a8.out.cell (p:=⟨bb,off+2,ε⟩) bD).trans C2.out) (fun e=>e)
 have pt:∀w',Kept aF W0.drew w'→w'.cell? ⟨bb,off+3,ε⟩=ζ (J b.1):=fun w' h=>h.cell ((a8.out.cell (p:=⟨bb,off+3,ε⟩) bD).trans C3.out) (fun e=>e)
 have sU:∀w',Kept aF W0.drew w'→w'.cell? ⟨bb,off+4,ε⟩=ζ (J b.2.1):=fun w' h=>h.cell ((a8.out.cell (p:=⟨bb,off+4,ε⟩) bD).trans C4.out) (fun e=>e)
 have Cj:∀w',Kept aF W0.drew w'→w'.cell? ⟨bb,off+5,ε⟩=ζ (J b.2.2):=fun w' h=>h.cell ((a8.out.cell (p:=⟨bb,off+5,ε⟩) bD).trans C5.out) (fun e=>e)
 have qC:=dm (i:=0) aN.out rfl;have qw:=dm (i:=1) aN.out rfl;refine aw (aF) (by kernel_rfl) ?_;refine ag 0 ?_;refine ag 1 ?_;refine ag 2 ?_;refine ag 3 ?_;refine ag 4 ?_;refine ag 5 ?_;refine ag 6 ?_;refine ag 7 ?_;refine ag 8 ?_;refine ag 9 ?_;refine ag 10 ?_;refine ag 11 ?_;refine ag 12 ?_;refine ag 13 ?_;refine ag 14 ?_;refine ag 15 ?_;refine ag 16 ?_;refine ag 17 ?_;refine aD (by kernel_rfl) ?_ _;clear fv ld1 kO pt sU Cj qC qw;intro w1 jo;have aI:=qh (aN.out.dr.bl jo);have fi:=qh (eU.out.dr.bl jo);have Ck:=qh (mU.out.dr.bl jo);have eA:=qh (af (aL a8.out) jo);clear jo aN eU mU a8;go_upto_region 3 with fail
 obtain⟨W1,aO⟩:=ay w1;rw[aO] at aI fi Ck eA ⊢;clear aO;have fv:∀w',Kept aF W1.drew w'→w'.cell? ⟨bb,off,ε⟩=ζ (J a.1):=fun w' h=>h.cell ((eA.out.cell (p:=⟨bb,off,ε⟩) bD).trans C0.out) (fun e=>e)
 have ld1:∀w',Kept aF W1.drew w'→w'.cell? ⟨bb,off+1,ε⟩=ζ (J a.2.1):=fun w' h=>h.cell ((eA.out.cell (p:=⟨bb,off+1,ε⟩) bD).trans C1.out) (fun e=>e)
 have kO:∀w',Kept aF W1.drew w'→w'.cell? ⟨bb,off+2,ε⟩=ζ (J a.2.2):=fun w' h=>h.cell ((eA.out.cell (p:=⟨bb,off+2,ε⟩) bD).trans C2.out) (fun e=>e)
 have pt:∀w',Kept aF W1.drew w'→w'.cell? ⟨bb,off+3,ε⟩=ζ (J b.1):=fun w' h=>h.cell ((eA.out.cell (p:=⟨bb,off+3,ε⟩) bD).trans C3.out) (fun e=>e)
 have sU:∀w',Kept aF W1.drew w'→w'.cell? ⟨bb,off+4,ε⟩=ζ (J b.2.1):=fun w' h=>h.cell ((eA.out.cell (p:=⟨bb,off+4,ε⟩) bD).trans C4.out) (fun e=>e)
 have Cj:∀w',Kept aF W1.drew w'→w'.cell? ⟨bb,off+5,ε⟩=ζ (J b.2.2):=fun w' h=>h.cell ((eA.out.cell (p:=⟨bb,off+5,ε⟩) bD).trans C5.out) (fun e=>e)
 have qC:=dm (i:=0) aI.out rfl;have qw:=dm (i:=1) aI.out rfl;refine aw (aF) (by kernel_rfl) ?_;refine ag 0 ?_;refine ag 1 ?_;refine ag 2 ?_;refine ag 3 ?_;refine ag 4 ?_;refine ag 5 ?_;refine aD (by kernel_rfl) ?_ _;clear fv ld1 kO pt sU Cj qC qw;intro w2 jd;have aV:=qh (aI.out.dr.bl jd);have eT:=qh (fi.out.dr.bl jd);have Vn:=qh (Ck.out.dr.bl jd);have bX:=qh (af (aL eA.out) jd);clear jd aI fi Ck eA;go_upto_region 5 with fail
 obtain⟨W2,eN⟩:=ay w2;rw[eN] at aV eT Vn bX ⊢;clear eN;have fv:∀w',Kept (de W.heap.size) W2.drew w'→w'.cell? ⟨bb,off,ε⟩=ζ (J a.1):=fun w' h=>h.cell ((bX.out.cell (p:=⟨bb,off,ε⟩) bD).trans C0.out) (fun k=>absurd bD (JbT.2 k))
 have ld1:∀w',Kept (de W.heap.size) W2.drew w'→w'.cell? ⟨bb,off+1,ε⟩=ζ (J a.2.1):=fun w' h=>h.cell ((bX.out.cell (p:=⟨bb,off+1,ε⟩) bD).trans C1.out) (fun k=>absurd bD (JbT.2 k))
 have kO:∀w',Kept (de W.heap.size) W2.drew w'→w'.cell? ⟨bb,off+2,ε⟩=ζ (J a.2.2):=fun w' h=>h.cell ((bX.out.cell (p:=⟨bb,off+2,ε⟩) bD).trans C2.out) (fun k=>absurd bD (JbT.2 k))
 have pt:∀w',Kept (de W.heap.size) W2.drew w'→w'.cell? ⟨bb,off+3,ε⟩=ζ (J b.1):=fun w' h=>h.cell ((bX.out.cell (p:=⟨bb,off+3,ε⟩) bD).trans C3.out) (fun k=>absurd bD (JbT.2 k))
 have sU:∀w',Kept (de W.heap.size) W2.drew w'→w'.cell? ⟨bb,off+4,ε⟩=ζ (J b.2.1):=fun w' h=>h.cell ((bX.out.cell (p:=⟨bb,off+4,ε⟩) bD).trans C4.out) (fun k=>absurd bD (JbT.2 k))
 have Cj:∀w',Kept (de W.heap.size) W2.drew w'→w'.cell? ⟨bb,off+5,ε⟩=ζ (J b.2.2):=fun w' h=>h.cell ((bX.out.cell (p:=⟨bb,off+5,ε⟩) bD).trans C5.out) (fun k=>absurd bD (JbT.2 k))
 refine aw (de W.heap.size) (by kernel_rfl) ?_;refine ag 0 ?_;refine ag 1 ?_;refine ag 2 ?_;refine ag 3 ?_;refine ag 4 ?_;refine ag 5 ?_;refine kI 6 ?_;intro w' aB
 refine⟨w'.setRow b1 #[J a.1,J a.2.1,J a.2.2],bn 32 (.tmp 4) (.tmp 41) rfl b1 rfl [J a.1,J a.2.1,J a.2.2] rfl 32 [J 0,J 0,J 0] (eT.out.dr.bl aB) (by kernel_rfl) rfl (by simp[Τ]),dV (show W.heap.size≤b1 from L1.out) _,?_⟩
 have Ez:=qh (Whole.row (eT.out.dr.bl aB) [J a.1,J a.2.1,J a.2.2]);have nF:=qh ((Vn.out.dr.bl aB).row_far km.out.symm #[J a.1,J a.2.1,J a.2.2]);have cI:=qh (cC (af (aL bX.out) aB) L1.out #[J a.1,J a.2.1,J a.2.2]);obtain⟨V3,tL⟩:=ay (w'.setRow b1 #[J a.1,J a.2.1,J a.2.2]);rw[tL] at Ez nF cI ⊢;clear aB tL aV eT Vn bX;(try simp only[ξ,aq,ak,ao]);refine kI 7 ?_;intro w' aB
 refine⟨w'.setRow b2 #[J b.1,J b.2.1,J b.2.2],bn 32 (.tmp 5) (.tmp 44) rfl b2 rfl [J b.1,J b.2.1,J b.2.2] rfl 32 [J 0,J 0,J 0] (nF.out.bl aB) (by kernel_rfl) rfl (by simp[Τ]),dV (show W.heap.size≤b2 from L2.out) _,?_⟩
 have xY:=qh (Whole.row (nF.out.bl aB) [J b.1,J b.2.1,J b.2.2]);have zP:=qh ((Ez.out.bl aB).row_far km.out #[J b.1,J b.2.1,J b.2.2]);have gW:=qh (cC (af cI.out aB) L2.out #[J b.1,J b.2.1,J b.2.2]);obtain⟨V4,zY⟩:=ay (w'.setRow b2 #[J b.1,J b.2.1,J b.2.2]);rw[zY] at zP xY gW ⊢;clear aB zY Ez nF cI;(try simp only[ξ,aq,ak,ao]);refine ag 8 ?_;refine aD (by kernel_rfl) ?_ _;intro w9 tA;have MD:=qh (zP.out.bl tA);have zf:=qh (xY.out.bl tA);have te:=qh (af gW.out tA);clear tA zP xY gW;go_wp2;exact wU rfl b1 b2 rfl MD.out Tryz.underlying32 rfl (by kernel_rfl) rfl zf.out Tryz.underlying32 rfl (by kernel_rfl) _ rfl rfl ⟨by rw[HR.out];rfl,te.out⟩
theorem LX (A:Option Addr) (n c:Nat) (L:List D) (x1 x2:Int) (h:aX W W.heap.size 3 A n c (aA L)):Ζ η 129 #[γ A n c,φ #[J x1,J x2]] W fun e w'=>e=.returned (Ξ #[φ #[J (jP L (x1,x2)).1.1.1,J (jP L (x1,x2)).1.1.2.1,J (jP L (x1,x2)).1.1.2.2],φ #[J (jP L (x1,x2)).1.2.1,J (jP L (x1,x2)).1.2.2.1,J (jP L (x1,x2)).1.2.2.2],Β (jP L (x1,x2)).2])∧σ W.heap.size W w':=by
 have hl:L.length=n:=h.dlen
 by_cases h2:n=2
 ·subst h2;obtain⟨b,off,rfl,bD,hc⟩:=h.darts (by omega)
  obtain⟨p,q,rfl⟩:∃p q,L=[p,q]:=by
   match L,hl with
   |[p,q],_=>exact⟨p,q,rfl⟩
  obtain⟨c0,c1,c2⟩:=hc 0 (by omega);obtain⟨c3,c4,c5⟩:=hc 1 (by omega);simp only[Nat.zero_mul,Nat.one_mul,Nat.add_zero,Nat.add_assoc,Nat.reduceAdd,List.getD_cons_zero,List.getD_cons_succ] at c0 c1 c2 c3 c4 c5;cases ha:decide (dS p=(x1,x2)) with
  |true=>cases hb:decide (dS q=(x1,x2)) with
   |true=>exact TZ c x1 x2 b off bD p q c0 c1 c2 c3 c4 c5 ha hb
   |false=>exact Ts c x1 x2 b off bD p q c0 c1 c2 c3 c4 c5 ha hb
  |false=>cases hb:decide (dS q=(x1,x2)) with
   |true=>exact T9 c x1 x2 b off bD p q c0 c1 c2 c3 c4 c5 ha hb
   |false=>exact TV c x1 x2 b off bD p q c0 c1 c2 c3 c4 c5 ha hb
 ·refine KN A n c x1 x2 L h2 ?_;unfold jP
  rw[show gH L (x1,x2)=ε from by
   unfold gH;split
   ·exact absurd hl.symm h2
   ·rfl]
end
section
variable {P:Program} {ops:Array Oper} {Q:Exit→Act→ο→Prop} {md:Jbj}
def O6 (md:Jbj) (ops:Array Oper) (n e e2:Nat):Bool:=(Ω ops.size).all fun k=>decide (k<n)||match ops[k]? with|some o=>(Ω n).all fun j=>j==e||j==e2||(fx md o).contains j|none=>τ
theorem FV {n e e2 k:Nat} {o:Oper} (h:O6 md ops n e e2=τ) (hk:n≤k) (ho:ops[k]? =ζ o):∀j,j<n→j≠e→j≠e2→j∈fx md o:=by
 intro j hj EF UK;have ZX:=(Jaa.1 ho).1;have h1:=Φ.1 h k (by simp[ZX]);rw[ho] at h1;have h2:decide (k<n)=ρ:=decide_eq_false (by omega);simp only[h2,Bool.false_or] at h1;have h3:=Φ.1 h1 j (by simp[hj]);have h4:(j==e)=ρ:=by simpa using EF
 have h5:(j==e2)=ρ:=by simpa using UK
 rw[h4,h5,Bool.false_or,Bool.false_or] at h3;simpa using h3
def kY (n m e e2:Nat) (a b:Bool):Array Bool:=((lI n m).setIfInBounds e a).setIfInBounds e2 b
theorem Rh {n e e2:Nat} {au:Array Bool} {m:Nat} (hs:au.size=m) (hk:∀k,n≤k→k<m→au.getD k ρ=ρ) (h:∀i,i<n→i≠e→i≠e2→au.getD i ρ=τ):
 au=kY n m e e2 (au.getD e ρ) (au.getD e2 ρ):=by
 apply Array.ext
 ·unfold kY;rw[Array.size_setIfInBounds,Array.size_setIfInBounds,jW,hs]
 ·intro j h1 h2;unfold kY at h2 ⊢;rw[Array.getElem_setIfInBounds (by simpa using h2)]
  by_cases Sv:e2=j
  ·subst Sv;rw[if_pos rfl];simp[JaD,h1]
  ·rw[if_neg Sv,Array.getElem_setIfInBounds (by simpa using h2)]
   by_cases Px:e=j
   ·subst Px;rw[if_pos rfl];simp[JaD,h1]
   ·rw[if_neg Px];have hjm:j<m:=by rw[←hs];exact h1
    have h4:=jI n m j hjm;have hju:j<(lI n m).size:=by rw[jW];exact hjm
    simp[JaD,hju] at h4
    by_cases hj:j<n
    ·have h3:=h j hj (Ne.symm Px) (Ne.symm Sv);simp[JaD,h1] at h3;rw[h3,h4,decide_eq_true hj]
    ·have h3:=hk j (by omega) hjm;simp[JaD,h1] at h3;rw[h3,h4,decide_eq_false hj]
def AI (P:Program) (md:Jbj) (ops:Array Oper) (Γ:Nat→ψ→ο→Prop) (G:ο→Prop) (a0:Act) (i j:Nat):Prop:=
 ∀(o:Oper),ops[i]? =ζ o→∀(x:Nat→ψ) (w:ο),G w→(∀k∈fx md o,Γ k (x k) w)→
  Region.wanted o (yielded ops (aC x (aP ops) 0 a0).tmps)=τ∧Gm P (fun v w'=>Γ i v w'∧∀v0,Γ j v0 w→v0≠v) w ((execOp (aC x (aP ops) 0 a0).eval o).run P w)
theorem Jw (n e e2 p q:Nat) (S:Nat→Prop) (Γ:Nat→ψ→ο→Prop) (G:ο→Prop) (a0:Act) (hΓ:∀i v w w',Γ i v w→Ext w w'→Γ i v w') (hG:∀w w',G w→Ext w w'→G w')
 (hd:iy ops=τ) (hr:qH md ops=τ) (hn:n≤ops.size) (ht:O6 md ops n e e2=τ) (xd:p<n∧q<n∧p≠q∧p≠e∧p≠e2∧q≠e∧q≠e2) (qf:∀i,i<n→i≠p→i≠q→sI P md ops Γ G a0 i) (hsp:AI P md ops Γ G a0 p q) (hsq:AI P md ops Γ G a0 q p)
 (kE:∀a b x w f,G w→(∀i,i<n→(i=e→a=τ)→(i=e2→b=τ)→Γ i (x i) w)→x p≠x q→(Ω ops.size).countP (fun j=>(kY n ops.size e e2 a b).getD j ρ)+f=ops.size→nW P md ops S Q f (kY n ops.size e e2 a b) (aC x (aP ops) 0 a0) w):
 ∀(fuel:Nat) (au:Array Bool) (x:Nat→ψ) (w:ο),au.size=ops.size→(∀k,n≤k→k<ops.size→au.getD k ρ=ρ)→(Ω ops.size).countP (fun j=>au.getD j ρ)+fuel=ops.size→
  G w→(∀i,i<n→au.getD i ρ=τ→Γ i (x i) w)→(au.getD p ρ=τ→au.getD q ρ=τ→x p≠x q)→wpAny P md ops Q fuel au (aC x (aP ops) 0 a0) w:=by
 have qm:∀(au:Array Bool),au.size=ops.size→(¬∀i,i<n→au.getD i ρ=τ)→∃i,i<n∧i∈Jaq md ops au:=by
  intro au hs yE
  by_cases hex:∃i,i<n∧i∈Jaq md ops au
  ·exact hex
  ·exfalso;refine yE fun i=>?_
   induction i using Nat.strongRecOn with
   |_ i ih=>
    intro hi
    by_cases hl:au.getD i ρ=τ
    ·exact hl
    ·exfalso;refine hex ⟨i,hi,?_⟩;rw[mem_ready];have zI:i<ops.size:=by omega
     have Fe:i<au.size:=by omega
     have h1:au.getD i τ=ρ:=by
      simp[JaD,Fe] at hl ⊢;exact hl
     refine⟨h1,ops[i],by simp[zI],fun e he hb=>?_⟩
     have h2:=Φ.1 (show(Ω ops.size).all _=τ from hr) i (by simp[zI]);simp[zI] at h2
     have h3:=h2 e.on (by
      unfold fx;exact Α.2 ⟨e,JaC.2 ⟨by simpa using he,hb⟩,rfl⟩)
     exact ih e.on h3 (by omega)
 have kC:∀(fuel:Nat) (au:Array Bool) (x:Nat→ψ) (w:ο),au.size=ops.size→(∀k,n≤k→k<ops.size→au.getD k ρ=ρ)→(Ω ops.size).countP (fun j=>au.getD j ρ)+fuel=ops.size→
  G w→(∀i,i<n→au.getD i ρ=τ→Γ i (x i) w)→(au.getD p ρ=τ→au.getD q ρ=τ→x p≠x q)→(∀i,i<n→i≠e→i≠e2→au.getD i ρ=τ)→wpAny P md ops Q fuel au (aC x (aP ops) 0 a0) w:=by
  intro fuel au x w hs hk hc hg hx mO h2;have e1:=Rh (e:=e) (e2:=e2) hs hk h2
  have hE:=kE (au.getD e ρ) (au.getD e2 ρ) x w fuel hg (fun i hi h3 h4=>hx i hi (by
   by_cases q1:i=e
   ·rw[q1];exact h3 q1
   ·by_cases q2:i=e2
    ·rw[q2];exact h4 q2
    ·exact h2 i hi q1 q2)) (mO (h2 p xd.1 xd.2.2.2.1 xd.2.2.2.2.1) (h2 q xd.2.1 xd.2.2.2.2.2.1 xd.2.2.2.2.2.2)) (by rw[←e1];exact hc)
  rw[←e1] at hE;exact jk _ _ _ _ hE
 intro fuel
 induction fuel with
 |zero=>
  intro au x w hs hk hc hg hx mO
  have hl:∀i,i<ops.size→au.getD i ρ=τ:=fun i hi=>by
   have h1:(Ω ops.size).countP (fun j=>au.getD j ρ)=(Ω ops.size).length:=by simpa using hc
   exact List.countP_eq_length.1 h1 i (by simp[hi])
  exact kC 0 au x w hs hk hc hg hx mO (fun i hi _ _=>hl i (by omega))
 |succ fuel ih=>
  intro au x w hs hk hc hg hx mO
  by_cases tp:∀i,i<n→i≠e→i≠e2→au.getD i ρ=τ
  ·exact kC (fuel+1) au x w hs hk hc hg hx mO tp
  ·have cN:¬∀i,i<n→au.getD i ρ=τ:=fun hc'=>tp fun i hi _ _=>hc' i hi
   obtain⟨i0,FG,CM⟩:=qm au hs cN
   refine⟨fun h0=>(by rw[h0] at CM;cases CM),fun i hi=>?_⟩
   obtain⟨h1,o,ho,aK⟩:=mem_ready.1 hi;have zI:i<ops.size:=(Jaa.1 ho).1;have Fe:i<au.size:=by omega
   have lh:i<n:=by
    rcases Nat.lt_or_ge i n with h|h
    ·exact h
    ·exfalso;refine tp fun j hj EF UK=>?_
     have h2:=FV ht h ho j hj EF UK;unfold fx at h2;obtain⟨e,he,rfl⟩:=Α.1 h2;obtain⟨LL,Mu⟩:=JaC.1 he;exact aK e (by simpa using LL) Mu
   have xH:(aP ops)[i]? =ζ o.dst:=by
    unfold aP;rw[Ψ,Array.getElem?_toList,ho];rfl
   have mh:∀v,(aC x (aP ops) 0 a0).put o.dst v=aC (mz x i v) (aP ops) 0 a0:=fun v=>
    j3 x i v (aP ops) 0 a0 o.dst (Nat.zero_le _) (by simpa using xH) (fun j e hj cu t ht he=>by
     rw[Nat.sub_zero] at cu;rw[ht] at xH;rw[he] at hj;exact cu (iQ hd hj xH))
   have rl:∀v w',Ext w w'→Γ i v w'→((au.setIfInBounds i τ).getD p ρ=τ→(au.setIfInBounds i τ).getD q ρ=τ→mz x i v p≠mz x i v q)→wpAny P md ops Q fuel (au.setIfInBounds i τ) (aC (mz x i v) (aP ops) 0 a0) w':=fun v w' hw hv hxz=>by
    refine ih _ _ _ (by simpa using hs) (fun k h1 h2=>?_) ?_ (hG _ _ hg hw) (fun j Px hj=>?_) hxz
    ·rw[Jbq ρ (by omega)];exact hk k h1 h2
    ·have vu:=j4 (fun j=>au.getD j ρ) (fun j=>(au.setIfInBounds i τ).getD j ρ) i (by simp[JaD,Fe] at h1 ⊢;exact h1) (by simp[JaD,Fe]) (fun j hj=>Jbq ρ (Ne.symm hj)) ops.size;rw[vu,if_pos zI];omega
    ·by_cases e:j=i
     ·subst e;simpa [mz] using hv
     ·rw[Jbq ρ (Ne.symm e)] at hj;rw[show mz x i v j=x j from if_neg e];exact hΓ _ _ _ _ (hx j Px hj) hw
   have hdp:∀j∈fx md o,Γ j (x j) w:=fun j hj=>by
    have rD:j<i:=by
     have h2:=Φ.1 (show(Ω ops.size).all _=τ from hr) i (by simp[zI]);rw[ho] at h2;simpa using Φ.1 h2 j hj
    unfold fx at hj;obtain⟨e,he,rfl⟩:=Α.1 hj;obtain⟨LL,Mu⟩:=JaC.1 he;exact hx _ (by omega) (aK e (by simpa using LL) Mu)
   unfold wpOp;simp only[ho]
   by_cases PF:i=p
   ·obtain⟨hw,Bd⟩:=hsp o (PF▸ho) x w hg hdp;simp only[hw,if_true];refine .inl (Bd.wp fun v w' lj hv=>?_);rw[mh];refine rl v w' lj (PF▸hv.1) (fun _ hq=>?_);rw[Jbq ρ (by rw[PF];exact xd.2.2.1)] at hq;rw[show mz x i v q=x q from if_neg (by rw[PF];exact xd.2.2.1.symm),show mz x i v p=v from if_pos PF.symm];exact(hv.2 _ (hx q xd.2.1 hq)).symm
   ·by_cases VT:i=q
    ·obtain⟨hw,Bd⟩:=hsq o (VT▸ho) x w hg hdp;simp only[hw,if_true];refine .inl (Bd.wp fun v w' lj hv=>?_);rw[mh];refine rl v w' lj (VT▸hv.1) (fun hq _=>?_);rw[Jbq ρ PF] at hq;rw[show mz x i v p=x p from if_neg (Ne.symm PF),show mz x i v q=v from if_pos VT.symm];exact hv.2 _ (hx p xd.1 hq)
    ·have Sm:∀v,(au.setIfInBounds i τ).getD p ρ=τ→(au.setIfInBounds i τ).getD q ρ=τ→mz x i v p≠mz x i v q:=fun v h1 h2=>by
      rw[Jbq ρ PF] at h1;rw[Jbq ρ VT] at h2;rw[show mz x i v p=x p from if_neg (Ne.symm PF),show mz x i v q=x q from if_neg (Ne.symm VT)];exact mO h1 h2
     rcases qf i lh PF VT o ho x w hg hdp with⟨hw,Bd⟩|⟨hw,hu⟩
     ·simp only[hw,if_true];exact .inl (Bd.wp fun v w' lj hv=>by rw[mh];exact rl v w' lj hv (Sm v))
     ·simp only[hw,Bool.false_eq_true,if_false];rw[mh];exact rl undef w (Ext.refl w) hu (Sm undef)
theorem xW {S:Nat→Prop} {a0:Act} {w:ο} {q:Nat} {oq:Oper} {l l':Array Bool} {f:Nat} {x:Nat→ψ} (hd:iy ops=τ) (hoq:ops[q]? =ζ oq) (ss:JbJ ops=τ)
 (za:JbP md ops l q=τ) (Zk:(Jaq md ops l).contains q=τ) (hQ:∀v c a w,Q (.panic c) (a.put oq.dst v) w→Q (.panic c) a w) (hl:l.setIfInBounds q τ=l')
 (h:∃v,du P ops S oq v (aC x (aP ops) 0 a0) w∧nW P md ops S Q f l' (aC (mz x q v) (aP ops) 0 a0) w):nW P md ops S Q (f+1) l (aC x (aP ops) 0 a0) w:=by
 obtain⟨v,hy,hK⟩:=h
 have xH:(aP ops)[q]? =ζ oq.dst:=by
  unfold aP;rw[Ψ,Array.getElem?_toList,hoq];rfl
 have mh:(aC x (aP ops) 0 a0).put oq.dst v=aC (mz x q v) (aP ops) 0 a0:=
  j3 x q v (aP ops) 0 a0 oq.dst (Nat.zero_le _) (by simpa using xH) (fun j e2 hj cu t ht he=>by
   rw[Nat.sub_zero] at cu;rw[ht] at xH;rw[he] at hj;exact cu (iQ hd hj xH))
 refine wZ q oq.dst hoq rfl ss za Zk hQ ⟨v,hy,?_⟩;rw[mh,hl];exact hK
theorem yJ (n e e2 p q f:Nat) (S:Nat→Prop) {id:Nat} {a0:Act} {w:ο} {oe oe2:Oper} (Γ:Nat→ψ→ο→Prop) (G:ο→Prop) (hm:P.follows .mixedOrders=τ)
 (hd:iy ops=τ) (hr:qH .any ops=τ) (hn:decide (n≤ops.size)=τ) (ht:O6 .any ops n e e2=τ) (Ka:ops[e]? =ζ oe) (aem:ops[e2]? =ζ oe2) (ss:JbJ ops=τ)
 (ph:JbP .any ops (kY n ops.size e e2 ρ ρ) e=τ∧(Jaq .any ops (kY n ops.size e e2 ρ ρ)).contains e=τ∧(kY n ops.size e e2 ρ ρ).setIfInBounds e τ=kY n ops.size e e2 τ ρ)
 (Ju:JbP .any ops (kY n ops.size e e2 τ ρ) e2=τ∧(Jaq .any ops (kY n ops.size e e2 τ ρ)).contains e2=τ∧(kY n ops.size e e2 τ ρ).setIfInBounds e2 τ=kY n ops.size e e2 τ τ)
 (SF:JbP .any ops (kY n ops.size e e2 ρ τ) e=τ∧(Jaq .any ops (kY n ops.size e e2 ρ τ)).contains e=τ∧(kY n ops.size e e2 ρ τ).setIfInBounds e τ=kY n ops.size e e2 τ τ)
 (Xq:(Ω ops.size).countP (fun j=>(kY n ops.size e e2 τ τ).getD j ρ)+f=ops.size∧(Ω ops.size).countP (fun j=>(kY n ops.size e e2 τ ρ).getD j ρ)+(f+1)=ops.size∧(Ω ops.size).countP (fun j=>(kY n ops.size e e2 ρ τ).getD j ρ)+(f+1)=ops.size∧(Ω ops.size).countP (fun j=>(kY n ops.size e e2 ρ ρ).getD j ρ)+(f+2)=ops.size)
 (xd:p<n∧q<n∧p≠q∧p≠e∧p≠e2∧q≠e∧q≠e2) (hQ:∀v c a w,Q (.panic c) (a.put oe.dst v) w→Q (.panic c) a w) (hQ2:∀v c a w,Q (.panic c) (a.put oe2.dst v) w→Q (.panic c) a w)
 (hΓ:∀i v w w',Γ i v w→Ext w w'→Γ i v w') (hG:∀w w',G w→Ext w w'→G w') (hg:G w.drew)
 (qf:∀i,i<n→i≠p→i≠q→sI P .any ops Γ G a0 i) (hsp:AI P .any ops Γ G a0 p q) (hsq:AI P .any ops Γ G a0 q p)
 (DG:∀x w,G w→(∀i,i<n→i≠e→i≠e2→Γ i (x i) w)→∃v,du P ops S oe v (aC x (aP ops) 0 a0) w∧Γ e v w)
 (XV:∀x w,G w→(∀i,i<n→i≠e→i≠e2→Γ i (x i) w)→∃v,du P ops S oe2 v (aC x (aP ops) 0 a0) w∧Γ e2 v w)
 (kE:∀x w,G w→(∀i,i<n→Γ i (x i) w)→x p≠x q→nW P .any ops S Q f (kY n ops.size e e2 τ τ) (aC x (aP ops) 0 a0) w):(Code.region id ops τ).wp P Q a0 w:=by
 obtain⟨x,hx⟩:=mx (aP ops) 0 a0
 have hz:∀k,(Jbe ops.size ρ).getD k ρ=ρ:=fun k=>by
  by_cases h:k<ops.size<;>simp[JaD,h]
 have VK:∀(x:Nat→ψ) (k:Nat) (v:ψ),(k=e∨k=e2)→x p≠x q→mz x k v p≠mz x k v q:=fun x k v hk mO=>by
  obtain⟨-,-,-,h1,h2,h3,h4⟩:=xd;rw[show mz x k v p=x p from if_neg (by omega),show mz x k v q=x q from if_neg (by omega)];exact mO
 have htf:∀x w,G w→(∀i,i<n→(i=e2→ρ=τ)→Γ i (x i) w)→x p≠x q→nW P .any ops S Q (f+1) (kY n ops.size e e2 τ ρ) (aC x (aP ops) 0 a0) w:=fun x w g1 g2 g3=>by
  obtain⟨v,hy,hv⟩:=XV x w g1 (fun i hi _ h2=>g2 i hi (fun q=>absurd q h2));refine xW hd aem ss Ju.1 Ju.2.1 hQ2 Ju.2.2 ⟨v,hy,kE _ w g1 (fun i hi=>?_) (VK x e2 v (.inr rfl) g3)⟩
  by_cases q:i=e2
  ·subst q;simpa [mz] using hv
  ·rw[show mz x e2 v i=x i from if_neg q];exact g2 i hi (fun k=>absurd k q)
 have h:=Jw (P:=P) (Q:=Q) (md:=.any) n e e2 p q S Γ G a0 hΓ hG hd hr (of_decide_eq_true hn) ht xd qf hsp hsq (fun a b x w f' g1 g2 g3 hc=>by
  cases a with
  |true=>cases b with
   |true=>
    obtain rfl:f'=f:=by omega
    exact kE x w g1 (fun i hi=>g2 i hi (fun _=>rfl) (fun _=>rfl)) g3
   |false=>
    obtain rfl:f'=f+1:=by omega
    exact htf x w g1 (fun i hi k=>g2 i hi (fun _=>rfl) k) g3
  |false=>
   obtain⟨v,hy,hv⟩:=DG x w g1 (fun i hi h1 h2=>g2 i hi (fun q=>absurd q h1) (fun q=>absurd q h2))
   have uN:∀i,i<n→(i=e2→b=τ)→Γ i (mz x e v i) w:=fun i hi k=>by
    by_cases q:i=e
    ·subst q;simpa [mz] using hv
    ·rw[show mz x e v i=x i from if_neg q];exact g2 i hi (fun k=>absurd k q) k
   cases b with
   |true=>
    obtain rfl:f'=f+1:=by omega
    exact xW hd Ka ss SF.1 SF.2.1 hQ SF.2.2 ⟨v,hy,kE _ w g1 (fun i hi=>uN i hi (fun _=>rfl)) (VK x e v (.inl rfl) g3)⟩
   |false=>
    obtain rfl:f'=f+2:=by omega
    exact xW hd Ka ss ph.1 ph.2.1 hQ ph.2.2 ⟨v,hy,htf _ w g1 uN (VK x e v (.inl rfl) g3)⟩) ops.size (Jbe ops.size ρ) x w.drew (by simp) (fun k _ _=>hz k) (by
  have:(Ω ops.size).countP (fun j=>(Jbe ops.size ρ).getD j ρ)=0:=by
   rw[List.countP_eq_zero];intro j hj;rw[hz j];simp
  omega) hg (fun i _ hi=>by rw[hz i] at hi;cases hi) (fun hi=>by rw[hz p] at hi;cases hi)
 rw[hx] at h;exact wp_region_any hm h
end
end Go.Proofs.YtpdpbfmiahjiiaaGreat
