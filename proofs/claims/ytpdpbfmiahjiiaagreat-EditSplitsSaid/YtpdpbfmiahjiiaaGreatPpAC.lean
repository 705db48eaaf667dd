/- Several texts in one. -/
import Derived.Test.YtpdpbfmiahjiiaaGreatPpAA
import Derived.Test.YtpdpbfmiahjiiaaGreatPpAB
import Derived.Laws.ResultCell
import Derived.WalkMore
import Derived.Shelf.Spec.SlicesInsert
import Derived.Shelf.Spec.SlicesInsertGrow
set_option linter.unusedSectionVars false
set_option linter.unusedSimpArgs false
set_option linter.unusedVariables false
set_option maxRecDepth 100000
set_option maxHeartbeats 16000000
namespace Go.Proofs.YtpdpbfmiahjiiaaGreat
open Go.RowKit
open _root_.Go.Value renaming slice→γ,string→μ,agg→φ,bool→Β,tuple→Ξ,slice→Ο,oneCell'→Τ,agg→JbL
open _root_.Go.Obj renaming cells→δ
open _root_.Option renaming none→ε,some→ζ
open _root_.Go.Proofs.Tryz renaming prog→η
open _root_.List renaming getElem?_eq_getElem→θ,getElem?_eq_some_iff→ν,getD_eq_getElem?_getD→χ,length_append→Ε,take_of_length_le→Ι,getElem?_append_left→Jab,drop_of_length_le→Jak,append_assoc→Jay,length_drop→Jaz,length_take→JaA,eq_nil_of_length_eq_zero→JaB,nil_append→JaF,drop_append→JaR,getElem?_drop→JaS,append_nil→Jbi,take_append→Jbt,mem_of_mem_drop→JbC,take_zero→JbQ
open _root_.Go.Act renaming put→ξ
open _root_.Go renaming World→ο,Value→ψ,Calls→Ζ,Addr→Κ,TypeId→Υ,maxLen→Jap,bodyPost_ret→JaN
open _root_.Bool renaming false→ρ,true→τ
open _root_.Go.RowKit renaming Below→σ
open _root_.Nat renaming le_refl→Δ,le_trans→Λ,add_zero→Jac,zero_le→Jas,zero_add→JaI,lt_of_lt_of_le→JaK,lt_or_ge→JaM,sub_self→JaP,mod_eq_of_lt→JbE,min_def→JbR
open _root_.Go.RowKit.Below renaming refl→Θ
open _root_.Go.Addr renaming add_lit→Ν
open _root_.Go.IntKind renaming i64→Jaw,wrap_i64→JaT
open _root_.Go.Builtin renaming zeroCells→JaO,copy_→Jbr
open _root_.Go.Departure renaming mixedOrders→JbG
open _root_.Go.Lib renaming run_eql_slice_nil→JbH
theorem oJ:(η.info? 32).map (fun i=>(i.zero,i.size,i.bytes))=ζ (ζ (φ #[J 0,J 0,J 0]),3,24):=by kernel_rfl
theorem Qm (A:Option Κ) (n c:Nat) (xs:List ψ) (w:ο) (h:aX w w.heap.size 5 A n c xs) (h1:∀u∈xs,u.oneCell'=τ) (hn:n≤1000000):
 Ζ η 104 #[γ A n c] w fun e w'=>∃A' c',e=.returned (γ A' n c')∧Ow w w.heap.size 59 5 (γ A' n c') n xs w':=by
 obtain⟨i0,hi,oX,jL,kd⟩:=aW hU;cases A with
 |none=>
  obtain⟨rfl,rfl⟩:=h.none_ rfl;have lf:xs=[]:=JaB (by simpa using h.len);subst lf;have lf:∀w',(binOp .eql 22 (γ ε 0 0) (γ ε 0 0)).run η w'=.ok (Β τ) w':=fun w'=>JbH w' _ _ _ _ _ _ _ Tryz.underlying22
  clear h h1;go_enter Tryz.func104,Tryz.ntmps104;go_wp2;go_ret;exact⟨_,_,rfl,Ow.nil_ (Θ _ _) (Δ _) (Δ _)⟩
 |some a=>
  have H:=qh (h.al (δ #[] 59));have HO:Hid (Ow w w.heap.size 59 5 (γ (ζ ⟨w.heap.size,0,ε⟩) 0 0) 0 [] (w.alloc (δ #[] 59))):=qh (Ow.new_ (cs:=#[]) (Θ _ _) (Δ _) (Δ _) (Jas _) rfl);have lf:∀w',(binOp .eql 22 (γ (ζ a) n c) (γ ε 0 0)).run η w'=.ok (Β ρ) w':=fun w'=>JbH w' _ _ _ _ _ _ _ Tryz.underlying22
  clear h;go_enter Tryz.func104,Tryz.ntmps104
  go_wp2_with (first
   |(at_builtin
     refine en rfl (.tmp 5) (.tmp 6) _ rfl _ 59 i0 _ 5 64 Tryz.underlying22 hi oX jL kd rfl (by decide) _ _ _ rfl (by exact HO.out) _ (ζ a) n c xs rfl (by exact H.out) h1 (by unfold Jap;omega) (by omega) ?_;intro v1 w1 fg e8 UD;rw[JaI,JaF] at fg;obtain⟨Aq,cq,rfl,-⟩:=fg.rds;have mX:=qh fg;clear fg e8 UD))
  go_ret;exact⟨_,_,rfl,mX.out⟩
theorem Qd (A:Option Κ) (n c:Nat) (xs:List ψ) (w:ο) (h:aX w w.heap.size 4 A n c xs) (h1:∀u∈xs,u.oneCell'=τ) (hn:n≤1000000):
 Ζ η 105 #[γ A n c] w fun e w'=>∃A' c',e=.returned (γ A' n c')∧Ow w w.heap.size 67 4 (γ A' n c') n xs w':=by
 obtain⟨i0,hi,oX,jL,kd⟩:=aW jQ;cases A with
 |none=>
  obtain⟨rfl,rfl⟩:=h.none_ rfl;have lf:xs=[]:=JaB (by simpa using h.len);subst lf;have lf:∀w',(binOp .eql 23 (γ ε 0 0) (γ ε 0 0)).run η w'=.ok (Β τ) w':=fun w'=>JbH w' _ _ _ _ _ _ _ Tryz.underlying23
  clear h h1;go_enter Tryz.func105,Tryz.ntmps105;go_wp2;go_ret;exact⟨_,_,rfl,Ow.nil_ (Θ _ _) (Δ _) (Δ _)⟩
 |some a=>
  have H:=qh (h.al (δ #[] 67));have HO:Hid (Ow w w.heap.size 67 4 (γ (ζ ⟨w.heap.size,0,ε⟩) 0 0) 0 [] (w.alloc (δ #[] 67))):=qh (Ow.new_ (cs:=#[]) (Θ _ _) (Δ _) (Δ _) (Jas _) rfl);have lf:∀w',(binOp .eql 23 (γ (ζ a) n c) (γ ε 0 0)).run η w'=.ok (Β ρ) w':=fun w'=>JbH w' _ _ _ _ _ _ _ Tryz.underlying23
  clear h;go_enter Tryz.func105,Tryz.ntmps105
  go_wp2_with (first
   |(at_builtin
     refine en rfl (.tmp 5) (.tmp 6) _ rfl _ 67 i0 _ 4 40 Tryz.underlying23 hi oX jL kd rfl (by decide) _ _ _ rfl (by exact HO.out) _ (ζ a) n c xs rfl (by exact H.out) h1 (by unfold Jap;omega) (by omega) ?_;intro v1 w1 fg e8 UD;rw[JaI,JaF] at fg;obtain⟨Aq,cq,rfl,-⟩:=fg.rds;have mX:=qh fg;clear fg e8 UD))
  go_ret;exact⟨_,_,rfl,mX.out⟩
theorem Qf (A:Option Κ) (n c:Nat) (xs:List ψ) (w:ο) (h:aX w w.heap.size 3 A n c xs) (h1:∀u∈xs,u.oneCell'=τ) (hn:n≤1000000):
 Ζ η 132 #[γ A n c] w fun e w'=>∃A' c',e=.returned (γ A' n c')∧Ow w w.heap.size 32 3 (γ A' n c') n xs w':=by
 obtain⟨i0,hi,oX,jL,kd⟩:=aW oJ;cases A with
 |none=>
  obtain⟨rfl,rfl⟩:=h.none_ rfl;have lf:xs=[]:=JaB (by simpa using h.len);subst lf;have lf:∀w',(binOp .eql 57 (γ ε 0 0) (γ ε 0 0)).run η w'=.ok (Β τ) w':=fun w'=>JbH w' _ _ _ _ _ _ _ Tryz.underlying57
  clear h h1;go_enter Tryz.func132,Tryz.ntmps132;go_wp2;go_ret;exact⟨_,_,rfl,Ow.nil_ (Θ _ _) (Δ _) (Δ _)⟩
 |some a=>
  have H:=qh (h.al (δ #[] 32));have HO:Hid (Ow w w.heap.size 32 3 (γ (ζ ⟨w.heap.size,0,ε⟩) 0 0) 0 [] (w.alloc (δ #[] 32))):=qh (Ow.new_ (cs:=#[]) (Θ _ _) (Δ _) (Δ _) (Jas _) rfl);have lf:∀w',(binOp .eql 57 (γ (ζ a) n c) (γ ε 0 0)).run η w'=.ok (Β ρ) w':=fun w'=>JbH w' _ _ _ _ _ _ _ Tryz.underlying57
  clear h;go_enter Tryz.func132,Tryz.ntmps132
  go_wp2_with (first
   |(at_builtin
     refine en rfl (.tmp 5) (.tmp 6) _ rfl _ 32 i0 _ 3 24 Tryz.underlying57 hi oX jL kd rfl (by decide) _ _ _ rfl (by exact HO.out) _ (ζ a) n c xs rfl (by exact H.out) h1 (by unfold Jap;omega) (by omega) ?_;intro v1 w1 fg e8 UD;rw[JaI,JaF] at fg;obtain⟨Aq,cq,rfl,-⟩:=fg.rds;have mX:=qh fg;clear fg e8 UD))
  go_ret;exact⟨_,_,rfl,mX.out⟩
theorem wz {w:ο} {B B' n:Nat} {e:Υ} {size:Nat} {v:ψ} {xs:List ψ} (h:w.ownsRow B e size v n xs) (hB:B'≤B):w.ownsRow B' e size v n xs:=by
 refine⟨h.1,?_⟩
 rcases h.2 with h|⟨g,cap,cur,h1,h2,h3⟩
 ·exact .inl h
 ·exact .inr ⟨g,cap,cur,h1,Λ hB h2,h3⟩
theorem Cx (l:List D):∀u∈aA l,u.oneCell'=τ:=by
 rw[mC];exact qD dC (by simp[dC,Τ]) l
theorem T7 (v:VC) (w:ο) (h:RgOk w v.2.1) (hn:v.2.1.2.1≤1000000):
 Ζ η 106 #[φ (vC v).toArray] w fun e w'=>∃A' c',e=.returned (φ (vC (v.1,(A',v.2.1.2.1,c',v.2.1.2.2.2),v.2.2)).toArray)∧Ow w w.heap.size 32 3 (γ A' v.2.1.2.1 c') v.2.1.2.1 (aA v.2.1.2.2.2) w':=by
 obtain⟨⟨i1,i2⟩,⟨rA,rn,rc,rL⟩,lb,at_⟩:=v;have hr:aX w w.heap.size 3 rA rn rc (aA rL):=h.2;replace hn:rn≤1000000:=hn;show Ζ η 106 #[φ #[J i1,J i2,γ rA rn rc,μ lb,J at_]] w fun e w'=>∃A' c',e=.returned (φ #[J i1,J i2,γ A' rn c',μ lb,J at_])∧Ow w w.heap.size 32 3 (γ A' rn c') rn (aA rL) w'
 have hz:η.info? 59=η.info? 59:=rfl;have HR:=qh ((hr.al (δ #[J i1,J i2,γ rA rn rc,μ lb,J at_] 59)).al (δ #[J 0,J 0,γ ε 0 0,μ {data:=#[]},J 0] 59));have HW:=qh ((Whole.new_ w 59 [J i1,J i2,γ rA rn rc,μ lb,J at_]).alloc (δ #[J 0,J 0,γ ε 0 0,μ {data:=#[]},J 0] 59));have HY:Hid (Whole _ (w.heap.size+1) 59 [J 0,J 0,γ ε 0 0,μ {data:=#[]},J 0]):=qh (Whole.new2 (w:=w.alloc (δ #[J i1,J i2,γ rA rn rc,μ lb,J at_] 59)) (by simp));have HB:=qh (cG w (δ #[J i1,J i2,γ rA rn rc,μ lb,J at_] 59) (δ #[J 0,J 0,γ ε 0 0,μ {data:=#[]},J 0] 59));clear h hr hz;go_enter Tryz.func106,Tryz.ntmps106;go_wp2_with fail
 refine(Qf rA rn rc (aA rL) _ HR.out (Cx rL) hn).mono ?_
 rintro e w3 ⟨A',c',rfl,ho⟩;have mo:w.heap.size+1<((w.alloc (δ #[J i1,J i2,γ rA rn rc,μ lb,J at_] 59)).alloc (δ #[J 0,J 0,γ ε 0 0,μ {data:=#[]},J 0] 59)).heap.size:=by simp
 have PC:=ho.low_ne (g:=w.heap.size) (by omega);have vN:=ho.low_ne (g:=w.heap.size+1) mo;have hx:=HW.out.below ho.below;have hy:=HY.out.below ho.below;have hO:Ow w w.heap.size 32 3 (γ A' rn c') rn (aA rL) w3:=⟨wz ho.own (by omega),HB.out.trans (ho.below.mono HB.out.size),Δ _,Λ (by omega) ho.hi⟩;have ph:=((((((hO.set_far (i:=2) PC (Δ _) (γ A' rn c')).set_far (i:=0) vN (by omega) (J i1)).set_far (i:=1) vN (by omega) (J i2)).set_far (i:=2) vN (by omega) (γ A' rn c')).set_far (i:=3) vN (by omega) (μ lb)).set_far (i:=4) vN (by omega) (J at_));have Ju:=(((((hy.set_far' (i:=2) (h:=w.heap.size) (by omega) (γ A' rn c')).set_ 0 (J i1)).set_ 1 (J i2)).set_ 2 (γ A' rn c')).set_ 3 (μ lb)).set_ 4 (J at_);have Yk:=qh ph;have HF2:=qh Ju;have x0:=hx.cell (i:=0) rfl;have x1:=hx.cell (i:=1) rfl;have x2:=hx.cell (i:=2) rfl;have x3:=hx.cell (i:=3) rfl;have x4:=hx.cell (i:=4) rfl;have f2:=hx.free 2;have y0:=hy.cell (i:=0) rfl;have y1:=hy.cell (i:=1) rfl;have y2:=hy.cell (i:=2) rfl;have y3:=hy.cell (i:=3) rfl;have y4:=hy.cell (i:=4) rfl;have e0:=hy.free 0;have e1:=hy.free 1;have e2:=hy.free 2;have e3:=hy.free 3;have e4:=hy.free 4;clear ho hx hy hO ph Ju PC vN mo HW HY HB HR;go_wp2;exact bS rfl (w.heap.size+1) rfl HF2.out Tryz.underlying59 rfl (by kernel_rfl) rfl ⟨A',c',rfl,Yk.out⟩
def idC (x:Int × Int):List ψ:=[J x.1,J x.2]
theorem aG {P:Program} {fn:Func} {R:Ending→ο→Prop} {a:Act} {w:ο} {p u:Tmp} {t:Υ} (h:fn.results=#[.cell p t,.tmp u]) (g:Nat) {t':Υ} {cs:List ψ} {d:TypeDesc} {v:ψ}
 (hp:a.tmps.getD p undef=.pointer (ζ ⟨g,0,ε⟩)) (hv:a.tmps.getD u undef=v) (hW:Whole w g t' cs) (hu:P.underlying t=ζ d) (hd:d.isRow=τ) (hi:(P.info? t).map (·.size)=ζ cs.length)
 (RD:a.defers=[]) (hR:R (.returned (Ξ #[φ cs.toArray,v])) w):bodyPost P fn R .ret a w:=by
 refine JaN (v:=Ξ #[φ cs.toArray,v]) ?_ RD hR
 have hl:=run_loadVar_mid (P:=P) w g 0 t cs d (fun j v hv=>by
  have:=hW.cell hv
  simpa using this) hu hd hi
 rw[results_cell_tmp h,hp,hv];simp[asAddr,Result.andThen,hl]
def kj (Vs:List VC) (x:D):(Int × Int) × Bool:=match Vs.find? (fun v=>decide (x∈v.2.1.2.2.2)) with|some v=>(v.1,τ)|none=>((0,0),ρ)
theorem G6 (v:VC) (r:List VC) (x:D) (h:x∈v.2.1.2.2.2):kj (v::r) x=(v.1,τ):=by simp[kj,h]
theorem Oc (v:VC) (r:List VC) (x:D) (h:¬x∈v.2.1.2.2.2):kj (v::r) x=kj r x:=by simp[kj,h]
def Jp {α:Type} (nm:α→Int × Int) (z:α) (L:List α) (x:Int × Int):α × Bool:=match L.find? (fun v=>decide (nm v=x)) with|some v=>(v,τ)|none=>(z,ρ)
theorem wB {α:Type} (nm:α→Int × Int) (z v:α) (r:List α) (x:Int × Int) (h:nm v=x):Jp nm z (v::r) x=(v,τ):=by simp[Jp,h]
theorem BX {α:Type} (nm:α→Int × Int) (z v:α) (r:List α) (x:Int × Int) (h:¬nm v=x):Jp nm z (v::r) x=Jp nm z r x:=by simp[Jp,h]
def zV:VC:=((0,0),(ε,0,0,[]),⟨#[]⟩,0)
def zE:EC:=((0,0),⟨#[]⟩,0)
def bu (L:List VC) (x:Int × Int):=Jp (fun v:VC=>v.1) zV L x
def iw (L:List EC) (x:Int × Int):=Jp (fun v:EC=>v.1) zE L x
theorem gM {α:Type} (nm:α→Int × Int) (z:α) (L:List α) (x:Int × Int):(Jp nm z L x).1∈L∨Jp nm z L x=(z,ρ):=by
 unfold Jp;split
 ·rename_i v h;exact .inl (List.mem_of_find?_eq_some h)
 ·exact .inr rfl
theorem JW {w:ο} {A B:Option Κ} {n c m k:Nat} {Vs:List VC} {Es:List EC} (h:aR w A n c Vs B m k Es) (hr:∀x∈Vs,x.2.1.2.1≤1000000) (x:Int × Int):
 RgOk w (bu Vs x).1.2.1∧(bu Vs x).1.2.1.2.1≤1000000:=by
 rcases gM (fun v:VC=>v.1) zV Vs x with hm|he
 ·exact⟨h.r _ hm,hr _ hm⟩
 ·have e:bu Vs x=(zV,ρ):=he;rw[e];exact⟨⟨Jas _,aX.no _ _ _⟩,by decide⟩
def vS (v:VC):(Int × Int) × List D × ByteArray × Int:=(v.1,v.2.1.2.2.2,v.2.2.1,v.2.2.2)
theorem bytes_inj {t t':ByteArray} (h:t.toList=t'.toList):t=t':=by
 rw[ByteArray.toList_eq,ByteArray.toList_eq] at h;exact ByteArray.ext (Array.toList_inj.1 h)
theorem Ad (s t:ByteArray):s.toList=t.toList↔s=t:=⟨bytes_inj,fun h=>by rw[h]⟩
theorem bytes_beq (s t:ByteArray):(s.toList==t.toList)=decide (s=t):=by
 rw[Bool.eq_iff_iff];simp[Ad]
theorem QG (a b:EC) (W:ο):(binOp .neq 67 (φ (eC a).toArray) (φ (eC b).toArray)).run η W=.ok (Β (!decide (a=b))) W:=by
 obtain⟨⟨a1,a2⟩,a3,a4⟩:=a;obtain⟨⟨b1,b2⟩,b3,b4⟩:=b
 by_cases h1:a1=b1<;>by_cases h2:a2=b2<;>by_cases h3:a3=b3<;>by_cases h4:a4=b4<;>simp[go_sem,eC,Ad,h1,h2,h3,h4]
theorem D8 {w W:ο} {bb o:Nat} {cs:List ψ} (hb:σ w.heap.size w W) (hB:bb<w.heap.size) (h:∀j v,cs[j]? =ζ v→w.cell? (Addr.add ⟨bb,o,ε⟩ j)=ζ v):
 ∀w',Kept aF W w'→∀j v,cs[j]? =ζ v→w'.cell? (Addr.add ⟨bb,o,ε⟩ j)=ζ v:=fun w' hk j v hv=>hk.nil_cell ((hb.cell (by rw[cJ];exact hB)).trans (h j v hv))
abbrev Gn:=D × D
def cB (g:Gn):List ψ:=[J g.1.1,J g.1.2.1,J g.1.2.2,J g.2.1,J g.2.2.1,J g.2.2.2]
theorem cw (g:Gn):(cB g).length=6:=rfl
theorem j9 (g:Gn):∀v∈cB g,v.oneCell'=τ:=by simp[cB,Τ]
def zD:D:=(0,0,0)
def iC:List Gn→D→D × Bool
 |[],_=>(zD,ρ)
 |g::G,d=>if g.1=d then(g.2,τ) else iC G d
def ml (st:D→Bool) (G:List Gn):Nat→D→D
 |0,d=>if st d=τ then d else zD
 |k+1,d=>if st d=τ then d else if (iC G d).2=τ then ml st G k (iC G d).1 else zD
theorem Ku (st:D→Bool) (G:List Gn) (n:Nat) {d:D} (h:st d=τ):ml st G n d=d:=by
 cases n<;>simp only[ml,if_pos h]
theorem Kq (st:D→Bool) (G:List Gn) (n:Nat) {d:D} (h:¬st d=τ) (ht:(iC G d).2=τ):ml st G (n+1) d=ml st G n (iC G d).1:=by
 simp only[ml,if_neg h,if_pos ht]
theorem KE (st:D→Bool) (G:List Gn) (n:Nat) {d:D} (h:¬st d=τ) (ht:¬(iC G d).2=τ):ml st G n d=zD:=by
 cases n with
 |zero=>simp only[ml,if_neg h]
 |succ n=>simp only[ml,if_neg h,if_neg ht]
theorem Pf (st:D→Bool) (G:List Gn) {d:D} (h:¬st d=τ):ml st G 0 d=zD:=by simp only[ml,if_neg h]
def Hh (Vs:List VC) (x:D):Bool:=(kj Vs x).2
theorem cz {α:Type} (f:α→List ψ) (h:∀x,∀u∈f x,u.oneCell'=τ):∀L,∀u∈aj f L,u.oneCell'=τ
 |[],u,hu=>by cases hu
 |x::L,u,hu=>by
  rcases List.mem_append.1 (show u∈f x++aj f L from hu) with q|q
  ·exact h x u q
  ·exact cz f h L u q
theorem nz:(η.info? 98).map (fun i=>(i.zero,i.size,i.bytes))=ζ (ζ (φ #[J 0,J 0,J 0,J 0,J 0,J 0]),6,48):=by kernel_rfl
theorem FM {α:Type} (f:α→List ψ) (x:α):aj f [x]=f x:=by simp[aj]
def cU (y x:Gn):Int:=mS y.1.1 y.1.2.1 y.1.2.2 x.1.1 x.1.2.1 x.1.2.2
theorem x9 (x:Gn) (d1 d2 d3:Int) (w:ο):Ζ η 166 #[φ #[J x.1.1,J x.1.2.1,J x.1.2.2,J x.2.1,J x.2.2.1,J x.2.2.2],φ #[J d1,J d2,J d3]] w fun e w'=>e=.returned (J (mS x.1.1 x.1.2.1 x.1.2.2 d1 d2 d3))∧σ w.heap.size w w':=by
 have HO:=qh (rj x.1.1 x.1.2.1 x.1.2.2 d1 d2 d3);go_enter Tryz.func166,Tryz.ntmps166
 go_wp2_with (first
  |(go_at_call 167
    refine(HO.out _).mono ?_
    rintro e w2 ⟨rfl,hb⟩;have HB:=qh (af (aE (ax w (δ #[J x.1.1,J x.1.2.1,J x.1.2.2,J x.2.1,J x.2.2.1,J x.2.2.2] 98)) (δ #[J d1,J d2,J d3] 32)) hb);clear hb))
 go_ret;exact⟨rfl,HB.out⟩
theorem DE (A:Option Κ) (n c:Nat) (G:List Gn) (d1 d2 d3:Int) (w:ο) (h:aX w w.heap.size 6 A n c (aj cB G)) (hn:n≤1000000) (cf:Nat→Int) (IY:∀t x,G[t]? =ζ x→mS x.1.1 x.1.2.1 x.1.2.2 d1 d2 d3=cf t) (kK:∀a b,a≤b→b<n→cf b<0→cf a<0):
 Ζ η 165 #[γ A n c,φ #[J d1,J d2,J d3],.func (.func 166) #[] #[]] w fun e w'=>∃i:Nat,i≤n∧(∀t,t<i→cf t<0)∧(∀t,i≤t→t<n→0≤cf t)∧e=.returned (Ξ #[J (i:Int),Β (decide (i<n) && decide (cf i=0))])∧σ w.heap.size w w':=by
 have H:=qh h;have Hl:=qh (h.rlen cw (by decide));have HM:=qh kK;have he:QI 166:=rN Tryz.func166 (by kernel_rfl) rfl;clear h kK;go_enter Tryz.func165,Tryz.ntmps165;go_wp2;have kM:=Whole.new_ w 32 [J d1,J d2,J d3];have qL:=ax w (δ #[J d1,J d2,J d3] 32);obtain⟨W0,bP⟩:=ay (w.alloc (δ #[J d1,J d2,J d3] 32));replace kM:Whole W0 w.heap.size 32 [J d1,J d2,J d3]:=bP▸kM;rw[bP] at qL ⊢;obtain⟨b0,bK⟩:=ay w.heap.size;rw[bK] at kM ⊢;have aN:=qh kM;have a8:=qh qL;clear bP bK kM qL;go_loopw [9,10] (fun s9 OK wr=>∃lo hi:Nat,s9=J lo∧OK=J hi∧lo≤hi∧hi≤n∧Hid (Whole wr b0 32 [J d1,J d2,J d3])∧Hid (σ w.heap.size w wr)∧Hid ((∀t,t<lo→cf t<0)∧(∀t,hi≤t→t<n→0≤cf t))) (fun s9 OK _=>(intOf OK).toNat - (intOf s9).toNat)
 case atStart=>exact⟨0,n,rfl,rfl,Jas _,Δ _,aN,a8,qh ⟨fun t ht=>absurd ht (Nat.not_lt_zero _),fun t h1 h2=>by omega⟩⟩
 case round=>
  clear aN a8;obtain⟨lo,hi,rfl,rfl,hlh,lh,HX,HB,HI⟩:=hrel;obtain⟨wo,ec⟩:=ay wr;rw[ec] at HX HB ⊢;clear ec
  by_cases fh:lo<hi
  ·obtain⟨m,gm⟩:=ay ((lo+hi) / 2);have ZU:lo≤m:=by omega
   have Sx:m<hi:=by omega
   have hmn:m<n:=by omega
   have e1:((lo:Int)+(hi:Int)) / 2=(m:Int):=by omega
   obtain⟨x,hx⟩:∃x,G[m]? =ζ x:=⟨_,θ (by have:=Hl.out;omega)⟩
   obtain⟨b,off,rfl,bD,bM⟩:=H.out.place cw (by decide) (by omega);have cR:=HB.out;have q0:=bM m _ hx 0 _ rfl;have q1:=bM m _ hx 1 _ rfl;have q2:=bM m _ hx 2 _ rfl;have q3:=bM m _ hx 3 _ rfl;have q4:=bM m _ hx 4 _ rfl;have q5:=bM m _ hx 5 _ rfl;simp only[Ν,Jac] at q0 q1 q2 q3 q4 q5;have l0:=(cR.cell (p:=⟨b,off+m*6,ε⟩) bD).trans q0;have l1:=(cR.cell (p:=⟨b,off+m*6+1,ε⟩) bD).trans q1;have l2:=(cR.cell (p:=⟨b,off+m*6+2,ε⟩) bD).trans q2;have l3:=(cR.cell (p:=⟨b,off+m*6+3,ε⟩) bD).trans q3;have l4:=(cR.cell (p:=⟨b,off+m*6+4,ε⟩) bD).trans q4;have l5:=(cR.cell (p:=⟨b,off+m*6+5,ε⟩) bD).trans q5;have yi:=IY m x hx;obtain⟨ov,uh⟩:=ay (mS x.1.1 x.1.2.1 x.1.2.2 d1 d2 d3);rw[uh] at yi;have uX:=x9 x d1 d2 d3;rw[uh] at uX;have HC:Hid (∀w',Ζ η 166 #[φ #[J x.1.1,J x.1.2.1,J x.1.2.2,J x.2.1,J x.2.2.1,J x.2.2.2],φ #[J d1,J d2,J d3]] w' fun e cT=>e=.returned (J ov)∧σ w'.heap.size w' cT):=qh uX;have As:Hid (ov=cf m):=qh yi;clear hx bM bD cR q0 q1 q2 q3 q4 q5 yi uh uX;go_upto_region 5 with fail
   have fv:=bW l0;have ld1:=bW l1;have kO:=bW l2;have pt:=bW l3;have sU:=bW l4;have Cj:=bW l5;have qC:=dm (i:=0) HX.out rfl;have qw:=dm (i:=1) HX.out rfl;have Pq:=dm (i:=2) HX.out rfl;clear l0 l1 l2 l3 l4 l5
   by_cases pK:ov<0
   ·have hq:decide (ov<0)=τ:=decide_eq_true pK;have wA:Hid ((∀t,t<m+1→cf t<0)∧(∀t,hi≤t→t<n→0≤cf t)):=qh ⟨fun t ht=>HM.out t m (by omega) (by omega) (by rw[←As.out];exact pK),HI.out.2⟩;clear pK HI As;refine aw (aF) (by kernel_rfl) ?_;refine ag 0 ?_;refine ag 1 ?_;refine ag 2 ?_;refine ag 3 ?_;refine ag 4 ?_;refine ag 5 ?_;refine bY 6 (hy:=by apply ck;rfl;rotate_left;intro w' aB;exact HC.out w';intro w';go_simp) (h:=?_);refine ag 7 ?_;refine aD (by kernel_rfl) ?_ _;intro W3 fu;have cI:=qh (af (aL HB.out) fu);have dp:=qh (HX.out.dr.bl fu);clear fu HB HX fv ld1 kO pt sU Cj qC qw Pq HC;go_wp2;go_roundw
    case rel=>exact⟨m+1,hi,by go_num,rfl,by omega,lh,dp,cI,wA⟩
    case measure=>simp[intOf];omega
   ·have hq:decide (ov<0)=ρ:=decide_eq_false pK;have wA:Hid ((∀t,t<lo→cf t<0)∧(∀t,m≤t→t<n→0≤cf t)):=qh ⟨HI.out.1,fun t ht Ma=>Int.not_lt.1 fun h=>by have:=HM.out m t ht Ma h;rw[←As.out] at this;omega⟩;clear pK HI As;refine aw (aF) (by kernel_rfl) ?_;refine ag 0 ?_;refine ag 1 ?_;refine ag 2 ?_;refine ag 3 ?_;refine ag 4 ?_;refine ag 5 ?_;refine bY 6 (hy:=by apply ck;rfl;rotate_left;intro w' aB;exact HC.out w';intro w';go_simp) (h:=?_);refine ag 7 ?_;refine aD (by kernel_rfl) ?_ _;intro W3 fu;have cI:=qh (af (aL HB.out) fu);have dp:=qh (HX.out.dr.bl fu);clear fu HB HX fv ld1 kO pt sU Cj qC qw Pq HC;go_wp2;go_roundw
    case rel=>exact⟨lo,m,rfl,by first|rfl|go_num,by omega,by omega,dp,cI,wA⟩
    case measure=>simp[intOf];omega
  ·obtain rfl:hi=lo:=by omega
   by_cases vN:hi<n
   ·have e2:(hi:Int)<(n:Int):=by omega
    have e3:¬(hi:Int)<(hi:Int):=by omega
    obtain⟨x,hx⟩:∃x,G[hi]? =ζ x:=⟨_,θ (by have:=Hl.out;omega)⟩
    obtain⟨b,off,rfl,bD,bM⟩:=H.out.place cw (by decide) (by omega);have cR:=HB.out;have q0:=bM hi _ hx 0 _ rfl;have q1:=bM hi _ hx 1 _ rfl;have q2:=bM hi _ hx 2 _ rfl;have q3:=bM hi _ hx 3 _ rfl;have q4:=bM hi _ hx 4 _ rfl;have q5:=bM hi _ hx 5 _ rfl;simp only[Ν,Jac] at q0 q1 q2 q3 q4 q5;have l0:=(cR.cell (p:=⟨b,off+hi*6,ε⟩) bD).trans q0;have l1:=(cR.cell (p:=⟨b,off+hi*6+1,ε⟩) bD).trans q1;have l2:=(cR.cell (p:=⟨b,off+hi*6+2,ε⟩) bD).trans q2;have l3:=(cR.cell (p:=⟨b,off+hi*6+3,ε⟩) bD).trans q3;have l4:=(cR.cell (p:=⟨b,off+hi*6+4,ε⟩) bD).trans q4;have l5:=(cR.cell (p:=⟨b,off+hi*6+5,ε⟩) bD).trans q5;have yi:=IY hi x hx;obtain⟨ov,uh⟩:=ay (mS x.1.1 x.1.2.1 x.1.2.2 d1 d2 d3);rw[uh] at yi;have uX:=x9 x d1 d2 d3;rw[uh] at uX;have HC:Hid (∀w',Ζ η 166 #[φ #[J x.1.1,J x.1.2.1,J x.1.2.2,J x.2.1,J x.2.2.1,J x.2.2.2],φ #[J d1,J d2,J d3]] w' fun e cT=>e=.returned (J ov)∧σ w'.heap.size w' cT):=qh uX;have As:Hid (ov=cf hi):=qh yi;clear hx bM bD cR q0 q1 q2 q3 q4 q5 yi uh uX;obtain⟨bq,KK⟩:=ay ((ov==0))
    have kC:(decide (hi<n) && decide (cf hi=0))=bq:=by
     rw[decide_eq_true vN,←As.out,←KK,Bool.true_and,Bool.eq_iff_iff,decide_eq_true_iff,beq_iff_eq]
    have xK:=qh kC;clear kC;go_upto_region 8 with fail
    have fv:=bW l0;have ld1:=bW l1;have kO:=bW l2;have pt:=bW l3;have sU:=bW l4;have Cj:=bW l5;have qC:=dm (i:=0) HX.out rfl;have qw:=dm (i:=1) HX.out rfl;have Pq:=dm (i:=2) HX.out rfl;clear l0 l1 l2 l3 l4 l5;refine aw (aF) (by kernel_rfl) ?_;refine ag 0 ?_;refine ag 1 ?_;refine ag 2 ?_;refine ag 3 ?_;refine ag 4 ?_;refine ag 5 ?_;refine ag 6 ?_;refine ag 7 ?_;refine ag 8 ?_;refine ag 9 ?_;refine ag 10 ?_;refine bY 11 (hy:=by apply ck;rfl;rotate_left;intro w' aB;exact HC.out w';intro w';go_simp) (h:=?_);refine ag 12 ?_;refine ag 13 ?_;refine ag 14 ?_;refine ag 15 ?_;refine aD (by kernel_rfl) ?_ _;intro W3 fu;have cI:=qh (af (aL HB.out) fu);clear fu HB HX fv ld1 kO pt sU Cj qC qw Pq HC;go_wp2;refine JaN (v:=Ξ #[J (hi:Int),Β bq]) (by simp[results,Tryz.results165,go_sem]) rfl ?_;exact⟨hi,lh,HI.out.1,HI.out.2,by rw[xK.out],cI.out⟩
   ·have e2:¬(hi:Int)<(n:Int):=by omega
    have e3:¬(hi:Int)<(hi:Int):=by omega
    have kC:(decide (hi<n) && decide (cf hi=0))=ρ:=by rw[decide_eq_false vN];rfl
    have xK:=qh kC;clear kC;go_upto_region 8 with fail
    refine aw (aF) (by kernel_rfl) ?_;refine ag 0 ?_;refine ag 1 ?_;refine ag 2 ?_;refine ag 3 ?_;refine ag 4 ?_;refine bg 5 ?_;refine bg 6 ?_;refine bg 7 ?_;refine bg 8 ?_;refine bg 9 ?_;refine bg 10 ?_;refine bg 11 ?_;refine bg 12 ?_;refine ag 13 ?_;refine ag 14 ?_;refine ag 15 ?_;refine aD (by kernel_rfl) ?_ _;intro W3 fu;have cI:=qh (af (aL HB.out) fu);clear fu HB HX;go_wp2;refine JaN (v:=Ξ #[J (hi:Int),Β ρ]) (by simp[results,Tryz.results165,go_sem]) rfl ?_;exact⟨hi,lh,HI.out.1,HI.out.2,by rw[xK.out],cI.out⟩
theorem dL {P:Program} (w:ο) (dT sT ty elem:Υ) (s b o Yf acp:Nat) (a:Κ) (Zp acu m:Nat) (cs:List ψ)
 (hu:P.underlying dT=ζ (.slice elem)) (hs:(P.info? elem).map (·.size)=ζ s) (hm:Nat.min Zp Yf=m) (hn:m*s=cs.length)
 (LC:∀j v,cs[j]? =ζ v→w.cell? (a.add j)=ζ v) (hc:∀j,j<cs.length→(w.cell? ⟨b,o+j,ε⟩).isSome=τ) (hf:∀j,j<cs.length→w.frozen? ⟨b,o+j,ε⟩=ρ) (h1:∀v∈cs,v.oneCell'=τ):
 (Jbr #[dT,sT] ty #[γ (ζ ⟨b,o,ε⟩) Yf acp,γ (ζ a) Zp acu]).run P w=.ok (goInt m) (w.setCells b o cs):=by
 have hl:=run_loadCells_list (P:=P) w a cs LC;have GV:=run_storeCells_cells (P:=P) b o cs 0 w (by simpa using hc) (by simpa using hf) h1;cases hq:P.info? elem with
 |none=>simp[hq] at hs
 |some i=>
  have hi:i.size=s:=by simpa [hq] using hs
  simp[Jbr,run_underlying hu,Builtin.lenOf,Builtin.firstCells,sizeOf,typeInfo,hq,hi,hm,hn,hl,GV]
theorem Fh {w W:ο} {B:Nat} {A:Option Κ} {n c vb:Nat} {G:List Gn} (x:Gn) (hO:Ow w B 98 6 (γ A n c) n (aj cB G) W) (hx:aX W W.heap.size 6 (ζ ⟨vb,0,ε⟩) 1 1 (aj cB [x])) (hn:n≤1000):
 Ζ η 168 #[γ A n c,J (n:Int),γ (ζ ⟨vb,0,ε⟩) 1 1] W fun e w'=>∃A' c',e=.returned (γ A' (n+1) c')∧Ow w B 98 6 (γ A' (n+1) c') (n+1) (aj cB (G++[x])) w':=by
 obtain⟨iG,uZ,pN,ki,nf⟩:=aW nz;have HO:=qh hO;have HL:=qh hx;have tt:n≤c:=(aJ hO.own).le;have qM:=fO hO.own;unfold Jap at qM;have e1:((n:Int)==(n:Int))=τ:=by simp
 clear hO hx
 by_cases YU:c=n
 ·go_enter Tryz.func168,Tryz.ntmps168
  go_wp2_with (first
   |(at_builtin
     refine en rfl (.tmp 23) (.tmp 24) _ rfl _ 98 iG _ 6 48 Tryz.underlying26 uZ pN ki nf rfl (by decide) _ _ _ rfl HO.out _ _ _ _ _ rfl HL.out (cz cB j9 [x]) (by unfold Jap;omega) (by omega) ?_;intro v5 W5 jY fB sg;obtain⟨A5,c5,rfl,-⟩:=jY.rds;have ku:=qh jY;clear jY fB sg))
  go_ret;exact⟨_,_,rfl,by rw[bV];exact ku.out⟩
 ·go_enter Tryz.func168,Tryz.ntmps168
  go_wp2_with (first
   |(at_builtin
     refine en rfl (.tmp 23) (.tmp 24) _ rfl _ 98 iG _ 6 48 Tryz.underlying26 uZ pN ki nf rfl (by decide) _ _ _ rfl HO.out _ _ _ _ _ rfl HL.out (cz cB j9 [x]) (by unfold Jap;omega) (by omega) ?_;intro v5 W5 jY fB sg;obtain⟨A5,c5,rfl,-⟩:=jY.rds;have ku:=qh jY;clear jY fB sg))
  go_ret;exact⟨_,_,rfl,by rw[bV];exact ku.out⟩
theorem QF (rows junk new:List ψ) (i n:Nat) (hr:rows.length=n*6) (hi:i<n) (hj:6≤junk.length) (hn:new.length=6):
 dB (dB (rows++junk) ((i+1)*6) (rows.drop (i*6))) (i*6) new=(rows.take (i*6)++(new++rows.drop (i*6)))++junk.drop 6:=by
 obtain⟨P,hP⟩:=ay (rows.take (i*6));obtain⟨S,hS⟩:=ay (rows.drop (i*6));have ZL:rows=P++S:=by rw[←hP,←hS,List.take_append_drop]
 have PL:P.length=i*6:=by rw[←hP,JaA];omega
 have hSl:S.length=(n - i)*6:=by rw[←hS,Jaz];omega
 rw[hP,hS,ZL]
 have e1:dB (P++S++junk) ((i+1)*6) S=P++((S++junk).take 6++(S++junk.drop 6)):=by
  unfold dB;rw[Jay P S junk,Jbt,JaR,PL];rw[Ι (by omega),Jak (by omega),JaF,Jay];rw[show(i+1)*6 - i*6=6 by omega];congr 2;rw[JaR,Jak (by omega),JaF];rw[show(i+1)*6+S.length - i*6 - S.length=6 by omega]
 rw[e1];unfold dB;have FL:((S++junk).take 6).length=6:=by rw[JaA,Ε];omega
 rw[Jbt,JaR,PL,hn,JaP,JbQ,Jbi,Ι (by omega),Jak (by omega),JaF];rw[show i*6+6 - i*6=6 by omega,JaR,FL,Jak (by omega),JaF,JaP,List.drop_zero];simp[Jay]
theorem jl {W:ο} {g:Nat} {t:Υ} {cs:List ψ} (h:Whole W g t cs):W.shape? g=ζ (t,cs.length):=by
 have h2:W.heap[g]? =ζ (δ cs.toArray t):=h;simp[World.shape?,h2]
theorem eG {W:ο} {g:Nat} {t:Υ} {cs:List ψ} (h:Whole W g t cs) {j:Nat} (hj:j<cs.length):(W.cell? ⟨g,j,ε⟩).isSome=τ:=by
 rw[h.cell (i:=j) (θ hj)];rfl
theorem qI {G:List Gn} (i:Nat):(aj cB G).take (i*6)=aj cB (G.take i)∧(aj cB G).drop (i*6)=aj cB (G.drop i):=⟨(jj cB cw G i).symm,(ly cB cw G i).symm⟩
theorem DS {w W:ο} {B:Nat} {A:Option Κ} {n c vb i:Nat} {G:List Gn} (x:Gn) (hO:Ow w B 98 6 (γ A n c) n (aj cB G) W) (hx:Whole W vb 98 (cB x)) (cu:ζ vb≠(Ο A n c).ownBlock) (hn:n≤1000) (hi:i<n) (Dx:n+1≤c):
 Ζ η 168 #[γ A n c,J (i:Int),γ (ζ ⟨vb,0,ε⟩) 1 1] W fun e w'=>∃A' c',e=.returned (γ A' (n+1) c')∧Ow w B 98 6 (γ A' (n+1) c') (n+1) (aj cB (G.take i++x::G.drop i)) w':=by
 obtain⟨iG,uZ,pN,ki,nf⟩:=aW nz;obtain⟨b,junk,rfl,fV,hW,o7,tt,qM,na⟩:=dZ hO.own (by omega);have sY:vb≠b:=fun e=>cu (by rw[e];rfl)
 have yY:(c - n)*6=junk.length:=by rw[Ε,na] at o7;rw[Nat.sub_mul];omega
 have R5:6≤junk.length:=by rw[←yY];omega
 unfold Jap at qM;have AS:(aj cB G++junk).length=c*6:=o7;have kU:(n - i)*6=((aj cB G).drop (i*6)).length:=by rw[Jaz,na,←Nat.sub_mul]
 have mo:(η.info? 98).map (·.size)=ζ 6:=by rw[uZ];simp[ki]
 have zp:∀w,(Go.sizeOf 98).run η w=.ok 6 w:=fun w=>by simp[sizeOf,typeInfo,uZ,ki]
 have Sq:∀lb cb,(callFunc 177 #[γ (ζ ⟨vb,0,ε⟩) 1 1,γ (ζ ⟨b,(i+1)*6,ε⟩) lb cb]).run η W=.ok (.value (Β ρ)) W:=fun lb cb=>by
  rw[run_callFunc_extern Tryz.func177 (by kernel_rfl) (by kernel_rfl) (by kernel_rfl) (e:=Extern.SlicesOverlaps.overlaps #[26,26] #[4]) (by kernel_rfl),
   Lib.run_overlaps_apart W 26 4 98 Tryz.underlying26 6 zp ⟨vb,0,ε⟩ ⟨b,(i+1)*6,ε⟩ 1 1 lb cb sY 98 98 _ _ (jl hx) (jl hW) (by rw[o7];omega) (hx.free 0) (hx.free _)]
  rfl
 have zR:∀v∈(aj cB G).drop (i*6),v.oneCell'=τ:=fun v hv=>cz cB j9 G v (JbC hv)
 have CR:∀ty dc sc,(Jbr #[26,26] ty #[γ (ζ ⟨b,(i+1)*6,ε⟩) (n - i) dc,γ (ζ ⟨b,i*6,ε⟩) (n+1 - i) sc]).run η W.drew=.ok (goInt (n - i:Nat)) (W.drew.setCells b ((i+1)*6) ((aj cB G).drop (i*6))):=fun ty dc sc=>
  dL W.drew _ _ ty 98 6 b ((i+1)*6) (n - i) dc ⟨b,i*6,ε⟩ (n+1 - i) sc (n - i) _ Tryz.underlying26 mo (by simp only[JbR];split<;>omega) kU
   (fun j v hj=>by
     rw[Ν];rw[JaS] at hj;exact hW.dr.cell (i:=i*6+j) (by rw[Jab (by have:=(ν.1 hj).1;omega)];exact hj))
   (fun j hj=>eG hW.dr (by rw[←kU] at hj;rw[AS];omega)) (fun j hj=>hW.dr.free _) zR
 have ui:=hW.dr.cells_ ((aj cB G).drop (i*6)) ((i+1)*6) W.drew _ (by rw[←kU,AS];omega);obtain⟨W1,aO⟩:=ay (W.drew.setCells b ((i+1)*6) ((aj cB G).drop (i*6)));have lj:Whole W1 vb 98 (cB x):=aO▸hx.dr.cells_far sY _ _;have e8:σ w.heap.size w W1:=aO▸below_setCells hO.below.drew (Λ hO.lo fV) _ _;have Dy:W1.heap.size=W.heap.size:=by rw[←aO,cg];rfl
 rw[aO] at CR ui;have bM:(dB (aj cB G++junk) ((i+1)*6) ((aj cB G).drop (i*6))).length=c*6:=by rw[fD _ _ _ (by rw[←kU,AS];omega),AS]
 have LM:∀ty dc,(Jbr #[26,26] ty #[γ (ζ ⟨b,i*6,ε⟩) (n+1 - i) dc,γ (ζ ⟨vb,0,ε⟩) 1 1]).run η W1=.ok (goInt (1:Nat)) (W1.setCells b (i*6) (cB x)):=fun ty dc=>
  dL W1 _ _ ty 98 6 b (i*6) (n+1 - i) dc ⟨vb,0,ε⟩ 1 1 1 _ Tryz.underlying26 mo (by simp only[JbR];split<;>omega) rfl
   (fun j v hj=>by
     rw[Ν,JaI];exact lj.cell hj)
   (fun j hj=>eG ui (by rw[bM];rw[cw] at hj;omega)) (fun j hj=>ui.free _) (j9 x)
 have Eu:=ui.cells_ (cB x) (i*6) W1 _ (by rw[bM,cw];omega);rw[QF (aj cB G) junk (cB x) i n na hi R5 (cw x),(qI i).1,(qI i).2] at Eu;have jn:aj cB (G.take i)++(cB x++aj cB (G.drop i))=aj cB (G.take i++x::G.drop i):=by rw[bV];rfl
 rw[jn] at Eu;have Pw:G.length=n:=(aJ hO.own).rlen cw (by decide)
 have ji:(aj cB (G.take i++x::G.drop i)).length=(n+1)*6:=by
  rw[←jn,Ε,Ε,←(qI i).1,←(qI i).2,JaA,Jaz,na,cw];omega
 have HF:Hid (Ow w B 98 6 (γ (ζ ⟨b,0,ε⟩) (n+1) c) (n+1) (aj cB (G.take i++x::G.drop i)) (W1.setCells b (i*6) (cB x))):=qh
  ⟨kG (junk:=junk.drop 6) Eu fV (by rw[Ε,ji,Jaz,←yY];omega) Dx (by unfold Jap;omega) ji,
   below_setCells e8 (Λ hO.lo fV) _ _,hO.lo,by rw[cg,Dy];exact hO.hi⟩
 have kd:¬((i:Int)=(n:Int)):=by omega
 have jo:Jaw.wrap ((i:Int)+1)=(i:Int)+1:=by rw[JaT];omega
 have jd:Jaw.wrap ((n:Int)+1)=(n:Int)+1:=by rw[JaT];omega
 have e8:(0:Int)≤(i:Int)+1:=by omega
 have lh:i≤n:=by omega
 have Ma:((i:Int)+1).toNat=i+1:=by omega
 have ZC:((n:Int)+1).toNat=n+1:=by omega
 have ar:¬(c=i+1):=by omega
 have bC:(i:Int)≤(n:Int)+1:=by omega
 have kv:¬(c=i):=by omega
 have fB:¬(c:Int)<(n:Int)+1:=by omega
 have eP:(n:Int)+1≤(c:Int):=by omega
 have mixed:η.follows JbG=τ:=by kernel_rfl
 clear hO hx cu hW o7 na sY yY R5 AS kU mo zp zR ui aO lj bM Eu jn Pw ji Dy;go_enter Tryz.func168,Tryz.ntmps168;go_wp2_with (simp only[Sq])
 go_region_law_o (refine step_copy_runI rfl _ _ 26 26 rfl _ _ (by simp[Act.eval,ξ]) (by simp[Act.eval,ξ]) (CR _ _ _) ?_);go_wp2_with (at_builtin;refine wpList_copy_runI _ rfl _ _ 26 26 rfl _ _ rfl rfl (LM _ _) ?_)
 go_ret;exact⟨_,_,rfl,HF.out⟩
theorem N0 (P Z new S:List ψ) (i:Nat) (hP:P.length=i*6) (hn:new.length=6) (hZ:6+S.length≤Z.length):
 dB (dB (P++Z) (i*6) new) ((i+1)*6) S=(P++(new++S))++Z.drop (6+S.length):=by
 have e1:dB (P++Z) (i*6) new=(P++new)++Z.drop 6:=by
  unfold dB;rw[Jbt,JaR,hP,hn,JaP,JbQ,Jbi,Ι (by omega),Jak (by omega),JaF];rw[show i*6+6 - i*6=6 by omega,Jay]
 have hl:(P++new).length=(i+1)*6:=by rw[Ε,hP,hn];omega
 rw[e1];unfold dB;rw[Jbt,JaR,hl,JaP,JbQ,Jbi,Ι (by omega),Jak (by omega),JaF];rw[show(i+1)*6+S.length - (i+1)*6=S.length by omega,List.drop_drop];simp[Jay]
theorem LU (k:Nat):(JaO (JbL #[J 0,J 0,J 0,J 0,J 0,J 0]).cells k).size=k*6:=by
 simp[JaO,Value.cells]
theorem Dh {w W:ο} {B:Nat} {A:Option Κ} {n vb i:Nat} {G:List Gn} (x:Gn) (hO:Ow w B 98 6 (γ A n n) n (aj cB G) W) (hx:Whole W vb 98 (cB x)) (hn:n≤1000) (hi:i<n):
 Ζ η 168 #[γ A n n,J (i:Int),γ (ζ ⟨vb,0,ε⟩) 1 1] W fun e w'=>∃A' c',e=.returned (γ A' (n+1) c')∧Ow w B 98 6 (γ A' (n+1) c') (n+1) (aj cB (G.take i++x::G.drop i)) w':=by
 obtain⟨iG,uZ,pN,ki,nf⟩:=aW nz;obtain⟨b,junk,rfl,fV,hW,o7,tt,qM,na⟩:=dZ hO.own (by omega);have kU:(n - i)*6=((aj cB G).drop (i*6)).length:=by rw[Jaz,na,←Nat.sub_mul]
 have bM:((aj cB G).take (i*6)).length=i*6:=by rw[JaA,na];omega
 have mo:(η.info? 98).map (·.size)=ζ 6:=by rw[uZ];simp[ki]
 have NR:i+(n+1 - i)=n+1:=by omega
 have LA:(n:Int)+1 - (i:Int)=((n+1 - i:Nat):Int):=by omega
 have zR:∀v∈(aj cB G).drop (i*6),v.oneCell'=τ:=fun v hv=>cz cB j9 G v (JbC hv)
 have hold:(Builtin.firstCells iG.size i (γ (ζ ⟨b,0,ε⟩) i n)).run η W.drew=.ok ((aj cB G).take (i*6)).toArray W.drew:=by
  rw[ki]
  exact run_firstCells_some W.drew 6 i ⟨b,0,ε⟩ i n _ bM (fun j v hj=>by
   rw[Ν,JaI];rw[List.getElem?_take] at hj;split at hj
   ·exact hW.dr.cell (i:=j) (by rw[Jab (ν.1 hj).1];exact hj)
   ·cases hj)
 obtain⟨g,hg⟩:=ay W.heap.size;obtain⟨GC,Jn⟩:=ay (grownCap W (n+1) n 98);have Za:n+1≤GC:=by rw[←Jn];exact grownCap_ge W _ _ _
 have CZ:GC≤Jap:=by rw[←Jn];exact grownCap_le_maxLen W (n+1) n 98 (by unfold Jap;omega)
 obtain⟨sG,x7⟩:=ay (((aj cB G).take (i*6)).toArray++JaO (JbL #[J 0,J 0,J 0,J 0,J 0,J 0]).cells (n+1 - i)++JaO (JbL #[J 0,J 0,J 0,J 0,J 0,J 0]).cells (GC - (n+1)))
 have SI:∀ty,(Builtin.append_ #[26,3] ty #[γ (ζ ⟨b,0,ε⟩) i n,J ((n:Int)+1 - (i:Int))]).run η W=.ok (γ (ζ ⟨g,0,ε⟩) (n+1) GC) (W.drew.alloc (δ sG 98)):=fun ty=>by
  have h:=Lib.run_append_grow_zeros W 26 3 ty 98 iG _ .i64 .i64 Tryz.underlying26 Tryz.underlying3 uZ pN (ζ ⟨b,0,ε⟩) i n _ hold (n+1 - i) (by omega) (by omega) (by omega) (by omega) (by rw[nf];omega) (by rw[nf,NR];exact growslice_fits (by omega) (by omega));rw[NR,hg,Jn,x7] at h;rw[LA];exact h
 obtain⟨Z,hZ⟩:=ay ((JaO (JbL #[J 0,J 0,J 0,J 0,J 0,J 0]).cells (n+1 - i)++JaO (JbL #[J 0,J 0,J 0,J 0,J 0,J 0]).cells (GC - (n+1))).toList)
 have G4:Z.length=(GC - i)*6:=by
  rw[←hZ,Array.length_toList,Array.size_append,LU,LU];omega
 have MB:sG=((aj cB G).take (i*6)++Z).toArray:=by
  rw[←x7,←hZ];simp
 have RL:b≠g:=by have:=hW.lt;omega
 have WD:vb≠g:=by have:=hx.lt;omega
 obtain⟨P,hP⟩:=ay ((aj cB G).take (i*6));obtain⟨S,hS⟩:=ay ((aj cB G).drop (i*6));rw[hP] at bM MB;rw[hS] at kU zR;have Er:(P++Z).length=GC*6:=by rw[Ε,bM,G4];omega
 have BZ:Whole (W.drew.alloc (δ sG 98)) g 98 (P++Z):=by
  rw[MB];exact Whole.new2 hg.symm
 have OV:Whole (W.drew.alloc (δ sG 98)) vb 98 (cB x):=hx.dr.alloc _;have NC:Whole (W.drew.alloc (δ sG 98)) b 98 (aj cB G++junk):=hW.dr.alloc _;have Yp:=hO.below.size;have qR:σ w.heap.size w (W.drew.alloc (δ sG 98)):=aE (aL hO.below) _;have jL:(W.drew.alloc (δ sG 98)).heap.size=W.heap.size+1:=by simp
 obtain⟨V1,kN⟩:=ay (W.drew.alloc (δ sG 98));rw[kN] at BZ OV NC qR jL SI
 have xq:∀V,V=V1→∀ty dc,(Jbr #[26,26] ty #[γ (ζ ⟨g,i*6,ε⟩) (n+1 - i) dc,γ (ζ ⟨vb,0,ε⟩) 1 1]).run η V=.ok (goInt (1:Nat)) (V1.setCells g (i*6) (cB x)):=fun V hV ty dc=>by
  subst hV
  exact dL V _ _ ty 98 6 g (i*6) (n+1 - i) dc ⟨vb,0,ε⟩ 1 1 1 _ Tryz.underlying26 mo (by simp only[JbR];split<;>omega) rfl
   (fun j v hj=>by
     rw[Ν,JaI];exact OV.cell hj)
   (fun j hj=>eG BZ (by rw[Er];rw[cw] at hj;omega)) (fun j hj=>BZ.free _) (j9 x)
 have Cu:=BZ.cells_ (cB x) (i*6) V1 _ (by rw[Er,cw];omega);have Ns:Whole (V1.setCells g (i*6) (cB x)) b 98 (aj cB G++junk):=NC.cells_far RL _ _;have ox:σ w.heap.size w (V1.setCells g (i*6) (cB x)):=below_setCells qR (by omega) _ _;have kd:(V1.setCells g (i*6) (cB x)).heap.size=W.heap.size+1:=by rw[cg,jL]
 obtain⟨V2,Ji⟩:=ay (V1.setCells g (i*6) (cB x));rw[Ji] at Cu Ns ox kd xq;have wv:(dB (P++Z) (i*6) (cB x)).length=GC*6:=by rw[fD _ _ _ (by rw[Er,cw];omega),Er]
 have ME:∀ty dc sc,(Jbr #[26,26] ty #[γ (ζ ⟨g,(i+1)*6,ε⟩) (n - i) dc,γ (ζ ⟨b,i*6,ε⟩) (n - i) sc]).run η V2.drew=.ok (goInt (n - i:Nat)) (V2.drew.setCells g ((i+1)*6) S):=fun ty dc sc=>
  dL V2.drew _ _ ty 98 6 g ((i+1)*6) (n - i) dc ⟨b,i*6,ε⟩ (n - i) sc (n - i) _ Tryz.underlying26 mo (by simp only[JbR];split<;>omega) kU
   (fun j v hj=>by
     rw[Ν];rw[←hS,JaS] at hj;exact Ns.dr.cell (i:=i*6+j) (by rw[Jab (ν.1 hj).1];exact hj))
   (fun j hj=>eG Cu.dr (by rw[←kU] at hj;rw[wv];omega)) (fun j hj=>Cu.dr.free _) zR
 have MU:=Cu.dr.cells_ S ((i+1)*6) V2.drew _ (by rw[←kU,wv];omega);rw[N0 P Z (cB x) S i bM (cw x) (by rw[←kU,G4];omega)] at MU;have jn:P++(cB x++S)=aj cB (G.take i++x::G.drop i):=by rw[←hP,←hS,(qI i).1,(qI i).2,bV];rfl
 have ji:(P++(cB x++S)).length=(n+1)*6:=by rw[Ε,Ε,bM,cw,←kU];omega
 have EE:(Z.drop (6+S.length)).length=(GC - (n+1))*6:=by rw[Jaz,G4,←kU];omega
 have HF:Hid (Ow w B 98 6 (γ (ζ ⟨g,0,ε⟩) (n+1) GC) (n+1) (aj cB (G.take i++x::G.drop i)) (V2.drew.setCells g ((i+1)*6) S)):=qh (by
  rw[←jn];exact⟨kG (junk:=Z.drop (6+S.length)) MU (by have:=hO.hi;omega) (by rw[Ε,ji,EE];omega) Za CZ ji,below_setCells (aL ox) (by omega) _ _,hO.lo,by rw[cg];show B≤V2.heap.size;have:=hO.hi;omega⟩)
 have hz3:¬((i:Int)=(n:Int)):=by omega
 have jo:Jaw.wrap ((i:Int)+1)=(i:Int)+1:=by rw[JaT];omega
 have jd:Jaw.wrap ((n:Int)+1)=(n:Int)+1:=by rw[JaT];omega
 have fu:Jaw.wrap ((n:Int)+1 - (i:Int))=(n:Int)+1 - (i:Int):=by rw[JaT];omega
 have e8:(0:Int)≤(i:Int)+1:=by omega
 have lh:i≤n:=by omega
 have Ma:((i:Int)+1).toNat=i+1:=by omega
 have ar:¬(GC=i+1):=by omega
 have bC:(i:Int)≤(n:Int):=by omega
 have kv:¬(n=i):=by omega
 have fB:¬(GC=i):=by omega
 have eP:(n:Int)<(n:Int)+1:=by omega
 unfold Jap at CZ;have mixed:η.follows JbG=τ:=by kernel_rfl
 subst kN;have MO:∀ty dc,(Jbr #[26,26] ty #[γ (ζ ⟨g,i*6,ε⟩) (n+1 - i) dc,γ (ζ ⟨vb,0,ε⟩) 1 1]).run η (W.alloc (δ sG 98)).drew=.ok (goInt (1:Nat)) V2:=fun ty dc=>xq _ rfl ty dc
 clear xq Ji;clear hO hx hW o7 na WD RL kU mo zR hold bM NR LA x7 G4 MB hZ Er BZ OV NC qR jL Cu Ns ox kd wv MU jn ji EE hP hS Jn Yp;go_enter Tryz.func168,Tryz.ntmps168
 go_wp2_with (first
  |(at_builtin;refine Lib.wpList_append_run _ rfl _ _ _ _ rfl _ _ rfl rfl _ _ (SI _) ?_)
  |(at_builtin;refine wpList_copy_runI _ rfl _ _ 26 26 rfl _ _ rfl rfl (MO _ _) ?_))
 go_region_law_o (refine step_copy_runI rfl _ _ 26 26 rfl _ _ (by simp[Act.eval,ξ]) (by simp[Act.eval,ξ]) (ME _ _ _) ?_);go_wp2;go_ret;exact⟨_,_,rfl,HF.out⟩
theorem Fy {w W:ο} {B:Nat} {A:Option Κ} {n c vb i:Nat} {G:List Gn} (x:Gn) (hO:Ow w B 98 6 (γ A n c) n (aj cB G) W) (hx:Whole W vb 98 (cB x)) (cu:ζ vb≠(Ο A n c).ownBlock) (hn:n≤1000) (hi:i≤n):
 Ζ η 168 #[γ A n c,J (i:Int),γ (ζ ⟨vb,0,ε⟩) 1 1] W fun e w'=>∃A' c',e=.returned (γ A' (n+1) c')∧Ow w B 98 6 (γ A' (n+1) c') (n+1) (aj cB (G.take i++x::G.drop i)) w':=by
 have tt:n≤c:=(aJ hO.own).le;have Pw:G.length=n:=(aJ hO.own).rlen cw (by decide);rcases JaM i n with h|h
 ·rcases JaM n c with h2|h2
  ·exact DS x hO hx cu hn h h2
  ·obtain rfl:n=c:=by omega
   exact Dh x hO hx hn h
 ·obtain rfl:n=i:=by omega
  rw[Ι (by omega),Jak (by omega)];exact Fh x hO (by rw[FM];exact aX.of_whole hx rfl) hn
theorem Jd (A:Option Κ) (n c:Nat) (xs:List ψ) (w:ο) (h:aX w w.heap.size 6 A n c xs) (h1:∀u∈xs,u.oneCell'=τ) (hn:n≤1000000):
 Ζ η 81 #[γ A n c] w fun e w'=>∃A' c',e=.returned (γ A' n c')∧Ow w w.heap.size 98 6 (γ A' n c') n xs w':=by
 obtain⟨i0,hi,oX,jL,kd⟩:=aW nz;cases A with
 |none=>
  obtain⟨rfl,rfl⟩:=h.none_ rfl;have lf:xs=[]:=JaB (by simpa using h.len);subst lf;have lf:∀w',(binOp .eql 26 (γ ε 0 0) (γ ε 0 0)).run η w'=.ok (Β τ) w':=fun w'=>JbH w' _ _ _ _ _ _ _ Tryz.underlying26
  clear h h1;go_enter Tryz.func81,Tryz.ntmps81;go_wp2;go_ret;exact⟨_,_,rfl,Ow.nil_ (Θ _ _) (Δ _) (Δ _)⟩
 |some a=>
  have H:=qh (h.al (δ #[] 98));have HO:Hid (Ow w w.heap.size 98 6 (γ (ζ ⟨w.heap.size,0,ε⟩) 0 0) 0 [] (w.alloc (δ #[] 98))):=qh (Ow.new_ (cs:=#[]) (Θ _ _) (Δ _) (Δ _) (Jas _) rfl);have lf:∀w',(binOp .eql 26 (γ (ζ a) n c) (γ ε 0 0)).run η w'=.ok (Β ρ) w':=fun w'=>JbH w' _ _ _ _ _ _ _ Tryz.underlying26
  clear h;go_enter Tryz.func81,Tryz.ntmps81
  go_wp2_with (first
   |(at_builtin
     refine en rfl (.tmp 5) (.tmp 6) _ rfl _ 98 i0 _ 6 48 Tryz.underlying26 hi oX jL kd rfl (by decide) _ _ _ rfl (by exact HO.out) _ (ζ a) n c xs rfl (by exact H.out) h1 (by unfold Jap;omega) (by omega) ?_;intro v1 w1 fg e8 UD;rw[JaI,JaF] at fg;obtain⟨Aq,cq,rfl,-⟩:=fg.rds;have mX:=qh fg;clear fg e8 UD))
  go_ret;exact⟨_,_,rfl,mX.out⟩
def px:List Gn→Gn→List Gn
 |[],x=>[x]
 |y::G,x=>if cU y x<0 then y::px G x else if cU y x=0 then x::G else x::y::G
theorem Hs:∀(G:List Gn) (x:Gn) (i:Nat) (cf:Nat→Int),(∀t y,G[t]? =ζ y→cU y x=cf t)→i≤G.length→(∀t,t<i→cf t<0)→(∀t,i≤t→t<G.length→0≤cf t)→
 px G x=if i<G.length∧cf i=0 then G.set i x else G.take i++x::G.drop i
 |[],x,i,cf,hc,hi,h1,h2=>by
  obtain rfl:i=0:=by simpa using hi
  rw[if_neg (fun q=>by simp at q)];rfl
 |y::G,x,i,cf,hc,hi,h1,h2=>by
  have h0:cU y x=cf 0:=hc 0 y rfl;cases i with
  |zero=>
   have h3:0≤cf 0:=h2 0 (Δ _) (by simp)
   show(if cU y x<0 then _ else _)=_
   rw[if_neg (by omega)]
   by_cases hz:cf 0=0
   ·rw[if_pos (by omega),if_pos ⟨by simp,hz⟩];rfl
   ·rw[if_neg (by omega),if_neg (fun q=>hz q.2)];rfl
  |succ i=>
   have h3:cf 0<0:=h1 0 (by omega)
   show(if cU y x<0 then _ else _)=_
   rw[if_pos (by omega),Hs G x i (fun t=>cf (t+1)) (fun t z hz=>hc (t+1) z hz) (by simpa using hi) (fun t ht=>h1 (t+1) (by omega)) (fun t h4 h5=>h2 (t+1) (by omega) (by simpa using h5))]
   by_cases hq:i<G.length∧cf (i+1)=0
   ·rw[if_pos hq,if_pos ⟨by simpa using hq.1,hq.2⟩];rfl
   ·rw[if_neg hq,if_neg (fun q=>hq ⟨by simpa using q.1,q.2⟩)];rfl
theorem jZ {P:Program} {ops:Array Oper} {Q:Exit→Act→ο→Prop} {o:Oper} {rest:List Oper} {a:Act} {w w':ο} (hd:o.dst=ε) (hw:Region.wanted o (yielded ops a.tmps)=τ) (cj:(execOp a.eval o).run P w=.ok .skip w')
 (h:wpList P ops Q rest a w'):wpList P ops Q (o::rest) a w:=by
 refine wpList_step fun K hK=>?_
 rw[if_pos hw];unfold Oper.wp;rw[cj,Oper.upon_skip,hd];exact hK _ _ h
theorem iB (y x:Gn):cU y x=0↔y.1=x.1:=by
 unfold cU;rw[uq];obtain⟨⟨a,b,c⟩,y2⟩:=y;obtain⟨⟨d,e,f⟩,x2⟩:=x;simp
theorem Eh:∀(G:List Gn) (x:Gn),(px G x).length≤G.length+1
 |[],x=>Δ _
 |y::G,x=>by
  show(if cU y x<0 then y::px G x else if cU y x=0 then x::G else x::y::G).length≤G.length+1+1
  have:=Eh G x
  split
  ·simp only[List.length_cons];omega
  ·split<;>simp
def ft:List Gn→Prop
 |[]=>True
 |[_]=>True
 |y::z::G=>cU y z<0∧ft (z::G)
theorem rQ {a b c:Gn} (h:cU a b≤0) (k:cU b c≤0):cU a c≤0:=yv _ _ _ _ _ _ _ _ _ h k
theorem qi (a b:Gn):cU b a= - cU a b:=Ef _ _ _ _ _ _
theorem zL (a:Gn):cU a a=0:=(iB a a).2 rfl
theorem oE {y:Gn} {G:List Gn} (h:ft (y::G)):ft G:=by
 cases G with
 |nil=>trivial
 |cons z G=>exact h.2
theorem mA:∀(G:List Gn) {y z:Gn},ft (y::G)→z∈y::G→cU y z≤0
 |[],y,z,h,hz=>by
  obtain rfl:=List.mem_singleton.1 hz;rw[zL];exact Int.le_refl _
 |z1::G,y,z,h,hz=>by
  rcases List.mem_cons.1 hz with rfl|hz
  ·rw[zL];exact Int.le_refl _
  ·exact rQ (Int.le_of_lt h.1) (mA G h.2 hz)
theorem Dk:∀(G:List Gn) (a b:Nat) {z y:Gn},ft G→a≤b→G[a]? =ζ z→G[b]? =ζ y→cU z y≤0
 |[],a,b,z,y,h,Ey,hz,hy=>by simp at hz
 |g::G,0,b,z,y,h,Ey,hz,hy=>by
  obtain rfl:g=z:=by simpa using hz
  exact mA G h (List.mem_of_getElem? hy)
 |g::G,a+1,0,z,y,h,Ey,hz,hy=>by omega
 |g::G,a+1,b+1,z,y,h,Ey,hz,hy=>Dk G a b (oE h) (by omega) (by simpa using hz) (by simpa using hy)
theorem Fc {G:List Gn} (h:ft G) (x:Gn) {a b:Nat} {z y:Gn} (Ey:a≤b) (hz:G[a]? =ζ z) (hy:G[b]? =ζ y) (hb:cU y x<0):cU z x<0:=by
 have h1:=Dk G a b h Ey hz hy;have h2:=rQ h1 (Int.le_of_lt hb)
 have h3:cU z x≠0:=fun e=>by
  have e1:=(iB z x).1 e;have e2:cU y x=cU y z:=by unfold cU;rw[e1]
  rw[e2,qi z y] at hb;omega
 omega
def Wx (G:List Gn) (x:Gn) (t:Nat):Int:=cU (G.getD t (zD,zD)) x
theorem xR (G:List Gn) (x:Gn):∀t y,G[t]? =ζ y→cU y x=Wx G x t:=fun t y h=>by
 unfold Wx;rw[χ,h];rfl
theorem Nv {G:List Gn} (h:ft G) (x:Gn) {n:Nat} (hn:G.length=n):∀a b,a≤b→b<n→Wx G x b<0→Wx G x a<0:=fun a b Ey hb hc=>by
 have ha:=θ (l:=G) (i:=a) (by omega);have ar:=θ (l:=G) (i:=b) (by omega);rw[←xR G x b _ ar] at hc;rw[←xR G x a _ ha];exact Fc h x Ey ha ar hc
theorem sQ:∀{G:List Gn},ft G→G.Pairwise (fun a b=>cU a b<0)
 |[],_=>List.Pairwise.nil
 |y::G,h=>by
  refine List.Pairwise.cons (fun z hz=>?_) (sQ (oE h));cases G with
  |nil=>cases hz
  |cons g G=>
   have h1:=mA G h.2 hz;have h2:=h.1;have h3:=rQ (Int.le_of_lt h2) h1
   have h4:cU y z≠0:=fun e=>by
    have e1:=(iB y z).1 e;have e2:cU g z=cU g y:=by unfold cU;rw[e1]
    rw[e2,qi y g] at h1;omega
   omega
theorem Aj:∀(G:List Gn) (x:Gn),ft G→ft (px G x)
 |[],x,_=>trivial
 |[y],x,_=>by
  show ft (if cU y x<0 then[y,x] else if cU y x=0 then[x] else[x,y])
  by_cases h1:cU y x<0
  ·rw[if_pos h1];exact⟨h1,trivial⟩
  ·rw[if_neg h1]
   by_cases h0:cU y x=0
   ·rw[if_pos h0];trivial
   ·rw[if_neg h0];exact⟨by rw[qi y x];omega,trivial⟩
 |y::z::G,x,h=>by
  have h0:=Aj (z::G) x h.2;show ft (if cU y x<0 then y::px (z::G) x else if cU y x=0 then x::z::G else x::y::z::G)
  by_cases h1:cU y x<0
  ·rw[if_pos h1];have e:px (z::G) x=if cU z x<0 then z::px G x else if cU z x=0 then x::G else x::z::G:=rfl
   rw[e] at h0 ⊢;split
   ·rename_i h2;rw[if_pos h2] at h0;exact⟨h.1,h0⟩
   ·rename_i h2;rw[if_neg h2] at h0;split
    ·rename_i h3;rw[if_pos h3] at h0;exact⟨h1,h0⟩
    ·rename_i h3;rw[if_neg h3] at h0;exact⟨h1,h0⟩
  ·rw[if_neg h1]
   by_cases h2:cU y x=0
   ·rw[if_pos h2];have e1:=(iB y x).1 h2;have e2:cU x z=cU y z:=by unfold cU;rw[e1]
    exact⟨by rw[e2];exact h.1,h.2⟩
   ·rw[if_neg h2];exact⟨by rw[qi y x];omega,h⟩
theorem zC (A:Option Κ) (n c:Nat) (G:List Gn) (d:D) (w:ο) (h:aX w w.heap.size 6 A n c (aj cB G)) (hn:n≤1000000):
 Ζ η 101 #[γ A n c,φ #[J d.1,J d.2.1,J d.2.2]] w fun e w'=>e=.returned (Ξ #[φ #[J (iC G d).1.1,J (iC G d).1.2.1,J (iC G d).1.2.2],Β (iC G d).2])∧σ w.heap.size w w':=by
 have H:=qh h;have Hl:=qh (h.rlen cw (by decide));obtain⟨⟨r,ok⟩,gr⟩:∃z,iC G d=z:=⟨_,rfl⟩
 rw[gr];have HG:=qh gr;clear h gr;go_enter Tryz.func101,Tryz.ntmps101;go_wp2;obtain⟨W0,b0,b1,bP,bK,cX,aN,aI,a8,xj,DA,kQ,EH,jK,mj⟩:=E6 w 32 [J d.1,J d.2.1,J d.2.2] 32 [J 0,J 0,J 0];rw[bP,cX,bK];clear bP bK cX;go_loopw [6] (fun si wr=>∃j:Nat,j≤n∧si=J j∧Hid (σ w.heap.size w wr)∧Hid (Whole wr b0 32 [J d.1,J d.2.1,J d.2.2])∧Hid (Whole wr b1 32 [J 0,J 0,J 0])∧Hid (iC (G.drop j) d=(r,ok))) (fun si _=>n - (intOf si).toNat)
 case atStart=>exact⟨0,by omega,rfl,a8,aN,aI,HG⟩
 case round=>
  clear a8 aN aI HG;obtain⟨j,hj,rfl,HB,aN,aI,HG⟩:=hrel;obtain⟨wo,ec⟩:=ay wr;rw[ec] at HB aN aI ⊢;clear ec
  by_cases o4:j<n
  ·obtain⟨x,hx⟩:∃x,G[j]? =ζ x:=⟨_,θ (by have:=Hl.out;omega)⟩
   have wE:G.drop j=x::G.drop (j+1):=by
    rw[List.drop_eq_getElem_cons (ν.1 hx).1,(ν.1 hx).2]
   have qW:=HG.out;rw[wE] at qW;have fZ:=qh qW;obtain⟨bb,off,rfl,bD,bM⟩:=H.out.place cw (by decide) (by omega);have cR:=HB.out;have q0:=bM j _ hx 0 _ rfl;have q1:=bM j _ hx 1 _ rfl;have q2:=bM j _ hx 2 _ rfl;have q3:=bM j _ hx 3 _ rfl;have q4:=bM j _ hx 4 _ rfl;have q5:=bM j _ hx 5 _ rfl;simp only[Ν,Jac] at q0 q1 q2 q3 q4 q5;have l0:=(cR.cell (p:=⟨bb,off+j*6,ε⟩) bD).trans q0;have l1:=(cR.cell (p:=⟨bb,off+j*6+1,ε⟩) bD).trans q1;have l2:=(cR.cell (p:=⟨bb,off+j*6+2,ε⟩) bD).trans q2;have l3:=(cR.cell (p:=⟨bb,off+j*6+3,ε⟩) bD).trans q3;have l4:=(cR.cell (p:=⟨bb,off+j*6+4,ε⟩) bD).trans q4;have l5:=(cR.cell (p:=⟨bb,off+j*6+5,ε⟩) bD).trans q5;clear cR q0 q1 q2 q3 q4 q5;have fv:=bW l0;have ld1:=bW l1;have kO:=bW l2;have qC:=dm (i:=0) aN.out rfl;have qw:=dm (i:=1) aN.out rfl;have Pq:=dm (i:=2) aN.out rfl;have Ru:(j:Int)<(n:Int):=by omega
   have hq:=pT x.1 d;have L3:=qh l3;have L4:=qh l4;have L5:=qh l5;clear hx wE qW bM HG l0 l1 l2 l3 l4 l5
   by_cases hd:x.1=d
   ·rw[decide_eq_true hd] at hq;have hg:=fZ.out;rw[iC,if_pos hd] at hg;injection hg with hg1 qW
    subst hg1 qW;clear hd;go_upto_region 4 with fail
    refine aw (aF) (by kernel_rfl) ?_;refine ag 0 ?_;refine ag 1 ?_;refine ag 2 ?_;refine ag 3 ?_;refine ag 4 ?_;refine ag 5 ?_;refine bY 6 (hy:=dG (by rfl) (fun w' aB=>bE .eql 32 (.tmp 17) (.tmp 18) 32 rfl rfl rfl (by kernel_rfl) (hq w'))) (h:=?_);refine aD (by kernel_rfl) ?_ _;intro W3 fu;have uD:=af (aL (Θ wo.heap.size wo)) fu;have zk:=qh (af HB.out uD);have qY:=qh (aN.out.below uD);have nh:=qh (aI.out.below uD);have l3:=(uD.cell (p:=⟨bb,off+j*6+3,ε⟩) (by have:=HB.out.size;exact JaK bD this)).trans L3.out;have l4:=(uD.cell (p:=⟨bb,off+j*6+4,ε⟩) (by have:=HB.out.size;exact JaK bD this)).trans L4.out;have l5:=(uD.cell (p:=⟨bb,off+j*6+5,ε⟩) (by have:=HB.out.size;exact JaK bD this)).trans L5.out;have f0:=nh.out.free 0;have f1:=nh.out.free 1;have f2:=nh.out.free 2;have k0:=nh.out.cell (i:=0) rfl;have k1:=nh.out.cell (i:=1) rfl;have k2:=nh.out.cell (i:=2) rfl;have HY:=qh (((nh.out.set_ 0 (J x.2.1)).set_ 1 (J x.2.2.1)).set_ 2 (J x.2.2.2));have Dv:=qh (((zk.out.setCell (p:=⟨b1,0,ε⟩) jK.out (J x.2.1)).setCell (p:=⟨b1,1,ε⟩) jK.out (J x.2.2.1)).setCell (p:=⟨b1,2,ε⟩) jK.out (J x.2.2.2));clear nh qY zk fZ fu uD HB aN aI fv ld1 kO qC qw Pq hq L3 L4 L5;go_wp2;exact aG rfl b1 rfl rfl HY.out Tryz.underlying32 rfl (by kernel_rfl) rfl ⟨rfl,Dv.out⟩
   ·rw[decide_eq_false hd] at hq;have hg:=fZ.out;rw[iC,if_neg hd] at hg;have Pu:=qh hg;clear hg hd;go_upto_region 4 with fail
    refine aw (aF) (by kernel_rfl) ?_;refine ag 0 ?_;refine ag 1 ?_;refine ag 2 ?_;refine ag 3 ?_;refine ag 4 ?_;refine ag 5 ?_;refine bY 6 (hy:=dG (by rfl) (fun w' aB=>bE .eql 32 (.tmp 17) (.tmp 18) 32 rfl rfl rfl (by kernel_rfl) (hq w'))) (h:=?_);refine aD (by kernel_rfl) ?_ _;intro W3 fu;have uD:=af (aL (Θ wo.heap.size wo)) fu;have zk:=qh (af HB.out uD);have qY:=qh (aN.out.below uD);have nh:=qh (aI.out.below uD);clear fZ fu uD HB aN aI fv ld1 kO qC qw Pq hq L3 L4 L5;go_wp2;go_roundw
    case rel=>exact⟨j+1,by omega,by go_num,zk,qY,nh,Pu⟩
    case measure=>simp[intOf];omega
  ·obtain rfl:n=j:=by omega
   have hg:=HG.out;rw[List.drop_eq_nil_of_le (by have:=Hl.out;omega)] at hg;replace hg:(zD,ρ)=(r,ok):=hg;injection hg with hg1 qW
   subst hg1 qW;have f0:=aI.out.free 0;have f1:=aI.out.free 1;have f2:=aI.out.free 2;have k0:=aI.out.cell (i:=0) rfl;have k1:=aI.out.cell (i:=1) rfl;have k2:=aI.out.cell (i:=2) rfl;have HY:=qh (((aI.out.set_ 0 (J 0)).set_ 1 (J 0)).set_ 2 (J 0));have Dv:=qh (((HB.out.setCell (p:=⟨b1,0,ε⟩) jK.out (J 0)).setCell (p:=⟨b1,1,ε⟩) jK.out (J 0)).setCell (p:=⟨b1,2,ε⟩) jK.out (J 0));clear HG aI;go_wp2;exact aG rfl b1 rfl rfl HY.out Tryz.underlying32 rfl (by kernel_rfl) rfl ⟨rfl,Dv.out⟩
theorem gZ (A:Option Κ) (n c:Nat) (L:List D) (d:D) (w:ο) (h:aX w w.heap.size 3 A n c (aA L)) (hn:n≤9223372036854775807):
 Ζ η 33 #[γ A n c,φ #[J d.1,J d.2.1,J d.2.2]] w fun e w'=>e=.returned (J (iM L d))∧σ w.heap.size w w':=by
 have hl:=h.dlen;have HL:=qh hl;have H:=qh h;have HS:Hid (IC w L d 0 (w.alloc (δ #[J d.1,J d.2.1,J d.2.2] 32))):=⟨fun j hj=>absurd hj (by omega),Whole.new_ w _ [J d.1,J d.2.1,J d.2.2],ax _ _⟩;clear h hl;go_enter Tryz.func33,Tryz.ntmps33;go_wp2;go_loopw [5] (fun i wr=>∃k:Nat,k≤n∧i=J k∧IC w L d k wr) (fun i _=>n - (intOf i).toNat)
 case atStart=>exact⟨0,Jas _,rfl,HS.out⟩
 case round=>
  obtain⟨k,hk,rfl,h1,h2,h3⟩:=hrel;have H1:=qh h1;have H2:=qh h2;have H3:=qh h3;clear h1 HS
  by_cases fh:k<n
  ·obtain⟨b,off,rfl,hb,hc⟩:=H.out.darts (by omega);obtain⟨c1,c2,c3⟩:=hc k (by rw[HL.out];exact fh);have d1:=(h3.cell (p:=⟨b,off+k*3,ε⟩) hb).trans c1;have d2:=(h3.cell (p:=⟨b,off+k*3+1,ε⟩) hb).trans c2;have d3:=(h3.cell (p:=⟨b,off+k*3+2,ε⟩) hb).trans c3;have b1:=h2.cell (i:=0) rfl;have b2:=h2.cell (i:=1) rfl;have b3:=h2.cell (i:=2) rfl;obtain⟨x,gx⟩:=ay (L.getD k (0,0,0));rw[gx] at d1 d2 d3;have GX:=qh gx;have hq:=pT x d;clear h2 h3 hc c1 c2 c3 gx
   by_cases hd:x=d
   ·have Bk:decide (x=d)=τ:=by simpa using hd
    rw[Bk] at hq;have HD:=qh hd;clear hd Bk;go_wp2;go_quiet (fail);go_wp2;go_ret;exact⟨mF (by rw[Hg (by rw[HL.out];exact fh) (GX.out.trans HD.out) H1.out]),⟨H3.out.os,H3.out.tape,H3.out.output,H3.out.size,H3.out.block⟩⟩
   ·have Bk:decide (x=d)=ρ:=by simpa using hd
    rw[Bk] at hq;have HD:=qh hd;clear hd Bk;go_wp2;go_quiet (fail);go_wp2;go_roundw
    case rel=>
     refine⟨k+1,by omega,by go_num,fun j hj=>?_,H2.out,⟨H3.out.os,H3.out.tape,H3.out.output,H3.out.size,H3.out.block⟩⟩
     rcases JaM j k with h|h
     ·exact H1.out j h
     ·obtain rfl:j=k:=by omega
      rw[GX.out];exact HD.out
    case measure=>simp[intOf];omega
  ·clear h2 h3;go_wp2;go_ret
   refine⟨mF ?_,H3.out⟩
   rw[CF];intro j hj;exact H1.out j (by have:=HL.out;omega)
theorem J9 (L:List D) (i:Nat) (h:i<L.length):(aS L).getD i (0,0,0)=L.getD ((di L L.length+i) % L.length) (0,0,0):=by
 have hm:di L L.length<L.length:=qx L _ (by omega);unfold aS;generalize di L L.length=m at*;simp only[χ];congr 1;rcases JaM (m+i) L.length with h1|h1
 ·rw[Jab (by simp;omega),JaS,JbE h1]
 ·rw[List.getElem?_append_right (by simp;omega),List.getElem?_take,Jaz,if_pos (by omega)];congr 1;rw[Nat.mod_eq_sub_mod h1,JbE (by omega)];omega
theorem lL (L:List D) (k:Nat) (h:k<L.length):L.take (k+1)=L.take k++[L.getD k (0,0,0)]:=by
 rw[List.take_succ_eq_append_getElem h];simp[h]
end Go.Proofs.YtpdpbfmiahjiiaaGreat
