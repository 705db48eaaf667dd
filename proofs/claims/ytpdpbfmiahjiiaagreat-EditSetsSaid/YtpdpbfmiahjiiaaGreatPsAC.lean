/- Several texts in one. -/
import Derived.Test.YtpdpbfmiahjiiaaGreatPsAA
import Derived.Test.YtpdpbfmiahjiiaaGreatPsAB
import Derived.Laws.ResultCell
import Derived.WalkMore
import Derived.Shelf.Spec.SlicesInsert
import Derived.Shelf.Spec.SlicesInsertGrow
set_option linter.unusedSectionVars false
set_option linter.unusedSimpArgs false
set_option linter.unusedVariables false
set_option maxRecDepth 100000
set_option maxHeartbeats 16000000
namespace Go.Proofs.YtpdpbfmiahjiiaaGreat
open Go.RowKit
open _root_.Go.Value renaming slice→γ,string→μ,agg→φ,bool→Β,oneCell'→Τ
open _root_.Go.Obj renaming cells→δ
open _root_.Option renaming none→ε,some→ζ
open _root_.Go.Proofs.Tryz renaming prog→η
open _root_.List renaming getElem?_eq_getElem→θ,getElem?_eq_some_iff→ν,eq_nil_of_length_eq_zero→JaB,nil_append→JaF
open _root_.Go renaming World→ο,Value→ψ,Calls→Ζ,Addr→Κ,TypeId→Υ
open _root_.Bool renaming false→ρ,true→τ
open _root_.Nat renaming le_refl→Δ,le_trans→Λ,zero_le→Jas,zero_add→JaI,lt_of_lt_of_le→JaK,lt_or_ge→JaM,mod_eq_of_lt→JbE
open _root_.Go.RowKit.Below renaming refl→Θ
open _root_.Go.Builtin renaming copy_→Jbr
open _root_.Go.Lib renaming run_eql_slice_nil→JbH
theorem ju:(η.info? 32).map (fun i=>(i.zero,i.size,i.bytes))=ζ (ζ (φ #[J 0,J 0,J 0]),3,24):=by kernel_rfl
theorem PN (A:Option Κ) (n c:Nat) (xs:List ψ) (w:ο) (h:bg w w.heap.size 5 A n c xs) (h1:∀u∈xs,u.oneCell'=τ) (hn:n≤1000000):
 Ζ η 104 #[γ A n c] w fun e w'=>∃A' c',e=.returned (γ A' n c')∧Ow w w.heap.size 59 5 (γ A' n c') n xs w':=by
 obtain⟨i0,hi,qJ,ly,kK⟩:=aW lP;cases A with
 |none=>
  obtain⟨rfl,rfl⟩:=h.none_ rfl;have kE:xs=[]:=JaB (by simpa using h.len);subst kE;have kE:∀w',(binOp .eql 22 (γ ε 0 0) (γ ε 0 0)).run η w'=.ok (Β τ) w':=fun w'=>JbH w' _ _ _ _ _ _ _ Tryz.underlying22
  clear h h1;go_enter Tryz.func104,Tryz.ntmps104;go_wp2;go_ret;exact⟨_,_,rfl,Ow.nil_ (Θ _ _) (Δ _) (Δ _)⟩
 |some a=>
  have H:=qh (h.al (δ #[] 59));have HO:Hid (Ow w w.heap.size 59 5 (γ (ζ ⟨w.heap.size,0,ε⟩) 0 0) 0 [] (w.alloc (δ #[] 59))):=qh (Ow.new_ (cs:=#[]) (Θ _ _) (Δ _) (Δ _) (Jas _) rfl);have kE:∀w',(binOp .eql 22 (γ (ζ a) n c) (γ ε 0 0)).run η w'=.ok (Β ρ) w':=fun w'=>JbH w' _ _ _ _ _ _ _ Tryz.underlying22
  clear h;go_enter Tryz.func104,Tryz.ntmps104
  go_wp2_with (first
   |(at_builtin
     refine cC rfl (.tmp 5) (.tmp 6) _ rfl _ 59 i0 _ 5 64 Tryz.underlying22 hi qJ ly kK rfl (by decide) _ _ _ rfl (by exact HO.out) _ (ζ a) n c xs rfl (by exact H.out) h1 (by unfold maxLen;omega) (by omega) ?_;intro v1 w1 fh cP tF;rw[JaI,JaF] at fh;obtain⟨Aq,cq,rfl,-⟩:=fh.rds;have nb:=qh fh;clear fh cP tF))
  go_ret;exact⟨_,_,rfl,nb.out⟩
theorem Rr (A:Option Κ) (n c:Nat) (xs:List ψ) (w:ο) (h:bg w w.heap.size 4 A n c xs) (h1:∀u∈xs,u.oneCell'=τ) (hn:n≤1000000):
 Ζ η 105 #[γ A n c] w fun e w'=>∃A' c',e=.returned (γ A' n c')∧Ow w w.heap.size 67 4 (γ A' n c') n xs w':=by
 obtain⟨i0,hi,qJ,ly,kK⟩:=aW pK;cases A with
 |none=>
  obtain⟨rfl,rfl⟩:=h.none_ rfl;have kE:xs=[]:=JaB (by simpa using h.len);subst kE;have kE:∀w',(binOp .eql 23 (γ ε 0 0) (γ ε 0 0)).run η w'=.ok (Β τ) w':=fun w'=>JbH w' _ _ _ _ _ _ _ Tryz.underlying23
  clear h h1;go_enter Tryz.func105,Tryz.ntmps105;go_wp2;go_ret;exact⟨_,_,rfl,Ow.nil_ (Θ _ _) (Δ _) (Δ _)⟩
 |some a=>
  have H:=qh (h.al (δ #[] 67));have HO:Hid (Ow w w.heap.size 67 4 (γ (ζ ⟨w.heap.size,0,ε⟩) 0 0) 0 [] (w.alloc (δ #[] 67))):=qh (Ow.new_ (cs:=#[]) (Θ _ _) (Δ _) (Δ _) (Jas _) rfl);have kE:∀w',(binOp .eql 23 (γ (ζ a) n c) (γ ε 0 0)).run η w'=.ok (Β ρ) w':=fun w'=>JbH w' _ _ _ _ _ _ _ Tryz.underlying23
  clear h;go_enter Tryz.func105,Tryz.ntmps105
  go_wp2_with (first
   |(at_builtin
     refine cC rfl (.tmp 5) (.tmp 6) _ rfl _ 67 i0 _ 4 40 Tryz.underlying23 hi qJ ly kK rfl (by decide) _ _ _ rfl (by exact HO.out) _ (ζ a) n c xs rfl (by exact H.out) h1 (by unfold maxLen;omega) (by omega) ?_;intro v1 w1 fh cP tF;rw[JaI,JaF] at fh;obtain⟨Aq,cq,rfl,-⟩:=fh.rds;have nb:=qh fh;clear fh cP tF))
  go_ret;exact⟨_,_,rfl,nb.out⟩
theorem QI (A:Option Κ) (n c:Nat) (xs:List ψ) (w:ο) (h:bg w w.heap.size 3 A n c xs) (h1:∀u∈xs,u.oneCell'=τ) (hn:n≤1000000):
 Ζ η 132 #[γ A n c] w fun e w'=>∃A' c',e=.returned (γ A' n c')∧Ow w w.heap.size 32 3 (γ A' n c') n xs w':=by
 obtain⟨i0,hi,qJ,ly,kK⟩:=aW ju;cases A with
 |none=>
  obtain⟨rfl,rfl⟩:=h.none_ rfl;have kE:xs=[]:=JaB (by simpa using h.len);subst kE;have kE:∀w',(binOp .eql 57 (γ ε 0 0) (γ ε 0 0)).run η w'=.ok (Β τ) w':=fun w'=>JbH w' _ _ _ _ _ _ _ Tryz.underlying57
  clear h h1;go_enter Tryz.func132,Tryz.ntmps132;go_wp2;go_ret;exact⟨_,_,rfl,Ow.nil_ (Θ _ _) (Δ _) (Δ _)⟩
 |some a=>
  have H:=qh (h.al (δ #[] 32));have HO:Hid (Ow w w.heap.size 32 3 (γ (ζ ⟨w.heap.size,0,ε⟩) 0 0) 0 [] (w.alloc (δ #[] 32))):=qh (Ow.new_ (cs:=#[]) (Θ _ _) (Δ _) (Δ _) (Jas _) rfl);have kE:∀w',(binOp .eql 57 (γ (ζ a) n c) (γ ε 0 0)).run η w'=.ok (Β ρ) w':=fun w'=>JbH w' _ _ _ _ _ _ _ Tryz.underlying57
  clear h;go_enter Tryz.func132,Tryz.ntmps132
  go_wp2_with (first
   |(at_builtin
     refine cC rfl (.tmp 5) (.tmp 6) _ rfl _ 32 i0 _ 3 24 Tryz.underlying57 hi qJ ly kK rfl (by decide) _ _ _ rfl (by exact HO.out) _ (ζ a) n c xs rfl (by exact H.out) h1 (by unfold maxLen;omega) (by omega) ?_;intro v1 w1 fh cP tF;rw[JaI,JaF] at fh;obtain⟨Aq,cq,rfl,-⟩:=fh.rds;have nb:=qh fh;clear fh cP tF))
  go_ret;exact⟨_,_,rfl,nb.out⟩
theorem sD {w:ο} {B B' n:Nat} {e:Υ} {size:Nat} {v:ψ} {xs:List ψ} (h:w.ownsRow B e size v n xs) (hB:B'≤B):w.ownsRow B' e size v n xs:=by
 refine⟨h.1,?_⟩
 rcases h.2 with h|⟨g,cap,cur,h1,h2,h3⟩
 ·exact .inl h
 ·exact .inr ⟨g,cap,cur,h1,Λ hB h2,h3⟩
theorem DH (l:List D):∀u∈aA l,u.oneCell'=τ:=by
 rw[lN];exact p7 dC (by simp[dC,Τ]) l
theorem Nq (v:VC) (w:ο) (h:RgOk w v.2.1) (hn:v.2.1.2.1≤1000000):
 Ζ η 106 #[φ (vC v).toArray] w fun e w'=>∃A' c',e=.returned (φ (vC (v.1,(A',v.2.1.2.1,c',v.2.1.2.2.2),v.2.2)).toArray)∧Ow w w.heap.size 32 3 (γ A' v.2.1.2.1 c') v.2.1.2.1 (aA v.2.1.2.2.2) w':=by
 obtain⟨⟨i1,i2⟩,⟨rA,rn,rc,rL⟩,lb,at_⟩:=v;have hr:bg w w.heap.size 3 rA rn rc (aA rL):=h.2;replace hn:rn≤1000000:=hn;show Ζ η 106 #[φ #[J i1,J i2,γ rA rn rc,μ lb,J at_]] w fun e w'=>∃A' c',e=.returned (φ #[J i1,J i2,γ A' rn c',μ lb,J at_])∧Ow w w.heap.size 32 3 (γ A' rn c') rn (aA rL) w'
 have hz:η.info? 59=η.info? 59:=rfl;have HR:=qh ((hr.al (δ #[J i1,J i2,γ rA rn rc,μ lb,J at_] 59)).al (δ #[J 0,J 0,γ ε 0 0,μ {data:=#[]},J 0] 59));have HW:=qh ((Whole.new_ w 59 [J i1,J i2,γ rA rn rc,μ lb,J at_]).alloc (δ #[J 0,J 0,γ ε 0 0,μ {data:=#[]},J 0] 59));have HY:Hid (Whole _ (w.heap.size+1) 59 [J 0,J 0,γ ε 0 0,μ {data:=#[]},J 0]):=qh (Whole.new2 (w:=w.alloc (δ #[J i1,J i2,γ rA rn rc,μ lb,J at_] 59)) (by simp));have HB:=qh (cr w (δ #[J i1,J i2,γ rA rn rc,μ lb,J at_] 59) (δ #[J 0,J 0,γ ε 0 0,μ {data:=#[]},J 0] 59));clear h hr hz;go_enter Tryz.func106,Tryz.ntmps106;go_wp2_with fail
 refine(QI rA rn rc (aA rL) _ HR.out (DH rL) hn).mono ?_
 rintro e w3 ⟨A',c',rfl,ho⟩;have fU:w.heap.size+1<((w.alloc (δ #[J i1,J i2,γ rA rn rc,μ lb,J at_] 59)).alloc (δ #[J 0,J 0,γ ε 0 0,μ {data:=#[]},J 0] 59)).heap.size:=by simp
 have FZ:=ho.low_ne (g:=w.heap.size) (by omega);have ni:=ho.low_ne (g:=w.heap.size+1) fU;have hx:=HW.out.below ho.below;have hy:=HY.out.below ho.below;have hO:Ow w w.heap.size 32 3 (γ A' rn c') rn (aA rL) w3:=⟨sD ho.own (by omega),HB.out.trans (ho.below.mono HB.out.size),Δ _,Λ (by omega) ho.hi⟩;have oH:=((((((hO.set_far (i:=2) FZ (Δ _) (γ A' rn c')).set_far (i:=0) ni (by omega) (J i1)).set_far (i:=1) ni (by omega) (J i2)).set_far (i:=2) ni (by omega) (γ A' rn c')).set_far (i:=3) ni (by omega) (μ lb)).set_far (i:=4) ni (by omega) (J at_));have Fy:=(((((hy.set_far' (i:=2) (h:=w.heap.size) (by omega) (γ A' rn c')).set_ 0 (J i1)).set_ 1 (J i2)).set_ 2 (γ A' rn c')).set_ 3 (μ lb)).set_ 4 (J at_);have Bh:=qh oH;have Gx:=qh Fy;have x0:=hx.cell (i:=0) rfl;have x1:=hx.cell (i:=1) rfl;have x2:=hx.cell (i:=2) rfl;have x3:=hx.cell (i:=3) rfl;have x4:=hx.cell (i:=4) rfl;have f2:=hx.free 2;have y0:=hy.cell (i:=0) rfl;have y1:=hy.cell (i:=1) rfl;have y2:=hy.cell (i:=2) rfl;have y3:=hy.cell (i:=3) rfl;have y4:=hy.cell (i:=4) rfl;have e0:=hy.free 0;have e1:=hy.free 1;have e2:=hy.free 2;have e3:=hy.free 3;have e4:=hy.free 4;clear ho hx hy hO oH Fy FZ ni fU HW HY HB HR;go_wp2;exact dO rfl (w.heap.size+1) rfl Gx.out Tryz.underlying59 rfl (by kernel_rfl) rfl ⟨A',c',rfl,Bh.out⟩
def lS (x:Int × Int):List ψ:=[J x.1,J x.2]
theorem bS {P:Program} {fn:Func} {R:Ending→ο→Prop} {a:Act} {w:ο} {p u:Tmp} {t:Υ} (h:fn.results=#[.cell p t,.tmp u]) (g:Nat) {t':Υ} {cs:List ψ} {d:TypeDesc} {v:ψ}
 (hp:a.tmps.getD p undef=.pointer (ζ ⟨g,0,ε⟩)) (hv:a.tmps.getD u undef=v) (hW:Whole w g t' cs) (hu:P.underlying t=ζ d) (hd:d.isRow=τ) (hi:(P.info? t).map (·.size)=ζ cs.length)
 (Qe:a.defers=[]) (hR:R (.returned (.tuple #[φ cs.toArray,v])) w):bodyPost P fn R .ret a w:=by
 refine bodyPost_ret (v:=.tuple #[φ cs.toArray,v]) ?_ Qe hR
 have hl:=run_loadVar_mid (P:=P) w g 0 t cs d (fun j v hv=>by
  have:=hW.cell hv
  simpa using this) hu hd hi
 rw[results_cell_tmp h,hp,hv];simp[asAddr,Result.andThen,hl]
def lE (Vs:List VC) (x:D):(Int × Int) × Bool:=match Vs.find? (fun v=>decide (x∈v.2.1.2.2.2)) with|some v=>(v.1,τ)|none=>((0,0),ρ)
theorem Ak (v:VC) (r:List VC) (x:D) (h:x∈v.2.1.2.2.2):lE (v::r) x=(v.1,τ):=by simp[lE,h]
theorem EI (v:VC) (r:List VC) (x:D) (h:¬x∈v.2.1.2.2.2):lE (v::r) x=lE r x:=by simp[lE,h]
def KR {α:Type} (nm:α→Int × Int) (z:α) (L:List α) (x:Int × Int):α × Bool:=match L.find? (fun v=>decide (nm v=x)) with|some v=>(v,τ)|none=>(z,ρ)
theorem sE {α:Type} (nm:α→Int × Int) (z v:α) (r:List α) (x:Int × Int) (h:nm v=x):KR nm z (v::r) x=(v,τ):=by simp[KR,h]
theorem wP {α:Type} (nm:α→Int × Int) (z v:α) (r:List α) (x:Int × Int) (h:¬nm v=x):KR nm z (v::r) x=KR nm z r x:=by simp[KR,h]
def zV:VC:=((0,0),(ε,0,0,[]),⟨#[]⟩,0)
def zE:EC:=((0,0),⟨#[]⟩,0)
def eP (L:List VC) (x:Int × Int):=KR (fun v:VC=>v.1) zV L x
def wu (L:List EC) (x:Int × Int):=KR (fun v:EC=>v.1) zE L x
theorem II {α:Type} (nm:α→Int × Int) (z:α) (L:List α) (x:Int × Int):(KR nm z L x).1∈L∨KR nm z L x=(z,ρ):=by
 unfold KR;split
 ·rename_i v h;exact .inl (List.mem_of_find?_eq_some h)
 ·exact .inr rfl
theorem mL {w:ο} {A B:Option Κ} {n c m k:Nat} {Vs:List VC} {Es:List EC} (h:bz w A n c Vs B m k Es) (hr:∀x∈Vs,x.2.1.2.1≤1000000) (x:Int × Int):
 RgOk w (eP Vs x).1.2.1∧(eP Vs x).1.2.1.2.1≤1000000:=by
 rcases II (fun v:VC=>v.1) zV Vs x with hm|he
 ·exact⟨h.r _ hm,hr _ hm⟩
 ·have e:eP Vs x=(zV,ρ):=he;rw[e];exact⟨⟨Jas _,bg.no _ _ _⟩,by decide⟩
def vS (v:VC):(Int × Int) × List D × ByteArray × Int:=(v.1,v.2.1.2.2.2,v.2.2.1,v.2.2.2)
theorem bytes_inj {t t':ByteArray} (h:t.toList=t'.toList):t=t':=by
 rw[ByteArray.toList_eq,ByteArray.toList_eq] at h;exact ByteArray.ext (Array.toList_inj.1 h)
theorem yX (s t:ByteArray):s.toList=t.toList↔s=t:=⟨bytes_inj,fun h=>by rw[h]⟩
theorem bytes_beq (s t:ByteArray):(s.toList==t.toList)=decide (s=t):=by
 rw[Bool.eq_iff_iff];simp[yX]
theorem Qz (a b:EC) (W:ο):(binOp .neq 67 (φ (eC a).toArray) (φ (eC b).toArray)).run η W=.ok (Β (!decide (a=b))) W:=by
 obtain⟨⟨a1,a2⟩,a3,a4⟩:=a;obtain⟨⟨b1,b2⟩,b3,b4⟩:=b
 by_cases h1:a1=b1<;>by_cases h2:a2=b2<;>by_cases h3:a3=b3<;>by_cases h4:a4=b4<;>simp[go_sem,eC,yX,h1,h2,h3,h4]
theorem DP {w W:ο} {bb o:Nat} {cs:List ψ} (hb:Below w.heap.size w W) (hB:bb<w.heap.size) (h:∀j v,cs[j]? =ζ v→w.cell? (Addr.add ⟨bb,o,ε⟩ j)=ζ v):
 ∀w',Kept aO W w'→∀j v,cs[j]? =ζ v→w'.cell? (Addr.add ⟨bb,o,ε⟩ j)=ζ v:=fun w' hk j v hv=>hk.nil_cell ((hb.cell (by rw[en];exact hB)).trans (h j v hv))
abbrev Gn:=D × D
def cZ (g:Gn):List ψ:=[J g.1.1,J g.1.2.1,J g.1.2.2,J g.2.1,J g.2.2.1,J g.2.2.2]
theorem bT (g:Gn):(cZ g).length=6:=rfl
theorem kz (g:Gn):∀v∈cZ g,v.oneCell'=τ:=by simp[cZ,Τ]
def zD:D:=(0,0,0)
def fX:List Gn→D→D × Bool
 |[],_=>(zD,ρ)
 |g::G,d=>if g.1=d then(g.2,τ) else fX G d
def kr (st:D→Bool) (G:List Gn):Nat→D→D
 |0,d=>if st d=τ then d else zD
 |k+1,d=>if st d=τ then d else if (fX G d).2=τ then kr st G k (fX G d).1 else zD
theorem Jb (st:D→Bool) (G:List Gn) (n:Nat) {d:D} (h:st d=τ):kr st G n d=d:=by
 cases n<;>simp only[kr,if_pos h]
theorem Jf (st:D→Bool) (G:List Gn) (n:Nat) {d:D} (h:¬st d=τ) (ht:(fX G d).2=τ):kr st G (n+1) d=kr st G n (fX G d).1:=by
 simp only[kr,if_neg h,if_pos ht]
theorem J4 (st:D→Bool) (G:List Gn) (n:Nat) {d:D} (h:¬st d=τ) (ht:¬(fX G d).2=τ):kr st G n d=zD:=by
 cases n with
 |zero=>simp only[kr,if_neg h]
 |succ n=>simp only[kr,if_neg h,if_neg ht]
theorem M9 (st:D→Bool) (G:List Gn) {d:D} (h:¬st d=τ):kr st G 0 d=zD:=by simp only[kr,if_neg h]
def xW (Vs:List VC) (x:D):Bool:=(lE Vs x).2
theorem bU {α:Type} (f:α→List ψ) (h:∀x,∀u∈f x,u.oneCell'=τ):∀L,∀u∈ah f L,u.oneCell'=τ
 |[],u,hu=>by cases hu
 |x::L,u,hu=>by
  rcases List.mem_append.1 (show u∈f x++ah f L from hu) with q|q
  ·exact h x u q
  ·exact bU f h L u q
theorem mP:(η.info? 98).map (fun i=>(i.zero,i.size,i.bytes))=ζ (ζ (φ #[J 0,J 0,J 0,J 0,J 0,J 0]),6,48):=by kernel_rfl
def cH (y x:Gn):Int:=jS y.1.1 y.1.2.1 y.1.2.2 x.1.1 x.1.2.1 x.1.2.2
theorem da {P:Program} (w:ο) (dT sT ty elem:Υ) (s b o abj acR:Nat) (a:Κ) (ZV adH m:Nat) (cs:List ψ)
 (hu:P.underlying dT=ζ (.slice elem)) (hs:(P.info? elem).map (·.size)=ζ s) (hm:Nat.min ZV abj=m) (hn:m*s=cs.length)
 (Mq:∀j v,cs[j]? =ζ v→w.cell? (a.add j)=ζ v) (hc:∀j,j<cs.length→(w.cell? ⟨b,o+j,ε⟩).isSome=τ) (hf:∀j,j<cs.length→w.frozen? ⟨b,o+j,ε⟩=ρ) (h1:∀v∈cs,v.oneCell'=τ):
 (Jbr #[dT,sT] ty #[γ (ζ ⟨b,o,ε⟩) abj acR,γ (ζ a) ZV adH]).run P w=.ok (goInt m) (w.setCells b o cs):=by
 have hl:=run_loadCells_list (P:=P) w a cs Mq;have Py:=run_storeCells_cells (P:=P) b o cs 0 w (by simpa using hc) (by simpa using hf) h1;cases hq:P.info? elem with
 |none=>simp[hq] at hs
 |some i=>
  have hi:i.size=s:=by simpa [hq] using hs
  simp[Jbr,run_underlying hu,Builtin.lenOf,Builtin.firstCells,sizeOf,typeInfo,hq,hi,hm,hn,hl,Py]
theorem iH {W:ο} {g:Nat} {t:Υ} {cs:List ψ} (h:Whole W g t cs):W.shape? g=ζ (t,cs.length):=by
 have h2:W.heap[g]? =ζ (δ cs.toArray t):=h;simp[World.shape?,h2]
theorem dA {W:ο} {g:Nat} {t:Υ} {cs:List ψ} (h:Whole W g t cs) {j:Nat} (hj:j<cs.length):(W.cell? ⟨g,j,ε⟩).isSome=τ:=by
 rw[h.cell (i:=j) (θ hj)];rfl
theorem GF (A:Option Κ) (n c:Nat) (xs:List ψ) (w:ο) (h:bg w w.heap.size 6 A n c xs) (h1:∀u∈xs,u.oneCell'=τ) (hn:n≤1000000):
 Ζ η 81 #[γ A n c] w fun e w'=>∃A' c',e=.returned (γ A' n c')∧Ow w w.heap.size 98 6 (γ A' n c') n xs w':=by
 obtain⟨i0,hi,qJ,ly,kK⟩:=aW mP;cases A with
 |none=>
  obtain⟨rfl,rfl⟩:=h.none_ rfl;have kE:xs=[]:=JaB (by simpa using h.len);subst kE;have kE:∀w',(binOp .eql 26 (γ ε 0 0) (γ ε 0 0)).run η w'=.ok (Β τ) w':=fun w'=>JbH w' _ _ _ _ _ _ _ Tryz.underlying26
  clear h h1;go_enter Tryz.func81,Tryz.ntmps81;go_wp2;go_ret;exact⟨_,_,rfl,Ow.nil_ (Θ _ _) (Δ _) (Δ _)⟩
 |some a=>
  have H:=qh (h.al (δ #[] 98));have HO:Hid (Ow w w.heap.size 98 6 (γ (ζ ⟨w.heap.size,0,ε⟩) 0 0) 0 [] (w.alloc (δ #[] 98))):=qh (Ow.new_ (cs:=#[]) (Θ _ _) (Δ _) (Δ _) (Jas _) rfl);have kE:∀w',(binOp .eql 26 (γ (ζ a) n c) (γ ε 0 0)).run η w'=.ok (Β ρ) w':=fun w'=>JbH w' _ _ _ _ _ _ _ Tryz.underlying26
  clear h;go_enter Tryz.func81,Tryz.ntmps81
  go_wp2_with (first
   |(at_builtin
     refine cC rfl (.tmp 5) (.tmp 6) _ rfl _ 98 i0 _ 6 48 Tryz.underlying26 hi qJ ly kK rfl (by decide) _ _ _ rfl (by exact HO.out) _ (ζ a) n c xs rfl (by exact H.out) h1 (by unfold maxLen;omega) (by omega) ?_;intro v1 w1 fh cP tF;rw[JaI,JaF] at fh;obtain⟨Aq,cq,rfl,-⟩:=fh.rds;have nb:=qh fh;clear fh cP tF))
  go_ret;exact⟨_,_,rfl,nb.out⟩
def rq:List Gn→Gn→List Gn
 |[],x=>[x]
 |y::G,x=>if cH y x<0 then y::rq G x else if cH y x=0 then x::G else x::y::G
theorem kL (y x:Gn):cH y x=0↔y.1=x.1:=by
 unfold cH;rw[pM];obtain⟨⟨a,b,c⟩,y2⟩:=y;obtain⟨⟨d,e,f⟩,x2⟩:=x;simp
theorem BL:∀(G:List Gn) (x:Gn),(rq G x).length≤G.length+1
 |[],x=>Δ _
 |y::G,x=>by
  show(if cH y x<0 then y::rq G x else if cH y x=0 then x::G else x::y::G).length≤G.length+1+1
  have:=BL G x
  split
  ·simp only[List.length_cons];omega
  ·split<;>simp
def cT:List Gn→Prop
 |[]=>True
 |[_]=>True
 |y::z::G=>cH y z<0∧cT (z::G)
theorem qK {a b c:Gn} (h:cH a b≤0) (k:cH b c≤0):cH a c≤0:=ru _ _ _ _ _ _ _ _ _ h k
theorem sH (a b:Gn):cH b a= - cH a b:=wK _ _ _ _ _ _
theorem zm (a:Gn):cH a a=0:=(kL a a).2 rfl
theorem qN {y:Gn} {G:List Gn} (h:cT (y::G)):cT G:=by
 cases G with
 |nil=>trivial
 |cons z G=>exact h.2
theorem lF:∀(G:List Gn) {y z:Gn},cT (y::G)→z∈y::G→cH y z≤0
 |[],y,z,h,hz=>by
  obtain rfl:=List.mem_singleton.1 hz;rw[zm];exact Int.le_refl _
 |z1::G,y,z,h,hz=>by
  rcases List.mem_cons.1 hz with rfl|hz
  ·rw[zm];exact Int.le_refl _
  ·exact qK (Int.le_of_lt h.1) (lF G h.2 hz)
theorem q9:∀{G:List Gn},cT G→G.Pairwise (fun a b=>cH a b<0)
 |[],_=>List.Pairwise.nil
 |y::G,h=>by
  refine List.Pairwise.cons (fun z hz=>?_) (q9 (qN h));cases G with
  |nil=>cases hz
  |cons g G=>
   have h1:=lF G h.2 hz;have h2:=h.1;have h3:=qK (Int.le_of_lt h2) h1
   have h4:cH y z≠0:=fun e=>by
    have e1:=(kL y z).1 e;have e2:cH g z=cH g y:=by unfold cH;rw[e1]
    rw[e2,sH y g] at h1;omega
   omega
theorem yY:∀(G:List Gn) (x:Gn),cT G→cT (rq G x)
 |[],x,_=>trivial
 |[y],x,_=>by
  show cT (if cH y x<0 then[y,x] else if cH y x=0 then[x] else[x,y])
  by_cases h1:cH y x<0
  ·rw[if_pos h1];exact⟨h1,trivial⟩
  ·rw[if_neg h1]
   by_cases h0:cH y x=0
   ·rw[if_pos h0];trivial
   ·rw[if_neg h0];exact⟨by rw[sH y x];omega,trivial⟩
 |y::z::G,x,h=>by
  have h0:=yY (z::G) x h.2;show cT (if cH y x<0 then y::rq (z::G) x else if cH y x=0 then x::z::G else x::y::z::G)
  by_cases h1:cH y x<0
  ·rw[if_pos h1];have e:rq (z::G) x=if cH z x<0 then z::rq G x else if cH z x=0 then x::G else x::z::G:=rfl
   rw[e] at h0 ⊢;split
   ·rename_i h2;rw[if_pos h2] at h0;exact⟨h.1,h0⟩
   ·rename_i h2;rw[if_neg h2] at h0;split
    ·rename_i h3;rw[if_pos h3] at h0;exact⟨h1,h0⟩
    ·rename_i h3;rw[if_neg h3] at h0;exact⟨h1,h0⟩
  ·rw[if_neg h1]
   by_cases h2:cH y x=0
   ·rw[if_pos h2];have e1:=(kL y x).1 h2;have e2:cH x z=cH y z:=by unfold cH;rw[e1]
    exact⟨by rw[e2];exact h.1,h.2⟩
   ·rw[if_neg h2];exact⟨by rw[sH y x];omega,h⟩
theorem rfind_any (A:Option Κ) (n c:Nat) (G:List Gn) (d:D) (w:ο) (h:bg w w.heap.size 6 A n c (ah cZ G)) (hn:n≤1000000):
 Ζ η 101 #[γ A n c,φ #[J d.1,J d.2.1,J d.2.2]] w fun e w'=>e=.returned (.tuple #[φ #[J (fX G d).1.1,J (fX G d).1.2.1,J (fX G d).1.2.2],Β (fX G d).2])∧Below w.heap.size w w':=by
 have H:=qh h;have Hl:=qh (h.rlen bT (by decide));obtain⟨⟨r,ok⟩,gr⟩:∃z,fX G d=z:=⟨_,rfl⟩
 rw[gr];have HG:=qh gr;clear h gr;go_enter Tryz.func101,Tryz.ntmps101;go_wp2;obtain⟨W0,b0,b1,bO,bp,dE,aQ,aL,bw,mQ,lZ,oa,uD,iP,uW⟩:=wT w 32 [J d.1,J d.2.1,J d.2.2] 32 [J 0,J 0,J 0];rw[bO,dE,bp];clear bO bp dE;go_loopw [6] (fun si wr=>∃j:Nat,j≤n∧si=J j∧Hid (Below w.heap.size w wr)∧Hid (Whole wr b0 32 [J d.1,J d.2.1,J d.2.2])∧Hid (Whole wr b1 32 [J 0,J 0,J 0])∧Hid (fX (G.drop j) d=(r,ok))) (fun si _=>n - (intOf si).toNat)
 case atStart=>exact⟨0,by omega,rfl,bw,aQ,aL,HG⟩
 case round=>
  clear bw aQ aL HG;obtain⟨j,hj,rfl,HB,aQ,aL,HG⟩:=hrel;obtain⟨wo,cS⟩:=aB wr;rw[cS] at HB aQ aL ⊢;clear cS
  by_cases nT:j<n
  ·obtain⟨x,hx⟩:∃x,G[j]? =ζ x:=⟨_,θ (by have:=Hl.out;omega)⟩
   have kd:G.drop j=x::G.drop (j+1):=by
    rw[List.drop_eq_getElem_cons (ν.1 hx).1,(ν.1 hx).2]
   have iZ:=HG.out;rw[kd] at iZ;have dQ:=qh iZ;obtain⟨bb,off,rfl,aY,a8⟩:=H.out.place bT (by decide) (by omega);have bC:=HB.out;have q0:=a8 j _ hx 0 _ rfl;have q1:=a8 j _ hx 1 _ rfl;have q2:=a8 j _ hx 2 _ rfl;have q3:=a8 j _ hx 3 _ rfl;have q4:=a8 j _ hx 4 _ rfl;have q5:=a8 j _ hx 5 _ rfl;simp only[Addr.add_lit,Nat.add_zero] at q0 q1 q2 q3 q4 q5;have l0:=(bC.cell (p:=⟨bb,off+j*6,ε⟩) aY).trans q0;have l1:=(bC.cell (p:=⟨bb,off+j*6+1,ε⟩) aY).trans q1;have l2:=(bC.cell (p:=⟨bb,off+j*6+2,ε⟩) aY).trans q2;have l3:=(bC.cell (p:=⟨bb,off+j*6+3,ε⟩) aY).trans q3;have l4:=(bC.cell (p:=⟨bb,off+j*6+4,ε⟩) aY).trans q4;have l5:=(bC.cell (p:=⟨bb,off+j*6+5,ε⟩) aY).trans q5;clear bC q0 q1 q2 q3 q4 q5;have fL:=cz l0;have ld1:=cz l1;have ka:=cz l2;have s6:=cm (i:=0) aQ.out rfl;have sX:=cm (i:=1) aQ.out rfl;have Yd:=cm (i:=2) aQ.out rfl;have RG:(j:Int)<(n:Int):=by omega
   have hq:=iI x.1 d;have L3:=qh l3;have L4:=qh l4;have L5:=qh l5;clear hx kd iZ a8 HG l0 l1 l2 l3 l4 l5
   by_cases hd:x.1=d
   ·rw[decide_eq_true hd] at hq;have hg:=dQ.out;rw[fX,if_pos hd] at hg;injection hg with xL iZ
    subst xL iZ;clear hd;go_upto_region 4 with fail
    refine ay (aO) (by kernel_rfl) ?_;refine aa 0 ?_;refine aa 1 ?_;refine aa 2 ?_;refine aa 3 ?_;refine aa 4 ?_;refine aa 5 ?_;refine cV 6 (hy:=dD (by rfl) (fun w' aC=>dU .eql 32 (.tmp 17) (.tmp 18) 32 rfl rfl rfl (by kernel_rfl) (hq w'))) (h:=?_);refine aF (by kernel_rfl) ?_ _;intro W3 du;have hw4:=ag (aN (Θ wo.heap.size wo)) du;have lX:=qh (ag HB.out hw4);have j6:=qh (aQ.out.below hw4);have eD:=qh (aL.out.below hw4);have l3:=(hw4.cell (p:=⟨bb,off+j*6+3,ε⟩) (by have:=HB.out.size;exact JaK aY this)).trans L3.out;have l4:=(hw4.cell (p:=⟨bb,off+j*6+4,ε⟩) (by have:=HB.out.size;exact JaK aY this)).trans L4.out;have l5:=(hw4.cell (p:=⟨bb,off+j*6+5,ε⟩) (by have:=HB.out.size;exact JaK aY this)).trans L5.out;have f0:=eD.out.free 0;have f1:=eD.out.free 1;have f2:=eD.out.free 2;have k0:=eD.out.cell (i:=0) rfl;have k1:=eD.out.cell (i:=1) rfl;have k2:=eD.out.cell (i:=2) rfl;have HY:=qh (((eD.out.set_ 0 (J x.2.1)).set_ 1 (J x.2.2.1)).set_ 2 (J x.2.2.2));have rQ:=qh (((lX.out.setCell (p:=⟨b1,0,ε⟩) iP.out (J x.2.1)).setCell (p:=⟨b1,1,ε⟩) iP.out (J x.2.2.1)).setCell (p:=⟨b1,2,ε⟩) iP.out (J x.2.2.2));clear eD j6 lX dQ du hw4 HB aQ aL fL ld1 ka s6 sX Yd hq L3 L4 L5;go_wp2;exact bS rfl b1 rfl rfl HY.out Tryz.underlying32 rfl (by kernel_rfl) rfl ⟨rfl,rQ.out⟩
   ·rw[decide_eq_false hd] at hq;have hg:=dQ.out;rw[fX,if_neg hd] at hg;have Bx:=qh hg;clear hg hd;go_upto_region 4 with fail
    refine ay (aO) (by kernel_rfl) ?_;refine aa 0 ?_;refine aa 1 ?_;refine aa 2 ?_;refine aa 3 ?_;refine aa 4 ?_;refine aa 5 ?_;refine cV 6 (hy:=dD (by rfl) (fun w' aC=>dU .eql 32 (.tmp 17) (.tmp 18) 32 rfl rfl rfl (by kernel_rfl) (hq w'))) (h:=?_);refine aF (by kernel_rfl) ?_ _;intro W3 du;have hw4:=ag (aN (Θ wo.heap.size wo)) du;have lX:=qh (ag HB.out hw4);have j6:=qh (aQ.out.below hw4);have eD:=qh (aL.out.below hw4);clear dQ du hw4 HB aQ aL fL ld1 ka s6 sX Yd hq L3 L4 L5;go_wp2;go_roundw
    case rel=>exact⟨j+1,by omega,by go_num,lX,j6,eD,Bx⟩
    case measure=>simp[intOf];omega
  ·obtain rfl:n=j:=by omega
   have hg:=HG.out;rw[List.drop_eq_nil_of_le (by have:=Hl.out;omega)] at hg;replace hg:(zD,ρ)=(r,ok):=hg;injection hg with xL iZ
   subst xL iZ;have f0:=aL.out.free 0;have f1:=aL.out.free 1;have f2:=aL.out.free 2;have k0:=aL.out.cell (i:=0) rfl;have k1:=aL.out.cell (i:=1) rfl;have k2:=aL.out.cell (i:=2) rfl;have HY:=qh (((aL.out.set_ 0 (J 0)).set_ 1 (J 0)).set_ 2 (J 0));have rQ:=qh (((HB.out.setCell (p:=⟨b1,0,ε⟩) iP.out (J 0)).setCell (p:=⟨b1,1,ε⟩) iP.out (J 0)).setCell (p:=⟨b1,2,ε⟩) iP.out (J 0));clear HG aL;go_wp2;exact bS rfl b1 rfl rfl HY.out Tryz.underlying32 rfl (by kernel_rfl) rfl ⟨rfl,rQ.out⟩
theorem oN (A:Option Κ) (n c:Nat) (L:List D) (d:D) (w:ο) (h:bg w w.heap.size 3 A n c (aA L)) (hn:n≤9223372036854775807):
 Ζ η 33 #[γ A n c,φ #[J d.1,J d.2.1,J d.2.2]] w fun e w'=>e=.returned (J (fC L d))∧Below w.heap.size w w':=by
 have hl:=h.dlen;have HL:=qh hl;have H:=qh h;have HS:Hid (Ha w L d 0 (w.alloc (δ #[J d.1,J d.2.1,J d.2.2] 32))):=⟨fun j hj=>absurd hj (by omega),Whole.new_ w _ [J d.1,J d.2.1,J d.2.2],az _ _⟩;clear h hl;go_enter Tryz.func33,Tryz.ntmps33;go_wp2;go_loopw [5] (fun i wr=>∃k:Nat,k≤n∧i=J k∧Ha w L d k wr) (fun i _=>n - (intOf i).toNat)
 case atStart=>exact⟨0,Jas _,rfl,HS.out⟩
 case round=>
  obtain⟨k,hk,rfl,h1,h2,h3⟩:=hrel;have H1:=qh h1;have H2:=qh h2;have H3:=qh h3;clear h1 HS
  by_cases dz:k<n
  ·obtain⟨b,off,rfl,hb,hc⟩:=H.out.darts (by omega);obtain⟨c1,c2,c3⟩:=hc k (by rw[HL.out];exact dz);have d1:=(h3.cell (p:=⟨b,off+k*3,ε⟩) hb).trans c1;have d2:=(h3.cell (p:=⟨b,off+k*3+1,ε⟩) hb).trans c2;have d3:=(h3.cell (p:=⟨b,off+k*3+2,ε⟩) hb).trans c3;have b1:=h2.cell (i:=0) rfl;have b2:=h2.cell (i:=1) rfl;have b3:=h2.cell (i:=2) rfl;obtain⟨x,gx⟩:=aB (L.getD k (0,0,0));rw[gx] at d1 d2 d3;have GX:=qh gx;have hq:=iI x d;clear h2 h3 hc c1 c2 c3 gx
   by_cases hd:x=d
   ·have vt:decide (x=d)=τ:=by simpa using hd
    rw[vt] at hq;have HD:=qh hd;clear hd vt;go_wp2;go_quiet (fail);go_wp2;go_ret;exact⟨pY (by rw[Iy (by rw[HL.out];exact dz) (GX.out.trans HD.out) H1.out]),⟨H3.out.os,H3.out.tape,H3.out.output,H3.out.size,H3.out.block⟩⟩
   ·have vt:decide (x=d)=ρ:=by simpa using hd
    rw[vt] at hq;have HD:=qh hd;clear hd vt;go_wp2;go_quiet (fail);go_wp2;go_roundw
    case rel=>
     refine⟨k+1,by omega,by go_num,fun j hj=>?_,H2.out,⟨H3.out.os,H3.out.tape,H3.out.output,H3.out.size,H3.out.block⟩⟩
     rcases JaM j k with h|h
     ·exact H1.out j h
     ·obtain rfl:j=k:=by omega
      rw[GX.out];exact HD.out
    case measure=>simp[intOf];omega
  ·clear h2 h3;go_wp2;go_ret
   refine⟨pY ?_,H3.out⟩
   rw[Cr];intro j hj;exact H1.out j (by have:=HL.out;omega)
theorem JF (L:List D) (i:Nat) (h:i<L.length):(aM L).getD i (0,0,0)=L.getD ((cD L L.length+i) % L.length) (0,0,0):=by
 have hm:cD L L.length<L.length:=pN L _ (by omega);unfold aM;generalize cD L L.length=m at*;simp only[List.getD_eq_getElem?_getD];congr 1;rcases JaM (m+i) L.length with h1|h1
 ·rw[List.getElem?_append_left (by simp;omega),List.getElem?_drop,JbE h1]
 ·rw[List.getElem?_append_right (by simp;omega),List.getElem?_take,List.length_drop,if_pos (by omega)];congr 1;rw[Nat.mod_eq_sub_mod h1,JbE (by omega)];omega
theorem EG (L:List D) (k:Nat) (h:k<L.length):L.take (k+1)=L.take k++[L.getD k (0,0,0)]:=by
 rw[List.take_succ_eq_append_getElem h];simp[h]
end Go.Proofs.YtpdpbfmiahjiiaaGreat
