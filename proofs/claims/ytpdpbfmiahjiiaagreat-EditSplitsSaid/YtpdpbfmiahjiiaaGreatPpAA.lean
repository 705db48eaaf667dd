/- Several texts in one. -/
import Derived.Below
import Derived.BigQuiet
import Derived.Deep.AppendLies
import Derived.Deep.DeepCutAuto
import Derived.Deep.MidRow
import Derived.Deep.QuietTactic
import Derived.Deep.Slices
import Derived.Deep.WholeRow
import Derived.Great.Walk
import Derived.IntWalk
import Derived.Laws.AppendOwnNone
import Derived.Laws.NewBlocks
import Derived.Laws.OwnMore
import Derived.Laws.Rows
import Derived.Laws.Tables
import Derived.Lib.Hide
import Derived.Lib.SmallJoins
import Derived.LoopTactic
import Derived.Maps.AppendAt
import Derived.OrdersHeld
import Derived.Outline
import Derived.WalkKit
set_option linter.unusedSectionVars false
set_option linter.unusedSimpArgs false
set_option linter.unusedVariables false
set_option maxRecDepth 100000
set_option maxHeartbeats 16000000
namespace Go.Proofs.YtpdpbfmiahjiiaaGreat
open Go.RowKit
open _root_.Go.Value renaming slice→γ,pointer→υ,agg→φ
open _root_.Go.Obj renaming cells→δ
open _root_.Option renaming none→ε,some→ζ,some→Jae
open _root_.List renaming getElem?_eq_getElem→θ,mem_of_getElem?→ω,mem_map→Α,length_append→Ε,all_eq_true→Φ,range→Ω,mem_singleton→Jao,append_assoc→Jay,length_take→JaA,eq_nil_of_length_eq_zero→JaB,mem_filter→JaC,length_cons→JaH
open _root_.Go.Act renaming put→ξ
open _root_.Go renaming World→ο,Value→ψ,Calls→Ζ,Addr→Κ,TypeId→Υ,maxLen→Jap,Program→JaE,execOp→JaX,Oper→JaZ,Operand→Jbd,yielded→Jbo,getD_set_ne→Jbq,wpList→JbI
open _root_.Bool renaming false→ρ,true→τ
open _root_.Go.RowKit renaming Below→σ
open _root_.Nat renaming le_refl→Δ,le_trans→Λ,lt_of_lt_of_le→JaK,lt_or_ge→JaM
open _root_.Go.RowKit.Below renaming refl→Θ
open _root_.Option.some renaming inj→Μ
open _root_.Go.Addr renaming add_lit→Ν
open _root_.Array renaming getElem?_eq_some_iff→Jaa,getD→JaD,replicate→Jbe
open _root_.Go.Region renaming ready→Jaq,wanted→Jau,Mode→Jbj,noSelect→JbJ,free→JbP,binds→JbS
open _root_.Go.Builtin renaming append_→JaY
open _root_.Go.Sem renaming run_bind→Jbl,run_pure→JbO
open _root_.Go.Result renaming andThen→Jbw,andThen_ok→JbA
open _root_.Go.World renaming block_lt_of_cell?→Jbx,setCell→JbB
@[match_pattern]abbrev J(x:Int):ψ:=.int .i64 x
section
structure aX (w:ο) (B size:Nat) (A:Option Κ) (n c:Nat) (xs:List ψ):Prop where
 len:xs.length=n*size
 none_:A=ε→n=0∧c=0
 le:n≤c
 low:∀a,A=ζ a→0<n→a.block<B
 cell:∀a,A=ζ a→∀j u,xs[j]? =ζ u→w.cell? (a.add j)=ζ u
theorem cJ (a:Κ) (n:Nat):(a.add n).block=a.block:=by unfold Addr.add;split<;>rfl
theorem aX.pos {w:ο} {B size n c:Nat} {A:Option Κ} {xs:List ψ} (h:aX w B size A n c xs) {j:Nat} {u:ψ} (hu:xs[j]? =ζ u):0<n:=by
 have h1:j<xs.length:=by
  rcases JaM j xs.length with h1|h1
  ·exact h1
  ·rw[List.getElem?_eq_none h1] at hu;cases hu
 rcases Nat.eq_zero_or_pos n with h0|h0
 ·rw[h.len,h0] at h1;omega
 ·exact h0
theorem aX.keep {w w':ο} {B size n c:Nat} {A:Option Κ} {xs:List ψ} (h:aX w B size A n c xs) (hk:∀p:Κ,p.block<B→w'.cell? p=w.cell? p):aX w' B size A n c xs:=
 ⟨h.len,h.none_,h.le,h.low,fun a ha j u hu=>(hk _ (by rw[cJ];exact h.low a ha (h.pos hu))).trans (h.cell a ha j u hu)⟩
theorem aX.below {w w':ο} {B size n c:Nat} {A:Option Κ} {xs:List ψ} (h:aX w B size A n c xs) (hb:σ B w w'):aX w' B size A n c xs:=h.keep fun _ hp=>hb.cell hp
theorem aX.up {w w':ο} {B B' size n c:Nat} {A:Option Κ} {xs:List ψ} (h:aX w B size A n c xs) (hb:σ B w w') (hB:B≤B'):aX w' B' size A n c xs:=
 have h':=h.below hb
 ⟨h'.len,h'.none_,h'.le,fun a ha hn=>JaK (h'.low a ha hn) hB,h'.cell⟩
theorem aX.of_own {w:ο} {base size n:Nat} {e:Υ} {v:ψ} {xs:List ψ} (h:w.ownsRow base e size v n xs):∃A c,v=γ A n c∧aX w w.heap.size size A n c xs:=by
 rcases h.2 with⟨rfl,rfl⟩|⟨g,cap,cur,rfl,hb,hg,tt,qM,hcs,ht⟩
 ·exact⟨ε,0,rfl,⟨h.1,fun _=>⟨rfl,rfl⟩,Δ _,fun a ha=>(by cases ha),fun a ha=>(by cases ha)⟩⟩
 ·refine⟨_,cap,rfl,⟨h.1,fun e=>(by cases e),tt,fun a ha _=>?_,fun a ha j u hu=>?_⟩⟩
  ·obtain rfl:=Μ ha;exact(h.lt g rfl).2
  ·obtain rfl:=Μ ha;exact h.cells (g:=g) rfl j u hu
theorem aX.of_new {cs:Array ψ} {t:Υ} (w:ο) {n size:Nat} (hn:cs.toList.length=n*size):aX (w.alloc (δ cs t)) (w.heap.size+1) size (ζ ⟨w.heap.size,0,ε⟩) n n cs.toList:=
 ⟨hn,fun e=>(by cases e),Δ _,fun a ha _=>(by obtain rfl:=Μ ha;simp),fun a ha=>(by obtain rfl:=Μ ha;exact World.news_of_block (fr:=(0,0)) (heap_alloc_new w _))⟩
theorem aX.new_ {w:ο} {cs:Array ψ} {t:Υ} {n size g B:Nat} {xs:List ψ} (hg:g=w.heap.size) (hB:g<B) (hx:xs=cs.toList) (hn:xs.length=n*size):aX (w.alloc (δ cs t)) B size (ζ ⟨g,0,ε⟩) n n xs:=by
 subst hg hx;have h:=aX.of_new (t:=t) w hn;exact⟨h.len,h.none_,h.le,fun a ha _=>(by obtain rfl:=Μ ha;exact hB),h.cell⟩
theorem Q1 {w:ο} {e:Υ} {base size g n:Nat} {cs:Array ψ} {xs:List ψ} (hg:g=w.heap.size) (hb:base≤g) (hm:n≤Jap) (hs:cs.size=n*size) (hx:xs=cs.toList):
 (w.alloc (δ cs e)).ownsRow base e size (γ (ζ ⟨g,0,ε⟩) n n) n xs:=by
 subst hg hx;exact World.ownsRow_lit w cs n hb hm hs
theorem mu {P:JaE} {w:ο} {ops:Array JaZ} {rest:List JaZ} {o:JaZ} {a:Act} {Q:Exit→Act→ο→Prop} (R8:o.guard=ε) (s x:Jbd) (t:Υ)
 (ho:o.op=.call {callee:=.builtin .append,args:=#[s,x],argTypes:=#[t,t]})
 (base:Nat) (e:Υ) (i:TypeInfo) (z:ψ) (size bytes:Nat) (ht:P.underlying t=ζ (.slice e)) (hi:P.info? e=ζ i) (hz:i.zero=ζ z)
 (jE:i.size=size) (AZ:i.bytes=bytes) (Bh:z.cells.size=size) (mo:0<size)
 (v:ψ) (n:Nat) (xs:List ψ) (hs:a.eval s=v) (fM:w.ownsRow base e size v n xs)
 (B:Nat) (A:Option Κ) (m c:Nat) (news:List ψ) (hx:a.eval x=γ A m c) (hr:aX w B size A m c news) (h1:∀u∈news,u.oneCell'=τ)
 (Lj:n+m≤Jap) (ln:(n+m)*bytes≤140737488355328) (WZ:base≤w.heap.size)
 (h:∀v' w',w'.ownsRow base e size v' (n+m) (xs++news)→w.grownBy w' v.ownBlock→(v'.ownBlock=v.ownBlock∨v'.ownBlock=ζ w.heap.size)→JbI P ops Q rest (a.put o.dst v') w'):
 JbI P ops Q (o::rest) a w:=by
 cases A with
 |none=>
  obtain⟨rfl,rfl⟩:=hr.none_ rfl;have lf:news=[]:=JaB (by simpa using hr.len);subst lf;exact wpList_append_own_none R8 s x t ho base e i size ht hi v n xs hs fM hx (h v w (by simpa using fM) (World.grownBy.refl w _) (.inl rfl))
 |some ad=>
  exact wpList_append_own_at w R8 s x t ho base e i z size bytes ht hi hz jE AZ Bh mo v n xs hs fM ad m c news hx hr.len (hr.cell ad rfl) h1 Lj ln WZ fun v' w' a1 a2 _ a4=>h v' w' a1 a2 a4
end
section
def Whole (w:ο) (g:Nat) (t:Υ) (cs:List ψ):Prop:=w.heap[g]? =ζ (δ cs.toArray t (0,0))
section
variable {w w':ο} {g:Nat} {t:Υ} {cs:List ψ}
theorem Whole.lt (h:Whole w g t cs):g<w.heap.size:=(Jaa.1 h).1
theorem Whole.cell (h:Whole w g t cs) {i:Nat} {v:ψ} (hv:cs[i]? =ζ v):w.cell? ⟨g,i,ε⟩=ζ v:=by
 rw[cell_of_row w g i _ t (0,0) h,List.getElem?_toArray,hv]
theorem Whole.free (h:Whole w g t cs) (i:Nat):w.frozen? ⟨g,i,ε⟩=ρ:=frozen_of_row w g i _ t h
theorem Whole.new_ (w:ο) (t:Υ) (cs:List ψ):Whole (w.alloc (δ cs.toArray t)) w.heap.size t cs:=heap_alloc_new w _
theorem Whole.new2 {w:ο} {g:Nat} {t:Υ} {cs:List ψ} (hg:g=w.heap.size):Whole (w.alloc (δ cs.toArray t)) g t cs:=by
 subst hg;exact Whole.new_ w t cs
theorem Whole.alloc (h:Whole w g t cs) (o:Obj):Whole (w.alloc o) g t cs:=(Below.heap_alloc w o g h.lt).trans h
theorem Whole.drew (h:Whole w g t cs):Whole w.drew g t cs:=h
theorem Whole.set_ (h:Whole w g t cs) (i:Nat) (u:ψ):Whole (w.setCell ⟨g,i,ε⟩ u) g t (cs.set i u):=by
 unfold Whole at h ⊢;simp[JbB,Array.getElem?_modify,h]
theorem Whole.far (h:Whole w g t cs) {p:Κ} (hp:g≠p.block) (u:ψ):Whole (w.setCell p u) g t cs:=(Below.heap_setCell w p u g hp).trans h
theorem Whole.at_ (h:Whole w g t cs) (hb:w'.heap[g]? =w.heap[g]?):Whole w' g t cs:=hb.trans h
theorem Whole.below (h:Whole w g t cs) (hb:σ w.heap.size w w'):Whole w' g t cs:=h.at_ (hb.block g h.lt)
theorem Whole.ne_ {g':Nat} {t':Υ} {rI:List ψ} (h:Whole w g t cs) (h':Whole w g' t' rI) (cu:t≠t'):g≠g':=by
 rintro rfl;unfold Whole at h h';rw[h] at h';injection h' with h'
 injection h' with _ ht
 exact cu ht
end
structure Kept (S:Nat→Prop) (w w':ο):Prop where
 os:w'.os=w.os
 tape:w'.tape=w.tape
 output:w'.output=w.output
 size:w.heap.size≤w'.heap.size
 block:∀i,i<w.heap.size→¬S i→w'.heap[i]? =w.heap[i]?
theorem Kept.refl (S:Nat→Prop) (w:ο):Kept S w w:=⟨rfl,rfl,rfl,Δ _,fun _ _ _=>rfl⟩
theorem Kept.trans {S:Nat→Prop} {a b c:ο} (h:Kept S a b) (k:Kept S b c):Kept S a c:=
 ⟨k.os.trans h.os,k.tape.trans h.tape,k.output.trans h.output,Λ h.size k.size,fun i hi hn=>(k.block i (JaK hi h.size) hn).trans (h.block i hi hn)⟩
theorem Kept.of_below {S:Nat→Prop} {a b:ο} (h:σ a.heap.size a b):Kept S a b:=⟨h.os,h.tape,h.output,h.size,fun i hi _=>h.block i hi⟩
theorem Kept.below {S:Nat→Prop} {a b:ο} {B:Nat} (h:Kept S a b) (hB:B≤a.heap.size) (hS:∀i,i<B→¬S i):σ B a b:=⟨h.os,h.tape,h.output,h.size,fun i hi=>h.block i (by omega) (hS i hi)⟩
theorem Kept.drew {S:Nat→Prop} {a b:ο} (h:Kept S a b):Kept S a b.drew:=⟨h.os,h.tape,h.output,h.size,h.block⟩
theorem Kept.alloc {S:Nat→Prop} {a b:ο} (h:Kept S a b) (o:Obj):Kept S a (b.alloc o):=
 h.trans ⟨rfl,rfl,rfl,by simp,fun i hi _=>Below.heap_alloc _ _ _ hi⟩
theorem Kept.setCell {S:Nat→Prop} {a b:ο} (h:Kept S a b) {p:Κ} (hp:S p.block∨a.heap.size≤p.block) (u:ψ):Kept S a (b.setCell p u):=
 ⟨h.os,h.tape,h.output,by simpa [JbB] using h.size,fun i hi hn=>(Below.heap_setCell _ _ _ _ (by
  rintro rfl;rcases hp with hp|hp
  ·exact hn hp
  ·omega)).trans (h.block i hi hn)⟩
theorem Kept.cell {S:Nat→Prop} {w w':ο} (h:Kept S w w') {p:Κ} {v:ψ} (hc:w.cell? p=ζ v) (hn:¬S p.block):w'.cell? p=ζ v:=
 (World.cell?_of_block (w:=w) (h.block p.block (Jbx w p hc) hn)).trans hc
theorem Kept.whole {S:Nat→Prop} {w w':ο} {g:Nat} {t:Υ} {cs:List ψ} (h:Kept S w w') (hg:Whole w g t cs) (hn:¬S g):Whole w' g t cs:=
 hg.at_ (h.block g hg.lt hn)
end
section
def Ext (w w':ο):Prop:=σ w.heap.size w w'
theorem Ext.refl (w:ο):Ext w w:=Θ _ _
theorem Ext.trans {a b c:ο} (h:Ext a b) (k:Ext b c):Ext a c:=Below.trans h (Below.mono k (Below.size h))
theorem Ext.cell {w w':ο} (h:Ext w w') {p:Κ} {v:ψ} (hc:w.cell? p=ζ v):w'.cell? p=ζ v:=(Below.cell h (Jbx w p hc)).trans hc
section
variable {P:JaE} {ops:Array JaZ} {Q:Exit→Act→ο→Prop} {md:Jbj}
def Outcome (P:JaE) (v:ψ) (w:ο):Result Next→Prop
 |.ok (.value u) w'=>u=v∧Ext w w'
 |.ok (.enter f args) w'=>Ζ P f args w' fun e cT=>e=.returned v∧Ext w cT
 |_=>False
def Alike (ops:Array JaZ) (o:JaZ) (a a':Act):Prop:=JaX a'.eval o=JaX a.eval o∧Jau o (Jbo ops a'.tmps)=Jau o (Jbo ops a.tmps)
theorem zv {j:Nat} {oi oj:JaZ} {v:ψ} (hj:ops[j]? =ζ oj) (hap:oi.apart ops oj=τ)
 (hsi:∀cs b,oi.op≠.select cs b) (hsj:∀cs b,oj.op≠.select cs b)
 (hQ:∀c a w,Q (.panic c) (a.put oi.dst v) w→Q (.panic c) a w) {K:Act→ο→Prop} {a:Act} {w:ο}
 (h:wpOp P ops Q j K (a.put oi.dst v) w):
 wpOp P ops Q j (fun a' w'=>Alike ops oi a a'∧K (a'.put oi.dst v) w') a w:=by
 obtain⟨h1,h2,h3⟩:=Oper.apart_spec hap
 have keep:∀(b:Act),Alike ops oi a b→∀u,Alike ops oi a (b.put oj.dst u):=fun b hb u=>
  ⟨(execOp_put oi hsi b oj.dst u h3).trans hb.1,(wanted_put oi b oj.dst u h3).trans hb.2⟩
 have k0:Alike ops oi a a:=⟨rfl,rfl⟩;have kD:∀d,Alike ops oi a {a with defers:=d::a.defers}:=fun d=>⟨rfl,rfl⟩
 unfold wpOp at*;simp only[hj] at*;rw[wanted_put oj a oi.dst v h1] at h;split
 ·rename_i hw;simp only[hw,if_true] at h;rcases h with h|⟨Sk,Zc⟩
  case inr=>exact .inr ⟨by unfold Oper.asks at*;rw[execOp_put oj hsj a oi.dst v h1] at Sk;exact Sk,Zc⟩
  refine .inl ?_;unfold Oper.wp at*;rw[execOp_put oj hsj a oi.dst v h1] at h;generalize (JaX a.eval oj).run P w=r at*;cases r with
  |ok n w'=>
   cases n<;>simp only[Oper.upon] at h ⊢
   case value u=>exact⟨keep a k0 u,by rw[←Act.put_comm a v u h2];exact h⟩
   case skip=>exact⟨keep a k0 _,by rw[←Act.put_comm a v undef h2];exact h⟩
   case defer d=>
    refine⟨keep _ (kD d) _,?_⟩
    rw[←Act.put_comm _ v undef h2,←Act.put_defers];exact h
   case enter f args=>
    refine Calls.mono h fun e cT he=>?_
    cases e with
    |returned u=>exact⟨keep a k0 u,by rw[←Act.put_comm a v u h2];exact he⟩
    |panicked c=>exact hQ _ _ _ he
    |outgrown=>exact he
   case row row args=>exact Rows.mono h fun u cT he=>⟨keep a k0 u,by rw[←Act.put_comm a v u h2];exact he⟩
  |halt x w'=>
   cases x<;>simp only[Oper.upon] at h ⊢
   case panic u=>exact hQ _ _ _ h
 ·rename_i hw;simp only[hw] at h;exact⟨keep a k0 _,by rw[←Act.put_comm a v undef h2];exact h⟩
end
end
section
theorem Kept.of_ext {S:Nat→Prop} {w w':ο} (h:Ext w w'):Kept S w w':=Kept.of_below h
section
variable {P:JaE} {ops:Array JaZ} {Q:Exit→Act→ο→Prop} {md:Jbj} {S:Nat→Prop}
def du (P:JaE) (ops:Array JaZ) (S:Nat→Prop) (o:JaZ) (v:ψ) (a:Act) (w:ο):Prop:=
 (Jau o (Jbo ops a.tmps)=τ∧∀w',Kept S w w'→Outcome P v w' ((JaX a.eval o).run P w'))∨
 (Jau o (Jbo ops a.tmps)=ρ∧v=undef)
theorem du.up {o:JaZ} {v:ψ} {a:Act} {w w':ο} (h:du P ops S o v a w) (hw:Kept S w w'):du P ops S o v a w':=
 match h with
 |.inl ⟨h1,h2⟩=>.inl ⟨h1,fun cT h'=>h2 cT (hw.trans h')⟩
 |.inr h2=>.inr h2
theorem du.same {o:JaZ} {v:ψ} {a a':Act} {w:ο} (hy:du P ops S o v a w) (he:JaX a'.eval o=JaX a.eval o)
 (hw:Jau o (Jbo ops a'.tmps)=Jau o (Jbo ops a.tmps)):du P ops S o v a' w:=by
 unfold du at*;rw[he,hw];exact hy
theorem du.wpOp {i:Nat} {o:JaZ} {v:ψ} {a:Act} {w:ο} (hi:ops[i]? =ζ o) (hy:du P ops S o v a w)
 {K:Act→ο→Prop} (h:∀w',Ext w w'→K (a.put o.dst v) w'):wpOp P ops Q i K a w:=by
 unfold Go.wpOp;simp only[hi];rcases hy with⟨hw,hv⟩|⟨hw,rfl⟩
 ·simp only[hw,if_true];refine .inl ?_;have h1:=hv w (Kept.refl _ w);unfold Oper.wp;generalize (JaX a.eval o).run P w=r at*;cases r with
  |ok n w'=>
   cases n with
   |value u=>
    obtain⟨rfl,he⟩:=h1;exact h _ he
   |enter f args=>
    refine Calls.mono h1 fun e cT he=>?_
    obtain⟨rfl,hx⟩:=he;exact h _ hx
   |_=>exact h1.elim
  |halt x w'=>exact h1.elim
 ·simp only[hw,Bool.false_eq_true,if_false];exact h _ (Ext.refl _)
def nW (P:JaE) (md:Jbj) (ops:Array JaZ) (S:Nat→Prop) (Q:Exit→Act→ο→Prop):Nat→Array Bool→Act→ο→Prop
 |0,au,a,w=>Jaq md ops au=[]∧∀w',Ext w w'→Q .normal a w'
 |fuel+1,au,a,w=>
  (Jaq md ops au=[]→∀w',Ext w w'→Q .normal a w')∧
  ∀w',Ext w w'→∀i∈Jaq md ops au,wpOp P ops Q i (fun a' cT=>Kept S w' cT∧nW P md ops S Q fuel (au.setIfInBounds i τ) a' cT) a w'
theorem nW.up:∀{fuel:Nat} {au:Array Bool} {a:Act} {w w':ο},nW P md ops S Q fuel au a w→Ext w w'→nW P md ops S Q fuel au a w'
 |0,_,_,_,_,h,hw=>⟨h.1,fun cT h'=>h.2 cT (hw.trans h')⟩
 |_+1,_,_,_,_,h,hw=>⟨fun h0 cT h'=>h.1 h0 cT (hw.trans h'),fun cT h'=>h.2 cT (hw.trans h')⟩
theorem jk:∀(fuel:Nat) (au:Array Bool) (a:Act) (w:ο),nW P md ops S Q fuel au a w→wpAny P md ops Q fuel au a w
 |0,_,_,w,h=>⟨h.1,h.2 w (Ext.refl w)⟩
 |fuel+1,_,_,w,h=>⟨fun h0=>h.1 h0 w (Ext.refl w),fun i hi=>wpOp_mono (fun a' w' h'=>jk fuel _ a' w' h'.2) (h.2 w (Ext.refl w) i hi)⟩
theorem KC {i:Nat} {oi:JaZ} {v:ψ} (hi:ops[i]? =ζ oi) (ss:∀(j:Nat) (o:JaZ) cs b,ops[j]? =ζ o→o.op≠.select cs b)
 (hQ:∀c a w,Q (.panic c) (a.put oi.dst v) w→Q (.panic c) a w):
 ∀(fuel:Nat) (au:Array Bool) (a:Act) (w:ο),
  (∀j oj,ops[j]? =ζ oj→j≠i→au.getD j τ=ρ→(∀e∈oj.after,JbS md e=τ→e.on≠i)→oi.apart ops oj=τ)→
  i∈Jaq md ops au→du P ops S oi v a w→
  nW P md ops S Q fuel (au.setIfInBounds i τ) (a.put oi.dst v) w→nW P md ops S Q (fuel+1) au a w:=by
 intro fuel
 induction fuel with
 |zero=>
  intro au a w _ hr hy H
  refine⟨fun h=>(by rw[h] at hr;cases hr),fun w1 jo j hj=>?_⟩
  by_cases rD:j=i
  ·subst rD;exact(hy.up (Kept.of_ext jo)).wpOp hi fun w2 jd=>⟨Kept.of_ext jd,H.up (jo.trans jd)⟩
  ·have:=ready_mono hj rD
   rw[H.1] at this;cases this
 |succ fuel ih=>
  intro au a w qm hr hy H
  refine⟨fun h=>(by rw[h] at hr;cases hr),fun w1 jo j hj=>?_⟩
  by_cases rD:j=i
  ·subst rD;exact(hy.up (Kept.of_ext jo)).wpOp hi fun w2 jd=>⟨Kept.of_ext jd,H.up (jo.trans jd)⟩
  ·have h1:=H.2 w1 jo j (ready_mono hj rD);obtain⟨On,oj,Sj,cN⟩:=mem_ready.1 hj
   have PK:∀e∈oj.after,JbS md e=τ→e.on≠i:=fun e he hb heq=>by
    have h1:=cN e he hb;have h0:=(mem_ready.1 hr).1;rw[heq] at h1;rcases JaM i au.size with h'|h'
    ·simp[h'] at h0 h1;rw[h0] at h1;cases h1
    ·simp[Array.getElem?_eq_none h'] at h1
   have h2:=zv Sj (qm j oj Sj rD On PK) (fun cs b=>ss i oi cs b hi) (fun cs b=>ss j oj cs b Sj) hQ h1
   have F2:∀k ok,ops[k]? =ζ ok→k≠i→(au.setIfInBounds j τ).getD k τ=ρ→
    (∀e∈ok.after,JbS md e=τ→e.on≠i)→oi.apart ops ok=τ:=fun k ok hk hki Xx yE=>by
    refine qm k ok hk hki ?_ yE
    by_cases UT:j=k
    ·subst UT;exact On
    ·rw[Jbq τ UT] at Xx;exact Xx
   refine wpOp_mono (fun a' w' h3=>⟨h3.2.1,ih (au.setIfInBounds j τ) a' w' F2 (ready_mono hr (Ne.symm rD)) ?_ ?_⟩) h2
   ·exact(hy.up ((Kept.of_ext jo).trans h3.2.1)).same h3.1.1 h3.1.2
   ·rw[Array.setIfInBounds_comm _ _ rD];exact h3.2.2
theorem wZ (i:Nat) (d:Option Tmp) {oi:JaZ} {fuel:Nat} {au:Array Bool} {a:Act} {w:ο} (hi:ops[i]? =ζ oi) (hd:oi.dst=d)
 (hs:JbJ ops=τ) (hf:JbP md ops au i=τ) (hr:(Jaq md ops au).contains i=τ)
 (hQ:∀v c a w,Q (.panic c) (a.put d v) w→Q (.panic c) a w)
 (h:∃v,du P ops S oi v a w∧nW P md ops S Q fuel (au.setIfInBounds i τ) (a.put d v) w):nW P md ops S Q (fuel+1) au a w:=by
 subst hd;obtain⟨v,hy,hk⟩:=h;exact KC hi (Region.noSelect_spec hs) (hQ v) fuel au a w (Region.free_spec hi hf) (by simpa using hr) hy hk
theorem Mp (i:Nat) (d:Option Tmp) {oi:JaZ} {fuel:Nat} {au:Array Bool} {a:Act} {w:ο} {f:FuncId} {args:Array ψ} (hi:ops[i]? =ζ oi) (hd:oi.dst=d)
 (hr:Jaq md ops au=[i]) (hw:Jau oi (Jbo ops a.tmps)=τ)
 (he:∀w',(JaX a.eval oi).run P w'=.ok (.enter f args) w')
 (h:∀w',Ext w w'→Ζ P f args w' fun e cT=>∃v,e=.returned v∧Kept S w' cT∧nW P md ops S Q fuel (au.setIfInBounds i τ) (a.put d v) cT):nW P md ops S Q (fuel+1) au a w:=by
 subst hd
 refine⟨fun h0=>(by rw[h0] at hr;cases hr),fun w1 jo j hj=>?_⟩
 rw[hr] at hj;obtain rfl:=Jao.1 hj;unfold Go.wpOp;simp only[hi,hw,if_true];refine .inl ?_;unfold Oper.wp;rw[he w1];refine Calls.mono (h w1 jo) fun e cT hx=>?_
 obtain⟨v,rfl,hk,hn⟩:=hx;exact⟨hk,hn⟩
theorem CS (i:Nat) {oi:JaZ} {fuel:Nat} {au:Array Bool} {a:Act} {w:ο} (hi:ops[i]? =ζ oi)
 (hr:Jaq md ops au=[i]) (hw:Jau oi (Jbo ops a.tmps)=τ)
 (h:∀w',Ext w w'→Oper.wp P oi a w' (fun a' cT=>Kept S w' cT∧nW P md ops S Q fuel (au.setIfInBounds i τ) a' cT) Q):nW P md ops S Q (fuel+1) au a w:=by
 refine⟨fun h0=>(by rw[h0] at hr;cases hr),fun w1 jo j hj=>?_⟩
 rw[hr] at hj;obtain rfl:=Jao.1 hj;unfold Go.wpOp;simp only[hi,hw,if_true];exact .inl (h w1 jo)
theorem QU (i:Nat) (d:Option Tmp) {oi:JaZ} {fuel:Nat} {au:Array Bool} {a:Act} {w:ο} (hi:ops[i]? =ζ oi) (hd:oi.dst=d)
 (hr:Jaq md ops au=[i]) (hw:Jau oi (Jbo ops a.tmps)=τ)
 (h:∀w',Ext w w'→∃v cT,(JaX a.eval oi).run P w'=.ok (.value v) cT∧Kept S w' cT∧nW P md ops S Q fuel (au.setIfInBounds i τ) (a.put d v) cT):nW P md ops S Q (fuel+1) au a w:=by
 subst hd;refine CS i hi hr hw fun w' hx=>?_
 obtain⟨v,cT,h1,h2,h3⟩:=h w' hx;unfold Oper.wp;rw[h1];exact⟨h2,h3⟩
theorem cA {ev:Jbd→ψ} {o:JaZ} {w w':ο} {s x:Jbd} {t:Υ} {v u v':ψ} (ho:o.op=.call {callee:=.builtin .append,args:=#[s,x],argTypes:=#[t,t]})
 (hs:ev s=v) (hx:ev x=u) (cj:(JaY #[t,t] o.type #[v,u]).run P w=.ok v' w'):(JaX ev o).run P w=.ok (.value v') w':=by
 unfold JaX;simp only[ho,resolve,invoke,builtin,Jbl,JbO,JbA,List.map_toArray,List.map_cons,List.map_nil,hs,hx,cj]
theorem aD {au:Array Bool} {a:Act} {w:ο} (hr:Jaq md ops au=[]) (h:∀w',Ext w w'→Q .normal a w'):∀fuel,nW P md ops S Q fuel au a w
 |0=>⟨hr,h⟩
 |_+1=>⟨fun _=>h,by rw[hr];simp⟩
theorem aw (S:Nat→Prop) {id:Nat} {a:Act} {w:ο} (hm:P.follows .mixedOrders=τ)
 (h:nW P .any ops S Q ops.size (Jbe ops.size ρ) a w.drew):(Code.region id ops τ).wp P Q a w:=
 wp_region_any hm (jk _ _ _ _ h)
theorem Rf {o:JaZ} {a:Act} {w:ο} (h:Jau o (Jbo ops a.tmps)=ρ):du P ops S o undef a w:=.inr ⟨h,rfl⟩
theorem dG {o:JaZ} {v:ψ} {a:Act} {w:ο} (h:Jau o (Jbo ops a.tmps)=τ) (hr:∀w',Kept S w w'→(JaX a.eval o).run P w'=.ok (.value v) w'):du P ops S o v a w:=
 .inl ⟨h,fun w' hw=>by rw[hr w' hw];exact⟨rfl,Ext.refl _⟩⟩
theorem ck {o:JaZ} {v:ψ} {a:Act} {w:ο} {f:FuncId} {args:Array ψ} (h:Jau o (Jbo ops a.tmps)=τ)
 (hr:∀w',(JaX a.eval o).run P w'=.ok (.enter f args) w') (hc:∀w',Kept S w w'→Ζ P f args w' fun e cT=>e=.returned v∧σ w'.heap.size w' cT):du P ops S o v a w:=
 .inl ⟨h,fun w' hw=>by rw[hr w'];exact hc w' hw⟩
end
end
section
section
variable {P:JaE} {md:Jbj} {ops:Array JaZ} {S:Nat→Prop} {Q:Exit→Act→ο→Prop}
theorem Ky (i:Nat) {oi:JaZ} {fuel:Nat} {au:Array Bool} {a:Act} {w:ο} (hi:ops[i]? =ζ oi) (hd:oi.dst=ε)
 (hr:Jaq md ops au=[i]) (hw:Jau oi (Jbo ops a.tmps)=τ)
 (h:∀w',Ext w w'→∃cT,(JaX a.eval oi).run P w'=.ok .skip cT∧Kept S w' cT∧nW P md ops S Q fuel (au.setIfInBounds i τ) a cT):nW P md ops S Q (fuel+1) au a w:=by
 refine CS i hi hr hw fun w' hx=>?_
 obtain⟨cT,h1,h2,h3⟩:=h w' hx;unfold Oper.wp;rw[h1]
 refine⟨h2,?_⟩
 rw[hd];exact h3
end
end
section
def aF (_:Nat):Prop:=False
theorem Kept.nil_cell {w w':ο} (h:Kept aF w w') {p:Κ} {v:ψ} (hc:w.cell? p=ζ v):w'.cell? p=ζ v:=h.cell hc (fun e=>e)
theorem tF {P:JaE} {ev:Jbd→ψ} {o:JaZ} {w:ο} (ty:Υ) (x:Jbd) (ho:o.op=.load ty x)
 (g:Nat) (hx:ev x=υ (ζ ⟨g,0,ε⟩)) (t:Υ) (cs:List ψ) (d:TypeDesc) (hg:Whole w g t cs)
 (hu:P.underlying ty=ζ d) (hd:(match d with|.struct _|.array _ _=>τ|_=>ρ)=τ) (hi:(P.info? ty).map (·.size)=ζ cs.length):
 (JaX ev o).run P w=.ok (.value (φ cs.toArray)) w:=by
 have h1:(Instr.loadAt ty (ev x)).run P w=.ok (φ cs.toArray) w:=by
  rw[hx];simp only[Instr.loadAt,Instr.sureAddr,Jbl,JbO,Jbw];exact run_loadVar_row w g t ty cs.toArray (0,0) d hg hu hd (by simpa using hi)
 unfold JaX;simp only[ho,Jbl,JbO,JbA,h1]
theorem bE {P:JaE} {ev:Jbd→ψ} {o:JaZ} {w:ο} (op:BinOp) (t:Υ) (x y:Jbd) (t':Υ) (ho:o.op=.binOp op t x y t') {xs ys:Array ψ} {v:ψ}
 (hx:ev x=φ xs) (hy:ev y=φ ys) (hm:P.eqGuardType P.depth t=ρ) (hb:(binOp op t (φ xs) (φ ys)).run P w=.ok v w):(JaX ev o).run P w=.ok (.value v) w:=by
 unfold JaX;simp only[ho,Jbl,JbO,JbA,hx,hy,run_eqGuard_agg (w:=w) op t x y xs ys hm,hb]
section
variable {P:JaE} {ops:Array JaZ} {S:Nat→Prop}
theorem bU {o:JaZ} {a:Act} {w:ο} (h:Jau o (Jbo ops a.tmps)=τ) (ty:Υ) (x:Jbd) (ho:o.op=.load ty x)
 (g:Nat) (hx:a.eval x=υ (ζ ⟨g,0,ε⟩)) (t:Υ) (cs:List ψ) (d:TypeDesc) (hg:∀w',Kept S w w'→Whole w' g t cs)
 (hu:P.underlying ty=ζ d) (hd:(match d with|.struct _|.array _ _=>τ|_=>ρ)=τ) (hi:(P.info? ty).map (·.size)=ζ cs.length):
 du P ops S o (φ cs.toArray) a w:=
 dG h fun w' hw=>tF ty x ho g hx t cs d (hg w' hw) hu hd hi
end
section
variable {P:JaE} {ops:Array JaZ} {rest:List JaZ} {o:JaZ} {a:Act} {w:ο} {Q:Exit→Act→ο→Prop}
theorem jU (d:Option Tmp) (hd:o.dst=d) (hw:Jau o (Jbo ops a.tmps)=τ) {v:ψ} {w':ο} (cj:(JaX a.eval o).run P w=.ok (.value v) w')
 (h:JbI P ops Q rest (a.put d v) w'):JbI P ops Q (o::rest) a w:=by
 subst hd;refine wpList_step fun K hK=>?_
 rw[if_pos hw];unfold Oper.wp;rw[cj,Oper.upon_value];exact hK _ _ h
theorem ah (d:Option Tmp) (hd:o.dst=d) (hw:Jau o (Jbo ops a.tmps)=τ) {v:ψ} (cj:(JaX a.eval o).run P w=.ok (.value v) w)
 (h:JbI P ops Q rest (a.put d v) w):JbI P ops Q (o::rest) a w:=jU d hd hw cj h
theorem bw (d:Option Tmp) (hd:o.dst=d) (hw:Jau o (Jbo ops a.tmps)=τ) (ty:Υ) (x:Jbd) (ho:o.op=.load ty x)
 (g:Nat) (hx:a.eval x=υ (ζ ⟨g,0,ε⟩)) (t:Υ) (cs:List ψ) (td:TypeDesc) (hg:Whole w g t cs)
 (hu:P.underlying ty=ζ td) (hs:(match td with|.struct _|.array _ _=>τ|_=>ρ)=τ) (hi:(P.info? ty).map (·.size)=ζ cs.length)
 (h:JbI P ops Q rest (a.put d (φ cs.toArray)) w):JbI P ops Q (o::rest) a w:=ah d hd hw (tF ty x ho g hx t cs td hg hu hs hi) h
end
end
section
theorem aE {w0 w:ο} (h:σ w0.heap.size w0 w) (o:Obj):σ w0.heap.size w0 (w.alloc o):=h.alloc h.size o
theorem af {w0 w w':ο} (h:σ w0.heap.size w0 w) (hb:σ w.heap.size w w'):σ w0.heap.size w0 w':=h.trans (hb.mono h.size)
theorem aL {w0 w:ο} (h:σ w0.heap.size w0 w):σ w0.heap.size w0 w.drew:=h.drew
theorem aX.al {w:ο} {size n c:Nat} {A:Option Κ} {xs:List ψ} (h:aX w w.heap.size size A n c xs) (o:Obj):aX (w.alloc o) (w.alloc o).heap.size size A n c xs:=
 h.up ((Θ _ _).alloc (Δ _) o) (by simp)
theorem aX.bl {w w':ο} {size n c:Nat} {A:Option Κ} {xs:List ψ} (h:aX w w.heap.size size A n c xs) (hb:σ w.heap.size w w'):aX w' w'.heap.size size A n c xs:=h.up hb hb.size
theorem aX.dr {w:ο} {size n c:Nat} {A:Option Κ} {xs:List ψ} (h:aX w w.heap.size size A n c xs):aX w.drew w.drew.heap.size size A n c xs:=h.up ((Θ _ _).drew) (Δ _)
theorem Whole.al {w:ο} {g:Nat} {t:Υ} {cs:List ψ} (h:Whole w g t cs) (o:Obj):Whole (w.alloc o) g t cs:=h.alloc o
theorem Whole.bl {w w':ο} {g:Nat} {t:Υ} {cs:List ψ} (h:Whole w g t cs) (hb:σ w.heap.size w w'):Whole w' g t cs:=h.below hb
theorem Whole.dr {w:ο} {g:Nat} {t:Υ} {cs:List ψ} (h:Whole w g t cs):Whole w.drew g t cs:=h.drew
end
section
section
variable {α:Type} (f:α→List ψ)
def aj:List α→List ψ
 |[]=>[]
 |x::l=>f x++aj l
theorem cP {s:Nat} (hs:∀x,(f x).length=s) (l:List α):(aj f l).length=l.length*s:=by
 induction l with
 |nil=>simp[aj]
 |cons x l ih=>simp[aj,ih,hs,Nat.succ_mul];omega
theorem bV (l m:List α):aj f (l++m)=aj f l++aj f m:=by
 induction l with
 |nil=>rfl
 |cons x l ih=>simp[aj,ih]
theorem j0 {s:Nat} (hs:∀x,(f x).length=s) (l:List α) (k:Nat) (x:α) (hk:l[k]? =ζ x) (j:Nat) (v:ψ) (hv:(f x)[j]? =ζ v):(aj f l)[k*s+j]? =ζ v:=by
 induction l generalizing k with
 |nil=>simp at hk
 |cons y l ih=>
  have hj:j<s:=by
   rw[←hs x];rcases JaM j (f x).length with h|h
   ·exact h
   ·rw[List.getElem?_eq_none h] at hv;cases hv
  cases k with
  |zero=>
   simp at hk;subst hk;simp only[aj,Nat.zero_mul,Nat.zero_add];rw[List.getElem?_append_left (by rw[hs];exact hj)];exact hv
  |succ k=>
   simp only[aj];rw[List.getElem?_append_right (by rw[hs,Nat.succ_mul];omega),hs,show(k+1)*s+j - s=k*s+j by rw[Nat.succ_mul];omega];exact ih k (by simpa using hk)
theorem jj {s:Nat} (hs:∀x,(f x).length=s) (l:List α) (k:Nat):aj f (l.take k)=(aj f l).take (k*s):=by
 induction l generalizing k with
 |nil=>simp[aj]
 |cons x l ih=>
  cases k with
  |zero=>simp[aj]
  |succ k=>
   simp only[List.take_succ_cons,aj,ih,Nat.succ_mul];rw[List.take_append,hs,List.take_of_length_le (l:=f x) (by rw[hs];omega),show k*s+s - s=k*s by omega]
theorem ly {s:Nat} (hs:∀x,(f x).length=s) (l:List α) (k:Nat):aj f (l.drop k)=(aj f l).drop (k*s):=by
 induction l generalizing k with
 |nil=>simp[aj]
 |cons x l ih=>
  cases k with
  |zero=>simp[aj]
  |succ k=>
   simp only[List.drop_succ_cons,aj,ih,Nat.succ_mul];rw[List.drop_append,hs,List.drop_of_length_le (l:=f x) (by rw[hs];omega),show k*s+s - s=k*s by omega];simp
theorem qD (h:∀x,∀u∈f x,u.oneCell'=τ) (l:List α):∀u∈aj f l,u.oneCell'=τ:=by
 induction l with
 |nil=>simp[aj]
 |cons x l ih=>
  intro u hu;rcases List.mem_append.1 hu with hu|hu
  ·exact h x u hu
  ·exact ih u hu
end
section
variable {w:ο} {B n c s:Nat} {A:Option Κ} {α:Type} {f:α→List ψ} {L:List α}
theorem aX.rlen (hs:∀x,(f x).length=s) (h0:0<s) (h:aX w B s A n c (aj f L)):L.length=n:=by
 have:=h.len
 rw[cP f hs] at this;exact Nat.eq_of_mul_eq_mul_right h0 this
theorem aX.place (hs:∀x,(f x).length=s) (h0:0<s) (h:aX w B s A n c (aj f L)) (hn:0<n):
 ∃b off,A=ζ ⟨b,off,ε⟩∧b<B∧∀k x,L[k]? =ζ x→∀j v,(f x)[j]? =ζ v→w.cell? (Addr.add ⟨b,off+k*s,ε⟩ j)=ζ v:=by
 have hl:=h.rlen hs h0;cases A with
 |none=>exact absurd (h.none_ rfl).1 (by omega)
 |some a=>
  have ha:∃b off,a=⟨b,off,ε⟩:=by
   obtain⟨b,off,g⟩:=a;cases g with
   |none=>exact⟨b,off,rfl⟩
   |some g=>
    have hx:L[0]? =ζ (L[0]'(by omega)):=θ (by omega);obtain⟨v,hv⟩:∃v,(f (L[0]'(by omega)))[0]? =ζ v:=⟨_,θ (by rw[hs (L[0]'(by omega))];exact h0)⟩
    have h1:=h.cell _ rfl _ _ (j0 f hs L 0 _ hx 0 v hv);simp[Addr.add,World.cell?] at h1;split at h1<;>cases h1
  obtain⟨b,off,rfl⟩:=ha
  refine⟨b,off,rfl,h.low _ rfl hn,fun k x hk j v hv=>?_⟩
  have:=h.cell _ rfl _ _ (j0 f hs L k x hk j v hv)
  have e:(⟨b,off,ε⟩:Κ).add (k*s+j)=(⟨b,off+k*s,ε⟩:Κ).add j:=by
   simp only[Ν,Nat.add_assoc]
  rw[←e];exact this
end
theorem zd {P:JaE} (w:ο) (ty:Υ) (ad:Κ) (cs:List ψ) (d:TypeDesc) (hc:∀j v,cs[j]? =ζ v→w.cell? (ad.add j)=ζ v)
 (hu:P.underlying ty=ζ d) (hd:(match d with|.struct _|.array _ _=>τ|_=>ρ)=τ) (hi:(P.info? ty).map (·.size)=ζ cs.length):
 (Instr.loadAt ty (υ (ζ ad))).run P w=.ok (φ cs.toArray) w:=by
 have hl:(loadCells ad cs.length).run P w=.ok cs.toArray w:=run_loadCells_list (P:=P) w ad cs hc;cases hq:P.info? ty with
 |none=>simp[hq] at hi
 |some i=>
  have hs:i.size=cs.length:=by simpa [hq] using hi
  have aec:(isAgg ty).run P w=.ok τ w:=by
   unfold isAgg;rw[Jbl,run_underlying hu w];cases d<;>simp_all
  simp[Instr.loadAt,Instr.sureAddr,loadVar,Jbl,aec,sizeOf,typeInfo,hq,hs,hl]
theorem pz {P:JaE} {ev:Jbd→ψ} {o:JaZ} {w:ο} (ty:Υ) (x:Jbd) (ho:o.op=.load ty x) (ad:Κ) (hx:ev x=υ (ζ ad)) (cs:List ψ) (d:TypeDesc)
 (hc:∀j v,cs[j]? =ζ v→w.cell? (ad.add j)=ζ v)
 (hu:P.underlying ty=ζ d) (hd:(match d with|.struct _|.array _ _=>τ|_=>ρ)=τ) (hi:(P.info? ty).map (·.size)=ζ cs.length):
 (JaX ev o).run P w=.ok (.value (φ cs.toArray)) w:=by
 unfold JaX;simp only[ho,hx,Jbl,JbO,JbA,zd w ty ad cs d hc hu hd hi]
theorem fa {P:JaE} {ev:Jbd→ψ} {o:JaZ} {w:ο} (t e:Υ) (len:Nat) (parts:Array (Nat × Jbd)) (ho:o.op=.buildSlice t len parts) (hu:P.underlying t=ζ (.slice e)) (cells:Array ψ)
 (hf:P.builtSlice e len (parts.map fun (i,x)=>(i,ev x)).toList=ζ cells):(JaX ev o).run P w=.ok (.value (γ (ζ ⟨w.heap.size,0,ε⟩) len len)) (w.alloc (δ cells e)):=by
 have hb:(Instr.buildSlice t len (parts.map fun (i,x)=>(i,ev x))).run P w=.ok (γ (ζ ⟨w.heap.size,0,ε⟩) len len) (w.alloc (δ cells e)):=by
  unfold Program.builtSlice at hf;cases H9:P.info? e with
  |none=>simp[H9] at hf
  |some ie=>
   simp only[H9] at hf;cases hz:ie.zero with
   |none=>simp[hz] at hf
   |some z=>
    simp only[hz] at hf
    by_cases hc:len*ie.size>2 ^ 24∨len*ie.size=0
    ·simp[hc] at hf
    ·rw[if_neg hc] at hf;exact run_buildSlice w t e len _ cells ie z hu H9 hz (fun h'=>hc (Or.inl h')) (fun h'=>hc (Or.inr h')) hf
 unfold JaX;simp only[ho,Jbl,JbO,JbA,hb]
theorem aX.take_ {w:ο} {B size n c:Nat} {A:Option Κ} {xs:List ψ} (h:aX w B size A n c xs) (k:Nat) (hk:k≤n):aX w B size A k c (xs.take (k*size)):=by
 have hlen:=h.len;have hm:k*size≤n*size:=Nat.mul_le_mul_right _ hk
 refine⟨by rw[JaA];omega,fun e=>?_,Λ hk h.le,fun a ha h0=>h.low a ha (by omega),fun a ha j u hu=>?_⟩
 ·have:=h.none_ e
  omega
 ·rw[List.getElem?_take] at hu;split at hu
  ·exact h.cell a ha j u hu
  ·cases hu
section
variable {P:JaE} {ops:Array JaZ} {rest:List JaZ} {o o':JaZ} {a:Act} {w:ο} {Q:Exit→Act→ο→Prop} {S:Nat→Prop}
theorem oH (d:Option Tmp) (hd:o.dst=d) (hw:Jau o (Jbo ops a.tmps)=τ) (ty:Υ) (x:Jbd) (ho:o.op=.load ty x) (ad:Κ) (hx:a.eval x=υ (ζ ad)) (cs:List ψ) (td:TypeDesc)
 (hc:∀j v,cs[j]? =ζ v→w.cell? (ad.add j)=ζ v)
 (hu:P.underlying ty=ζ td) (hs:(match td with|.struct _|.array _ _=>τ|_=>ρ)=τ) (hi:(P.info? ty).map (·.size)=ζ cs.length)
 (h:JbI P ops Q rest (a.put d (φ cs.toArray)) w):JbI P ops Q (o::rest) a w:=ah d hd hw (pz ty x ho ad hx cs td hc hu hs hi) h
theorem bG (h:Jau o (Jbo ops a.tmps)=τ) (ty:Υ) (x:Jbd) (ho:o.op=.load ty x) (ad:Κ) (hx:a.eval x=υ (ζ ad)) (cs:List ψ) (td:TypeDesc)
 (hc:∀w',Kept S w w'→∀j v,cs[j]? =ζ v→w'.cell? (ad.add j)=ζ v)
 (hu:P.underlying ty=ζ td) (hs:(match td with|.struct _|.array _ _=>τ|_=>ρ)=τ) (hi:(P.info? ty).map (·.size)=ζ cs.length):
 du P ops S o (φ cs.toArray) a w:=dG h fun w' hw=>pz ty x ho ad hx cs td (hc w' hw) hu hs hi
theorem dz (d:Option Tmp) (hd:o.dst=d) (hw:Jau o (Jbo ops a.tmps)=τ) (t e:Υ) (len:Nat) (parts:Array (Nat × Jbd)) (ho:o.op=.buildSlice t len parts) (hu:P.underlying t=ζ (.slice e)) (cells:Array ψ)
 (hf:P.builtSlice e len (parts.map fun (i,x)=>(i,a.eval x)).toList=ζ cells)
 (h:JbI P ops Q rest (a.put d (γ (ζ ⟨w.heap.size,0,ε⟩) len len)) (w.alloc (δ cells e))):JbI P ops Q (o::rest) a w:=
 jU d hd hw (fa t e len parts ho hu cells hf) h
theorem M4 (p:Tmp) (hd:o.dst=ζ p) (hg:o.guard=ε) (hg':o'.guard=ε) (ty:Υ) (y:Jbd) (ho':o'.op=.store ty (.tmp p) y) (Bk:o'.dst=ε) (zc:Array ψ)
 (AS:(JaX a.eval o).run P w=.ok (.value (υ (ζ ⟨w.heap.size,0,ε⟩))) (w.alloc (δ zc ty)))
 (cs:Array ψ) (hp:p<a.tmps.size) (hy:(a.put (ζ p) (υ (ζ ⟨w.heap.size,0,ε⟩))).eval y=φ cs)
 (hi:(P.info? ty).map (·.size)=ζ cs.size) (mo:zc.size=cs.size) (h1:cs.all (·.oneCell')=τ)
 (h:JbI P ops Q rest (a.put (ζ p) (υ (ζ ⟨w.heap.size,0,ε⟩))) (w.alloc (δ cs ty))):JbI P ops Q (o::o'::rest) a w:=by
 refine Great.wpList_allocTo hg (ζ p) hd _ (δ zc ty) AS ?_;refine wpList_store_row hg' ty (.tmp p) y ho' w.heap.size cs ?_ hy ty zc (heap_alloc_last _ _) hi mo h1 ?_
 ·simp[ξ,Act.eval,JaD,hp]
 ·rw[World.setRow_alloc_new,Bk];exact h
end
end
section
structure Ow (w:ο) (B:Nat) (e:Υ) (size:Nat) (v:ψ) (n:Nat) (xs:List ψ) (W:ο):Prop where
 own:W.ownsRow B e size v n xs
 below:σ w.heap.size w W
 lo:w.heap.size≤B
 hi:B≤W.heap.size
section
variable {w W W':ο} {B size n:Nat} {e:Υ} {v:ψ} {xs:List ψ}
theorem bO {x y:ο} {B n:Nat} {e:Υ} {size:Nat} {v:ψ} {xs:List ψ} (h:x.ownsRow B e size v n xs) (hx:σ x.heap.size x y):y.ownsRow B e size v n xs:=
 h.kept (row:=ε) ⟨hx.os,hx.tape,hx.output,hx.size,fun i hi _=>hx.block i hi⟩ (by cases hv:v.ownBlock<;>simp)
theorem Ow.up (h:Ow w B e size v n xs W) (hb:σ W.heap.size W W'):Ow w B e size v n xs W':=
 ⟨bO h.own hb,h.below.trans (hb.mono h.below.size),h.lo,Λ h.hi hb.size⟩
theorem Ow.rds (h:Ow w B e size v n xs W):∃A c,v=γ A n c∧aX W W.heap.size size A n c xs:=aX.of_own h.own
theorem Ow.new_ {W:ο} {cs:Array ψ} (hw:σ w.heap.size w W) (hl:w.heap.size≤B) (hh:B≤W.heap.size) (hn:n≤Jap) (hs:cs.size=n*size):Ow w B e size (γ (ζ ⟨W.heap.size,0,ε⟩) n n) n cs.toList (W.alloc (δ cs e)):=
 ⟨Q1 rfl hh hn hs rfl,hw.alloc hw.size _,hl,by simp;omega⟩
theorem Ow.nil_ {W:ο} (hw:σ w.heap.size w W) (hl:w.heap.size≤B) (hh:B≤W.heap.size):Ow w B e size (γ ε 0 0) 0 [] W:=
 ⟨World.ownsRow_nil W B e size,hw,hl,hh⟩
end
theorem fb {P:JaE} {w W:ο} {ops:Array JaZ} {rest:List JaZ} {o:JaZ} {a:Act} {Q:Exit→Act→ο→Prop} (R8:o.guard=ε) (s x:Jbd) (t:Υ)
 (ho:o.op=.call {callee:=.builtin .append,args:=#[s,x],argTypes:=#[t,t]})
 (B:Nat) (e:Υ) (i:TypeInfo) (z:ψ) (size bytes:Nat) (ht:P.underlying t=ζ (.slice e)) (hi:P.info? e=ζ i) (hz:i.zero=ζ z)
 (jE:i.size=size) (AZ:i.bytes=bytes) (Bh:z.cells.size=size) (mo:0<size)
 (v:ψ) (n:Nat) (xs:List ψ) (hs:a.eval s=v) (fz:Ow w B e size v n xs W)
 (BB:Nat) (A:Option Κ) (m c:Nat) (news:List ψ) (hx:a.eval x=γ A m c) (hr:aX W BB size A m c news) (h1:∀u∈news,u.oneCell'=τ)
 (Lj:n+m≤Jap) (ln:(n+m)*bytes≤140737488355328)
 (h:∀v' W',Ow w B e size v' (n+m) (xs++news) W'→σ B W W'→JbI P ops Q rest (a.put o.dst v') W'):
 JbI P ops Q (o::rest) a W:=by
 refine mu R8 s x t ho B e i z size bytes ht hi hz jE AZ Bh mo v n xs hs fz.own BB A m c news hx hr h1 Lj ln fz.hi fun v' w' fM hg _=>?_
 have hk:∀k,v.ownBlock=ζ k→B≤k:=fun k hk=>(fz.own.lt k hk).1
 exact h v' w' ⟨fM,fz.below.grown hg fz.below.size (fun k e=>Λ fz.lo (hk k e)),fz.lo,Λ fz.hi hg.size⟩ ((Θ B W).grown hg fz.hi hk)
theorem vJ {P:JaE} (w:ο) (t ty e:Υ) (i:TypeInfo) (z:ψ) (size bytes:Nat) (ht:P.underlying t=ζ (.slice e)) (hi:P.info? e=ζ i) (hz:i.zero=ζ z)
 (jE:i.size=size) (AZ:i.bytes=bytes) (Bh:z.cells.size=size) (mo:0<size)
 (B B':Nat) (A A':Option Κ) (n m c:Nat) (QR news:List ψ) (ho:aX w B size A n n QR) (hn:aX w B' size A' m c news) (hm:0<m) (h0:0<n)
 (Lj:n+m≤Jap) (ln:(n+m)*bytes≤140737488355328):
 ∃cap w',(JaY #[t,t] ty #[γ A n n,γ A' m c]).run P w=.ok (γ (ζ ⟨w.heap.size,0,ε⟩) (n+m) cap) w'∧
  w'.ownsRow w.heap.size e size (γ (ζ ⟨w.heap.size,0,ε⟩) (n+m) cap) (n+m) (QR++news)∧σ w.heap.size w w':=by
 subst jE;subst AZ;have acK:n+m≤9223372036854775807:=by simp only[Jap] at Lj;omega
 cases A with
 |none=>have:=(ho.none_ rfl).1;omega
 |some b=>
  cases A' with
  |none=>have:=(hn.none_ rfl).1;omega
  |some a=>
   have hr:=run_append_grow (P:=P) w t ty e i z ht hi hz b n n QR ho.len (fun j u hj=>ho.cell b rfl j u hj) a m c news hn.len (fun j u hj=>hn.cell a rfl j u hj) (by omega) (by omega) (growslice_fits (by omega) ln);have hlen:(QR++news).length=(n+m)*i.size:=by rw[Ε,ho.len,hn.len,Nat.add_mul]
   have Sg:=grownCap_ge w (n+m) n e;have qM:grownCap w (n+m) n e≤Jap:=grownCap_le_maxLen w (n+m) n e Lj
   refine⟨_,_,hr,⟨hlen,.inr ⟨w.heap.size,_,_,rfl,Δ _,heap_alloc_new w.drew _,Sg,qM,?_,?_⟩⟩,((Θ _ _).drew).alloc (Δ _) _⟩
   ·simp only[Array.size_append,List.size_toArray,size_zeroCells,Bh,ho.len,hn.len,←Nat.add_mul];congr 1;omega
   ·simp only[Array.toList_append,Jay];rw[←Jay,←hlen];exact List.take_left
theorem vL {P:JaE} (w:ο) (t ty e:Υ) (i:TypeInfo) (ht:P.underlying t=ζ (.slice e)) (hi:P.info? e=ζ i) (A A':Option Κ) (n c c':Nat) (tt:n≤c):
 (JaY #[t,t] ty #[γ A n c,γ A' 0 c']).run P w=.ok (γ A n c) w:=by
 cases A'<;>cases A<;>simp[JaY,run_underlying ht,sizeOf,typeInfo,hi,Builtin.lenOf,tt,Builtin.firstCells,storeCells,loadCells,loadCellsFrom]
end
section
theorem Ow.app {P:JaE} {w W:ο} (t ty e:Υ) (i:TypeInfo) (z:ψ) (size bytes B:Nat) (ht:P.underlying t=ζ (.slice e)) (hi:P.info? e=ζ i) (hz:i.zero=ζ z)
 (jE:i.size=size) (AZ:i.bytes=bytes) (Bh:z.cells.size=size) (mo:0<size)
 (v:ψ) (n:Nat) (xs:List ψ) (fz:Ow w B e size v n xs W)
 (BB:Nat) (A:Option Κ) (m c:Nat) (news:List ψ) (hr:aX W BB size A m c news) (h1:∀u∈news,u.oneCell'=τ)
 (Lj:n+m≤Jap) (ln:(n+m)*bytes≤140737488355328):
 ∃v' W',(JaY #[t,t] ty #[v,γ A m c]).run P W=.ok v' W'∧Ow w B e size v' (n+m) (xs++news) W'∧σ B W W':=by
 cases A with
 |none=>
  obtain⟨rfl,rfl⟩:=hr.none_ rfl;have lf:news=[]:=JaB (by simpa using hr.len);subst lf;exact⟨v,W,run_append_owned_none (P:=P) (w:=W) B t ty e i size ht hi v n xs fz.own,by simpa using fz,Θ _ _⟩
 |some ad=>
  obtain⟨v',w',cj,fM,hg,_,_⟩:=run_append_own_at (P:=P) W B t ty e i z size bytes ht hi hz jE AZ Bh mo v n xs fz.own ad m c news hr.len (hr.cell ad rfl) h1 Lj ln fz.hi;have hk:∀k,v.ownBlock=ζ k→B≤k:=fun k hk=>(fz.own.lt k hk).1
  exact⟨v',w',cj,⟨fM,fz.below.grown hg fz.below.size (fun k e=>Λ fz.lo (hk k e)),fz.lo,Λ fz.hi hg.size⟩,(Θ B W).grown hg fz.hi hk⟩
def de (B:Nat) (i:Nat):Prop:=B≤i
theorem Kept.of_from {B:Nat} {a b:ο} (h:σ B a b):Kept (de B) a b:=⟨h.os,h.tape,h.output,h.size,fun i _ hn=>h.block i (by unfold de at hn;omega)⟩
theorem Kept.from_cell {B:Nat} {w w':ο} (h:Kept (de B) w w') {p:Κ} {v:ψ} (hp:p.block<B) (hc:w.cell? p=ζ v):w'.cell? p=ζ v:=
 h.cell hc (fun e=>by unfold de at e;omega)
end
section
theorem fj {w:ο} {B B' n:Nat} {e:Υ} {size:Nat} {v:ψ} {xs:List ψ} (h:w.ownsRow B e size v n xs) (hB:B'≤B):w.ownsRow B' e size v n xs:=by
 refine⟨h.1,?_⟩
 rcases h.2 with h|⟨g,cap,cur,h1,h2,h3⟩
 ·exact .inl h
 ·exact .inr ⟨g,cap,cur,h1,Λ hB h2,h3⟩
theorem sM {P:JaE} {w w':ο} {ops:Array JaZ} {rest:List JaZ} {o:JaZ} {a:Act} {Q:Exit→Act→ο→Prop} (R8:o.guard=ε) (s x:Jbd) (t:Υ)
 (ho:o.op=.call {callee:=.builtin .append,args:=#[s,x],argTypes:=#[t,t]}) {v u v':ψ} (hs:a.eval s=v) (hx:a.eval x=u)
 (cj:(JaY #[t,t] o.type #[v,u]).run P w=.ok v' w') (h:JbI P ops Q rest (a.put o.dst v') w'):JbI P ops Q (o::rest) a w:=by
 refine wpList_plain R8 fun K hK=>?_
 unfold Oper.wp;simp[JaX,ho,resolve,invoke,builtin,hs,hx,cj,Jbw];exact hK _ _ h
theorem aX.far {w:ο} {size n c:Nat} {A:Option Κ} {xs:List ψ} (h:aX w w.heap.size size A n c xs) {p:Κ} (hp:0<n→∀a,A=ζ a→a.block≠p.block) (u:ψ):aX (w.setCell p u) (w.setCell p u).heap.size size A n c xs:=by
 have hs:(w.setCell p u).heap.size=w.heap.size:=by simp[JbB]
 refine⟨h.len,h.none_,h.le,fun a e hn=>by rw[hs];exact h.low a e hn,fun a e j v hj=>?_⟩
 have hn:0<n:=by
  rcases Nat.eq_zero_or_pos n with h0|h0
  ·subst h0
   have:=h.len
   rw[Nat.zero_mul] at this;rw[JaB this] at hj;simp at hj
  ·exact h0
 rw[←h.cell a e j v hj];refine World.cell?_of_block (Below.heap_setCell w p u _ ?_);rw[cJ];exact hp hn a e
end
section
theorem Whole.grown {W W':ο} {g:Nat} {t:Υ} {cs:List ψ} {r:Option Nat} (h:Whole W g t cs) (hg:W.grownBy W' r) (cu:ζ g≠r):Whole W' g t cs:=
 h.at_ (hg.block g h.lt cu)
theorem Ow.ne_ {w W:ο} {B size n g:Nat} {e:Υ} {v:ψ} {xs:List ψ} (h:Ow w B e size v n xs W) (hg:W.heap.size≤g):ζ g≠v.ownBlock:=fun e=>by
 have:=(h.own.lt g e.symm).2
 omega
theorem en {P:JaE} {w W:ο} {ops:Array JaZ} {rest:List JaZ} {o:JaZ} {a:Act} {Q:Exit→Act→ο→Prop} (R8:o.guard=ε) (s x:Jbd) (t:Υ)
 (ho:o.op=.call {callee:=.builtin .append,args:=#[s,x],argTypes:=#[t,t]})
 (B:Nat) (e:Υ) (i:TypeInfo) (z:ψ) (size bytes:Nat) (ht:P.underlying t=ζ (.slice e)) (hi:P.info? e=ζ i) (hz:i.zero=ζ z)
 (jE:i.size=size) (AZ:i.bytes=bytes) (Bh:z.cells.size=size) (mo:0<size)
 (v:ψ) (n:Nat) (xs:List ψ) (hs:a.eval s=v) (fz:Ow w B e size v n xs W)
 (BB:Nat) (A:Option Κ) (m c:Nat) (news:List ψ) (hx:a.eval x=γ A m c) (hr:aX W BB size A m c news) (h1:∀u∈news,u.oneCell'=τ)
 (Lj:n+m≤Jap) (ln:(n+m)*bytes≤140737488355328)
 (h:∀v' W',Ow w B e size v' (n+m) (xs++news) W'→σ B W W'→W.grownBy W' v.ownBlock→JbI P ops Q rest (a.put o.dst v') W'):
 JbI P ops Q (o::rest) a W:=by
 refine mu R8 s x t ho B e i z size bytes ht hi hz jE AZ Bh mo v n xs hs fz.own BB A m c news hx hr h1 Lj ln fz.hi fun v' w' fM hg _=>?_
 have hk:∀k,v.ownBlock=ζ k→B≤k:=fun k hk=>(fz.own.lt k hk).1
 exact h v' w' ⟨fM,fz.below.grown hg fz.below.size (fun k e=>Λ fz.lo (hk k e)),fz.lo,Λ fz.hi hg.size⟩ ((Θ B W).grown hg fz.hi hk) hg
end
section
theorem aX.grown {W W':ο} {size n c:Nat} {A:Option Κ} {xs:List ψ} {r:Option Nat} (h:aX W W.heap.size size A n c xs) (hg:W.grownBy W' r) (cu:∀a,A=ζ a→0<n→ζ a.block≠r):aX W' W'.heap.size size A n c xs:=by
 refine⟨h.len,h.none_,h.le,fun a ha hn=>JaK (h.low a ha hn) hg.size,fun a ha j u hu=>?_⟩
 rw[←h.cell a ha j u hu];refine World.cell?_of_block (hg.block _ ?_ ?_)
 ·rw[cJ];exact h.low a ha (h.pos hu)
 ·rw[cJ];exact cu a ha (h.pos hu)
theorem Ow.app2 {P:JaE} {w W:ο} (t ty e:Υ) (i:TypeInfo) (z:ψ) (size bytes B:Nat) (ht:P.underlying t=ζ (.slice e)) (hi:P.info? e=ζ i) (hz:i.zero=ζ z)
 (jE:i.size=size) (AZ:i.bytes=bytes) (Bh:z.cells.size=size) (mo:0<size)
 (v:ψ) (n:Nat) (xs:List ψ) (fz:Ow w B e size v n xs W)
 (BB:Nat) (A:Option Κ) (m c:Nat) (news:List ψ) (hr:aX W BB size A m c news) (h1:∀u∈news,u.oneCell'=τ)
 (Lj:n+m≤Jap) (ln:(n+m)*bytes≤140737488355328):
 ∃v' W',(JaY #[t,t] ty #[v,γ A m c]).run P W=.ok v' W'∧Ow w B e size v' (n+m) (xs++news) W'∧σ B W W'∧W.grownBy W' v.ownBlock∧(v'.ownBlock=v.ownBlock∨v'.ownBlock=ζ W.heap.size):=by
 cases A with
 |none=>
  obtain⟨rfl,rfl⟩:=hr.none_ rfl;have lf:news=[]:=JaB (by simpa using hr.len);subst lf;exact⟨v,W,run_append_owned_none (P:=P) (w:=W) B t ty e i size ht hi v n xs fz.own,by simpa using fz,Θ _ _,World.grownBy.refl W _,.inl rfl⟩
 |some ad=>
  obtain⟨v',w',cj,fM,hg,_,ho⟩:=run_append_own_at (P:=P) W B t ty e i z size bytes ht hi hz jE AZ Bh mo v n xs fz.own ad m c news hr.len (hr.cell ad rfl) h1 Lj ln fz.hi;have hk:∀k,v.ownBlock=ζ k→B≤k:=fun k hk=>(fz.own.lt k hk).1
  exact⟨v',w',cj,⟨fM,fz.below.grown hg fz.below.size (fun k e=>Λ fz.lo (hk k e)),fz.lo,Λ fz.hi hg.size⟩,(Θ B W).grown hg fz.hi hk,hg,ho⟩
theorem Ow.ne2 {v v':ψ} {W:ο} {g:Nat} (h:ζ g≠v.ownBlock) (hg:g<W.heap.size) (ho:v'.ownBlock=v.ownBlock∨v'.ownBlock=ζ W.heap.size):ζ g≠v'.ownBlock:=by
 rcases ho with ho|ho
 ·rw[ho];exact h
 ·rw[ho];intro e
  have:=Μ e
  omega
end
section
theorem bn {P:JaE} {ev:Jbd→ψ} {o:JaZ} {w:ο} (ty:Υ) (x y:Jbd) (ho:o.op=.store ty x y) (g:Nat) (hx:ev x=υ (ζ ⟨g,0,ε⟩))
 (rI:List ψ) (hy:ev y=φ rI.toArray) (t:Υ) (cs:List ψ) (hg:Whole w g t cs) (hi:(P.info? ty).map (·.size)=ζ rI.length) (hl:cs.length=rI.length) (h1:rI.all (·.oneCell')=τ):
 (JaX ev o).run P w=.ok .skip (w.setRow g rI.toArray):=by
 have h:=run_storeVar_row (P:=P) w g t ty cs.toArray rI.toArray hg (by simpa using hi) (by simpa using hl) (by simpa using h1);unfold JaX;simp only[ho,hx,hy,Instr.storeAt,Instr.sureAddr,Jbl,JbO,JbA,h]
theorem Whole.row {w:ο} {g:Nat} {t:Υ} {cs:List ψ} (h:Whole w g t cs) (rI:List ψ):Whole (w.setRow g rI.toArray) g t rI:=setRow_heap w g _ _ _ _ h
theorem Whole.row_far {w:ο} {g g':Nat} {t:Υ} {cs:List ψ} (h:Whole w g t cs) (cu:g≠g') (rI:Array ψ):Whole (w.setRow g' rI) g t cs:=(setRow_other w g' g rI cu).trans h
theorem setRow_size (w:ο) (g:Nat) (cs:Array ψ):(w.setRow g cs).heap.size=w.heap.size:=by simp[World.setRow]
theorem dV {S:Nat→Prop} {w:ο} {g:Nat} (hS:S g) (cs:Array ψ):Kept S w (w.setRow g cs):=⟨rfl,rfl,rfl,by simp[World.setRow],fun i _ hn=>setRow_other w g i cs (fun e=>hn (e▸hS))⟩
theorem cC {B:Nat} {a w:ο} {g:Nat} (h:σ B a w) (hg:B≤g) (cs:Array ψ):σ B a (w.setRow g cs):=
 ⟨h.os,h.tape,h.output,(by have:=h.size;simpa [World.setRow] using this),fun i hi=>(setRow_other w g i _ (by omega)).trans (h.block i hi)⟩
theorem aX.row_far {w:ο} {size n c g:Nat} {A:Option Κ} {xs:List ψ} (h:aX w w.heap.size size A n c xs) (hp:∀a,A=ζ a→0<n→ζ a.block≠ζ g) (cs:Array ψ):aX (w.setRow g cs) (w.setRow g cs).heap.size size A n c xs:=by
 refine⟨h.len,h.none_,h.le,fun a e hn=>by rw[setRow_size];exact h.low a e hn,fun a e j v hj=>?_⟩
 rw[←h.cell a e j v hj];refine World.cell?_of_block (setRow_other w g _ cs ?_);rw[cJ];exact fun e'=>hp a e (h.pos hj) (by rw[e'])
end
section
open Go.RowKit Go.Deep
theorem vM {P:JaE} {ev:Jbd→ψ} {o:JaZ} {w:ο} (t e:Υ) (x hi:Jbd) (ho:o.op=.slice t x ε (ζ hi) ε) (hu:P.underlying t=ζ (.slice e)) {s:Nat} (hs:(P.info? e).map (·.size)=ζ s)
 {A:Option Κ} {n c k:Nat} (hx:ev x=γ A n c) (hk:ev hi=J (k:Int)) (hkc:k≤c):(JaX ev o).run P w=.ok (.value (γ A k c)) w:=by
 cases hq:P.info? e with
 |none=>simp[hq] at hs
 |some i=>
  have hi':i.size=s:=by simpa [hq] using hs
  have h1:(Instr.slice t (γ A n c) ε (ζ (J (k:Int))) ε).run P w=.ok (γ A k c) w:=by
   have hb:(Instr.sliceBound (J (k:Int)) c .sliceAcap).run P w=.ok (k:Int).toNat w:=run_sliceBound _ _ _ _ _ (Int.natCast_nonneg k) (by omega);simp only[Instr.slice,Jbl,run_underlying hu,JbA,Instr.sliceBounds,JbO,if_true,hb,sizeOf,typeInfo,hq,Int.toNat_natCast];simp[hq,Addr.add]
  unfold JaX;simp only[ho,Option.map_none,Option.map_some,hx,hk,Jbl,JbO,JbA];rw[show(Instr.sliceAt t (γ A n c) ε (ζ (J (k:Int))) ε).run P w=(Instr.slice t (γ A n c) ε (ζ (J (k:Int))) ε).run P w from by simp[Instr.sliceAt,run_underlying hu],h1];rfl
theorem aX.elem {w:ο} {B s n c:Nat} {b off:Nat} {α:Type} {f:α→List ψ} {L:List α} (hs:∀x,(f x).length=s) (h:aX w B s (ζ ⟨b,off,ε⟩) n c (aj f L)) {k:Nat} {x:α} (hk:L[k]? =ζ x):
 ∀j v,(f x)[j]? =ζ v→w.cell? (Addr.add ⟨b,off+k*s,ε⟩ j)=ζ v:=by
 intro j v hv
 have:=h.cell _ rfl _ _ (j0 f hs L k x hk j v hv)
 have e:(⟨b,off,ε⟩:Κ).add (k*s+j)=(⟨b,off+k*s,ε⟩:Κ).add j:=by
  simp only[Ν,Nat.add_assoc]
 rw[←e];exact this
end
section
open Go.RowKit Go.Deep
end
section
section
variable {P:JaE} {ops:Array JaZ} {Q:Exit→Act→ο→Prop} {md:Jbj} {S:Nat→Prop} {ts:List Nat}
def vX (md:Jbj) (ops:Array JaZ) (ts:List Nat) (i:Nat):Bool:=
 ts.all fun t=>match ops[t]? with
  |some ot=>ot.after.toList.any (fun e=>JbS md e && e.on==i)
  |none=>τ
theorem BG {i:Nat} (h:vX md ops ts i=τ):∀j oj,ops[j]? =ζ oj→j∈ts→∃e∈oj.after,JbS md e=τ∧e.on=i:=by
 intro j oj hj hm;have h1:=Φ.1 h j hm;rw[hj] at h1;obtain⟨e,he,h2⟩:=List.any_eq_true.1 h1;rw[Bool.and_eq_true,beq_iff_eq] at h2;exact⟨e,Array.mem_toList_iff.1 he,h2⟩
def tk (P:JaE) (md:Jbj) (ops:Array JaZ) (S:Nat→Prop) (ts:List Nat) (Q:Exit→Act→ο→Prop):Nat→Array Bool→Act→ο→Prop
 |0,au,a,w=>Jaq md ops au=[]∧∀w',Ext w w'→Q .normal a w'
 |fuel+1,au,a,w=>
  (Jaq md ops au=[]→∀w',Ext w w'→Q .normal a w')∧
  ∀w',Ext w w'→∀i∈Jaq md ops au,wpOp P ops Q i (fun a' cT=>(i∉ts→Kept S w' cT)∧tk P md ops S ts Q fuel (au.setIfInBounds i τ) a' cT) a w'
theorem tk.up:∀{fuel:Nat} {au:Array Bool} {a:Act} {w w':ο},tk P md ops S ts Q fuel au a w→Ext w w'→tk P md ops S ts Q fuel au a w'
 |0,_,_,_,_,h,hw=>⟨h.1,fun cT h'=>h.2 cT (hw.trans h')⟩
 |_+1,_,_,_,_,h,hw=>⟨fun h0 cT h'=>h.1 h0 cT (hw.trans h'),fun cT h'=>h.2 cT (hw.trans h')⟩
theorem xn:∀(fuel:Nat) (au:Array Bool) (a:Act) (w:ο),tk P md ops S ts Q fuel au a w→wpAny P md ops Q fuel au a w
 |0,_,_,w,h=>⟨h.1,h.2 w (Ext.refl w)⟩
 |fuel+1,_,_,w,h=>⟨fun h0=>h.1 h0 w (Ext.refl w),fun i hi=>wpOp_mono (fun a' w' h'=>xn fuel _ a' w' h'.2) (h.2 w (Ext.refl w) i hi)⟩
theorem KX {i:Nat} {oi:JaZ} {v:ψ} (hi:ops[i]? =ζ oi) (ss:∀(j:Nat) (o:JaZ) cs b,ops[j]? =ζ o→o.op≠.select cs b)
 (hQ:∀c a w,Q (.panic c) (a.put oi.dst v) w→Q (.panic c) a w) (hts:∀j oj,ops[j]? =ζ oj→j∈ts→∃e∈oj.after,JbS md e=τ∧e.on=i):
 ∀(fuel:Nat) (au:Array Bool) (a:Act) (w:ο),
  (∀j oj,ops[j]? =ζ oj→j≠i→au.getD j τ=ρ→(∀e∈oj.after,JbS md e=τ→e.on≠i)→oi.apart ops oj=τ)→
  i∈Jaq md ops au→du P ops S oi v a w→
  tk P md ops S ts Q fuel (au.setIfInBounds i τ) (a.put oi.dst v) w→tk P md ops S ts Q (fuel+1) au a w:=by
 intro fuel
 induction fuel with
 |zero=>
  intro au a w _ hr hy H
  refine⟨fun h=>(by rw[h] at hr;cases hr),fun w1 jo j hj=>?_⟩
  by_cases rD:j=i
  ·subst rD;exact(hy.up (Kept.of_ext jo)).wpOp hi fun w2 jd=>⟨fun _=>Kept.of_ext jd,H.up (jo.trans jd)⟩
  ·have:=ready_mono hj rD
   rw[H.1] at this;cases this
 |succ fuel ih=>
  intro au a w qm hr hy H
  refine⟨fun h=>(by rw[h] at hr;cases hr),fun w1 jo j hj=>?_⟩
  by_cases rD:j=i
  ·subst rD;exact(hy.up (Kept.of_ext jo)).wpOp hi fun w2 jd=>⟨fun _=>Kept.of_ext jd,H.up (jo.trans jd)⟩
  ·have h1:=H.2 w1 jo j (ready_mono hj rD);obtain⟨On,oj,Sj,cN⟩:=mem_ready.1 hj
   have PK:∀e∈oj.after,JbS md e=τ→e.on≠i:=fun e he hb heq=>by
    have h1:=cN e he hb;have h0:=(mem_ready.1 hr).1;rw[heq] at h1;rcases JaM i au.size with h'|h'
    ·simp[h'] at h0 h1;rw[h0] at h1;cases h1
    ·simp[Array.getElem?_eq_none h'] at h1
   have hjt:j∉ts:=fun hm=>by
    obtain⟨e,he,hb,heq⟩:=hts j oj Sj hm;exact PK e he hb heq
   have h2:=zv Sj (qm j oj Sj rD On PK) (fun cs b=>ss i oi cs b hi) (fun cs b=>ss j oj cs b Sj) hQ h1
   have F2:∀k ok,ops[k]? =ζ ok→k≠i→(au.setIfInBounds j τ).getD k τ=ρ→
    (∀e∈ok.after,JbS md e=τ→e.on≠i)→oi.apart ops ok=τ:=fun k ok hk hki Xx yE=>by
    refine qm k ok hk hki ?_ yE
    by_cases UT:j=k
    ·subst UT;exact On
    ·rw[Jbq τ UT] at Xx;exact Xx
   refine wpOp_mono (fun a' w' h3=>⟨fun _=>h3.2.1 hjt,ih (au.setIfInBounds j τ) a' w' F2 (ready_mono hr (Ne.symm rD)) ?_ ?_⟩) h2
   ·exact(hy.up ((Kept.of_ext jo).trans (h3.2.1 hjt))).same h3.1.1 h3.1.2
   ·rw[Array.setIfInBounds_comm _ _ rD];exact h3.2.2
theorem O8 (i:Nat) (d:Option Tmp) (ht:vX md ops ts i=τ) {oi:JaZ} {fuel:Nat} {au:Array Bool} {a:Act} {w:ο} (hi:ops[i]? =ζ oi) (hd:oi.dst=d)
 (hs:JbJ ops=τ) (hf:JbP md ops au i=τ) (hr:(Jaq md ops au).contains i=τ)
 (hQ:∀v c a w,Q (.panic c) (a.put d v) w→Q (.panic c) a w)
 (h:∃v,du P ops S oi v a w∧tk P md ops S ts Q fuel (au.setIfInBounds i τ) (a.put d v) w):tk P md ops S ts Q (fuel+1) au a w:=by
 subst hd;obtain⟨v,hy,hk⟩:=h;exact KX hi (Region.noSelect_spec hs) (hQ v) (BG ht) fuel au a w (Region.free_spec hi hf) (by simpa using hr) hy hk
theorem Dt (i:Nat) (d:Option Tmp) {oi:JaZ} {fuel:Nat} {au:Array Bool} {a:Act} {w:ο} {f:FuncId} {args:Array ψ} (hi:ops[i]? =ζ oi) (hd:oi.dst=d)
 (hr:Jaq md ops au=[i]) (hw:Jau oi (Jbo ops a.tmps)=τ)
 (he:∀w',(JaX a.eval oi).run P w'=.ok (.enter f args) w')
 (h:∀w',Ext w w'→Ζ P f args w' fun e cT=>∃v,e=.returned v∧Kept S w' cT∧tk P md ops S ts Q fuel (au.setIfInBounds i τ) (a.put d v) cT):tk P md ops S ts Q (fuel+1) au a w:=by
 subst hd
 refine⟨fun h0=>(by rw[h0] at hr;cases hr),fun w1 jo j hj=>?_⟩
 rw[hr] at hj;obtain rfl:=Jao.1 hj;unfold Go.wpOp;simp only[hi,hw,if_true];refine .inl ?_;unfold Oper.wp;rw[he w1];refine Calls.mono (h w1 jo) fun e cT hx=>?_
 obtain⟨v,rfl,hk,hn⟩:=hx;exact⟨fun _=>hk,hn⟩
theorem De (i:Nat) {oi:JaZ} {fuel:Nat} {au:Array Bool} {a:Act} {w:ο} (hi:ops[i]? =ζ oi)
 (hr:Jaq md ops au=[i]) (hw:Jau oi (Jbo ops a.tmps)=τ)
 (h:∀w',Ext w w'→Oper.wp P oi a w' (fun a' cT=>(i∉ts→Kept S w' cT)∧tk P md ops S ts Q fuel (au.setIfInBounds i τ) a' cT) Q):tk P md ops S ts Q (fuel+1) au a w:=by
 refine⟨fun h0=>(by rw[h0] at hr;cases hr),fun w1 jo j hj=>?_⟩
 rw[hr] at hj;obtain rfl:=Jao.1 hj;unfold Go.wpOp;simp only[hi,hw,if_true];exact .inl (h w1 jo)
theorem Rj (i:Nat) (d:Option Tmp) {oi:JaZ} {fuel:Nat} {au:Array Bool} {a:Act} {w:ο} (hi:ops[i]? =ζ oi) (hd:oi.dst=d)
 (hr:Jaq md ops au=[i]) (hw:Jau oi (Jbo ops a.tmps)=τ)
 (h:∀w',Ext w w'→∃v cT,(JaX a.eval oi).run P w'=.ok (.value v) cT∧Kept S w' cT∧tk P md ops S ts Q fuel (au.setIfInBounds i τ) (a.put d v) cT):tk P md ops S ts Q (fuel+1) au a w:=by
 subst hd;refine De i hi hr hw fun w' hx=>?_
 obtain⟨v,cT,h1,h2,h3⟩:=h w' hx;unfold Oper.wp;rw[h1];exact⟨fun _=>h2,h3⟩
theorem eX {au:Array Bool} {a:Act} {w:ο} (hr:Jaq md ops au=[]) (h:∀w',Ext w w'→Q .normal a w'):∀fuel,tk P md ops S ts Q fuel au a w
 |0=>⟨hr,h⟩
 |_+1=>⟨fun _=>h,by rw[hr];simp⟩
theorem bT (S:Nat→Prop) (ts:List Nat) {id:Nat} {a:Act} {w:ο} (hm:P.follows .mixedOrders=τ)
 (h:tk P .any ops S ts Q ops.size (Jbe ops.size ρ) a w.drew):(Code.region id ops τ).wp P Q a w:=
 wp_region_any hm (xn _ _ _ _ h)
theorem Mf (i:Nat) {oi:JaZ} {fuel:Nat} {au:Array Bool} {a:Act} {w:ο} (hi:ops[i]? =ζ oi) (hd:oi.dst=ε)
 (hr:Jaq md ops au=[i]) (hw:Jau oi (Jbo ops a.tmps)=τ) (hm:i∈ts)
 (h:∀w',Ext w w'→∃cT,(JaX a.eval oi).run P w'=.ok .skip cT∧tk P md ops S ts Q fuel (au.setIfInBounds i τ) a cT):tk P md ops S ts Q (fuel+1) au a w:=by
 refine De i hi hr hw fun w' hx=>?_
 obtain⟨cT,h1,h3⟩:=h w' hx;unfold Oper.wp;rw[h1]
 refine⟨fun hn=>absurd hm hn,?_⟩
 rw[hd];exact h3
end
end
section
def aC (x:Nat→ψ):List (Option Tmp)→Nat→Act→Act
 |[],_,a=>a
 |d::ds,k,a=>aC x ds (k+1) (a.put d (x k))
def mz (x:Nat→ψ) (i:Nat) (v:ψ):Nat→ψ:=fun j=>if j=i then v else x j
theorem ON (a:Act) (d:Option Tmp) (u v:ψ):(a.put d u).put d v=a.put d v:=by
 cases d with
 |none=>rfl
 |some d=>simp[ξ]
theorem xO (x:Nat→ψ) (v:ψ):∀(ds:List (Option Tmp)) (k:Nat) (a:Act) (d:Option Tmp),(∀e∈ds,∀t,d=ζ t→e≠ζ t)→(aC x ds k a).put d v=aC x ds k (a.put d v)
 |[],_,_,_,_=>rfl
 |e::ds,k,a,d,h=>by
  simp only[aC];rw[xO x v ds (k+1) _ d (fun e' Po=>h e' (List.mem_cons_of_mem _ Po))];congr 1;exact Act.put_comm a (x:=e) (y:=d) _ _ (fun t he hd=>h e (List.mem_cons_self ..) t hd he)
theorem su (x:Nat→ψ) (i:Nat) (v:ψ):∀(ds:List (Option Tmp)) (k:Nat) (a:Act),i<k→aC (mz x i v) ds k a=aC x ds k a
 |[],_,_,_=>rfl
 |e::ds,k,a,h=>by
  simp only[aC];rw[show mz x i v k=x k from if_neg (by omega)];exact su x i v ds (k+1) _ (by omega)
theorem j3 (x:Nat→ψ) (i:Nat) (v:ψ):∀(ds:List (Option Tmp)) (k:Nat) (a:Act) (d:Option Tmp),k≤i→ds[i - k]? =ζ d→
 (∀j e,ds[j]? =ζ e→j≠i - k→∀t,d=ζ t→e≠ζ t)→(aC x ds k a).put d v=aC (mz x i v) ds k a
 |[],_,_,_,_,hd,_=>by simp at hd
 |e::ds,k,a,d,hk,hd,h=>by
  simp only[aC];rcases Nat.eq_or_lt_of_le hk with rfl|fh
  ·rw[Nat.sub_self] at hd h;simp at hd;subst hd
   rw[xO x v ds _ _ e (fun e' Po=>by
    obtain⟨j,hj⟩:=List.getElem?_of_mem Po;exact h (j+1) e' (by simpa using hj) (by omega)),ON,su x k v ds (k+1) _ (by omega)]
   rw[show mz x k v k=v from if_pos rfl]
  ·have e1:i - k=(i - (k+1))+1:=by omega
   rw[e1] at hd;rw[j3 x i v ds (k+1) _ d (by omega) (by simpa using hd) (fun j e' hj cu=>h (j+1) e' (by simpa using hj) (by omega))];rw[show mz x i v k=x k from if_neg (by omega)]
theorem mx:∀(ds:List (Option Tmp)) (k:Nat) (a:Act),∃x,aC x ds k a=a
 |[],_,a=>⟨fun _=>undef,rfl⟩
 |d::ds,k,a=>by
  obtain⟨x,hx⟩:=mx ds (k+1) a
  let u:=match d with|some t=>a.tmps.getD t undef|none=>undef
  have hu:a.put d u=a:=by
   cases d with
   |none=>rfl
   |some t=>
    simp only[ξ,u];congr 1;apply Array.ext
    ·simp
    ·intro j h1 h2;rw[Array.getElem_setIfInBounds];split
     ·rename_i e;subst e;simp[JaD,h2]
     ·rfl
  refine⟨mz x k u,?_⟩
  simp only[aC];rw[show mz x k u k=u from if_pos rfl,hu,su x k u ds (k+1) a (by omega),hx]
theorem j4 (f g:Nat→Bool) (i:Nat) (hf:f i=ρ) (hg:g i=τ) (h:∀j,j≠i→g j=f j):∀n,(Ω n).countP g=(Ω n).countP f+if i<n then 1 else 0
 |0=>by simp
 |n+1=>by
  rw[List.range_succ,List.countP_append,List.countP_append,j4 f g i hf hg h n];simp only[List.countP_singleton]
  by_cases e:n=i
  ·subst e;simp[hf,hg]
  ·rw[h n e]
   by_cases hi:i<n
   ·simp[hi,show i<n+1 by omega];omega
   ·simp[hi,show ¬i<n+1 by omega]
section
variable {P:JaE} {ops:Array JaZ} {Q:Exit→Act→ο→Prop} {md:Jbj}
def aP (ops:Array JaZ):List (Option Tmp):=ops.toList.map (·.dst)
def fx (md:Jbj) (o:JaZ):List Nat:=(o.after.toList.filter (JbS md)).map (·.on)
def Gm (P:JaE) (T:ψ→ο→Prop) (w:ο):Result Next→Prop
 |.ok (.value u) w'=>Ext w w'∧T u w'
 |.ok (.enter f args) w'=>Ζ P f args w' fun e cT=>∃v,e=.returned v∧Ext w cT∧T v cT
 |_=>False
def sI (P:JaE) (md:Jbj) (ops:Array JaZ) (Γ:Nat→ψ→ο→Prop) (G:ο→Prop) (a0:Act) (i:Nat):Prop:=
 ∀(o:JaZ),ops[i]? =ζ o→∀(x:Nat→ψ) (w:ο),G w→(∀j∈fx md o,Γ j (x j) w)→
  (Jau o (Jbo ops (aC x (aP ops) 0 a0).tmps)=τ∧Gm P (Γ i) w ((JaX (aC x (aP ops) 0 a0).eval o).run P w))∨
  (Jau o (Jbo ops (aC x (aP ops) 0 a0).tmps)=ρ∧Γ i undef w)
def iy (ops:Array JaZ):Bool:=((ops.toList.map (·.dst)).filterMap id).Nodup
def qH (md:Jbj) (ops:Array JaZ):Bool:=(Ω ops.size).all fun i=>match ops[i]? with|some o=>(fx md o).all (·<i)|none=>τ
theorem Gm.wp {o:JaZ} {T:ψ→ο→Prop} {a:Act} {w:ο} {K:Act→ο→Prop} (h:Gm P T w ((JaX a.eval o).run P w)) (hK:∀v w',Ext w w'→T v w'→K (a.put o.dst v) w'):o.wp P a w K Q:=by
 unfold Oper.wp;generalize (JaX a.eval o).run P w=r at*;cases r with
 |ok n w'=>
  cases n with
  |value u=>exact hK _ _ h.1 h.2
  |enter f args=>
   refine Calls.mono h fun e cT he=>?_
   obtain⟨v,rfl,h1,h2⟩:=he;exact hK _ _ h1 h2
  |_=>exact h.elim
 |halt x w'=>exact h.elim
theorem iQ (h:iy ops=τ) {i j:Nat} {t:Tmp} (hi:(aP ops)[i]? =ζ (ζ t)) (hj:(aP ops)[j]? =ζ (ζ t)):i=j:=by
 unfold iy at h;have hn:=of_decide_eq_true h;clear h;unfold aP at hi hj;generalize ops.toList.map (·.dst)=l at*
 induction l generalizing i j with
 |nil=>simp at hi
 |cons d l ih=>
  cases d with
  |none=>
   simp at hn;cases i with
   |zero=>simp at hi
   |succ i=>
    cases j with
    |zero=>simp at hj
    |succ j=>rw[ih (i:=i) (j:=j) (by simpa using hi) (by simpa using hj) hn]
  |some d=>
   simp only[List.filterMap_cons,id] at hn;rw[List.nodup_cons] at hn;cases i with
   |zero=>
    cases j with
    |zero=>rfl
    |succ j=>
     exfalso;simp at hi hj;subst hi;exact hn.1 (List.mem_filterMap.2 ⟨ζ d,ω hj,rfl⟩)
   |succ i=>
    cases j with
    |zero=>
     exfalso;simp at hi hj;subst hj;exact hn.1 (List.mem_filterMap.2 ⟨ζ d,ω hi,rfl⟩)
    |succ j=>rw[ih (i:=i) (j:=j) (by simpa using hi) (by simpa using hj) hn.2]
end
end
section
def lI (n m:Nat):Array Bool:=((Ω m).map fun j=>decide (j<n)).toArray
theorem jW (n m:Nat):(lI n m).size=m:=by simp[lI]
theorem jI (n m k:Nat) (h:k<m):(lI n m).getD k ρ=decide (k<n):=by
 unfold lI;simp[JaD,h]
theorem qO (n:Nat):∀m,(Ω m).countP (fun j=>decide (j<n))=min n m
 |0=>by simp
 |m+1=>by
  rw[List.range_succ,List.countP_append,qO n m];simp only[List.countP_singleton]
  by_cases h:m<n
  ·simp[h];omega
  ·simp[h];omega
section
variable {P:JaE} {ops:Array JaZ} {Q:Exit→Act→ο→Prop} {md:Jbj}
theorem jy {T:ψ→ο→Prop} {w w':ο} {ev:Jbd→ψ} {o:JaZ} {u:ψ} (h:(JaX ev o).run P w=.ok (.value u) w') (he:Ext w w') (hT:T u w'):Gm P T w ((JaX ev o).run P w):=by
 rw[h];exact⟨he,hT⟩
theorem eR {T:ψ→ο→Prop} {w:ο} {ev:Jbd→ψ} {o:JaZ} {f:FuncId} {args:Array ψ} (h:(JaX ev o).run P w=.ok (.enter f args) w)
 (hc:Ζ P f args w fun e cT=>∃v,e=.returned v∧Ext w cT∧T v cT):Gm P T w ((JaX ev o).run P w):=by
 rw[h];exact hc
def Pe (md:Jbj) (ops:Array JaZ) (n:Nat):Bool:=(Ω ops.size).all fun k=>decide (k<n)||match ops[k]? with|some o=>(Ω n).all fun j=>(fx md o).contains j|none=>τ
theorem Jv {n k:Nat} {o:JaZ} (h:Pe md ops n=τ) (hk:n≤k) (ho:ops[k]? =ζ o):∀j,j<n→j∈fx md o:=by
 intro j hj;have ZX:=(Jaa.1 ho).1;have h1:=Φ.1 h k (by simp[ZX]);rw[ho] at h1;have h2:decide (k<n)=ρ:=decide_eq_false (by omega);simp only[h2,Bool.false_or] at h1;have h3:=Φ.1 h1 j (by simp[hj]);simpa using h3
theorem JT (n:Nat) (Γ:Nat→ψ→ο→Prop) (G:ο→Prop) (a0:Act) (hΓ:∀i v w w',Γ i v w→Ext w w'→Γ i v w') (hG:∀w w',G w→Ext w w'→G w')
 (hd:iy ops=τ) (hr:qH md ops=τ) (hn:n≤ops.size) (ht:Pe md ops n=τ) (qf:∀i,i<n→sI P md ops Γ G a0 i)
 (kE:∀x w,G w→(∀i,i<n→Γ i (x i) w)→wpAny P md ops Q (ops.size - n) (lI n ops.size) (aC x (aP ops) 0 a0) w):
 ∀(fuel:Nat) (au:Array Bool) (x:Nat→ψ) (w:ο),au.size=ops.size→(∀k,n≤k→k<ops.size→au.getD k ρ=ρ)→(Ω ops.size).countP (fun j=>au.getD j ρ)+fuel=ops.size→
  G w→(∀i,i<n→au.getD i ρ=τ→Γ i (x i) w)→wpAny P md ops Q fuel au (aC x (aP ops) 0 a0) w:=by
 have qm:∀(au:Array Bool),au.size=ops.size→(¬∀i,i<n→au.getD i ρ=τ)→∃i,i<n∧i∈Jaq md ops au:=by
  intro au hs yE
  by_cases hex:∃i,i<n∧i∈Jaq md ops au
  ·exact hex
  ·exfalso;refine yE fun i=>?_
   induction i using Nat.strongRecOn with
   |_ i ih=>
    intro hi
    by_cases hl:au.getD i ρ=τ
    ·exact hl
    ·exfalso;refine hex ⟨i,hi,?_⟩;rw[mem_ready];have zI:i<ops.size:=by omega
     have Fe:i<au.size:=by omega
     have h1:au.getD i τ=ρ:=by
      simp[JaD,Fe] at hl ⊢;exact hl
     refine⟨h1,ops[i],by simp[zI],fun e he hb=>?_⟩
     have h2:=Φ.1 (show(Ω ops.size).all _=τ from hr) i (by simp[zI]);simp[zI] at h2
     have h3:=h2 e.on (by
      unfold fx;exact Α.2 ⟨e,JaC.2 ⟨by simpa using he,hb⟩,rfl⟩)
     exact ih e.on h3 (by omega)
 intro fuel
 induction fuel with
 |zero=>
  intro au x w hs hk hc hg hx
  have hl:∀i,i<ops.size→au.getD i ρ=τ:=fun i hi=>by
   have h1:(Ω ops.size).countP (fun j=>au.getD j ρ)=(Ω ops.size).length:=by simpa using hc
   exact List.countP_eq_length.1 h1 i (by simp[hi])
  have yE:n=ops.size:=by
   rcases JaM n ops.size with h|h
   ·have h1:=hl n h;rw[hk n (Δ _) h] at h1;cases h1
   ·omega
  have he:=kE x w hg fun i hi=>hx i hi (hl i (by omega))
  rw[show ops.size - n=0 by omega] at he
  have e1:au=lI n ops.size:=by
   apply Array.ext
   ·rw[jW,hs]
   ·intro j h1 h2;have h3:=hl j (by omega);have h4:=jI n ops.size j (by omega);rw[decide_eq_true (by omega)] at h4;simp[JaD,h1] at h3;simp[JaD,h2] at h4;rw[h3,h4]
  rw[e1];exact he
 |succ fuel ih=>
  intro au x w hs hk hc hg hx
  by_cases cN:∀i,i<n→au.getD i ρ=τ
  ·have he:=kE x w hg fun i hi=>hx i hi (cN i hi)
   have e1:au=lI n ops.size:=by
    apply Array.ext
    ·rw[jW,hs]
    ·intro j h1 h2;have h4:=jI n ops.size j (by omega);simp[JaD,h2] at h4
     by_cases hj:j<n
     ·have h3:=cN j hj;simp[JaD,h1] at h3;rw[h3,h4,decide_eq_true hj]
     ·have h3:=hk j (by omega) (by omega);simp[JaD,h1] at h3;rw[h3,h4,decide_eq_false hj]
   have e2:(Ω ops.size).countP (fun j=>au.getD j ρ)=n:=by
    rw[e1]
    have:(Ω ops.size).countP (fun j=>(lI n ops.size).getD j ρ)=(Ω ops.size).countP (fun j=>decide (j<n)):=by
     apply List.countP_congr;intro j hj;rw[jI n ops.size j (by simpa using hj)]
    rw[this,qO];omega
   rw[show ops.size - n=fuel+1 by omega] at he;rw[e1];exact he
  ·obtain⟨i0,FG,CM⟩:=qm au hs cN
   refine⟨fun h0=>(by rw[h0] at CM;cases CM),fun i hi=>?_⟩
   obtain⟨h1,o,ho,aK⟩:=mem_ready.1 hi;have zI:i<ops.size:=(Jaa.1 ho).1;have Fe:i<au.size:=by omega
   have lh:i<n:=by
    rcases JaM i n with h|h
    ·exact h
    ·exfalso;refine cN fun j hj=>?_
     have h2:=Jv ht h ho j hj;unfold fx at h2;obtain⟨e,he,rfl⟩:=Α.1 h2;obtain⟨LL,Mu⟩:=JaC.1 he;exact aK e (by simpa using LL) Mu
   have xH:(aP ops)[i]? =ζ o.dst:=by
    unfold aP;rw[List.getElem?_map,Array.getElem?_toList,ho];rfl
   have mh:∀v,(aC x (aP ops) 0 a0).put o.dst v=aC (mz x i v) (aP ops) 0 a0:=fun v=>
    j3 x i v (aP ops) 0 a0 o.dst (Nat.zero_le _) (by simpa using xH) (fun j e hj cu t ht he=>by
     rw[Nat.sub_zero] at cu;rw[ht] at xH;rw[he] at hj;exact cu (iQ hd hj xH))
   have rl:∀v w',Ext w w'→Γ i v w'→wpAny P md ops Q fuel (au.setIfInBounds i τ) (aC (mz x i v) (aP ops) 0 a0) w':=fun v w' hw hv=>by
    refine ih _ _ _ (by simpa using hs) (fun k h1 h2=>?_) ?_ (hG _ _ hg hw) fun j Px hj=>?_
    ·rw[Jbq ρ (by omega)];exact hk k h1 h2
    ·have vu:=j4 (fun j=>au.getD j ρ) (fun j=>(au.setIfInBounds i τ).getD j ρ) i (by simp[JaD,Fe] at h1 ⊢;exact h1) (by simp[JaD,Fe]) (fun j hj=>Jbq ρ (Ne.symm hj)) ops.size;rw[vu,if_pos zI];omega
    ·by_cases e:j=i
     ·subst e;simpa [mz] using hv
     ·rw[Jbq ρ (Ne.symm e)] at hj;rw[show mz x i v j=x j from if_neg e];exact hΓ _ _ _ _ (hx j Px hj) hw
   have iN:=qf i lh o ho x w hg (fun j hj=>by
    have rD:j<i:=by
     have h2:=Φ.1 (show(Ω ops.size).all _=τ from hr) i (by simp[zI]);rw[ho] at h2;simpa using Φ.1 h2 j hj
    unfold fx at hj;obtain⟨e,he,rfl⟩:=Α.1 hj;obtain⟨LL,Mu⟩:=JaC.1 he;exact hx _ (by omega) (aK e (by simpa using LL) Mu))
   unfold wpOp;simp only[ho];rcases iN with⟨hw,Bd⟩|⟨hw,hu⟩
   ·simp only[hw,if_true];exact .inl (Bd.wp fun v w' lj hv=>by rw[mh];exact rl v w' lj hv)
   ·simp only[hw,Bool.false_eq_true,if_false];rw[mh];exact rl undef w (Ext.refl w) hu
theorem kc (n:Nat) (S:Nat→Prop) {id:Nat} {a0:Act} {w:ο} (Γ:Nat→ψ→ο→Prop) (G:ο→Prop) (hm:P.follows .mixedOrders=τ)
 (hd:iy ops=τ) (hr:qH .any ops=τ) (hn:decide (n≤ops.size)=τ) (ht:Pe .any ops n=τ) (hΓ:∀i v w w',Γ i v w→Ext w w'→Γ i v w') (hG:∀w w',G w→Ext w w'→G w') (hg:G w.drew)
 (qf:∀i,i<n→sI P .any ops Γ G a0 i)
 (kE:∀x w,G w→(∀i,i<n→Γ i (x i) w)→nW P .any ops S Q (ops.size - n) (lI n ops.size) (aC x (aP ops) 0 a0) w):(Code.region id ops τ).wp P Q a0 w:=by
 obtain⟨x,hx⟩:=mx (aP ops) 0 a0
 have hz:∀k,(Jbe ops.size ρ).getD k ρ=ρ:=fun k=>by
  by_cases h:k<ops.size<;>simp[JaD,h]
 have h:=JT (P:=P) (Q:=Q) (md:=.any) n Γ G a0 hΓ hG hd hr (of_decide_eq_true hn) ht qf (fun x w h1 h2=>jk _ _ _ _ (kE x w h1 h2)) ops.size (Jbe ops.size ρ) x w.drew (by simp) (fun k _ _=>hz k) (by
  have:(Ω ops.size).countP (fun j=>(Jbe ops.size ρ).getD j ρ)=0:=by
   rw[List.countP_eq_zero];intro j hj;rw[hz j];simp
  omega) hg (fun i _ hi=>by rw[hz i] at hi;cases hi)
 rw[hx] at h;exact wp_region_any hm h
end
end
section
def dB (cs:List ψ) (o:Nat) (vs:List ψ):List ψ:=cs.take o++(vs++cs.drop (o+vs.length))
theorem fD (cs:List ψ) (o:Nat) (vs:List ψ) (h:o+vs.length≤cs.length):(dB cs o vs).length=cs.length:=by
 simp only[dB,Ε,JaA,List.length_drop];omega
theorem Ou (cs:List ψ) (o:Nat):dB cs o []=cs:=by simp[dB]
theorem JF (cs:List ψ) (o:Nat) (v:ψ) (vs:List ψ) (h:o<cs.length):dB (cs.set o v) (o+1) vs=dB cs o (v::vs):=by
 unfold dB
 have e1:(cs.set o v).take (o+1)=cs.take o++[v]:=by
  rw[List.take_set,List.take_add_one,θ h];simp only[Option.toList_some];rw[List.set_append_right _ _ (by rw[JaA];omega)];rw[show o - (cs.take o).length=0 by rw[JaA];omega];rfl
 rw[e1,List.drop_set_of_lt (by omega),JaH,Jay,show o+1+vs.length=o+(vs.length+1) by omega];rfl
theorem hD (g:Nat):∀(vs:List ψ) (o:Nat) (w:ο) (i:Nat),i≠g→(w.setCells g o vs).heap[i]? =w.heap[i]?
 |[],_,_,_,_=>rfl
 |v::r,o,w,i,h=>by
  rw[World.setCells,hD g r (o+1) _ i h];exact Below.heap_setCell w ⟨g,o,ε⟩ v i h
theorem cg (g:Nat):∀(vs:List ψ) (o:Nat) (w:ο),(w.setCells g o vs).heap.size=w.heap.size
 |[],_,_=>rfl
 |v::r,o,w=>by
  rw[World.setCells,cg g r (o+1) _];simp[JbB]
theorem eh (g:Nat):∀(vs:List ψ) (o:Nat) (w:ο),(w.setCells g o vs).os=w.os∧(w.setCells g o vs).tape=w.tape∧(w.setCells g o vs).output=w.output
 |[],_,_=>⟨rfl,rfl,rfl⟩
 |v::r,o,w=>by
  rw[World.setCells];exact eh g r (o+1) _
theorem eQ {S:Nat→Prop} {w:ο} {g:Nat} (hS:S g) (o:Nat) (vs:List ψ):Kept S w (w.setCells g o vs):=
 ⟨(eh g vs o w).1,(eh g vs o w).2.1,(eh g vs o w).2.2,Nat.le_of_eq (cg g vs o w).symm,fun i _ hn=>hD g vs o w i (fun e=>hn (e▸hS))⟩
theorem below_setCells {B:Nat} {a w:ο} {g:Nat} (h:σ B a w) (hg:B≤g) (o:Nat) (vs:List ψ):σ B a (w.setCells g o vs):=
 ⟨(eh g vs o w).1.trans h.os,(eh g vs o w).2.1.trans h.tape,(eh g vs o w).2.2.trans h.output,by rw[cg];exact h.size,fun i hi=>(hD g vs o w i (by omega)).trans (h.block i hi)⟩
theorem Whole.cells_ {g:Nat} {t:Υ}:∀(vs:List ψ) (o:Nat) (w:ο) (cs:List ψ),Whole w g t cs→o+vs.length≤cs.length→Whole (w.setCells g o vs) g t (dB cs o vs)
 |[],_,_,cs,h,_=>by rw[Ou];exact h
 |v::r,o,w,cs,h,hl=>by
  rw[JaH] at hl;rw[World.setCells,←JF cs o v r (by omega)];exact Whole.cells_ r (o+1) _ _ (h.set_ o v) (by rw[List.length_set];omega)
theorem Whole.cells_far {w:ο} {g g':Nat} {t:Υ} {cs:List ψ} (h:Whole w g t cs) (cu:g≠g') (o:Nat) (vs:List ψ):Whole (w.setCells g' o vs) g t cs:=(hD g' vs o w g cu).trans h
theorem Whole.there_ {w:ο} {g:Nat} {t:Υ} {cs:List ψ} (h:Whole w g t cs) (o n:Nat) (hl:o+n≤cs.length):w.there g o n:=fun j hj=>by
 have hv:cs[o+j]? =ζ (cs[o+j]'(by omega)):=θ (by omega);exact⟨by rw[h.cell hv];rfl,h.free _⟩
theorem mK {w:ο} {lo k n g:Nat} {T:Υ} {v:ψ} {xs:List ψ} (h:w.ownsRow lo T k v n xs) (cu:ζ g≠v.ownBlock) (o:Nat) (vs:List ψ):(w.setCells g o vs).ownsRow lo T k v n xs:=
 h.kept (row:=ζ g) ⟨(eh g vs o w).1,(eh g vs o w).2.1,(eh g vs o w).2.2,Nat.le_of_eq (cg g vs o w).symm,fun i _ hk=>hD g vs o w i (fun e=>hk (by rw[e]))⟩ (by first|exact cu|exact cu.symm|exact .inr cu|exact .inr cu.symm)
theorem aM {w:ο} {lo k n g i:Nat} {T:Υ} {v:ψ} {xs:List ψ} (h:w.ownsRow lo T k v n xs) (cu:ζ g≠v.ownBlock) (u:ψ):(w.setCell ⟨g,i,ε⟩ u).ownsRow lo T k v n xs:=
 mK h cu i [u]
section
variable {α:Type} {f:α→List ψ} {s:Nat}
theorem uB (hs:∀x,(f x).length=s) (L:List α) (junk:List ψ) (k:Nat) (y:α) (hk:k<L.length):dB (aj f L++junk) (k*s) (f y)=aj f (L.set k y)++junk:=by
 have e1:L.set k y=L.take k++y::L.drop (k+1):=by
  rw[List.set_eq_take_append_cons_drop,if_pos hk]
 have hl:=cP f hs L;have hm:(k+1)*s≤L.length*s:=Nat.mul_le_mul_right _ hk;rw[Nat.succ_mul] at hm;unfold dB;rw[e1,bV,jj f hs];simp only[aj];rw[ly f hs,hs,List.take_append_of_le_length (by omega),List.drop_append_of_le_length (by omega),show k*s+s=(k+1)*s by rw[Nat.succ_mul]];simp only[Jay]
end
theorem dZ {W:ο} {lo k n c:Nat} {T:Υ} {A:Option Κ} {xs:List ψ} (h:W.ownsRow lo T k (γ A n c) n xs) (hn:0<n):
 ∃g junk,A=ζ ⟨g,0,ε⟩∧lo≤g∧Whole W g T (xs++junk)∧(xs++junk).length=c*k∧n≤c∧c≤Jap∧xs.length=n*k:=by
 rcases h.2 with⟨h1,h2⟩|⟨g,cap,cur,h1,hb,hg,tt,qM,hcs,ht⟩
 ·omega
 ·injection h1 with a1 a2 a3
  subst a1 a3
  have e:cur.toList=xs++cur.toList.drop (n*k):=by
   conv=>lhs;rw[←List.take_append_drop (n*k) cur.toList,ht]
  refine⟨g,cur.toList.drop (n*k),rfl,hb,?_,?_,tt,qM,h.1⟩
  ·unfold Whole;rw[←e];simpa using hg
  ·rw[←e];simpa using hcs
theorem kG {W:ο} {lo k n c g:Nat} {T:Υ} {xs junk:List ψ} (hw:Whole W g T (xs++junk)) (fV:lo≤g) (hl:(xs++junk).length=c*k) (tt:n≤c) (qM:c≤Jap) (hx:xs.length=n*k):
 W.ownsRow lo T k (γ (ζ ⟨g,0,ε⟩) n c) n xs:=
 ⟨hx,.inr ⟨g,c,(xs++junk).toArray,rfl,fV,hw,tt,qM,by simpa using hl,by rw[←hx];simp⟩⟩
theorem fO {W:ο} {lo k n c:Nat} {T:Υ} {A:Option Κ} {xs:List ψ} (h:W.ownsRow lo T k (γ A n c) n xs):c≤Jap:=by
 rcases h.2 with⟨h1,h2⟩|⟨g,cap,cur,h1,hb,hg,tt,qM,hcs,ht⟩
 ·injection h1 with a1 a2 a3
  omega
 ·injection h1 with a1 a2 a3
  omega
theorem aJ {W:ο} {lo k n c:Nat} {T:Υ} {A:Option Κ} {xs:List ψ} (h:W.ownsRow lo T k (γ A n c) n xs):aX W W.heap.size k A n c xs:=by
 obtain⟨A',c',e,hr⟩:=aX.of_own h;injection e with a1 a2 a3
 subst a1 a3;exact hr
theorem uw {W:ο} {lo k n c:Nat} {T:Υ} {A:Option Κ} {xs:List ψ} (h:W.ownsRow lo T k (γ A n c) n xs) {a:Κ} (ha:A=ζ a):lo≤a.block∧a.block<W.heap.size:=by
 subst ha;exact h.lt a.block rfl
theorem ch {W:ο} {lo k n c g:Nat} {T T':Υ} {A:Option Κ} {xs cs:List ψ} (h:W.ownsRow lo T k (γ A n c) n xs) (hw:Whole W g T' cs) (hT:T'≠T):ζ g≠(Value.slice A n c).ownBlock:=by
 intro e;rcases h.2 with⟨h1,h2⟩|⟨g',cap,cur,h1,hb,hg,tt,qM,hcs,ht⟩
 ·rw[h1] at e;cases e
 ·rw[h1] at e;have e':g=g':=Μ e;subst e';unfold Whole at hw;rw[hg] at hw;injection hw with hw
  injection hw with _ ht
  exact hT ht.symm
theorem eO {P:JaE} {ev:Jbd→ψ} {o:JaZ} {w:ο} (ty:Υ) (x y:Jbd) (ho:o.op=.store ty x y) (b off:Nat) (hx:ev x=υ (ζ ⟨b,off,ε⟩))
 (cs:List ψ) (hy:ev y=φ cs.toArray) (ht:w.there b off cs.length) (hi:(P.info? ty).map (·.size)=ζ cs.length) (h1:∀v∈cs,v.oneCell'=τ):
 (JaX ev o).run P w=.ok .skip (w.setCells b off cs):=by
 have h:=run_storeAt_mid (P:=P) w b off ty cs.toArray (by simpa using ht) (by simpa using hi) (all_oneCell_toArray h1);unfold JaX;simp only[ho,hx,hy,Jbl,JbO,JbA,h]
end
end Go.Proofs.YtpdpbfmiahjiiaaGreat
