/- Several texts in one. -/
import Derived.Below
import Derived.BigQuiet
import Derived.Deep.AppendLies
import Derived.Deep.DeepCutAuto
import Derived.Deep.MidRow
import Derived.Deep.QuietTactic
import Derived.Deep.Slices
import Derived.Deep.WholeRow
import Derived.Great.Walk
import Derived.IntWalk
import Derived.Laws.AppendOwnNone
import Derived.Laws.NewBlocks
import Derived.Laws.OwnMore
import Derived.Laws.Rows
import Derived.Laws.Tables
import Derived.Lib.Hide
import Derived.Lib.SmallJoins
import Derived.LoopTactic
import Derived.Maps.AppendAt
import Derived.OrdersHeld
import Derived.Outline
import Derived.WalkKit
set_option linter.unusedSectionVars false
set_option linter.unusedSimpArgs false
set_option linter.unusedVariables false
set_option maxRecDepth 100000
set_option maxHeartbeats 16000000
namespace Go.Proofs.YtpdpbfmiahjiiaaGreat
open Go.RowKit
open _root_.Go.Value renaming slice→γ,pointer→υ,agg→φ
open _root_.Go.Obj renaming cells→δ
open _root_.Option renaming none→ε,some→ζ,some→Jae
open _root_.List renaming getElem?_eq_getElem→θ,mem_of_getElem?→ω,mem_map→Α,length_append→Ε,all_eq_true→Φ,range→Ω,mem_singleton→Jao,append_assoc→Jay,length_take→JaA,eq_nil_of_length_eq_zero→JaB,mem_filter→JaC,length_cons→JaH
open _root_.Go.Act renaming put→ξ
open _root_.Go renaming World→ο,Value→ψ,Calls→Ζ,Addr→Κ,TypeId→Υ,maxLen→Jap,Program→JaE,execOp→JaX,Oper→JaZ,Operand→Jbd,yielded→Jbo,getD_set_ne→Jbq,wpList→JbI
open _root_.Bool renaming false→ρ,true→τ
open _root_.Go.RowKit renaming Below→σ
open _root_.Nat renaming le_refl→Δ,le_trans→Λ,lt_of_lt_of_le→JaK,lt_or_ge→JaM
open _root_.Go.RowKit.Below renaming refl→Θ
open _root_.Option.some renaming inj→Μ
open _root_.Go.Addr renaming add_lit→Ν
open _root_.Array renaming getElem?_eq_some_iff→Jaa,getD→JaD,replicate→Jbe
open _root_.Go.Region renaming ready→Jaq,wanted→Jau,Mode→Jbj,noSelect→JbJ,free→JbP,binds→JbS
open _root_.Go.Builtin renaming append_→JaY
open _root_.Go.Sem renaming run_bind→Jbl,run_pure→JbO
open _root_.Go.Result renaming andThen→Jbw,andThen_ok→JbA
open _root_.Go.World renaming block_lt_of_cell?→Jbx,setCell→JbB
@[match_pattern]abbrev J(x:Int):ψ:=.int .i64 x
section
structure aS (w:ο) (B size:Nat) (A:Option Κ) (n c:Nat) (xs:List ψ):Prop where
 len:xs.length=n*size
 none_:A=ε→n=0∧c=0
 le:n≤c
 low:∀a,A=ζ a→0<n→a.block<B
 cell:∀a,A=ζ a→∀j u,xs[j]? =ζ u→w.cell? (a.add j)=ζ u
theorem cA (a:Κ) (n:Nat):(a.add n).block=a.block:=by unfold Addr.add;split<;>rfl
theorem aS.pos {w:ο} {B size n c:Nat} {A:Option Κ} {xs:List ψ} (h:aS w B size A n c xs) {j:Nat} {u:ψ} (hu:xs[j]? =ζ u):0<n:=by
 have h1:j<xs.length:=by
  rcases JaM j xs.length with h1|h1
  ·exact h1
  ·rw[List.getElem?_eq_none h1] at hu;cases hu
 rcases Nat.eq_zero_or_pos n with h0|h0
 ·rw[h.len,h0] at h1;omega
 ·exact h0
theorem aS.keep {w w':ο} {B size n c:Nat} {A:Option Κ} {xs:List ψ} (h:aS w B size A n c xs) (hk:∀p:Κ,p.block<B→w'.cell? p=w.cell? p):aS w' B size A n c xs:=
 ⟨h.len,h.none_,h.le,h.low,fun a ha j u hu=>(hk _ (by rw[cA];exact h.low a ha (h.pos hu))).trans (h.cell a ha j u hu)⟩
theorem aS.below {w w':ο} {B size n c:Nat} {A:Option Κ} {xs:List ψ} (h:aS w B size A n c xs) (hb:σ B w w'):aS w' B size A n c xs:=h.keep fun _ hp=>hb.cell hp
theorem aS.up {w w':ο} {B B' size n c:Nat} {A:Option Κ} {xs:List ψ} (h:aS w B size A n c xs) (hb:σ B w w') (hB:B≤B'):aS w' B' size A n c xs:=
 have h':=h.below hb
 ⟨h'.len,h'.none_,h'.le,fun a ha hn=>JaK (h'.low a ha hn) hB,h'.cell⟩
theorem aS.of_own {w:ο} {base size n:Nat} {e:Υ} {v:ψ} {xs:List ψ} (h:w.ownsRow base e size v n xs):∃A c,v=γ A n c∧aS w w.heap.size size A n c xs:=by
 rcases h.2 with⟨rfl,rfl⟩|⟨g,cap,cur,rfl,hb,hg,tH,qW,WT,ht⟩
 ·exact⟨ε,0,rfl,⟨h.1,fun _=>⟨rfl,rfl⟩,Δ _,fun a ha=>(by cases ha),fun a ha=>(by cases ha)⟩⟩
 ·refine⟨_,cap,rfl,⟨h.1,fun e=>(by cases e),tH,fun a ha _=>?_,fun a ha j u hu=>?_⟩⟩
  ·obtain rfl:=Μ ha;exact(h.lt g rfl).2
  ·obtain rfl:=Μ ha;exact h.cells (g:=g) rfl j u hu
theorem aS.of_new {cs:Array ψ} {t:Υ} (w:ο) {n size:Nat} (hn:cs.toList.length=n*size):aS (w.alloc (δ cs t)) (w.heap.size+1) size (ζ ⟨w.heap.size,0,ε⟩) n n cs.toList:=
 ⟨hn,fun e=>(by cases e),Δ _,fun a ha _=>(by obtain rfl:=Μ ha;simp),fun a ha=>(by obtain rfl:=Μ ha;exact World.news_of_block (fr:=(0,0)) (heap_alloc_new w _))⟩
theorem aS.new_ {w:ο} {cs:Array ψ} {t:Υ} {n size g B:Nat} {xs:List ψ} (hg:g=w.heap.size) (hB:g<B) (hx:xs=cs.toList) (hn:xs.length=n*size):aS (w.alloc (δ cs t)) B size (ζ ⟨g,0,ε⟩) n n xs:=by
 subst hg hx;have h:=aS.of_new (t:=t) w hn;exact⟨h.len,h.none_,h.le,fun a ha _=>(by obtain rfl:=Μ ha;exact hB),h.cell⟩
theorem MI {w:ο} {e:Υ} {base size g n:Nat} {cs:Array ψ} {xs:List ψ} (hg:g=w.heap.size) (hb:base≤g) (hm:n≤Jap) (hs:cs.size=n*size) (hx:xs=cs.toList):
 (w.alloc (δ cs e)).ownsRow base e size (γ (ζ ⟨g,0,ε⟩) n n) n xs:=by
 subst hg hx;exact World.ownsRow_lit w cs n hb hm hs
theorem lz {P:JaE} {w:ο} {ops:Array JaZ} {rest:List JaZ} {o:JaZ} {a:Act} {Q:Exit→Act→ο→Prop} (PW:o.guard=ε) (s x:Jbd) (t:Υ)
 (ho:o.op=.call {callee:=.builtin .append,args:=#[s,x],argTypes:=#[t,t]})
 (base:Nat) (e:Υ) (i:TypeInfo) (z:ψ) (size bytes:Nat) (ht:P.underlying t=ζ (.slice e)) (hi:P.info? e=ζ i) (hz:i.zero=ζ z)
 (je:i.size=size) (yn:i.bytes=bytes) (xY:z.cells.size=size) (mf:0<size)
 (v:ψ) (n:Nat) (xs:List ψ) (hs:a.eval s=v) (fy:w.ownsRow base e size v n xs)
 (B:Nat) (A:Option Κ) (m c:Nat) (news:List ψ) (hx:a.eval x=γ A m c) (hr:aS w B size A m c news) (h1:∀u∈news,u.oneCell'=τ)
 (Iu:n+m≤Jap) (kv:(n+m)*bytes≤140737488355328) (TQ:base≤w.heap.size)
 (h:∀v' w',w'.ownsRow base e size v' (n+m) (xs++news)→w.grownBy w' v.ownBlock→(v'.ownBlock=v.ownBlock∨v'.ownBlock=ζ w.heap.size)→JbI P ops Q rest (a.put o.dst v') w'):
 JbI P ops Q (o::rest) a w:=by
 cases A with
 |none=>
  obtain⟨rfl,rfl⟩:=hr.none_ rfl;have kg:news=[]:=JaB (by simpa using hr.len);subst kg;exact wpList_append_own_none PW s x t ho base e i size ht hi v n xs hs fy hx (h v w (by simpa using fy) (World.grownBy.refl w _) (.inl rfl))
 |some ad=>
  exact wpList_append_own_at w PW s x t ho base e i z size bytes ht hi hz je yn xY mf v n xs hs fy ad m c news hx hr.len (hr.cell ad rfl) h1 Iu kv TQ fun v' w' a1 a2 _ a4=>h v' w' a1 a2 a4
end
section
def Whole (w:ο) (g:Nat) (t:Υ) (cs:List ψ):Prop:=w.heap[g]? =ζ (δ cs.toArray t (0,0))
section
variable {w w':ο} {g:Nat} {t:Υ} {cs:List ψ}
theorem Whole.lt (h:Whole w g t cs):g<w.heap.size:=(Jaa.1 h).1
theorem Whole.cell (h:Whole w g t cs) {i:Nat} {v:ψ} (hv:cs[i]? =ζ v):w.cell? ⟨g,i,ε⟩=ζ v:=by
 rw[cell_of_row w g i _ t (0,0) h,List.getElem?_toArray,hv]
theorem Whole.free (h:Whole w g t cs) (i:Nat):w.frozen? ⟨g,i,ε⟩=ρ:=frozen_of_row w g i _ t h
theorem Whole.new_ (w:ο) (t:Υ) (cs:List ψ):Whole (w.alloc (δ cs.toArray t)) w.heap.size t cs:=heap_alloc_new w _
theorem Whole.new2 {w:ο} {g:Nat} {t:Υ} {cs:List ψ} (hg:g=w.heap.size):Whole (w.alloc (δ cs.toArray t)) g t cs:=by
 subst hg;exact Whole.new_ w t cs
theorem Whole.alloc (h:Whole w g t cs) (o:Obj):Whole (w.alloc o) g t cs:=(Below.heap_alloc w o g h.lt).trans h
theorem Whole.drew (h:Whole w g t cs):Whole w.drew g t cs:=h
theorem Whole.set_ (h:Whole w g t cs) (i:Nat) (u:ψ):Whole (w.setCell ⟨g,i,ε⟩ u) g t (cs.set i u):=by
 unfold Whole at h ⊢;simp[JbB,Array.getElem?_modify,h]
theorem Whole.far (h:Whole w g t cs) {p:Κ} (hp:g≠p.block) (u:ψ):Whole (w.setCell p u) g t cs:=(Below.heap_setCell w p u g hp).trans h
theorem Whole.at_ (h:Whole w g t cs) (hb:w'.heap[g]? =w.heap[g]?):Whole w' g t cs:=hb.trans h
theorem Whole.below (h:Whole w g t cs) (hb:σ w.heap.size w w'):Whole w' g t cs:=h.at_ (hb.block g h.lt)
theorem Whole.ne_ {g':Nat} {t':Υ} {qN:List ψ} (h:Whole w g t cs) (h':Whole w g' t' qN) (bQ:t≠t'):g≠g':=by
 rintro rfl;unfold Whole at h h';rw[h] at h';injection h' with h'
 injection h' with _ ht
 exact bQ ht
end
structure Kept (S:Nat→Prop) (w w':ο):Prop where
 os:w'.os=w.os
 tape:w'.tape=w.tape
 output:w'.output=w.output
 size:w.heap.size≤w'.heap.size
 block:∀i,i<w.heap.size→¬S i→w'.heap[i]? =w.heap[i]?
theorem Kept.refl (S:Nat→Prop) (w:ο):Kept S w w:=⟨rfl,rfl,rfl,Δ _,fun _ _ _=>rfl⟩
theorem Kept.trans {S:Nat→Prop} {a b c:ο} (h:Kept S a b) (k:Kept S b c):Kept S a c:=
 ⟨k.os.trans h.os,k.tape.trans h.tape,k.output.trans h.output,Λ h.size k.size,fun i hi hn=>(k.block i (JaK hi h.size) hn).trans (h.block i hi hn)⟩
theorem Kept.of_below {S:Nat→Prop} {a b:ο} (h:σ a.heap.size a b):Kept S a b:=⟨h.os,h.tape,h.output,h.size,fun i hi _=>h.block i hi⟩
theorem Kept.below {S:Nat→Prop} {a b:ο} {B:Nat} (h:Kept S a b) (hB:B≤a.heap.size) (hS:∀i,i<B→¬S i):σ B a b:=⟨h.os,h.tape,h.output,h.size,fun i hi=>h.block i (by omega) (hS i hi)⟩
theorem Kept.drew {S:Nat→Prop} {a b:ο} (h:Kept S a b):Kept S a b.drew:=⟨h.os,h.tape,h.output,h.size,h.block⟩
theorem Kept.alloc {S:Nat→Prop} {a b:ο} (h:Kept S a b) (o:Obj):Kept S a (b.alloc o):=
 h.trans ⟨rfl,rfl,rfl,by simp,fun i hi _=>Below.heap_alloc _ _ _ hi⟩
theorem Kept.setCell {S:Nat→Prop} {a b:ο} (h:Kept S a b) {p:Κ} (hp:S p.block∨a.heap.size≤p.block) (u:ψ):Kept S a (b.setCell p u):=
 ⟨h.os,h.tape,h.output,by simpa [JbB] using h.size,fun i hi hn=>(Below.heap_setCell _ _ _ _ (by
  rintro rfl;rcases hp with hp|hp
  ·exact hn hp
  ·omega)).trans (h.block i hi hn)⟩
theorem Kept.cell {S:Nat→Prop} {w w':ο} (h:Kept S w w') {p:Κ} {v:ψ} (hc:w.cell? p=ζ v) (hn:¬S p.block):w'.cell? p=ζ v:=
 (World.cell?_of_block (w:=w) (h.block p.block (Jbx w p hc) hn)).trans hc
theorem Kept.whole {S:Nat→Prop} {w w':ο} {g:Nat} {t:Υ} {cs:List ψ} (h:Kept S w w') (hg:Whole w g t cs) (hn:¬S g):Whole w' g t cs:=
 hg.at_ (h.block g hg.lt hn)
end
section
def Ext (w w':ο):Prop:=σ w.heap.size w w'
theorem Ext.refl (w:ο):Ext w w:=Θ _ _
theorem Ext.trans {a b c:ο} (h:Ext a b) (k:Ext b c):Ext a c:=Below.trans h (Below.mono k (Below.size h))
theorem Ext.cell {w w':ο} (h:Ext w w') {p:Κ} {v:ψ} (hc:w.cell? p=ζ v):w'.cell? p=ζ v:=(Below.cell h (Jbx w p hc)).trans hc
section
variable {P:JaE} {ops:Array JaZ} {Q:Exit→Act→ο→Prop} {md:Jbj}
def Outcome (P:JaE) (v:ψ) (w:ο):Result Next→Prop
 |.ok (.value u) w'=>u=v∧Ext w w'
 |.ok (.enter f args) w'=>Ζ P f args w' fun e cD=>e=.returned v∧Ext w cD
 |_=>False
def Alike (ops:Array JaZ) (o:JaZ) (a a':Act):Prop:=JaX a'.eval o=JaX a.eval o∧Jau o (Jbo ops a'.tmps)=Jau o (Jbo ops a.tmps)
theorem xp {j:Nat} {oi oj:JaZ} {v:ψ} (hj:ops[j]? =ζ oj) (hap:oi.apart ops oj=τ)
 (hsi:∀cs b,oi.op≠.select cs b) (hsj:∀cs b,oj.op≠.select cs b)
 (hQ:∀c a w,Q (.panic c) (a.put oi.dst v) w→Q (.panic c) a w) {K:Act→ο→Prop} {a:Act} {w:ο}
 (h:wpOp P ops Q j K (a.put oi.dst v) w):
 wpOp P ops Q j (fun a' w'=>Alike ops oi a a'∧K (a'.put oi.dst v) w') a w:=by
 obtain⟨h1,h2,h3⟩:=Oper.apart_spec hap
 have keep:∀(b:Act),Alike ops oi a b→∀u,Alike ops oi a (b.put oj.dst u):=fun b hb u=>
  ⟨(execOp_put oi hsi b oj.dst u h3).trans hb.1,(wanted_put oi b oj.dst u h3).trans hb.2⟩
 have k0:Alike ops oi a a:=⟨rfl,rfl⟩;have kD:∀d,Alike ops oi a {a with defers:=d::a.defers}:=fun d=>⟨rfl,rfl⟩
 unfold wpOp at*;simp only[hj] at*;rw[wanted_put oj a oi.dst v h1] at h;split
 ·rename_i hw;simp only[hw,if_true] at h;rcases h with h|⟨O8,Uq⟩
  case inr=>exact .inr ⟨by unfold Oper.asks at*;rw[execOp_put oj hsj a oi.dst v h1] at O8;exact O8,Uq⟩
  refine .inl ?_;unfold Oper.wp at*;rw[execOp_put oj hsj a oi.dst v h1] at h;generalize (JaX a.eval oj).run P w=r at*;cases r with
  |ok n w'=>
   cases n<;>simp only[Oper.upon] at h ⊢
   case value u=>exact⟨keep a k0 u,by rw[←Act.put_comm a v u h2];exact h⟩
   case skip=>exact⟨keep a k0 _,by rw[←Act.put_comm a v undef h2];exact h⟩
   case defer d=>
    refine⟨keep _ (kD d) _,?_⟩
    rw[←Act.put_comm _ v undef h2,←Act.put_defers];exact h
   case enter f args=>
    refine Calls.mono h fun e cD he=>?_
    cases e with
    |returned u=>exact⟨keep a k0 u,by rw[←Act.put_comm a v u h2];exact he⟩
    |panicked c=>exact hQ _ _ _ he
    |outgrown=>exact he
   case row row args=>exact Rows.mono h fun u cD he=>⟨keep a k0 u,by rw[←Act.put_comm a v u h2];exact he⟩
  |halt x w'=>
   cases x<;>simp only[Oper.upon] at h ⊢
   case panic u=>exact hQ _ _ _ h
 ·rename_i hw;simp only[hw] at h;exact⟨keep a k0 _,by rw[←Act.put_comm a v undef h2];exact h⟩
end
end
section
theorem Kept.of_ext {S:Nat→Prop} {w w':ο} (h:Ext w w'):Kept S w w':=Kept.of_below h
section
variable {P:JaE} {ops:Array JaZ} {Q:Exit→Act→ο→Prop} {md:Jbj} {S:Nat→Prop}
def du (P:JaE) (ops:Array JaZ) (S:Nat→Prop) (o:JaZ) (v:ψ) (a:Act) (w:ο):Prop:=
 (Jau o (Jbo ops a.tmps)=τ∧∀w',Kept S w w'→Outcome P v w' ((JaX a.eval o).run P w'))∨
 (Jau o (Jbo ops a.tmps)=ρ∧v=undef)
theorem du.up {o:JaZ} {v:ψ} {a:Act} {w w':ο} (h:du P ops S o v a w) (hw:Kept S w w'):du P ops S o v a w':=
 match h with
 |.inl ⟨h1,h2⟩=>.inl ⟨h1,fun cD h'=>h2 cD (hw.trans h')⟩
 |.inr h2=>.inr h2
theorem du.same {o:JaZ} {v:ψ} {a a':Act} {w:ο} (hy:du P ops S o v a w) (he:JaX a'.eval o=JaX a.eval o)
 (hw:Jau o (Jbo ops a'.tmps)=Jau o (Jbo ops a.tmps)):du P ops S o v a' w:=by
 unfold du at*;rw[he,hw];exact hy
theorem du.wpOp {i:Nat} {o:JaZ} {v:ψ} {a:Act} {w:ο} (hi:ops[i]? =ζ o) (hy:du P ops S o v a w)
 {K:Act→ο→Prop} (h:∀w',Ext w w'→K (a.put o.dst v) w'):wpOp P ops Q i K a w:=by
 unfold Go.wpOp;simp only[hi];rcases hy with⟨hw,hv⟩|⟨hw,rfl⟩
 ·simp only[hw,if_true];refine .inl ?_;have h1:=hv w (Kept.refl _ w);unfold Oper.wp;generalize (JaX a.eval o).run P w=r at*;cases r with
  |ok n w'=>
   cases n with
   |value u=>
    obtain⟨rfl,he⟩:=h1;exact h _ he
   |enter f args=>
    refine Calls.mono h1 fun e cD he=>?_
    obtain⟨rfl,hx⟩:=he;exact h _ hx
   |_=>exact h1.elim
  |halt x w'=>exact h1.elim
 ·simp only[hw,Bool.false_eq_true,if_false];exact h _ (Ext.refl _)
def o4 (P:JaE) (md:Jbj) (ops:Array JaZ) (S:Nat→Prop) (Q:Exit→Act→ο→Prop):Nat→Array Bool→Act→ο→Prop
 |0,au,a,w=>Jaq md ops au=[]∧∀w',Ext w w'→Q .normal a w'
 |fuel+1,au,a,w=>
  (Jaq md ops au=[]→∀w',Ext w w'→Q .normal a w')∧
  ∀w',Ext w w'→∀i∈Jaq md ops au,wpOp P ops Q i (fun a' cD=>Kept S w' cD∧o4 P md ops S Q fuel (au.setIfInBounds i τ) a' cD) a w'
theorem o4.up:∀{fuel:Nat} {au:Array Bool} {a:Act} {w w':ο},o4 P md ops S Q fuel au a w→Ext w w'→o4 P md ops S Q fuel au a w'
 |0,_,_,_,_,h,hw=>⟨h.1,fun cD h'=>h.2 cD (hw.trans h')⟩
 |_+1,_,_,_,_,h,hw=>⟨fun h0 cD h'=>h.1 h0 cD (hw.trans h'),fun cD h'=>h.2 cD (hw.trans h')⟩
theorem jz:∀(fuel:Nat) (au:Array Bool) (a:Act) (w:ο),o4 P md ops S Q fuel au a w→wpAny P md ops Q fuel au a w
 |0,_,_,w,h=>⟨h.1,h.2 w (Ext.refl w)⟩
 |fuel+1,_,_,w,h=>⟨fun h0=>h.1 h0 w (Ext.refl w),fun i hi=>wpOp_mono (fun a' w' h'=>jz fuel _ a' w' h'.2) (h.2 w (Ext.refl w) i hi)⟩
theorem Ie {i:Nat} {oi:JaZ} {v:ψ} (hi:ops[i]? =ζ oi) (yt:∀(j:Nat) (o:JaZ) cs b,ops[j]? =ζ o→o.op≠.select cs b)
 (hQ:∀c a w,Q (.panic c) (a.put oi.dst v) w→Q (.panic c) a w):
 ∀(fuel:Nat) (au:Array Bool) (a:Act) (w:ο),
  (∀j oj,ops[j]? =ζ oj→j≠i→au.getD j τ=ρ→(∀e∈oj.after,JbS md e=τ→e.on≠i)→oi.apart ops oj=τ)→
  i∈Jaq md ops au→du P ops S oi v a w→
  o4 P md ops S Q fuel (au.setIfInBounds i τ) (a.put oi.dst v) w→o4 P md ops S Q (fuel+1) au a w:=by
 intro fuel
 induction fuel with
 |zero=>
  intro au a w _ hr hy H
  refine⟨fun h=>(by rw[h] at hr;cases hr),fun w1 qL j hj=>?_⟩
  by_cases qd:j=i
  ·subst qd;exact(hy.up (Kept.of_ext qL)).wpOp hi fun w2 jU=>⟨Kept.of_ext jU,H.up (qL.trans jU)⟩
  ·have:=ready_mono hj qd
   rw[H.1] at this;cases this
 |succ fuel ih=>
  intro au a w rT hr hy H
  refine⟨fun h=>(by rw[h] at hr;cases hr),fun w1 qL j hj=>?_⟩
  by_cases qd:j=i
  ·subst qd;exact(hy.up (Kept.of_ext qL)).wpOp hi fun w2 jU=>⟨Kept.of_ext jU,H.up (qL.trans jU)⟩
  ·have h1:=H.2 w1 qL j (ready_mono hj qd);obtain⟨Lw,oj,PE,bW⟩:=mem_ready.1 hj
   have NC:∀e∈oj.after,JbS md e=τ→e.on≠i:=fun e he hb heq=>by
    have h1:=bW e he hb;have h0:=(mem_ready.1 hr).1;rw[heq] at h1;rcases JaM i au.size with h'|h'
    ·simp[h'] at h0 h1;rw[h0] at h1;cases h1
    ·simp[Array.getElem?_eq_none h'] at h1
   have h2:=xp PE (rT j oj PE qd Lw NC) (fun cs b=>yt i oi cs b hi) (fun cs b=>yt j oj cs b PE) hQ h1
   have Cm:∀k ok,ops[k]? =ζ ok→k≠i→(au.setIfInBounds j τ).getD k τ=ρ→
    (∀e∈ok.after,JbS md e=τ→e.on≠i)→oi.apart ops ok=τ:=fun k ok hk Zx UD ui=>by
    refine rT k ok hk Zx ?_ ui
    by_cases QU:j=k
    ·subst QU;exact Lw
    ·rw[Jbq τ QU] at UD;exact UD
   refine wpOp_mono (fun a' w' h3=>⟨h3.2.1,ih (au.setIfInBounds j τ) a' w' Cm (ready_mono hr (Ne.symm qd)) ?_ ?_⟩) h2
   ·exact(hy.up ((Kept.of_ext qL).trans h3.2.1)).same h3.1.1 h3.1.2
   ·rw[Array.setIfInBounds_comm _ _ qd];exact h3.2.2
theorem zP (i:Nat) (d:Option Tmp) {oi:JaZ} {fuel:Nat} {au:Array Bool} {a:Act} {w:ο} (hi:ops[i]? =ζ oi) (hd:oi.dst=d)
 (hs:JbJ ops=τ) (hf:JbP md ops au i=τ) (hr:(Jaq md ops au).contains i=τ)
 (hQ:∀v c a w,Q (.panic c) (a.put d v) w→Q (.panic c) a w)
 (h:∃v,du P ops S oi v a w∧o4 P md ops S Q fuel (au.setIfInBounds i τ) (a.put d v) w):o4 P md ops S Q (fuel+1) au a w:=by
 subst hd;obtain⟨v,hy,hk⟩:=h;exact Ie hi (Region.noSelect_spec hs) (hQ v) fuel au a w (Region.free_spec hi hf) (by simpa using hr) hy hk
theorem JV (i:Nat) (d:Option Tmp) {oi:JaZ} {fuel:Nat} {au:Array Bool} {a:Act} {w:ο} {f:FuncId} {args:Array ψ} (hi:ops[i]? =ζ oi) (hd:oi.dst=d)
 (hr:Jaq md ops au=[i]) (hw:Jau oi (Jbo ops a.tmps)=τ)
 (he:∀w',(JaX a.eval oi).run P w'=.ok (.enter f args) w')
 (h:∀w',Ext w w'→Ζ P f args w' fun e cD=>∃v,e=.returned v∧Kept S w' cD∧o4 P md ops S Q fuel (au.setIfInBounds i τ) (a.put d v) cD):o4 P md ops S Q (fuel+1) au a w:=by
 subst hd
 refine⟨fun h0=>(by rw[h0] at hr;cases hr),fun w1 qL j hj=>?_⟩
 rw[hr] at hj;obtain rfl:=Jao.1 hj;unfold Go.wpOp;simp only[hi,hw,if_true];refine .inl ?_;unfold Oper.wp;rw[he w1];refine Calls.mono (h w1 qL) fun e cD hx=>?_
 obtain⟨v,rfl,hk,hn⟩:=hx;exact⟨hk,hn⟩
theorem Bl (i:Nat) {oi:JaZ} {fuel:Nat} {au:Array Bool} {a:Act} {w:ο} (hi:ops[i]? =ζ oi)
 (hr:Jaq md ops au=[i]) (hw:Jau oi (Jbo ops a.tmps)=τ)
 (h:∀w',Ext w w'→Oper.wp P oi a w' (fun a' cD=>Kept S w' cD∧o4 P md ops S Q fuel (au.setIfInBounds i τ) a' cD) Q):o4 P md ops S Q (fuel+1) au a w:=by
 refine⟨fun h0=>(by rw[h0] at hr;cases hr),fun w1 qL j hj=>?_⟩
 rw[hr] at hj;obtain rfl:=Jao.1 hj;unfold Go.wpOp;simp only[hi,hw,if_true];exact .inl (h w1 qL)
theorem Ov (i:Nat) (d:Option Tmp) {oi:JaZ} {fuel:Nat} {au:Array Bool} {a:Act} {w:ο} (hi:ops[i]? =ζ oi) (hd:oi.dst=d)
 (hr:Jaq md ops au=[i]) (hw:Jau oi (Jbo ops a.tmps)=τ)
 (h:∀w',Ext w w'→∃v cD,(JaX a.eval oi).run P w'=.ok (.value v) cD∧Kept S w' cD∧o4 P md ops S Q fuel (au.setIfInBounds i τ) (a.put d v) cD):o4 P md ops S Q (fuel+1) au a w:=by
 subst hd;refine Bl i hi hr hw fun w' hx=>?_
 obtain⟨v,cD,h1,h2,h3⟩:=h w' hx;unfold Oper.wp;rw[h1];exact⟨h2,h3⟩
theorem bV {ev:Jbd→ψ} {o:JaZ} {w w':ο} {s x:Jbd} {t:Υ} {v u v':ψ} (ho:o.op=.call {callee:=.builtin .append,args:=#[s,x],argTypes:=#[t,t]})
 (hs:ev s=v) (hx:ev x=u) (bL:(JaY #[t,t] o.type #[v,u]).run P w=.ok v' w'):(JaX ev o).run P w=.ok (.value v') w':=by
 unfold JaX;simp only[ho,resolve,invoke,builtin,Jbl,JbO,JbA,List.map_toArray,List.map_cons,List.map_nil,hs,hx,bL]
theorem aG {au:Array Bool} {a:Act} {w:ο} (hr:Jaq md ops au=[]) (h:∀w',Ext w w'→Q .normal a w'):∀fuel,o4 P md ops S Q fuel au a w
 |0=>⟨hr,h⟩
 |_+1=>⟨fun _=>h,by rw[hr];simp⟩
theorem aw (S:Nat→Prop) {id:Nat} {a:Act} {w:ο} (hm:P.follows .mixedOrders=τ)
 (h:o4 P .any ops S Q ops.size (Jbe ops.size ρ) a w.drew):(Code.region id ops τ).wp P Q a w:=
 wp_region_any hm (jz _ _ _ _ h)
theorem OI {o:JaZ} {a:Act} {w:ο} (h:Jau o (Jbo ops a.tmps)=ρ):du P ops S o undef a w:=.inr ⟨h,rfl⟩
theorem dm {o:JaZ} {v:ψ} {a:Act} {w:ο} (h:Jau o (Jbo ops a.tmps)=τ) (hr:∀w',Kept S w w'→(JaX a.eval o).run P w'=.ok (.value v) w'):du P ops S o v a w:=
 .inl ⟨h,fun w' hw=>by rw[hr w' hw];exact⟨rfl,Ext.refl _⟩⟩
theorem cz {o:JaZ} {v:ψ} {a:Act} {w:ο} {f:FuncId} {args:Array ψ} (h:Jau o (Jbo ops a.tmps)=τ)
 (hr:∀w',(JaX a.eval o).run P w'=.ok (.enter f args) w') (hc:∀w',Kept S w w'→Ζ P f args w' fun e cD=>e=.returned v∧σ w'.heap.size w' cD):du P ops S o v a w:=
 .inl ⟨h,fun w' hw=>by rw[hr w'];exact hc w' hw⟩
end
end
section
section
variable {P:JaE} {md:Jbj} {ops:Array JaZ} {S:Nat→Prop} {Q:Exit→Act→ο→Prop}
theorem Ge (i:Nat) {oi:JaZ} {fuel:Nat} {au:Array Bool} {a:Act} {w:ο} (hi:ops[i]? =ζ oi) (hd:oi.dst=ε)
 (hr:Jaq md ops au=[i]) (hw:Jau oi (Jbo ops a.tmps)=τ)
 (h:∀w',Ext w w'→∃cD,(JaX a.eval oi).run P w'=.ok .skip cD∧Kept S w' cD∧o4 P md ops S Q fuel (au.setIfInBounds i τ) a cD):o4 P md ops S Q (fuel+1) au a w:=by
 refine Bl i hi hr hw fun w' hx=>?_
 obtain⟨cD,h1,h2,h3⟩:=h w' hx;unfold Oper.wp;rw[h1]
 refine⟨h2,?_⟩
 rw[hd];exact h3
end
end
section
def aT (_:Nat):Prop:=False
theorem Kept.nil_cell {w w':ο} (h:Kept aT w w') {p:Κ} {v:ψ} (hc:w.cell? p=ζ v):w'.cell? p=ζ v:=h.cell hc (fun e=>e)
theorem qR {P:JaE} {ev:Jbd→ψ} {o:JaZ} {w:ο} (ty:Υ) (x:Jbd) (ho:o.op=.load ty x)
 (g:Nat) (hx:ev x=υ (ζ ⟨g,0,ε⟩)) (t:Υ) (cs:List ψ) (d:TypeDesc) (hg:Whole w g t cs)
 (hu:P.underlying ty=ζ d) (hd:(match d with|.struct _|.array _ _=>τ|_=>ρ)=τ) (hi:(P.info? ty).map (·.size)=ζ cs.length):
 (JaX ev o).run P w=.ok (.value (φ cs.toArray)) w:=by
 have h1:(Instr.loadAt ty (ev x)).run P w=.ok (φ cs.toArray) w:=by
  rw[hx];simp only[Instr.loadAt,Instr.sureAddr,Jbl,JbO,Jbw];exact run_loadVar_row w g t ty cs.toArray (0,0) d hg hu hd (by simpa using hi)
 unfold JaX;simp only[ho,Jbl,JbO,JbA,h1]
theorem bo {P:JaE} {ev:Jbd→ψ} {o:JaZ} {w:ο} (op:BinOp) (t:Υ) (x y:Jbd) (t':Υ) (ho:o.op=.binOp op t x y t') {xs ys:Array ψ} {v:ψ}
 (hx:ev x=φ xs) (hy:ev y=φ ys) (hm:P.eqGuardType P.depth t=ρ) (hb:(binOp op t (φ xs) (φ ys)).run P w=.ok v w):(JaX ev o).run P w=.ok (.value v) w:=by
 unfold JaX;simp only[ho,Jbl,JbO,JbA,hx,hy,run_eqGuard_agg (w:=w) op t x y xs ys hm,hb]
section
variable {P:JaE} {ops:Array JaZ} {S:Nat→Prop}
theorem bG {o:JaZ} {a:Act} {w:ο} (h:Jau o (Jbo ops a.tmps)=τ) (ty:Υ) (x:Jbd) (ho:o.op=.load ty x)
 (g:Nat) (hx:a.eval x=υ (ζ ⟨g,0,ε⟩)) (t:Υ) (cs:List ψ) (d:TypeDesc) (hg:∀w',Kept S w w'→Whole w' g t cs)
 (hu:P.underlying ty=ζ d) (hd:(match d with|.struct _|.array _ _=>τ|_=>ρ)=τ) (hi:(P.info? ty).map (·.size)=ζ cs.length):
 du P ops S o (φ cs.toArray) a w:=
 dm h fun w' hw=>qR ty x ho g hx t cs d (hg w' hw) hu hd hi
end
section
variable {P:JaE} {ops:Array JaZ} {rest:List JaZ} {o:JaZ} {a:Act} {w:ο} {Q:Exit→Act→ο→Prop}
theorem jA (d:Option Tmp) (hd:o.dst=d) (hw:Jau o (Jbo ops a.tmps)=τ) {v:ψ} {w':ο} (bL:(JaX a.eval o).run P w=.ok (.value v) w')
 (h:JbI P ops Q rest (a.put d v) w'):JbI P ops Q (o::rest) a w:=by
 subst hd;refine wpList_step fun K hK=>?_
 rw[if_pos hw];unfold Oper.wp;rw[bL,Oper.upon_value];exact hK _ _ h
theorem ag (d:Option Tmp) (hd:o.dst=d) (hw:Jau o (Jbo ops a.tmps)=τ) {v:ψ} (bL:(JaX a.eval o).run P w=.ok (.value v) w)
 (h:JbI P ops Q rest (a.put d v) w):JbI P ops Q (o::rest) a w:=jA d hd hw bL h
theorem bh (d:Option Tmp) (hd:o.dst=d) (hw:Jau o (Jbo ops a.tmps)=τ) (ty:Υ) (x:Jbd) (ho:o.op=.load ty x)
 (g:Nat) (hx:a.eval x=υ (ζ ⟨g,0,ε⟩)) (t:Υ) (cs:List ψ) (td:TypeDesc) (hg:Whole w g t cs)
 (hu:P.underlying ty=ζ td) (hs:(match td with|.struct _|.array _ _=>τ|_=>ρ)=τ) (hi:(P.info? ty).map (·.size)=ζ cs.length)
 (h:JbI P ops Q rest (a.put d (φ cs.toArray)) w):JbI P ops Q (o::rest) a w:=ag d hd hw (qR ty x ho g hx t cs td hg hu hs hi) h
end
end
section
theorem aF {w0 w:ο} (h:σ w0.heap.size w0 w) (o:Obj):σ w0.heap.size w0 (w.alloc o):=h.alloc h.size o
theorem af {w0 w w':ο} (h:σ w0.heap.size w0 w) (hb:σ w.heap.size w w'):σ w0.heap.size w0 w':=h.trans (hb.mono h.size)
theorem ba {w0 w:ο} (h:σ w0.heap.size w0 w):σ w0.heap.size w0 w.drew:=h.drew
theorem aS.al {w:ο} {size n c:Nat} {A:Option Κ} {xs:List ψ} (h:aS w w.heap.size size A n c xs) (o:Obj):aS (w.alloc o) (w.alloc o).heap.size size A n c xs:=
 h.up ((Θ _ _).alloc (Δ _) o) (by simp)
theorem aS.bl {w w':ο} {size n c:Nat} {A:Option Κ} {xs:List ψ} (h:aS w w.heap.size size A n c xs) (hb:σ w.heap.size w w'):aS w' w'.heap.size size A n c xs:=h.up hb hb.size
theorem aS.dr {w:ο} {size n c:Nat} {A:Option Κ} {xs:List ψ} (h:aS w w.heap.size size A n c xs):aS w.drew w.drew.heap.size size A n c xs:=h.up ((Θ _ _).drew) (Δ _)
theorem Whole.al {w:ο} {g:Nat} {t:Υ} {cs:List ψ} (h:Whole w g t cs) (o:Obj):Whole (w.alloc o) g t cs:=h.alloc o
theorem Whole.bl {w w':ο} {g:Nat} {t:Υ} {cs:List ψ} (h:Whole w g t cs) (hb:σ w.heap.size w w'):Whole w' g t cs:=h.below hb
theorem Whole.dr {w:ο} {g:Nat} {t:Υ} {cs:List ψ} (h:Whole w g t cs):Whole w.drew g t cs:=h.drew
end
section
section
variable {α:Type} (f:α→List ψ)
def ao:List α→List ψ
 |[]=>[]
 |x::l=>f x++ao l
theorem cy {s:Nat} (hs:∀x,(f x).length=s) (l:List α):(ao f l).length=l.length*s:=by
 induction l with
 |nil=>simp[ao]
 |cons x l ih=>simp[ao,ih,hs,Nat.succ_mul];omega
theorem bX (l m:List α):ao f (l++m)=ao f l++ao f m:=by
 induction l with
 |nil=>rfl
 |cons x l ih=>simp[ao,ih]
theorem jv {s:Nat} (hs:∀x,(f x).length=s) (l:List α) (k:Nat) (x:α) (hk:l[k]? =ζ x) (j:Nat) (v:ψ) (hv:(f x)[j]? =ζ v):(ao f l)[k*s+j]? =ζ v:=by
 induction l generalizing k with
 |nil=>simp at hk
 |cons y l ih=>
  have hj:j<s:=by
   rw[←hs x];rcases JaM j (f x).length with h|h
   ·exact h
   ·rw[List.getElem?_eq_none h] at hv;cases hv
  cases k with
  |zero=>
   simp at hk;subst hk;simp only[ao,Nat.zero_mul,Nat.zero_add];rw[List.getElem?_append_left (by rw[hs];exact hj)];exact hv
  |succ k=>
   simp only[ao];rw[List.getElem?_append_right (by rw[hs,Nat.succ_mul];omega),hs,show(k+1)*s+j - s=k*s+j by rw[Nat.succ_mul];omega];exact ih k (by simpa using hk)
theorem jy {s:Nat} (hs:∀x,(f x).length=s) (l:List α) (k:Nat):ao f (l.take k)=(ao f l).take (k*s):=by
 induction l generalizing k with
 |nil=>simp[ao]
 |cons x l ih=>
  cases k with
  |zero=>simp[ao]
  |succ k=>
   simp only[List.take_succ_cons,ao,ih,Nat.succ_mul];rw[List.take_append,hs,List.take_of_length_le (l:=f x) (by rw[hs];omega),show k*s+s - s=k*s by omega]
theorem nj {s:Nat} (hs:∀x,(f x).length=s) (l:List α) (k:Nat):ao f (l.drop k)=(ao f l).drop (k*s):=by
 induction l generalizing k with
 |nil=>simp[ao]
 |cons x l ih=>
  cases k with
  |zero=>simp[ao]
  |succ k=>
   simp only[List.drop_succ_cons,ao,ih,Nat.succ_mul];rw[List.drop_append,hs,List.drop_of_length_le (l:=f x) (by rw[hs];omega),show k*s+s - s=k*s by omega];simp
theorem px (h:∀x,∀u∈f x,u.oneCell'=τ) (l:List α):∀u∈ao f l,u.oneCell'=τ:=by
 induction l with
 |nil=>simp[ao]
 |cons x l ih=>
  intro u hu;rcases List.mem_append.1 hu with hu|hu
  ·exact h x u hu
  ·exact ih u hu
end
section
variable {w:ο} {B n c s:Nat} {A:Option Κ} {α:Type} {f:α→List ψ} {L:List α}
theorem aS.rlen (hs:∀x,(f x).length=s) (h0:0<s) (h:aS w B s A n c (ao f L)):L.length=n:=by
 have:=h.len
 rw[cy f hs] at this;exact Nat.eq_of_mul_eq_mul_right h0 this
theorem aS.place (hs:∀x,(f x).length=s) (h0:0<s) (h:aS w B s A n c (ao f L)) (hn:0<n):
 ∃b off,A=ζ ⟨b,off,ε⟩∧b<B∧∀k x,L[k]? =ζ x→∀j v,(f x)[j]? =ζ v→w.cell? (Addr.add ⟨b,off+k*s,ε⟩ j)=ζ v:=by
 have hl:=h.rlen hs h0;cases A with
 |none=>exact absurd (h.none_ rfl).1 (by omega)
 |some a=>
  have ha:∃b off,a=⟨b,off,ε⟩:=by
   obtain⟨b,off,g⟩:=a;cases g with
   |none=>exact⟨b,off,rfl⟩
   |some g=>
    have hx:L[0]? =ζ (L[0]'(by omega)):=θ (by omega);obtain⟨v,hv⟩:∃v,(f (L[0]'(by omega)))[0]? =ζ v:=⟨_,θ (by rw[hs (L[0]'(by omega))];exact h0)⟩
    have h1:=h.cell _ rfl _ _ (jv f hs L 0 _ hx 0 v hv);simp[Addr.add,World.cell?] at h1;split at h1<;>cases h1
  obtain⟨b,off,rfl⟩:=ha
  refine⟨b,off,rfl,h.low _ rfl hn,fun k x hk j v hv=>?_⟩
  have:=h.cell _ rfl _ _ (jv f hs L k x hk j v hv)
  have e:(⟨b,off,ε⟩:Κ).add (k*s+j)=(⟨b,off+k*s,ε⟩:Κ).add j:=by
   simp only[Ν,Nat.add_assoc]
  rw[←e];exact this
end
theorem wU {P:JaE} (w:ο) (ty:Υ) (ad:Κ) (cs:List ψ) (d:TypeDesc) (hc:∀j v,cs[j]? =ζ v→w.cell? (ad.add j)=ζ v)
 (hu:P.underlying ty=ζ d) (hd:(match d with|.struct _|.array _ _=>τ|_=>ρ)=τ) (hi:(P.info? ty).map (·.size)=ζ cs.length):
 (Instr.loadAt ty (υ (ζ ad))).run P w=.ok (φ cs.toArray) w:=by
 have hl:(loadCells ad cs.length).run P w=.ok cs.toArray w:=run_loadCells_list (P:=P) w ad cs hc;cases hq:P.info? ty with
 |none=>simp[hq] at hi
 |some i=>
  have hs:i.size=cs.length:=by simpa [hq] using hi
  have aax:(isAgg ty).run P w=.ok τ w:=by
   unfold isAgg;rw[Jbl,run_underlying hu w];cases d<;>simp_all
  simp[Instr.loadAt,Instr.sureAddr,loadVar,Jbl,aax,sizeOf,typeInfo,hq,hs,hl]
theorem ox {P:JaE} {ev:Jbd→ψ} {o:JaZ} {w:ο} (ty:Υ) (x:Jbd) (ho:o.op=.load ty x) (ad:Κ) (hx:ev x=υ (ζ ad)) (cs:List ψ) (d:TypeDesc)
 (hc:∀j v,cs[j]? =ζ v→w.cell? (ad.add j)=ζ v)
 (hu:P.underlying ty=ζ d) (hd:(match d with|.struct _|.array _ _=>τ|_=>ρ)=τ) (hi:(P.info? ty).map (·.size)=ζ cs.length):
 (JaX ev o).run P w=.ok (.value (φ cs.toArray)) w:=by
 unfold JaX;simp only[ho,hx,Jbl,JbO,JbA,wU w ty ad cs d hc hu hd hi]
theorem dV {P:JaE} {ev:Jbd→ψ} {o:JaZ} {w:ο} (t e:Υ) (len:Nat) (parts:Array (Nat × Jbd)) (ho:o.op=.buildSlice t len parts) (hu:P.underlying t=ζ (.slice e)) (cells:Array ψ)
 (hf:P.builtSlice e len (parts.map fun (i,x)=>(i,ev x)).toList=ζ cells):(JaX ev o).run P w=.ok (.value (γ (ζ ⟨w.heap.size,0,ε⟩) len len)) (w.alloc (δ cells e)):=by
 have hb:(Instr.buildSlice t len (parts.map fun (i,x)=>(i,ev x))).run P w=.ok (γ (ζ ⟨w.heap.size,0,ε⟩) len len) (w.alloc (δ cells e)):=by
  unfold Program.builtSlice at hf;cases EB:P.info? e with
  |none=>simp[EB] at hf
  |some ie=>
   simp only[EB] at hf;cases hz:ie.zero with
   |none=>simp[hz] at hf
   |some z=>
    simp only[hz] at hf
    by_cases hc:len*ie.size>2 ^ 24∨len*ie.size=0
    ·simp[hc] at hf
    ·rw[if_neg hc] at hf;exact run_buildSlice w t e len _ cells ie z hu EB hz (fun h'=>hc (Or.inl h')) (fun h'=>hc (Or.inr h')) hf
 unfold JaX;simp only[ho,Jbl,JbO,JbA,hb]
theorem aS.take_ {w:ο} {B size n c:Nat} {A:Option Κ} {xs:List ψ} (h:aS w B size A n c xs) (k:Nat) (hk:k≤n):aS w B size A k c (xs.take (k*size)):=by
 have hlen:=h.len;have hm:k*size≤n*size:=Nat.mul_le_mul_right _ hk
 refine⟨by rw[JaA];omega,fun e=>?_,Λ hk h.le,fun a ha h0=>h.low a ha (by omega),fun a ha j u hu=>?_⟩
 ·have:=h.none_ e
  omega
 ·rw[List.getElem?_take] at hu;split at hu
  ·exact h.cell a ha j u hu
  ·cases hu
section
variable {P:JaE} {ops:Array JaZ} {rest:List JaZ} {o o':JaZ} {a:Act} {w:ο} {Q:Exit→Act→ο→Prop} {S:Nat→Prop}
theorem ny (d:Option Tmp) (hd:o.dst=d) (hw:Jau o (Jbo ops a.tmps)=τ) (ty:Υ) (x:Jbd) (ho:o.op=.load ty x) (ad:Κ) (hx:a.eval x=υ (ζ ad)) (cs:List ψ) (td:TypeDesc)
 (hc:∀j v,cs[j]? =ζ v→w.cell? (ad.add j)=ζ v)
 (hu:P.underlying ty=ζ td) (hs:(match td with|.struct _|.array _ _=>τ|_=>ρ)=τ) (hi:(P.info? ty).map (·.size)=ζ cs.length)
 (h:JbI P ops Q rest (a.put d (φ cs.toArray)) w):JbI P ops Q (o::rest) a w:=ag d hd hw (ox ty x ho ad hx cs td hc hu hs hi) h
theorem bA (h:Jau o (Jbo ops a.tmps)=τ) (ty:Υ) (x:Jbd) (ho:o.op=.load ty x) (ad:Κ) (hx:a.eval x=υ (ζ ad)) (cs:List ψ) (td:TypeDesc)
 (hc:∀w',Kept S w w'→∀j v,cs[j]? =ζ v→w'.cell? (ad.add j)=ζ v)
 (hu:P.underlying ty=ζ td) (hs:(match td with|.struct _|.array _ _=>τ|_=>ρ)=τ) (hi:(P.info? ty).map (·.size)=ζ cs.length):
 du P ops S o (φ cs.toArray) a w:=dm h fun w' hw=>ox ty x ho ad hx cs td (hc w' hw) hu hs hi
theorem cZ (d:Option Tmp) (hd:o.dst=d) (hw:Jau o (Jbo ops a.tmps)=τ) (t e:Υ) (len:Nat) (parts:Array (Nat × Jbd)) (ho:o.op=.buildSlice t len parts) (hu:P.underlying t=ζ (.slice e)) (cells:Array ψ)
 (hf:P.builtSlice e len (parts.map fun (i,x)=>(i,a.eval x)).toList=ζ cells)
 (h:JbI P ops Q rest (a.put d (γ (ζ ⟨w.heap.size,0,ε⟩) len len)) (w.alloc (δ cells e))):JbI P ops Q (o::rest) a w:=
 jA d hd hw (dV t e len parts ho hu cells hf) h
theorem KZ (p:Tmp) (hd:o.dst=ζ p) (hg:o.guard=ε) (XM:o'.guard=ε) (ty:Υ) (y:Jbd) (ZC:o'.op=.store ty (.tmp p) y) (BU:o'.dst=ε) (zc:Array ψ)
 (FP:(JaX a.eval o).run P w=.ok (.value (υ (ζ ⟨w.heap.size,0,ε⟩))) (w.alloc (δ zc ty)))
 (cs:Array ψ) (hp:p<a.tmps.size) (hy:(a.put (ζ p) (υ (ζ ⟨w.heap.size,0,ε⟩))).eval y=φ cs)
 (hi:(P.info? ty).map (·.size)=ζ cs.size) (mf:zc.size=cs.size) (h1:cs.all (·.oneCell')=τ)
 (h:JbI P ops Q rest (a.put (ζ p) (υ (ζ ⟨w.heap.size,0,ε⟩))) (w.alloc (δ cs ty))):JbI P ops Q (o::o'::rest) a w:=by
 refine Great.wpList_allocTo hg (ζ p) hd _ (δ zc ty) FP ?_;refine wpList_store_row XM ty (.tmp p) y ZC w.heap.size cs ?_ hy ty zc (heap_alloc_last _ _) hi mf h1 ?_
 ·simp[ξ,Act.eval,JaD,hp]
 ·rw[World.setRow_alloc_new,BU];exact h
end
end
section
structure Ow (w:ο) (B:Nat) (e:Υ) (size:Nat) (v:ψ) (n:Nat) (xs:List ψ) (W:ο):Prop where
 own:W.ownsRow B e size v n xs
 below:σ w.heap.size w W
 lo:w.heap.size≤B
 hi:B≤W.heap.size
section
variable {w W W':ο} {B size n:Nat} {e:Υ} {v:ψ} {xs:List ψ}
theorem bF {x y:ο} {B n:Nat} {e:Υ} {size:Nat} {v:ψ} {xs:List ψ} (h:x.ownsRow B e size v n xs) (hx:σ x.heap.size x y):y.ownsRow B e size v n xs:=
 h.kept (row:=ε) ⟨hx.os,hx.tape,hx.output,hx.size,fun i hi _=>hx.block i hi⟩ (by cases hv:v.ownBlock<;>simp)
theorem Ow.up (h:Ow w B e size v n xs W) (hb:σ W.heap.size W W'):Ow w B e size v n xs W':=
 ⟨bF h.own hb,h.below.trans (hb.mono h.below.size),h.lo,Λ h.hi hb.size⟩
theorem Ow.rds (h:Ow w B e size v n xs W):∃A c,v=γ A n c∧aS W W.heap.size size A n c xs:=aS.of_own h.own
theorem Ow.new_ {W:ο} {cs:Array ψ} (hw:σ w.heap.size w W) (hl:w.heap.size≤B) (hh:B≤W.heap.size) (hn:n≤Jap) (hs:cs.size=n*size):Ow w B e size (γ (ζ ⟨W.heap.size,0,ε⟩) n n) n cs.toList (W.alloc (δ cs e)):=
 ⟨MI rfl hh hn hs rfl,hw.alloc hw.size _,hl,by simp;omega⟩
theorem Ow.nil_ {W:ο} (hw:σ w.heap.size w W) (hl:w.heap.size≤B) (hh:B≤W.heap.size):Ow w B e size (γ ε 0 0) 0 [] W:=
 ⟨World.ownsRow_nil W B e size,hw,hl,hh⟩
end
theorem eZ {P:JaE} {w W:ο} {ops:Array JaZ} {rest:List JaZ} {o:JaZ} {a:Act} {Q:Exit→Act→ο→Prop} (PW:o.guard=ε) (s x:Jbd) (t:Υ)
 (ho:o.op=.call {callee:=.builtin .append,args:=#[s,x],argTypes:=#[t,t]})
 (B:Nat) (e:Υ) (i:TypeInfo) (z:ψ) (size bytes:Nat) (ht:P.underlying t=ζ (.slice e)) (hi:P.info? e=ζ i) (hz:i.zero=ζ z)
 (je:i.size=size) (yn:i.bytes=bytes) (xY:z.cells.size=size) (mf:0<size)
 (v:ψ) (n:Nat) (xs:List ψ) (hs:a.eval s=v) (fu:Ow w B e size v n xs W)
 (BB:Nat) (A:Option Κ) (m c:Nat) (news:List ψ) (hx:a.eval x=γ A m c) (hr:aS W BB size A m c news) (h1:∀u∈news,u.oneCell'=τ)
 (Iu:n+m≤Jap) (kv:(n+m)*bytes≤140737488355328)
 (h:∀v' W',Ow w B e size v' (n+m) (xs++news) W'→σ B W W'→JbI P ops Q rest (a.put o.dst v') W'):
 JbI P ops Q (o::rest) a W:=by
 refine lz PW s x t ho B e i z size bytes ht hi hz je yn xY mf v n xs hs fu.own BB A m c news hx hr h1 Iu kv fu.hi fun v' w' fy hg _=>?_
 have hk:∀k,v.ownBlock=ζ k→B≤k:=fun k hk=>(fu.own.lt k hk).1
 exact h v' w' ⟨fy,fu.below.grown hg fu.below.size (fun k e=>Λ fu.lo (hk k e)),fu.lo,Λ fu.hi hg.size⟩ ((Θ B W).grown hg fu.hi hk)
theorem tE {P:JaE} (w:ο) (t ty e:Υ) (i:TypeInfo) (z:ψ) (size bytes:Nat) (ht:P.underlying t=ζ (.slice e)) (hi:P.info? e=ζ i) (hz:i.zero=ζ z)
 (je:i.size=size) (yn:i.bytes=bytes) (xY:z.cells.size=size) (mf:0<size)
 (B B':Nat) (A A':Option Κ) (n m c:Nat) (M1 news:List ψ) (ho:aS w B size A n n M1) (hn:aS w B' size A' m c news) (hm:0<m) (h0:0<n)
 (Iu:n+m≤Jap) (kv:(n+m)*bytes≤140737488355328):
 ∃cap w',(JaY #[t,t] ty #[γ A n n,γ A' m c]).run P w=.ok (γ (ζ ⟨w.heap.size,0,ε⟩) (n+m) cap) w'∧
  w'.ownsRow w.heap.size e size (γ (ζ ⟨w.heap.size,0,ε⟩) (n+m) cap) (n+m) (M1++news)∧σ w.heap.size w w':=by
 subst je;subst yn;have Yn:n+m≤9223372036854775807:=by simp only[Jap] at Iu;omega
 cases A with
 |none=>have:=(ho.none_ rfl).1;omega
 |some b=>
  cases A' with
  |none=>have:=(hn.none_ rfl).1;omega
  |some a=>
   have hr:=run_append_grow (P:=P) w t ty e i z ht hi hz b n n M1 ho.len (fun j u hj=>ho.cell b rfl j u hj) a m c news hn.len (fun j u hj=>hn.cell a rfl j u hj) (by omega) (by omega) (growslice_fits (by omega) kv);have hlen:(M1++news).length=(n+m)*i.size:=by rw[Ε,ho.len,hn.len,Nat.add_mul]
   have Pg:=grownCap_ge w (n+m) n e;have qW:grownCap w (n+m) n e≤Jap:=grownCap_le_maxLen w (n+m) n e Iu
   refine⟨_,_,hr,⟨hlen,.inr ⟨w.heap.size,_,_,rfl,Δ _,heap_alloc_new w.drew _,Pg,qW,?_,?_⟩⟩,((Θ _ _).drew).alloc (Δ _) _⟩
   ·simp only[Array.size_append,List.size_toArray,size_zeroCells,xY,ho.len,hn.len,←Nat.add_mul];congr 1;omega
   ·simp only[Array.toList_append,Jay];rw[←Jay,←hlen];exact List.take_left
theorem tU {P:JaE} (w:ο) (t ty e:Υ) (i:TypeInfo) (ht:P.underlying t=ζ (.slice e)) (hi:P.info? e=ζ i) (A A':Option Κ) (n c c':Nat) (tH:n≤c):
 (JaY #[t,t] ty #[γ A n c,γ A' 0 c']).run P w=.ok (γ A n c) w:=by
 cases A'<;>cases A<;>simp[JaY,run_underlying ht,sizeOf,typeInfo,hi,Builtin.lenOf,tH,Builtin.firstCells,storeCells,loadCells,loadCellsFrom]
end
section
theorem Ow.app {P:JaE} {w W:ο} (t ty e:Υ) (i:TypeInfo) (z:ψ) (size bytes B:Nat) (ht:P.underlying t=ζ (.slice e)) (hi:P.info? e=ζ i) (hz:i.zero=ζ z)
 (je:i.size=size) (yn:i.bytes=bytes) (xY:z.cells.size=size) (mf:0<size)
 (v:ψ) (n:Nat) (xs:List ψ) (fu:Ow w B e size v n xs W)
 (BB:Nat) (A:Option Κ) (m c:Nat) (news:List ψ) (hr:aS W BB size A m c news) (h1:∀u∈news,u.oneCell'=τ)
 (Iu:n+m≤Jap) (kv:(n+m)*bytes≤140737488355328):
 ∃v' W',(JaY #[t,t] ty #[v,γ A m c]).run P W=.ok v' W'∧Ow w B e size v' (n+m) (xs++news) W'∧σ B W W':=by
 cases A with
 |none=>
  obtain⟨rfl,rfl⟩:=hr.none_ rfl;have kg:news=[]:=JaB (by simpa using hr.len);subst kg;exact⟨v,W,run_append_owned_none (P:=P) (w:=W) B t ty e i size ht hi v n xs fu.own,by simpa using fu,Θ _ _⟩
 |some ad=>
  obtain⟨v',w',bL,fy,hg,_,_⟩:=run_append_own_at (P:=P) W B t ty e i z size bytes ht hi hz je yn xY mf v n xs fu.own ad m c news hr.len (hr.cell ad rfl) h1 Iu kv fu.hi;have hk:∀k,v.ownBlock=ζ k→B≤k:=fun k hk=>(fu.own.lt k hk).1
  exact⟨v',w',bL,⟨fy,fu.below.grown hg fu.below.size (fun k e=>Λ fu.lo (hk k e)),fu.lo,Λ fu.hi hg.size⟩,(Θ B W).grown hg fu.hi hk⟩
def dS (B:Nat) (i:Nat):Prop:=B≤i
theorem Kept.of_from {B:Nat} {a b:ο} (h:σ B a b):Kept (dS B) a b:=⟨h.os,h.tape,h.output,h.size,fun i _ hn=>h.block i (by unfold dS at hn;omega)⟩
theorem Kept.from_cell {B:Nat} {w w':ο} (h:Kept (dS B) w w') {p:Κ} {v:ψ} (hp:p.block<B) (hc:w.cell? p=ζ v):w'.cell? p=ζ v:=
 h.cell hc (fun e=>by unfold dS at e;omega)
end
section
theorem e8 {w:ο} {B B' n:Nat} {e:Υ} {size:Nat} {v:ψ} {xs:List ψ} (h:w.ownsRow B e size v n xs) (hB:B'≤B):w.ownsRow B' e size v n xs:=by
 refine⟨h.1,?_⟩
 rcases h.2 with h|⟨g,cap,cur,h1,h2,h3⟩
 ·exact .inl h
 ·exact .inr ⟨g,cap,cur,h1,Λ hB h2,h3⟩
theorem ql {P:JaE} {w w':ο} {ops:Array JaZ} {rest:List JaZ} {o:JaZ} {a:Act} {Q:Exit→Act→ο→Prop} (PW:o.guard=ε) (s x:Jbd) (t:Υ)
 (ho:o.op=.call {callee:=.builtin .append,args:=#[s,x],argTypes:=#[t,t]}) {v u v':ψ} (hs:a.eval s=v) (hx:a.eval x=u)
 (bL:(JaY #[t,t] o.type #[v,u]).run P w=.ok v' w') (h:JbI P ops Q rest (a.put o.dst v') w'):JbI P ops Q (o::rest) a w:=by
 refine wpList_plain PW fun K hK=>?_
 unfold Oper.wp;simp[JaX,ho,resolve,invoke,builtin,hs,hx,bL,Jbw];exact hK _ _ h
theorem aS.far {w:ο} {size n c:Nat} {A:Option Κ} {xs:List ψ} (h:aS w w.heap.size size A n c xs) {p:Κ} (hp:0<n→∀a,A=ζ a→a.block≠p.block) (u:ψ):aS (w.setCell p u) (w.setCell p u).heap.size size A n c xs:=by
 have hs:(w.setCell p u).heap.size=w.heap.size:=by simp[JbB]
 refine⟨h.len,h.none_,h.le,fun a e hn=>by rw[hs];exact h.low a e hn,fun a e j v hj=>?_⟩
 have hn:0<n:=by
  rcases Nat.eq_zero_or_pos n with h0|h0
  ·subst h0
   have:=h.len
   rw[Nat.zero_mul] at this;rw[JaB this] at hj;simp at hj
  ·exact h0
 rw[←h.cell a e j v hj];refine World.cell?_of_block (Below.heap_setCell w p u _ ?_);rw[cA];exact hp hn a e
end
section
theorem Whole.grown {W W':ο} {g:Nat} {t:Υ} {cs:List ψ} {r:Option Nat} (h:Whole W g t cs) (hg:W.grownBy W' r) (bQ:ζ g≠r):Whole W' g t cs:=
 h.at_ (hg.block g h.lt bQ)
theorem Ow.ne_ {w W:ο} {B size n g:Nat} {e:Υ} {v:ψ} {xs:List ψ} (h:Ow w B e size v n xs W) (hg:W.heap.size≤g):ζ g≠v.ownBlock:=fun e=>by
 have:=(h.own.lt g e.symm).2
 omega
theorem eX {P:JaE} {w W:ο} {ops:Array JaZ} {rest:List JaZ} {o:JaZ} {a:Act} {Q:Exit→Act→ο→Prop} (PW:o.guard=ε) (s x:Jbd) (t:Υ)
 (ho:o.op=.call {callee:=.builtin .append,args:=#[s,x],argTypes:=#[t,t]})
 (B:Nat) (e:Υ) (i:TypeInfo) (z:ψ) (size bytes:Nat) (ht:P.underlying t=ζ (.slice e)) (hi:P.info? e=ζ i) (hz:i.zero=ζ z)
 (je:i.size=size) (yn:i.bytes=bytes) (xY:z.cells.size=size) (mf:0<size)
 (v:ψ) (n:Nat) (xs:List ψ) (hs:a.eval s=v) (fu:Ow w B e size v n xs W)
 (BB:Nat) (A:Option Κ) (m c:Nat) (news:List ψ) (hx:a.eval x=γ A m c) (hr:aS W BB size A m c news) (h1:∀u∈news,u.oneCell'=τ)
 (Iu:n+m≤Jap) (kv:(n+m)*bytes≤140737488355328)
 (h:∀v' W',Ow w B e size v' (n+m) (xs++news) W'→σ B W W'→W.grownBy W' v.ownBlock→JbI P ops Q rest (a.put o.dst v') W'):
 JbI P ops Q (o::rest) a W:=by
 refine lz PW s x t ho B e i z size bytes ht hi hz je yn xY mf v n xs hs fu.own BB A m c news hx hr h1 Iu kv fu.hi fun v' w' fy hg _=>?_
 have hk:∀k,v.ownBlock=ζ k→B≤k:=fun k hk=>(fu.own.lt k hk).1
 exact h v' w' ⟨fy,fu.below.grown hg fu.below.size (fun k e=>Λ fu.lo (hk k e)),fu.lo,Λ fu.hi hg.size⟩ ((Θ B W).grown hg fu.hi hk) hg
end
section
theorem aS.grown {W W':ο} {size n c:Nat} {A:Option Κ} {xs:List ψ} {r:Option Nat} (h:aS W W.heap.size size A n c xs) (hg:W.grownBy W' r) (bQ:∀a,A=ζ a→0<n→ζ a.block≠r):aS W' W'.heap.size size A n c xs:=by
 refine⟨h.len,h.none_,h.le,fun a ha hn=>JaK (h.low a ha hn) hg.size,fun a ha j u hu=>?_⟩
 rw[←h.cell a ha j u hu];refine World.cell?_of_block (hg.block _ ?_ ?_)
 ·rw[cA];exact h.low a ha (h.pos hu)
 ·rw[cA];exact bQ a ha (h.pos hu)
theorem Ow.app2 {P:JaE} {w W:ο} (t ty e:Υ) (i:TypeInfo) (z:ψ) (size bytes B:Nat) (ht:P.underlying t=ζ (.slice e)) (hi:P.info? e=ζ i) (hz:i.zero=ζ z)
 (je:i.size=size) (yn:i.bytes=bytes) (xY:z.cells.size=size) (mf:0<size)
 (v:ψ) (n:Nat) (xs:List ψ) (fu:Ow w B e size v n xs W)
 (BB:Nat) (A:Option Κ) (m c:Nat) (news:List ψ) (hr:aS W BB size A m c news) (h1:∀u∈news,u.oneCell'=τ)
 (Iu:n+m≤Jap) (kv:(n+m)*bytes≤140737488355328):
 ∃v' W',(JaY #[t,t] ty #[v,γ A m c]).run P W=.ok v' W'∧Ow w B e size v' (n+m) (xs++news) W'∧σ B W W'∧W.grownBy W' v.ownBlock∧(v'.ownBlock=v.ownBlock∨v'.ownBlock=ζ W.heap.size):=by
 cases A with
 |none=>
  obtain⟨rfl,rfl⟩:=hr.none_ rfl;have kg:news=[]:=JaB (by simpa using hr.len);subst kg;exact⟨v,W,run_append_owned_none (P:=P) (w:=W) B t ty e i size ht hi v n xs fu.own,by simpa using fu,Θ _ _,World.grownBy.refl W _,.inl rfl⟩
 |some ad=>
  obtain⟨v',w',bL,fy,hg,_,ho⟩:=run_append_own_at (P:=P) W B t ty e i z size bytes ht hi hz je yn xY mf v n xs fu.own ad m c news hr.len (hr.cell ad rfl) h1 Iu kv fu.hi;have hk:∀k,v.ownBlock=ζ k→B≤k:=fun k hk=>(fu.own.lt k hk).1
  exact⟨v',w',bL,⟨fy,fu.below.grown hg fu.below.size (fun k e=>Λ fu.lo (hk k e)),fu.lo,Λ fu.hi hg.size⟩,(Θ B W).grown hg fu.hi hk,hg,ho⟩
theorem Ow.ne2 {v v':ψ} {W:ο} {g:Nat} (h:ζ g≠v.ownBlock) (hg:g<W.heap.size) (ho:v'.ownBlock=v.ownBlock∨v'.ownBlock=ζ W.heap.size):ζ g≠v'.ownBlock:=by
 rcases ho with ho|ho
 ·rw[ho];exact h
 ·rw[ho];intro e
  have:=Μ e
  omega
end
section
theorem cn {P:JaE} {ev:Jbd→ψ} {o:JaZ} {w:ο} (ty:Υ) (x y:Jbd) (ho:o.op=.store ty x y) (g:Nat) (hx:ev x=υ (ζ ⟨g,0,ε⟩))
 (qN:List ψ) (hy:ev y=φ qN.toArray) (t:Υ) (cs:List ψ) (hg:Whole w g t cs) (hi:(P.info? ty).map (·.size)=ζ qN.length) (hl:cs.length=qN.length) (h1:qN.all (·.oneCell')=τ):
 (JaX ev o).run P w=.ok .skip (w.setRow g qN.toArray):=by
 have h:=run_storeVar_row (P:=P) w g t ty cs.toArray qN.toArray hg (by simpa using hi) (by simpa using hl) (by simpa using h1);unfold JaX;simp only[ho,hx,hy,Instr.storeAt,Instr.sureAddr,Jbl,JbO,JbA,h]
theorem Whole.row {w:ο} {g:Nat} {t:Υ} {cs:List ψ} (h:Whole w g t cs) (qN:List ψ):Whole (w.setRow g qN.toArray) g t qN:=setRow_heap w g _ _ _ _ h
theorem Whole.row_far {w:ο} {g g':Nat} {t:Υ} {cs:List ψ} (h:Whole w g t cs) (bQ:g≠g') (qN:Array ψ):Whole (w.setRow g' qN) g t cs:=(setRow_other w g' g qN bQ).trans h
theorem setRow_size (w:ο) (g:Nat) (cs:Array ψ):(w.setRow g cs).heap.size=w.heap.size:=by simp[World.setRow]
theorem eD {S:Nat→Prop} {w:ο} {g:Nat} (hS:S g) (cs:Array ψ):Kept S w (w.setRow g cs):=⟨rfl,rfl,rfl,by simp[World.setRow],fun i _ hn=>setRow_other w g i cs (fun e=>hn (e▸hS))⟩
theorem eB {B:Nat} {a w:ο} {g:Nat} (h:σ B a w) (hg:B≤g) (cs:Array ψ):σ B a (w.setRow g cs):=
 ⟨h.os,h.tape,h.output,(by have:=h.size;simpa [World.setRow] using this),fun i hi=>(setRow_other w g i _ (by omega)).trans (h.block i hi)⟩
theorem aS.row_far {w:ο} {size n c g:Nat} {A:Option Κ} {xs:List ψ} (h:aS w w.heap.size size A n c xs) (hp:∀a,A=ζ a→0<n→ζ a.block≠ζ g) (cs:Array ψ):aS (w.setRow g cs) (w.setRow g cs).heap.size size A n c xs:=by
 refine⟨h.len,h.none_,h.le,fun a e hn=>by rw[setRow_size];exact h.low a e hn,fun a e j v hj=>?_⟩
 rw[←h.cell a e j v hj];refine World.cell?_of_block (setRow_other w g _ cs ?_);rw[cA];exact fun e'=>hp a e (h.pos hj) (by rw[e'])
end
section
open Go.RowKit Go.Deep
theorem tF {P:JaE} {ev:Jbd→ψ} {o:JaZ} {w:ο} (t e:Υ) (x hi:Jbd) (ho:o.op=.slice t x ε (ζ hi) ε) (hu:P.underlying t=ζ (.slice e)) {s:Nat} (hs:(P.info? e).map (·.size)=ζ s)
 {A:Option Κ} {n c k:Nat} (hx:ev x=γ A n c) (hk:ev hi=J (k:Int)) (hkc:k≤c):(JaX ev o).run P w=.ok (.value (γ A k c)) w:=by
 cases hq:P.info? e with
 |none=>simp[hq] at hs
 |some i=>
  have WN:i.size=s:=by simpa [hq] using hs
  have h1:(Instr.slice t (γ A n c) ε (ζ (J (k:Int))) ε).run P w=.ok (γ A k c) w:=by
   have hb:(Instr.sliceBound (J (k:Int)) c .sliceAcap).run P w=.ok (k:Int).toNat w:=run_sliceBound _ _ _ _ _ (Int.natCast_nonneg k) (by omega);simp only[Instr.slice,Jbl,run_underlying hu,JbA,Instr.sliceBounds,JbO,if_true,hb,sizeOf,typeInfo,hq,Int.toNat_natCast];simp[hq,Addr.add]
  unfold JaX;simp only[ho,Option.map_none,Option.map_some,hx,hk,Jbl,JbO,JbA];rw[show(Instr.sliceAt t (γ A n c) ε (ζ (J (k:Int))) ε).run P w=(Instr.slice t (γ A n c) ε (ζ (J (k:Int))) ε).run P w from by simp[Instr.sliceAt,run_underlying hu],h1];rfl
theorem aS.elem {w:ο} {B s n c:Nat} {b off:Nat} {α:Type} {f:α→List ψ} {L:List α} (hs:∀x,(f x).length=s) (h:aS w B s (ζ ⟨b,off,ε⟩) n c (ao f L)) {k:Nat} {x:α} (hk:L[k]? =ζ x):
 ∀j v,(f x)[j]? =ζ v→w.cell? (Addr.add ⟨b,off+k*s,ε⟩ j)=ζ v:=by
 intro j v hv
 have:=h.cell _ rfl _ _ (jv f hs L k x hk j v hv)
 have e:(⟨b,off,ε⟩:Κ).add (k*s+j)=(⟨b,off+k*s,ε⟩:Κ).add j:=by
  simp only[Ν,Nat.add_assoc]
 rw[←e];exact this
end
section
open Go.RowKit Go.Deep
end
section
section
variable {P:JaE} {ops:Array JaZ} {Q:Exit→Act→ο→Prop} {md:Jbj} {S:Nat→Prop} {ts:List Nat}
def uj (md:Jbj) (ops:Array JaZ) (ts:List Nat) (i:Nat):Bool:=
 ts.all fun t=>match ops[t]? with
  |some ot=>ot.after.toList.any (fun e=>JbS md e && e.on==i)
  |none=>τ
theorem yX {i:Nat} (h:uj md ops ts i=τ):∀j oj,ops[j]? =ζ oj→j∈ts→∃e∈oj.after,JbS md e=τ∧e.on=i:=by
 intro j oj hj hm;have h1:=Φ.1 h j hm;rw[hj] at h1;obtain⟨e,he,h2⟩:=List.any_eq_true.1 h1;rw[Bool.and_eq_true,beq_iff_eq] at h2;exact⟨e,Array.mem_toList_iff.1 he,h2⟩
def rH (P:JaE) (md:Jbj) (ops:Array JaZ) (S:Nat→Prop) (ts:List Nat) (Q:Exit→Act→ο→Prop):Nat→Array Bool→Act→ο→Prop
 |0,au,a,w=>Jaq md ops au=[]∧∀w',Ext w w'→Q .normal a w'
 |fuel+1,au,a,w=>
  (Jaq md ops au=[]→∀w',Ext w w'→Q .normal a w')∧
  ∀w',Ext w w'→∀i∈Jaq md ops au,wpOp P ops Q i (fun a' cD=>(i∉ts→Kept S w' cD)∧rH P md ops S ts Q fuel (au.setIfInBounds i τ) a' cD) a w'
theorem rH.up:∀{fuel:Nat} {au:Array Bool} {a:Act} {w w':ο},rH P md ops S ts Q fuel au a w→Ext w w'→rH P md ops S ts Q fuel au a w'
 |0,_,_,_,_,h,hw=>⟨h.1,fun cD h'=>h.2 cD (hw.trans h')⟩
 |_+1,_,_,_,_,h,hw=>⟨fun h0 cD h'=>h.1 h0 cD (hw.trans h'),fun cD h'=>h.2 cD (hw.trans h')⟩
theorem uY:∀(fuel:Nat) (au:Array Bool) (a:Act) (w:ο),rH P md ops S ts Q fuel au a w→wpAny P md ops Q fuel au a w
 |0,_,_,w,h=>⟨h.1,h.2 w (Ext.refl w)⟩
 |fuel+1,_,_,w,h=>⟨fun h0=>h.1 h0 w (Ext.refl w),fun i hi=>wpOp_mono (fun a' w' h'=>uY fuel _ a' w' h'.2) (h.2 w (Ext.refl w) i hi)⟩
theorem Hw {i:Nat} {oi:JaZ} {v:ψ} (hi:ops[i]? =ζ oi) (yt:∀(j:Nat) (o:JaZ) cs b,ops[j]? =ζ o→o.op≠.select cs b)
 (hQ:∀c a w,Q (.panic c) (a.put oi.dst v) w→Q (.panic c) a w) (ZL:∀j oj,ops[j]? =ζ oj→j∈ts→∃e∈oj.after,JbS md e=τ∧e.on=i):
 ∀(fuel:Nat) (au:Array Bool) (a:Act) (w:ο),
  (∀j oj,ops[j]? =ζ oj→j≠i→au.getD j τ=ρ→(∀e∈oj.after,JbS md e=τ→e.on≠i)→oi.apart ops oj=τ)→
  i∈Jaq md ops au→du P ops S oi v a w→
  rH P md ops S ts Q fuel (au.setIfInBounds i τ) (a.put oi.dst v) w→rH P md ops S ts Q (fuel+1) au a w:=by
 intro fuel
 induction fuel with
 |zero=>
  intro au a w _ hr hy H
  refine⟨fun h=>(by rw[h] at hr;cases hr),fun w1 qL j hj=>?_⟩
  by_cases qd:j=i
  ·subst qd;exact(hy.up (Kept.of_ext qL)).wpOp hi fun w2 jU=>⟨fun _=>Kept.of_ext jU,H.up (qL.trans jU)⟩
  ·have:=ready_mono hj qd
   rw[H.1] at this;cases this
 |succ fuel ih=>
  intro au a w rT hr hy H
  refine⟨fun h=>(by rw[h] at hr;cases hr),fun w1 qL j hj=>?_⟩
  by_cases qd:j=i
  ·subst qd;exact(hy.up (Kept.of_ext qL)).wpOp hi fun w2 jU=>⟨fun _=>Kept.of_ext jU,H.up (qL.trans jU)⟩
  ·have h1:=H.2 w1 qL j (ready_mono hj qd);obtain⟨Lw,oj,PE,bW⟩:=mem_ready.1 hj
   have NC:∀e∈oj.after,JbS md e=τ→e.on≠i:=fun e he hb heq=>by
    have h1:=bW e he hb;have h0:=(mem_ready.1 hr).1;rw[heq] at h1;rcases JaM i au.size with h'|h'
    ·simp[h'] at h0 h1;rw[h0] at h1;cases h1
    ·simp[Array.getElem?_eq_none h'] at h1
   have hjt:j∉ts:=fun hm=>by
    obtain⟨e,he,hb,heq⟩:=ZL j oj PE hm;exact NC e he hb heq
   have h2:=xp PE (rT j oj PE qd Lw NC) (fun cs b=>yt i oi cs b hi) (fun cs b=>yt j oj cs b PE) hQ h1
   have Cm:∀k ok,ops[k]? =ζ ok→k≠i→(au.setIfInBounds j τ).getD k τ=ρ→
    (∀e∈ok.after,JbS md e=τ→e.on≠i)→oi.apart ops ok=τ:=fun k ok hk Zx UD ui=>by
    refine rT k ok hk Zx ?_ ui
    by_cases QU:j=k
    ·subst QU;exact Lw
    ·rw[Jbq τ QU] at UD;exact UD
   refine wpOp_mono (fun a' w' h3=>⟨fun _=>h3.2.1 hjt,ih (au.setIfInBounds j τ) a' w' Cm (ready_mono hr (Ne.symm qd)) ?_ ?_⟩) h2
   ·exact(hy.up ((Kept.of_ext qL).trans (h3.2.1 hjt))).same h3.1.1 h3.1.2
   ·rw[Array.setIfInBounds_comm _ _ qd];exact h3.2.2
theorem JJ (i:Nat) (d:Option Tmp) (ht:uj md ops ts i=τ) {oi:JaZ} {fuel:Nat} {au:Array Bool} {a:Act} {w:ο} (hi:ops[i]? =ζ oi) (hd:oi.dst=d)
 (hs:JbJ ops=τ) (hf:JbP md ops au i=τ) (hr:(Jaq md ops au).contains i=τ)
 (hQ:∀v c a w,Q (.panic c) (a.put d v) w→Q (.panic c) a w)
 (h:∃v,du P ops S oi v a w∧rH P md ops S ts Q fuel (au.setIfInBounds i τ) (a.put d v) w):rH P md ops S ts Q (fuel+1) au a w:=by
 subst hd;obtain⟨v,hy,hk⟩:=h;exact Hw hi (Region.noSelect_spec hs) (hQ v) (yX ht) fuel au a w (Region.free_spec hi hf) (by simpa using hr) hy hk
theorem Bv (i:Nat) (d:Option Tmp) {oi:JaZ} {fuel:Nat} {au:Array Bool} {a:Act} {w:ο} {f:FuncId} {args:Array ψ} (hi:ops[i]? =ζ oi) (hd:oi.dst=d)
 (hr:Jaq md ops au=[i]) (hw:Jau oi (Jbo ops a.tmps)=τ)
 (he:∀w',(JaX a.eval oi).run P w'=.ok (.enter f args) w')
 (h:∀w',Ext w w'→Ζ P f args w' fun e cD=>∃v,e=.returned v∧Kept S w' cD∧rH P md ops S ts Q fuel (au.setIfInBounds i τ) (a.put d v) cD):rH P md ops S ts Q (fuel+1) au a w:=by
 subst hd
 refine⟨fun h0=>(by rw[h0] at hr;cases hr),fun w1 qL j hj=>?_⟩
 rw[hr] at hj;obtain rfl:=Jao.1 hj;unfold Go.wpOp;simp only[hi,hw,if_true];refine .inl ?_;unfold Oper.wp;rw[he w1];refine Calls.mono (h w1 qL) fun e cD hx=>?_
 obtain⟨v,rfl,hk,hn⟩:=hx;exact⟨fun _=>hk,hn⟩
theorem zX (i:Nat) {oi:JaZ} {fuel:Nat} {au:Array Bool} {a:Act} {w:ο} (hi:ops[i]? =ζ oi)
 (hr:Jaq md ops au=[i]) (hw:Jau oi (Jbo ops a.tmps)=τ)
 (h:∀w',Ext w w'→Oper.wp P oi a w' (fun a' cD=>(i∉ts→Kept S w' cD)∧rH P md ops S ts Q fuel (au.setIfInBounds i τ) a' cD) Q):rH P md ops S ts Q (fuel+1) au a w:=by
 refine⟨fun h0=>(by rw[h0] at hr;cases hr),fun w1 qL j hj=>?_⟩
 rw[hr] at hj;obtain rfl:=Jao.1 hj;unfold Go.wpOp;simp only[hi,hw,if_true];exact .inl (h w1 qL)
theorem Oy (i:Nat) (d:Option Tmp) {oi:JaZ} {fuel:Nat} {au:Array Bool} {a:Act} {w:ο} (hi:ops[i]? =ζ oi) (hd:oi.dst=d)
 (hr:Jaq md ops au=[i]) (hw:Jau oi (Jbo ops a.tmps)=τ)
 (h:∀w',Ext w w'→∃v cD,(JaX a.eval oi).run P w'=.ok (.value v) cD∧Kept S w' cD∧rH P md ops S ts Q fuel (au.setIfInBounds i τ) (a.put d v) cD):rH P md ops S ts Q (fuel+1) au a w:=by
 subst hd;refine zX i hi hr hw fun w' hx=>?_
 obtain⟨v,cD,h1,h2,h3⟩:=h w' hx;unfold Oper.wp;rw[h1];exact⟨fun _=>h2,h3⟩
theorem eU {au:Array Bool} {a:Act} {w:ο} (hr:Jaq md ops au=[]) (h:∀w',Ext w w'→Q .normal a w'):∀fuel,rH P md ops S ts Q fuel au a w
 |0=>⟨hr,h⟩
 |_+1=>⟨fun _=>h,by rw[hr];simp⟩
theorem bK (S:Nat→Prop) (ts:List Nat) {id:Nat} {a:Act} {w:ο} (hm:P.follows .mixedOrders=τ)
 (h:rH P .any ops S ts Q ops.size (Jbe ops.size ρ) a w.drew):(Code.region id ops τ).wp P Q a w:=
 wp_region_any hm (uY _ _ _ _ h)
theorem Kz (i:Nat) {oi:JaZ} {fuel:Nat} {au:Array Bool} {a:Act} {w:ο} (hi:ops[i]? =ζ oi) (hd:oi.dst=ε)
 (hr:Jaq md ops au=[i]) (hw:Jau oi (Jbo ops a.tmps)=τ) (hm:i∈ts)
 (h:∀w',Ext w w'→∃cD,(JaX a.eval oi).run P w'=.ok .skip cD∧rH P md ops S ts Q fuel (au.setIfInBounds i τ) a cD):rH P md ops S ts Q (fuel+1) au a w:=by
 refine zX i hi hr hw fun w' hx=>?_
 obtain⟨cD,h1,h3⟩:=h w' hx;unfold Oper.wp;rw[h1]
 refine⟨fun hn=>absurd hm hn,?_⟩
 rw[hd];exact h3
end
end
section
def aB (x:Nat→ψ):List (Option Tmp)→Nat→Act→Act
 |[],_,a=>a
 |d::ds,k,a=>aB x ds (k+1) (a.put d (x k))
def yc (x:Nat→ψ) (i:Nat) (v:ψ):Nat→ψ:=fun j=>if j=i then v else x j
theorem LS (a:Act) (d:Option Tmp) (u v:ψ):(a.put d u).put d v=a.put d v:=by
 cases d with
 |none=>rfl
 |some d=>simp[ξ]
theorem uS (x:Nat→ψ) (v:ψ):∀(ds:List (Option Tmp)) (k:Nat) (a:Act) (d:Option Tmp),(∀e∈ds,∀t,d=ζ t→e≠ζ t)→(aB x ds k a).put d v=aB x ds k (a.put d v)
 |[],_,_,_,_=>rfl
 |e::ds,k,a,d,h=>by
  simp only[aB];rw[uS x v ds (k+1) _ d (fun e' AT=>h e' (List.mem_cons_of_mem _ AT))];congr 1;exact Act.put_comm a (x:=e) (y:=d) _ _ (fun t he hd=>h e (List.mem_cons_self ..) t hd he)
theorem qn (x:Nat→ψ) (i:Nat) (v:ψ):∀(ds:List (Option Tmp)) (k:Nat) (a:Act),i<k→aB (yc x i v) ds k a=aB x ds k a
 |[],_,_,_=>rfl
 |e::ds,k,a,h=>by
  simp only[aB];rw[show yc x i v k=x k from if_neg (by omega)];exact qn x i v ds (k+1) _ (by omega)
theorem nr (x:Nat→ψ) (i:Nat) (v:ψ):∀(ds:List (Option Tmp)) (k:Nat) (a:Act) (d:Option Tmp),k≤i→ds[i - k]? =ζ d→
 (∀j e,ds[j]? =ζ e→j≠i - k→∀t,d=ζ t→e≠ζ t)→(aB x ds k a).put d v=aB (yc x i v) ds k a
 |[],_,_,_,_,hd,_=>by simp at hd
 |e::ds,k,a,d,hk,hd,h=>by
  simp only[aB];rcases Nat.eq_or_lt_of_le hk with rfl|eS
  ·rw[Nat.sub_self] at hd h;simp at hd;subst hd
   rw[uS x v ds _ _ e (fun e' AT=>by
    obtain⟨j,hj⟩:=List.getElem?_of_mem AT;exact h (j+1) e' (by simpa using hj) (by omega)),LS,qn x k v ds (k+1) _ (by omega)]
   rw[show yc x k v k=v from if_pos rfl]
  ·have e1:i - k=(i - (k+1))+1:=by omega
   rw[e1] at hd;rw[nr x i v ds (k+1) _ d (by omega) (by simpa using hd) (fun j e' hj bQ=>h (j+1) e' (by simpa using hj) (by omega))];rw[show yc x i v k=x k from if_neg (by omega)]
theorem nS:∀(ds:List (Option Tmp)) (k:Nat) (a:Act),∃x,aB x ds k a=a
 |[],_,a=>⟨fun _=>undef,rfl⟩
 |d::ds,k,a=>by
  obtain⟨x,hx⟩:=nS ds (k+1) a
  let u:=match d with|some t=>a.tmps.getD t undef|none=>undef
  have hu:a.put d u=a:=by
   cases d with
   |none=>rfl
   |some t=>
    simp only[ξ,u];congr 1;apply Array.ext
    ·simp
    ·intro j h1 h2;rw[Array.getElem_setIfInBounds];split
     ·rename_i e;subst e;simp[JaD,h2]
     ·rfl
  refine⟨yc x k u,?_⟩
  simp only[aB];rw[show yc x k u k=u from if_pos rfl,hu,qn x k u ds (k+1) a (by omega),hx]
theorem kH (f g:Nat→Bool) (i:Nat) (hf:f i=ρ) (hg:g i=τ) (h:∀j,j≠i→g j=f j):∀n,(Ω n).countP g=(Ω n).countP f+if i<n then 1 else 0
 |0=>by simp
 |n+1=>by
  rw[List.range_succ,List.countP_append,List.countP_append,kH f g i hf hg h n];simp only[List.countP_singleton]
  by_cases e:n=i
  ·subst e;simp[hf,hg]
  ·rw[h n e]
   by_cases hi:i<n
   ·simp[hi,show i<n+1 by omega];omega
   ·simp[hi,show ¬i<n+1 by omega]
section
variable {P:JaE} {ops:Array JaZ} {Q:Exit→Act→ο→Prop} {md:Jbj}
def aM (ops:Array JaZ):List (Option Tmp):=ops.toList.map (·.dst)
def jw (md:Jbj) (o:JaZ):List Nat:=(o.after.toList.filter (JbS md)).map (·.on)
def Gu (P:JaE) (T:ψ→ο→Prop) (w:ο):Result Next→Prop
 |.ok (.value u) w'=>Ext w w'∧T u w'
 |.ok (.enter f args) w'=>Ζ P f args w' fun e cD=>∃v,e=.returned v∧Ext w cD∧T v cD
 |_=>False
def uN (P:JaE) (md:Jbj) (ops:Array JaZ) (Γ:Nat→ψ→ο→Prop) (G:ο→Prop) (a0:Act) (i:Nat):Prop:=
 ∀(o:JaZ),ops[i]? =ζ o→∀(x:Nat→ψ) (w:ο),G w→(∀j∈jw md o,Γ j (x j) w)→
  (Jau o (Jbo ops (aB x (aM ops) 0 a0).tmps)=τ∧Gu P (Γ i) w ((JaX (aB x (aM ops) 0 a0).eval o).run P w))∨
  (Jau o (Jbo ops (aB x (aM ops) 0 a0).tmps)=ρ∧Γ i undef w)
def kq (ops:Array JaZ):Bool:=((ops.toList.map (·.dst)).filterMap id).Nodup
def ur (md:Jbj) (ops:Array JaZ):Bool:=(Ω ops.size).all fun i=>match ops[i]? with|some o=>(jw md o).all (·<i)|none=>τ
theorem Gu.wp {o:JaZ} {T:ψ→ο→Prop} {a:Act} {w:ο} {K:Act→ο→Prop} (h:Gu P T w ((JaX a.eval o).run P w)) (hK:∀v w',Ext w w'→T v w'→K (a.put o.dst v) w'):o.wp P a w K Q:=by
 unfold Oper.wp;generalize (JaX a.eval o).run P w=r at*;cases r with
 |ok n w'=>
  cases n with
  |value u=>exact hK _ _ h.1 h.2
  |enter f args=>
   refine Calls.mono h fun e cD he=>?_
   obtain⟨v,rfl,h1,h2⟩:=he;exact hK _ _ h1 h2
  |_=>exact h.elim
 |halt x w'=>exact h.elim
theorem lP (h:kq ops=τ) {i j:Nat} {t:Tmp} (hi:(aM ops)[i]? =ζ (ζ t)) (hj:(aM ops)[j]? =ζ (ζ t)):i=j:=by
 unfold kq at h;have hn:=of_decide_eq_true h;clear h;unfold aM at hi hj;generalize ops.toList.map (·.dst)=l at*
 induction l generalizing i j with
 |nil=>simp at hi
 |cons d l ih=>
  cases d with
  |none=>
   simp at hn;cases i with
   |zero=>simp at hi
   |succ i=>
    cases j with
    |zero=>simp at hj
    |succ j=>rw[ih (i:=i) (j:=j) (by simpa using hi) (by simpa using hj) hn]
  |some d=>
   simp only[List.filterMap_cons,id] at hn;rw[List.nodup_cons] at hn;cases i with
   |zero=>
    cases j with
    |zero=>rfl
    |succ j=>
     exfalso;simp at hi hj;subst hi;exact hn.1 (List.mem_filterMap.2 ⟨ζ d,ω hj,rfl⟩)
   |succ i=>
    cases j with
    |zero=>
     exfalso;simp at hi hj;subst hj;exact hn.1 (List.mem_filterMap.2 ⟨ζ d,ω hi,rfl⟩)
    |succ j=>rw[ih (i:=i) (j:=j) (by simpa using hi) (by simpa using hj) hn.2]
end
end
section
def lU (n m:Nat):Array Bool:=((Ω m).map fun j=>decide (j<n)).toArray
theorem mr (n m:Nat):(lU n m).size=m:=by simp[lU]
theorem jW (n m k:Nat) (h:k<m):(lU n m).getD k ρ=decide (k<n):=by
 unfold lU;simp[JaD,h]
theorem o5 (n:Nat):∀m,(Ω m).countP (fun j=>decide (j<n))=min n m
 |0=>by simp
 |m+1=>by
  rw[List.range_succ,List.countP_append,o5 n m];simp only[List.countP_singleton]
  by_cases h:m<n
  ·simp[h];omega
  ·simp[h];omega
section
variable {P:JaE} {ops:Array JaZ} {Q:Exit→Act→ο→Prop} {md:Jbj}
theorem gZ {T:ψ→ο→Prop} {w w':ο} {ev:Jbd→ψ} {o:JaZ} {u:ψ} (h:(JaX ev o).run P w=.ok (.value u) w') (he:Ext w w') (hT:T u w'):Gu P T w ((JaX ev o).run P w):=by
 rw[h];exact⟨he,hT⟩
theorem dy {T:ψ→ο→Prop} {w:ο} {ev:Jbd→ψ} {o:JaZ} {f:FuncId} {args:Array ψ} (h:(JaX ev o).run P w=.ok (.enter f args) w)
 (hc:Ζ P f args w fun e cD=>∃v,e=.returned v∧Ext w cD∧T v cD):Gu P T w ((JaX ev o).run P w):=by
 rw[h];exact hc
def Lj (md:Jbj) (ops:Array JaZ) (n:Nat):Bool:=(Ω ops.size).all fun k=>decide (k<n)||match ops[k]? with|some o=>(Ω n).all fun j=>(jw md o).contains j|none=>τ
theorem F9 {n k:Nat} {o:JaZ} (h:Lj md ops n=τ) (hk:n≤k) (ho:ops[k]? =ζ o):∀j,j<n→j∈jw md o:=by
 intro j hj;have Ym:=(Jaa.1 ho).1;have h1:=Φ.1 h k (by simp[Ym]);rw[ho] at h1;have h2:decide (k<n)=ρ:=decide_eq_false (by omega);simp only[h2,Bool.false_or] at h1;have h3:=Φ.1 h1 j (by simp[hj]);simpa using h3
theorem G8 (n:Nat) (Γ:Nat→ψ→ο→Prop) (G:ο→Prop) (a0:Act) (hΓ:∀i v w w',Γ i v w→Ext w w'→Γ i v w') (hG:∀w w',G w→Ext w w'→G w')
 (hd:kq ops=τ) (hr:ur md ops=τ) (hn:n≤ops.size) (ht:Lj md ops n=τ) (vx:∀i,i<n→uN P md ops Γ G a0 i)
 (nc:∀x w,G w→(∀i,i<n→Γ i (x i) w)→wpAny P md ops Q (ops.size - n) (lU n ops.size) (aB x (aM ops) 0 a0) w):
 ∀(fuel:Nat) (au:Array Bool) (x:Nat→ψ) (w:ο),au.size=ops.size→(∀k,n≤k→k<ops.size→au.getD k ρ=ρ)→(Ω ops.size).countP (fun j=>au.getD j ρ)+fuel=ops.size→
  G w→(∀i,i<n→au.getD i ρ=τ→Γ i (x i) w)→wpAny P md ops Q fuel au (aB x (aM ops) 0 a0) w:=by
 have rT:∀(au:Array Bool),au.size=ops.size→(¬∀i,i<n→au.getD i ρ=τ)→∃i,i<n∧i∈Jaq md ops au:=by
  intro au hs ui
  by_cases hex:∃i,i<n∧i∈Jaq md ops au
  ·exact hex
  ·exfalso;refine ui fun i=>?_
   induction i using Nat.strongRecOn with
   |_ i ih=>
    intro hi
    by_cases hl:au.getD i ρ=τ
    ·exact hl
    ·exfalso;refine hex ⟨i,hi,?_⟩;rw[mem_ready];have GK:i<ops.size:=by omega
     have Mc:i<au.size:=by omega
     have h1:au.getD i τ=ρ:=by
      simp[JaD,Mc] at hl ⊢;exact hl
     refine⟨h1,ops[i],by simp[GK],fun e he hb=>?_⟩
     have h2:=Φ.1 (show(Ω ops.size).all _=τ from hr) i (by simp[GK]);simp[GK] at h2
     have h3:=h2 e.on (by
      unfold jw;exact Α.2 ⟨e,JaC.2 ⟨by simpa using he,hb⟩,rfl⟩)
     exact ih e.on h3 (by omega)
 intro fuel
 induction fuel with
 |zero=>
  intro au x w hs hk hc hg hx
  have hl:∀i,i<ops.size→au.getD i ρ=τ:=fun i hi=>by
   have h1:(Ω ops.size).countP (fun j=>au.getD j ρ)=(Ω ops.size).length:=by simpa using hc
   exact List.countP_eq_length.1 h1 i (by simp[hi])
  have ui:n=ops.size:=by
   rcases JaM n ops.size with h|h
   ·have h1:=hl n h;rw[hk n (Δ _) h] at h1;cases h1
   ·omega
  have he:=nc x w hg fun i hi=>hx i hi (hl i (by omega))
  rw[show ops.size - n=0 by omega] at he
  have e1:au=lU n ops.size:=by
   apply Array.ext
   ·rw[mr,hs]
   ·intro j h1 h2;have h3:=hl j (by omega);have h4:=jW n ops.size j (by omega);rw[decide_eq_true (by omega)] at h4;simp[JaD,h1] at h3;simp[JaD,h2] at h4;rw[h3,h4]
  rw[e1];exact he
 |succ fuel ih=>
  intro au x w hs hk hc hg hx
  by_cases bW:∀i,i<n→au.getD i ρ=τ
  ·have he:=nc x w hg fun i hi=>hx i hi (bW i hi)
   have e1:au=lU n ops.size:=by
    apply Array.ext
    ·rw[mr,hs]
    ·intro j h1 h2;have h4:=jW n ops.size j (by omega);simp[JaD,h2] at h4
     by_cases hj:j<n
     ·have h3:=bW j hj;simp[JaD,h1] at h3;rw[h3,h4,decide_eq_true hj]
     ·have h3:=hk j (by omega) (by omega);simp[JaD,h1] at h3;rw[h3,h4,decide_eq_false hj]
   have e2:(Ω ops.size).countP (fun j=>au.getD j ρ)=n:=by
    rw[e1]
    have:(Ω ops.size).countP (fun j=>(lU n ops.size).getD j ρ)=(Ω ops.size).countP (fun j=>decide (j<n)):=by
     apply List.countP_congr;intro j hj;rw[jW n ops.size j (by simpa using hj)]
    rw[this,o5];omega
   rw[show ops.size - n=fuel+1 by omega] at he;rw[e1];exact he
  ·obtain⟨i0,EV,Km⟩:=rT au hs bW
   refine⟨fun h0=>(by rw[h0] at Km;cases Km),fun i hi=>?_⟩
   obtain⟨h1,o,ho,aH⟩:=mem_ready.1 hi;have GK:i<ops.size:=(Jaa.1 ho).1;have Mc:i<au.size:=by omega
   have mA:i<n:=by
    rcases JaM i n with h|h
    ·exact h
    ·exfalso;refine bW fun j hj=>?_
     have h2:=F9 ht h ho j hj;unfold jw at h2;obtain⟨e,he,rfl⟩:=Α.1 h2;obtain⟨Rs,Mr⟩:=JaC.1 he;exact aH e (by simpa using Rs) Mr
   have DV:(aM ops)[i]? =ζ o.dst:=by
    unfold aM;rw[List.getElem?_map,Array.getElem?_toList,ho];rfl
   have qi:∀v,(aB x (aM ops) 0 a0).put o.dst v=aB (yc x i v) (aM ops) 0 a0:=fun v=>
    nr x i v (aM ops) 0 a0 o.dst (Nat.zero_le _) (by simpa using DV) (fun j e hj bQ t ht he=>by
     rw[Nat.sub_zero] at bQ;rw[ht] at DV;rw[he] at hj;exact bQ (lP hd hj DV))
   have AM:∀v w',Ext w w'→Γ i v w'→wpAny P md ops Q fuel (au.setIfInBounds i τ) (aB (yc x i v) (aM ops) 0 a0) w':=fun v w' hw hv=>by
    refine ih _ _ _ (by simpa using hs) (fun k h1 h2=>?_) ?_ (hG _ _ hg hw) fun j XU hj=>?_
    ·rw[Jbq ρ (by omega)];exact hk k h1 h2
    ·have sR:=kH (fun j=>au.getD j ρ) (fun j=>(au.setIfInBounds i τ).getD j ρ) i (by simp[JaD,Mc] at h1 ⊢;exact h1) (by simp[JaD,Mc]) (fun j hj=>Jbq ρ (Ne.symm hj)) ops.size;rw[sR,if_pos GK];omega
    ·by_cases e:j=i
     ·subst e;simpa [yc] using hv
     ·rw[Jbq ρ (Ne.symm e)] at hj;rw[show yc x i v j=x j from if_neg e];exact hΓ _ _ _ _ (hx j XU hj) hw
   have iK:=vx i mA o ho x w hg (fun j hj=>by
    have qd:j<i:=by
     have h2:=Φ.1 (show(Ω ops.size).all _=τ from hr) i (by simp[GK]);rw[ho] at h2;simpa using Φ.1 h2 j hj
    unfold jw at hj;obtain⟨e,he,rfl⟩:=Α.1 hj;obtain⟨Rs,Mr⟩:=JaC.1 he;exact hx _ (by omega) (aH e (by simpa using Rs) Mr))
   unfold wpOp;simp only[ho];rcases iK with⟨hw,Sf⟩|⟨hw,hu⟩
   ·simp only[hw,if_true];exact .inl (Sf.wp fun v w' kI hv=>by rw[qi];exact AM v w' kI hv)
   ·simp only[hw,Bool.false_eq_true,if_false];rw[qi];exact AM undef w (Ext.refl w) hu
theorem jG (n:Nat) (S:Nat→Prop) {id:Nat} {a0:Act} {w:ο} (Γ:Nat→ψ→ο→Prop) (G:ο→Prop) (hm:P.follows .mixedOrders=τ)
 (hd:kq ops=τ) (hr:ur .any ops=τ) (hn:decide (n≤ops.size)=τ) (ht:Lj .any ops n=τ) (hΓ:∀i v w w',Γ i v w→Ext w w'→Γ i v w') (hG:∀w w',G w→Ext w w'→G w') (hg:G w.drew)
 (vx:∀i,i<n→uN P .any ops Γ G a0 i)
 (nc:∀x w,G w→(∀i,i<n→Γ i (x i) w)→o4 P .any ops S Q (ops.size - n) (lU n ops.size) (aB x (aM ops) 0 a0) w):(Code.region id ops τ).wp P Q a0 w:=by
 obtain⟨x,hx⟩:=nS (aM ops) 0 a0
 have hz:∀k,(Jbe ops.size ρ).getD k ρ=ρ:=fun k=>by
  by_cases h:k<ops.size<;>simp[JaD,h]
 have h:=G8 (P:=P) (Q:=Q) (md:=.any) n Γ G a0 hΓ hG hd hr (of_decide_eq_true hn) ht vx (fun x w h1 h2=>jz _ _ _ _ (nc x w h1 h2)) ops.size (Jbe ops.size ρ) x w.drew (by simp) (fun k _ _=>hz k) (by
  have:(Ω ops.size).countP (fun j=>(Jbe ops.size ρ).getD j ρ)=0:=by
   rw[List.countP_eq_zero];intro j hj;rw[hz j];simp
  omega) hg (fun i _ hi=>by rw[hz i] at hi;cases hi)
 rw[hx] at h;exact wp_region_any hm h
end
end
section
def eF (cs:List ψ) (o:Nat) (vs:List ψ):List ψ:=cs.take o++(vs++cs.drop (o+vs.length))
theorem iP (cs:List ψ) (o:Nat) (vs:List ψ) (h:o+vs.length≤cs.length):(eF cs o vs).length=cs.length:=by
 simp only[eF,Ε,JaA,List.length_drop];omega
theorem Kl (cs:List ψ) (o:Nat):eF cs o []=cs:=by simp[eF]
theorem Gi (cs:List ψ) (o:Nat) (v:ψ) (vs:List ψ) (h:o<cs.length):eF (cs.set o v) (o+1) vs=eF cs o (v::vs):=by
 unfold eF
 have e1:(cs.set o v).take (o+1)=cs.take o++[v]:=by
  rw[List.take_set,List.take_add_one,θ h];simp only[Option.toList_some];rw[List.set_append_right _ _ (by rw[JaA];omega)];rw[show o - (cs.take o).length=0 by rw[JaA];omega];rfl
 rw[e1,List.drop_set_of_lt (by omega),JaH,Jay,show o+1+vs.length=o+(vs.length+1) by omega];rfl
theorem gH (g:Nat):∀(vs:List ψ) (o:Nat) (w:ο) (i:Nat),i≠g→(w.setCells g o vs).heap[i]? =w.heap[i]?
 |[],_,_,_,_=>rfl
 |v::r,o,w,i,h=>by
  rw[World.setCells,gH g r (o+1) _ i h];exact Below.heap_setCell w ⟨g,o,ε⟩ v i h
theorem cE (g:Nat):∀(vs:List ψ) (o:Nat) (w:ο),(w.setCells g o vs).heap.size=w.heap.size
 |[],_,_=>rfl
 |v::r,o,w=>by
  rw[World.setCells,cE g r (o+1) _];simp[JbB]
theorem dG (g:Nat):∀(vs:List ψ) (o:Nat) (w:ο),(w.setCells g o vs).os=w.os∧(w.setCells g o vs).tape=w.tape∧(w.setCells g o vs).output=w.output
 |[],_,_=>⟨rfl,rfl,rfl⟩
 |v::r,o,w=>by
  rw[World.setCells];exact dG g r (o+1) _
theorem fL {S:Nat→Prop} {w:ο} {g:Nat} (hS:S g) (o:Nat) (vs:List ψ):Kept S w (w.setCells g o vs):=
 ⟨(dG g vs o w).1,(dG g vs o w).2.1,(dG g vs o w).2.2,Nat.le_of_eq (cE g vs o w).symm,fun i _ hn=>gH g vs o w i (fun e=>hn (e▸hS))⟩
theorem below_setCells {B:Nat} {a w:ο} {g:Nat} (h:σ B a w) (hg:B≤g) (o:Nat) (vs:List ψ):σ B a (w.setCells g o vs):=
 ⟨(dG g vs o w).1.trans h.os,(dG g vs o w).2.1.trans h.tape,(dG g vs o w).2.2.trans h.output,by rw[cE];exact h.size,fun i hi=>(gH g vs o w i (by omega)).trans (h.block i hi)⟩
theorem Whole.cells_ {g:Nat} {t:Υ}:∀(vs:List ψ) (o:Nat) (w:ο) (cs:List ψ),Whole w g t cs→o+vs.length≤cs.length→Whole (w.setCells g o vs) g t (eF cs o vs)
 |[],_,_,cs,h,_=>by rw[Kl];exact h
 |v::r,o,w,cs,h,hl=>by
  rw[JaH] at hl;rw[World.setCells,←Gi cs o v r (by omega)];exact Whole.cells_ r (o+1) _ _ (h.set_ o v) (by rw[List.length_set];omega)
theorem Whole.cells_far {w:ο} {g g':Nat} {t:Υ} {cs:List ψ} (h:Whole w g t cs) (bQ:g≠g') (o:Nat) (vs:List ψ):Whole (w.setCells g' o vs) g t cs:=(gH g' vs o w g bQ).trans h
theorem Whole.there_ {w:ο} {g:Nat} {t:Υ} {cs:List ψ} (h:Whole w g t cs) (o n:Nat) (hl:o+n≤cs.length):w.there g o n:=fun j hj=>by
 have hv:cs[o+j]? =ζ (cs[o+j]'(by omega)):=θ (by omega);exact⟨by rw[h.cell hv];rfl,h.free _⟩
theorem lT {w:ο} {lo k n g:Nat} {T:Υ} {v:ψ} {xs:List ψ} (h:w.ownsRow lo T k v n xs) (bQ:ζ g≠v.ownBlock) (o:Nat) (vs:List ψ):(w.setCells g o vs).ownsRow lo T k v n xs:=
 h.kept (row:=ζ g) ⟨(dG g vs o w).1,(dG g vs o w).2.1,(dG g vs o w).2.2,Nat.le_of_eq (cE g vs o w).symm,fun i _ hk=>gH g vs o w i (fun e=>hk (by rw[e]))⟩ (by first|exact bQ|exact bQ.symm|exact .inr bQ|exact .inr bQ.symm)
theorem aI {w:ο} {lo k n g i:Nat} {T:Υ} {v:ψ} {xs:List ψ} (h:w.ownsRow lo T k v n xs) (bQ:ζ g≠v.ownBlock) (u:ψ):(w.setCell ⟨g,i,ε⟩ u).ownsRow lo T k v n xs:=
 lT h bQ i [u]
section
variable {α:Type} {f:α→List ψ} {s:Nat}
theorem sW (hs:∀x,(f x).length=s) (L:List α) (junk:List ψ) (k:Nat) (y:α) (hk:k<L.length):eF (ao f L++junk) (k*s) (f y)=ao f (L.set k y)++junk:=by
 have e1:L.set k y=L.take k++y::L.drop (k+1):=by
  rw[List.set_eq_take_append_cons_drop,if_pos hk]
 have hl:=cy f hs L;have hm:(k+1)*s≤L.length*s:=Nat.mul_le_mul_right _ hk;rw[Nat.succ_mul] at hm;unfold eF;rw[e1,bX,jy f hs];simp only[ao];rw[nj f hs,hs,List.take_append_of_le_length (by omega),List.drop_append_of_le_length (by omega),show k*s+s=(k+1)*s by rw[Nat.succ_mul]];simp only[Jay]
end
theorem eT {W:ο} {lo k n c:Nat} {T:Υ} {A:Option Κ} {xs:List ψ} (h:W.ownsRow lo T k (γ A n c) n xs) (hn:0<n):
 ∃g junk,A=ζ ⟨g,0,ε⟩∧lo≤g∧Whole W g T (xs++junk)∧(xs++junk).length=c*k∧n≤c∧c≤Jap∧xs.length=n*k:=by
 rcases h.2 with⟨h1,h2⟩|⟨g,cap,cur,h1,hb,hg,tH,qW,WT,ht⟩
 ·omega
 ·injection h1 with a1 a2 a3
  subst a1 a3
  have e:cur.toList=xs++cur.toList.drop (n*k):=by
   conv=>lhs;rw[←List.take_append_drop (n*k) cur.toList,ht]
  refine⟨g,cur.toList.drop (n*k),rfl,hb,?_,?_,tH,qW,h.1⟩
  ·unfold Whole;rw[←e];simpa using hg
  ·rw[←e];simpa using WT
theorem lL {W:ο} {lo k n c g:Nat} {T:Υ} {xs junk:List ψ} (hw:Whole W g T (xs++junk)) (gi:lo≤g) (hl:(xs++junk).length=c*k) (tH:n≤c) (qW:c≤Jap) (hx:xs.length=n*k):
 W.ownsRow lo T k (γ (ζ ⟨g,0,ε⟩) n c) n xs:=
 ⟨hx,.inr ⟨g,c,(xs++junk).toArray,rfl,gi,hw,tH,qW,by simpa using hl,by rw[←hx];simp⟩⟩
theorem fV {W:ο} {lo k n c:Nat} {T:Υ} {A:Option Κ} {xs:List ψ} (h:W.ownsRow lo T k (γ A n c) n xs):c≤Jap:=by
 rcases h.2 with⟨h1,h2⟩|⟨g,cap,cur,h1,hb,hg,tH,qW,WT,ht⟩
 ·injection h1 with a1 a2 a3
  omega
 ·injection h1 with a1 a2 a3
  omega
theorem bk {W:ο} {lo k n c:Nat} {T:Υ} {A:Option Κ} {xs:List ψ} (h:W.ownsRow lo T k (γ A n c) n xs):aS W W.heap.size k A n c xs:=by
 obtain⟨A',c',e,hr⟩:=aS.of_own h;injection e with a1 a2 a3
 subst a1 a3;exact hr
theorem sB {W:ο} {lo k n c:Nat} {T:Υ} {A:Option Κ} {xs:List ψ} (h:W.ownsRow lo T k (γ A n c) n xs) {a:Κ} (ha:A=ζ a):lo≤a.block∧a.block<W.heap.size:=by
 subst ha;exact h.lt a.block rfl
theorem bM {W:ο} {lo k n c g:Nat} {T T':Υ} {A:Option Κ} {xs cs:List ψ} (h:W.ownsRow lo T k (γ A n c) n xs) (hw:Whole W g T' cs) (hT:T'≠T):ζ g≠(Value.slice A n c).ownBlock:=by
 intro e;rcases h.2 with⟨h1,h2⟩|⟨g',cap,cur,h1,hb,hg,tH,qW,WT,ht⟩
 ·rw[h1] at e;cases e
 ·rw[h1] at e;have e':g=g':=Μ e;subst e';unfold Whole at hw;rw[hg] at hw;injection hw with hw
  injection hw with _ ht
  exact hT ht.symm
theorem ey {P:JaE} {ev:Jbd→ψ} {o:JaZ} {w:ο} (ty:Υ) (x y:Jbd) (ho:o.op=.store ty x y) (b off:Nat) (hx:ev x=υ (ζ ⟨b,off,ε⟩))
 (cs:List ψ) (hy:ev y=φ cs.toArray) (ht:w.there b off cs.length) (hi:(P.info? ty).map (·.size)=ζ cs.length) (h1:∀v∈cs,v.oneCell'=τ):
 (JaX ev o).run P w=.ok .skip (w.setCells b off cs):=by
 have h:=run_storeAt_mid (P:=P) w b off ty cs.toArray (by simpa using ht) (by simpa using hi) (all_oneCell_toArray h1);unfold JaX;simp only[ho,hx,hy,Jbl,JbO,JbA,h]
end
end Go.Proofs.YtpdpbfmiahjiiaaGreat
