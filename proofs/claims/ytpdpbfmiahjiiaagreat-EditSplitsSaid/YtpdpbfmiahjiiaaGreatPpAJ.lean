/- Several texts in one. -/
import Derived.Test.YtpdpbfmiahjiiaaGreatPpAA
import Derived.Test.YtpdpbfmiahjiiaaGreatPpAB
import Derived.Test.YtpdpbfmiahjiiaaGreatPpAD
import Derived.Test.YtpdpbfmiahjiiaaGreatPpAH
import Derived.Test.YtpdpbfmiahjiiaaGreatPpAI
import Derived.Below
import Derived.Carry
import Derived.Deep.Slices
import Derived.KernelRfl
import Derived.OpenShut
import Derived.ProofKit
import Derived.Test.YtpdpbfmiahjiiaaGreatProg
import Derived.WideKeyArgs
import Derived.SizedLaws
import Derived.LoopIn
import Derived.LoopNIn
import Derived.OwnWalkIn
import Derived.RangeFuncBound
import Derived.RangeFuncCalls
import Derived.RangeFuncLeaves
import Derived.RangeFuncNested
import Derived.Shelf.Abstract
import Derived.Shelf.RegionOpen
import Derived.TacticsInMore
import Derived.WalkKit
import Derived.Maps.AppendAt
import Derived.Shelf.SlSortCmp.NoneTotal
import Derived.Shelf.SlSortCmp.WholeK
import Derived.Test.YtpdpbfmiahjiiaaGreatShelf
import Derived.Maps.OwnIn
set_option linter.unusedSectionVars false
set_option linter.unusedSimpArgs false
set_option linter.unusedVariables false
set_option maxRecDepth 100000
set_option maxHeartbeats 16000000
namespace Go.Proofs.YtpdpbfmiahjiiaaGreat
open Go.RowKit
open _root_.Go.Value renaming slice→γ,bool→Β,slice→Ο
open _root_.Option renaming none→ε,some→ζ,some→Jae
open _root_.Go.Proofs.Tryz renaming prog→η
open _root_.List renaming getElem?_eq_getElem→θ,getElem?_eq_some_iff→ν,getD_eq_getElem?_getD→χ,mem_of_getElem?→ω,mem_map→Α,mem_cons→Η,all_eq_true→Φ,getElem?_map→Ψ,range→Ω,getElem?_append_left→Jab,mem_cons_of_mem→Jad,mem_cons_self→Jai,getElem?_append_right→Jal,mem_append→Jan,mem_singleton→Jao,mem_flatMap→Jat,mem_filter→JaC,length_cons→JaH,nodup_append→JaL,length_pos_of_mem→Jbk
open _root_.Go renaming World→ο,Value→ψ,Addr→Κ,TypeId→Υ,Program→JaE,getD_set_ne→Jbq
open _root_.Bool renaming false→ρ,true→τ
open _root_.Nat renaming le_refl→Δ,zero_le→Jas,lt_or_ge→JaM,mod_eq_of_lt→JbE
open _root_.Option.some renaming inj→Μ
open _root_.Array renaming getElem?_eq_some_iff→Jaa,getD→JaD,replicate→Jbe
open _root_.Go.Region renaming ready→Jaq,Mode→Jbj,noSelect→JbJ,free→JbP
open _root_.Go.IntKind renaming i64→Jaw
open _root_.Prod.mk renaming injEq→Jba
open _root_.Go.World renaming size_alloc→JbF
section
open Go.ChangeShapes Go.WideShapes Go.ChangeAt Go.RowKit
section
variable {H:Type} {enc:TypeId × Value→H} {P:Program}
theorem rF (hl:laidOutB P=true) {W W':World} (hb:Below W.heap.size W W'):∀(ts:List TypeId) (vs:List Value) (ds:List (DataW H)) (ps:List MemPlace) (sp:Nat→Bool),
 (∀t∈ts,P.readableRec t=true∧t<P.types.size)→DataW.TrodAll enc P W 0 (fun _=>true) true ts vs ds ps→
 (∀p∈ps,p.block<W.heap.size)→(∀p∈ps,sp p.block=true)→DataW.TrodAll enc P W' 0 sp true ts vs ds ps
 |[],_,_,_,_,_,h,_,_=>by
  obtain⟨rfl,rfl,rfl⟩:=trodAll_nil h;exact rfl
 |t::ts,vs,ds,ps,sp,ht,h,fh,hs=>by
  obtain⟨v,vs',d,ds',p,q,rfl,rfl,rfl,h1,h2⟩:=trodAll_cons h
  have⟨hr,Vt⟩:=ht t (by simp)
  refine⟨p,q,WideElems.Trod_stays hl hr Vt h1 (fun x hx=>hb.same (fh x (by simp[hx]))) (fun x hx=>hs x (by simp[hx])),?_,rfl⟩
  exact rF hl hb ts vs' ds' q sp (fun t' h'=>ht t' (by simp[h'])) h2 (fun x hx=>fh x (by simp[hx])) (fun x hx=>hs x (by simp[hx]))
theorem Mj {f:Func} {s:ChangeSpec} {tb:TypeId} {W W':World} {args:Array Value} {ds gs:List (DataW H)} {before:List MemPlace}
 (hl:laidOutB P=true) (hts:f.params.toList.all (fun t=>P.readableRec t && decide (t<P.types.size))=true) (hr:f.resultTypes=#[tb]) (htb:P.underlying tb=some .bool) (hv:s.vars=[])
 (hfn:(s.fn H (ds++gs)).results=[.lit (.bool true)]∧(s.fn H (ds++gs)).args=ds∧(s.fn H (ds++gs)).vars=[])
 (hW:DataW.Whole enc P f.params.toList s.vars false W args.toList ds gs before) (hb:Below W.heap.size W W'):
 s.post enc P f false true false false W args (.bool true) W':=by
 have aee:∀t∈f.params.toList,P.readableRec t=true∧t<P.types.size:=fun t ht=>by
  have h:=List.all_eq_true.1 hts t ht;simpa using h
 have fh:∀p∈before,p.block<W.heap.size:=fun p hp=>hW.lt p hp
 have hW':=hW;obtain⟨p,q,hA,hV,rfl,hfz,hnd⟩:=hW;rw[hv] at hV;obtain⟨rfl,rfl⟩:=trodVars_none hV;obtain⟨e1,e2,e3⟩:=hfn
 refine⟨ds,[],p++[],[],p,[],hW',?_,?_,?_,?_,fun h=>by cases h⟩
 ·rw[e1,hr];exact trodAll_mk1 (shut_bool htb _)
 ·rw[e2];exact rF hl hb _ _ _ _ _ aee hA (fun x hx=>fh x (by simp[hx])) (fun x hx=>by simpa using fh x (by simp[hx]))
 ·rw[e3,hv];rfl
 ·exact World.keptBut_mono (fun x hx=>⟨hx,by simpa using hx⟩) (hb.frame (·∈p++[]))
end
end
section
open Go.ChangeShapes Go.WideShapes Go.ChangeAt Go.RowKit
section
variable {H:Type} {P:Program}
def In64 (n:Int):Prop:= -9223372036854775808≤n∧n≤9223372036854775807
end
end
section
open Go.ChangeShapes Go.WideShapes Go.ChangeAt Go.RowKit
theorem Tryz.own:ownKnob Tryz.prog.godebug=none:=by kernel_rfl
theorem Tryz.laidOut:laidOutB Tryz.prog=true:=by kernel_rfl
end
section
open Go.ChangeShapes Go.WideShapes Go.ChangeAt Go.RowKit Go.Deep
end
section
open Go.ChangeShapes Go.WideShapes Go.ChangeAt Go.RowKit Go.Deep
section
variable {H:Type} {P:Program} {α β:Type}
def Row1 (H:Type) (P:Program) (t:TypeId) (f:α→List Value) (p:World→α→Prop):Prop:=
 ∀(enc:TypeId × Value→H) (w:World) (held:Bool) (fuel:Nat) (cs:List Value) (x:DataW H × List MemPlace),
  DataW.trod enc P w 0 (fun _=>true) held fuel t cs=some x→∃a,cs=f a∧p w a
theorem p5 {t:TypeId} (ht:P.underlying t=some (.int .i64)):Row1 H P t (fun n:Int=>[J n]) (fun _ n=>In64 n):=by
 intro enc w held fuel cs x h;obtain⟨n,rfl,_,hw⟩:=DataW.trod_int ht h;exact⟨n,rfl,bounds_i64 hw⟩
theorem Kx {t:TypeId} (ht:P.underlying t=some .bool):Row1 H P t (fun b:Bool=>[.bool b]) (fun _ _=>True):=by
 intro enc w held fuel cs x h;cases fuel with
 |zero=>simp[DataW.trod] at h
 |succ m=>
  unfold DataW.trod at h;rw[ht] at h;split at h<;>simp_all
theorem Dg {t:TypeId} (ht:P.underlying t=some .string):Row1 H P t (fun s:ByteArray=>[.string s]) (fun _ s=>s.size≤maxLen):=by
 intro enc w held fuel cs x h;obtain⟨s,rfl,_,hs⟩:=DataW.trod_string ht h;exact⟨s,rfl,hs⟩
theorem Row1.map {t:TypeId} {f:α→List Value} {p:World→α→Prop} (h:Row1 H P t f p) (g:α→β) {f':β→List Value} {p':World→β→Prop} (hf:∀a,f a=f' (g a)) (hp:∀w a,p w a→p' w (g a)):Row1 H P t f' p':=by
 intro enc w held fuel cs x hx;obtain⟨a,rfl,ha⟩:=h enc w held fuel cs x hx;exact⟨g a,hf a,hp w a ha⟩
def vR (H:Type) (P:Program) (fs:List Field) (off m:Nat) (g:α→List Value) (q:World→α→Prop):Prop:=
 ∀(enc:TypeId × Value→H) (w:World) (held:Bool) (n:Nat) (cs:List Value),
  (∀fl∈fs,∃y,DataW.trod enc P w 0 (fun _=>true) held n fl.type ((cs.drop fl.offset).take (P.cellsOf fl.type))=some y)→∃a,(cs.drop off).take m=g a∧q w a
theorem lD (off:Nat):vR H P [] off 0 (fun _:Unit=>[]) (fun _ _=>True):=fun _ _ _ _ cs _=>⟨(),by simp,trivial⟩
theorem cK {fl:Field} {fs:List Field} {off k m:Nat} {f:α→List Value} {p:World→α→Prop} {g:β→List Value} {q:World→β→Prop}
 (h:Row1 H P fl.type f p) (ho:fl.offset=off) (hc:P.cellsOf fl.type=k) (hr:vR H P fs (off+k) m g q):
 vR H P (fl::fs) off (k+m) (fun ab:α × β=>f ab.1++g ab.2) (fun w ab=>p w ab.1∧q w ab.2):=by
 intro enc w held n cs cN;obtain⟨y,hy⟩:=cN fl (by simp);obtain⟨a,ha,pa⟩:=h _ _ _ _ _ _ hy;obtain⟨b,hb,qb⟩:=hr enc w held n cs (fun fl' h'=>cN fl' (by simp[h']));rw[ho,hc] at ha
 refine⟨(a,b),?_,pa,qb⟩
 show _=f a++g b;rw[←ha,←hb,List.take_add,List.drop_drop]
theorem kg {t:TypeId} {fs:List Field} {m:Nat} {g:α→List Value} {q:World→α→Prop} (ht:P.underlying t=some (.struct fs.toArray)) (hc:P.cellsOf t=m) (h:vR H P fs 0 m g q):Row1 H P t g q:=by
 intro enc w held fuel cs x hx;obtain⟨xs,n,_,_,hl,hlen,hg⟩:=DataW.trod_struct ht hx
 obtain⟨a,ha,qa⟩:=h enc w held n cs (fun fl Xw=>by
  obtain⟨i,hi⟩:=List.getElem?_of_mem Xw;have h1:=hg i fl (by simpa using hi)
  have fh:i<xs.length:=by
   rw[hlen];simpa using (List.getElem?_eq_some_iff.1 hi).1
  exact⟨xs[i],by rw[h1,List.getElem?_eq_getElem fh]⟩)
 refine⟨a,?_,qa⟩
 rw[←ha,List.drop_zero,List.take_of_length_le (by omega)]
theorem Ay {e:TypeId} {k:Nat} {f:α→List Value} {p:World→α→Prop} (hi:Row1 H P e f p) (hc:P.cellsOf e=k) (hk:∀a,(f a).length=k) (enc:TypeId × Value→H) (W:World) (held:Bool) (a:Addr) (nn:Nat):
 ∀n:Nat,(∀i,i<n→∃rI D,W.cells? 0 (a.add (i*P.cellsOf e)) (P.cellsOf e)=some rI∧DataW.trod enc P W 0 (fun _=>true) held nn e rI=some D)→
  ∃l:List α,l.length=n∧(∀j u,(aj f l)[j]? =some u→W.cell? (a.add j)=some u)∧∀x∈l,p W x
 |0,_=>⟨[],rfl,fun j u h=>(by simp[aj] at h),fun x h=>(by cases h)⟩
 |n+1,h=>by
  obtain⟨l,hl,hq,hp⟩:=Ay hi hc hk enc W held a nn n (fun i hi=>h i (by omega));obtain⟨rI,D,h1,h2⟩:=h n (by omega);obtain⟨x,rfl,hx⟩:=hi _ _ _ _ _ _ h2;rw[hc] at h1;obtain⟨_,hln,Ex⟩:=World.cells?_some h1;have hlen:(aj f l).length=n*k:=by rw[cP f hk,hl]
  refine⟨l++[x],by simp[hl],fun j u hj=>?_,fun y hy=>?_⟩
  ·rw[bV] at hj;rcases Nat.lt_or_ge j (n*k) with fh|Sg
   ·rw[List.getElem?_append_left (by omega)] at hj;exact hq j u hj
   ·rw[List.getElem?_append_right (by omega),hlen] at hj;simp only[aj,List.append_nil] at hj
    have UT:j - n*k<k:=by
     rcases Nat.lt_or_ge (j - n*k) k with h3|h3
     ·exact h3
     ·rw[List.getElem?_eq_none (by rw[hk];exact h3)] at hj;cases hj
    have h4:=Ex (j - n*k) UT;rw[hj,add_add,show n*k+(j - n*k)=j by omega] at h4;exact h4
  ·rcases List.mem_append.1 hy with hy|hy
   ·exact hp y hy
   ·obtain rfl:=List.mem_singleton.1 hy;exact hx
def UY (k:Nat) (f:α→List Value) (p:World→α→Prop) (w:World) (s:Option Addr × Nat × Nat × List α):Prop:=
 s.2.2.1≤maxLen∧aX w w.heap.size k s.1 s.2.1 s.2.2.1 (aj f s.2.2.2)∧∀x∈s.2.2.2,p w x
def Bz (s:Option Addr × Nat × Nat × List α):List Value:=[.slice s.1 s.2.1 s.2.2.1]
theorem xV {t e:TypeId} {k:Nat} {f:α→List Value} {p:World→α→Prop} (hi:Row1 H P e f p) (ht:P.underlying t=some (.slice e)) (hc:P.cellsOf e=k) (hk:∀a,(f a).length=k) (h0:0<k):
 Row1 H P t (Bz (α:=α)) (UY k f p):=by
 intro enc W held fuel cs x hf;rcases open_slice ht hf with⟨rfl,_⟩|⟨a,n,c,m,q,D,Pl,rfl,hb,hl,hm,Zl,hx,sS⟩
 ·exact⟨(none,0,0,[]),rfl,Nat.zero_le _,⟨by simp[aj],fun _=>⟨rfl,rfl⟩,Nat.le_refl _,fun a ha=>(by cases ha),fun a ha=>(by cases ha)⟩,fun x hx=>(by cases hx)⟩
 ·have hmc:m=c:=by simpa using Zl
  clear Zl;subst m
  obtain⟨l,hlen,oS,hp⟩:=Ay hi hc hk enc W held a q n (fun i him=>by
   obtain⟨rI,h1,h2⟩:=sS i (by omega);exact⟨rI,_,h1,h2⟩)
  refine⟨(some a,n,c,l),rfl,hm,⟨by rw[cP f hk,hlen],fun e=>(by cases e),hl,fun a' ha hn=>?_,fun a' ha j u hu=>?_⟩,hp⟩
  ·obtain rfl:=Option.some.inj ha;have h0':0<(aj f l).length:=by rw[cP f hk,hlen];exact Nat.mul_pos hn h0
   have:=World.block_lt_of_cell? W _ (oS 0 _ (List.getElem?_eq_getElem h0'))
   simpa [Addr.add] using this
  ·obtain rfl:=Option.some.inj ha;exact oS j u hu
theorem uv {w W:World} {t:TypeId} {fs:Array Field} {f:α→List Value} {p:World→α→Prop} {r:Reach} {b0:Nat} {enc:TypeId × Value→H} {held:Bool} {v:Value} {d:DataW H} {ps:List MemPlace}
 (hi:Row1 H P t f p) (ht:P.underlying t=some (.struct fs)) (hv:Value.okWide P w r b0 t v) (hd:DataW.Trod enc P W 0 (fun _=>true) held t v d ps):
 ∃a,v=.agg (f a).toArray∧p W a:=by
 simp only[Value.okWide,ht] at hv;obtain⟨cs,rfl,_,_⟩:=hv;obtain⟨fuel,hf⟩:=hd;obtain⟨a,q,ha⟩:=hi _ _ _ _ _ _ hf
 refine⟨a,?_,ha⟩
 simp only[Value.cells] at q;rw[←q,Array.toArray_toList]
theorem vI {w W:World} {t e:TypeId} {k:Nat} {f:α→List Value} {p:World→α→Prop} {r:Reach} {b0:Nat} {enc:TypeId × Value→H} {held:Bool} {v:Value} {d:DataW H} {ps:List MemPlace}
 (hi:Row1 H P e f p) (ht:P.underlying t=some (.slice e)) (hc:P.cellsOf e=k) (hk:∀a,(f a).length=k) (h0:0<k)
 (hv:Value.okWide P w r b0 t v) (hd:DataW.Trod enc P W 0 (fun _=>true) held t v d ps):
 ∃s:Option Addr × Nat × Nat × List α,v=.slice s.1 s.2.1 s.2.2.1∧UY k f p W s:=by
 obtain⟨A0,n0,c0,rfl⟩:=okWide_slice ht hv;obtain⟨fuel,hf⟩:=hd;obtain⟨s,q,hs⟩:=xV hi ht hc hk h0 _ _ _ _ _ _ hf
 refine⟨s,?_,hs⟩
 simpa [Value.cells,Bz] using q
end
end
section
open Go.ChangeShapes Go.WideShapes Go.ChangeAt Go.RowKit Go.Deep
section
variable {H:Type} {P:JaE} {α β:Type}
def Jl (H:Type) (P:JaE) (t:Υ) (f:α→List ψ) (p:ο→α→Prop):Prop:=
 ∀(enc:Υ × ψ→H) (w:ο) (held:Bool) (fuel:Nat) (cs:List ψ) (x:DataW H × List MemPlace),
  DataW.trod enc P w 0 (fun _=>τ) held fuel t cs=ζ x→(∀n∈x.1.weights P t,n≤reachBytes)→∃a,cs=f a∧p w a
theorem Row1.z {t:Υ} {f:α→List ψ} {p:ο→α→Prop} (h:Row1 H P t f p):Jl H P t f p:=fun enc w held fuel cs x hx _=>h enc w held fuel cs x hx
theorem Jl.map {t:Υ} {f:α→List ψ} {p:ο→α→Prop} (h:Jl H P t f p) (g:α→β) {f':β→List ψ} {p':ο→β→Prop} (hf:∀a,f a=f' (g a)) (hp:∀w a,p w a→p' w (g a)):Jl H P t f' p':=by
 intro enc w held fuel cs x hx hz;obtain⟨a,rfl,ha⟩:=h enc w held fuel cs x hx hz;exact⟨g a,hf a,hp w a ha⟩
end
end
theorem bc.small {A:Option Κ} {n c:Nat} {Vs:List VC} {B:Option Κ} {m k:Nat} {Es:List EC} {w:ο} (hf:bc Vs Es) (h:aR w A n c Vs B m k Es):n≤24∧m≤40∧∀x∈Vs,x.2.1.2.1≤80:=by
 have h1:=h.v.rlen aQ (by decide);have h2:=h.e.rlen bF (by decide);have h3:=hf.v24;have h4:=hf.e40
 refine⟨by omega,by omega,fun x hx=>?_⟩
 have h5:=(h.r x hx).2.dlen;have h6:=hf.len
 have h7:x.2.1.2.2.2.length≤(aH Vs).length:=by
  clear h1 h2 h3 h4 h5 h6 h hf
  induction Vs with
  |nil=>cases hx
  |cons v r ih=>
   rw[jH,List.length_append];rcases Η.1 hx with rfl|hx
   ·omega
   ·have:=ih hx;omega
 omega
def U2 (R:List D):Nat→(D→Option D)→D→Option D
 |0,f=>f
 |k+1,f=>fun y=>if y=R.getD k (0,0,0) then ζ (R.getD ((k+1) % R.length) (0,0,0)) else U2 R k f y
def Ol:List VC→(D→Option D)→D→Option D
 |[],f=>f
 |v::r,f=>Ol r (U2 v.2.1.2.2.2 v.2.1.2.2.2.length f)
def Dl (Vs:List VC):D→Option D:=Ol Vs (fun _=>ε)
section
variable {P:JaE} {ops:Array Oper} {Q:Exit→Act→ο→Prop} {md:Jbj}
def NS (md:Jbj) (ops:Array Oper) (n e:Nat):Bool:=(Ω ops.size).all fun k=>decide (k<n)||match ops[k]? with|some o=>(Ω n).all fun j=>j==e||(fx md o).contains j|none=>τ
theorem ES {n e k:Nat} {o:Oper} (h:NS md ops n e=τ) (hk:n≤k) (ho:ops[k]? =ζ o):∀j,j<n→j≠e→j∈fx md o:=by
 intro j hj EF;have ZX:=(Jaa.1 ho).1;have h1:=Φ.1 h k (by simp[ZX]);rw[ho] at h1;have h2:decide (k<n)=ρ:=decide_eq_false (by omega);simp only[h2,Bool.false_or] at h1;have h3:=Φ.1 h1 j (by simp[hj]);have h4:(j==e)=ρ:=by simpa using EF
 rw[h4,Bool.false_or] at h3;simpa using h3
theorem KJ (n e:Nat) (S:Nat→Prop) {oe:Oper} (Γ:Nat→ψ→ο→Prop) (G:ο→Prop) (a0:Act) (hΓ:∀i v w w',Γ i v w→Ext w w'→Γ i v w') (hG:∀w w',G w→Ext w w'→G w')
 (hd:iy ops=τ) (hr:qH md ops=τ) (hn:n≤ops.size) (ht:NS md ops n e=τ) (ZB:e<n) (Ka:ops[e]? =ζ oe) (ss:JbJ ops=τ)
 (za:JbP md ops ((lI n ops.size).setIfInBounds e ρ) e=τ) (Zk:(Jaq md ops ((lI n ops.size).setIfInBounds e ρ)).contains e=τ)
 (hQ:∀v c a w,Q (.panic c) (a.put oe.dst v) w→Q (.panic c) a w) (qf:∀i,i<n→sI P md ops Γ G a0 i)
 (DG:∀x w,G w→(∀i,i<n→i≠e→Γ i (x i) w)→∃v,du P ops S oe v (aC x (aP ops) 0 a0) w∧Γ e v w)
 (kE:∀x w,G w→(∀i,i<n→Γ i (x i) w)→nW P md ops S Q (ops.size - n) (lI n ops.size) (aC x (aP ops) 0 a0) w):
 ∀(fuel:Nat) (au:Array Bool) (x:Nat→ψ) (w:ο),au.size=ops.size→(∀k,n≤k→k<ops.size→au.getD k ρ=ρ)→(Ω ops.size).countP (fun j=>au.getD j ρ)+fuel=ops.size→
  G w→(∀i,i<n→au.getD i ρ=τ→Γ i (x i) w)→wpAny P md ops Q fuel au (aC x (aP ops) 0 a0) w:=by
 have qm:∀(au:Array Bool),au.size=ops.size→(¬∀i,i<n→au.getD i ρ=τ)→∃i,i<n∧i∈Jaq md ops au:=by
  intro au hs yE
  by_cases hex:∃i,i<n∧i∈Jaq md ops au
  ·exact hex
  ·exfalso;refine yE fun i=>?_
   induction i using Nat.strongRecOn with
   |_ i ih=>
    intro hi
    by_cases hl:au.getD i ρ=τ
    ·exact hl
    ·exfalso;refine hex ⟨i,hi,?_⟩;rw[mem_ready];have zI:i<ops.size:=by omega
     have Fe:i<au.size:=by omega
     have h1:au.getD i τ=ρ:=by
      simp[JaD,Fe] at hl ⊢;exact hl
     refine⟨h1,ops[i],by simp[zI],fun e he hb=>?_⟩
     have h2:=Φ.1 (show(Ω ops.size).all _=τ from hr) i (by simp[zI]);simp[zI] at h2
     have h3:=h2 e.on (by
      unfold fx;exact Α.2 ⟨e,JaC.2 ⟨by simpa using he,hb⟩,rfl⟩)
     exact ih e.on h3 (by omega)
 intro fuel
 induction fuel with
 |zero=>
  intro au x w hs hk hc hg hx
  have hl:∀i,i<ops.size→au.getD i ρ=τ:=fun i hi=>by
   have h1:(Ω ops.size).countP (fun j=>au.getD j ρ)=(Ω ops.size).length:=by simpa using hc
   exact List.countP_eq_length.1 h1 i (by simp[hi])
  have yE:n=ops.size:=by
   rcases JaM n ops.size with h|h
   ·have h1:=hl n h;rw[hk n (Δ _) h] at h1;cases h1
   ·omega
  have he:=kE x w hg fun i hi=>hx i hi (hl i (by omega))
  rw[show ops.size - n=0 by omega] at he
  have e1:au=lI n ops.size:=by
   apply Array.ext
   ·rw[jW,hs]
   ·intro j h1 h2;have h3:=hl j (by omega);have h4:=jI n ops.size j (by omega);rw[decide_eq_true (by omega)] at h4;simp[JaD,h1] at h3;simp[JaD,h2] at h4;rw[h3,h4]
  rw[e1];exact jk _ _ _ _ he
 |succ fuel ih=>
  intro au x w hs hk hc hg hx
  by_cases cN:∀i,i<n→au.getD i ρ=τ
  ·have he:=kE x w hg fun i hi=>hx i hi (cN i hi)
   have e1:au=lI n ops.size:=by
    apply Array.ext
    ·rw[jW,hs]
    ·intro j h1 h2;have h4:=jI n ops.size j (by omega);simp[JaD,h2] at h4
     by_cases hj:j<n
     ·have h3:=cN j hj;simp[JaD,h1] at h3;rw[h3,h4,decide_eq_true hj]
     ·have h3:=hk j (by omega) (by omega);simp[JaD,h1] at h3;rw[h3,h4,decide_eq_false hj]
   have e2:(Ω ops.size).countP (fun j=>au.getD j ρ)=n:=by
    rw[e1]
    have:(Ω ops.size).countP (fun j=>(lI n ops.size).getD j ρ)=(Ω ops.size).countP (fun j=>decide (j<n)):=by
     apply List.countP_congr;intro j hj;rw[jI n ops.size j (by simpa using hj)]
    rw[this,qO];omega
   rw[show ops.size - n=fuel+1 by omega] at he;rw[e1];exact jk _ _ _ _ he
  ·by_cases tp:∀i,i<n→i≠e→au.getD i ρ=τ
   ·have hef:au.getD e ρ=ρ:=by
     cases hb:au.getD e ρ with
     |false=>rfl
     |true=>
      refine absurd (fun i hi=>?_) cN
      by_cases H9:i=e
      ·rw[H9];exact hb
      ·exact tp i hi H9
    have e1:au.setIfInBounds e τ=lI n ops.size:=by
     apply Array.ext
     ·rw[jW,Array.size_setIfInBounds,hs]
     ·intro j h1 h2;have yY:j<au.size:=by simpa using h1
      have h4:=jI n ops.size j (by rw[←hs];exact yY);simp[JaD,h2] at h4;rw[Array.getElem_setIfInBounds (by simpa using h1)]
      by_cases EF:e=j
      ·subst EF;rw[if_pos rfl,h4,decide_eq_true ZB]
      ·rw[if_neg EF]
       by_cases hj:j<n
       ·have h3:=tp j hj (Ne.symm EF);simp[JaD,yY] at h3;rw[h3,h4,decide_eq_true hj]
       ·have h3:=hk j (by omega) (by omega);simp[JaD,yY] at h3;rw[h3,h4,decide_eq_false hj]
    have e3:au=(lI n ops.size).setIfInBounds e ρ:=by
     rw[←e1,Array.setIfInBounds_setIfInBounds];apply Array.ext
     ·simp
     ·intro j h1 h2;rw[Array.getElem_setIfInBounds (by simpa using h2)]
      by_cases EF:e=j
      ·subst EF;rw[if_pos rfl];simp[JaD,h1] at hef;exact hef
      ·rw[if_neg EF]
    have e2:(Ω ops.size).countP (fun j=>au.getD j ρ)+1=n:=by
     have h1:(Ω ops.size).countP (fun j=>(lI n ops.size).getD j ρ)=(Ω ops.size).countP (fun j=>decide (j<n)):=by
      apply List.countP_congr;intro j hj;rw[jI n ops.size j (by simpa using hj)]
     have sS:e<au.size:=by omega
     have vu:=j4 (fun j=>au.getD j ρ) (fun j=>(au.setIfInBounds e τ).getD j ρ) e hef (by simp[JaD,sS]) (fun j hj=>Jbq ρ (Ne.symm hj)) ops.size;rw[e1,h1,qO,if_pos (by omega)] at vu;omega
    obtain⟨v,hy,hv⟩:=DG x w hg fun i hi H9=>hx i hi (tp i hi H9)
    have xH:(aP ops)[e]? =ζ oe.dst:=by
     unfold aP;rw[Ψ,Array.getElem?_toList,Ka];rfl
    have mh:(aC x (aP ops) 0 a0).put oe.dst v=aC (mz x e v) (aP ops) 0 a0:=
     j3 x e v (aP ops) 0 a0 oe.dst (Jas _) (by simpa using xH) (fun j e2 hj cu t ht he=>by
      rw[Nat.sub_zero] at cu;rw[ht] at xH;rw[he] at hj;exact cu (iQ hd hj xH))
    have he:=kE (mz x e v) w hg fun i hi=>by
     by_cases H9:i=e
     ·subst H9;simpa [mz] using hv
     ·rw[show mz x e v i=x i from if_neg H9];exact hx i hi (tp i hi H9)
    rw[show ops.size - n=fuel by omega,←mh,←e1] at he;refine jk _ _ _ _ (wZ e oe.dst Ka rfl ss ?_ ?_ hQ ⟨v,hy,he⟩)
    ·rw[e3];exact za
    ·rw[e3];exact Zk
   obtain⟨i0,FG,CM⟩:=qm au hs cN
   refine⟨fun h0=>(by rw[h0] at CM;cases CM),fun i hi=>?_⟩
   obtain⟨h1,o,ho,aK⟩:=mem_ready.1 hi;have zI:i<ops.size:=(Jaa.1 ho).1;have Fe:i<au.size:=by omega
   have lh:i<n:=by
    rcases JaM i n with h|h
    ·exact h
    ·exfalso;refine tp fun j hj EF=>?_
     have h2:=ES ht h ho j hj EF;unfold fx at h2;obtain⟨e,he,rfl⟩:=Α.1 h2;obtain⟨LL,Mu⟩:=JaC.1 he;exact aK e (by simpa using LL) Mu
   have xH:(aP ops)[i]? =ζ o.dst:=by
    unfold aP;rw[Ψ,Array.getElem?_toList,ho];rfl
   have mh:∀v,(aC x (aP ops) 0 a0).put o.dst v=aC (mz x i v) (aP ops) 0 a0:=fun v=>
    j3 x i v (aP ops) 0 a0 o.dst (Jas _) (by simpa using xH) (fun j e hj cu t ht he=>by
     rw[Nat.sub_zero] at cu;rw[ht] at xH;rw[he] at hj;exact cu (iQ hd hj xH))
   have rl:∀v w',Ext w w'→Γ i v w'→wpAny P md ops Q fuel (au.setIfInBounds i τ) (aC (mz x i v) (aP ops) 0 a0) w':=fun v w' hw hv=>by
    refine ih _ _ _ (by simpa using hs) (fun k h1 h2=>?_) ?_ (hG _ _ hg hw) fun j Px hj=>?_
    ·rw[Jbq ρ (by omega)];exact hk k h1 h2
    ·have vu:=j4 (fun j=>au.getD j ρ) (fun j=>(au.setIfInBounds i τ).getD j ρ) i (by simp[JaD,Fe] at h1 ⊢;exact h1) (by simp[JaD,Fe]) (fun j hj=>Jbq ρ (Ne.symm hj)) ops.size;rw[vu,if_pos zI];omega
    ·by_cases e:j=i
     ·subst e;simpa [mz] using hv
     ·rw[Jbq ρ (Ne.symm e)] at hj;rw[show mz x i v j=x j from if_neg e];exact hΓ _ _ _ _ (hx j Px hj) hw
   have iN:=qf i lh o ho x w hg (fun j hj=>by
    have rD:j<i:=by
     have h2:=Φ.1 (show(Ω ops.size).all _=τ from hr) i (by simp[zI]);rw[ho] at h2;simpa using Φ.1 h2 j hj
    unfold fx at hj;obtain⟨e,he,rfl⟩:=Α.1 hj;obtain⟨LL,Mu⟩:=JaC.1 he;exact hx _ (by omega) (aK e (by simpa using LL) Mu))
   unfold wpOp;simp only[ho];rcases iN with⟨hw,Bd⟩|⟨hw,hu⟩
   ·simp only[hw,if_true];exact .inl (Bd.wp fun v w' lj hv=>by rw[mh];exact rl v w' lj hv)
   ·simp only[hw,Bool.false_eq_true,if_false];rw[mh];exact rl undef w (Ext.refl w) hu
theorem mP (n e:Nat) (S:Nat→Prop) {id:Nat} {a0:Act} {w:ο} {oe:Oper} (Γ:Nat→ψ→ο→Prop) (G:ο→Prop) (hm:P.follows .mixedOrders=τ)
 (hd:iy ops=τ) (hr:qH .any ops=τ) (hn:decide (n≤ops.size)=τ) (ht:NS .any ops n e=τ) (ZB:decide (e<n)=τ) (Ka:ops[e]? =ζ oe) (ss:JbJ ops=τ)
 (za:JbP .any ops ((lI n ops.size).setIfInBounds e ρ) e=τ) (Zk:(Jaq .any ops ((lI n ops.size).setIfInBounds e ρ)).contains e=τ)
 (hQ:∀v c a w,Q (.panic c) (a.put oe.dst v) w→Q (.panic c) a w)
 (hΓ:∀i v w w',Γ i v w→Ext w w'→Γ i v w') (hG:∀w w',G w→Ext w w'→G w') (hg:G w.drew)
 (qf:∀i,i<n→sI P .any ops Γ G a0 i)
 (DG:∀x w,G w→(∀i,i<n→i≠e→Γ i (x i) w)→∃v,du P ops S oe v (aC x (aP ops) 0 a0) w∧Γ e v w)
 (kE:∀x w,G w→(∀i,i<n→Γ i (x i) w)→nW P .any ops S Q (ops.size - n) (lI n ops.size) (aC x (aP ops) 0 a0) w):(Code.region id ops τ).wp P Q a0 w:=by
 obtain⟨x,hx⟩:=mx (aP ops) 0 a0
 have hz:∀k,(Jbe ops.size ρ).getD k ρ=ρ:=fun k=>by
  by_cases h:k<ops.size<;>simp[JaD,h]
 have h:=KJ (P:=P) (Q:=Q) (md:=.any) n e S Γ G a0 hΓ hG hd hr (of_decide_eq_true hn) ht (of_decide_eq_true ZB) Ka ss za Zk hQ qf DG kE ops.size (Jbe ops.size ρ) x w.drew (by simp) (fun k _ _=>hz k) (by
  have:(Ω ops.size).countP (fun j=>(Jbe ops.size ρ).getD j ρ)=0:=by
   rw[List.countP_eq_zero];intro j hj;rw[hz j];simp
  omega) hg (fun i _ hi=>by rw[hz i] at hi;cases hi)
 rw[hx] at h;exact wp_region_any hm h
end
def KV (vs:List (Option ψ)) (ai B:Nat) (T:Υ) (cs:List ψ) (i:Nat) (v:ψ) (W:ο):Prop:=
 if i=ai then ∃g,v=.pointer (ζ ⟨g,0,ε⟩)∧B≤g∧Whole W g T cs else match vs[i]? with
  |some (ζ u)=>v=u
  |_=>True
theorem Bt {vs:List (Option ψ)} {ai B:Nat} {T:Υ} {cs:List ψ} (i:Nat) (v:ψ) (W W':ο) (h:KV vs ai B T cs i v W) (hx:Ext W W'):KV vs ai B T cs i v W':=by
 unfold KV at h ⊢;split at h
 ·rename_i e;rw[if_pos e];obtain⟨g,h1,h2,h3⟩:=h;exact⟨g,h1,h2,h3.bl hx⟩
 ·rename_i e;rw[if_neg e];exact h
section
attribute [local go_sem] Oper.semAt_some
def wfS (d:D):Prop:=TB d∧0≤d.2.2∧d.2.2≤1
abbrev D2:={d:D // wfS d}
def BJ (d:D):D:=(d.1,d.2.1,1 - d.2.2)
theorem wfS.oth {d:D} (h:wfS d):wfS (BJ d):=by
 obtain⟨⟨h1,h2,h3⟩,h4,h5⟩:=h
 refine⟨⟨h1,h2,?_⟩,by show 0≤1 - d.2.2;omega,by show 1 - d.2.2≤1;omega⟩
 show(Lit.int .i64 (1 - d.2.2)).wf=τ
 have e0:(1:Int) - d.2.2=0∨(1:Int) - d.2.2=1:=by omega
 rcases e0 with e0|e0<;>rw[e0]<;>decide
end
section
attribute [local go_sem] Oper.semAt_some
theorem ql {w:ο} {lo lo':Nat} {e:Υ} {k n:Nat} {v:ψ} {xs:List ψ} (h:w.ownsRow lo e k v n xs) (hb:lo'≤lo):w.ownsRow lo' e k v n xs:=by
 refine⟨h.1,?_⟩
 rcases h.2 with q|⟨g,cap,cur,q1,q2,q3⟩
 ·exact .inl q
 ·exact .inr ⟨g,cap,cur,q1,by omega,q3⟩
end
def LF (g:D→Option D) (S:List D):Prop:=S.Nodup∧(∀d∈S,TB d)∧∀x,TB x→(x∈S↔(g x).isSome=τ)
def rgV (v:VC) (L:List D):VC:=(v.1,(ε,L.length,0,L),v.2.2)
def remV (x:D) (v:VC):VC:=rgV v (aS (rW v.2.1.2.2.2 x))
theorem DM (A B:List VC):aH (A++B)=aH A++aH B:=List.flatMap_append ..
theorem DB (v:VC) (B:List VC):aH (v::B)=v.2.1.2.2.2++aH B:=List.flatMap_cons ..
theorem EX {Vs:List VC} (h:(aH Vs).Nodup) {v:VC} (hv:v∈Vs):v.2.1.2.2.2.Nodup:=by
 obtain⟨a,b,rfl⟩:=List.append_of_mem hv;rw[DM,DB] at h;exact(JaL.1 (JaL.1 h).2.1).1
def xX (L:List Int) (e:Nat × Nat):List Int:=(L.set e.1 (min (L.getD e.1 0) (L.getD e.2 0))).set e.2 (min (L.getD e.1 0) (L.getD e.2 0))
def ek (P:List (Nat × Nat)) (n:Nat):Nat→List Int
 |0=>zb n
 |j+1=>P.foldl xX (ek P n j)
theorem I9 (L:List Int) (e:Nat × Nat):(xX L e).length=L.length:=by simp[xX]
theorem xF:∀(P:List (Nat × Nat)) (L:List Int),(P.foldl xX L).length=L.length
 |[],_=>rfl
 |e::P,L=>by rw[List.foldl_cons,xF P,I9]
theorem ob (P:List (Nat × Nat)) (n:Nat):∀j,(ek P n j).length=n
 |0=>by simp[ek,zb]
 |j+1=>by rw[ek,xF,ob P n j]
theorem Cr (L:List Int) (i k:Nat) (v:Int) (hi:i<L.length):(L.set i v).getD k 0=if i=k then v else L.getD k 0:=by
 rw[χ,List.getElem?_set,χ]
 by_cases h:i=k
 ·subst h;simp[hi]
 ·simp[h]
theorem Bf {L:List Int} {a b:Nat} (ha:a<L.length) (hb:b<L.length) (k:Nat):(xX L (a,b)).getD k 0=if k=a∨k=b then min (L.getD a 0) (L.getD b 0) else L.getD k 0:=by
 unfold xX;rw[Cr _ _ _ _ (by simpa using hb),Cr _ _ _ _ ha]
 by_cases h1:b=k
 ·rw[if_pos h1,if_pos (.inr h1.symm)]
 ·rw[if_neg h1]
  by_cases h2:a=k
  ·rw[if_pos h2,if_pos (.inl h2.symm)]
  ·rw[if_neg h2,if_neg (fun h=>h.elim (fun h=>h2 h.symm) (fun h=>h1 h.symm))]
def Down (n:Nat) (M L L':List Int):Prop:=L'.length=n∧∀i,i<n→M.getD i 0≤L'.getD i 0∧L'.getD i 0≤L.getD i 0
theorem D5 {n:Nat} {M L:List Int} {a b:Nat} (hl:L.length=n) (hM:∀i,i<n→M.getD i 0≤L.getD i 0) (ha:a<n) (hb:b<n) (he:M.getD a 0=M.getD b 0):Down n M L (xX L (a,b)):=by
 refine⟨by rw[I9,hl],fun i hi=>?_⟩
 rw[Bf (by omega) (by omega)];have h1:=hM a ha;have h2:=hM b hb;have h3:=hM i hi;split
 ·rename_i h;rcases h with rfl|rfl<;>omega
 ·omega
theorem qA {n:Nat} {M:List Int}:∀(P:List (Nat × Nat)) (L:List Int),L.length=n→(∀i,i<n→M.getD i 0≤L.getD i 0)→(∀e∈P,e.1<n∧e.2<n∧M.getD e.1 0=M.getD e.2 0)→Down n M L (P.foldl xX L)
 |[],L,hl,hM,_=>⟨hl,fun i hi=>⟨hM i hi,Int.le_refl _⟩⟩
 |(a,b)::P,L,hl,hM,hP=>by
  obtain⟨h1,h2,h3⟩:=hP (a,b) (Jai ..);have hd:=D5 hl hM h1 h2 h3;obtain⟨g1,g2⟩:=qA P (xX L (a,b)) hd.1 (fun i hi=>(hd.2 i hi).1) (fun e he=>hP e (Jad _ he));exact⟨g1,fun i hi=>⟨(g2 i hi).1,Int.le_trans (g2 i hi).2 (hd.2 i hi).2⟩⟩
theorem zo {n:Nat} {M:List Int} {a b:Nat}:∀(P:List (Nat × Nat)) (L:List Int),L.length=n→(∀i,i<n→M.getD i 0≤L.getD i 0)→(∀e∈P,e.1<n∧e.2<n∧M.getD e.1 0=M.getD e.2 0)→(a,b)∈P→
 (L.getD a 0=M.getD a 0∨L.getD b 0=M.getD b 0)→(P.foldl xX L).getD a 0=M.getD a 0∧(P.foldl xX L).getD b 0=M.getD b 0
 |(c,d)::P,L,hl,hM,hP,hm,ho=>by
  obtain⟨h1,h2,h3⟩:=hP (c,d) (Jai ..);obtain⟨k1,k2,k3⟩:=hP (a,b) hm;simp only at k1 k2 k3 h1 h2 h3;have hd:=D5 hl hM h1 h2 h3;have hPr:=fun e he=>hP e (Jad (c,d) he)
  rw[List.foldl_cons]
  by_cases e:(a,b)=(c,d)
  ·injection e with e1 e2
   subst e1 e2;have S7:=qA P (xX L (a,b)) hd.1 (fun i hi=>(hd.2 i hi).1) hPr;have ga:=Bf (L:=L) (a:=a) (b:=b) (by omega) (by omega) a;have gb:=Bf (L:=L) (a:=a) (b:=b) (by omega) (by omega) b;rw[if_pos (.inl rfl)] at ga;rw[if_pos (.inr rfl)] at gb;have ma:=hM a k1;have mb:=hM b k2;obtain⟨q1,q2⟩:=S7.2 a k1;obtain⟨q3,q4⟩:=S7.2 b k2;rw[ga] at q2;rw[gb] at q4;have ajw:min (L.getD a 0) (L.getD b 0)=M.getD a 0:=by rcases ho with h|h<;>omega
   constructor<;>omega
  ·have Sx:(a,b)∈P:=(Η.1 hm).resolve_left e;refine zo P (xX L (c,d)) hd.1 (fun i hi=>(hd.2 i hi).1) hPr Sx ?_;rcases ho with h|h
   ·have:=hd.2 a k1;exact .inl (by omega)
   ·have:=hd.2 b k2;exact .inr (by omega)
def hasB (M L:List Int) (i:Nat):Bool:=L.getD i 0==M.getD i 0
theorem F4 {n:Nat} {P:List (Nat × Nat)} {M:List Int} (h:AH n (fun i k=>(i,k)∈P) M) (hP:∀e∈P,e.1<n∧e.2<n):ek P n n=M:=by
 have hP3:∀e∈P,e.1<n∧e.2<n∧M.getD e.1 0=M.getD e.2 0:=fun e he=>⟨(hP e he).1,(hP e he).2,h.co e.1 e.2 (hP e he).1 (hP e he).2 he⟩
 have iN:∀i,i<n→0≤M.getD i 0∧M.getD i 0≤i∧M.getD (M.getD i 0).toNat 0=M.getD i 0:=fun i hi=>h.ok i (by rw[h.len];exact hi)
 have Sg:∀j,∀i,i<n→M.getD i 0≤(ek P n j).getD i 0∧(ek P n j).getD i 0≤i:=fun j=>by
  induction j with
  |zero=>
   intro i hi;show M.getD i 0≤(zb n).getD i 0∧(zb n).getD i 0≤i;rw[wQ n i hi];exact⟨(iN i hi).2.1,Int.le_refl _⟩
  |succ j ih=>
   intro i hi;have hd:=qA P (ek P n j) (ob P n j) (fun i hi=>(ih i hi).1) hP3;exact⟨(hd.2 i hi).1,Int.le_trans (hd.2 i hi).2 (ih i hi).2⟩
 have kK:∀j i,i<n→hasB M (ek P n j) i=τ→hasB M (ek P n (j+1)) i=τ:=fun j i hi hb=>by
  have hd:=qA P (ek P n j) (ob P n j) (fun i hi=>(Sg j i hi).1) hP3;have h1:=hd.2 i hi;have h2:(ek P n j).getD i 0=M.getD i 0:=eq_of_beq hb
  have h3:(ek P n (j+1)).getD i 0=M.getD i 0:=by
   show(P.foldl xX (ek P n j)).getD i 0=_
   omega
  rw[hasB,h3];simp
 have cN:∀j,(∀i,i<n→hasB M (ek P n (j+1)) i=hasB M (ek P n j) i)→∀i,i<n→hasB M (ek P n j) i=τ:=fun j hs i hi=>by
  have hco:Co n (fun i k=>(i,k)∈P) (fun i=>if hasB M (ek P n j) i=τ then 1 else 0):=fun a b ha hb hm=>by
   have RW:=zo P (ek P n j) (ob P n j) (fun i hi=>(Sg j i hi).1) hP3 hm
   have key:∀{x y:Nat},x<n→y<n→((ek P n j).getD x 0=M.getD x 0→(ek P n (j+1)).getD y 0=M.getD y 0)→hasB M (ek P n j) x=τ→hasB M (ek P n j) y=τ:=fun {x y} hx hy himp hb=>by
    rw[←hs y hy,hasB,himp (eq_of_beq hb)];simp
   have k1:=key ha hb (fun e=>(RW (.inl e)).2);have k2:=key hb ha (fun e=>(RW (.inr e)).1);simp only
   by_cases q:hasB M (ek P n j) a=τ
   ·rw[if_pos q,if_pos (k1 q)]
   ·rw[if_neg q,if_neg (fun h=>q (k2 h))]
  obtain⟨h0,h1,h2⟩:=iN i hi;obtain⟨r,hr⟩:∃r:Nat,M.getD i 0=(r:Int):=⟨(M.getD i 0).toNat,by omega⟩
  rw[hr,Int.toNat_natCast] at h2;have sK:r<n:=by omega
  have Yi:hasB M (ek P n j) r=τ:=by
   have h3:=Sg j r sK;rw[h2] at h3;rw[hasB,h2,beq_iff_eq];omega
  have e:=h.fin _ hco r i sK hi (by rw[h2,hr]);replace e:(if hasB M (ek P n j) r=τ then(1:Int) else 0)=(if hasB M (ek P n j) i=τ then 1 else 0):=e;rw[if_pos Yi] at e
  by_cases q:hasB M (ek P n j) i=τ
  ·exact q
  ·rw[if_neg q] at e;omega
 have Xq:∀j,(∀i,i<n→hasB M (ek P n j) i=τ)∨j≤(Ω n).countP (hasB M (ek P n j)):=fun j=>by
  induction j with
  |zero=>exact .inr (Jas _)
  |succ j ih=>
   rcases ih with ih|ih
   ·exact .inl fun i hi=>kK j i hi (ih i hi)
   ·by_cases hs:∀i,i<n→hasB M (ek P n (j+1)) i=hasB M (ek P n j) i
    ·exact .inl fun i hi=>kK j i hi (cN j hs i hi)
    ·refine .inr ?_
     have hex:∃i,i<n∧hasB M (ek P n (j+1)) i=τ∧hasB M (ek P n j) i=ρ:=by
      refine Classical.byContradiction fun yE=>hs fun i hi=>?_
      cases q1:hasB M (ek P n j) i with
      |true=>exact kK j i hi q1
      |false=>
       cases q2:hasB M (ek P n (j+1)) i with
       |false=>rfl
       |true=>exact absurd ⟨i,hi,q2,q1⟩ yE
     obtain⟨i0,FG,q1,q2⟩:=hex
     have h1:(Ω n).countP (hasB M (ek P n j))≤(Ω n).countP (fun i=>hasB M (ek P n (j+1)) i && decide (i≠i0)):=by
      refine List.countP_mono_left fun i hi hb=>?_
      have hi:=List.mem_range.1 hi;rw[kK j i hi hb,Bool.true_and,decide_eq_true_eq];rintro rfl;rw[hb] at q2;cases q2
     have h2:=j4 (fun i=>hasB M (ek P n (j+1)) i && decide (i≠i0)) (hasB M (ek P n (j+1))) i0 (by simp) q1 (fun i hi=>by simp[hi]) n;rw[if_pos FG] at h2;omega
 have kC:∀i,i<n→hasB M (ek P n n) i=τ:=by
  rcases Xq n with h1|h1
  ·exact h1
  ·intro i hi;have h2:(Ω n).countP (hasB M (ek P n n))=(Ω n).length:=Nat.le_antisymm List.countP_le_length (by rw[List.length_range];exact h1);exact(List.countP_eq_length.1 h2) i (List.mem_range.2 hi)
 refine List.ext_getElem (by rw[ob,h.len]) fun i h1 h2=>?_
 have hi:i<n:=by rw[ob] at h1;exact h1
 have e:(ek P n n).getD i 0=M.getD i 0:=eq_of_beq (kC i hi);rw[χ,χ,θ h1,θ h2] at e;exact e
def JA (Vs:List VC) (d:D):Nat:=(gh 0 Vs (kj Vs d).1).toNat
def vj (Vs:List VC) (Es:List EC):List (Nat × Nat):=Es.map fun e=>(JA Vs (e.1.1,e.1.2,0),JA Vs (e.1.1,e.1.2,1))
section
variable {Vs:List VC} {Es:List EC}
theorem bc.stands (h:bc Vs Es) {i:Nat} {v:VC} (hv:Vs[i]? =ζ v) {d:D} (hd:d∈v.2.1.2.2.2):kj Vs d=(v.1,τ)∧gh 0 Vs v.1=(i:Int):=by
 refine⟨h.at (ω hv) hd,?_⟩
 have:=D6 Vs 0 i v (rM h.rv) hv
 simpa using this
theorem bc.plc (h:bc Vs Es) {i:Nat} {v:VC} (hv:Vs[i]? =ζ v) {d:D} (hd:d∈v.2.1.2.2.2):JA Vs d=i:=by
 obtain⟨h1,h2⟩:=h.stands hv hd;rw[JA,h1,h2];simp
theorem bc.dart (h:bc Vs Es) {e:EC} (he:e∈Es) (s:Int) (hs:s=0∨s=1):∃i v,Vs[i]? =ζ v∧(e.1.1,e.1.2,s)∈v.2.1.2.2.2∧i<Vs.length:=by
 have h1:(e.1.1,e.1.2,s)∈aH Vs:=h.pm.mem_iff.2 ((qE Es [] _).2 (.inr ⟨e,he,by rcases hs with rfl|rfl;exact .inl rfl;exact .inr rfl⟩));obtain⟨v,hv,hr⟩:=Jat.1 h1;obtain⟨i,hi⟩:=List.getElem?_of_mem hv;exact⟨i,v,hi,hr,(ν.1 hi).1⟩
theorem bc.of_dart (h:bc Vs Es) {v:VC} (hv:v∈Vs) {d:D} (hd:d∈v.2.1.2.2.2):∃e∈Es,e.1=(d.1,d.2.1)∧(d.2.2=0∨d.2.2=1):=by
 have h1:=h.pm.mem_iff.1 (Jat.2 ⟨v,hv,hd⟩);rcases (qE Es [] d).1 h1 with h2|⟨e,he,h2|h2⟩
 ·cases h2
 ·exact⟨e,he,by rw[h2],.inl (by rw[h2])⟩
 ·exact⟨e,he,by rw[h2],.inr (by rw[h2])⟩
theorem Hi (h:bc Vs Es):∀e∈vj Vs Es,e.1<Vs.length∧e.2<Vs.length:=fun p hp=>by
 obtain⟨e,he,rfl⟩:=Α.1 hp;obtain⟨i,v,hv,hd,hi⟩:=h.dart he 0 (.inl rfl);obtain⟨k,u,hu,ze,hk⟩:=h.dart he 1 (.inr rfl);rw[h.plc hv hd,h.plc hu ze];exact⟨hi,hk⟩
theorem PT (h:bc Vs Es) (f:Nat→Int):Co Vs.length (Sh Vs) f↔Co Vs.length (fun i k=>(i,k)∈vj Vs Es) f:=by
 constructor
 ·rintro hf i k hi hk hm;obtain⟨e,he,hp⟩:=Α.1 hm;obtain⟨a,v,hv,hd,ha⟩:=h.dart he 0 (.inl rfl);obtain⟨b,u,hu,ze,hb⟩:=h.dart he 1 (.inr rfl);rw[h.plc hv hd,h.plc hu ze] at hp;injection hp with e1 e2
  subst e1 e2;exact hf _ _ ha hb ⟨(e.1.1,e.1.2),⟨v,hv,_,hd,rfl⟩,⟨u,hu,_,ze,rfl⟩⟩
 ·rintro hf i k hi hk ⟨y,⟨v,hv,x,hx,rfl⟩,⟨u,hu,z,hz,ez⟩⟩;obtain⟨e,he,e1,hs⟩:=h.of_dart (ω hv) hx;obtain⟨e',Po,e1',hs'⟩:=h.of_dart (ω hu) hz;have Oj:=h.plc hv hx;have Vx:=h.plc hu hz;obtain⟨x1,x2,x3⟩:=x;obtain⟨z1,z2,z3⟩:=z;simp only[Jba] at ez;obtain⟨rfl,rfl⟩:=ez;simp only at e1 hs hs';have hm:(JA Vs (x1,x2,0),JA Vs (x1,x2,1))∈vj Vs Es:=Α.2 ⟨e,he,by rw[e1]⟩;have hb:=Hi h _ hm;have hfe:=hf _ _ hb.1 hb.2 hm;rcases hs with rfl|rfl<;>rcases hs' with rfl|rfl
  ·rw[Oj] at Vx;rw[Vx]
  ·rw[Oj,Vx] at hfe;exact hfe
  ·rw[Oj,Vx] at hfe;exact hfe.symm
  ·rw[Oj] at Vx;rw[Vx]
theorem KS (h:bc Vs Es):AH Vs.length (fun i k=>(i,k)∈vj Vs Es) (kR Vs):=(xr Vs).of_iff (PT h)
theorem KQ (h:bc Vs Es):ek (vj Vs Es) Vs.length Vs.length=kR Vs:=F4 (KS h) (Hi h)
theorem Vu (Vs:List VC):xU (kR Vs)≤Vs.length:=by
 unfold xU
 have:=List.countP_le_length (p:=rh (kR Vs)) (l:=Ω (kR Vs).length)
 rw[List.length_range,tj] at this;rw[tj];exact this
end
theorem IF {R:List D} (hn:R.Nodup) (f:D→Option D):∀k,k≤R.length→∀y,U2 R k f y=if y∈R.take k then ζ (R.getD ((R.idxOf y+1) % R.length) (0,0,0)) else f y
 |0,_,y=>by simp[U2]
 |k+1,hk,y=>by
  have UJ:k<R.length:=by omega
  have e:R.take (k+1)=R.take k++[R.getD k (0,0,0)]:=by
   rw[List.take_succ_eq_append_getElem UJ,χ,θ UJ];rfl
  have ei:R.idxOf (R.getD k (0,0,0))=k:=by
   rw[χ,θ UJ];exact hn.idxOf_getElem k UJ
  rw[U2]
  show(if y=R.getD k (0,0,0) then ζ (R.getD ((k+1) % R.length) (0,0,0)) else U2 R k f y)=_
  rw[IF hn f k (by omega) y,e]
  by_cases q:y=R.getD k (0,0,0)
  ·rw[if_pos q,if_pos (Jan.2 (.inr (Jao.2 q))),q,ei]
  ·rw[if_neg q]
   by_cases q2:y∈R.take k
   ·rw[if_pos q2,if_pos (Jan.2 (.inl q2))]
   ·rw[if_neg q2,if_neg (fun h=>(Jan.1 h).elim q2 (fun h=>q (Jao.1 h)))]
def Ds (R:List D) (y:D):D:=R.getD ((R.idxOf y+1) % R.length) (0,0,0)
theorem AK:∀(Vs:List VC) (f:D→Option D),(aH Vs).Nodup→(∀y,y∉aH Vs→Ol Vs f y=f y)∧∀v∈Vs,∀y∈v.2.1.2.2.2,Ol Vs f y=ζ (Ds v.2.1.2.2.2 y)
 |[],f,_=>⟨fun _ _=>rfl,by simp⟩
 |v::r,f,hn=>by
  have PC:=hn;rw[jH,JaL] at hn;obtain⟨h1,h2⟩:=AK r (U2 v.2.1.2.2.2 v.2.1.2.2.2.length f) hn.2.1;have hg:=fun y=>IF hn.1 f v.2.1.2.2.2.length (Δ _) y
  rw[List.take_length] at hg;constructor
  ·intro y hy;rw[jH,Jan,not_or] at hy;rw[Ol,h1 y hy.2,hg,if_neg hy.1]
  ·intro u hu y hy;rcases Η.1 hu with rfl|hu
   ·have Zo:y∉aH r:=fun q=>hn.2.2 y hy y q rfl
    rw[Ol,h1 y Zo,hg,if_pos hy];rfl
   ·rw[Ol];exact h2 u hu y hy
section
variable {Vs:List VC} {Es:List EC}
theorem Ba (hn:(aH Vs).Nodup) {v:VC} (hv:v∈Vs) {y:D} (hy:y∈v.2.1.2.2.2):Dl Vs y=ζ (Ds v.2.1.2.2.2 y):=(AK Vs _ hn).2 v hv y hy
theorem wb (hn:(aH Vs).Nodup) {y:D} (hy:y∉aH Vs):Dl Vs y=ε:=(AK Vs _ hn).1 y hy
theorem jF {y:D}:y∈aH Vs↔∃v∈Vs,y∈v.2.1.2.2.2:=Jat
def Ce (Vs:List VC) (y:D):D:=(Dl Vs y).getD (0,0,0)
def o8 (Vs:List VC) (y:D):D:=Ce Vs (BJ y)
theorem AV (hn:(aH Vs).Nodup) {v:VC} (hv:v∈Vs) {y:D} (hy:y∈v.2.1.2.2.2):Ce Vs y=Ds v.2.1.2.2.2 y:=by rw[Ce,Ba hn hv hy];rfl
theorem Ix (hn:(aH Vs).Nodup) (y:D):Dl Vs y=if y∈aH Vs then ζ (Ce Vs y) else ε:=by
 by_cases h:y∈aH Vs
 ·obtain⟨v,hv,hy⟩:=jF.1 h;rw[if_pos h,Ce,Ba hn hv hy];rfl
 ·rw[if_neg h,wb hn h]
theorem xp {R:List D} {y:D} (hy:y∈R):Ds R y∈R:=by
 have hl:=Jbk hy
 have:(R.idxOf y+1) % R.length<R.length:=Nat.mod_lt _ hl
 rw[Ds,χ,θ this];exact List.getElem_mem _
theorem NG {R:List D} (hn:R.Nodup) {x y:D} (hx:x∈R) (hy:y∈R) (e:Ds R x=Ds R y):x=y:=by
 have hl:=Jbk hx;have h1:(R.idxOf x+1) % R.length<R.length:=Nat.mod_lt _ hl;have h2:(R.idxOf y+1) % R.length<R.length:=Nat.mod_lt _ hl;unfold Ds at e;rw[χ,χ,θ h1,θ h2] at e;have e1:(R.idxOf x+1) % R.length=(R.idxOf y+1) % R.length:=(List.getElem_inj hn).1 e;have i1:=List.idxOf_lt_length_of_mem hx;have i2:=List.idxOf_lt_length_of_mem hy
 have e2:R.idxOf x=R.idxOf y:=by
  by_cases q1:R.idxOf x+1=R.length
  ·rw[q1,Nat.mod_self] at e1
   by_cases q2:R.idxOf y+1=R.length
   ·omega
   ·rw[JbE (show R.idxOf y+1<R.length by omega)] at e1;omega
  ·rw[JbE (show R.idxOf x+1<R.length by omega)] at e1
   by_cases q2:R.idxOf y+1=R.length
   ·rw[q2,Nat.mod_self] at e1;omega
   ·rw[JbE (show R.idxOf y+1<R.length by omega)] at e1;omega
 have g1:R[R.idxOf x]'i1=x:=List.getElem_idxOf i1;have g2:R[R.idxOf y]'i2=y:=List.getElem_idxOf i2;rw[←g1,←g2];exact(List.getElem_inj hn).2 e2
theorem Pd (hn:(aH Vs).Nodup):Pm (Ce Vs) (aH Vs):=by
 have key:∀{v:VC},v∈Vs→∀{x:D},x∈v.2.1.2.2.2→∀{u:VC},u∈Vs→x∈u.2.1.2.2.2→u.2.1.2.2.2=v.2.1.2.2.2:=by
  intro v hv x hx u hu uN;have e1:=Ba hn hv hx;clear e1;revert hv hu;generalize Vs=Ws at hn
  induction Ws with
  |nil=>intro h;cases h
  |cons z r ih=>
   intro h1 h2;rw[jH,JaL] at hn;rcases Η.1 h1 with e1|k1
   ·rcases Η.1 h2 with e2|k2
    ·rw[e1,e2]
    ·exact(hn.2.2 x (e1▸hx) x (Jat.2 ⟨u,k2,uN⟩) rfl).elim
   ·rcases Η.1 h2 with e2|k2
    ·exact(hn.2.2 x (e2▸uN) x (Jat.2 ⟨v,k1,hx⟩) rfl).elim
    ·exact ih hn.2.1 k1 k2
 refine⟨hn,fun x hx=>?_,fun x hx y hy e=>?_⟩
 ·obtain⟨v,hv,hx⟩:=jF.1 hx;rw[AV hn hv hx];exact jF.2 ⟨v,hv,xp hx⟩
 ·obtain⟨v,hv,hx⟩:=jF.1 hx;obtain⟨u,hu,hy⟩:=jF.1 hy;rw[AV hn hv hx,AV hn hu hy] at e;have h1:=xp hx;have h2:=xp hy;have e2:=key hv h1 hu (e▸h2);rw[e2] at e hy;exact NG (EX hn hv) hx hy e
theorem Bb (d:D):BJ (BJ d)=d:=by
 obtain⟨a,b,c⟩:=d
 show(a,b,1 - (1 - c))=(a,b,c)
 rw[show(1:Int) - (1 - c)=c by omega]
theorem bc.mem (h:bc Vs Es) (d:D):d∈aH Vs↔∃e∈Es,e.1=(d.1,d.2.1)∧(d.2.2=0∨d.2.2=1):=by
 rw[h.pm.mem_iff,qE];constructor
 ·rintro (q|⟨e,he,rfl|rfl⟩)
  ·cases q
  ·exact⟨e,he,rfl,.inl rfl⟩
  ·exact⟨e,he,rfl,.inr rfl⟩
 ·rintro⟨e,he,e1,q⟩;obtain⟨a,b,c⟩:=d;refine .inr ⟨e,he,?_⟩;simp only at e1 q;rcases q with rfl|rfl
  ·exact .inl (by rw[e1])
  ·exact .inr (by rw[e1])
theorem bc.oth (h:bc Vs Es) {d:D} (hd:d∈aH Vs):BJ d∈aH Vs:=by
 obtain⟨e,he,e1,q⟩:=(h.mem d).1 hd;exact(h.mem _).2 ⟨e,he,e1,by show 1 - d.2.2=0∨1 - d.2.2=1;omega⟩
theorem bc.ohs (h:bc Vs Es) (d:D):BJ d∈aH Vs↔d∈aH Vs:=⟨fun q=>Bb d▸h.oth q,h.oth⟩
theorem bc.phi (h:bc Vs Es):Pm (o8 Vs) (aH Vs):=
 ⟨h.once,fun x hx=>(Pd h.once).cl _ (h.oth hx),fun x hx y hy e=>by
  have:=(Pd h.once).inj _ (h.oth hx) _ (h.oth hy) e
  rw[←Bb x,this,Bb]⟩
theorem bc.wfS (h:bc Vs Es) (hg:tJ Vs Es) {d:D} (hd:d∈aH Vs):wfS d:=by
 obtain⟨v,hv,hr⟩:=jF.1 hd;obtain⟨e,he,e1,q⟩:=(h.mem d).1 hd;exact⟨hg.v v hv d hr,by omega,by omega⟩
theorem bc.l80 (h:bc Vs Es):(aH Vs).length≤80:=by rw[h.len];have:=h.e40;omega
def oU (Vs:List VC) (x:D):List D:=if x∈aH Vs then o5 (o8 Vs) x 80 x else[]
theorem Jz (h:bc Vs Es) (x:D):(oU Vs x).length≤80:=by
 rw[oU]
 by_cases hx:x∈aH Vs
 ·obtain⟨p,hp,bM⟩:=h.phi.per hx
  have:=h.l80
  rw[if_pos hx,xx hp (by omega),Hq];omega
 ·rw[if_neg hx];exact Jas _
theorem LF.formed {S:List D} (h:bc Vs Es) (hg:tJ Vs Es) (k:LF (Dl Vs) S):S.length=(aH Vs).length:=by
 have hm:∀x,x∈S↔x∈aH Vs:=fun x=>by
  constructor
  ·intro hx;have h1:=(k.2.2 x (k.2.1 x hx)).1 hx;rw[Ix h.once] at h1
   by_cases q:x∈aH Vs
   ·exact q
   ·rw[if_neg q] at h1;cases h1
  ·intro hx
   refine(k.2.2 x (h.wfS hg hx).1).2 ?_
   rw[Ix h.once,if_pos hx];rfl
 exact Nat.le_antisymm (Ii k.1 fun x hx=>(hm x).1 hx) (Ii h.once fun x hx=>(hm x).2 hx)
end
def yU (L:List EC):List D:=L.flatMap fun e=>[(e.1.1,e.1.2,0),(e.1.1,e.1.2,1)]
theorem Nj (e:EC) (L:List EC):yU (e::L)=(e.1.1,e.1.2,0)::(e.1.1,e.1.2,1)::yU L:=rfl
theorem Q0 (L M:List EC):yU (L++M)=yU L++yU M:=by simp[yU,List.flatMap_append]
theorem NP (L:List EC) (j:Nat) (x:EC) (h:L[j]? =ζ x):yU (L.take (j+1))=yU (L.take j)++[(x.1.1,x.1.2,0),(x.1.1,x.1.2,1)]:=by
 rw[List.take_add_one,h,Q0];rfl
theorem Iq:∀L:List EC,(yU L).length=2*L.length
 |[]=>rfl
 |e::r=>by
  rw[Nj,JaH,JaH,Iq r,JaH];omega
theorem Qg (L:List EC) (d:D):d∈yU L↔∃e∈L,e.1=(d.1,d.2.1)∧(d.2.2=0∨d.2.2=1):=by
 obtain⟨a,b,c⟩:=d;unfold yU;rw[Jat];constructor
 ·rintro⟨e,he,h⟩
  refine⟨e,he,?_⟩
  simp only[Η,Jba,List.mem_nil_iff,or_false] at h;rcases h with⟨rfl,rfl,rfl⟩|⟨rfl,rfl,rfl⟩
  ·exact⟨rfl,.inl rfl⟩
  ·exact⟨rfl,.inr rfl⟩
 ·rintro⟨e,he,h1,h2⟩
  refine⟨e,he,?_⟩
  simp only[Η,Jba,List.mem_nil_iff,or_false];simp only at h1 h2;rw[h1];rcases h2 with rfl|rfl
  ·exact .inl ⟨rfl,rfl,rfl⟩
  ·exact .inr ⟨rfl,rfl,rfl⟩
theorem bc.ds {Vs:List VC} {Es:List EC} (h:bc Vs Es) (d:D):d∈yU Es↔d∈aH Vs:=by rw[Qg,h.mem]
theorem uj {α:Type} {f g:α→α} {L:List α} (h:Pm f L) (e:∀x∈L,f x=g x) {x:α} (hx:x∈L):∀k,o9 f k x=o9 g k x
 |0=>rfl
 |k+1=>by rw[nY,nY,←uj h e hx k,e _ (h.it hx k)]
theorem DZ {α:Type} {f g:α→α} {L:List α} (h:Pm f L) (e:∀x∈L,f x=g x) {x:α} (hx:x∈L) (y:α):Rl f x y↔Rl g x y:=
 ⟨fun⟨i,q⟩=>⟨i,(uj h e hx i).symm.trans q⟩,fun⟨i,q⟩=>⟨i,(uj h e hx i).trans q⟩⟩
theorem yo.congr {α:Type} {f g:α→α} {L P:List α} (h:Pm f L) (e:∀x∈L,f x=g x) (hP:yo f L P):yo g L P:=
 ⟨hP.nd,hP.sub,fun x hx=>by
  obtain⟨p,hp,r⟩:=hP.all x hx;exact⟨p,hp,(DZ h e (hP.sub p hp) x).1 r⟩,fun p hp q hq r=>hP.one p hp q hq ((DZ h e (hP.sub p hp) q).2 r)⟩
def lA (Vs:List VC):Nat:=(Vs.filter fun v=>decide (v.2.1.2.2.2=[])).length
section
variable {Vs:List VC} {Es:List EC}
theorem bc.ends (h:bc Vs Es) {e:EC} (he:e∈Es):(e.1.1,e.1.2,(0:Int))∈aH Vs∧(e.1.1,e.1.2,(1:Int))∈aH Vs:=
 ⟨(h.mem _).2 ⟨e,he,rfl,.inl rfl⟩,(h.mem _).2 ⟨e,he,rfl,.inr rfl⟩⟩
def vt (Vs:List VC) (Es:List EC):Nat:=(lN (o8 Vs) 80 (yU Es) []).length
theorem JI (h:bc Vs Es):∃P,yo (o8 Vs) (aH Vs) P∧vt Vs Es=P.length:=by
 obtain⟨P,hP,e⟩:=KU h.phi h.l80 (yU Es) h.ds;exact⟨P,hP,by rw[vt,e,List.length_map]⟩
end
section
open Go.RowKit Go.Shelf Go.Lib Go.Sort
def J7 (x:D):List ψ:=[J x.1,J x.2.1,J x.2.2]
end
def dsV (L:List VC):List D:=L.flatMap (·.2.1.2.2.2)
theorem PZ (j:Nat):zb (j+1)=zb j++[(j:Int)]:=by simp[zb,List.range_succ]
theorem KR:(η.info? 3).map (fun i=>(i.zero,i.size,i.bytes))=ζ (ζ (J 0),1,8):=by kernel_rfl
theorem RowsIn.push {P:JaE} {α:Type} {W:ο} {lo:Nat} {UR UE:Υ} {s:Nat} {f:α→List ψ} {A:Option Κ} {n c:Nat} {X:List (Rw α)} (h:RowsIn W lo UR UE s f A n c X) (x:Rw α) (hx:W.ownsRow lo UE s (IM x) x.2.2.length (aj f x.2.2)) (hd:∀y∈X,∀a b,y.1=ζ a→x.1=ζ b→a.block≠b.block)
 (t ty:Υ) (i:TypeInfo) (z:ψ) (ht:P.underlying t=ζ (.slice UR)) (hi:P.info? UR=ζ i) (hz:i.zero=ζ z) (jE:i.size=1) (AZ:i.bytes=24) (Bh:z.cells.size=1)
 (hT:UR≠UE) (hn:n≤1000000) (fV:lo≤W.heap.size) (A1:Option Κ) (c1:Nat) (hr:aX W W.heap.size 1 A1 1 c1 [IM x]):
 ∃A' c' W',(Builtin.append_ #[t,t] ty #[γ A n c,γ A1 1 c1]).run P W=.ok (γ A' (n+1) c') W'∧RowsIn W' lo UR UE s f A' (n+1) c' (X++[x])∧Below lo W W'∧W.grownBy W' (Ο A n c).ownBlock:=by
 obtain⟨a1,rfl⟩:∃a1,A1=ζ a1:=by
  cases A1 with
  |none=>have:=(hr.none_ rfl).1;omega
  |some a1=>exact⟨a1,rfl⟩
 obtain⟨v',W2,cj,fM,hg,PC,hb⟩:=run_append_own_at (P:=P) W lo t ty UR i z 1 24 ht hi hz jE AZ Bh (by decide) _ n _ h.row a1 1 c1 _ hr.len (hr.cell a1 rfl) (by simp[IM,Value.oneCell']) (by unfold maxLen;omega) (by omega) fV;have hk:∀k,(Ο A n c).ownBlock=ζ k→lo≤k:=fun k hk=>(h.row.lt k hk).1
 obtain⟨A',c',rfl,_⟩:=aX.of_own fM;have e:aj rwC X++[IM x]=aj rwC (X++[x]):=by rw[bV];rfl
 rw[e] at fM
 have keep:∀y:Rw α,W.ownsRow lo UE s (IM y) y.2.2.length (aj f y.2.2)→W2.ownsRow lo UE s (IM y) y.2.2.length (aj f y.2.2):=fun y hy=>hy.kept hg (by
  cases hv:(IM y).ownBlock with
  |none=>exact .inl rfl
  |some g=>exact .inr fun q=>tO h.row hy hT q.symm hv)
 refine⟨A',c',W2,cj,⟨fM,by simp[h.len],fun y hy=>?_,fun i j u v a b Jh hu hv hua sY=>?_⟩,(Below.refl lo W).grown hg fV hk,hg⟩
 ·rcases Jan.1 hy with hy|hy
  ·exact keep y (h.one y hy)
  ·obtain rfl:=Jao.1 hy;exact keep y hx
 ·have get:∀(i:Nat) (u:Rw α),(X++[x])[i]? =ζ u→X[i]? =ζ u∨(i=X.length∧u=x):=fun i u hu=>by
   by_cases hi:i<X.length
   ·rw[Jab hi] at hu;exact .inl hu
   ·rw[Jal (by omega)] at hu;have h1:=(ν.1 hu).1;simp at h1;have e0:i - X.length=0:=by omega
    rw[e0] at hu;exact .inr ⟨by omega,by simpa using hu.symm⟩
  rcases get i u hu with hu'|⟨ei,eu⟩
  ·rcases get j v hv with hv'|⟨ej,ev⟩
   ·exact h.ne i j u v a b Jh hu' hv' hua sY
   ·exact hd u (ω hu') a b hua (by rw[←ev];exact sY)
  ·rcases get j v hv with hv'|⟨ej,ev⟩
   ·exact fun q=>hd v (ω hv') b a sY (by rw[←eu];exact hua) q.symm
   ·omega
theorem RV (L:List D):aj J7 L=aA L:=by
 induction L with
 |nil=>rfl
 |cons x L ih=>
  show J7 x++aj J7 L=_;rw[ih];rfl
theorem MY {W W':ο} {lo k n:Nat} {e:Υ} {v:ψ} {xs:List ψ} (h:W.ownsRow lo e k v n xs) (hb:∀g,v.ownBlock=ζ g→W'.heap[g]? =W.heap[g]?):W'.ownsRow lo e k v n xs:=by
 refine⟨h.1,?_⟩
 rcases h.2 with q|⟨g,cap,cur,q1,q2,q3,q4⟩
 ·exact .inl q
 ·exact .inr ⟨g,cap,cur,q1,q2,(hb g (by rw[q1];rfl)).trans q3,q4⟩
theorem RowsIn.at_ {α:Type} {W W':ο} {lo:Nat} {UR UE:Υ} {s:Nat} {f:α→List ψ} {A:Option Κ} {n c:Nat} {X:List (Rw α)} (h:RowsIn W lo UR UE s f A n c X)
 (hb:∀g cs t fr,lo≤g→W.heap[g]? =ζ (.cells cs t fr)→(t=UR∨t=UE)→W'.heap[g]? =W.heap[g]?):RowsIn W' lo UR UE s f A n c X:=by
 refine⟨MY h.row fun g hg=>?_,h.len,fun x hx=>MY (h.one x hx) fun g hg=>?_,h.ne⟩
 ·rcases h.row.2 with⟨q,_⟩|⟨g',cap,cur,q1,q2,q3,q4⟩
  ·rw[q] at hg;cases hg
  ·rw[q1] at hg;obtain rfl:g'=g:=Μ hg;exact hb g' cur UR (0,0) q2 q3 (.inl rfl)
 ·rcases (h.one x hx).2 with⟨q,_⟩|⟨g',cap,cur,q1,q2,q3,q4⟩
  ·rw[q] at hg;cases hg
  ·rw[q1] at hg;obtain rfl:g'=g:=Μ hg;exact hb g' cur UE (0,0) q2 q3 (.inr rfl)
section
attribute [local go_sem] Oper.semAt_some
theorem Kept.gr {S:Nat→Prop} {V W W':ο} {r:Option Nat} (h:Kept S V W) (hg:W.grownBy W' r) (hr:∀k,r=ζ k→S k):Kept S V W':=
 h.trans ⟨hg.os,hg.tape,hg.output,hg.size,fun i hi hn=>hg.block i hi (fun e=>hn (hr i e.symm))⟩
theorem JC:(η.info? 57).map (fun i=>(i.zero,i.size,i.bytes))=ζ (ζ (γ ε 0 0),1,24):=by kernel_rfl
end
section
variable {Vs:List VC} {Es:List EC}
theorem UH (Vs:List VC):dsV Vs=aH Vs:=rfl
end
def OY (L:List D) (d:D) (p:Nat):D:=if d∈L then L.getD ((L.idxOf d+p) % L.length) (0,0,0) else(0,0,0)
def uc (w:ο) (x:D) (ok:Bool) (e:Ending) (w':ο):Prop:=
 e=.returned (.tuple #[.agg #[J x.1,J x.2.1,J x.2.2],Β ok])∧Below w.heap.size w w'
def tT (L:List D) (d:D):D:=OY L d 1
theorem GI (A:Option Κ) (n c:Nat) (L:List D) (d:D) (w:ο) (h:aX w w.heap.size 3 A n c (aA L)) (hn:n≤1000000):
 Calls η 108 #[γ A n c,.agg #[J d.1,J d.2.1,J d.2.2]] w (uc w (tT L d) (decide (d∈L))):=by
 have HI:=qh (fun W h=>gZ A n c L d W h (by omega));have H:=qh h;have hl:=h.dlen
 by_cases hd:d∈L
 ·obtain⟨e1,e2⟩:=ib hd;rw[e1] at HI;obtain⟨k,gk⟩:=ay (L.idxOf d);have hkn:k<n:=by omega
  have hs:tT L d=L.getD ((k+1) % n) (0,0,0):=by rw[tT,OY,if_pos hd,gk,hl]
  rw[gk] at HI e2;obtain⟨b,off,rfl,hb,hc⟩:=h.darts (by omega);have hj:(k+1) % n<n:=Nat.mod_lt _ (by omega);have LD:((k:Int)+1) % (n:Int)=(((k+1) % n:Nat):Int):=by rw[Int.natCast_emod,Int.natCast_add];rfl
  obtain⟨j,gj⟩:=ay ((k+1) % n);rw[gj] at hs hj LD;obtain⟨c1,c2,c3⟩:=hc j (by omega);obtain⟨x,gx⟩:=ay (L.getD j (0,0,0));rw[gx] at hs c1 c2 c3;rw[hs,decide_eq_true hd];have C1:=qh c1;have C2:=qh c2;have C3:=qh c3;clear hs gx gj hc hd gk e1 e2 h hl c1 c2 c3;go_enter Tryz.func108,Tryz.ntmps108
  go_wp2_with (first
   |(go_at_call 33;refine(HI.out _ (by exact H.out.up (cG _ _ _) (by simp<;>omega))).mono ?_;rintro e w2 ⟨rfl,ar⟩
     have HB:=qh (ee ar);have d1:=(HB.out.cell (p:=⟨b,off+j*3,ε⟩) hb).trans C1.out;have d2:=(HB.out.cell (p:=⟨b,off+j*3+1,ε⟩) hb).trans C2.out;have d3:=(HB.out.cell (p:=⟨b,off+j*3+2,ε⟩) hb).trans C3.out;have hz:=(Whole.new_ (w.alloc (.cells #[J d.1,J d.2.1,J d.2.2] 32)) 32 [J 0,J 0,J 0]).below ar;simp only[JbF] at hz;have z0:=hz.cell (i:=0) rfl;have z1:=hz.cell (i:=1) rfl;have z2:=hz.cell (i:=2) rfl;have y0:=hz.free 0;have y1:=hz.free 1;have y2:=hz.free 2;clear ar hz))
  exact bodyPost_ret (v:=.tuple #[.agg #[J x.1,J x.2.1,J x.2.2],Β τ]) (by simp[results,Tryz.results108,go_sem,z0,z1,z2]) rfl ⟨rfl,((HB.out.setCell (by simp) _).setCell (by simp) _).setCell (by simp) _⟩
 ·have hs:tT L d=(0,0,0):=by rw[tT,OY,if_neg hd]
  rw[j8 hd] at HI;rw[hs,decide_eq_false hd];clear hs h hd hl;go_enter Tryz.func108,Tryz.ntmps108
  go_wp2_with (first
   |(go_at_call 33;refine(HI.out _ (by exact H.out.up (cG _ _ _) (by simp<;>omega))).mono ?_;rintro e w2 ⟨rfl,ar⟩
     have HB:=qh (ee ar);have hz:=(Whole.new_ (w.alloc (.cells #[J d.1,J d.2.1,J d.2.2] 32)) 32 [J 0,J 0,J 0]).below ar;simp only[JbF] at hz;have z0:=hz.cell (i:=0) rfl;have z1:=hz.cell (i:=1) rfl;have z2:=hz.cell (i:=2) rfl;have y0:=hz.free 0;have y1:=hz.free 1;have y2:=hz.free 2;clear ar hz))
  exact bodyPost_ret (v:=.tuple #[.agg #[J 0,J 0,J 0],Β ρ]) (by simp[results,Tryz.results108,go_sem,z0,z1,z2]) rfl ⟨rfl,((HB.out.setCell (by simp) _).setCell (by simp) _).setCell (by simp) _⟩
def othW (d:D):D:=(d.1,d.2.1,Jaw.wrap (1 - d.2.2))
theorem QT {d:D} (h:0≤d.2.2∧d.2.2≤1):othW d=BJ d:=by
 unfold othW BJ;rw[IntWalk.i64_in (1 - d.2.2) (by omega)]
theorem NX {d:D} (h1:-9223372036854775808≤d.2.2∧d.2.2≤9223372036854775807) (h:¬(d.2.2=0∨d.2.2=1)):¬((othW d).2.2=0∨(othW d).2.2=1):=by
 show ¬(Jaw.wrap (1 - d.2.2)=0∨Jaw.wrap (1 - d.2.2)=1)
 by_cases q:d.2.2= -9223372036854775808
 ·rw[q];decide
 ·rw[IntWalk.i64_left];unfold wrap64;omega
section
variable {Vs:List VC} {Es:List EC}
theorem bc.othW (h:bc Vs Es) {d:D} (hb:-9223372036854775808≤d.2.2∧d.2.2≤9223372036854775807):(othW d∈aH Vs↔d∈aH Vs)∧(d∈aH Vs→othW d=BJ d):=by
 have hs:∀{x:D},x∈aH Vs→x.2.2=0∨x.2.2=1:=fun hx=>by
  obtain⟨e,_,_,q⟩:=(h.mem _).1 hx;exact q
 by_cases q:d.2.2=0∨d.2.2=1
 ·have e:=QT (d:=d) (by omega);rw[e];exact⟨h.ohs d,fun _=>rfl⟩
 ·exact⟨⟨fun hx=>(NX hb q (hs hx)).elim,fun hx=>(q (hs hx)).elim⟩,fun hx=>(q (hs hx)).elim⟩
theorem LZ (h:bc Vs Es) (x:D):(x∈(bu Vs (kj Vs x).1).1.2.1.2.2.2↔x∈aH Vs)∧tT (bu Vs (kj Vs x).1).1.2.1.2.2.2 x=Ce Vs x∧(kj Vs x).2=decide (x∈aH Vs):=by
 by_cases hx:x∈aH Vs
 ·obtain⟨v,hv,hr⟩:=jF.1 hx;have e1:=h.at hv hr
  have e2:bu Vs v.1=(v,τ):=by
   have hn:=rM h.rv;clear h hx e1 hr
   induction Vs with
   |nil=>cases hv
   |cons u r ih=>
    rw[List.map_cons,List.nodup_cons] at hn;rcases Η.1 hv with rfl|hv
    ·exact wB _ _ _ _ _ rfl
    ·have:¬u.1=v.1:=fun e=>hn.1 (e▸Α.2 ⟨v,hv,rfl⟩)
     exact(BX _ _ _ _ _ this).trans (ih hv hn.2)
  rw[e1]
  show(x∈(bu Vs v.1).1.2.1.2.2.2↔_)∧tT (bu Vs v.1).1.2.1.2.2.2 x=_∧τ=_
  rw[e2,AV h.once hv hr,decide_eq_true hx]
  refine⟨⟨fun _=>hx,fun _=>hr⟩,?_,rfl⟩
  show OY _ _ 1=_;rw[OY,if_pos hr];rfl
 ·have e1:kj Vs x=((0,0),ρ):=by
   unfold kj;rw[List.find?_eq_none.2 (fun v hv q=>hx (jF.2 ⟨v,hv,of_decide_eq_true q⟩))]
  have e2:bu Vs (0,0)=(zV,ρ):=by
   unfold bu Jp
   rw[List.find?_eq_none.2 (fun v hv q=>by
    have h1:=((lg _ _).1 h.rv).1 v.1 (Α.2 ⟨v,hv,rfl⟩);have q1:v.1=(0,0):=of_decide_eq_true q;rw[q1] at h1;revert h1;decide)]
  rw[e1]
  show(x∈(bu Vs (0,0)).1.2.1.2.2.2↔_)∧tT (bu Vs (0,0)).1.2.1.2.2.2 x=_∧ρ=_
  rw[e2,Ce,wb h.once hx,decide_eq_false hx];exact⟨⟨fun q=>(by cases q),fun q=>(hx q).elim⟩,rfl,rfl⟩
end
def Yt:ψ→Nat
 |γ _ n _=>n
 |_=>0
theorem Ow.cell_ {w W:ο} {B size n g:Nat} {e:Υ} {v:ψ} {xs:List ψ} (h:Ow w B e size v n xs W) (cu:ζ g≠v.ownBlock) (hg:w.heap.size≤g) (i:Nat) (u:ψ):Ow w B e size v n xs (W.setCell ⟨g,i,ε⟩ u):=
 ⟨aM h.own cu u,h.below.setCell (p:=⟨g,i,ε⟩) hg u,h.lo,by simpa [World.setCell] using h.hi⟩
theorem Nl {f:D→D} (x:D) (j:Nat):mi f x (j+1)=mi f x j++[o9 f j x]:=by
 unfold mi;rw[List.range_succ,List.map_append];rfl
end Go.Proofs.YtpdpbfmiahjiiaaGreat
