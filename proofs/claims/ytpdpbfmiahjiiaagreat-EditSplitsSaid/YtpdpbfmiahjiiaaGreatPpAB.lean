/- Several texts in one. -/
import Derived.Test.YtpdpbfmiahjiiaaGreatPpAA
import Derived.KernelRfl
import Derived.Test.YtpdpbfmiahjiiaaGreatProg
import Derived.WalkLawsBesides
import Derived.WalkSpells
import Derived.BigQuiet
import Derived.Deep.QuietTactic
import Derived.LoopTactic
import Derived.Outline
import Derived.Laws.RangeAny
import Derived.Laws.RangeString
import Derived.Maps.OwnSet
import Derived.Deep.MidRow
import Derived.Deep.CutBlock
import Derived.DeepKeys4
set_option linter.unusedSectionVars false
set_option linter.unusedSimpArgs false
set_option linter.unusedVariables false
set_option maxRecDepth 100000
set_option maxHeartbeats 16000000
namespace Go.Proofs.YtpdpbfmiahjiiaaGreat
open Go.RowKit
open _root_.Go.Value renaming slice→γ,string→μ,pointer→υ,agg→φ,bool→Β,oneCell'→Τ
open _root_.Go.Obj renaming cells→δ
open _root_.Option renaming none→ε,some→ζ,some→Jae
open _root_.Go.Proofs.Tryz renaming prog→η
open _root_.List renaming getElem?_eq_getElem→θ,getD_eq_getElem?_getD→χ,take_of_length_le→Ι,getElem?_cons_succ→Jag,getElem?_cons_zero→Jah,getElem?_toArray→Jaj,take_succ_eq_append_getElem→JaQ
open _root_.Go renaming World→ο,Value→ψ,Calls→Ζ,Addr→Κ,TypeId→Υ,execOp→JaX,yielded→Jbo
open _root_.Bool renaming false→ρ,true→τ
open _root_.Go.RowKit renaming Below→σ
open _root_.Nat renaming le_refl→Δ,zero_le→Jas,lt_or_ge→JaM
open _root_.Go.RowKit.Below renaming refl→Θ
open _root_.Option.some renaming inj→Μ
open _root_.Go.Addr renaming add_lit→Ν
open _root_.Go.Region renaming ready→Jaq,wanted→Jau,Mode→Jbj,noSelect→JbJ,free→JbP
open _root_.Go.Sem renaming run_bind→Jbl
open _root_.Go.Result renaming andThen→Jbw
open _root_.Go.World renaming setCell→JbB
theorem ak {α:Type} (a b:α) (l:List α):(a::l).set 0 b=b::l:=rfl
theorem ao {α:Type} (a b:α) (l:List α) (n:Nat):(a::l).set (n+1) b=a::l.set n b:=rfl
theorem aq {α:Type} (l:List α) (i:Nat) (a:α):l.toArray.setIfInBounds i a=(l.set i a).toArray:=by simp only[List.setIfInBounds_toArray]
section
variable {P:Program} {md:Region.Mode} {ops:Array Oper} {S:Nat→Prop} {Q:Exit→Act→World→Prop} (i:Nat) {oi:Oper} {d fuel:Nat} {au:Array Bool} {L L':List Value} {df:_} {w:World} {v:Value}
theorem bY (hi:ops[i]? =some oi:=by simp only[List.getElem?_toArray,List.getElem?_cons_succ,List.getElem?_cons_zero];exact rfl) (hd:oi.dst=some d:=by rfl) (hy:du P ops S oi v {tmps:=L.toArray,defers:=df} w)
 (hL:L.set d v=L':=by(try simp only[ak,ao]);(try exact rfl))
 (h:nW P md ops S Q fuel (au.setIfInBounds i true) {tmps:=L'.toArray,defers:=df} w)
 (hs:Region.noSelect ops=true:=by kernel_rfl) (hf:Region.free md ops au i=true:=by kernel_rfl) (hc:(Region.ready md ops au).contains i=true:=by kernel_rfl)
 (hQ:∀v c a w,Q (.panic c) (a.put (some d) v) w→Q (.panic c) a w:=by exact fun _ _ _ _ h=>h):nW P md ops S Q (fuel+1) au {tmps:=L.toArray,defers:=df} w:=by
 subst hL;refine wZ i (some d) hi hd hs hf hc hQ ⟨v,hy,?_⟩;simpa only[Act.put,List.setIfInBounds_toArray] using h
theorem ag (h:nW P md ops S Q fuel (au.setIfInBounds i true) {tmps:=L'.toArray,defers:=df} w)
 (hi:ops[i]? =some oi:=by simp only[List.getElem?_toArray,List.getElem?_cons_succ,List.getElem?_cons_zero];exact rfl) (hw:Region.wanted oi (yielded ops L.toArray)=true:=by rfl)
 (hr:∀w',Kept S w w'→(execOp (Act.eval {tmps:=L.toArray,defers:=df}) oi).run P w'=.ok (.value v) w':=by intro w' aB;go_simp;(try with_reducible rfl))
 (hd:oi.dst=some d:=by rfl) (hL:L.set d v=L':=by(try simp only[ak,ao]);(try exact rfl))
 (hs:Region.noSelect ops=true:=by kernel_rfl) (hf:Region.free md ops au i=true:=by kernel_rfl) (hc:(Region.ready md ops au).contains i=true:=by kernel_rfl)
 (hQ:∀v c a w,Q (.panic c) (a.put (some d) v) w→Q (.panic c) a w:=by exact fun _ _ _ _ h=>h):nW P md ops S Q (fuel+1) au {tmps:=L.toArray,defers:=df} w:=
 bY i hi hd (dG hw hr) hL h hs hf hc hQ
theorem bg (h:nW P md ops S Q fuel (au.setIfInBounds i true) {tmps:=L'.toArray,defers:=df} w)
 (hi:ops[i]? =some oi:=by simp only[List.getElem?_toArray,List.getElem?_cons_succ,List.getElem?_cons_zero];exact rfl) (hw:Region.wanted oi (yielded ops L.toArray)=false:=by rfl)
 (hd:oi.dst=some d:=by rfl) (hL:L.set d undef=L':=by(try simp only[ak,ao]);(try exact rfl))
 (hs:Region.noSelect ops=true:=by kernel_rfl) (hf:Region.free md ops au i=true:=by kernel_rfl) (hc:(Region.ready md ops au).contains i=true:=by kernel_rfl)
 (hQ:∀v c a w,Q (.panic c) (a.put (some d) v) w→Q (.panic c) a w:=by exact fun _ _ _ _ h=>h):nW P md ops S Q (fuel+1) au {tmps:=L.toArray,defers:=df} w:=
 bY i hi hd (Rf hw) hL h hs hf hc hQ
theorem sE {a:Act} {d:Option Tmp} {f:FuncId} {args:Array Value} (h:∀w',Ext w w'→Calls P f args w' fun e cT=>∃v,e=.returned v∧Kept S w' cT∧nW P md ops S Q fuel (au.setIfInBounds i true) (a.put d v) cT)
 (hi:ops[i]? =some oi:=by simp only[List.getElem?_toArray,List.getElem?_cons_succ,List.getElem?_cons_zero];exact rfl) (hd:oi.dst=d:=by first|exact(rfl:_=some _)|exact rfl) (hr:Region.ready md ops au=[i]:=by kernel_rfl) (hw:Region.wanted oi (yielded ops a.tmps)=true:=by rfl)
 (he:∀w',(execOp a.eval oi).run P w'=.ok (.enter f args) w':=by intro w';go_simp;first|done|exact⟨rfl,rfl⟩|with_reducible rfl):nW P md ops S Q (fuel+1) au a w:=Mp i d hi hd hr hw he h
theorem Kd {a:Act} {d:Option Tmp} (h:∀w',Ext w w'→∃v cT,(execOp a.eval oi).run P w'=.ok (.value v) cT∧Kept S w' cT∧nW P md ops S Q fuel (au.setIfInBounds i true) (a.put d v) cT)
 (hi:ops[i]? =some oi:=by simp only[List.getElem?_toArray,List.getElem?_cons_succ,List.getElem?_cons_zero];exact rfl) (hd:oi.dst=d:=by first|exact(rfl:_=some _)|exact rfl) (hr:Region.ready md ops au=[i]:=by kernel_rfl) (hw:Region.wanted oi (yielded ops a.tmps)=true:=by rfl):nW P md ops S Q (fuel+1) au a w:=QU i d hi hd hr hw h
theorem kI {a:Act} (h:∀w',Ext w w'→∃cT,(execOp a.eval oi).run P w'=.ok .skip cT∧Kept S w' cT∧nW P md ops S Q fuel (au.setIfInBounds i true) a cT)
 (hi:ops[i]? =some oi:=by simp only[List.getElem?_toArray,List.getElem?_cons_succ,List.getElem?_cons_zero];exact rfl) (hd:oi.dst=none:=by rfl) (hr:Region.ready md ops au=[i]:=by kernel_rfl) (hw:Region.wanted oi (yielded ops a.tmps)=true:=by rfl):nW P md ops S Q (fuel+1) au a w:=Ky i hi hd hr hw h
variable {ts:List Nat}
theorem fC (hi:ops[i]? =some oi:=by simp only[List.getElem?_toArray,List.getElem?_cons_succ,List.getElem?_cons_zero];exact rfl) (hd:oi.dst=some d:=by rfl) (hy:du P ops S oi v {tmps:=L.toArray,defers:=df} w)
 (hL:L.set d v=L':=by(try simp only[ak,ao]);(try exact rfl))
 (h:tk P md ops S ts Q fuel (au.setIfInBounds i true) {tmps:=L'.toArray,defers:=df} w) (ht:vX md ops ts i=true:=by kernel_rfl)
 (hs:Region.noSelect ops=true:=by kernel_rfl) (hf:Region.free md ops au i=true:=by kernel_rfl) (hc:(Region.ready md ops au).contains i=true:=by kernel_rfl)
 (hQ:∀v c a w,Q (.panic c) (a.put (some d) v) w→Q (.panic c) a w:=by exact fun _ _ _ _ h=>h):tk P md ops S ts Q (fuel+1) au {tmps:=L.toArray,defers:=df} w:=by
 subst hL;refine O8 i (some d) ht hi hd hs hf hc hQ ⟨v,hy,?_⟩;simpa only[Act.put,List.setIfInBounds_toArray] using h
theorem bf (h:tk P md ops S ts Q fuel (au.setIfInBounds i true) {tmps:=L'.toArray,defers:=df} w)
 (hi:ops[i]? =some oi:=by simp only[List.getElem?_toArray,List.getElem?_cons_succ,List.getElem?_cons_zero];exact rfl) (hw:Region.wanted oi (yielded ops L.toArray)=true:=by rfl)
 (hr:∀w',Kept S w w'→(execOp (Act.eval {tmps:=L.toArray,defers:=df}) oi).run P w'=.ok (.value v) w':=by intro w' aB;go_simp;(try with_reducible rfl))
 (hd:oi.dst=some d:=by rfl) (hL:L.set d v=L':=by(try simp only[ak,ao]);(try exact rfl)) (ht:vX md ops ts i=true:=by kernel_rfl)
 (hs:Region.noSelect ops=true:=by kernel_rfl) (hf:Region.free md ops au i=true:=by kernel_rfl) (hc:(Region.ready md ops au).contains i=true:=by kernel_rfl)
 (hQ:∀v c a w,Q (.panic c) (a.put (some d) v) w→Q (.panic c) a w:=by exact fun _ _ _ _ h=>h):tk P md ops S ts Q (fuel+1) au {tmps:=L.toArray,defers:=df} w:=
 fC i hi hd (dG hw hr) hL h ht hs hf hc hQ
theorem kP {a:Act} {d:Option Tmp} {f:FuncId} {args:Array Value} (h:∀w',Ext w w'→Calls P f args w' fun e cT=>∃v,e=.returned v∧Kept S w' cT∧tk P md ops S ts Q fuel (au.setIfInBounds i true) (a.put d v) cT)
 (hi:ops[i]? =some oi:=by simp only[List.getElem?_toArray,List.getElem?_cons_succ,List.getElem?_cons_zero];exact rfl) (hd:oi.dst=d:=by first|exact(rfl:_=some _)|exact rfl) (hr:Region.ready md ops au=[i]:=by kernel_rfl) (hw:Region.wanted oi (yielded ops a.tmps)=true:=by rfl)
 (he:∀w',(execOp a.eval oi).run P w'=.ok (.enter f args) w':=by intro w';go_simp;first|done|exact⟨rfl,rfl⟩|with_reducible rfl):tk P md ops S ts Q (fuel+1) au a w:=Dt i d hi hd hr hw he h
theorem kn {a:Act} {d:Option Tmp} (h:∀w',Ext w w'→∃v cT,(execOp a.eval oi).run P w'=.ok (.value v) cT∧Kept S w' cT∧tk P md ops S ts Q fuel (au.setIfInBounds i true) (a.put d v) cT)
 (hi:ops[i]? =some oi:=by simp only[List.getElem?_toArray,List.getElem?_cons_succ,List.getElem?_cons_zero];exact rfl) (hd:oi.dst=d:=by first|exact(rfl:_=some _)|exact rfl) (hr:Region.ready md ops au=[i]:=by kernel_rfl) (hw:Region.wanted oi (yielded ops a.tmps)=true:=by rfl):tk P md ops S ts Q (fuel+1) au a w:=Rj i d hi hd hr hw h
theorem lK {a:Act} (h:∀w',Ext w w'→∃cT,(execOp a.eval oi).run P w'=.ok .skip cT∧tk P md ops S ts Q fuel (au.setIfInBounds i true) a cT)
 (hi:ops[i]? =some oi:=by simp only[List.getElem?_toArray,List.getElem?_cons_succ,List.getElem?_cons_zero];exact rfl) (hd:oi.dst=none:=by rfl) (hr:Region.ready md ops au=[i]:=by kernel_rfl) (hw:Region.wanted oi (yielded ops a.tmps)=true:=by rfl) (hm:i∈ts:=by decide):tk P md ops S ts Q (fuel+1) au a w:=Mf i hi hd hr hw hm h
end
theorem bj {P:Program} {md:Region.Mode} {ops:Array Oper} {Γ:Nat→Value→World→Prop} {G:World→Prop} {a0:Act} {i:Nat} {oi:Oper} (h:∀(x:Nat→Value) (w:World),G w→(∀j∈fx md oi,Γ j (x j) w)→
 (Region.wanted oi (yielded ops (aC x (aP ops) 0 a0).tmps)=true∧Gm P (Γ i) w ((execOp (aC x (aP ops) 0 a0).eval oi).run P w))∨
 (Region.wanted oi (yielded ops (aC x (aP ops) 0 a0).tmps)=false∧Γ i undef w)) (ho:ops[i]? =some oi:=by simp only[List.getElem?_toArray,List.getElem?_cons_succ,List.getElem?_cons_zero];exact rfl):sI P md ops Γ G a0 i:=fun o h2=>by
 rw[ho] at h2;cases h2;exact h
theorem qh {p:Prop} (h:p):Hid p:=Lib.hid h
theorem ay {α:Sort _} (a:α):∃z,a=z:=⟨_,rfl⟩
theorem dm {w:World} {g i:Nat} {t:TypeId} {cs:List Value} {v:Value} (h:Whole w g t cs) (hv:cs[i]? =some v):∀w',Kept aF w.drew w'→w'.cell? ⟨g,i,none⟩=some v:=fun w' k=>k.nil_cell (h.drew.cell hv)
theorem bW {w:World} {p:Addr} {v:Value} (h:w.cell? p=some v):∀w',Kept aF w.drew w'→w'.cell? p=some v:=fun w' k=>k.nil_cell h
theorem LV (w:World) (t0:TypeId) (c0:List Value):∃W b0,w.alloc (.cells c0.toArray t0)=W∧w.heap.size=b0∧Hid (Whole W b0 t0 c0)∧Hid (Below w.heap.size w W)∧Hid (w.heap.size+1≤W.heap.size)∧Hid (w.heap.size=b0)∧Hid (w.heap.size≤b0):=⟨_,_,rfl,rfl,qh ((Whole.new_ w t0 c0)),qh ((Below.refl w.heap.size w).alloc (Nat.le_refl _) _),qh (by simp),qh rfl,qh (by omega)⟩
theorem E6 (w:World) (t0:TypeId) (c0:List Value) (t1:TypeId) (c1:List Value):∃W b0 b1,(w.alloc (.cells c0.toArray t0)).alloc (.cells c1.toArray t1)=W∧w.heap.size=b0∧w.heap.size+1=b1∧Hid (Whole W b0 t0 c0)∧Hid (Whole W b1 t1 c1)∧Hid (Below w.heap.size w W)∧Hid (w.heap.size+1+1≤W.heap.size)∧Hid (w.heap.size=b0)∧Hid (w.heap.size≤b0)∧Hid (w.heap.size+1=b1)∧Hid (w.heap.size≤b1)∧Hid (b0≠b1):=⟨_,_,_,rfl,rfl,rfl,qh ((Whole.new_ w t0 c0).al _),qh ((Whole.new2 (by simp))),qh (aE ((Below.refl w.heap.size w).alloc (Nat.le_refl _) _) _),qh (by simp),qh rfl,qh (by omega),qh rfl,qh (by omega),qh (by omega)⟩
theorem jN (w:World) (t0:TypeId) (c0:List Value) (t1:TypeId) (c1:List Value) (t2:TypeId) (c2:List Value):∃W b0 b1 b2,((w.alloc (.cells c0.toArray t0)).alloc (.cells c1.toArray t1)).alloc (.cells c2.toArray t2)=W∧w.heap.size=b0∧w.heap.size+1=b1∧w.heap.size+1+1=b2∧Hid (Whole W b0 t0 c0)∧Hid (Whole W b1 t1 c1)∧Hid (Whole W b2 t2 c2)∧Hid (Below w.heap.size w W)∧Hid (w.heap.size+1+1+1≤W.heap.size)∧Hid (w.heap.size=b0)∧Hid (w.heap.size≤b0)∧Hid (w.heap.size+1=b1)∧Hid (w.heap.size≤b1)∧Hid (w.heap.size+1+1=b2)∧Hid (w.heap.size≤b2)∧Hid (b0≠b1)∧Hid (b0≠b2)∧Hid (b1≠b2):=⟨_,_,_,_,rfl,rfl,rfl,rfl,qh (((Whole.new_ w t0 c0).al _).al _),qh ((Whole.new2 (by simp)).al _),qh ((Whole.new2 (by simp))),qh (aE (aE ((Below.refl w.heap.size w).alloc (Nat.le_refl _) _) _) _),qh (by simp),qh rfl,qh (by omega),qh rfl,qh (by omega),qh rfl,qh (by omega),qh (by omega),qh (by omega),qh (by omega)⟩
def Pure (k:FuncId) (args:Array ψ) (v:ψ):Prop:=∀w:ο,Ζ η k args w fun e w'=>e=.returned v∧σ w.heap.size w w'
def iv (n:Int):ψ:=J n
def bQ (s n:Int):Bool:=decide (1≤s∧s≤8∧1≤n∧n≤1048576)
def vO (a b:Int):Int:=if a<b then -1 else if b<a then 1 else 0
def mH (s n s' n':Int):Int:=if s=s' then vO n n' else vO s s'
def KT (s n c:Int):Bool:=bQ s n && (decide (c=0)||decide (c=1))
def mS (s n c s' n' c':Int):Int:=if s=s'∧n=n' then vO c c' else mH s n s' n'
theorem mF {a b:Int} (h:a=b):Ending.returned (J a)=.returned (J b):=by rw[h]
theorem lM {a b:Bool} (h:a=b):Ending.returned (Β a)=.returned (Β b):=by rw[h]
theorem ax (w:ο) (o:Obj):σ w.heap.size w (w.alloc o):=(Θ _ _).alloc (Δ _) o
theorem cG (w:ο) (o o':Obj):σ w.heap.size w ((w.alloc o).alloc o'):=(ax w o).alloc (by simp) o'
theorem E5 (s n:Int) (w:ο):
 Ζ η 137 #[φ #[J s,J n],φ #[J s,J n]] w fun e w'=>e=.returned (J 0)∧σ w.heap.size w w':=by
 go_enter Tryz.func137,Tryz.ntmps137;go_wp2;go_ret;exact⟨rfl,cG _ _ _⟩
theorem yR (s n s' n':Int) (w:ο) (h:s<s'):
 Ζ η 137 #[φ #[J s,J n],φ #[J s',J n']] w fun e w'=>e=.returned (J (-1))∧σ w.heap.size w w':=by
 have h1:(s==s')=ρ:=by simp;omega
 have h2:(s !=s')=τ:=by simp;omega
 go_enter Tryz.func137,Tryz.ntmps137;go_wp2;go_ret;exact⟨rfl,cG _ _ _⟩
theorem zj (s n s' n':Int) (w:ο) (h:s'<s):
 Ζ η 137 #[φ #[J s,J n],φ #[J s',J n']] w fun e w'=>e=.returned (J 1)∧σ w.heap.size w w':=by
 have h1:(s==s')=ρ:=by simp;omega
 have h2:(s !=s')=τ:=by simp;omega
 have h3:¬s<s':=by omega
 go_enter Tryz.func137,Tryz.ntmps137;go_wp2;go_ret;exact⟨rfl,cG _ _ _⟩
theorem Fv (s n n':Int) (w:ο) (h:n<n'):
 Ζ η 137 #[φ #[J s,J n],φ #[J s,J n']] w fun e w'=>e=.returned (J (-1))∧σ w.heap.size w w':=by
 have h1:(n==n')=ρ:=by simp;omega
 go_enter Tryz.func137,Tryz.ntmps137;go_wp2;go_ret;exact⟨rfl,cG _ _ _⟩
theorem Gr (s n n':Int) (w:ο) (h:n'<n):
 Ζ η 137 #[φ #[J s,J n],φ #[J s,J n']] w fun e w'=>e=.returned (J 1)∧σ w.heap.size w w':=by
 have h1:(n==n')=ρ:=by simp;omega
 have h3:¬n<n':=by omega
 go_enter Tryz.func137,Tryz.ntmps137;go_wp2;go_ret;exact⟨rfl,cG _ _ _⟩
theorem tZ (s n s' n':Int):Pure 137 #[φ #[J s,J n],φ #[J s',J n']] (J (mH s n s' n')):=fun w=>by
 unfold mH vO
 by_cases e:s=s'
 ·subst e;rw[if_pos rfl]
  by_cases h1:n<n'
  ·rw[if_pos h1];exact Fv s n n' w h1
  ·rw[if_neg h1]
   by_cases h2:n'<n
   ·rw[if_pos h2];exact Gr s n n' w h2
   ·rw[if_neg h2];obtain rfl:n=n':=by omega
    exact E5 s n w
 ·rw[if_neg e]
  by_cases h1:s<s'
  ·rw[if_pos h1];exact yR s n s' n' w h1
  ·rw[if_neg h1,if_pos (by omega)];exact zj s n s' n' w (by omega)
theorem below_drewN (B:Nat) (w:ο) (n:Nat):σ B w (w.drewN n):=⟨rfl,rfl,rfl,Δ _,fun _ _=>rfl⟩
theorem aT {w w1:ο} {o:Obj} (hb:σ (w.alloc o).heap.size (w.alloc o) w1):σ w.heap.size w w1:=(ax w o).trans (hb.mono (by simp))
theorem ee {w w1:ο} {o o':Obj} (hb:σ ((w.alloc o).alloc o').heap.size ((w.alloc o).alloc o') w1):σ w.heap.size w w1:=(cG w o o').trans (hb.mono (by simp;omega))
theorem eK {W w1:ο} (hb:σ W.heap.size W w1):(∀b o,b<W.heap.size→w1.cell? ⟨b,o,ε⟩=W.cell? ⟨b,o,ε⟩)∧(∀b o,b<W.heap.size→w1.frozen? ⟨b,o,ε⟩=W.frozen? ⟨b,o,ε⟩):=
 ⟨fun _ _ h=>hb.cell h,fun _ _ h=>hb.frozen h⟩
theorem xy (s n c s' n' c':Int) (w:ο) (h:¬(s=s'∧n=n')):
 Ζ η 167 #[φ #[J s,J n,J c],φ #[J s',J n',J c']] w fun e w'=>e=.returned (J (mH s n s' n'))∧σ w.heap.size w w':=by
 have hm:=qh (tZ s n s' n')
 by_cases h0:s=s'
 ·subst h0;have h1:(n==n')=ρ:=by simpa using fun e=>h ⟨rfl,e⟩
  clear h;go_enter Tryz.func167,Tryz.ntmps167;go_wp2_with (first|(go_at_call 137;refine(hm.out _).mono ?_;rintro e w' ⟨rfl,hb⟩;obtain⟨hc,hf⟩:=eK hb))
  go_ret;exact⟨rfl,ee hb⟩
 ·have h1:(s==s')=ρ:=by simpa using h0
  clear h;go_enter Tryz.func167,Tryz.ntmps167;go_wp2_with (first|(go_at_call 137;refine(hm.out _).mono ?_;rintro e w' ⟨rfl,hb⟩;obtain⟨hc,hf⟩:=eK hb))
  go_ret;exact⟨rfl,ee hb⟩
theorem wR (s n c c':Int) (w:ο):
 Ζ η 167 #[φ #[J s,J n,J c],φ #[J s,J n,J c']] w fun e w'=>e=.returned (J (vO c c'))∧σ w.heap.size w w':=by
 unfold vO
 by_cases h1:c<c'
 ·rw[if_pos h1];go_enter Tryz.func167,Tryz.ntmps167;go_wp2;go_ret;exact⟨rfl,cG _ _ _⟩
 ·rw[if_neg h1]
  by_cases h2:c'<c
  ·rw[if_pos h2];go_enter Tryz.func167,Tryz.ntmps167;go_wp2;go_ret;exact⟨rfl,cG _ _ _⟩
  ·rw[if_neg h2];go_enter Tryz.func167,Tryz.ntmps167;go_wp2;go_ret;exact⟨rfl,cG _ _ _⟩
theorem rj (s n c s' n' c':Int):Pure 167 #[φ #[J s,J n,J c],φ #[J s',J n',J c']] (J (mS s n c s' n' c')):=fun w=>by
 unfold mS
 by_cases h:s=s'∧n=n'
 ·rw[if_pos h];obtain⟨rfl,rfl⟩:=h;exact wR s n c c' w
 ·rw[if_neg h];exact xy s n c s' n' c' w h
theorem rP (s n s' n':Int):Pure 71 #[φ #[J s,J n],φ #[J s',J n']] (J (mH s n s' n')):=fun w=>by
 unfold mH vO
 by_cases e:s=s'
 ·subst e;rw[if_pos rfl]
  by_cases h1:n<n'
  ·rw[if_pos h1];have h3:(n==n')=ρ:=by simp;omega
   go_enter Tryz.func71,Tryz.ntmps71;go_wp2;go_ret;exact⟨rfl,cG _ _ _⟩
  ·rw[if_neg h1]
   by_cases h2:n'<n
   ·rw[if_pos h2];have h3:(n==n')=ρ:=by simp;omega
    go_enter Tryz.func71,Tryz.ntmps71;go_wp2;go_ret;exact⟨rfl,cG _ _ _⟩
   ·rw[if_neg h2];obtain rfl:n=n':=by omega
    clear h1 h2;go_enter Tryz.func71,Tryz.ntmps71;go_wp2;go_ret;exact⟨rfl,cG _ _ _⟩
 ·rw[if_neg e];have h3:(s==s')=ρ:=by simp;omega
  by_cases h1:s<s'
  ·rw[if_pos h1];clear e;go_enter Tryz.func71,Tryz.ntmps71;go_wp2;go_ret;exact⟨rfl,cG _ _ _⟩
  ·rw[if_neg h1,if_pos (by omega)];clear e;go_enter Tryz.func71,Tryz.ntmps71;go_wp2;go_ret;exact⟨rfl,cG _ _ _⟩
theorem cO (a b:Int):(a<b∧vO a b= -1)∨(b<a∧vO a b=1)∨(a=b∧vO a b=0):=by
 unfold vO;split
 ·exact .inl ⟨‹_›,rfl⟩
 ·split
  ·exact .inr (.inl ⟨‹_›,rfl⟩)
  ·exact .inr (.inr ⟨by omega,rfl⟩)
theorem j6 (s n s' n':Int):mH s n s' n'=0↔s=s'∧n=n':=by
 unfold mH;have h1:=cO n n';have h2:=cO s s';split<;>omega
theorem pI (s n c s' n' c':Int):Pure 56 #[φ #[J s,J n,J c],φ #[J s',J n',J c']] (J (mS s n c s' n' c')):=fun w=>by
 unfold mS;have hm:=rP s n s' n'
 by_cases h:s=s'∧n=n'
 ·rw[if_pos h];rw[(j6 s n s' n').2 h] at hm;have H:=qh hm;clear hm;obtain⟨rfl,rfl⟩:=h;unfold vO
  by_cases h1:c<c'
  ·rw[if_pos h1];go_enter Tryz.func56,Tryz.ntmps56;go_wp2_with (first|(go_at_call 71;refine(H.out _).mono ?_;rintro e w' ⟨rfl,hb⟩;obtain⟨hc,hf⟩:=eK hb))
   go_ret;exact⟨rfl,ee hb⟩
  ·rw[if_neg h1]
   by_cases h2:c'<c
   ·rw[if_pos h2];go_enter Tryz.func56,Tryz.ntmps56;go_wp2_with (first|(go_at_call 71;refine(H.out _).mono ?_;rintro e w' ⟨rfl,hb⟩;obtain⟨hc,hf⟩:=eK hb))
    go_ret;exact⟨rfl,ee hb⟩
   ·rw[if_neg h2];go_enter Tryz.func56,Tryz.ntmps56;go_wp2_with (first|(go_at_call 71;refine(H.out _).mono ?_;rintro e w' ⟨rfl,hb⟩;obtain⟨hc,hf⟩:=eK hb))
    go_ret;exact⟨rfl,ee hb⟩
 ·rw[if_neg h];have hz:mH s n s' n'≠0:=fun e=>h ((j6 s n s' n').1 e)
  clear h;generalize mH s n s' n'=x at*;have H:=qh hm;clear hm;have h1:(x !=0)=τ:=by simpa using hz
  clear hz;go_enter Tryz.func56,Tryz.ntmps56;go_wp2_with (first|(go_at_call 71;refine(H.out _).mono ?_;rintro e w' ⟨rfl,hb⟩;obtain⟨hc,hf⟩:=eK hb))
  go_ret;exact⟨rfl,ee hb⟩
theorem tH (s n s' n':Int):mH s' n' s n= - mH s n s' n':=by
 unfold mH;have h1:=cO n n';have h2:=cO s s';have h3:=cO n' n;have h4:=cO s' s;split<;>split<;>omega
theorem se (s n s' n' s2 n2:Int) (h:mH s n s' n'≤0) (k:mH s' n' s2 n2≤0):mH s n s2 n2≤0:=by
 unfold mH at*;have h1:=cO n n';have h2:=cO s s';have h3:=cO n' n2;have h4:=cO s' s2;have h5:=cO n n2;have h6:=cO s s2;split at h<;>split at k<;>split<;>omega
theorem uq (s n c s' n' c':Int):mS s n c s' n' c'=0↔s=s'∧n=n'∧c=c':=by
 unfold mS;have h1:=cO c c';have h2:=j6 s n s' n';split<;>omega
theorem Ef (s n c s' n' c':Int):mS s' n' c' s n c= - mS s n c s' n' c':=by
 unfold mS;have h1:=cO c c';have h2:=cO c' c;have h3:=tH s n s' n';split<;>split<;>omega
theorem yv (s n c s' n' c' s2 n2 c2:Int) (h:mS s n c s' n' c'≤0) (k:mS s' n' c' s2 n2 c2≤0):mS s n c s2 n2 c2≤0:=by
 have h1:=cO c c';have h2:=cO c' c2;have h3:=cO c c2;have h4:=se s n s' n' s2 n2;have h5:=j6 s n s' n';unfold mS at*
 by_cases e1:s=s'∧n=n'
 ·obtain⟨rfl,rfl⟩:=e1;rw[if_pos ⟨rfl,rfl⟩] at h
  by_cases e2:s=s2∧n=n2
  ·rw[if_pos e2] at*;omega
  ·rw[if_neg e2] at*;omega
 ·rw[if_neg e1] at h
  by_cases e2:s'=s2∧n'=n2
  ·obtain⟨rfl,rfl⟩:=e2;rw[if_neg e1];omega
  ·rw[if_neg e2] at k
   by_cases e3:s=s2∧n=n2
   ·obtain⟨rfl,rfl⟩:=e3;have h6:=tH s n s' n';omega
   ·rw[if_neg e3];omega
theorem Oz (s n s' n':Int) (W:ο):(binOp .eql 30 (φ #[J s,J n]) (φ #[J s',J n'])).run η W=.ok (Β (s==s' && n==n')) W:=by
 by_cases h1:s=s'<;>by_cases h2:n=n'<;>simp[go_sem,h1,h2]
theorem Qr (s n c s' n' c':Int) (W:ο):(binOp .eql 32 (φ #[J s,J n,J c]) (φ #[J s',J n',J c'])).run η W=.ok (Β ((s==s' && n==n') && c==c')) W:=by
 by_cases h1:s=s'<;>by_cases h2:n=n'<;>by_cases h3:c=c'<;>simp[go_sem,h1,h2,h3]
abbrev D:=Int × Int × Int
def p8 (a b:D):Int:=mS a.1 a.2.1 a.2.2 b.1 b.2.1 b.2.2
theorem Ab (a b:D):p8 a b=0↔a=b:=by
 obtain⟨s,n,c⟩:=a;obtain⟨s',n',c'⟩:=b;simp[p8,uq]
theorem Ei (a b:D):p8 b a= - p8 a b:=Ef _ _ _ _ _ _
theorem FK (a b c:D) (h:p8 a b≤0) (k:p8 b c≤0):p8 a c≤0:=yv _ _ _ _ _ _ _ _ _ h k
theorem JX (a:D):p8 a a=0:=(Ab a a).2 rfl
def aA:List D→List ψ
 |[]=>[]
 |d::l=>J d.1::J d.2.1::J d.2.2::aA l
theorem bJ (l:List D):(aA l).length=l.length*3:=by
 induction l with
 |nil=>rfl
 |cons p l ih=>simp[aA,ih];omega
theorem fm (l m:List D):aA (l++m)=aA l++aA m:=by
 induction l with
 |nil=>rfl
 |cons p l ih=>simp[aA,ih]
theorem Ct (l:List D) (k:Nat):aA (l.take k)=(aA l).take (k*3):=by
 induction l generalizing k with
 |nil=>simp[aA]
 |cons p l ih=>
  cases k with
  |zero=>simp[aA]
  |succ k=>
   rw[show(k+1)*3=k*3+3 by omega];simp[aA,ih]
theorem DF (l:List D) (k:Nat):aA (l.drop k)=(aA l).drop (k*3):=by
 induction l generalizing k with
 |nil=>simp[aA]
 |cons p l ih=>
  cases k with
  |zero=>simp[aA]
  |succ k=>
   rw[show(k+1)*3=k*3+3 by omega];simp[aA,ih]
theorem sh (l:List D) (k:Nat) (h:k<l.length):(aA l)[k*3]? =ζ (J (l.getD k (0,0,0)).1)∧(aA l)[k*3+1]? =ζ (J (l.getD k (0,0,0)).2.1)∧(aA l)[k*3+2]? =ζ (J (l.getD k (0,0,0)).2.2):=by
 induction l generalizing k with
 |nil=>simp at h
 |cons p l ih=>
  cases k with
  |zero=>simp[aA]
  |succ k=>
   have:=ih k (by simpa using h)
   have e1:(k+1)*3=k*3+3:=by omega
   have e2:(k+1)*3+1=k*3+1+3:=by omega
   have e3:(k+1)*3+2=k*3+2+3:=by omega
   rw[e2,e3,e1];simpa [aA] using this
theorem eH (l:List D):∀u∈aA l,u.oneCell'=τ:=by
 induction l with
 |nil=>simp[aA]
 |cons p l ih=>
  intro u hu;simp only[aA,List.mem_cons] at hu;rcases hu with rfl|rfl|rfl|hu
  ·rfl
  ·rfl
  ·rfl
  ·exact ih u hu
theorem aX.darts {w:ο} {B n c:Nat} {A:Option Κ} {l:List D} (h:aX w B 3 A n c (aA l)) (hn:0<n):
 ∃b off,A=ζ ⟨b,off,ε⟩∧b<B∧∀k,k<l.length→w.cell? ⟨b,off+k*3,ε⟩=ζ (J (l.getD k (0,0,0)).1)∧w.cell? ⟨b,off+k*3+1,ε⟩=ζ (J (l.getD k (0,0,0)).2.1)∧w.cell? ⟨b,off+k*3+2,ε⟩=ζ (J (l.getD k (0,0,0)).2.2):=by
 have hl:l.length=n:=by
  have:=h.len
  rw[bJ] at this;omega
 cases A with
 |none=>exact absurd (h.none_ rfl).1 (by omega)
 |some a=>
  have h0:=h.cell a rfl 0 _ (sh l 0 (by omega)).1
  have ha:∃b off,a=⟨b,off,ε⟩:=by
   obtain⟨b,off,f⟩:=a;cases f with
   |none=>exact⟨b,off,rfl⟩
   |some f=>
    simp[Addr.add,World.cell?] at h0;split at h0<;>cases h0
  obtain⟨b,off,rfl⟩:=ha
  refine⟨b,off,rfl,h.low _ rfl hn,fun k hk=>?_⟩
  obtain⟨g1,g2,g3⟩:=sh l k hk;have e1:=h.cell _ rfl _ _ g1;have e2:=h.cell _ rfl _ _ g2;have e3:=h.cell _ rfl _ _ g3;rw[Ν] at e1 e2 e3;exact⟨e1,e2,e3⟩
theorem aX.dlen {w:ο} {B n c:Nat} {A:Option Κ} {l:List D} (h:aX w B 3 A n c (aA l)):l.length=n:=by
 have:=h.len
 rw[bJ] at this;omega
theorem aX.piece {w:ο} {B n c lo hi cap:Nat} {A:Option Κ} {l:List D} (h:aX w B 3 A n c (aA l)) (h1:lo≤hi) (h2:hi≤n) (h3:hi≤cap) (h4:cap≤c):
 aX w B 3 (if cap=lo then A else A.map (·.add (lo*3))) (hi - lo) (cap - lo) (aA ((l.take hi).drop lo)):=by
 have hl:=h.dlen
 refine⟨?_,?_,by omega,?_,?_⟩
 ·rw[bJ];simp;omega
 ·intro e;cases A with
  |none=>
   have:=h.none_ rfl
   omega
  |some a=>split at e<;>cases e
 ·intro a ha fh;rw[if_neg (by omega)] at ha;cases A with
  |none=>cases ha
  |some a'=>
   obtain rfl:=Μ ha
   show(Addr.add a' (lo*3)).block<B
   rw[cJ];exact h.low a' rfl (by omega)
 ·intro a ha j u hu
  have hj:j<(aA ((l.take hi).drop lo)).length:=by
   rcases JaM j (aA ((l.take hi).drop lo)).length with h|h
   ·exact h
   ·rw[List.getElem?_eq_none h] at hu;cases hu
  rw[bJ] at hj;simp at hj;rw[if_neg (by omega)] at ha;cases A with
  |none=>cases ha
  |some a'=>
   obtain rfl:=Μ ha;rw[DF,Ct,List.getElem?_drop,List.getElem?_take] at hu;split at hu
   ·have:=h.cell a' rfl _ u hu
    rw[←this];congr 1
    show(Addr.add a' (lo*3)).add j=a'.add (lo*3+j)
    unfold Addr.add
    by_cases hi:lo*3=0<;>by_cases hj:j=0<;>simp[hi,hj,Nat.add_assoc]
    all_goals omega
   ·cases hu
def di (L:List D):Nat→Nat
 |0=>0
 |k+1=>if p8 (L.getD k (0,0,0)) (L.getD (di L k) (0,0,0))<0 then k else di L k
theorem qx (L:List D) (k:Nat) (h:0<k):di L k<k:=by
 induction k with
 |zero=>omega
 |succ k ih=>
  simp only[di];split
  ·omega
  ·rcases Nat.eq_zero_or_pos k with h0|h0
   ·subst h0;simp[di]
   ·have:=ih h0
    omega
theorem nN (L:List D) (k:Nat):di L k≤k:=by
 rcases Nat.eq_zero_or_pos k with h|h
 ·subst h;simp[di]
 ·exact Nat.le_of_lt (qx L k h)
def aS (L:List D):List D:=L.drop (di L L.length)++L.take (di L L.length)
def iM (L:List D) (d:D):Int:=if d∈L then(L.idxOf d:Int) else -1
theorem pT (x y:D) (W:ο):(binOp .eql 32 (φ #[J x.1,J x.2.1,J x.2.2]) (φ #[J y.1,J y.2.1,J y.2.2])).run η W=.ok (Β (decide (x=y))) W:=by
 rw[Qr];congr 2;rw[Bool.eq_iff_iff];obtain⟨x1,x2,x3⟩:=x;obtain⟨y1,y2,y3⟩:=y;simp[and_assoc]
theorem jr (x y:D) (W:ο):(binOp .neq 32 (φ #[J x.1,J x.2.1,J x.2.2]) (φ #[J y.1,J y.2.1,J y.2.2])).run η W=.ok (Β (!decide (x=y))) W:=by
 obtain⟨x1,x2,x3⟩:=x;obtain⟨y1,y2,y3⟩:=y
 by_cases h1:x1=y1<;>by_cases h2:x2=y2<;>by_cases h3:x3=y3<;>simp[go_sem,h1,h2,h3]
theorem OA (L:List D) (d:D) (k:Nat) (h:L.getD k (0,0,0)=d) (hk:k<L.length):L.idxOf d≤k:=by
 induction L generalizing k with
 |nil=>simp at hk
 |cons x L ih=>
  rw[List.idxOf_cons]
  by_cases e:x=d
  ·have hb:(x==d)=τ:=by rw[beq_iff_eq];exact e
   rw[hb];exact Jas _
  ·have hb:(x==d)=ρ:=by rw[beq_eq_false_iff_ne];exact e
   rw[hb];cases k with
   |zero=>exact absurd (by simpa using h) e
   |succ k=>
    have:=ih k (by simpa using h) (by simpa using hk)
    show L.idxOf d+1≤k+1;omega
theorem Hg {L:List D} {d:D} {k:Nat} (hk:k<L.length) (he:L.getD k (0,0,0)=d) (hn:∀j,j<k→L.getD j (0,0,0)≠d):iM L d=k:=by
 have hm:d∈L:=by
  rw[←he,χ,θ hk];exact List.getElem_mem hk
 have hi:L.idxOf d<L.length:=List.idxOf_lt_length_of_mem hm;have hg:L[L.idxOf d]=d:=List.getElem_idxOf hi;rw[iM,if_pos hm];have h1:¬L.idxOf d<k:=fun h=>hn _ h (by rw[χ,θ hi];exact hg)
 have h2:¬k<L.idxOf d:=fun h=>by
  have h3:=OA L d k he hk;omega
 omega
theorem CF {L:List D} {d:D} (hn:∀j,j<L.length→L.getD j (0,0,0)≠d):iM L d= -1:=by
 rw[iM,if_neg];intro hm;have hi:L.idxOf d<L.length:=List.idxOf_lt_length_of_mem hm;exact hn _ hi (by rw[χ,θ hi];exact List.getElem_idxOf hi)
def IC (w:ο) (L:List D) (d:D) (k:Nat) (x:ο):Prop:=
 (∀j,j<k→L.getD j (0,0,0)≠d)∧Whole x w.heap.size 32 [J d.1,J d.2.1,J d.2.2]∧σ w.heap.size w x
theorem Fp (A:Option Κ) (n c:Nat) (L:List D) (d:D) (w:ο) (h:aX w w.heap.size 3 A n c (aA L)) (hn:n≤9223372036854775807):
 Ζ η 161 #[γ A n c,φ #[J d.1,J d.2.1,J d.2.2]] w fun e w'=>e=.returned (J (iM L d))∧σ w.heap.size w w':=by
 have hl:=h.dlen;have HL:=qh hl;have H:=qh h;have HS:Hid (IC w L d 0 (w.alloc (δ #[J d.1,J d.2.1,J d.2.2] 32))):=⟨fun j hj=>absurd hj (by omega),Whole.new_ w _ [J d.1,J d.2.1,J d.2.2],ax _ _⟩;clear h hl;go_enter Tryz.func161,Tryz.ntmps161;go_wp2;go_loopw [8] (fun i wr=>∃k:Nat,k≤n∧i=J k∧IC w L d k wr) (fun i _=>n - (intOf i).toNat)
 case atStart=>exact⟨0,Jas _,rfl,HS.out⟩
 case round=>
  obtain⟨k,hk,rfl,h1,h2,h3⟩:=hrel;have H1:=qh h1;have H2:=qh h2;have H3:=qh h3;clear h1 HS
  by_cases fh:k<n
  ·obtain⟨b,off,rfl,hb,hc⟩:=H.out.darts (by omega);obtain⟨c1,c2,c3⟩:=hc k (by rw[HL.out];exact fh);have d1:=(h3.cell (p:=⟨b,off+k*3,ε⟩) hb).trans c1;have d2:=(h3.cell (p:=⟨b,off+k*3+1,ε⟩) hb).trans c2;have d3:=(h3.cell (p:=⟨b,off+k*3+2,ε⟩) hb).trans c3;have b1:=h2.cell (i:=0) rfl;have b2:=h2.cell (i:=1) rfl;have b3:=h2.cell (i:=2) rfl;obtain⟨x,gx⟩:=ay (L.getD k (0,0,0));rw[gx] at d1 d2 d3;have GX:=qh gx;have hq:=pT d x;clear h2 h3 hc c1 c2 c3 gx
   by_cases hd:d=x
   ·have Bk:decide (d=x)=τ:=by simpa using hd
    rw[Bk] at hq;have HD:=qh hd;clear hd Bk;go_wp2;go_quiet (fail);go_wp2;go_ret;exact⟨mF (by rw[Hg (by rw[HL.out];exact fh) (GX.out.trans HD.out.symm) H1.out]),⟨H3.out.os,H3.out.tape,H3.out.output,H3.out.size,H3.out.block⟩⟩
   ·have Bk:decide (d=x)=ρ:=by simpa using hd
    rw[Bk] at hq;have HD:=qh hd;clear hd Bk;go_wp2;go_quiet (fail);go_wp2;go_roundw
    case rel=>
     refine⟨k+1,by omega,by go_num,fun j hj=>?_,H2.out,⟨H3.out.os,H3.out.tape,H3.out.output,H3.out.size,H3.out.block⟩⟩
     rcases JaM j k with h|h
     ·exact H1.out j h
     ·obtain rfl:j=k:=by omega
      rw[GX.out];exact fun e=>HD.out e.symm
    case measure=>simp[intOf];omega
  ·clear h2 h3;go_wp2;go_ret
   refine⟨mF ?_,H3.out⟩
   rw[CF];intro j hj;exact H1.out j (by have:=HL.out;omega)
theorem Fb (A:Option Κ) (n c:Nat) (L:List D) (d:D) (w:ο) (h:aX w w.heap.size 3 A n c (aA L)) (hn:n≤9223372036854775807):
 Ζ η 144 #[γ A n c,φ #[J d.1,J d.2.1,J d.2.2]] w fun e w'=>e=.returned (J (iM L d))∧σ w.heap.size w w':=by
 have HI:=qh (fun W h=>Fp A n c L d W h hn);have H:=qh h;clear h;go_enter Tryz.func144,Tryz.ntmps144;go_wp2_with (go_at_call 161;refine(HI.out _ (by exact H.out.up (ax _ _) (by simp))).mono ?_;rintro e w2 ⟨rfl,hb⟩)
 go_ret;exact⟨rfl,aT hb⟩
def EqAt (w:ο) (L M:List D) (k:Nat) (x:ο):Prop:=L.take k=M.take k∧σ w.heap.size w x
theorem yM {L M:List D} {k:Nat} (hl:L.length=M.length) (hk:k<L.length) (h:L.take k=M.take k):L.take (k+1)=M.take (k+1)↔L.getD k (0,0,0)=M.getD k (0,0,0):=by
 have UJ:k<M.length:=by omega
 rw[JaQ hk,JaQ UJ,h,List.append_right_inj];simp[hk,UJ]
theorem Gi (A A':Option Κ) (n m c c':Nat) (L M:List D) (w:ο) (h:aX w w.heap.size 3 A n c (aA L)) (h':aX w w.heap.size 3 A' m c' (aA M)) (hn:n≤9223372036854775807):
 Ζ η 62 #[γ A n c,γ A' m c'] w fun e w'=>e=.returned (Β (decide (L=M)))∧σ w.heap.size w w':=by
 have hl:=h.dlen;have hm:=h'.dlen
 by_cases he:n=m
 ·subst he;have HL:=qh hl;have HM:=qh hm;have H:=qh h;have H':=qh h';have hnn:((n:Int) !=(n:Int))=ρ:=by simp
  clear h h' hl hm;go_enter Tryz.func62,Tryz.ntmps62;go_wp2;go_loopw [5] (fun i wr=>∃k:Nat,k≤n∧i=J k∧EqAt w L M k wr) (fun i _=>n - (intOf i).toNat)
  case atStart=>exact⟨0,Jas _,rfl,rfl,Θ _ _⟩
  case round=>
   obtain⟨k,hk,rfl,he,cR⟩:=hrel;have HE:=qh he;have HB:=qh cR;clear he
   by_cases fh:k<n
   ·obtain⟨b,off,rfl,hb,hc⟩:=H.out.darts (by omega);obtain⟨b',UC,rfl,IT,hc'⟩:=H'.out.darts (by omega);obtain⟨c1,c2,c3⟩:=hc k (by rw[HL.out];exact fh);obtain⟨e1,e2,e3⟩:=hc' k (by rw[HM.out];exact fh);have d1:=(cR.cell (p:=⟨b,off+k*3,ε⟩) hb).trans c1;have d2:=(cR.cell (p:=⟨b,off+k*3+1,ε⟩) hb).trans c2;have d3:=(cR.cell (p:=⟨b,off+k*3+2,ε⟩) hb).trans c3;have f1:=(cR.cell (p:=⟨b',UC+k*3,ε⟩) IT).trans e1;have f2:=(cR.cell (p:=⟨b',UC+k*3+1,ε⟩) IT).trans e2;have f3:=(cR.cell (p:=⟨b',UC+k*3+2,ε⟩) IT).trans e3;obtain⟨x,gx⟩:=ay (L.getD k (0,0,0));obtain⟨y,gy⟩:=ay (M.getD k (0,0,0));rw[gx] at d1 d2 d3;rw[gy] at f1 f2 f3;have GX:=qh gx;have GY:=qh gy;have HT:=qh (yM (by rw[HL.out,HM.out]) (by rw[HL.out];exact fh) HE.out);have hq:=jr x y;clear hc hc' c1 c2 c3 e1 e2 e3 gx gy cR
    by_cases hd:x=y
    ·have Bk:(!decide (x=y))=ρ:=by simpa using hd
     rw[Bk] at hq;have HD:=qh hd;clear hd Bk;go_wp2;go_quiet (fail);go_wp2;go_roundw
     case rel=>exact⟨k+1,by omega,by go_num,HT.out.2 (by rw[GX.out,GY.out,HD.out]),⟨HB.out.os,HB.out.tape,HB.out.output,HB.out.size,HB.out.block⟩⟩
     case measure=>simp[intOf];omega
    ·have Bk:(!decide (x=y))=τ:=by simpa using hd
     rw[Bk] at hq;have HD:=qh hd;clear hd Bk;go_wp2;go_quiet (fail);go_wp2;go_ret
     refine⟨?_,⟨HB.out.os,HB.out.tape,HB.out.output,HB.out.size,HB.out.block⟩⟩
     have cu:decide (L=M)=ρ:=by
      simp only[decide_eq_false_iff_not];rintro rfl;exact HD.out (by rw[←GX.out,←GY.out])
     rw[cu];rfl
   ·go_wp2;go_ret
    refine⟨?_,HB.out⟩
    have hee:decide (L=M)=τ:=by
     simp only[decide_eq_true_eq];have h1:=HE.out;rwa [Ι (by rw[HL.out];omega),Ι (by rw[HM.out];omega)] at h1
    rw[hee];rfl
 ·have e:decide (L=M)=ρ:=by
   simp only[decide_eq_false_iff_not];rintro rfl;omega
  rw[e];have h1:((n:Int) !=(m:Int))=τ:=by simp;omega
  clear h h' hl hm e he;go_enter Tryz.func62,Tryz.ntmps62;go_wp2;go_ret;exact⟨rfl,Θ _ _⟩
theorem nA:(η.info? 32).map (fun i=>(i.zero,i.size,i.bytes))=ζ (ζ (φ #[J 0,J 0,J 0]),3,24):=by kernel_rfl
def abx (w:ο) (L:List D) (e:Ending) (w':ο):Prop:=
 ∃A c,e=.returned (γ A L.length c)∧aX w' w'.heap.size 3 A L.length c (aA L)∧σ w.heap.size w w'
structure zW (w:ο) (A:Option Κ) (n:Nat) (Ps:List (List D)):Prop where
 len:Ps.length=n
 part:∀k,k<n→∃b off A' c',A=ζ ⟨b,off,ε⟩∧b<w.heap.size∧w.cell? ⟨b,off+k,ε⟩=ζ (.slice A' (Ps.getD k []).length c')∧aX w w.heap.size 3 A' (Ps.getD k []).length c' (aA (Ps.getD k []))
theorem zW.up {w w':ο} {A:Option Κ} {n:Nat} {Ps:List (List D)} (h:zW w A n Ps) (hb:σ w.heap.size w w'):zW w' A n Ps:=
 ⟨h.len,fun k hk=>by
  obtain⟨b,off,A',c',e,e8,hc,hr⟩:=h.part k hk;exact⟨b,off,A',c',e,Nat.lt_of_lt_of_le e8 hb.size,(hb.cell e8).trans hc,hr.up hb hb.size⟩⟩
theorem JS (Ps:List (List D)) (k:Nat) (hk:k<Ps.length):(Ps.take (k+1)).flatten=(Ps.take k).flatten++Ps.getD k []:=by
 rw[JaQ hk,List.flatten_append];simp[hk]
theorem RI (Ps:List (List D)) (k:Nat):(Ps.take k).flatten.length≤Ps.flatten.length:=by
 conv=>rhs;rw[←List.take_append_drop k Ps,List.flatten_append,List.length_append]
 omega
theorem rK:η.underlying 57=ζ (.slice (η.elem 57)):=by kernel_rfl
theorem sN (W:ο):(sizeOf (η.elem 57)).run η W=.ok 3 W:=by kernel_rfl
theorem Ze (A:Option Κ) (n c hi:Nat) (h1:hi≤n) (h2:n≤c):∃X,(∀W,(Instr.slice 57 (γ A n c) ε (ζ (J (hi:Int))) ε).run η W=.ok (γ X hi c) W)∧
 ∀W B L,aX W B 3 A n c (aA L)→aX W B 3 X hi c (aA (L.take hi)):=by
 refine⟨if c=0 then A else A.map (·.add (0*3)),fun W=>?_,fun W B L h=>?_⟩
 ·rw[run_slice_h W 57 A n c rK .i64 hi (by omega) (by omega),sN];simp[sliced,Jbw]
 ·have:=h.piece (lo:=0) (Jas _) h1 (Nat.le_trans h1 h2) (Δ c)
  simpa using this
theorem ad5 (A:Option Κ) (n c lo:Nat) (h1:lo≤n) (h2:n≤c):∃X,(∀W,(Instr.slice 57 (γ A n c) (ζ (J (lo:Int))) ε ε).run η W=.ok (γ X (n - lo) (c - lo)) W)∧
 ∀W B L,aX W B 3 A n c (aA L)→aX W B 3 X (n - lo) (c - lo) (aA (L.drop lo)):=by
 refine⟨if c=lo then A else A.map (·.add (lo*3)),fun W=>?_,fun W B L h=>?_⟩
 ·rw[run_slice_l W 57 A n c rK .i64 lo (by omega) (by omega),sN];simp[sliced,Jbw]
 ·have:=h.piece h1 (Δ n) h2 (Δ c)
  rwa [Ι (by rw[h.dlen];omega)] at this
theorem dI (L:List D):(aS L).length=L.length:=by
 have:=nN L L.length
 simp[aS];omega
theorem Vb {w:ο} {g n c:Nat} {t:Υ} {A:Option Κ} {L:List D} (hg:Whole w g t [γ A n c]) (hr:aX w w.heap.size 3 A n c (aA L)):zW w (ζ ⟨g,0,ε⟩) 1 [L]:=by
 have:=hr.dlen
 subst this
 refine⟨rfl,fun k hk=>?_⟩
 obtain rfl:k=0:=by omega
 exact⟨g,0,A,c,rfl,hg.lt,hg.cell rfl,hr⟩
theorem Vf {w:ο} {g n c n' c' n2 c2:Nat} {t:Υ} {A A' A2:Option Κ} {L L' L2:List D} (hg:Whole w g t [γ A n c,γ A' n' c',γ A2 n2 c2]) (hr:aX w w.heap.size 3 A n c (aA L)) (Ch:aX w w.heap.size 3 A' n' c' (aA L')) (yS:aX w w.heap.size 3 A2 n2 c2 (aA L2)):zW w (ζ ⟨g,0,ε⟩) 3 [L,L',L2]:=by
 have:=hr.dlen
 have:=Ch.dlen
 have:=yS.dlen
 subst n n' n2
 refine⟨rfl,fun k hk=>?_⟩
 rcases (show k=0∨k=1∨k=2 by omega) with rfl|rfl|rfl
 ·exact⟨g,0,A,c,rfl,hg.lt,hg.cell rfl,hr⟩
 ·exact⟨g,0,A',c',rfl,hg.lt,hg.cell rfl,Ch⟩
 ·exact⟨g,0,A2,c2,rfl,hg.lt,hg.cell rfl,yS⟩
theorem aX.whole3 {w:ο} {g:Nat} {t:Υ} {L:List D} (hw:Whole w g t (aA L)):aX w w.heap.size 3 (ζ ⟨g,0,ε⟩) L.length L.length (aA L):=
 ⟨bJ L,fun e=>(by cases e),Δ _,fun a e _=>(by obtain rfl:=Μ e;exact hw.lt),fun a e j u hj=>(by
  obtain rfl:=Μ e;rw[Ν];simpa using hw.cell hj)⟩
theorem Qs (s n:Int) (w:ο) (h1:1≤s) (h2:s≤8) (h3:1≤n) (h4:n≤1048576):
 Ζ η 64 #[φ #[J s,J n]] w fun e w'=>e=.returned (Β τ)∧σ w.heap.size w w':=by
 go_enter Tryz.func64,Tryz.ntmps64;go_wp2;go_ret;exact⟨rfl,ax _ _⟩
theorem U8 (s n:Int) (w:ο) (h:¬(1≤s∧s≤8∧1≤n∧n≤1048576)):
 Ζ η 64 #[φ #[J s,J n]] w fun e w'=>e=.returned (Β ρ)∧σ w.heap.size w w':=by
 by_cases h1:1≤s
 ·by_cases h2:s≤8
  ·by_cases h3:1≤n
   ·have h4:¬n≤1048576:=by omega
    go_enter Tryz.func64,Tryz.ntmps64;go_wp2;go_ret;exact⟨rfl,ax _ _⟩
   ·clear h;go_enter Tryz.func64,Tryz.ntmps64;go_wp2;go_ret;exact⟨rfl,ax _ _⟩
  ·clear h;go_enter Tryz.func64,Tryz.ntmps64;go_wp2;go_ret;exact⟨rfl,ax _ _⟩
 ·clear h;go_enter Tryz.func64,Tryz.ntmps64;go_wp2;go_ret;exact⟨rfl,ax _ _⟩
theorem jB (s n:Int):Pure 64 #[φ #[J s,J n]] (Β (bQ s n)):=fun w=>by
 by_cases h:1≤s∧s≤8∧1≤n∧n≤1048576
 ·rw[show bQ s n=τ from decide_eq_true h];exact Qs s n w h.1 h.2.1 h.2.2.1 h.2.2.2
 ·rw[show bQ s n=ρ from decide_eq_false h];exact U8 s n w h
theorem bH (s n:Int):Pure 28 #[φ #[J s,J n]] (Β (bQ s n)):=fun w=>by
 by_cases h:1≤s∧s≤8∧1≤n∧n≤1048576
 ·rw[show bQ s n=τ from decide_eq_true h];obtain⟨h1,h2,h3,h4⟩:=h;go_enter Tryz.func28,Tryz.ntmps28;go_wp2;go_ret;exact⟨rfl,ax _ _⟩
 ·rw[show bQ s n=ρ from decide_eq_false h]
  by_cases h1:1≤s
  ·by_cases h2:s≤8
   ·by_cases h3:1≤n
    ·have h4:¬n≤1048576:=by omega
     clear h;go_enter Tryz.func28,Tryz.ntmps28;go_wp2;go_ret;exact⟨rfl,ax _ _⟩
    ·clear h;go_enter Tryz.func28,Tryz.ntmps28;go_wp2;go_ret;exact⟨rfl,ax _ _⟩
   ·clear h;go_enter Tryz.func28,Tryz.ntmps28;go_wp2;go_ret;exact⟨rfl,ax _ _⟩
  ·clear h;go_enter Tryz.func28,Tryz.ntmps28;go_wp2;go_ret;exact⟨rfl,ax _ _⟩
def okB (c:UInt8):Bool:=decide (32≤c.toNat∧c.toNat≤126)
def dX (s:ByteArray):Bool:=decide (s.size≤16) && s.data.toList.all okB
theorem FQ (s:ByteArray) (k:Nat) (h:k<s.size):s.data.toList.take (k+1)=s.data.toList.take k++[s[k]]:=by
 rw[JaQ (by simpa using h)];rfl
theorem zn (s:ByteArray) (k:Nat) (h:k<s.size) (ha:(s.data.toList.take k).all okB=τ) (hk:okB s[k]=τ):(s.data.toList.take (k+1)).all okB=τ:=by
 rw[FQ s k h,List.all_append,ha];simp[hk]
theorem s8 (s:ByteArray) (k:Nat) (h:k<s.size) (hk:okB s[k]=ρ):s.data.toList.all okB=ρ:=by
 rw[List.all_eq_false]
 refine⟨s[k],?_,by simp[hk]⟩
 show s.data[k]∈s.data.toList;simp
theorem CT (s:ByteArray) (k:Nat) (h:s.size≤k) (ha:(s.data.toList.take k).all okB=τ):s.data.toList.all okB=τ:=by
 rwa [Ι (by simpa using h)] at ha
theorem Ke (s:ByteArray) (pos:Nat) (h:pos<s.size):∃c wd,Utf8.decode s pos=(c,wd)∧1≤wd∧((s[pos].toNat<128∧c=s[pos].toNat∧wd=1)∨(128≤s[pos].toNat∧128≤c)):=by
 by_cases ha:s[pos].toNat<128
 ·exact⟨_,_,decode_ascii s pos h ha,Δ _,.inl ⟨ha,rfl,rfl⟩⟩
 ·have hh:=decode_high s pos h (by omega);exact⟨_,_,rfl,hh.2,.inr ⟨by omega,hh.1⟩⟩
theorem CH (P:Program) (w:ο) (s:ByteArray) (pos:Nat) (h:pos<s.size) {c wd:Nat} (hd:Utf8.decode s pos=(c,wd)) (ty:Υ):
 (Instr.next (υ (ζ ⟨w.heap.size,0,ε⟩)) τ ty).run P (w.iter s pos)=.ok (.tuple #[Β τ,J pos,.int .i32 c]) (w.iter s (pos+wd)):=by
 simp only[Instr.next,getObj,setObj,Jbl,Sem.run,World.iter_heap,Jbw,h,if_true,hd,World.iter_set];simp[goInt,Sem.run,World.iter_heap,World.iter_set]
theorem s4 (s:ByteArray):Pure 67 #[μ s] (Β (dX s)):=fun w=>by
 by_cases Rr:s.size≤16
 case neg=>
  have hr:dX s=ρ:=by simp[dX,Rr]
  have hq:decide ((16:Int)<(s.size:Int))=τ:=decide_eq_true (by omega);rw[hr];clear hr Rr;go_enter Tryz.func67,Tryz.ntmps67;go_wp2;go_ret;exact⟨rfl,Θ _ _⟩
 have hq:decide ((16:Int)<(s.size:Int))=ρ:=decide_eq_false (by omega);have HS:=qh Rr;clear Rr;go_enter Tryz.func67,Tryz.ntmps67;go_wp2;clear hq;go_loopw [] (fun w'=>∃pos:Nat,w'=w.iter s pos∧(s.data.toList.take pos).all okB=τ) (fun w'=>s.size - w'.iterPos w.heap.size)
 case atStart=>exact⟨0,rfl,by simp⟩
 case round=>
  obtain⟨pos,rfl,ha⟩:=hrel;have HA:=qh ha;clear ha
  by_cases hp:pos<s.size
  ·obtain⟨c,wd,hd,hwd,hc⟩:=Ke s pos hp;have VN:=fun ty=>CH η w s pos hp hd ty
   have HW:=qh hwd;clear hd hwd
   by_cases c1:32≤c
   ·by_cases c2:c≤126
    ·have q1:decide ((c:Int)<32)=ρ:=decide_eq_false (by omega);have q2:decide ((126:Int)<(c:Int))=ρ:=decide_eq_false (by omega);have Lq:=qh c1;have RO:=qh c2;clear c1 c2;have HC:=qh hc;have HP:=qh hp;clear hc;go_wp2;go_roundw
     case rel=>
      rcases HC.out with⟨h1,rfl,rfl⟩|⟨h1,h2⟩
      ·exact⟨pos+1,rfl,zn s pos hp HA.out (by have a:=Lq.out;have b:=RO.out;simpa [okB] using ⟨a,b⟩)⟩
      ·have:=RO.out
       omega
     case measure=>
      have a:=hp;have b:=HW.out;simp;omega
    ·have q1:decide ((c:Int)<32)=ρ:=decide_eq_false (by omega);have q2:decide ((126:Int)<(c:Int))=τ:=decide_eq_true (by omega)
     have hr:dX s=ρ:=by
      have:okB (s[pos]'hp)=ρ:=by
       rcases hc with⟨h1,h2,h3⟩|⟨h1,h2⟩
       ·simp[okB];omega
       ·simp[okB];omega
      simp[dX,s8 s pos hp this]
     have HR:=qh hr;clear c1 c2 hr;go_wp2;go_ret;exact⟨lM HR.out.symm,ax _ _⟩
   ·have q1:decide ((c:Int)<32)=τ:=decide_eq_true (by omega)
    have hr:dX s=ρ:=by
     have:okB (s[pos]'hp)=ρ:=by
      rcases hc with⟨h1,h2,h3⟩|⟨h1,h2⟩
      ·simp[okB];omega
      ·omega
     simp[dX,s8 s pos hp this]
    have HR:=qh hr;clear c1 hr;go_wp2;go_ret;exact⟨lM HR.out.symm,ax _ _⟩
  ·have hr:dX s=τ:=by simp[dX,HS.out,CT s pos (by omega) HA.out]
   have VN:∀ty,(Instr.next (υ (ζ ⟨w.heap.size,0,ε⟩)) τ ty).run η (w.iter s pos)=_:=fun ty=>run_next_end w s pos ty hp
   have HR:=qh hr;clear hp hr;go_wp2;go_ret;exact⟨lM HR.out.symm,ax _ _⟩
theorem rC (s:ByteArray) (hs:s.size≤maxLen):Pure 37 #[μ s] (Β (dX s)):=fun w=>by
 unfold maxLen at hs;go_enter Tryz.func37,Tryz.ntmps37;go_wp2;go_loop [3] (fun i=>∃k:Nat,k≤s.size∧i=J k∧(s.data.toList.take k).all okB=τ) (fun i=>s.size - (intOf i).toNat)
 case atStart=>exact⟨0,Jas _,rfl,by simp⟩
 case round=>
  obtain⟨k,hk,rfl,ha⟩:=hrel;have HA:=qh ha;clear ha
  by_cases fh:k<s.size
  ·obtain⟨c,gc⟩:∃c:UInt8,c=s[k]:=⟨_,rfl⟩
   have HGC:=qh gc
   by_cases c1:32≤c.toNat
   ·by_cases c2:c.toNat≤126
    ·have q1:decide ((c.toNat:Int)<32)=ρ:=decide_eq_false (by omega);have q2:decide ((126:Int)<(c.toNat:Int))=ρ:=decide_eq_false (by omega);rw[gc] at q1 q2;have HK:Hid (okB c=τ):=qh (by simp[okB];omega);clear c1 c2 gc;go_wp2;go_round
     case rel=>exact⟨k+1,by omega,by go_num,zn s k fh HA.out (HGC.out▸HK.out)⟩
     case measure=>simp[intOf];omega
    ·have q1:decide ((c.toNat:Int)<32)=ρ:=decide_eq_false (by omega);have q2:decide ((126:Int)<(c.toNat:Int))=τ:=decide_eq_true (by omega);rw[gc] at q1 q2
     have hr:dX s=ρ:=by
      have:okB (s[k]'fh)=ρ:=by rw[←gc];simp[okB];omega
      simp[dX,s8 s k fh this]
     have HR:=qh hr;clear c1 c2 gc hr;go_wp2;go_ret;exact⟨lM HR.out.symm,Θ _ _⟩
   ·have q1:decide ((c.toNat:Int)<32)=τ:=decide_eq_true (by omega);rw[gc] at q1
    have hr:dX s=ρ:=by
     have:okB (s[k]'fh)=ρ:=by rw[←gc];simp[okB];omega
     simp[dX,s8 s k fh this]
    have HR:=qh hr;clear c1 gc hr;go_wp2;go_ret;exact⟨lM HR.out.symm,Θ _ _⟩
  ·have hr:dX s=decide (s.size≤16):=by simp[dX,CT s k (by omega) HA.out]
   by_cases Rr:s.size≤16
   ·rw[decide_eq_true Rr] at hr;have HR:=qh hr;have q:decide ((s.size:Int)≤16)=τ:=decide_eq_true (by omega);clear hr Rr;go_wp2;go_ret;exact⟨lM HR.out.symm,Θ _ _⟩
   ·rw[decide_eq_false Rr] at hr;have HR:=qh hr;have q:decide ((s.size:Int)≤16)=ρ:=decide_eq_false (by omega);clear hr Rr;go_wp2;go_ret;exact⟨lM HR.out.symm,Θ _ _⟩
section
open Go.RowKit Go.Maps
abbrev Rg:=Option Κ × Nat × Nat × List D
abbrev VC:=(Int × Int) × Rg × ByteArray × Int
abbrev EC:=(Int × Int) × ByteArray × Int
def vC (v:VC):List ψ:=[J v.1.1,J v.1.2,γ v.2.1.1 v.2.1.2.1 v.2.1.2.2.1,μ v.2.2.1,J v.2.2.2]
def eC (e:EC):List ψ:=[J e.1.1,J e.1.2,μ e.2.1,J e.2.2]
theorem aQ (v:VC):(vC v).length=5:=rfl
theorem bF (e:EC):(eC e).length=4:=rfl
theorem kA (v:VC):∀u∈vC v,u.oneCell'=τ:=by simp[vC,Τ]
theorem jX (e:EC):∀u∈eC e,u.oneCell'=τ:=by simp[eC,Τ]
def dC (d:D):List ψ:=[J d.1,J d.2.1,J d.2.2]
theorem Vc (d:D):(dC d).length=3:=rfl
theorem mC (l:List D):aA l=aj dC l:=by
 induction l with
 |nil=>rfl
 |cons d l ih=>rw[aA,ih];rfl
def RgOk (w:ο) (r:Rg):Prop:=r.2.2.1≤maxLen∧aX w w.heap.size 3 r.1 r.2.1 r.2.2.1 (aA r.2.2.2)
structure aR (w:ο) (A:Option Κ) (n c:Nat) (Vs:List VC) (B:Option Κ) (m k:Nat) (Es:List EC):Prop where
 v:aX w w.heap.size 5 A n c (aj vC Vs)
 e:aX w w.heap.size 4 B m k (aj eC Es)
 r:∀x∈Vs,RgOk w x.2.1
theorem aR.below {w w':ο} {A B:Option Κ} {n c m k:Nat} {Vs:List VC} {Es:List EC} (h:aR w A n c Vs B m k Es) (hb:σ w.heap.size w w'):aR w' A n c Vs B m k Es:=
 ⟨h.v.bl hb,h.e.bl hb,fun x hx=>⟨(h.r x hx).1,(h.r x hx).2.bl hb⟩⟩
def lF (n:Int):Bool:=decide (-1099511627776≤n∧n≤1099511627776)
end
theorem bS {P:Program} {fn:Func} {R:Ending→ο→Prop} {a:Act} {w:ο} {p:Tmp} {t:Υ} (h:fn.results=#[.cell p t]) (g:Nat) {t':Υ} {cs:List ψ} {d:TypeDesc}
 (hp:a.tmps.getD p undef=υ (ζ ⟨g,0,ε⟩)) (hW:Whole w g t' cs) (hu:P.underlying t=ζ d) (hd:d.isRow=τ) (hi:(P.info? t).map (·.size)=ζ cs.length)
 (RD:a.defers=[]) (hR:R (.returned (φ cs.toArray)) w):bodyPost P fn R .ret a w:=by
 refine bodyPost_ret (v:=φ cs.toArray) ?_ RD hR
 have hl:=run_loadVar_mid (P:=P) w g 0 t cs d (fun j v hv=>by
  have:=hW.cell hv
  simpa using this) hu hd hi
 have wv:=hp;rw[Array.getD_eq_getD_getElem?] at wv;simp[results,h,wv,asAddr,Jbl,Jbw,hl]
def pP:Option (Int × Int)→List (Int × Int)→Bool
 |_,[]=>τ
 |o,x::r=>bQ x.1 x.2 && (match o with|none=>τ|some y=>decide (mH y.1 y.2 x.1 x.2<0)) && pP (ζ x) r
abbrev QI (k:Nat):Prop:=∀(args:Array ψ) (W:ο),(callFunc k args).run η W=.ok (.enter k args) W
theorem rN {k:Nat} {fn:Func} {c:Code} (hf:η.funcs[k]? =ζ fn) (XJ:(fn.name=="runtime.NumGoroutine")=ρ) (hb:fn.body=ζ c):QI k:=fun args W=>by
 have h1:fn.name≠"runtime.NumGoroutine":=by simpa using XJ
 simp[callFunc,Jbl,hf,hb,h1]
theorem RgOk.below {w w':ο} {r:Rg} (h:RgOk w r) (hb:σ w.heap.size w w'):RgOk w' r:=⟨h.1,h.2.bl hb⟩
def uy (v:VC):Bool:=decide (v.2.1.2.2.2=aS v.2.1.2.2.2)
section
open Go.RowKit Go.Maps
def TB (d:D):Prop:=(Lit.int .i64 d.1).wf=true∧(Lit.int .i64 d.2.1).wf=true∧(Lit.int .i64 d.2.2).wf=true
def yK (d:D) (S:List D):List D:=if d∈S then S else d::S
end
section
open Go.RowKit Go.Maps
def Em:List D→List D→Bool
 |S,[]=>decide (S.length=0)
 |S,x::r=>if x∈S then Em (S.erase x) r else ρ
def Ml:List EC→List D→List D
 |[],S=>S
 |e::r,S=>Ml r (yK (e.1.1,e.1.2,1) (yK (e.1.1,e.1.2,0) S))
def aH (Vs:List VC):List D:=Vs.flatMap (·.2.1.2.2.2)
end
section
open Go.RowKit Go.Maps
theorem jH (v:VC) (r:List VC):aH (v::r)=v.2.1.2.2.2++aH r:=rfl
end
def Md (big b0 b1 b2 b3 b4 b5 b6 b7:Bool):Int:=
 if big then 3 else if !(b0 && b1 && b2 && b3) then 10 else if !(b4 && b5) then 4 else if !(b6 && b7) then 1 else 0
def yr (Vs:List VC) (Es:List EC):Int:=
 Md (decide (24<Vs.length∨40<Es.length)) (pP ε (Vs.map (·.1))) (pP ε (Es.map (·.1))) (Vs.all uy) (Em (Ml Es []) (aH Vs))
  (Vs.all (fun v=>dX v.2.2.1)) (Es.all (fun v=>dX v.2.1)) (Vs.all (fun v=>lF v.2.2.2)) (Es.all (fun v=>lF v.2.2))
theorem aX.of_whole {W:ο} {g:Nat} {t:Υ} {cs:List ψ} {n size:Nat} (h:Whole W g t cs) (hl:cs.length=n*size):aX W W.heap.size size (ζ ⟨g,0,ε⟩) n n cs:=
 ⟨hl,fun e=>(by cases e),Δ _,fun a ha _=>(by obtain rfl:=Μ ha;exact h.lt),fun a ha j u hu=>(by
  obtain rfl:=Μ ha;rw[Ν];simpa using h.cell hu)⟩
theorem aX.no (W:ο) (B size:Nat):aX W B size ε 0 0 []:=⟨by simp,fun _=>⟨rfl,rfl⟩,Δ _,fun a h=>(by cases h),fun a h=>(by cases h)⟩
theorem hU:(η.info? 59).map (fun i=>(i.zero,i.size,i.bytes))=ζ (ζ (φ #[J 0,J 0,γ ε 0 0,μ {data:=#[]},J 0]),5,64):=by kernel_rfl
theorem jQ:(η.info? 67).map (fun i=>(i.zero,i.size,i.bytes))=ζ (ζ (φ #[J 0,J 0,μ {data:=#[]},J 0]),4,40):=by kernel_rfl
theorem aW {o:Option TypeInfo} {z:ψ} {s b:Nat} (h:o.map (fun i=>(i.zero,i.size,i.bytes))=ζ (ζ z,s,b)):∃i,o=ζ i∧i.zero=ζ z∧i.size=s∧i.bytes=b:=by
 cases o with
 |none=>simp at h
 |some i=>simp at h;exact⟨i,rfl,h⟩
theorem Ow.low_ne {w W:ο} {B size n g:Nat} {e:Υ} {v:ψ} {xs:List ψ} (h:Ow w B e size v n xs W) (hg:g<B):ζ g≠v.ownBlock:=fun e=>by
 have:=(h.own.lt g e.symm).1
 omega
theorem Ow.set_far {w W:ο} {B size n g i:Nat} {e:Υ} {v:ψ} {xs:List ψ} (h:Ow w B e size v n xs W) (cu:ζ g≠v.ownBlock) (hg:w.heap.size≤g) (u:ψ):Ow w B e size v n xs (W.setCell ⟨g,i,ε⟩ u):=
 ⟨h.own.kept (row:=ζ g) ⟨rfl,rfl,rfl,by simp[JbB],fun k _ hk=>Below.heap_setCell _ _ _ _ (by
  rintro rfl;exact hk rfl)⟩ (by first|exact cu|exact cu.symm|exact .inr cu|exact .inr cu.symm),h.below.setCell hg u,h.lo,by simpa [JbB] using h.hi⟩
theorem Whole.set_far' {W:ο} {g h i:Nat} {t:Υ} {cs:List ψ} (hw:Whole W g t cs) (cu:g≠h) (u:ψ):Whole (W.setCell ⟨h,i,ε⟩ u) g t cs:=
 hw.at_ (Below.heap_setCell _ _ _ _ cu)
def yN (v:VC):VC:=if 30<v.2.1.2.1 then(v.1,(v.2.1.1,30,v.2.1.2.2.1,v.2.1.2.2.2.take 30),v.2.2) else v
theorem aX.far_ {W:ο} {B size n c g i:Nat} {A:Option Κ} {xs:List ψ} (h:aX W B size A n c xs) (cu:∀a,A=ζ a→0<n→a.block≠g) (u:ψ):aX (W.setCell ⟨g,i,ε⟩ u) B size A n c xs:=
 ⟨h.len,h.none_,h.le,h.low,fun a ha j x hx=>(World.cell?_of_block (Below.heap_setCell _ _ _ _ (by
  rw[cJ]
  first|exact cu a ha (h.pos hx)|exact(cu a ha (h.pos hx)).symm))).trans (h.cell a ha j x hx)⟩
theorem RgOk.few {w:ο} {v:VC} (h:RgOk w v.2.1):RgOk w (yN v).2.1:=by
 unfold yN;split
 ·rename_i h30
  refine⟨h.1,?_⟩
  have:=h.2.take_ 30 (by omega)
  rw[mC,←jj dC Vc] at this;show aX w w.heap.size 3 v.2.1.1 30 v.2.1.2.2.1 (aA (v.2.1.2.2.2.take 30));rw[mC];exact this
 ·exact h
end Go.Proofs.YtpdpbfmiahjiiaaGreat
