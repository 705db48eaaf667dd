/- Several texts in one. -/
import Derived.Test.YtpdpbfmiahjiiaaGreatPlAA
import Derived.KernelRfl
import Derived.Test.YtpdpbfmiahjiiaaGreatProg
import Derived.WalkLawsBesides
import Derived.WalkSpells
import Derived.BigQuiet
import Derived.Deep.QuietTactic
import Derived.LoopTactic
import Derived.Outline
import Derived.Laws.RangeAny
import Derived.Laws.RangeString
import Derived.Maps.OwnSet
import Derived.Deep.MidRow
import Derived.Deep.CutBlock
import Derived.DeepKeys4
set_option linter.unusedSectionVars false
set_option linter.unusedSimpArgs false
set_option linter.unusedVariables false
set_option maxRecDepth 100000
set_option maxHeartbeats 16000000
namespace Go.Proofs.YtpdpbfmiahjiiaaGreat
open Go.RowKit
open _root_.Go.Value renaming slice→γ,string→μ,pointer→υ,agg→φ,bool→Β,oneCell'→Τ
open _root_.Go.Obj renaming cells→δ
open _root_.Option renaming none→ε,some→ζ,some→Jae
open _root_.Go.Proofs.Tryz renaming prog→η
open _root_.List renaming getElem?_eq_getElem→θ,getD_eq_getElem?_getD→χ,take_of_length_le→Ι,getElem?_cons_succ→Jag,getElem?_cons_zero→Jah,getElem?_toArray→Jaj,eq_nil_of_length_eq_zero→JaB,nil_append→JaF,take_succ_eq_append_getElem→JaQ
open _root_.Go renaming World→ο,Value→ψ,Calls→Ζ,Addr→Κ,TypeId→Υ,maxLen→Jap,execOp→JaX,yielded→Jbo
open _root_.Bool renaming false→ρ,true→τ
open _root_.Go.RowKit renaming Below→σ
open _root_.Nat renaming le_refl→Δ,le_trans→Λ,zero_le→Jas,zero_add→JaI,lt_or_ge→JaM
open _root_.Go.RowKit.Below renaming refl→Θ
open _root_.Option.some renaming inj→Μ
open _root_.Go.Addr renaming add_lit→Ν
open _root_.Go.Region renaming ready→Jaq,wanted→Jau,Mode→Jbj,noSelect→JbJ,free→JbP
open _root_.Go.Sem renaming run_bind→Jbl
open _root_.Go.Result renaming andThen→Jbw
open _root_.Go.World renaming setCell→JbB
open _root_.Go.Lib renaming run_eql_slice_nil→JbH
theorem aj {α:Type} (a b:α) (l:List α):(a::l).set 0 b=b::l:=rfl
theorem ah {α:Type} (a b:α) (l:List α) (n:Nat):(a::l).set (n+1) b=a::l.set n b:=rfl
theorem ak {α:Type} (l:List α) (i:Nat) (a:α):l.toArray.setIfInBounds i a=(l.set i a).toArray:=by simp only[List.setIfInBounds_toArray]
section
variable {P:Program} {md:Region.Mode} {ops:Array Oper} {S:Nat→Prop} {Q:Exit→Act→World→Prop} (i:Nat) {oi:Oper} {d fuel:Nat} {au:Array Bool} {L L':List Value} {df:_} {w:World} {v:Value}
theorem bN (hi:ops[i]? =some oi:=by simp only[List.getElem?_toArray,List.getElem?_cons_succ,List.getElem?_cons_zero];exact rfl) (hd:oi.dst=some d:=by rfl) (hy:du P ops S oi v {tmps:=L.toArray,defers:=df} w)
 (hL:L.set d v=L':=by(try simp only[aj,ah]);(try exact rfl))
 (h:o4 P md ops S Q fuel (au.setIfInBounds i true) {tmps:=L'.toArray,defers:=df} w)
 (hs:Region.noSelect ops=true:=by kernel_rfl) (hf:Region.free md ops au i=true:=by kernel_rfl) (hc:(Region.ready md ops au).contains i=true:=by kernel_rfl)
 (hQ:∀v c a w,Q (.panic c) (a.put (some d) v) w→Q (.panic c) a w:=by exact fun _ _ _ _ h=>h):o4 P md ops S Q (fuel+1) au {tmps:=L.toArray,defers:=df} w:=by
 subst hL;refine zP i (some d) hi hd hs hf hc hQ ⟨v,hy,?_⟩;simpa only[Act.put,List.setIfInBounds_toArray] using h
theorem aq (h:o4 P md ops S Q fuel (au.setIfInBounds i true) {tmps:=L'.toArray,defers:=df} w)
 (hi:ops[i]? =some oi:=by simp only[List.getElem?_toArray,List.getElem?_cons_succ,List.getElem?_cons_zero];exact rfl) (hw:Region.wanted oi (yielded ops L.toArray)=true:=by rfl)
 (hr:∀w',Kept S w w'→(execOp (Act.eval {tmps:=L.toArray,defers:=df}) oi).run P w'=.ok (.value v) w':=by intro w' aC;go_simp;(try with_reducible rfl))
 (hd:oi.dst=some d:=by rfl) (hL:L.set d v=L':=by(try simp only[aj,ah]);(try exact rfl))
 (hs:Region.noSelect ops=true:=by kernel_rfl) (hf:Region.free md ops au i=true:=by kernel_rfl) (hc:(Region.ready md ops au).contains i=true:=by kernel_rfl)
 (hQ:∀v c a w,Q (.panic c) (a.put (some d) v) w→Q (.panic c) a w:=by exact fun _ _ _ _ h=>h):o4 P md ops S Q (fuel+1) au {tmps:=L.toArray,defers:=df} w:=
 bN i hi hd (dm hw hr) hL h hs hf hc hQ
theorem bP (h:o4 P md ops S Q fuel (au.setIfInBounds i true) {tmps:=L'.toArray,defers:=df} w)
 (hi:ops[i]? =some oi:=by simp only[List.getElem?_toArray,List.getElem?_cons_succ,List.getElem?_cons_zero];exact rfl) (hw:Region.wanted oi (yielded ops L.toArray)=false:=by rfl)
 (hd:oi.dst=some d:=by rfl) (hL:L.set d undef=L':=by(try simp only[aj,ah]);(try exact rfl))
 (hs:Region.noSelect ops=true:=by kernel_rfl) (hf:Region.free md ops au i=true:=by kernel_rfl) (hc:(Region.ready md ops au).contains i=true:=by kernel_rfl)
 (hQ:∀v c a w,Q (.panic c) (a.put (some d) v) w→Q (.panic c) a w:=by exact fun _ _ _ _ h=>h):o4 P md ops S Q (fuel+1) au {tmps:=L.toArray,defers:=df} w:=
 bN i hi hd (OI hw) hL h hs hf hc hQ
theorem rU {a:Act} {d:Option Tmp} {f:FuncId} {args:Array Value} (h:∀w',Ext w w'→Calls P f args w' fun e cD=>∃v,e=.returned v∧Kept S w' cD∧o4 P md ops S Q fuel (au.setIfInBounds i true) (a.put d v) cD)
 (hi:ops[i]? =some oi:=by simp only[List.getElem?_toArray,List.getElem?_cons_succ,List.getElem?_cons_zero];exact rfl) (hd:oi.dst=d:=by first|exact(rfl:_=some _)|exact rfl) (hr:Region.ready md ops au=[i]:=by kernel_rfl) (hw:Region.wanted oi (yielded ops a.tmps)=true:=by rfl)
 (he:∀w',(execOp a.eval oi).run P w'=.ok (.enter f args) w':=by intro w';go_simp;first|done|exact⟨rfl,rfl⟩|with_reducible rfl):o4 P md ops S Q (fuel+1) au a w:=JV i d hi hd hr hw he h
theorem N7 {a:Act} {d:Option Tmp} (h:∀w',Ext w w'→∃v cD,(execOp a.eval oi).run P w'=.ok (.value v) cD∧Kept S w' cD∧o4 P md ops S Q fuel (au.setIfInBounds i true) (a.put d v) cD)
 (hi:ops[i]? =some oi:=by simp only[List.getElem?_toArray,List.getElem?_cons_succ,List.getElem?_cons_zero];exact rfl) (hd:oi.dst=d:=by first|exact(rfl:_=some _)|exact rfl) (hr:Region.ready md ops au=[i]:=by kernel_rfl) (hw:Region.wanted oi (yielded ops a.tmps)=true:=by rfl):o4 P md ops S Q (fuel+1) au a w:=Ov i d hi hd hr hw h
theorem lp {a:Act} (h:∀w',Ext w w'→∃cD,(execOp a.eval oi).run P w'=.ok .skip cD∧Kept S w' cD∧o4 P md ops S Q fuel (au.setIfInBounds i true) a cD)
 (hi:ops[i]? =some oi:=by simp only[List.getElem?_toArray,List.getElem?_cons_succ,List.getElem?_cons_zero];exact rfl) (hd:oi.dst=none:=by rfl) (hr:Region.ready md ops au=[i]:=by kernel_rfl) (hw:Region.wanted oi (yielded ops a.tmps)=true:=by rfl):o4 P md ops S Q (fuel+1) au a w:=Ge i hi hd hr hw h
variable {ts:List Nat}
theorem fw (hi:ops[i]? =some oi:=by simp only[List.getElem?_toArray,List.getElem?_cons_succ,List.getElem?_cons_zero];exact rfl) (hd:oi.dst=some d:=by rfl) (hy:du P ops S oi v {tmps:=L.toArray,defers:=df} w)
 (hL:L.set d v=L':=by(try simp only[aj,ah]);(try exact rfl))
 (h:rH P md ops S ts Q fuel (au.setIfInBounds i true) {tmps:=L'.toArray,defers:=df} w) (ht:uj md ops ts i=true:=by kernel_rfl)
 (hs:Region.noSelect ops=true:=by kernel_rfl) (hf:Region.free md ops au i=true:=by kernel_rfl) (hc:(Region.ready md ops au).contains i=true:=by kernel_rfl)
 (hQ:∀v c a w,Q (.panic c) (a.put (some d) v) w→Q (.panic c) a w:=by exact fun _ _ _ _ h=>h):rH P md ops S ts Q (fuel+1) au {tmps:=L.toArray,defers:=df} w:=by
 subst hL;refine JJ i (some d) ht hi hd hs hf hc hQ ⟨v,hy,?_⟩;simpa only[Act.put,List.setIfInBounds_toArray] using h
theorem bm (h:rH P md ops S ts Q fuel (au.setIfInBounds i true) {tmps:=L'.toArray,defers:=df} w)
 (hi:ops[i]? =some oi:=by simp only[List.getElem?_toArray,List.getElem?_cons_succ,List.getElem?_cons_zero];exact rfl) (hw:Region.wanted oi (yielded ops L.toArray)=true:=by rfl)
 (hr:∀w',Kept S w w'→(execOp (Act.eval {tmps:=L.toArray,defers:=df}) oi).run P w'=.ok (.value v) w':=by intro w' aC;go_simp;(try with_reducible rfl))
 (hd:oi.dst=some d:=by rfl) (hL:L.set d v=L':=by(try simp only[aj,ah]);(try exact rfl)) (ht:uj md ops ts i=true:=by kernel_rfl)
 (hs:Region.noSelect ops=true:=by kernel_rfl) (hf:Region.free md ops au i=true:=by kernel_rfl) (hc:(Region.ready md ops au).contains i=true:=by kernel_rfl)
 (hQ:∀v c a w,Q (.panic c) (a.put (some d) v) w→Q (.panic c) a w:=by exact fun _ _ _ _ h=>h):rH P md ops S ts Q (fuel+1) au {tmps:=L.toArray,defers:=df} w:=
 fw i hi hd (dm hw hr) hL h ht hs hf hc hQ
theorem kC {a:Act} {d:Option Tmp} {f:FuncId} {args:Array Value} (h:∀w',Ext w w'→Calls P f args w' fun e cD=>∃v,e=.returned v∧Kept S w' cD∧rH P md ops S ts Q fuel (au.setIfInBounds i true) (a.put d v) cD)
 (hi:ops[i]? =some oi:=by simp only[List.getElem?_toArray,List.getElem?_cons_succ,List.getElem?_cons_zero];exact rfl) (hd:oi.dst=d:=by first|exact(rfl:_=some _)|exact rfl) (hr:Region.ready md ops au=[i]:=by kernel_rfl) (hw:Region.wanted oi (yielded ops a.tmps)=true:=by rfl)
 (he:∀w',(execOp a.eval oi).run P w'=.ok (.enter f args) w':=by intro w';go_simp;first|done|exact⟨rfl,rfl⟩|with_reducible rfl):rH P md ops S ts Q (fuel+1) au a w:=Bv i d hi hd hr hw he h
theorem lG {a:Act} {d:Option Tmp} (h:∀w',Ext w w'→∃v cD,(execOp a.eval oi).run P w'=.ok (.value v) cD∧Kept S w' cD∧rH P md ops S ts Q fuel (au.setIfInBounds i true) (a.put d v) cD)
 (hi:ops[i]? =some oi:=by simp only[List.getElem?_toArray,List.getElem?_cons_succ,List.getElem?_cons_zero];exact rfl) (hd:oi.dst=d:=by first|exact(rfl:_=some _)|exact rfl) (hr:Region.ready md ops au=[i]:=by kernel_rfl) (hw:Region.wanted oi (yielded ops a.tmps)=true:=by rfl):rH P md ops S ts Q (fuel+1) au a w:=Oy i d hi hd hr hw h
theorem lA {a:Act} (h:∀w',Ext w w'→∃cD,(execOp a.eval oi).run P w'=.ok .skip cD∧rH P md ops S ts Q fuel (au.setIfInBounds i true) a cD)
 (hi:ops[i]? =some oi:=by simp only[List.getElem?_toArray,List.getElem?_cons_succ,List.getElem?_cons_zero];exact rfl) (hd:oi.dst=none:=by rfl) (hr:Region.ready md ops au=[i]:=by kernel_rfl) (hw:Region.wanted oi (yielded ops a.tmps)=true:=by rfl) (hm:i∈ts:=by decide):rH P md ops S ts Q (fuel+1) au a w:=Kz i hi hd hr hw hm h
end
theorem aL {P:Program} {md:Region.Mode} {ops:Array Oper} {Γ:Nat→Value→World→Prop} {G:World→Prop} {a0:Act} {i:Nat} {oi:Oper} (h:∀(x:Nat→Value) (w:World),G w→(∀j∈jw md oi,Γ j (x j) w)→
 (Region.wanted oi (yielded ops (aB x (aM ops) 0 a0).tmps)=true∧Gu P (Γ i) w ((execOp (aB x (aM ops) 0 a0).eval oi).run P w))∨
 (Region.wanted oi (yielded ops (aB x (aM ops) 0 a0).tmps)=false∧Γ i undef w)) (ho:ops[i]? =some oi:=by simp only[List.getElem?_toArray,List.getElem?_cons_succ,List.getElem?_cons_zero];exact rfl):uN P md ops Γ G a0 i:=fun o h2=>by
 rw[ho] at h2;cases h2;exact h
theorem qh {p:Prop} (h:p):Hid p:=Lib.hid h
theorem az {α:Sort _} (a:α):∃z,a=z:=⟨_,rfl⟩
theorem dX {w:World} {g i:Nat} {t:TypeId} {cs:List Value} {v:Value} (h:Whole w g t cs) (hv:cs[i]? =some v):∀w',Kept aT w.drew w'→w'.cell? ⟨g,i,none⟩=some v:=fun w' k=>k.nil_cell (h.drew.cell hv)
theorem dE {w:World} {p:Addr} {v:Value} (h:w.cell? p=some v):∀w',Kept aT w.drew w'→w'.cell? p=some v:=fun w' k=>k.nil_cell h
theorem LJ (w:World) (t0:TypeId) (c0:List Value):∃W b0,w.alloc (.cells c0.toArray t0)=W∧w.heap.size=b0∧Hid (Whole W b0 t0 c0)∧Hid (Below w.heap.size w W)∧Hid (w.heap.size+1≤W.heap.size)∧Hid (w.heap.size=b0)∧Hid (w.heap.size≤b0):=⟨_,_,rfl,rfl,qh ((Whole.new_ w t0 c0)),qh ((Below.refl w.heap.size w).alloc (Nat.le_refl _) _),qh (by simp),qh rfl,qh (by omega)⟩
theorem D8 (w:World) (t0:TypeId) (c0:List Value) (t1:TypeId) (c1:List Value):∃W b0 b1,(w.alloc (.cells c0.toArray t0)).alloc (.cells c1.toArray t1)=W∧w.heap.size=b0∧w.heap.size+1=b1∧Hid (Whole W b0 t0 c0)∧Hid (Whole W b1 t1 c1)∧Hid (Below w.heap.size w W)∧Hid (w.heap.size+1+1≤W.heap.size)∧Hid (w.heap.size=b0)∧Hid (w.heap.size≤b0)∧Hid (w.heap.size+1=b1)∧Hid (w.heap.size≤b1)∧Hid (b0≠b1):=⟨_,_,_,rfl,rfl,rfl,qh ((Whole.new_ w t0 c0).al _),qh ((Whole.new2 (by simp))),qh (aF ((Below.refl w.heap.size w).alloc (Nat.le_refl _) _) _),qh (by simp),qh rfl,qh (by omega),qh rfl,qh (by omega),qh (by omega)⟩
theorem jm (w:World) (t0:TypeId) (c0:List Value) (t1:TypeId) (c1:List Value) (t2:TypeId) (c2:List Value):∃W b0 b1 b2,((w.alloc (.cells c0.toArray t0)).alloc (.cells c1.toArray t1)).alloc (.cells c2.toArray t2)=W∧w.heap.size=b0∧w.heap.size+1=b1∧w.heap.size+1+1=b2∧Hid (Whole W b0 t0 c0)∧Hid (Whole W b1 t1 c1)∧Hid (Whole W b2 t2 c2)∧Hid (Below w.heap.size w W)∧Hid (w.heap.size+1+1+1≤W.heap.size)∧Hid (w.heap.size=b0)∧Hid (w.heap.size≤b0)∧Hid (w.heap.size+1=b1)∧Hid (w.heap.size≤b1)∧Hid (w.heap.size+1+1=b2)∧Hid (w.heap.size≤b2)∧Hid (b0≠b1)∧Hid (b0≠b2)∧Hid (b1≠b2):=⟨_,_,_,_,rfl,rfl,rfl,rfl,qh (((Whole.new_ w t0 c0).al _).al _),qh ((Whole.new2 (by simp)).al _),qh ((Whole.new2 (by simp))),qh (aF (aF ((Below.refl w.heap.size w).alloc (Nat.le_refl _) _) _) _),qh (by simp),qh rfl,qh (by omega),qh rfl,qh (by omega),qh rfl,qh (by omega),qh (by omega),qh (by omega),qh (by omega)⟩
def Pure (k:FuncId) (args:Array ψ) (v:ψ):Prop:=∀w:ο,Ζ η k args w fun e w'=>e=.returned v∧σ w.heap.size w w'
def iv (n:Int):ψ:=J n
def bB (s n:Int):Bool:=decide (1≤s∧s≤8∧1≤n∧n≤1048576)
def tM (a b:Int):Int:=if a<b then -1 else if b<a then 1 else 0
def lS (s n s' n':Int):Int:=if s=s' then tM n n' else tM s s'
def G1 (s n c:Int):Bool:=bB s n && (decide (c=0)||decide (c=1))
def lV (s n c s' n' c':Int):Int:=if s=s'∧n=n' then tM c c' else lS s n s' n'
theorem lq {a b:Int} (h:a=b):Ending.returned (J a)=.returned (J b):=by rw[h]
theorem kP {a b:Bool} (h:a=b):Ending.returned (Β a)=.returned (Β b):=by rw[h]
theorem ax (w:ο) (o:Obj):σ w.heap.size w (w.alloc o):=(Θ _ _).alloc (Δ _) o
theorem bT (w:ο) (o o':Obj):σ w.heap.size w ((w.alloc o).alloc o'):=(ax w o).alloc (by simp) o'
theorem Dj (s n:Int) (w:ο):
 Ζ η 137 #[φ #[J s,J n],φ #[J s,J n]] w fun e w'=>e=.returned (J 0)∧σ w.heap.size w w':=by
 go_enter Tryz.func137,Tryz.ntmps137;go_wp2;go_ret;exact⟨rfl,bT _ _ _⟩
theorem wX (s n s' n':Int) (w:ο) (h:s<s'):
 Ζ η 137 #[φ #[J s,J n],φ #[J s',J n']] w fun e w'=>e=.returned (J (-1))∧σ w.heap.size w w':=by
 have h1:(s==s')=ρ:=by simp;omega
 have h2:(s !=s')=τ:=by simp;omega
 go_enter Tryz.func137,Tryz.ntmps137;go_wp2;go_ret;exact⟨rfl,bT _ _ _⟩
theorem wK (s n s' n':Int) (w:ο) (h:s'<s):
 Ζ η 137 #[φ #[J s,J n],φ #[J s',J n']] w fun e w'=>e=.returned (J 1)∧σ w.heap.size w w':=by
 have h1:(s==s')=ρ:=by simp;omega
 have h2:(s !=s')=τ:=by simp;omega
 have h3:¬s<s':=by omega
 go_enter Tryz.func137,Tryz.ntmps137;go_wp2;go_ret;exact⟨rfl,bT _ _ _⟩
theorem CI (s n n':Int) (w:ο) (h:n<n'):
 Ζ η 137 #[φ #[J s,J n],φ #[J s,J n']] w fun e w'=>e=.returned (J (-1))∧σ w.heap.size w w':=by
 have h1:(n==n')=ρ:=by simp;omega
 go_enter Tryz.func137,Tryz.ntmps137;go_wp2;go_ret;exact⟨rfl,bT _ _ _⟩
theorem DJ (s n n':Int) (w:ο) (h:n'<n):
 Ζ η 137 #[φ #[J s,J n],φ #[J s,J n']] w fun e w'=>e=.returned (J 1)∧σ w.heap.size w w':=by
 have h1:(n==n')=ρ:=by simp;omega
 have h3:¬n<n':=by omega
 go_enter Tryz.func137,Tryz.ntmps137;go_wp2;go_ret;exact⟨rfl,bT _ _ _⟩
theorem xm (s n s' n':Int):Pure 137 #[φ #[J s,J n],φ #[J s',J n']] (J (lS s n s' n')):=fun w=>by
 unfold lS tM
 by_cases e:s=s'
 ·subst e;rw[if_pos rfl]
  by_cases h1:n<n'
  ·rw[if_pos h1];exact CI s n n' w h1
  ·rw[if_neg h1]
   by_cases h2:n'<n
   ·rw[if_pos h2];exact DJ s n n' w h2
   ·rw[if_neg h2];obtain rfl:n=n':=by omega
    exact Dj s n w
 ·rw[if_neg e]
  by_cases h1:s<s'
  ·rw[if_pos h1];exact wX s n s' n' w h1
  ·rw[if_neg h1,if_pos (by omega)];exact wK s n s' n' w (by omega)
theorem below_drewN (B:Nat) (w:ο) (n:Nat):σ B w (w.drewN n):=⟨rfl,rfl,rfl,Δ _,fun _ _=>rfl⟩
theorem aK {w w1:ο} {o:Obj} (hb:σ (w.alloc o).heap.size (w.alloc o) w1):σ w.heap.size w w1:=(ax w o).trans (hb.mono (by simp))
theorem cI {w w1:ο} {o o':Obj} (hb:σ ((w.alloc o).alloc o').heap.size ((w.alloc o).alloc o') w1):σ w.heap.size w w1:=(bT w o o').trans (hb.mono (by simp;omega))
theorem ec {W w1:ο} (hb:σ W.heap.size W w1):(∀b o,b<W.heap.size→w1.cell? ⟨b,o,ε⟩=W.cell? ⟨b,o,ε⟩)∧(∀b o,b<W.heap.size→w1.frozen? ⟨b,o,ε⟩=W.frozen? ⟨b,o,ε⟩):=
 ⟨fun _ _ h=>hb.cell h,fun _ _ h=>hb.frozen h⟩
theorem uy (s n c s' n' c':Int) (w:ο) (h:¬(s=s'∧n=n')):
 Ζ η 167 #[φ #[J s,J n,J c],φ #[J s',J n',J c']] w fun e w'=>e=.returned (J (lS s n s' n'))∧σ w.heap.size w w':=by
 have hm:=qh (xm s n s' n')
 by_cases h0:s=s'
 ·subst h0;have h1:(n==n')=ρ:=by simpa using fun e=>h ⟨rfl,e⟩
  clear h;go_enter Tryz.func167,Tryz.ntmps167;go_wp2_with (first|(go_at_call 137;refine(hm.out _).mono ?_;rintro e w' ⟨rfl,hb⟩;obtain⟨hc,hf⟩:=ec hb))
  go_ret;exact⟨rfl,cI hb⟩
 ·have h1:(s==s')=ρ:=by simpa using h0
  clear h;go_enter Tryz.func167,Tryz.ntmps167;go_wp2_with (first|(go_at_call 137;refine(hm.out _).mono ?_;rintro e w' ⟨rfl,hb⟩;obtain⟨hc,hf⟩:=ec hb))
  go_ret;exact⟨rfl,cI hb⟩
theorem vw (s n c c':Int) (w:ο):
 Ζ η 167 #[φ #[J s,J n,J c],φ #[J s,J n,J c']] w fun e w'=>e=.returned (J (tM c c'))∧σ w.heap.size w w':=by
 unfold tM
 by_cases h1:c<c'
 ·rw[if_pos h1];go_enter Tryz.func167,Tryz.ntmps167;go_wp2;go_ret;exact⟨rfl,bT _ _ _⟩
 ·rw[if_neg h1]
  by_cases h2:c'<c
  ·rw[if_pos h2];go_enter Tryz.func167,Tryz.ntmps167;go_wp2;go_ret;exact⟨rfl,bT _ _ _⟩
  ·rw[if_neg h2];go_enter Tryz.func167,Tryz.ntmps167;go_wp2;go_ret;exact⟨rfl,bT _ _ _⟩
theorem pZ (s n c s' n' c':Int):Pure 167 #[φ #[J s,J n,J c],φ #[J s',J n',J c']] (J (lV s n c s' n' c')):=fun w=>by
 unfold lV
 by_cases h:s=s'∧n=n'
 ·rw[if_pos h];obtain⟨rfl,rfl⟩:=h;exact vw s n c c' w
 ·rw[if_neg h];exact uy s n c s' n' c' w h
theorem qo (s n s' n':Int):Pure 71 #[φ #[J s,J n],φ #[J s',J n']] (J (lS s n s' n')):=fun w=>by
 unfold lS tM
 by_cases e:s=s'
 ·subst e;rw[if_pos rfl]
  by_cases h1:n<n'
  ·rw[if_pos h1];have h3:(n==n')=ρ:=by simp;omega
   go_enter Tryz.func71,Tryz.ntmps71;go_wp2;go_ret;exact⟨rfl,bT _ _ _⟩
  ·rw[if_neg h1]
   by_cases h2:n'<n
   ·rw[if_pos h2];have h3:(n==n')=ρ:=by simp;omega
    go_enter Tryz.func71,Tryz.ntmps71;go_wp2;go_ret;exact⟨rfl,bT _ _ _⟩
   ·rw[if_neg h2];obtain rfl:n=n':=by omega
    clear h1 h2;go_enter Tryz.func71,Tryz.ntmps71;go_wp2;go_ret;exact⟨rfl,bT _ _ _⟩
 ·rw[if_neg e];have h3:(s==s')=ρ:=by simp;omega
  by_cases h1:s<s'
  ·rw[if_pos h1];clear e;go_enter Tryz.func71,Tryz.ntmps71;go_wp2;go_ret;exact⟨rfl,bT _ _ _⟩
  ·rw[if_neg h1,if_pos (by omega)];clear e;go_enter Tryz.func71,Tryz.ntmps71;go_wp2;go_ret;exact⟨rfl,bT _ _ _⟩
theorem cw (a b:Int):(a<b∧tM a b= -1)∨(b<a∧tM a b=1)∨(a=b∧tM a b=0):=by
 unfold tM;split
 ·exact .inl ⟨‹_›,rfl⟩
 ·split
  ·exact .inr (.inl ⟨‹_›,rfl⟩)
  ·exact .inr (.inr ⟨by omega,rfl⟩)
theorem jx (s n s' n':Int):lS s n s' n'=0↔s=s'∧n=n':=by
 unfold lS;have h1:=cw n n';have h2:=cw s s';split<;>omega
theorem nV (s n c s' n' c':Int):Pure 56 #[φ #[J s,J n,J c],φ #[J s',J n',J c']] (J (lV s n c s' n' c')):=fun w=>by
 unfold lV;have hm:=qo s n s' n'
 by_cases h:s=s'∧n=n'
 ·rw[if_pos h];rw[(jx s n s' n').2 h] at hm;have H:=qh hm;clear hm;obtain⟨rfl,rfl⟩:=h;unfold tM
  by_cases h1:c<c'
  ·rw[if_pos h1];go_enter Tryz.func56,Tryz.ntmps56;go_wp2_with (first|(go_at_call 71;refine(H.out _).mono ?_;rintro e w' ⟨rfl,hb⟩;obtain⟨hc,hf⟩:=ec hb))
   go_ret;exact⟨rfl,cI hb⟩
  ·rw[if_neg h1]
   by_cases h2:c'<c
   ·rw[if_pos h2];go_enter Tryz.func56,Tryz.ntmps56;go_wp2_with (first|(go_at_call 71;refine(H.out _).mono ?_;rintro e w' ⟨rfl,hb⟩;obtain⟨hc,hf⟩:=ec hb))
    go_ret;exact⟨rfl,cI hb⟩
   ·rw[if_neg h2];go_enter Tryz.func56,Tryz.ntmps56;go_wp2_with (first|(go_at_call 71;refine(H.out _).mono ?_;rintro e w' ⟨rfl,hb⟩;obtain⟨hc,hf⟩:=ec hb))
    go_ret;exact⟨rfl,cI hb⟩
 ·rw[if_neg h];have hz:lS s n s' n'≠0:=fun e=>h ((jx s n s' n').1 e)
  clear h;generalize lS s n s' n'=x at*;have H:=qh hm;clear hm;have h1:(x !=0)=τ:=by simpa using hz
  clear hz;go_enter Tryz.func56,Tryz.ntmps56;go_wp2_with (first|(go_at_call 71;refine(H.out _).mono ?_;rintro e w' ⟨rfl,hb⟩;obtain⟨hc,hf⟩:=ec hb))
  go_ret;exact⟨rfl,cI hb⟩
theorem rC (s n s' n':Int):lS s' n' s n= - lS s n s' n':=by
 unfold lS;have h1:=cw n n';have h2:=cw s s';have h3:=cw n' n;have h4:=cw s' s;split<;>split<;>omega
theorem qC (s n s' n' s2 n2:Int) (h:lS s n s' n'≤0) (k:lS s' n' s2 n2≤0):lS s n s2 n2≤0:=by
 unfold lS at*;have h1:=cw n n';have h2:=cw s s';have h3:=cw n' n2;have h4:=cw s' s2;have h5:=cw n n2;have h6:=cw s s2;split at h<;>split at k<;>split<;>omega
theorem sP (s n c s' n' c':Int):lV s n c s' n' c'=0↔s=s'∧n=n'∧c=c':=by
 unfold lV;have h1:=cw c c';have h2:=jx s n s' n';split<;>omega
theorem Bc (s n c s' n' c':Int):lV s' n' c' s n c= - lV s n c s' n' c':=by
 unfold lV;have h1:=cw c c';have h2:=cw c' c;have h3:=rC s n s' n';split<;>split<;>omega
theorem vL (s n c s' n' c' s2 n2 c2:Int) (h:lV s n c s' n' c'≤0) (k:lV s' n' c' s2 n2 c2≤0):lV s n c s2 n2 c2≤0:=by
 have h1:=cw c c';have h2:=cw c' c2;have h3:=cw c c2;have h4:=qC s n s' n' s2 n2;have h5:=jx s n s' n';unfold lV at*
 by_cases e1:s=s'∧n=n'
 ·obtain⟨rfl,rfl⟩:=e1;rw[if_pos ⟨rfl,rfl⟩] at h
  by_cases e2:s=s2∧n=n2
  ·rw[if_pos e2] at*;omega
  ·rw[if_neg e2] at*;omega
 ·rw[if_neg e1] at h
  by_cases e2:s'=s2∧n'=n2
  ·obtain⟨rfl,rfl⟩:=e2;rw[if_neg e1];omega
  ·rw[if_neg e2] at k
   by_cases e3:s=s2∧n=n2
   ·obtain⟨rfl,rfl⟩:=e3;have h6:=rC s n s' n';omega
   ·rw[if_neg e3];omega
theorem Ex (s n s' n':Int) (W:ο):(binOp .eql 30 (φ #[J s,J n]) (φ #[J s',J n'])).run η W=.ok (Β (s==s' && n==n')) W:=by
 by_cases h1:s=s'<;>by_cases h2:n=n'<;>simp[go_sem,h1,h2]
theorem ON (s n c s' n' c':Int) (W:ο):(binOp .eql 32 (φ #[J s,J n,J c]) (φ #[J s',J n',J c'])).run η W=.ok (Β ((s==s' && n==n') && c==c')) W:=by
 by_cases h1:s=s'<;>by_cases h2:n=n'<;>by_cases h3:c=c'<;>simp[go_sem,h1,h2,h3]
abbrev D:=Int × Int × Int
def oc (a b:D):Int:=lV a.1 a.2.1 a.2.2 b.1 b.2.1 b.2.2
theorem xE (a b:D):oc a b=0↔a=b:=by
 obtain⟨s,n,c⟩:=a;obtain⟨s',n',c'⟩:=b;simp[oc,sP]
theorem Am (a b:D):oc b a= - oc a b:=Bc _ _ _ _ _ _
theorem DO (a b c:D) (h:oc a b≤0) (k:oc b c≤0):oc a c≤0:=vL _ _ _ _ _ _ _ _ _ h k
theorem FR (a:D):oc a a=0:=(xE a a).2 rfl
def aA:List D→List ψ
 |[]=>[]
 |d::l=>J d.1::J d.2.1::J d.2.2::aA l
theorem bs (l:List D):(aA l).length=l.length*3:=by
 induction l with
 |nil=>rfl
 |cons p l ih=>simp[aA,ih];omega
theorem fa (l m:List D):aA (l++m)=aA l++aA m:=by
 induction l with
 |nil=>rfl
 |cons p l ih=>simp[aA,ih]
theorem AS (l:List D) (k:Nat):aA (l.take k)=(aA l).take (k*3):=by
 induction l generalizing k with
 |nil=>simp[aA]
 |cons p l ih=>
  cases k with
  |zero=>simp[aA]
  |succ k=>
   rw[show(k+1)*3=k*3+3 by omega];simp[aA,ih]
theorem AW (l:List D) (k:Nat):aA (l.drop k)=(aA l).drop (k*3):=by
 induction l generalizing k with
 |nil=>simp[aA]
 |cons p l ih=>
  cases k with
  |zero=>simp[aA]
  |succ k=>
   rw[show(k+1)*3=k*3+3 by omega];simp[aA,ih]
theorem qE (l:List D) (k:Nat) (h:k<l.length):(aA l)[k*3]? =ζ (J (l.getD k (0,0,0)).1)∧(aA l)[k*3+1]? =ζ (J (l.getD k (0,0,0)).2.1)∧(aA l)[k*3+2]? =ζ (J (l.getD k (0,0,0)).2.2):=by
 induction l generalizing k with
 |nil=>simp at h
 |cons p l ih=>
  cases k with
  |zero=>simp[aA]
  |succ k=>
   have:=ih k (by simpa using h)
   have e1:(k+1)*3=k*3+3:=by omega
   have e2:(k+1)*3+1=k*3+1+3:=by omega
   have e3:(k+1)*3+2=k*3+2+3:=by omega
   rw[e2,e3,e1];simpa [aA] using this
theorem dW (l:List D):∀u∈aA l,u.oneCell'=τ:=by
 induction l with
 |nil=>simp[aA]
 |cons p l ih=>
  intro u hu;simp only[aA,List.mem_cons] at hu;rcases hu with rfl|rfl|rfl|hu
  ·rfl
  ·rfl
  ·rfl
  ·exact ih u hu
theorem aS.darts {w:ο} {B n c:Nat} {A:Option Κ} {l:List D} (h:aS w B 3 A n c (aA l)) (hn:0<n):
 ∃b off,A=ζ ⟨b,off,ε⟩∧b<B∧∀k,k<l.length→w.cell? ⟨b,off+k*3,ε⟩=ζ (J (l.getD k (0,0,0)).1)∧w.cell? ⟨b,off+k*3+1,ε⟩=ζ (J (l.getD k (0,0,0)).2.1)∧w.cell? ⟨b,off+k*3+2,ε⟩=ζ (J (l.getD k (0,0,0)).2.2):=by
 have hl:l.length=n:=by
  have:=h.len
  rw[bs] at this;omega
 cases A with
 |none=>exact absurd (h.none_ rfl).1 (by omega)
 |some a=>
  have h0:=h.cell a rfl 0 _ (qE l 0 (by omega)).1
  have ha:∃b off,a=⟨b,off,ε⟩:=by
   obtain⟨b,off,f⟩:=a;cases f with
   |none=>exact⟨b,off,rfl⟩
   |some f=>
    simp[Addr.add,World.cell?] at h0;split at h0<;>cases h0
  obtain⟨b,off,rfl⟩:=ha
  refine⟨b,off,rfl,h.low _ rfl hn,fun k hk=>?_⟩
  obtain⟨g1,g2,g3⟩:=qE l k hk;have e1:=h.cell _ rfl _ _ g1;have e2:=h.cell _ rfl _ _ g2;have e3:=h.cell _ rfl _ _ g3;rw[Ν] at e1 e2 e3;exact⟨e1,e2,e3⟩
theorem aS.dlen {w:ο} {B n c:Nat} {A:Option Κ} {l:List D} (h:aS w B 3 A n c (aA l)):l.length=n:=by
 have:=h.len
 rw[bs] at this;omega
theorem aS.piece {w:ο} {B n c lo hi cap:Nat} {A:Option Κ} {l:List D} (h:aS w B 3 A n c (aA l)) (h1:lo≤hi) (h2:hi≤n) (h3:hi≤cap) (h4:cap≤c):
 aS w B 3 (if cap=lo then A else A.map (·.add (lo*3))) (hi - lo) (cap - lo) (aA ((l.take hi).drop lo)):=by
 have hl:=h.dlen
 refine⟨?_,?_,by omega,?_,?_⟩
 ·rw[bs];simp;omega
 ·intro e;cases A with
  |none=>
   have:=h.none_ rfl
   omega
  |some a=>split at e<;>cases e
 ·intro a ha eS;rw[if_neg (by omega)] at ha;cases A with
  |none=>cases ha
  |some a'=>
   obtain rfl:=Μ ha
   show(Addr.add a' (lo*3)).block<B
   rw[cA];exact h.low a' rfl (by omega)
 ·intro a ha j u hu
  have hj:j<(aA ((l.take hi).drop lo)).length:=by
   rcases JaM j (aA ((l.take hi).drop lo)).length with h|h
   ·exact h
   ·rw[List.getElem?_eq_none h] at hu;cases hu
  rw[bs] at hj;simp at hj;rw[if_neg (by omega)] at ha;cases A with
  |none=>cases ha
  |some a'=>
   obtain rfl:=Μ ha;rw[AW,AS,List.getElem?_drop,List.getElem?_take] at hu;split at hu
   ·have:=h.cell a' rfl _ u hu
    rw[←this];congr 1
    show(Addr.add a' (lo*3)).add j=a'.add (lo*3+j)
    unfold Addr.add
    by_cases hi:lo*3=0<;>by_cases hj:j=0<;>simp[hi,hj,Nat.add_assoc]
    all_goals omega
   ·cases hu
def cG (L:List D):Nat→Nat
 |0=>0
 |k+1=>if oc (L.getD k (0,0,0)) (L.getD (cG L k) (0,0,0))<0 then k else cG L k
theorem pD (L:List D) (k:Nat) (h:0<k):cG L k<k:=by
 induction k with
 |zero=>omega
 |succ k ih=>
  simp only[cG];split
  ·omega
  ·rcases Nat.eq_zero_or_pos k with h0|h0
   ·subst h0;simp[cG]
   ·have:=ih h0
    omega
theorem mC (L:List D) (k:Nat):cG L k≤k:=by
 rcases Nat.eq_zero_or_pos k with h|h
 ·subst h;simp[cG]
 ·exact Nat.le_of_lt (pD L k h)
def aJ (L:List D):List D:=L.drop (cG L L.length)++L.take (cG L L.length)
def fI (L:List D) (d:D):Int:=if d∈L then(L.idxOf d:Int) else -1
theorem oF (x y:D) (W:ο):(binOp .eql 32 (φ #[J x.1,J x.2.1,J x.2.2]) (φ #[J y.1,J y.2.1,J y.2.2])).run η W=.ok (Β (decide (x=y))) W:=by
 rw[ON];congr 2;rw[Bool.eq_iff_iff];obtain⟨x1,x2,x3⟩:=x;obtain⟨y1,y2,y3⟩:=y;simp[and_assoc]
theorem kj (x y:D) (W:ο):(binOp .neq 32 (φ #[J x.1,J x.2.1,J x.2.2]) (φ #[J y.1,J y.2.1,J y.2.2])).run η W=.ok (Β (!decide (x=y))) W:=by
 obtain⟨x1,x2,x3⟩:=x;obtain⟨y1,y2,y3⟩:=y
 by_cases h1:x1=y1<;>by_cases h2:x2=y2<;>by_cases h3:x3=y3<;>simp[go_sem,h1,h2,h3]
theorem KA (L:List D) (d:D) (k:Nat) (h:L.getD k (0,0,0)=d) (hk:k<L.length):L.idxOf d≤k:=by
 induction L generalizing k with
 |nil=>simp at hk
 |cons x L ih=>
  rw[List.idxOf_cons]
  by_cases e:x=d
  ·have hb:(x==d)=τ:=by rw[beq_iff_eq];exact e
   rw[hb];exact Jas _
  ·have hb:(x==d)=ρ:=by rw[beq_eq_false_iff_ne];exact e
   rw[hb];cases k with
   |zero=>exact absurd (by simpa using h) e
   |succ k=>
    have:=ih k (by simpa using h) (by simpa using hk)
    show L.idxOf d+1≤k+1;omega
theorem Fy {L:List D} {d:D} {k:Nat} (hk:k<L.length) (he:L.getD k (0,0,0)=d) (hn:∀j,j<k→L.getD j (0,0,0)≠d):fI L d=k:=by
 have hm:d∈L:=by
  rw[←he,χ,θ hk];exact List.getElem_mem hk
 have hi:L.idxOf d<L.length:=List.idxOf_lt_length_of_mem hm;have hg:L[L.idxOf d]=d:=List.getElem_idxOf hi;rw[fI,if_pos hm];have h1:¬L.idxOf d<k:=fun h=>hn _ h (by rw[χ,θ hi];exact hg)
 have h2:¬k<L.idxOf d:=fun h=>by
  have h3:=KA L d k he hk;omega
 omega
theorem Ah {L:List D} {d:D} (hn:∀j,j<L.length→L.getD j (0,0,0)≠d):fI L d= -1:=by
 rw[fI,if_neg];intro hm;have hi:L.idxOf d<L.length:=List.idxOf_lt_length_of_mem hm;exact hn _ hi (by rw[χ,θ hi];exact List.getElem_idxOf hi)
def EF (w:ο) (L:List D) (d:D) (k:Nat) (x:ο):Prop:=
 (∀j,j<k→L.getD j (0,0,0)≠d)∧Whole x w.heap.size 32 [J d.1,J d.2.1,J d.2.2]∧σ w.heap.size w x
theorem CW (A:Option Κ) (n c:Nat) (L:List D) (d:D) (w:ο) (h:aS w w.heap.size 3 A n c (aA L)) (hn:n≤9223372036854775807):
 Ζ η 161 #[γ A n c,φ #[J d.1,J d.2.1,J d.2.2]] w fun e w'=>e=.returned (J (fI L d))∧σ w.heap.size w w':=by
 have hl:=h.dlen;have HL:=qh hl;have H:=qh h;have HS:Hid (EF w L d 0 (w.alloc (δ #[J d.1,J d.2.1,J d.2.2] 32))):=⟨fun j hj=>absurd hj (by omega),Whole.new_ w _ [J d.1,J d.2.1,J d.2.2],ax _ _⟩;clear h hl;go_enter Tryz.func161,Tryz.ntmps161;go_wp2;go_loopw [8] (fun i wr=>∃k:Nat,k≤n∧i=J k∧EF w L d k wr) (fun i _=>n - (intOf i).toNat)
 case atStart=>exact⟨0,Jas _,rfl,HS.out⟩
 case round=>
  obtain⟨k,hk,rfl,h1,h2,h3⟩:=hrel;have H1:=qh h1;have H2:=qh h2;have H3:=qh h3;clear h1 HS
  by_cases eS:k<n
  ·obtain⟨b,off,rfl,hb,hc⟩:=H.out.darts (by omega);obtain⟨c1,c2,c3⟩:=hc k (by rw[HL.out];exact eS);have d1:=(h3.cell (p:=⟨b,off+k*3,ε⟩) hb).trans c1;have d2:=(h3.cell (p:=⟨b,off+k*3+1,ε⟩) hb).trans c2;have d3:=(h3.cell (p:=⟨b,off+k*3+2,ε⟩) hb).trans c3;have b1:=h2.cell (i:=0) rfl;have b2:=h2.cell (i:=1) rfl;have b3:=h2.cell (i:=2) rfl;obtain⟨x,gx⟩:=az (L.getD k (0,0,0));rw[gx] at d1 d2 d3;have GX:=qh gx;have hq:=oF d x;clear h2 h3 hc c1 c2 c3 gx
   by_cases hd:d=x
   ·have BU:decide (d=x)=τ:=by simpa using hd
    rw[BU] at hq;have HD:=qh hd;clear hd BU;go_wp2;go_quiet (fail);go_wp2;go_ret;exact⟨lq (by rw[Fy (by rw[HL.out];exact eS) (GX.out.trans HD.out.symm) H1.out]),⟨H3.out.os,H3.out.tape,H3.out.output,H3.out.size,H3.out.block⟩⟩
   ·have BU:decide (d=x)=ρ:=by simpa using hd
    rw[BU] at hq;have HD:=qh hd;clear hd BU;go_wp2;go_quiet (fail);go_wp2;go_roundw
    case rel=>
     refine⟨k+1,by omega,by go_num,fun j hj=>?_,H2.out,⟨H3.out.os,H3.out.tape,H3.out.output,H3.out.size,H3.out.block⟩⟩
     rcases JaM j k with h|h
     ·exact H1.out j h
     ·obtain rfl:j=k:=by omega
      rw[GX.out];exact fun e=>HD.out e.symm
    case measure=>simp[intOf];omega
  ·clear h2 h3;go_wp2;go_ret
   refine⟨lq ?_,H3.out⟩
   rw[Ah];intro j hj;exact H1.out j (by have:=HL.out;omega)
theorem qx (A:Option Κ) (n c:Nat) (L:List D) (d:D) (w:ο) (h:aS w w.heap.size 3 A n c (aA L)) (hn:n≤9223372036854775807):
 Ζ η 144 #[γ A n c,φ #[J d.1,J d.2.1,J d.2.2]] w fun e w'=>e=.returned (J (fI L d))∧σ w.heap.size w w':=by
 have HI:=qh (fun W h=>CW A n c L d W h hn);have H:=qh h;clear h;go_enter Tryz.func144,Tryz.ntmps144;go_wp2_with (go_at_call 161;refine(HI.out _ (by exact H.out.up (ax _ _) (by simp))).mono ?_;rintro e w2 ⟨rfl,hb⟩)
 go_ret;exact⟨rfl,aK hb⟩
theorem mz:(η.info? 32).map (fun i=>(i.zero,i.size,i.bytes))=ζ (ζ (φ #[J 0,J 0,J 0]),3,24):=by kernel_rfl
def YZ (w:ο) (L:List D) (e:Ending) (w':ο):Prop:=
 ∃A c,e=.returned (γ A L.length c)∧aS w' w'.heap.size 3 A L.length c (aA L)∧σ w.heap.size w w'
structure xg (w:ο) (A:Option Κ) (n:Nat) (Ps:List (List D)):Prop where
 len:Ps.length=n
 part:∀k,k<n→∃b off A' c',A=ζ ⟨b,off,ε⟩∧b<w.heap.size∧w.cell? ⟨b,off+k,ε⟩=ζ (.slice A' (Ps.getD k []).length c')∧aS w w.heap.size 3 A' (Ps.getD k []).length c' (aA (Ps.getD k []))
theorem xg.up {w w':ο} {A:Option Κ} {n:Nat} {Ps:List (List D)} (h:xg w A n Ps) (hb:σ w.heap.size w w'):xg w' A n Ps:=
 ⟨h.len,fun k hk=>by
  obtain⟨b,off,A',c',e,fe,hc,hr⟩:=h.part k hk;exact⟨b,off,A',c',e,Nat.lt_of_lt_of_le fe hb.size,(hb.cell fe).trans hc,hr.up hb hb.size⟩⟩
theorem GU (Ps:List (List D)) (k:Nat) (hk:k<Ps.length):(Ps.take (k+1)).flatten=(Ps.take k).flatten++Ps.getD k []:=by
 rw[JaQ hk,List.flatten_append];simp[hk]
theorem ML (Ps:List (List D)) (k:Nat):(Ps.take k).flatten.length≤Ps.flatten.length:=by
 conv=>rhs;rw[←List.take_append_drop k Ps,List.flatten_append,List.length_append]
 omega
theorem qv:η.underlying 57=ζ (.slice (η.elem 57)):=by kernel_rfl
theorem qG (W:ο):(sizeOf (η.elem 57)).run η W=.ok 3 W:=by kernel_rfl
theorem VJ (A:Option Κ) (n c hi:Nat) (h1:hi≤n) (h2:n≤c):∃X,(∀W,(Instr.slice 57 (γ A n c) ε (ζ (J (hi:Int))) ε).run η W=.ok (γ X hi c) W)∧
 ∀W B L,aS W B 3 A n c (aA L)→aS W B 3 X hi c (aA (L.take hi)):=by
 refine⟨if c=0 then A else A.map (·.add (0*3)),fun W=>?_,fun W B L h=>?_⟩
 ·rw[run_slice_h W 57 A n c qv .i64 hi (by omega) (by omega),qG];simp[sliced,Jbw]
 ·have:=h.piece (lo:=0) (Jas _) h1 (Λ h1 h2) (Δ c)
  simpa using this
theorem X7 (A:Option Κ) (n c lo:Nat) (h1:lo≤n) (h2:n≤c):∃X,(∀W,(Instr.slice 57 (γ A n c) (ζ (J (lo:Int))) ε ε).run η W=.ok (γ X (n - lo) (c - lo)) W)∧
 ∀W B L,aS W B 3 A n c (aA L)→aS W B 3 X (n - lo) (c - lo) (aA (L.drop lo)):=by
 refine⟨if c=lo then A else A.map (·.add (lo*3)),fun W=>?_,fun W B L h=>?_⟩
 ·rw[run_slice_l W 57 A n c qv .i64 lo (by omega) (by omega),qG];simp[sliced,Jbw]
 ·have:=h.piece h1 (Δ n) h2 (Δ c)
  rwa [Ι (by rw[h.dlen];omega)] at this
theorem ee (L:List D):(aJ L).length=L.length:=by
 have:=mC L L.length
 simp[aJ];omega
theorem R4 {w:ο} {g n c:Nat} {t:Υ} {A:Option Κ} {L:List D} (hg:Whole w g t [γ A n c]) (hr:aS w w.heap.size 3 A n c (aA L)):xg w (ζ ⟨g,0,ε⟩) 1 [L]:=by
 have:=hr.dlen
 subst this
 refine⟨rfl,fun k hk=>?_⟩
 obtain rfl:k=0:=by omega
 exact⟨g,0,A,c,rfl,hg.lt,hg.cell rfl,hr⟩
theorem QX {w:ο} {g n c n' c':Nat} {t:Υ} {A A':Option Κ} {L L':List D} (hg:Whole w g t [γ A n c,γ A' n' c']) (hr:aS w w.heap.size 3 A n c (aA L)) (zp:aS w w.heap.size 3 A' n' c' (aA L')):xg w (ζ ⟨g,0,ε⟩) 2 [L,L']:=by
 have:=hr.dlen
 have:=zp.dlen
 subst n n'
 refine⟨rfl,fun k hk=>?_⟩
 rcases (show k=0∨k=1 by omega) with rfl|rfl
 ·exact⟨g,0,A,c,rfl,hg.lt,hg.cell rfl,hr⟩
 ·exact⟨g,0,A',c',rfl,hg.lt,hg.cell rfl,zp⟩
theorem aS.whole3 {w:ο} {g:Nat} {t:Υ} {L:List D} (hw:Whole w g t (aA L)):aS w w.heap.size 3 (ζ ⟨g,0,ε⟩) L.length L.length (aA L):=
 ⟨bs L,fun e=>(by cases e),Δ _,fun a e _=>(by obtain rfl:=Μ e;exact hw.lt),fun a e j u hj=>(by
  obtain rfl:=Μ e;rw[Ν];simpa using hw.cell hj)⟩
theorem M8 (s n:Int) (w:ο) (h1:1≤s) (h2:s≤8) (h3:1≤n) (h4:n≤1048576):
 Ζ η 64 #[φ #[J s,J n]] w fun e w'=>e=.returned (Β τ)∧σ w.heap.size w w':=by
 go_enter Tryz.func64,Tryz.ntmps64;go_wp2;go_ret;exact⟨rfl,ax _ _⟩
theorem RO (s n:Int) (w:ο) (h:¬(1≤s∧s≤8∧1≤n∧n≤1048576)):
 Ζ η 64 #[φ #[J s,J n]] w fun e w'=>e=.returned (Β ρ)∧σ w.heap.size w w':=by
 by_cases h1:1≤s
 ·by_cases h2:s≤8
  ·by_cases h3:1≤n
   ·have h4:¬n≤1048576:=by omega
    go_enter Tryz.func64,Tryz.ntmps64;go_wp2;go_ret;exact⟨rfl,ax _ _⟩
   ·clear h;go_enter Tryz.func64,Tryz.ntmps64;go_wp2;go_ret;exact⟨rfl,ax _ _⟩
  ·clear h;go_enter Tryz.func64,Tryz.ntmps64;go_wp2;go_ret;exact⟨rfl,ax _ _⟩
 ·clear h;go_enter Tryz.func64,Tryz.ntmps64;go_wp2;go_ret;exact⟨rfl,ax _ _⟩
theorem iU (s n:Int):Pure 64 #[φ #[J s,J n]] (Β (bB s n)):=fun w=>by
 by_cases h:1≤s∧s≤8∧1≤n∧n≤1048576
 ·rw[show bB s n=τ from decide_eq_true h];exact M8 s n w h.1 h.2.1 h.2.2.1 h.2.2.2
 ·rw[show bB s n=ρ from decide_eq_false h];exact RO s n w h
theorem bp (s n:Int):Pure 28 #[φ #[J s,J n]] (Β (bB s n)):=fun w=>by
 by_cases h:1≤s∧s≤8∧1≤n∧n≤1048576
 ·rw[show bB s n=τ from decide_eq_true h];obtain⟨h1,h2,h3,h4⟩:=h;go_enter Tryz.func28,Tryz.ntmps28;go_wp2;go_ret;exact⟨rfl,ax _ _⟩
 ·rw[show bB s n=ρ from decide_eq_false h]
  by_cases h1:1≤s
  ·by_cases h2:s≤8
   ·by_cases h3:1≤n
    ·have h4:¬n≤1048576:=by omega
     clear h;go_enter Tryz.func28,Tryz.ntmps28;go_wp2;go_ret;exact⟨rfl,ax _ _⟩
    ·clear h;go_enter Tryz.func28,Tryz.ntmps28;go_wp2;go_ret;exact⟨rfl,ax _ _⟩
   ·clear h;go_enter Tryz.func28,Tryz.ntmps28;go_wp2;go_ret;exact⟨rfl,ax _ _⟩
  ·clear h;go_enter Tryz.func28,Tryz.ntmps28;go_wp2;go_ret;exact⟨rfl,ax _ _⟩
def okB (c:UInt8):Bool:=decide (32≤c.toNat∧c.toNat≤126)
def dv (s:ByteArray):Bool:=decide (s.size≤16) && s.data.toList.all okB
theorem Cs (s:ByteArray) (k:Nat) (h:k<s.size):s.data.toList.take (k+1)=s.data.toList.take k++[s[k]]:=by
 rw[JaQ (by simpa using h)];rfl
theorem xG (s:ByteArray) (k:Nat) (h:k<s.size) (ha:(s.data.toList.take k).all okB=τ) (hk:okB s[k]=τ):(s.data.toList.take (k+1)).all okB=τ:=by
 rw[Cs s k h,List.all_append,ha];simp[hk]
theorem rm (s:ByteArray) (k:Nat) (h:k<s.size) (hk:okB s[k]=ρ):s.data.toList.all okB=ρ:=by
 rw[List.all_eq_false]
 refine⟨s[k],?_,by simp[hk]⟩
 show s.data[k]∈s.data.toList;simp
theorem Bh (s:ByteArray) (k:Nat) (h:s.size≤k) (ha:(s.data.toList.take k).all okB=τ):s.data.toList.all okB=τ:=by
 rwa [Ι (by simpa using h)] at ha
theorem F3 (s:ByteArray) (pos:Nat) (h:pos<s.size):∃c wd,Utf8.decode s pos=(c,wd)∧1≤wd∧((s[pos].toNat<128∧c=s[pos].toNat∧wd=1)∨(128≤s[pos].toNat∧128≤c)):=by
 by_cases ha:s[pos].toNat<128
 ·exact⟨_,_,decode_ascii s pos h ha,Δ _,.inl ⟨ha,rfl,rfl⟩⟩
 ·have hh:=decode_high s pos h (by omega);exact⟨_,_,rfl,hh.2,.inr ⟨by omega,hh.1⟩⟩
theorem AV (P:Program) (w:ο) (s:ByteArray) (pos:Nat) (h:pos<s.size) {c wd:Nat} (hd:Utf8.decode s pos=(c,wd)) (ty:Υ):
 (Instr.next (υ (ζ ⟨w.heap.size,0,ε⟩)) τ ty).run P (w.iter s pos)=.ok (.tuple #[Β τ,J pos,.int .i32 c]) (w.iter s (pos+wd)):=by
 simp only[Instr.next,getObj,setObj,Jbl,Sem.run,World.iter_heap,Jbw,h,if_true,hd,World.iter_set];simp[goInt,Sem.run,World.iter_heap,World.iter_set]
theorem rE (s:ByteArray):Pure 67 #[μ s] (Β (dv s)):=fun w=>by
 by_cases OK:s.size≤16
 case neg=>
  have hr:dv s=ρ:=by simp[dv,OK]
  have hq:decide ((16:Int)<(s.size:Int))=τ:=decide_eq_true (by omega);rw[hr];clear hr OK;go_enter Tryz.func67,Tryz.ntmps67;go_wp2;go_ret;exact⟨rfl,Θ _ _⟩
 have hq:decide ((16:Int)<(s.size:Int))=ρ:=decide_eq_false (by omega);have HS:=qh OK;clear OK;go_enter Tryz.func67,Tryz.ntmps67;go_wp2;clear hq;go_loopw [] (fun w'=>∃pos:Nat,w'=w.iter s pos∧(s.data.toList.take pos).all okB=τ) (fun w'=>s.size - w'.iterPos w.heap.size)
 case atStart=>exact⟨0,rfl,by simp⟩
 case round=>
  obtain⟨pos,rfl,ha⟩:=hrel;have HA:=qh ha;clear ha
  by_cases hp:pos<s.size
  ·obtain⟨c,wd,hd,hwd,hc⟩:=F3 s pos hp;have Pz:=fun ty=>AV η w s pos hp hd ty
   have HW:=qh hwd;clear hd hwd
   by_cases c1:32≤c
   ·by_cases c2:c≤126
    ·have q1:decide ((c:Int)<32)=ρ:=decide_eq_false (by omega);have q2:decide ((126:Int)<(c:Int))=ρ:=decide_eq_false (by omega);have ES:=qh c1;have OW:=qh c2;clear c1 c2;have HC:=qh hc;have HP:=qh hp;clear hc;go_wp2;go_roundw
     case rel=>
      rcases HC.out with⟨h1,rfl,rfl⟩|⟨h1,h2⟩
      ·exact⟨pos+1,rfl,xG s pos hp HA.out (by have a:=ES.out;have b:=OW.out;simpa [okB] using ⟨a,b⟩)⟩
      ·have:=OW.out
       omega
     case measure=>
      have a:=hp;have b:=HW.out;simp;omega
    ·have q1:decide ((c:Int)<32)=ρ:=decide_eq_false (by omega);have q2:decide ((126:Int)<(c:Int))=τ:=decide_eq_true (by omega)
     have hr:dv s=ρ:=by
      have:okB (s[pos]'hp)=ρ:=by
       rcases hc with⟨h1,h2,h3⟩|⟨h1,h2⟩
       ·simp[okB];omega
       ·simp[okB];omega
      simp[dv,rm s pos hp this]
     have HR:=qh hr;clear c1 c2 hr;go_wp2;go_ret;exact⟨kP HR.out.symm,ax _ _⟩
   ·have q1:decide ((c:Int)<32)=τ:=decide_eq_true (by omega)
    have hr:dv s=ρ:=by
     have:okB (s[pos]'hp)=ρ:=by
      rcases hc with⟨h1,h2,h3⟩|⟨h1,h2⟩
      ·simp[okB];omega
      ·omega
     simp[dv,rm s pos hp this]
    have HR:=qh hr;clear c1 hr;go_wp2;go_ret;exact⟨kP HR.out.symm,ax _ _⟩
  ·have hr:dv s=τ:=by simp[dv,HS.out,Bh s pos (by omega) HA.out]
   have Pz:∀ty,(Instr.next (υ (ζ ⟨w.heap.size,0,ε⟩)) τ ty).run η (w.iter s pos)=_:=fun ty=>run_next_end w s pos ty hp
   have HR:=qh hr;clear hp hr;go_wp2;go_ret;exact⟨kP HR.out.symm,ax _ _⟩
theorem p5 (s:ByteArray) (hs:s.size≤Jap):Pure 37 #[μ s] (Β (dv s)):=fun w=>by
 unfold Jap at hs;go_enter Tryz.func37,Tryz.ntmps37;go_wp2;go_loop [3] (fun i=>∃k:Nat,k≤s.size∧i=J k∧(s.data.toList.take k).all okB=τ) (fun i=>s.size - (intOf i).toNat)
 case atStart=>exact⟨0,Jas _,rfl,by simp⟩
 case round=>
  obtain⟨k,hk,rfl,ha⟩:=hrel;have HA:=qh ha;clear ha
  by_cases eS:k<s.size
  ·obtain⟨c,gc⟩:∃c:UInt8,c=s[k]:=⟨_,rfl⟩
   have HGC:=qh gc
   by_cases c1:32≤c.toNat
   ·by_cases c2:c.toNat≤126
    ·have q1:decide ((c.toNat:Int)<32)=ρ:=decide_eq_false (by omega);have q2:decide ((126:Int)<(c.toNat:Int))=ρ:=decide_eq_false (by omega);rw[gc] at q1 q2;have HK:Hid (okB c=τ):=qh (by simp[okB];omega);clear c1 c2 gc;go_wp2;go_round
     case rel=>exact⟨k+1,by omega,by go_num,xG s k eS HA.out (HGC.out▸HK.out)⟩
     case measure=>simp[intOf];omega
    ·have q1:decide ((c.toNat:Int)<32)=ρ:=decide_eq_false (by omega);have q2:decide ((126:Int)<(c.toNat:Int))=τ:=decide_eq_true (by omega);rw[gc] at q1 q2
     have hr:dv s=ρ:=by
      have:okB (s[k]'eS)=ρ:=by rw[←gc];simp[okB];omega
      simp[dv,rm s k eS this]
     have HR:=qh hr;clear c1 c2 gc hr;go_wp2;go_ret;exact⟨kP HR.out.symm,Θ _ _⟩
   ·have q1:decide ((c.toNat:Int)<32)=τ:=decide_eq_true (by omega);rw[gc] at q1
    have hr:dv s=ρ:=by
     have:okB (s[k]'eS)=ρ:=by rw[←gc];simp[okB];omega
     simp[dv,rm s k eS this]
    have HR:=qh hr;clear c1 gc hr;go_wp2;go_ret;exact⟨kP HR.out.symm,Θ _ _⟩
  ·have hr:dv s=decide (s.size≤16):=by simp[dv,Bh s k (by omega) HA.out]
   by_cases OK:s.size≤16
   ·rw[decide_eq_true OK] at hr;have HR:=qh hr;have q:decide ((s.size:Int)≤16)=τ:=decide_eq_true (by omega);clear hr OK;go_wp2;go_ret;exact⟨kP HR.out.symm,Θ _ _⟩
   ·rw[decide_eq_false OK] at hr;have HR:=qh hr;have q:decide ((s.size:Int)≤16)=ρ:=decide_eq_false (by omega);clear hr OK;go_wp2;go_ret;exact⟨kP HR.out.symm,Θ _ _⟩
section
open Go.RowKit Go.Maps
abbrev Rg:=Option Κ × Nat × Nat × List D
abbrev VC:=(Int × Int) × Rg × ByteArray × Int
abbrev EC:=(Int × Int) × ByteArray × Int
def vC (v:VC):List ψ:=[J v.1.1,J v.1.2,γ v.2.1.1 v.2.1.2.1 v.2.1.2.2.1,μ v.2.2.1,J v.2.2.2]
def eC (e:EC):List ψ:=[J e.1.1,J e.1.2,μ e.2.1,J e.2.2]
theorem aN (v:VC):(vC v).length=5:=rfl
theorem cM (e:EC):(eC e).length=4:=rfl
theorem j3 (v:VC):∀u∈vC v,u.oneCell'=τ:=by simp[vC,Τ]
theorem qg (e:EC):∀u∈eC e,u.oneCell'=τ:=by simp[eC,Τ]
def dC (d:D):List ψ:=[J d.1,J d.2.1,J d.2.2]
theorem Ra (d:D):(dC d).length=3:=rfl
theorem lI (l:List D):aA l=ao dC l:=by
 induction l with
 |nil=>rfl
 |cons d l ih=>rw[aA,ih];rfl
def RgOk (w:ο) (r:Rg):Prop:=r.2.2.1≤Jap∧aS w w.heap.size 3 r.1 r.2.1 r.2.2.1 (aA r.2.2.2)
structure aO (w:ο) (A:Option Κ) (n c:Nat) (Vs:List VC) (B:Option Κ) (m k:Nat) (Es:List EC):Prop where
 v:aS w w.heap.size 5 A n c (ao vC Vs)
 e:aS w w.heap.size 4 B m k (ao eC Es)
 r:∀x∈Vs,RgOk w x.2.1
theorem aO.below {w w':ο} {A B:Option Κ} {n c m k:Nat} {Vs:List VC} {Es:List EC} (h:aO w A n c Vs B m k Es) (hb:σ w.heap.size w w'):aO w' A n c Vs B m k Es:=
 ⟨h.v.bl hb,h.e.bl hb,fun x hx=>⟨(h.r x hx).1,(h.r x hx).2.bl hb⟩⟩
def kt (n:Int):Bool:=decide (-1099511627776≤n∧n≤1099511627776)
end
theorem bz {P:Program} {fn:Func} {R:Ending→ο→Prop} {a:Act} {w:ο} {p:Tmp} {t:Υ} (h:fn.results=#[.cell p t]) (g:Nat) {t':Υ} {cs:List ψ} {d:TypeDesc}
 (hp:a.tmps.getD p undef=υ (ζ ⟨g,0,ε⟩)) (hW:Whole w g t' cs) (hu:P.underlying t=ζ d) (hd:d.isRow=τ) (hi:(P.info? t).map (·.size)=ζ cs.length)
 (Rq:a.defers=[]) (hR:R (.returned (φ cs.toArray)) w):bodyPost P fn R .ret a w:=by
 refine bodyPost_ret (v:=φ cs.toArray) ?_ Rq hR
 have hl:=run_loadVar_mid (P:=P) w g 0 t cs d (fun j v hv=>by
  have:=hW.cell hv
  simpa using this) hu hd hi
 have Fj:=hp;rw[Array.getD_eq_getD_getElem?] at Fj;simp[results,h,Fj,asAddr,Jbl,Jbw,hl]
def oT:Option (Int × Int)→List (Int × Int)→Bool
 |_,[]=>τ
 |o,x::r=>bB x.1 x.2 && (match o with|none=>τ|some y=>decide (lS y.1 y.2 x.1 x.2<0)) && oT (ζ x) r
theorem TY (v:VC) (w:ο):Ζ η 159 #[φ (vC v).toArray] w fun e w'=>e=.returned (φ #[J v.1.1,J v.1.2])∧σ w.heap.size w w':=by
 obtain⟨⟨i1,i2⟩,⟨rA,rn,rc,rL⟩,lb,at_⟩:=v;show Ζ η 159 #[φ #[J i1,J i2,γ rA rn rc,μ lb,J at_]] w _;go_enter Tryz.func159,Tryz.ntmps159;go_wp2;have hW:=Whole.new_ (w.alloc (δ (#[J i1,J i2,γ rA rn rc,μ lb,J at_]) 59)) 30 [J i1,J i2];simp only[World.size_alloc] at hW;refine bz rfl (w.heap.size+1) rfl hW Tryz.underlying30 rfl (by kernel_rfl) rfl ?_;exact⟨rfl,by first|exact bT _ _ _|exact(bT _ _ _).setCell (by simp) _|exact((bT _ _ _).setCell (by simp) _).setCell (by simp) _⟩
abbrev Sv (k:Nat):Prop:=∀(args:Array ψ) (W:ο),(callFunc k args).run η W=.ok (.enter k args) W
theorem uQ {k:Nat} {fn:Func} {c:Code} (hf:η.funcs[k]? =ζ fn) (Ub:(fn.name=="runtime.NumGoroutine")=ρ) (hb:fn.body=ζ c):Sv k:=fun args W=>by
 have h1:fn.name≠"runtime.NumGoroutine":=by simpa using Ub
 simp[callFunc,Jbl,hf,hb,h1]
theorem RgOk.below {w w':ο} {r:Rg} (h:RgOk w r) (hb:σ w.heap.size w w'):RgOk w' r:=⟨h.1,h.2.bl hb⟩
def sU (v:VC):Bool:=decide (v.2.1.2.2.2=aJ v.2.1.2.2.2)
section
open Go.RowKit Go.Maps
def Rp (d:D):Prop:=(Lit.int .i64 d.1).wf=true∧(Lit.int .i64 d.2.1).wf=true∧(Lit.int .i64 d.2.2).wf=true
def wI (d:D) (S:List D):List D:=if d∈S then S else d::S
end
section
open Go.RowKit Go.Maps
def we:List D→List D→Bool
 |S,[]=>decide (S.length=0)
 |S,x::r=>if x∈S then we (S.erase x) r else ρ
def FY:List EC→List D→List D
 |[],S=>S
 |e::r,S=>FY r (wI (e.1.1,e.1.2,1) (wI (e.1.1,e.1.2,0) S))
def aD (Vs:List VC):List D:=Vs.flatMap (·.2.1.2.2.2)
end
section
open Go.RowKit Go.Maps
theorem iY (v:VC) (r:List VC):aD (v::r)=v.2.1.2.2.2++aD r:=rfl
end
def Ek (big b0 b1 b2 b3 b4 b5 b6 b7:Bool):Int:=
 if big then 3 else if !(b0 && b1 && b2 && b3) then 10 else if !(b4 && b5) then 4 else if !(b6 && b7) then 1 else 0
def rN (Vs:List VC) (Es:List EC):Int:=
 Ek (decide (24<Vs.length∨40<Es.length)) (oT ε (Vs.map (·.1))) (oT ε (Es.map (·.1))) (Vs.all sU) (we (FY Es []) (aD Vs))
  (Vs.all (fun v=>dv v.2.2.1)) (Es.all (fun v=>dv v.2.1)) (Vs.all (fun v=>kt v.2.2.2)) (Es.all (fun v=>kt v.2.2))
theorem aS.of_whole {W:ο} {g:Nat} {t:Υ} {cs:List ψ} {n size:Nat} (h:Whole W g t cs) (hl:cs.length=n*size):aS W W.heap.size size (ζ ⟨g,0,ε⟩) n n cs:=
 ⟨hl,fun e=>(by cases e),Δ _,fun a ha _=>(by obtain rfl:=Μ ha;exact h.lt),fun a ha j u hu=>(by
  obtain rfl:=Μ ha;rw[Ν];simpa using h.cell hu)⟩
theorem aS.no (W:ο) (B size:Nat):aS W B size ε 0 0 []:=⟨by simp,fun _=>⟨rfl,rfl⟩,Δ _,fun a h=>(by cases h),fun a h=>(by cases h)⟩
theorem gU:(η.info? 59).map (fun i=>(i.zero,i.size,i.bytes))=ζ (ζ (φ #[J 0,J 0,γ ε 0 0,μ {data:=#[]},J 0]),5,64):=by kernel_rfl
theorem jB:(η.info? 67).map (fun i=>(i.zero,i.size,i.bytes))=ζ (ζ (φ #[J 0,J 0,μ {data:=#[]},J 0]),4,40):=by kernel_rfl
theorem a6 {o:Option TypeInfo} {z:ψ} {s b:Nat} (h:o.map (fun i=>(i.zero,i.size,i.bytes))=ζ (ζ z,s,b)):∃i,o=ζ i∧i.zero=ζ z∧i.size=s∧i.bytes=b:=by
 cases o with
 |none=>simp at h
 |some i=>simp at h;exact⟨i,rfl,h⟩
theorem Ow.low_ne {w W:ο} {B size n g:Nat} {e:Υ} {v:ψ} {xs:List ψ} (h:Ow w B e size v n xs W) (hg:g<B):ζ g≠v.ownBlock:=fun e=>by
 have:=(h.own.lt g e.symm).1
 omega
theorem Ow.set_far {w W:ο} {B size n g i:Nat} {e:Υ} {v:ψ} {xs:List ψ} (h:Ow w B e size v n xs W) (bQ:ζ g≠v.ownBlock) (hg:w.heap.size≤g) (u:ψ):Ow w B e size v n xs (W.setCell ⟨g,i,ε⟩ u):=
 ⟨h.own.kept (row:=ζ g) ⟨rfl,rfl,rfl,by simp[JbB],fun k _ hk=>Below.heap_setCell _ _ _ _ (by
  rintro rfl;exact hk rfl)⟩ (by first|exact bQ|exact bQ.symm|exact .inr bQ|exact .inr bQ.symm),h.below.setCell hg u,h.lo,by simpa [JbB] using h.hi⟩
theorem Whole.set_far' {W:ο} {g h i:Nat} {t:Υ} {cs:List ψ} (hw:Whole W g t cs) (bQ:g≠h) (u:ψ):Whole (W.setCell ⟨h,i,ε⟩ u) g t cs:=
 hw.at_ (Below.heap_setCell _ _ _ _ bQ)
def wL (v:VC):VC:=if 30<v.2.1.2.1 then(v.1,(v.2.1.1,30,v.2.1.2.2.1,v.2.1.2.2.2.take 30),v.2.2) else v
theorem aS.far_ {W:ο} {B size n c g i:Nat} {A:Option Κ} {xs:List ψ} (h:aS W B size A n c xs) (bQ:∀a,A=ζ a→0<n→a.block≠g) (u:ψ):aS (W.setCell ⟨g,i,ε⟩ u) B size A n c xs:=
 ⟨h.len,h.none_,h.le,h.low,fun a ha j x hx=>(World.cell?_of_block (Below.heap_setCell _ _ _ _ (by
  rw[cA]
  first|exact bQ a ha (h.pos hx)|exact(bQ a ha (h.pos hx)).symm))).trans (h.cell a ha j x hx)⟩
theorem RgOk.few {w:ο} {v:VC} (h:RgOk w v.2.1):RgOk w (wL v).2.1:=by
 unfold wL;split
 ·rename_i h30
  refine⟨h.1,?_⟩
  have:=h.2.take_ 30 (by omega)
  rw[lI,←jy dC Ra] at this;show aS w w.heap.size 3 v.2.1.1 30 v.2.1.2.2.1 (aA (v.2.1.2.2.2.take 30));rw[lI];exact this
 ·exact h
theorem nu:(η.info? 32).map (fun i=>(i.zero,i.size,i.bytes))=ζ (ζ (φ #[J 0,J 0,J 0]),3,24):=by kernel_rfl
theorem N4 (A:Option Κ) (n c:Nat) (xs:List ψ) (w:ο) (h:aS w w.heap.size 5 A n c xs) (h1:∀u∈xs,u.oneCell'=τ) (hn:n≤1000000):
 Ζ η 104 #[γ A n c] w fun e w'=>∃A' c',e=.returned (γ A' n c')∧Ow w w.heap.size 59 5 (γ A' n c') n xs w':=by
 obtain⟨i0,hi,nz,j7,kZ⟩:=a6 gU;cases A with
 |none=>
  obtain⟨rfl,rfl⟩:=h.none_ rfl;have kg:xs=[]:=JaB (by simpa using h.len);subst kg;have kg:∀w',(binOp .eql 22 (γ ε 0 0) (γ ε 0 0)).run η w'=.ok (Β τ) w':=fun w'=>JbH w' _ _ _ _ _ _ _ Tryz.underlying22
  clear h h1;go_enter Tryz.func104,Tryz.ntmps104;go_wp2;go_ret;exact⟨_,_,rfl,Ow.nil_ (Θ _ _) (Δ _) (Δ _)⟩
 |some a=>
  have H:=qh (h.al (δ #[] 59));have HO:Hid (Ow w w.heap.size 59 5 (γ (ζ ⟨w.heap.size,0,ε⟩) 0 0) 0 [] (w.alloc (δ #[] 59))):=qh (Ow.new_ (cs:=#[]) (Θ _ _) (Δ _) (Δ _) (Jas _) rfl);have kg:∀w',(binOp .eql 22 (γ (ζ a) n c) (γ ε 0 0)).run η w'=.ok (Β ρ) w':=fun w'=>JbH w' _ _ _ _ _ _ _ Tryz.underlying22
  clear h;go_enter Tryz.func104,Tryz.ntmps104
  go_wp2_with (first
   |(at_builtin
     refine eX rfl (.tmp 5) (.tmp 6) _ rfl _ 59 i0 _ 5 64 Tryz.underlying22 hi nz j7 kZ rfl (by decide) _ _ _ rfl (by exact HO.out) _ (ζ a) n c xs rfl (by exact H.out) h1 (by unfold Jap;omega) (by omega) ?_;intro v1 w1 eY fe KX;rw[JaI,JaF] at eY;obtain⟨Aq,cq,rfl,-⟩:=eY.rds;have lY:=qh eY;clear eY fe KX))
  go_ret;exact⟨_,_,rfl,lY.out⟩
theorem Nw (A:Option Κ) (n c:Nat) (xs:List ψ) (w:ο) (h:aS w w.heap.size 4 A n c xs) (h1:∀u∈xs,u.oneCell'=τ) (hn:n≤1000000):
 Ζ η 105 #[γ A n c] w fun e w'=>∃A' c',e=.returned (γ A' n c')∧Ow w w.heap.size 67 4 (γ A' n c') n xs w':=by
 obtain⟨i0,hi,nz,j7,kZ⟩:=a6 jB;cases A with
 |none=>
  obtain⟨rfl,rfl⟩:=h.none_ rfl;have kg:xs=[]:=JaB (by simpa using h.len);subst kg;have kg:∀w',(binOp .eql 23 (γ ε 0 0) (γ ε 0 0)).run η w'=.ok (Β τ) w':=fun w'=>JbH w' _ _ _ _ _ _ _ Tryz.underlying23
  clear h h1;go_enter Tryz.func105,Tryz.ntmps105;go_wp2;go_ret;exact⟨_,_,rfl,Ow.nil_ (Θ _ _) (Δ _) (Δ _)⟩
 |some a=>
  have H:=qh (h.al (δ #[] 67));have HO:Hid (Ow w w.heap.size 67 4 (γ (ζ ⟨w.heap.size,0,ε⟩) 0 0) 0 [] (w.alloc (δ #[] 67))):=qh (Ow.new_ (cs:=#[]) (Θ _ _) (Δ _) (Δ _) (Jas _) rfl);have kg:∀w',(binOp .eql 23 (γ (ζ a) n c) (γ ε 0 0)).run η w'=.ok (Β ρ) w':=fun w'=>JbH w' _ _ _ _ _ _ _ Tryz.underlying23
  clear h;go_enter Tryz.func105,Tryz.ntmps105
  go_wp2_with (first
   |(at_builtin
     refine eX rfl (.tmp 5) (.tmp 6) _ rfl _ 67 i0 _ 4 40 Tryz.underlying23 hi nz j7 kZ rfl (by decide) _ _ _ rfl (by exact HO.out) _ (ζ a) n c xs rfl (by exact H.out) h1 (by unfold Jap;omega) (by omega) ?_;intro v1 w1 eY fe KX;rw[JaI,JaF] at eY;obtain⟨Aq,cq,rfl,-⟩:=eY.rds;have lY:=qh eY;clear eY fe KX))
  go_ret;exact⟨_,_,rfl,lY.out⟩
theorem Oa (A:Option Κ) (n c:Nat) (xs:List ψ) (w:ο) (h:aS w w.heap.size 3 A n c xs) (h1:∀u∈xs,u.oneCell'=τ) (hn:n≤1000000):
 Ζ η 132 #[γ A n c] w fun e w'=>∃A' c',e=.returned (γ A' n c')∧Ow w w.heap.size 32 3 (γ A' n c') n xs w':=by
 obtain⟨i0,hi,nz,j7,kZ⟩:=a6 nu;cases A with
 |none=>
  obtain⟨rfl,rfl⟩:=h.none_ rfl;have kg:xs=[]:=JaB (by simpa using h.len);subst kg;have kg:∀w',(binOp .eql 57 (γ ε 0 0) (γ ε 0 0)).run η w'=.ok (Β τ) w':=fun w'=>JbH w' _ _ _ _ _ _ _ Tryz.underlying57
  clear h h1;go_enter Tryz.func132,Tryz.ntmps132;go_wp2;go_ret;exact⟨_,_,rfl,Ow.nil_ (Θ _ _) (Δ _) (Δ _)⟩
 |some a=>
  have H:=qh (h.al (δ #[] 32));have HO:Hid (Ow w w.heap.size 32 3 (γ (ζ ⟨w.heap.size,0,ε⟩) 0 0) 0 [] (w.alloc (δ #[] 32))):=qh (Ow.new_ (cs:=#[]) (Θ _ _) (Δ _) (Δ _) (Jas _) rfl);have kg:∀w',(binOp .eql 57 (γ (ζ a) n c) (γ ε 0 0)).run η w'=.ok (Β ρ) w':=fun w'=>JbH w' _ _ _ _ _ _ _ Tryz.underlying57
  clear h;go_enter Tryz.func132,Tryz.ntmps132
  go_wp2_with (first
   |(at_builtin
     refine eX rfl (.tmp 5) (.tmp 6) _ rfl _ 32 i0 _ 3 24 Tryz.underlying57 hi nz j7 kZ rfl (by decide) _ _ _ rfl (by exact HO.out) _ (ζ a) n c xs rfl (by exact H.out) h1 (by unfold Jap;omega) (by omega) ?_;intro v1 w1 eY fe KX;rw[JaI,JaF] at eY;obtain⟨Aq,cq,rfl,-⟩:=eY.rds;have lY:=qh eY;clear eY fe KX))
  go_ret;exact⟨_,_,rfl,lY.out⟩
theorem se {w:ο} {B B' n:Nat} {e:Υ} {size:Nat} {v:ψ} {xs:List ψ} (h:w.ownsRow B e size v n xs) (hB:B'≤B):w.ownsRow B' e size v n xs:=by
 refine⟨h.1,?_⟩
 rcases h.2 with h|⟨g,cap,cur,h1,h2,h3⟩
 ·exact .inl h
 ·exact .inr ⟨g,cap,cur,h1,Λ hB h2,h3⟩
theorem As (l:List D):∀u∈aA l,u.oneCell'=τ:=by
 rw[lI];exact px dC (by simp[dC,Τ]) l
theorem KQ (v:VC) (w:ο) (h:RgOk w v.2.1) (hn:v.2.1.2.1≤1000000):
 Ζ η 106 #[φ (vC v).toArray] w fun e w'=>∃A' c',e=.returned (φ (vC (v.1,(A',v.2.1.2.1,c',v.2.1.2.2.2),v.2.2)).toArray)∧Ow w w.heap.size 32 3 (γ A' v.2.1.2.1 c') v.2.1.2.1 (aA v.2.1.2.2.2) w':=by
 obtain⟨⟨i1,i2⟩,⟨rA,rn,rc,rL⟩,lb,at_⟩:=v;have hr:aS w w.heap.size 3 rA rn rc (aA rL):=h.2;replace hn:rn≤1000000:=hn;show Ζ η 106 #[φ #[J i1,J i2,γ rA rn rc,μ lb,J at_]] w fun e w'=>∃A' c',e=.returned (φ #[J i1,J i2,γ A' rn c',μ lb,J at_])∧Ow w w.heap.size 32 3 (γ A' rn c') rn (aA rL) w'
 have hz:η.info? 59=η.info? 59:=rfl;have HR:=qh ((hr.al (δ #[J i1,J i2,γ rA rn rc,μ lb,J at_] 59)).al (δ #[J 0,J 0,γ ε 0 0,μ {data:=#[]},J 0] 59));have HW:=qh ((Whole.new_ w 59 [J i1,J i2,γ rA rn rc,μ lb,J at_]).alloc (δ #[J 0,J 0,γ ε 0 0,μ {data:=#[]},J 0] 59));have HY:Hid (Whole _ (w.heap.size+1) 59 [J 0,J 0,γ ε 0 0,μ {data:=#[]},J 0]):=qh (Whole.new2 (w:=w.alloc (δ #[J i1,J i2,γ rA rn rc,μ lb,J at_] 59)) (by simp));have HB:=qh (bT w (δ #[J i1,J i2,γ rA rn rc,μ lb,J at_] 59) (δ #[J 0,J 0,γ ε 0 0,μ {data:=#[]},J 0] 59));clear h hr hz;go_enter Tryz.func106,Tryz.ntmps106;go_wp2_with fail
 refine(Oa rA rn rc (aA rL) _ HR.out (As rL) hn).mono ?_
 rintro e w3 ⟨A',c',rfl,ho⟩;have mf:w.heap.size+1<((w.alloc (δ #[J i1,J i2,γ rA rn rc,μ lb,J at_] 59)).alloc (δ #[J 0,J 0,γ ε 0 0,μ {data:=#[]},J 0] 59)).heap.size:=by simp
 have Mh:=ho.low_ne (g:=w.heap.size) (by omega);have rX:=ho.low_ne (g:=w.heap.size+1) mf;have hx:=HW.out.below ho.below;have hy:=HY.out.below ho.below;have hO:Ow w w.heap.size 32 3 (γ A' rn c') rn (aA rL) w3:=⟨se ho.own (by omega),HB.out.trans (ho.below.mono HB.out.size),Δ _,Λ (by omega) ho.hi⟩;have rF:=((((((hO.set_far (i:=2) Mh (Δ _) (γ A' rn c')).set_far (i:=0) rX (by omega) (J i1)).set_far (i:=1) rX (by omega) (J i2)).set_far (i:=2) rX (by omega) (γ A' rn c')).set_far (i:=3) rX (by omega) (μ lb)).set_far (i:=4) rX (by omega) (J at_));have Jy:=(((((hy.set_far' (i:=2) (h:=w.heap.size) (by omega) (γ A' rn c')).set_ 0 (J i1)).set_ 1 (J i2)).set_ 2 (γ A' rn c')).set_ 3 (μ lb)).set_ 4 (J at_);have Wv:=qh rF;have XO:=qh Jy;have x0:=hx.cell (i:=0) rfl;have x1:=hx.cell (i:=1) rfl;have x2:=hx.cell (i:=2) rfl;have x3:=hx.cell (i:=3) rfl;have x4:=hx.cell (i:=4) rfl;have f2:=hx.free 2;have y0:=hy.cell (i:=0) rfl;have y1:=hy.cell (i:=1) rfl;have y2:=hy.cell (i:=2) rfl;have y3:=hy.cell (i:=3) rfl;have y4:=hy.cell (i:=4) rfl;have e0:=hy.free 0;have e1:=hy.free 1;have e2:=hy.free 2;have e3:=hy.free 3;have e4:=hy.free 4;clear ho hx hy hO rF Jy Mh rX mf HW HY HB HR;go_wp2;exact bz rfl (w.heap.size+1) rfl XO.out Tryz.underlying59 rfl (by kernel_rfl) rfl ⟨A',c',rfl,Wv.out⟩
end Go.Proofs.YtpdpbfmiahjiiaaGreat
