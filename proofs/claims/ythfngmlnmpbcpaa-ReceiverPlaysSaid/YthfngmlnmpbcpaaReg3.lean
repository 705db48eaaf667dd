/- In a drawn region: the load of a whole block. -/
import Derived.Test.YthfngmlnmpbcpaaReg
import Derived.Test.YthfngmlnmpbcpaaReg2
import Derived.Laws.Rows
namespace Go.Proofs.Ythfngmlnmpbcpaa
open Go.RowKit

def Nil_ (_ : Nat) : Prop := False
theorem Kept.nil_cell {w w' : World} (h : Kept Nil_ w w') {p : Addr} {v : Value} (hc : w.cell? p = some v) : w'.cell? p = some v := h.cell hc (fun e => e)

theorem load_row_run {P : Program} {ev : Operand → Value} {o : Oper} {w : World} (ty : TypeId) (x : Operand) (ho : o.op = .load ty x)
    (g : Nat) (hx : ev x = .pointer (some ⟨g, 0, none⟩)) (t : TypeId) (cs : List Value) (d : TypeDesc) (hg : Whole w g t cs)
    (hu : P.underlying ty = some d) (hd : (match d with | .struct _ | .array _ _ => true | _ => false) = true) (hi : (P.info? ty).map (·.size) = some cs.length) :
    (execOp ev o).run P w = .ok (.value (.agg cs.toArray)) w := by
  have h1 : (Instr.loadAt ty (ev x)).run P w = .ok (.agg cs.toArray) w := by
    rw [hx]
    simp only [Instr.loadAt, Instr.sureAddr, Sem.run_bind, Sem.run_pure, Result.andThen]
    exact run_loadVar_row w g t ty cs.toArray (0, 0) d hg hu hd (by simpa using hi)
  unfold execOp
  simp only [ho, Sem.run_bind, Sem.run_pure, Result.andThen_ok, h1]

theorem exec_binop_agg {P : Program} {ev : Operand → Value} {o : Oper} {w : World} (op : BinOp) (t : TypeId) (x y : Operand) (t' : TypeId) (ho : o.op = .binOp op t x y t') {xs ys : Array Value} {v : Value}
    (hx : ev x = .agg xs) (hy : ev y = .agg ys) (hm : P.eqGuardType P.depth t = false) (hb : (binOp op t (.agg xs) (.agg ys)).run P w = .ok v w) : (execOp ev o).run P w = .ok (.value v) w := by
  unfold execOp
  simp only [ho, Sem.run_bind, Sem.run_pure, Result.andThen_ok, hx, hy, run_eqGuard_agg (w := w) op t x y xs ys hm, hb]

section
variable {P : Program} {ops : Array Oper} {S : Nat → Prop}
theorem yr_load {o : Oper} {a : Act} {w : World} (h : Region.wanted o (yielded ops a.tmps) = true) (ty : TypeId) (x : Operand) (ho : o.op = .load ty x)
    (g : Nat) (hx : a.eval x = .pointer (some ⟨g, 0, none⟩)) (t : TypeId) (cs : List Value) (d : TypeDesc) (hg : ∀ w', Kept S w w' → Whole w' g t cs)
    (hu : P.underlying ty = some d) (hd : (match d with | .struct _ | .array _ _ => true | _ => false) = true) (hi : (P.info? ty).map (·.size) = some cs.length) :
    YieldsR P ops S o (.agg cs.toArray) a w :=
  yr_run h fun w' hw => load_row_run ty x ho g hx t cs d (hg w' hw) hu hd hi
end

/-! A region that does not draw, operation by operation. -/
section
variable {P : Program} {ops : Array Oper} {rest : List Oper} {o : Oper} {a : Act} {w : World} {Q : Exit → Act → World → Prop}
theorem wl_run (d : Option Tmp) (hd : o.dst = d) (hw : Region.wanted o (yielded ops a.tmps) = true) {v : Value} {w' : World} (hrun : (execOp a.eval o).run P w = .ok (.value v) w')
    (h : wpList P ops Q rest (a.put d v) w') : wpList P ops Q (o :: rest) a w := by
  subst hd
  refine wpList_step fun K hK => ?_
  rw [if_pos hw]
  unfold Oper.wp
  rw [hrun, Oper.upon_value]
  exact hK _ _ h
theorem wl_read (d : Option Tmp) (hd : o.dst = d) (hw : Region.wanted o (yielded ops a.tmps) = true) {v : Value} (hrun : (execOp a.eval o).run P w = .ok (.value v) w)
    (h : wpList P ops Q rest (a.put d v) w) : wpList P ops Q (o :: rest) a w := wl_run d hd hw hrun h
theorem wl_load (d : Option Tmp) (hd : o.dst = d) (hw : Region.wanted o (yielded ops a.tmps) = true) (ty : TypeId) (x : Operand) (ho : o.op = .load ty x)
    (g : Nat) (hx : a.eval x = .pointer (some ⟨g, 0, none⟩)) (t : TypeId) (cs : List Value) (td : TypeDesc) (hg : Whole w g t cs)
    (hu : P.underlying ty = some td) (hs : (match td with | .struct _ | .array _ _ => true | _ => false) = true) (hi : (P.info? ty).map (·.size) = some cs.length)
    (h : wpList P ops Q rest (a.put d (.agg cs.toArray)) w) : wpList P ops Q (o :: rest) a w := wl_read d hd hw (load_row_run ty x ho g hx t cs td hg hu hs hi) h
theorem wl_skip (d : Option Tmp) (hd : o.dst = d) (hw : Region.wanted o (yielded ops a.tmps) = false) (h : wpList P ops Q rest (a.put d undef) w) : wpList P ops Q (o :: rest) a w := by
  subst hd
  refine wpList_step fun K hK => ?_
  rw [if_neg (by simp [hw])]
  exact hK _ _ h
end
end Go.Proofs.Ythfngmlnmpbcpaa
