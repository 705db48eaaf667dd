/- Maps whose keys are ints, whatever the elements: an element reads as itself. -/
import Derived.Test.YthfngmlnmpbcpaaReg3
import Derived.Maps.OwnSet
import Derived.Lib.SlKeysI
namespace Go.Proofs.Ythfngmlnmpbcpaa
open Go.RowKit Go.Maps
set_option linter.unusedSimpArgs false
set_option linter.unusedVariables false

/-- An element reads as itself. -/
def RV (v : Value) : Option (DataW Value × List MemPlace) := some (.held v, [])
/-- Block b is a map of at most n entries that reads as D. -/
def MapIn (w : World) (P : Program) (K : TypeId) (b n : Nat) (D : DataW Value) : Prop := w.ownsMap P K RV b n D
/-- What stands at a key, z if nothing does. -/
def valAt (D : DataW Value) (z : Value) (x : Int) : Value := match D.atKey (.int .i64 x) (.held z) with | .held v => v | _ => z
theorem valAt_of {D : DataW Value} {z v : Value} {x : Int} (h : D.atKey (.int .i64 x) (.held z) = .held v) : valAt D z x = v := by unfold valAt; rw [h]
theorem Kept.of_grown {w w' : World} {b : Nat} (h : w.grownBy w' (some b)) : Kept (fun i => i = b) w w' := ⟨h.os, h.tape, h.output, h.size, fun i hi hn => h.block i hi (fun e => hn (Option.some.inj e))⟩
theorem MapIn.kept {S : Nat → Prop} {w w' : World} {P : Program} {K : TypeId} {b n : Nat} {D : DataW Value} (h : MapIn w P K b n D) (hk : Kept S w w') (hb : ¬ S b) : MapIn w' P K b n D := by
  have hlt := World.ownsMap.lt h
  obtain ⟨es, clock, h1, F, hs, hD⟩ := h
  exact ⟨es, clock, (hk.block b hlt hb).trans h1, F, hs, hD⟩
theorem MapIn.lt {w : World} {P : Program} {K : TypeId} {b n : Nat} {D : DataW Value} (h : MapIn w P K b n D) : b < w.heap.size := World.ownsMap.lt h
theorem MapIn.isMap {w : World} {P : Program} {K : TypeId} {b n : Nat} {D : DataW Value} (h : MapIn w P K b n D) : IsMap D := World.ownsMap.isMap h
theorem MapIn.below {w w' : World} {P : Program} {K : TypeId} {b n : Nat} {D : DataW Value} (h : MapIn w P K b n D) (hb : Below w.heap.size w w') : MapIn w' P K b n D :=
  h.kept (Kept.of_below (S := fun _ => False) hb) (fun e => e)
theorem MapIn.mono {w : World} {P : Program} {K : TypeId} {b n n' : Nat} {D : DataW Value} (h : MapIn w P K b n D) (hn : n ≤ n') : MapIn w P K b n' D := World.ownsMap.mono h hn
theorem MapIn.made {w : World} {P : Program} {K : TypeId} : MapIn (w.alloc (.map #[] 0)) P K w.heap.size 0 (.map []) := World.ownsMap_made _ _ _ _
section
variable {P : Program} {t K e : TypeId} {b n : Nat} {D : DataW Value} {w : World} {x : Int}
theorem MapIn.look (h : MapIn w P K b n D) (hk : P.underlying K = some (.int .i64)) (ht : P.underlying t = some (.map K e)) {z : Value} (hz : (zeroValue e).run P w = .ok z w) (hx : (Lit.int .i64 x).wf = true) :
    (Instr.lookup t (.map (some b)) (.int .i64 x) true).run P w = .ok (.tuple #[valAt D z x, .bool (has D (.int .i64 x))]) w := by
  obtain ⟨v, ps, hrun, hv⟩ := World.ownsMap.look_ok h (int_keyed hk) ht hz (zd := .held z) (zp := []) rfl (keyOf_int_mk hk hx)
  have h1 : D.atKey (.int .i64 x) (.held z) = .held v := by
    have := Option.some.inj hv
    exact (Prod.mk.inj this).1.symm
  rw [valAt_of h1]
  exact hrun
theorem MapIn.put (h : MapIn w P K b n D) (hk : P.underlying K = some (.int .i64)) (ht : P.underlying t = some (.map K e)) (hn : n < maxLen) (hx : (Lit.int .i64 x).wf = true) (v : Value) :
    ∃ w', (Instr.mapUpdate t (.map (some b)) (.int .i64 x) v).run P w = .ok () w' ∧ MapIn w' P K b (n + 1) (D.put (.int .i64 x) (.held v)) ∧ Kept (fun i => i = b) w w' := by
  obtain ⟨w', h1, h2, h3⟩ := World.ownsMap.store h (int_keyed hk) ht hn (keyOf_int_mk hk hx) (d := .held v) (ps := []) rfl
  exact ⟨w', h1, h2, Kept.of_grown h3.grown⟩
theorem MapIn.del (h : MapIn w P K b n D) (hk : P.underlying K = some (.int .i64)) (ht : P.underlying t = some (.map K e)) (hx : (Lit.int .i64 x).wf = true) (ty : TypeId) :
    ∃ w', (Builtin.delete_ #[t, K] ty #[.map (some b), .int .i64 x]).run P w = .ok (.tuple #[]) w' ∧ MapIn w' P K b n (D.del (.int .i64 x)) ∧ Kept (fun i => i = b) w w' := by
  obtain ⟨w', h1, h2, h3⟩ := World.ownsMap.drop h (int_keyed hk) ht (keyOf_int_mk hk hx) ty
  exact ⟨w', h1, h2, Kept.of_grown h3.grown⟩
end
theorem exec_mapUpdate {P : Program} {ev : Operand → Value} {o : Oper} {w w' : World} {t : TypeId} {m x v : Operand} {key val : Value} {b : Option Nat} (ho : o.op = .mapUpdate t m x v) (hm : ev m = .map b) (hx : ev x = key) (hv : ev v = val)
    (hrun : (Instr.mapUpdate t (.map b) key val).run P w = .ok () w') : (execOp ev o).run P w = .ok .skip w' := by
  simp [execOp, ho, hm, hx, hv, hrun, Result.andThen]
theorem exec_delete {P : Program} {ev : Operand → Value} {o : Oper} {w w' : World} {t k : TypeId} {m x : Operand} {key : Value} {b : Option Nat} (ho : o.op = Op.call { callee := Callee.builtin Builtin.delete, args := #[m, x], argTypes := #[t, k] }) (hm : ev m = .map b) (hx : ev x = key)
    (hrun : (Builtin.delete_ #[t, k] o.type #[.map b, key]).run P w = .ok (.tuple #[]) w') : (execOp ev o).run P w = .ok (.value (.tuple #[])) w' := by
  simp [execOp, ho, resolve, invoke, builtin, hm, hx, hrun, Result.andThen]
theorem exec_lookup {P : Program} {ev : Operand → Value} {o : Oper} {w w' : World} {t : TypeId} {m x : Operand} {key v : Value} {b : Option Nat} (ho : o.op = .lookup t m x true) (hm : ev m = .map b) (hx : ev x = key)
    (hrun : (Instr.lookup t (.map b) key true).run P w = .ok v w') : (execOp ev o).run P w = .ok (.value v) w' := by
  simp [execOp, ho, hm, hx, hrun, Result.andThen]
theorem wf_i64 {x : Int} (h1 : -9223372036854775808 ≤ x) (h2 : x ≤ 9223372036854775807) : (Lit.int .i64 x).wf = true := by
  have a1 : IntKind.i64.min = -9223372036854775808 := by decide
  have a2 : IntKind.i64.max = 9223372036854775807 := by decide
  simp [Lit.wf, a1, a2, h1, h2]
/-- A rising list is its own sorting. -/
theorem sorted_self {l : List Int} (h : l.Pairwise (· < ·)) : l.mergeSort (fun x y => decide (x ≤ y)) = l :=
  List.mergeSort_of_pairwise (h.imp fun {a b} h => decide_eq_true (Int.le_of_lt h))
/-- What the keys sort to, once they are known. -/
theorem MapIn.sorts {w : World} {P : Program} {K : TypeId} {b n : Nat} {D : DataW Value} (h : MapIn w P K b n D) (hk : P.underlying K = some (.int .i64)) {l ss : List Int} (hl : l.Pairwise (· < ·)) (hm : ∀ x, x ∈ l ↔ has D (.int .i64 x) = true) (hp : ss.Perm (intKeys D)) :
    ss.mergeSort (fun x y => decide (x ≤ y)) = l := by
  have h1 : CollectedI D (fun _ => false) l := ⟨(hl.imp fun {a b} h => Int.ne_of_lt h), fun x => by rw [hm x]; simp⟩
  have h2 := h1.perm h (int_keyed hk) hk (fun _ => rfl)
  have h3 := mergeSort_of_perm_i (hp.trans h2.symm)
  exact h3.trans (sorted_self hl)
theorem sizeD {w : World} {P : Program} {K : TypeId} {b n : Nat} {D : DataW Value} (h : MapIn w P K b n D) : Maps.size D ≤ n := World.ownsMap.size_le h
end Go.Proofs.Ythfngmlnmpbcpaa
