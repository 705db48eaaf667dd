/- A struct stored whole into a block; what stands then. -/
import Derived.Test.YthfngmlnmpbcpaaRow
import Derived.Test.YthfngmlnmpbcpaaOw3
import Derived.Test.YthfngmlnmpbcpaaTree
import Derived.Laws.Tables
namespace Go.Proofs.Ythfngmlnmpbcpaa
open Go.RowKit

theorem store_row_run {P : Program} {ev : Operand → Value} {o : Oper} {w : World} (ty : TypeId) (x y : Operand) (ho : o.op = .store ty x y) (g : Nat) (hx : ev x = .pointer (some ⟨g, 0, none⟩))
    (cs' : List Value) (hy : ev y = .agg cs'.toArray) (t : TypeId) (cs : List Value) (hg : Whole w g t cs) (hi : (P.info? ty).map (·.size) = some cs'.length) (hl : cs.length = cs'.length) (h1 : cs'.all (·.oneCell') = true) :
    (execOp ev o).run P w = .ok .skip (w.setRow g cs'.toArray) := by
  have h := run_storeVar_row (P := P) w g t ty cs.toArray cs'.toArray hg (by simpa using hi) (by simpa using hl) (by simpa using h1)
  unfold execOp
  simp only [ho, hx, hy, Instr.storeAt, Instr.sureAddr, Sem.run_bind, Sem.run_pure, Result.andThen_ok, h]
theorem Whole.row {w : World} {g : Nat} {t : TypeId} {cs : List Value} (h : Whole w g t cs) (cs' : List Value) : Whole (w.setRow g cs'.toArray) g t cs' := setRow_heap w g _ _ _ _ h
theorem Whole.row_far {w : World} {g g' : Nat} {t : TypeId} {cs : List Value} (h : Whole w g t cs) (hne : g ≠ g') (cs' : Array Value) : Whole (w.setRow g' cs') g t cs := (setRow_other w g' g cs' hne).trans h
theorem setRow_size (w : World) (g : Nat) (cs : Array Value) : (w.setRow g cs).heap.size = w.heap.size := by simp [World.setRow]
theorem kept_row {S : Nat → Prop} {w : World} {g : Nat} (hS : S g) (cs : Array Value) : Kept S w (w.setRow g cs) := ⟨rfl, rfl, rfl, by simp [World.setRow], fun i _ hn => setRow_other w g i cs (fun e => hn (e ▸ hS))⟩
theorem below_row {B : Nat} {a w : World} {g : Nat} (h : Below B a w) (hg : B ≤ g) (cs : Array Value) : Below B a (w.setRow g cs) :=
  ⟨h.os, h.tape, h.output, (by have := h.size; simpa [World.setRow] using this), fun i hi => (setRow_other w g i _ (by omega)).trans (h.block i hi)⟩
/-- A write to a whole other block. -/
theorem RdS.row_far {w : World} {size n c g : Nat} {A : Option Addr} {xs : List Value} (h : RdS w w.heap.size size A n c xs) (hp : ∀ a, A = some a → 0 < n → some a.block ≠ some g) (cs : Array Value) : RdS (w.setRow g cs) (w.setRow g cs).heap.size size A n c xs := by
  refine ⟨h.len, h.none_, h.le, fun a e hn => by rw [setRow_size]; exact h.low a e hn, fun a e j v hj => ?_⟩
  rw [← h.cell a e j v hj]
  refine World.cell?_of_block (setRow_other w g _ cs ?_)
  rw [add_block]
  exact fun e' => hp a e (h.pos hj) (by rw [e'])
theorem Ow.rds_row {w W : World} {B size n g : Nat} {e : TypeId} {v : Value} {xs : List Value} (h : Ow w B e size v n xs W) (hne : some g ≠ v.ownBlock) (cs : Array Value) :
    ∃ A c, v = .slice A n c ∧ RdS (W.setRow g cs) (W.setRow g cs).heap.size size A n c xs := by
  obtain ⟨A, c, rfl, hr⟩ := h.rds
  refine ⟨A, c, rfl, hr.row_far (fun a ha _ hb => hne ?_) cs⟩
  subst ha
  exact hb.symm
theorem RdS.kept_ {S : Nat → Prop} {w w' : World} {B size n c : Nat} {A : Option Addr} {xs : List Value} (h : RdS w B size A n c xs) (hk : Kept S w w') (hB : B ≤ w.heap.size) (hS : ∀ i, i < B → ¬ S i) : RdS w' w'.heap.size size A n c xs :=
  h.up (hk.below hB hS) (Nat.le_trans hB hk.size)
theorem RdS.kept_ne {S : Nat → Prop} {w w' : World} {size n c : Nat} {A : Option Addr} {xs : List Value} (h : RdS w w.heap.size size A n c xs) (hk : Kept S w w') (hne : ∀ a, A = some a → 0 < n → ¬ S a.block) : RdS w' w'.heap.size size A n c xs := by
  refine ⟨h.len, h.none_, h.le, fun a e hn => Nat.lt_of_lt_of_le (h.low a e hn) hk.size, fun a e j v hj => ?_⟩
  have hn := h.pos hj
  exact hk.cell (h.cell a e j v hj) (by rw [add_block]; exact hne a e hn)
end Go.Proofs.Ythfngmlnmpbcpaa
