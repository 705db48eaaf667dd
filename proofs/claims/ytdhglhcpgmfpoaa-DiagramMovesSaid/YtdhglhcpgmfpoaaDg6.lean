/- eachOnce: just the darts of the edges stand in rings, each once. -/
import Derived.Test.YtdhglhcpgmfpoaaDg5
namespace Go.Proofs.Ytdhglhcpgmfpoaa
open Go.RowKit Go.Maps
set_option linter.unusedSimpArgs false
set_option linter.unusedVariables false

def onceF : List D → List D → Bool
  | S, [] => decide (S.length = 0)
  | S, x :: r => if x ∈ S then onceF (S.erase x) r else false
def edS : List EC → List D → List D
  | [], S => S
  | e :: r, S => edS r (insD (e.1.1, e.1.2, 1) (insD (e.1.1, e.1.2, 0) S))
def ringsOf (Vs : List VC) : List D := Vs.flatMap (·.2.1.2.2.2)
theorem bel_grown {w W w1 : World} {b : Nat} (h : Below w.heap.size w W) (hg : W.grownBy w1 (some b)) (hb : w.heap.size ≤ b) : Below w.heap.size w w1 :=
  ⟨hg.os.trans h.os, hg.tape.trans h.tape, hg.output.trans h.output, Nat.le_trans h.size hg.size, fun i hi => (hg.block i (Nat.lt_of_lt_of_le hi h.size) (by intro e; cases e; omega)).trans (h.block i hi)⟩
theorem whole_grown {W w1 : World} {b g : Nat} {t : TypeId} {cs : List Value} (h : Whole W g t cs) (hg : W.grownBy w1 (some b)) (hne : g ≠ b) : Whole w1 g t cs :=
  h.at_ (hg.block g h.lt (by intro e; cases e; exact hne rfl))
theorem grown_of_turned {w w' : World} {b : Nat} (h : w.mapTurned w' b) : w.grownBy w' (some b) := h.grown
theorem zero_unit (w : World) : (zeroValue 85).run Try.prog w = .ok (.agg #[]) w := by
  obtain ⟨i, hi, hz⟩ : ∃ i, Try.prog.info? 85 = some i ∧ i.zero = some (.agg #[]) := by
    have h : (Try.prog.info? 85).map (·.zero) = some (some (.agg #[])) := by kernel_rfl
    cases h2 : Try.prog.info? 85 with
    | none => rw [h2] at h; cases h
    | some i => rw [h2] at h; exact ⟨i, rfl, by simpa using h⟩
  simp [zeroValue, typeInfo, hi, hz]
/-- The map in block b of wr is this set of darts. -/
def MapS (wr : World) (b n : Nat) (S : List D) : Prop := ∃ Dt : DataW Unit, wr.ownsMap Try.prog 36 unitElem b n Dt ∧ SetD Dt S
theorem MapS.alloc {w : World} {b n : Nat} {S : List D} (h : MapS w b n S) (o : Obj) : MapS (w.alloc o) b n S := let ⟨Dt, h1, h2⟩ := h; ⟨Dt, h1.alloc o, h2⟩
theorem MapS.mono {w : World} {b n n' : Nat} {S : List D} (h : MapS w b n S) (hn : n ≤ n') : MapS w b n' S := let ⟨Dt, h1, h2⟩ := h; ⟨Dt, h1.mono hn, h2⟩
theorem MapS.lt {w : World} {b n : Nat} {S : List D} (h : MapS w b n S) : b < w.heap.size := let ⟨_, h1, _⟩ := h; h1.lt
section
variable {ops : Array Oper} {rest : List Oper} {o : Oper} {a : Act} {Q : Exit → Act → World → Prop} {w : World}
theorem wl_put (hg : o.guard = none) (m x v : Operand) (hop : o.op = Op.mapUpdate 84 m x v) (b n : Nat) (S : List D) (hm : a.eval m = .map (some b)) (hS : MapS w b n S) (hn : n < maxLen) (d : D) (hd : wfD d)
    (hx : a.eval x = .agg #[.int .i64 d.1, .int .i64 d.2.1, .int .i64 d.2.2]) (hv : a.eval v = .agg #[])
    (hK : ∀ w', MapS w' b (n + 1) (insD d S) → w.grownBy w' (some b) → wpList Try.prog ops Q rest (a.put o.dst undef) w') : wpList Try.prog ops Q (o :: rest) a w := by
  obtain ⟨Dt, h1, h2⟩ := hS
  exact wpList_mapUpdate_own w hg m x v 84 hop 36 85 keyed_dart Try.underlying84 unitElem b n Dt hm h1 hn _ _ (kD d) hx hv (key_dart d hd) (.agg []) [] unitElem_mk
    fun w' r1 r2 => hK w' ⟨_, r1, h2.put d hd _⟩ r2
theorem wl_has (hg : o.guard = none) (m x : Operand) (hop : o.op = Op.lookup 84 m x true) (b n : Nat) (S : List D) (hm : a.eval m = .map (some b)) (hS : MapS w b n S) (d : D) (hd : wfD d)
    (hx : a.eval x = .agg #[.int .i64 d.1, .int .i64 d.2.1, .int .i64 d.2.2])
    (hK : wpList Try.prog ops Q rest (a.put o.dst (.tuple #[.agg #[], .bool (decide (d ∈ S))])) w) : wpList Try.prog ops Q (o :: rest) a w := by
  obtain ⟨Dt, h1, h2⟩ := hS
  exact wpList_lookup_own_unit w hg m x 84 hop 36 85 keyed_dart Try.underlying84 (zero_unit w) b n Dt hm h1 _ (kD d) hx (key_dart d hd) (by rw [h2.has d hd]; exact hK)
theorem wl_del (hg : o.guard = none) (m x : Operand) (hop : o.op = Op.call { callee := Callee.builtin Builtin.delete, args := #[m, x], argTypes := #[84, 36] }) (b n : Nat) (S : List D) (hm : a.eval m = .map (some b)) (hS : MapS w b n S)
    (d : D) (hd : wfD d) (hmem : d ∈ S) (hx : a.eval x = .agg #[.int .i64 d.1, .int .i64 d.2.1, .int .i64 d.2.2])
    (hK : ∀ w', MapS w' b n (S.erase d) → w.grownBy w' (some b) → wpList Try.prog ops Q rest (a.put o.dst (.tuple #[])) w') : wpList Try.prog ops Q (o :: rest) a w := by
  obtain ⟨Dt, h1, h2⟩ := hS
  exact wpList_delete_own w hg m x 84 36 hop 85 keyed_dart Try.underlying84 unitElem b n Dt hm h1 _ (kD d) hx (key_dart d hd)
    fun w' r1 r2 => hK w' ⟨_, r1, h2.del d hd hmem⟩ r2.grown
theorem wl_size (hg : o.guard = none) (m : Operand) (hop : o.op = Op.call { callee := Callee.builtin Builtin.len, args := #[m], argTypes := #[84] }) (b n : Nat) (S : List D) (hm : a.eval m = .map (some b)) (hS : MapS w b n S)
    (hK : wpList Try.prog ops Q rest (a.put o.dst (.int .i64 (S.length : Int))) w) : wpList Try.prog ops Q (o :: rest) a w := by
  obtain ⟨Dt, h1, h2⟩ := hS
  refine wpList_len_own w hg m 84 hop 36 85 Try.underlying84 unitElem b n Dt hm h1 ?_
  rw [h2.size]
  exact hK
end
end Go.Proofs.Ytdhglhcpgmfpoaa
