/- A drawn region with stores. -/
import Derived.Test.YthfngmlnmpbcpaaReg
namespace Go.Proofs.Ythfngmlnmpbcpaa
open Go.RowKit

section
variable {P : Program} {md : Region.Mode} {ops : Array Oper} {S : Nat → Prop} {Q : Exit → Act → World → Prop}
/-- Take operation number i, the only one that is ready, a store. -/
theorem wpR_store (i : Nat) {oi : Oper} {fuel : Nat} {listed : Array Bool} {a : Act} {w : World} (hi : ops[i]? = some oi) (hd : oi.dst = none)
    (hr : Region.ready md ops listed = [i]) (hw : Region.wanted oi (yielded ops a.tmps) = true)
    (h : ∀ w', Ext w w' → ∃ w'', (execOp a.eval oi).run P w' = .ok .skip w'' ∧ Kept S w' w'' ∧ wpR P md ops S Q fuel (listed.setIfInBounds i true) a w'') : wpR P md ops S Q (fuel + 1) listed a w := by
  refine wpR_only i hi hr hw fun w' hx => ?_
  obtain ⟨w'', h1, h2, h3⟩ := h w' hx
  unfold Oper.wp
  rw [h1]
  refine ⟨h2, ?_⟩
  rw [hd]
  exact h3
end
end Go.Proofs.Ythfngmlnmpbcpaa
