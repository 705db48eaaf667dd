/- All faces are all orbits. -/
import Derived.Test.YtpindjknngcccaaHA
import Derived.Test.YtpindjknngcccaaFc9
namespace Go.Proofs.Ytpindjknngcccaa
open Go.RowKit
set_option linter.unusedSimpArgs false
set_option linter.unusedVariables false
section
variable {Vs : List VC} {Es : List EC}
theorem facesF_eq (h : Formed Vs Es) {N : Nat} (hN : (ringsOf Vs).length ≤ N) : ∀ (l T : List D), (∀ x ∈ l, x ∈ ringsOf Vs) → facesF (sigM Vs) N l T = orbsF (phF Vs) 80 l T
  | [], _, _ => rfl
  | x :: r, T, hl => by
    have hx := hl x (List.mem_cons_self ..)
    have hr := fun y hy => hl y (List.mem_cons_of_mem _ hy)
    have e : faceL (sigM Vs) N x = orbT (phF Vs) x 80 x := by
      rw [faceL_eq h hN, faceD, if_pos hx]
    rw [facesF, orbsF, facesF_eq h hN r _ hr, facesF_eq h hN r _ hr, e]
    by_cases q : x ∈ T
    · rw [if_pos q, if_pos q]
    · rw [if_neg q, if_neg q]
end
end Go.Proofs.Ytpindjknngcccaa
