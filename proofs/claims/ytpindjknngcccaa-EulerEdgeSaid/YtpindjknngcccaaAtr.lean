/- What the operations of a drawn region come to, as a list; one of them makes a new variable. -/
import Derived.Test.YtpindjknngcccaaGE
import Derived.Test.YtpindjknngcccaaIn3
namespace Go.Proofs.Ytpindjknngcccaa
open Go.RowKit
set_option linter.unusedSimpArgs false
set_option linter.unusedVariables false

def gamL (vs : List (Option Value)) (ai B : Nat) (T : TypeId) (cs : List Value) (i : Nat) (v : Value) (W : World) : Prop :=
  if i = ai then ∃ g, v = .pointer (some ⟨g, 0, none⟩) ∧ B ≤ g ∧ Whole W g T cs else match vs[i]? with
    | some (some u) => v = u
    | _ => True
theorem gamL_up {vs : List (Option Value)} {ai B : Nat} {T : TypeId} {cs : List Value} (i : Nat) (v : Value) (W W' : World) (h : gamL vs ai B T cs i v W) (hx : Ext W W') : gamL vs ai B T cs i v W' := by
  unfold gamL at h ⊢
  split at h
  · rename_i e
    rw [if_pos e]
    obtain ⟨g, h1, h2, h3⟩ := h
    exact ⟨g, h1, h2, h3.bl hx⟩
  · rename_i e
    rw [if_neg e]
    exact h
end Go.Proofs.Ytpindjknngcccaa
