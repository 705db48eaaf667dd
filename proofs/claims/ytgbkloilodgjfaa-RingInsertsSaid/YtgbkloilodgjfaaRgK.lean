/- Rows of darts out of rows of ints. -/
import Derived.Test.YtgbkloilodgjfaaRing
import Derived.Test.YtgbkloilodgjfaaOpenS
namespace Go.Proofs.Ytgbkloilodgjfaa

theorem darts_of_ints : ∀ (n : Nat) (ns : List Int), ns.length = n * 3 → ∃ l : List D, ns.map (Value.int .i64) = dartsV l
  | 0, ns, h => ⟨[], by rw [List.eq_nil_of_length_eq_zero (l := ns) (by omega)]; rfl⟩
  | n + 1, [], h => by simp at h
  | n + 1, [a], h => by simp at h; omega
  | n + 1, [a, b], h => by simp at h; omega
  | n + 1, a :: b :: c :: ns, h => by
    obtain ⟨l, hl⟩ := darts_of_ints n ns (by simp at h; omega)
    exact ⟨(a, b, c) :: l, by simp [dartsV, hl]⟩

theorem dart_of_ints (ns : List Int) (h : ns.length = 3) : ∃ d : D, ns = [d.1, d.2.1, d.2.2] := by
  obtain ⟨a, b, c, rfl⟩ : ∃ a b c, ns = [a, b, c] := by
    match ns, h with
    | [a, b, c], _ => exact ⟨a, b, c, rfl⟩
  exact ⟨(a, b, c), rfl⟩

theorem dart2_of_ints (ns : List Int) (h : ns.length = 6) : ∃ d e : D, ns = [d.1, d.2.1, d.2.2, e.1, e.2.1, e.2.2] := by
  match ns, h with
  | [a, b, c, a', b', c'], _ => exact ⟨(a, b, c), (a', b', c'), rfl⟩
end Go.Proofs.Ytgbkloilodgjfaa
