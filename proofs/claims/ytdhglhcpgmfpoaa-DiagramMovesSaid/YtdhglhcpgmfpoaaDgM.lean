/- ident.May, and the document's own. -/
import Derived.Test.YtdhglhcpgmfpoaaDart
namespace Go.Proofs.Ytdhglhcpgmfpoaa
open Go.RowKit

theorem may_yes (s n : Int) (w : World) (h1 : 1 ≤ s) (h2 : s ≤ 8) (h3 : 1 ≤ n) (h4 : n ≤ 1048576) :
    Calls Try.prog 60 #[.agg #[.int .i64 s, .int .i64 n]] w fun e w' => e = .returned (.bool true) ∧ Below w.heap.size w w' := by
  go_enter Try.func60, Try.ntmps60
  go_wp2
  go_ret
  exact ⟨rfl, below1 _ _⟩

theorem may_no (s n : Int) (w : World) (h : ¬ (1 ≤ s ∧ s ≤ 8 ∧ 1 ≤ n ∧ n ≤ 1048576)) :
    Calls Try.prog 60 #[.agg #[.int .i64 s, .int .i64 n]] w fun e w' => e = .returned (.bool false) ∧ Below w.heap.size w w' := by
  by_cases h1 : 1 ≤ s
  · by_cases h2 : s ≤ 8
    · by_cases h3 : 1 ≤ n
      · have h4 : ¬ n ≤ 1048576 := by omega
        go_enter Try.func60, Try.ntmps60
        go_wp2
        go_ret
        exact ⟨rfl, below1 _ _⟩
      · clear h
        go_enter Try.func60, Try.ntmps60
        go_wp2
        go_ret
        exact ⟨rfl, below1 _ _⟩
    · clear h
      go_enter Try.func60, Try.ntmps60
      go_wp2
      go_ret
      exact ⟨rfl, below1 _ _⟩
  · clear h
    go_enter Try.func60, Try.ntmps60
    go_wp2
    go_ret
    exact ⟨rfl, below1 _ _⟩

theorem may_any (s n : Int) : Pure 60 #[.agg #[.int .i64 s, .int .i64 n]] (.bool (mayI s n)) := fun w => by
  by_cases h : 1 ≤ s ∧ s ≤ 8 ∧ 1 ≤ n ∧ n ≤ 1048576
  · rw [show mayI s n = true from decide_eq_true h]
    exact may_yes s n w h.1 h.2.1 h.2.2.1 h.2.2.2
  · rw [show mayI s n = false from decide_eq_false h]
    exact may_no s n w h

theorem rmay_any (s n : Int) : Pure 30 #[.agg #[.int .i64 s, .int .i64 n]] (.bool (mayI s n)) := fun w => by
  by_cases h : 1 ≤ s ∧ s ≤ 8 ∧ 1 ≤ n ∧ n ≤ 1048576
  · rw [show mayI s n = true from decide_eq_true h]
    obtain ⟨h1, h2, h3, h4⟩ := h
    go_enter Try.func30, Try.ntmps30
    go_wp2
    go_ret
    exact ⟨rfl, below1 _ _⟩
  · rw [show mayI s n = false from decide_eq_false h]
    by_cases h1 : 1 ≤ s
    · by_cases h2 : s ≤ 8
      · by_cases h3 : 1 ≤ n
        · have h4 : ¬ n ≤ 1048576 := by omega
          clear h
          go_enter Try.func30, Try.ntmps30
          go_wp2
          go_ret
          exact ⟨rfl, below1 _ _⟩
        · clear h
          go_enter Try.func30, Try.ntmps30
          go_wp2
          go_ret
          exact ⟨rfl, below1 _ _⟩
      · clear h
        go_enter Try.func30, Try.ntmps30
        go_wp2
        go_ret
        exact ⟨rfl, below1 _ _⟩
    · clear h
      go_enter Try.func30, Try.ntmps30
      go_wp2
      go_ret
      exact ⟨rfl, below1 _ _⟩


end Go.Proofs.Ytdhglhcpgmfpoaa
