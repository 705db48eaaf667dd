/- IdentOrder's walk. -/
import Derived.Test.YtedihfggijcciaaIdF
namespace Go.Proofs.Ytedihfggijcciaa
open Go.RowKit

theorem ordI_bd (s n s' n' : Int) : -1 ≤ ordI s n s' n' ∧ ordI s n s' n' ≤ 1 := by
  unfold ordI
  have h1 := cmpI_cases n n'
  have h2 := cmpI_cases s s'
  split <;> omega
theorem ordI_neg (s n s' n' : Int) : ordI s' n' s n = - ordI s n s' n' := by
  unfold ordI
  have h1 := cmpI_cases n n'
  have h2 := cmpI_cases s s'
  have h3 := cmpI_cases n' n
  have h4 := cmpI_cases s' s
  split <;> split <;> omega
theorem ordI_trans (s n s' n' s2 n2 : Int) (h : ordI s n s' n' ≤ 0) (k : ordI s' n' s2 n2 ≤ 0) : ordI s n s2 n2 ≤ 0 := by
  unfold ordI at *
  have h1 := cmpI_cases n n'
  have h2 := cmpI_cases s s'
  have h3 := cmpI_cases n' n2
  have h4 := cmpI_cases s' s2
  have h5 := cmpI_cases n n2
  have h6 := cmpI_cases s s2
  split at h <;> split at k <;> split <;> omega
theorem ordI_eq (s n s' n' : Int) : (ordI s n s' n' == 0) = (s == s' && n == n') := by
  rw [Bool.eq_iff_iff]
  simp [ordI_zero]

theorem ordD_zero (s n c s' n' c' : Int) : ordD s n c s' n' c' = 0 ↔ s = s' ∧ n = n' ∧ c = c' := by
  unfold ordD
  have h1 := cmpI_cases c c'
  have h2 := ordI_zero s n s' n'
  split <;> omega
theorem ordD_bd (s n c s' n' c' : Int) : -1 ≤ ordD s n c s' n' c' ∧ ordD s n c s' n' c' ≤ 1 := by
  unfold ordD
  have h1 := cmpI_cases c c'
  have h2 := ordI_bd s n s' n'
  split <;> omega
theorem ordD_neg (s n c s' n' c' : Int) : ordD s' n' c' s n c = - ordD s n c s' n' c' := by
  unfold ordD
  have h1 := cmpI_cases c c'
  have h2 := cmpI_cases c' c
  have h3 := ordI_neg s n s' n'
  split <;> split <;> omega
theorem ordD_trans (s n c s' n' c' s2 n2 c2 : Int) (h : ordD s n c s' n' c' ≤ 0) (k : ordD s' n' c' s2 n2 c2 ≤ 0) : ordD s n c s2 n2 c2 ≤ 0 := by
  have h1 := cmpI_cases c c'
  have h2 := cmpI_cases c' c2
  have h3 := cmpI_cases c c2
  have h4 := ordI_trans s n s' n' s2 n2
  have h5 := ordI_zero s n s' n'
  unfold ordD at *
  by_cases e1 : s = s' ∧ n = n'
  · obtain ⟨rfl, rfl⟩ := e1
    rw [if_pos ⟨rfl, rfl⟩] at h
    by_cases e2 : s = s2 ∧ n = n2
    · rw [if_pos e2] at *; omega
    · rw [if_neg e2] at *; omega
  · rw [if_neg e1] at h
    by_cases e2 : s' = s2 ∧ n' = n2
    · obtain ⟨rfl, rfl⟩ := e2
      rw [if_neg e1]; omega
    · rw [if_neg e2] at k
      by_cases e3 : s = s2 ∧ n = n2
      · obtain ⟨rfl, rfl⟩ := e3
        have h6 := ordI_neg s n s' n'
        omega
      · rw [if_neg e3]; omega
theorem ordD_eq (s n c s' n' c' : Int) : (ordD s n c s' n' c' == 0) = ((s == s' && n == n') && c == c') := by
  rw [Bool.eq_iff_iff]
  simp [ordD_zero, and_assoc]

theorem keepc {W w2 : World} {p : Addr} {v : Value} (hb : Below W.heap.size W w2) (h : W.cell? p = some v) : w2.cell? p = some v := (hb.cell (World.block_lt_of_cell? W p h)).trans h
theorem keepB {W0 W w2 : World} (h : Below W0.heap.size W0 W) (hb : Below W.heap.size W w2) : Below W0.heap.size W0 w2 := h.trans (hb.mono h.size)

theorem eq_id (s n s' n' : Int) (W : World) : (binOp .eql 23 (.agg #[.int .i64 s, .int .i64 n]) (.agg #[.int .i64 s', .int .i64 n'])).run Try.prog W = .ok (.bool (s == s' && n == n')) W := by
  by_cases h1 : s = s' <;> by_cases h2 : n = n' <;> simp [go_sem, h1, h2]
theorem eq_dart (s n c s' n' c' : Int) (W : World) : (binOp .eql 25 (.agg #[.int .i64 s, .int .i64 n, .int .i64 c]) (.agg #[.int .i64 s', .int .i64 n', .int .i64 c'])).run Try.prog W = .ok (.bool ((s == s' && n == n') && c == c')) W := by
  by_cases h1 : s = s' <;> by_cases h2 : n = n' <;> by_cases h3 : c = c' <;> simp [go_sem, h1, h2, h3]
end Go.Proofs.Ytedihfggijcciaa
