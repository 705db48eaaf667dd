/- The contract of op.only, for any operation. -/
import Derived.Test.YtfbgbljljhgbjaaOp5
namespace Go.Proofs.Ytfbgbljljhgbjaa
open Go.RowKit

theorem only_at (k s n s1 n1 s2 n2 a0 a1 a2 a3 a4 b0 b1 b2 b3 b4 : Int) (e : Bool) (t : ByteArray) (m : Int) : Pure 23 #[.agg #[.int .i64 k, .int .i64 s, .int .i64 n, .int .i64 s1, .int .i64 n1, .int .i64 s2, .int .i64 n2, .int .i64 a0, .int .i64 a1, .int .i64 a2, .int .i64 a3, .int .i64 a4, .int .i64 b0, .int .i64 b1, .int .i64 b2, .int .i64 b3, .int .i64 b4, .bool e, .string t, .int .i64 m]] (.agg (opCells (onlyO ⟨k, s, n, s1, n1, s2, n2, a0, a1, a2, a3, a4, b0, b1, b2, b3, b4, e, t, m⟩)).toArray) := by
  unfold onlyO
  simp only
  by_cases k3 : k = 3
  · subst k3
    rw [if_pos rfl]
    exact only_3 s n s1 n1 s2 n2 a0 a1 a2 a3 a4 b0 b1 b2 b3 b4 e t m
  have q3 : (k == 3) = false := by simpa using k3
  rw [if_neg k3]
  by_cases k5 : k = 5
  · subst k5
    rw [if_pos rfl]
    exact only_5 s n s1 n1 s2 n2 a0 a1 a2 a3 a4 b0 b1 b2 b3 b4 e t m
  have q5 : (k == 5) = false := by simpa using k5
  rw [if_neg k5]
  by_cases k6 : k = 6
  · subst k6
    rw [if_pos rfl]
    exact only_6 s n s1 n1 s2 n2 a0 a1 a2 a3 a4 b0 b1 b2 b3 b4 e t m
  have q6 : (k == 6) = false := by simpa using k6
  rw [if_neg k6]
  by_cases k7 : k = 7
  · subst k7
    rw [if_pos rfl]
    exact only_7 s n s1 n1 s2 n2 a0 a1 a2 a3 a4 b0 b1 b2 b3 b4 e t m
  have q7 : (k == 7) = false := by simpa using k7
  rw [if_neg k7]
  by_cases k8 : k = 8
  · subst k8
    rw [if_pos rfl]
    exact only_8 s n s1 n1 s2 n2 a0 a1 a2 a3 a4 b0 b1 b2 b3 b4 e t m
  have q8 : (k == 8) = false := by simpa using k8
  rw [if_neg k8]
  exact only_0 k s n s1 n1 s2 n2 a0 a1 a2 a3 a4 b0 b1 b2 b3 b4 e t m q3 q5 q6 q7 q8
end Go.Proofs.Ytfbgbljljhgbjaa
