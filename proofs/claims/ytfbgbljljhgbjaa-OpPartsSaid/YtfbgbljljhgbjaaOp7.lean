/- Two operations compared. -/
import Derived.Test.YtfbgbljljhgbjaaOp6
namespace Go.Proofs.Ytfbgbljljhgbjaa
open Go.RowKit
theorem bytes_inj {t t' : ByteArray} (h : t.toList = t'.toList) : t = t' := by
  rw [ByteArray.toList_eq, ByteArray.toList_eq] at h
  exact ByteArray.ext (Array.toList_inj.1 h)
theorem neq_op_run (o o' : OpT) (W : World) : (binOp .neq 29 (.agg (opCells o).toArray) (.agg (opCells o').toArray)).run Try.prog W = .ok (.bool (!decide (o = o'))) W := by
  obtain ⟨k, s, n, s1, n1, s2, n2, a0, a1, a2, a3, a4, b0, b1, b2, b3, b4, e, t, m⟩ := o
  obtain ⟨k', s', n', s1', n1', s2', n2', a0', a1', a2', a3', a4', b0', b1', b2', b3', b4', e', t', m'⟩ := o'
  simp only [opCells, OpT.mk.injEq]
  simp [go_sem]
  by_cases hk : k = k'
  case neg => simp [hk]
  rw [if_pos hk]
  by_cases hs : s = s'
  case neg => simp [hs]
  rw [if_pos hs]
  by_cases hn : n = n'
  case neg => simp [hn]
  rw [if_pos hn]
  by_cases hs1 : s1 = s1'
  case neg => simp [hs1]
  rw [if_pos hs1]
  by_cases hn1 : n1 = n1'
  case neg => simp [hn1]
  rw [if_pos hn1]
  by_cases hs2 : s2 = s2'
  case neg => simp [hs2]
  rw [if_pos hs2]
  by_cases hn2 : n2 = n2'
  case neg => simp [hn2]
  rw [if_pos hn2]
  by_cases ha0 : a0 = a0'
  case neg => simp [ha0]
  rw [if_pos ha0]
  by_cases ha1 : a1 = a1'
  case neg => simp [ha1]
  rw [if_pos ha1]
  by_cases ha2 : a2 = a2'
  case neg => simp [ha2]
  rw [if_pos ha2]
  by_cases ha3 : a3 = a3'
  case neg => simp [ha3]
  rw [if_pos ha3]
  by_cases ha4 : a4 = a4'
  case neg => simp [ha4]
  rw [if_pos ha4]
  by_cases hb0 : b0 = b0'
  case neg => simp [hb0]
  rw [if_pos hb0]
  by_cases hb1 : b1 = b1'
  case neg => simp [hb1]
  rw [if_pos hb1]
  by_cases hb2 : b2 = b2'
  case neg => simp [hb2]
  rw [if_pos hb2]
  by_cases hb3 : b3 = b3'
  case neg => simp [hb3]
  rw [if_pos hb3]
  by_cases hb4 : b4 = b4'
  case neg => simp [hb4]
  rw [if_pos hb4]
  by_cases he : e = e'
  case neg => simp [he]
  rw [if_pos he]
  by_cases ht : t = t'
  · subst ht
    by_cases hm : m = m' <;> simp_all
  · have ht' : ¬ t.toList = t'.toList := fun q => ht (bytes_inj q)
    rw [if_neg ht']
    simp [ht]
end Go.Proofs.Ytfbgbljljhgbjaa
