/- The contract of the document's own May for operations, whole: it is the program's. -/
import Derived.Test.YtfbgbljljhgbjaaOp10
namespace Go.Proofs.Ytfbgbljljhgbjaa
open Go.RowKit
set_option linter.unusedSimpArgs false
set_option linter.unusedVariables false

theorem mayO_rest (o : OpT) (h1 : mayI o.s o.n = true) : mayO o = if restO o = zeroO then (if fitsO o = true then (if mayL o.t = true then 0 else 4) else 1) else 1 := by
  have key : (fitsO o = true ∧ o = onlyO o) ↔ (restO o = zeroO ∧ fitsO o = true) := by
    obtain ⟨k, s, n, s1, n1, s2, n2, a0, a1, a2, a3, a4, b0, b1, b2, b3, b4, e, t, m⟩ := o
    unfold onlyO restO zeroO
    by_cases k3 : k = 3
    · subst k3
      simp
      constructor
      · rintro ⟨h, h2⟩; simp_all
      · rintro ⟨h, h2⟩; simp_all
    by_cases k5 : k = 5
    · subst k5
      simp
      constructor
      · rintro ⟨h, h2⟩; simp_all
      · rintro ⟨h, h2⟩; simp_all
    by_cases k6 : k = 6
    · subst k6
      simp
      constructor
      · rintro ⟨h, h2⟩; simp_all
      · rintro ⟨h, h2⟩; simp_all
    by_cases k7 : k = 7
    · subst k7
      simp
      constructor
      · rintro ⟨h, h2⟩; simp_all
      · rintro ⟨h, h2⟩; simp_all
    by_cases k8 : k = 8
    · subst k8
      simp
      constructor
      · rintro ⟨h, h2⟩; simp_all
      · rintro ⟨h, h2⟩; simp_all
    simp only [k3, k5, k6, k7, k8, if_false]
    simp
    constructor
    · rintro ⟨h, h2⟩; simp_all
    · rintro ⟨h, h2⟩; simp_all
  unfold mayO
  by_cases hz : restO o = zeroO
  · rw [if_pos hz]
    by_cases hf : fitsO o = true
    · rw [if_pos hf, if_pos ⟨h1, key.2 ⟨hz, hf⟩⟩]
    · rw [if_neg hf, if_neg (fun h => hf h.2.1)]
  · rw [if_neg hz, if_neg (fun h => hz (key.1 h.2).1)]

theorem mayL_empty : mayL ⟨#[]⟩ = true := by decide

theorem rmayop_any (o : OpT) (ht : o.t.size ≤ maxLen) : Pure 15 #[.agg (opCells o).toArray] (.int .i64 (mayO o)) := fun w => by
  have fin : ∀ {b : Int}, (Calls Try.prog 15 #[.agg (opCells o).toArray] w fun e w' => e = .returned (.int .i64 b) ∧ Below w.heap.size w w') → mayO o = b → Calls Try.prog 15 #[.agg (opCells o).toArray] w fun e w' => e = .returned (.int .i64 (mayO o)) ∧ Below w.heap.size w w' := fun h e => e ▸ h
  by_cases h0 : o.k < 1
  · refine fin (rm_lo o (decide_eq_true h0) w) ?_
    unfold mayO fitsO
    rw [if_neg]
    rintro ⟨-, h, -⟩
    rw [if_neg (by omega), if_neg (by omega), if_neg (by omega), if_neg (by omega), if_neg (by omega)] at h
    cases h
  by_cases h9 : 8 < o.k
  · refine fin (rm_hi o (decide_eq_false h0) (decide_eq_true h9) w) ?_
    unfold mayO fitsO
    rw [if_neg]
    rintro ⟨-, h, -⟩
    rw [if_neg (by omega), if_neg (by omega), if_neg (by omega), if_neg (by omega), if_neg (by omega)] at h
    cases h
  by_cases h1 : mayI o.s o.n = true
  case neg =>
    refine fin (rm_id o (decide_eq_false h0) (decide_eq_false h9) (by simpa using h1) w) ?_
    unfold mayO
    rw [if_neg (fun h => h1 h.1)]
  have hm := mayO_rest o h1
  by_cases h2 : restO o = zeroO
  case neg =>
    refine fin (rm_rest o (decide_eq_false h0) (decide_eq_false h9) h1 h2 w) ?_
    rw [hm, if_neg h2]
  rw [if_pos h2] at hm
  have ht0 : o.k ≠ 7 → o.t = ⟨#[]⟩ := fun hk => by
    have := congrArg OpT.t h2
    unfold restO at this
    repeat' split at this
    all_goals first | exact this | (exfalso; omega)
  by_cases k3 : o.k = 3
  · have hf : fitsO o = (mayC o.a0 o.a1 o.a2 o.a3 o.a4 && mayC o.b0 o.b1 o.b2 o.b3 o.b4) := by
      unfold fitsO
      rw [if_neg (by omega), if_pos k3]
    rw [hf, ht0 (by omega), mayL_empty] at hm
    by_cases h3 : mayC o.a0 o.a1 o.a2 o.a3 o.a4 = true
    · by_cases h4 : mayC o.b0 o.b1 o.b2 o.b3 o.b4 = true
      · exact fin (rm_3y o (decide_eq_false h0) (decide_eq_false h9) h1 h2 k3 h3 h4 w) (by rw [hm, h3, h4]; rfl)
      · have h4' : mayC o.b0 o.b1 o.b2 o.b3 o.b4 = false := by simpa using h4
        exact fin (rm_3m o (decide_eq_false h0) (decide_eq_false h9) h1 h2 k3 h3 h4' w) (by rw [hm, h3, h4']; rfl)
    · have h3' : mayC o.a0 o.a1 o.a2 o.a3 o.a4 = false := by simpa using h3
      exact fin (rm_3n o (decide_eq_false h0) (decide_eq_false h9) h1 h2 k3 h3' w) (by rw [hm, h3']; rfl)
  by_cases k5 : o.k = 5
  · have hf : fitsO o = (mayI o.s1 o.n1 && mayI o.s2 o.n2 && decide (0 ≤ o.m ∧ o.m ≤ 3)) := by
      unfold fitsO
      rw [if_neg (by omega), if_neg k3, if_pos k5]
    rw [hf, ht0 (by omega), mayL_empty] at hm
    by_cases h3 : mayI o.s1 o.n1 = true
    case neg =>
      have h3' : mayI o.s1 o.n1 = false := by simpa using h3
      exact fin (rm_5a o (decide_eq_false h0) (decide_eq_false h9) h1 h2 k5 h3' w) (by rw [hm, h3']; rfl)
    by_cases h4 : mayI o.s2 o.n2 = true
    case neg =>
      have h4' : mayI o.s2 o.n2 = false := by simpa using h4
      exact fin (rm_5b o (decide_eq_false h0) (decide_eq_false h9) h1 h2 k5 h3 h4' w) (by rw [hm, h3, h4']; rfl)
    by_cases h5 : o.m < 0
    · exact fin (rm_5c o (decide_eq_false h0) (decide_eq_false h9) h1 h2 k5 h3 h4 (decide_eq_true h5) w) (by rw [hm, h3, h4, decide_eq_false (by omega)]; rfl)
    by_cases h6 : 3 < o.m
    · exact fin (rm_5d o (decide_eq_false h0) (decide_eq_false h9) h1 h2 k5 h3 h4 (decide_eq_false h5) (decide_eq_true h6) w) (by rw [hm, h3, h4, decide_eq_false (by omega)]; rfl)
    · exact fin (rm_5y o (decide_eq_false h0) (decide_eq_false h9) h1 h2 k5 h3 h4 (decide_eq_false h5) (decide_eq_false h6) w) (by rw [hm, h3, h4, decide_eq_true (by omega)]; rfl)
  by_cases k6 : o.k = 6
  · have hf : fitsO o = mayI o.s2 o.n2 := by
      unfold fitsO
      rw [if_neg (by omega), if_neg k3, if_neg k5, if_pos k6]
    rw [hf, ht0 (by omega), mayL_empty] at hm
    by_cases h3 : mayI o.s2 o.n2 = true
    · exact fin (rm_6y o (decide_eq_false h0) (decide_eq_false h9) h1 h2 k6 h3 w) (by rw [hm, h3]; rfl)
    · have h3' : mayI o.s2 o.n2 = false := by simpa using h3
      exact fin (rm_6n o (decide_eq_false h0) (decide_eq_false h9) h1 h2 k6 h3' w) (by rw [hm, h3']; rfl)
  by_cases k8 : o.k = 8
  · have hf : fitsO o = mayAt o.m := by
      unfold fitsO
      rw [if_neg (by omega), if_neg k3, if_neg k5, if_neg k6, if_pos k8]
    rw [hf, ht0 (by omega), mayL_empty] at hm
    by_cases h3 : mayAt o.m = true
    · exact fin (rm_8y o (decide_eq_false h0) (decide_eq_false h9) h1 h2 k8 h3 w) (by rw [hm, h3]; rfl)
    · have h3' : mayAt o.m = false := by simpa using h3
      exact fin (rm_8n o (decide_eq_false h0) (decide_eq_false h9) h1 h2 k8 h3' w) (by rw [hm, h3']; rfl)
  have hf : fitsO o = true := by
    unfold fitsO
    rw [if_pos (by omega)]
  rw [hf, if_pos rfl] at hm
  by_cases k7 : o.k = 7
  · by_cases h3 : mayL o.t = true
    · exact fin (rm_7y o (decide_eq_false h0) (decide_eq_false h9) h1 h2 k7 (Lib.hid ht) h3 w) (by rw [hm, h3]; rfl)
    · have h3' : mayL o.t = false := by simpa using h3
      exact fin (rm_7n o (decide_eq_false h0) (decide_eq_false h9) h1 h2 k7 (Lib.hid ht) h3' w) (by rw [hm, h3']; rfl)
  · rw [ht0 k7, mayL_empty] at hm
    exact fin (rm_0y o (decide_eq_false h0) (decide_eq_false h9) h1 h2 (by simpa using k3) (by simpa using k5) (by simpa using k6) (by simpa using k7) (by simpa using k8) w) (by rw [hm]; rfl)
end Go.Proofs.Ytfbgbljljhgbjaa
