/- The contract of op.fits. -/
import Derived.Test.YtfbgbljljhgbjaaOp1
namespace Go.Proofs.Ytfbgbljljhgbjaa
open Go.RowKit
set_option linter.unusedSimpArgs false
set_option linter.unusedVariables false

set_option maxRecDepth 100000 in
set_option maxHeartbeats 2000000 in
theorem fits_at (k s n s1 n1 s2 n2 a0 a1 a2 a3 a4 b0 b1 b2 b3 b4 : Int) (e : Bool) (t : ByteArray) (m : Int) : Pure 22 #[.agg #[.int .i64 k, .int .i64 s, .int .i64 n, .int .i64 s1, .int .i64 n1, .int .i64 s2, .int .i64 n2, .int .i64 a0, .int .i64 a1, .int .i64 a2, .int .i64 a3, .int .i64 a4, .int .i64 b0, .int .i64 b1, .int .i64 b2, .int .i64 b3, .int .i64 b4, .bool e, .string t, .int .i64 m]] (.bool (fitsO ⟨k, s, n, s1, n1, s2, n2, a0, a1, a2, a3, a4, b0, b1, b2, b3, b4, e, t, m⟩)) := fun w => by
  unfold fitsO
  simp only
  by_cases k1 : k = 1
  · subst k1
    rw [if_pos (by decide)]
    go_enter Try.func22, Try.ntmps22
    go_wp2
    go_ret
    exact ⟨rfl, below1 _ _⟩
  have q1 : (k == 1) = false := by simpa using k1
  by_cases k2 : k = 2
  · subst k2
    rw [if_pos (by decide)]
    go_enter Try.func22, Try.ntmps22
    go_wp2
    go_ret
    exact ⟨rfl, below1 _ _⟩
  have q2 : (k == 2) = false := by simpa using k2
  by_cases k4 : k = 4
  · subst k4
    rw [if_pos (by decide)]
    go_enter Try.func22, Try.ntmps22
    go_wp2
    go_ret
    exact ⟨rfl, below1 _ _⟩
  have q4 : (k == 4) = false := by simpa using k4
  by_cases k7 : k = 7
  · subst k7
    rw [if_pos (by decide)]
    go_enter Try.func22, Try.ntmps22
    go_wp2
    go_ret
    exact ⟨rfl, below1 _ _⟩
  have q7 : (k == 7) = false := by simpa using k7
  rw [if_neg (by omega)]
  by_cases k3 : k = 3
  · subst k3
    rw [if_pos rfl]
    have ha := maycorner_any a0 a1 a2 a3 a4
    have hb' := maycorner_any b0 b1 b2 b3 b4
    obtain ⟨A, gA⟩ : ∃ x, mayC a0 a1 a2 a3 a4 = x := ⟨_, rfl⟩
    obtain ⟨B, gB⟩ : ∃ x, mayC b0 b1 b2 b3 b4 = x := ⟨_, rfl⟩
    rw [gA] at ha ⊢
    rw [gB] at hb' ⊢
    have HA := Lib.hid ha
    have HB := Lib.hid hb'
    clear ha hb' gA gB k1 k2 k4 k7 q1 q2 q4 q7
    have tok : True := trivial
    cases A
    · go_enter Try.func22, Try.ntmps22
      go_wp2_with (first
        | (go_at_call 31; refine (HA.out _).mono ?_; rintro e w1 ⟨rfl, hb1⟩; obtain ⟨hc1, hf1⟩ := bcell hb1))
      go_ret
      exact ⟨rfl, below_after1 hb1⟩
    · go_enter Try.func22, Try.ntmps22
      go_wp2_with (first
        | (go_at_call 31; have _t := tok; refine (HA.out _).mono ?_; rintro e w1 ⟨rfl, hb1⟩; obtain ⟨hc1, hf1⟩ := bcell hb1; clear tok)
        | (go_at_call 31; refine (HB.out _).mono ?_; rintro e w2 ⟨rfl, hb2⟩; obtain ⟨hc2, hf2⟩ := bcell hb2))
      go_ret
      exact ⟨by first | (simp; done) | (simp; omega), (below_after1 hb1).trans (hb2.mono (below_after1 hb1).size)⟩
  rw [if_neg k3]
  have q3 : (k == 3) = false := by simpa using k3
  by_cases k5 : k = 5
  · subst k5
    rw [if_pos rfl]
    have ha := may_any s1 n1
    have hb' := may_any s2 n2
    obtain ⟨A, gA⟩ : ∃ x, mayI s1 n1 = x := ⟨_, rfl⟩
    obtain ⟨B, gB⟩ : ∃ x, mayI s2 n2 = x := ⟨_, rfl⟩
    rw [gA] at ha ⊢
    rw [gB] at hb' ⊢
    have HA := Lib.hid ha
    have HB := Lib.hid hb'
    clear ha hb' gA gB k1 k2 k4 k7 q1 q2 q4 q7 k3 q3
    have tok : True := trivial
    cases A
    · go_enter Try.func22, Try.ntmps22
      go_wp2_with (first
        | (go_at_call 21; refine (HA.out _).mono ?_; rintro e w1 ⟨rfl, hb1⟩; obtain ⟨hc1, hf1⟩ := bcell hb1))
      go_ret
      exact ⟨rfl, below_after1 hb1⟩
    · cases B
      · go_enter Try.func22, Try.ntmps22
        go_wp2_with (first
          | (go_at_call 21; have _t := tok; refine (HA.out _).mono ?_; rintro e w1 ⟨rfl, hb1⟩; obtain ⟨hc1, hf1⟩ := bcell hb1; have hs1 : w.heap.size < w1.heap.size := Nat.lt_of_lt_of_le (by simp) hb1.size; clear tok)
          | (go_at_call 21; refine (HB.out _).mono ?_; rintro e w2 ⟨rfl, hb2⟩; obtain ⟨hc2, hf2⟩ := bcell hb2))
        go_ret
        exact ⟨by first | (simp; done) | (simp; omega), (below_after1 hb1).trans (hb2.mono (below_after1 hb1).size)⟩
      · by_cases m0 : 0 ≤ m
        · by_cases m3 : m ≤ 3
          · have hd : decide (0 ≤ m ∧ m ≤ 3) = true := decide_eq_true ⟨m0, m3⟩
            rw [hd]
            clear hd
            go_enter Try.func22, Try.ntmps22
            go_wp2_with (first
              | (go_at_call 21; have _t := tok; refine (HA.out _).mono ?_; rintro e w1 ⟨rfl, hb1⟩; obtain ⟨hc1, hf1⟩ := bcell hb1; have hs1 : w.heap.size < w1.heap.size := Nat.lt_of_lt_of_le (by simp) hb1.size; clear tok)
              | (go_at_call 21; refine (HB.out _).mono ?_; rintro e w2 ⟨rfl, hb2⟩; obtain ⟨hc2, hf2⟩ := bcell hb2))
            go_ret
            exact ⟨by first | (simp; done) | (simp; omega), (below_after1 hb1).trans (hb2.mono (below_after1 hb1).size)⟩
          · have hd : decide (0 ≤ m ∧ m ≤ 3) = false := decide_eq_false (fun h => m3 h.2)
            rw [hd]
            clear hd
            go_enter Try.func22, Try.ntmps22
            go_wp2_with (first
              | (go_at_call 21; have _t := tok; refine (HA.out _).mono ?_; rintro e w1 ⟨rfl, hb1⟩; obtain ⟨hc1, hf1⟩ := bcell hb1; have hs1 : w.heap.size < w1.heap.size := Nat.lt_of_lt_of_le (by simp) hb1.size; clear tok)
              | (go_at_call 21; refine (HB.out _).mono ?_; rintro e w2 ⟨rfl, hb2⟩; obtain ⟨hc2, hf2⟩ := bcell hb2))
            go_ret
            exact ⟨by first | (simp; done) | (simp; omega), (below_after1 hb1).trans (hb2.mono (below_after1 hb1).size)⟩
        · have hd : decide (0 ≤ m ∧ m ≤ 3) = false := decide_eq_false (fun h => m0 h.1)
          rw [hd]
          clear hd
          go_enter Try.func22, Try.ntmps22
          go_wp2_with (first
            | (go_at_call 21; have _t := tok; refine (HA.out _).mono ?_; rintro e w1 ⟨rfl, hb1⟩; obtain ⟨hc1, hf1⟩ := bcell hb1; have hs1 : w.heap.size < w1.heap.size := Nat.lt_of_lt_of_le (by simp) hb1.size; clear tok)
            | (go_at_call 21; refine (HB.out _).mono ?_; rintro e w2 ⟨rfl, hb2⟩; obtain ⟨hc2, hf2⟩ := bcell hb2))
          go_ret
          exact ⟨by first | (simp; done) | (simp; omega), (below_after1 hb1).trans (hb2.mono (below_after1 hb1).size)⟩
  rw [if_neg k5]
  have q5 : (k == 5) = false := by simpa using k5
  by_cases k6 : k = 6
  · subst k6
    rw [if_pos rfl]
    have H := Lib.hid (may_any s2 n2)
    obtain ⟨A, gA⟩ : ∃ x, mayI s2 n2 = x := ⟨_, rfl⟩
    rw [gA] at H ⊢
    clear gA k1 k2 k4 k7 q1 q2 q4 q7 k3 q3 k5 q5
    go_enter Try.func22, Try.ntmps22
    go_wp2_with (first
      | (go_at_call 21; refine (H.out _).mono ?_; rintro e w1 ⟨rfl, hb1⟩; obtain ⟨hc1, hf1⟩ := bcell hb1))
    go_ret
    exact ⟨rfl, below_after1 hb1⟩
  rw [if_neg k6]
  have q6 : (k == 6) = false := by simpa using k6
  by_cases k8 : k = 8
  · subst k8
    rw [if_pos rfl]
    have H := Lib.hid (mayattr_any m)
    obtain ⟨A, gA⟩ : ∃ x, mayAt m = x := ⟨_, rfl⟩
    rw [gA] at H ⊢
    clear gA k1 k2 k4 k7 q1 q2 q4 q7 k3 q3 k5 q5 k6 q6
    go_enter Try.func22, Try.ntmps22
    go_wp2_with (first
      | (go_at_call 32; refine (H.out _).mono ?_; rintro e w1 ⟨rfl, hb1⟩; obtain ⟨hc1, hf1⟩ := bcell hb1))
    go_ret
    exact ⟨rfl, below_after1 hb1⟩
  · have q8 : (k == 8) = false := by simpa using k8
    rw [if_neg k8]
    clear k1 k2 k4 k7 k3 k5 k6 k8
    go_enter Try.func22, Try.ntmps22
    go_wp2
    go_ret
    exact ⟨rfl, below1 _ _⟩
end Go.Proofs.Ytfbgbljljhgbjaa
