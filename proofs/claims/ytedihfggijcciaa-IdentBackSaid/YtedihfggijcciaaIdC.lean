/- The contracts of the document's own answers for May, Order, MayDart, OrderDart, Other. -/
import Derived.Test.YtedihfggijcciaaIdB
namespace Go.Proofs.Ytedihfggijcciaa
open Go.RowKit

theorem rmay_any (s n : Int) : Pure 12 #[.agg #[.int .i64 s, .int .i64 n]] (.bool (mayI s n)) := fun w => by
  by_cases h : 1 ≤ s ∧ s ≤ 8 ∧ 1 ≤ n ∧ n ≤ 1048576
  · rw [show mayI s n = true from decide_eq_true h]
    obtain ⟨h1, h2, h3, h4⟩ := h
    go_enter Try.func12, Try.ntmps12
    go_wp2
    go_ret
    exact ⟨rfl, below1 _ _⟩
  · rw [show mayI s n = false from decide_eq_false h]
    by_cases h1 : 1 ≤ s
    · by_cases h2 : s ≤ 8
      · by_cases h3 : 1 ≤ n
        · have h4 : ¬ n ≤ 1048576 := by omega
          clear h
          go_enter Try.func12, Try.ntmps12
          go_wp2
          go_ret
          exact ⟨rfl, below1 _ _⟩
        · clear h
          go_enter Try.func12, Try.ntmps12
          go_wp2
          go_ret
          exact ⟨rfl, below1 _ _⟩
      · clear h
        go_enter Try.func12, Try.ntmps12
        go_wp2
        go_ret
        exact ⟨rfl, below1 _ _⟩
    · clear h
      go_enter Try.func12, Try.ntmps12
      go_wp2
      go_ret
      exact ⟨rfl, below1 _ _⟩

theorem rorder_any (s n s' n' : Int) : Pure 14 #[.agg #[.int .i64 s, .int .i64 n], .agg #[.int .i64 s', .int .i64 n']] (.int .i64 (ordI s n s' n')) := fun w => by
  unfold ordI cmpI
  by_cases e : s = s'
  · subst e
    rw [if_pos rfl]
    by_cases h1 : n < n'
    · rw [if_pos h1]
      have h3 : (n == n') = false := by simp; omega
      go_enter Try.func14, Try.ntmps14
      go_wp2
      go_ret
      exact ⟨rfl, below2 _ _ _⟩
    · rw [if_neg h1]
      by_cases h2 : n' < n
      · rw [if_pos h2]
        have h3 : (n == n') = false := by simp; omega
        go_enter Try.func14, Try.ntmps14
        go_wp2
        go_ret
        exact ⟨rfl, below2 _ _ _⟩
      · rw [if_neg h2]
        obtain rfl : n = n' := by omega
        clear h1 h2
        go_enter Try.func14, Try.ntmps14
        go_wp2
        go_ret
        exact ⟨rfl, below2 _ _ _⟩
  · rw [if_neg e]
    have h3 : (s == s') = false := by simp; omega
    by_cases h1 : s < s'
    · rw [if_pos h1]
      clear e
      go_enter Try.func14, Try.ntmps14
      go_wp2
      go_ret
      exact ⟨rfl, below2 _ _ _⟩
    · rw [if_neg h1, if_pos (by omega)]
      clear e
      go_enter Try.func14, Try.ntmps14
      go_wp2
      go_ret
      exact ⟨rfl, below2 _ _ _⟩

theorem rmaydart_may (s n c : Int) (w : World) (h : mayI s n = true) :
    Calls Try.prog 10 #[.agg #[.int .i64 s, .int .i64 n, .int .i64 c]] w fun e w' => e = .returned (.bool (decide (c = 0) || decide (c = 1))) ∧ Below w.heap.size w w' := by
  have hm := rmay_any s n
  rw [h] at hm
  have H := Lib.hid hm
  clear hm h
  by_cases c0 : c = 0
  · subst c0
    go_enter Try.func10, Try.ntmps10
    go_wp2_with (first | (go_at_call 12; refine (H.out _).mono ?_; rintro e w' ⟨rfl, hb⟩; obtain ⟨hc, hf⟩ := bcell hb))
    go_ret
    exact ⟨rfl, below_after1 hb⟩
  · have h0 : (c == 0) = false := by simpa using c0
    by_cases c1 : c = 1
    · subst c1
      go_enter Try.func10, Try.ntmps10
      go_wp2_with (first | (go_at_call 12; refine (H.out _).mono ?_; rintro e w' ⟨rfl, hb⟩; obtain ⟨hc, hf⟩ := bcell hb))
      go_ret
      exact ⟨rfl, below_after1 hb⟩
    · have h1 : (c == 1) = false := by simpa using c1
      have hr : (decide (c = 0) || decide (c = 1)) = false := by simp [c0, c1]
      rw [hr]
      clear hr
      go_enter Try.func10, Try.ntmps10
      go_wp2_with (first | (go_at_call 12; refine (H.out _).mono ?_; rintro e w' ⟨rfl, hb⟩; obtain ⟨hc, hf⟩ := bcell hb))
      go_ret
      exact ⟨rfl, below_after1 hb⟩

theorem rmaydart_not (s n c : Int) (w : World) (h : mayI s n = false) :
    Calls Try.prog 10 #[.agg #[.int .i64 s, .int .i64 n, .int .i64 c]] w fun e w' => e = .returned (.bool false) ∧ Below w.heap.size w w' := by
  have hm := rmay_any s n
  rw [h] at hm
  have H := Lib.hid hm
  clear hm h
  go_enter Try.func10, Try.ntmps10
  go_wp2_with (first | (go_at_call 12; refine (H.out _).mono ?_; rintro e w' ⟨rfl, hb⟩; obtain ⟨hc, hf⟩ := bcell hb))
  go_ret
  exact ⟨rfl, below_after1 hb⟩

theorem rmaydart_any (s n c : Int) : Pure 10 #[.agg #[.int .i64 s, .int .i64 n, .int .i64 c]] (.bool (mayD s n c)) := fun w => by
  unfold mayD
  cases h : mayI s n
  · exact rmaydart_not s n c w h
  · exact rmaydart_may s n c w h

theorem cmpI_cases (a b : Int) : (a < b ∧ cmpI a b = -1) ∨ (b < a ∧ cmpI a b = 1) ∨ (a = b ∧ cmpI a b = 0) := by
  unfold cmpI
  split
  · exact .inl ⟨‹_›, rfl⟩
  · split
    · exact .inr (.inl ⟨‹_›, rfl⟩)
    · exact .inr (.inr ⟨by omega, rfl⟩)
theorem ordI_zero (s n s' n' : Int) : ordI s n s' n' = 0 ↔ s = s' ∧ n = n' := by
  unfold ordI
  have h1 := cmpI_cases n n'
  have h2 := cmpI_cases s s'
  split <;> omega

theorem rorderdart_any (s n c s' n' c' : Int) : Pure 17 #[.agg #[.int .i64 s, .int .i64 n, .int .i64 c], .agg #[.int .i64 s', .int .i64 n', .int .i64 c']] (.int .i64 (ordD s n c s' n' c')) := fun w => by
  unfold ordD
  have hm := rorder_any s n s' n'
  by_cases h : s = s' ∧ n = n'
  · rw [if_pos h]
    rw [(ordI_zero s n s' n').2 h] at hm
    have H := Lib.hid hm
    clear hm
    obtain ⟨rfl, rfl⟩ := h
    unfold cmpI
    by_cases h1 : c < c'
    · rw [if_pos h1]
      go_enter Try.func17, Try.ntmps17
      go_wp2_with (first | (go_at_call 14; refine (H.out _).mono ?_; rintro e w' ⟨rfl, hb⟩; obtain ⟨hc, hf⟩ := bcell hb))
      go_ret
      exact ⟨rfl, below_after2 hb⟩
    · rw [if_neg h1]
      by_cases h2 : c' < c
      · rw [if_pos h2]
        go_enter Try.func17, Try.ntmps17
        go_wp2_with (first | (go_at_call 14; refine (H.out _).mono ?_; rintro e w' ⟨rfl, hb⟩; obtain ⟨hc, hf⟩ := bcell hb))
        go_ret
        exact ⟨rfl, below_after2 hb⟩
      · rw [if_neg h2]
        go_enter Try.func17, Try.ntmps17
        go_wp2_with (first | (go_at_call 14; refine (H.out _).mono ?_; rintro e w' ⟨rfl, hb⟩; obtain ⟨hc, hf⟩ := bcell hb))
        go_ret
        exact ⟨rfl, below_after2 hb⟩
  · rw [if_neg h]
    have hz : ordI s n s' n' ≠ 0 := fun e => h ((ordI_zero s n s' n').1 e)
    clear h
    generalize ordI s n s' n' = x at *
    have H := Lib.hid hm
    clear hm
    have h1 : (x != 0) = true := by simpa using hz
    clear hz
    go_enter Try.func17, Try.ntmps17
    go_wp2_with (first | (go_at_call 14; refine (H.out _).mono ?_; rintro e w' ⟨rfl, hb⟩; obtain ⟨hc, hf⟩ := bcell hb))
    go_ret
    exact ⟨rfl, below_after2 hb⟩

theorem rother_any (s n c : Int) (h1 : -9223372036854775807 < c) (h2 : c ≤ 9223372036854775807) : Pure 19 #[.agg #[.int .i64 s, .int .i64 n, .int .i64 c]] (.agg #[.int .i64 s, .int .i64 n, .int .i64 (1 - c)]) := fun w => by
  go_enter Try.func19, Try.ntmps19
  go_wp2
  exact bodyPost_ret (v := .agg #[.int .i64 s, .int .i64 n, .int .i64 (1 - c)]) (by simp [results, Try.results19, go_sem]) rfl ⟨rfl, below2 _ _ _⟩
end Go.Proofs.Ytedihfggijcciaa
