/- The contracts of ident's MayDart, OrderDart, Other, and of the document's own answers for them. -/
import Derived.Test.YtedihfggijcciaaIdA
namespace Go.Proofs.Ytedihfggijcciaa
open Go.RowKit

theorem below_after1 {w w1 : World} {o : Obj} (hb : Below (w.alloc o).heap.size (w.alloc o) w1) : Below w.heap.size w w1 := (below1 w o).trans (hb.mono (by simp))
theorem below_after2 {w w1 : World} {o o' : Obj} (hb : Below ((w.alloc o).alloc o').heap.size ((w.alloc o).alloc o') w1) : Below w.heap.size w w1 := (below2 w o o').trans (hb.mono (by simp; omega))

theorem bcell {W w1 : World} (hb : Below W.heap.size W w1) : (∀ b o, b < W.heap.size → w1.cell? ⟨b, o, none⟩ = W.cell? ⟨b, o, none⟩) ∧ (∀ b o, b < W.heap.size → w1.frozen? ⟨b, o, none⟩ = W.frozen? ⟨b, o, none⟩) :=
  ⟨fun _ _ h => hb.cell h, fun _ _ h => hb.frozen h⟩

theorem maydart_may (s n c : Int) (w : World) (h : mayI s n = true) :
    Calls Try.prog 15 #[.agg #[.int .i64 s, .int .i64 n, .int .i64 c]] w fun e w' => e = .returned (.bool (decide (c = 0) || decide (c = 1))) ∧ Below w.heap.size w w' := by
  have hm := may_any s n
  rw [h] at hm
  have H := Lib.hid hm
  clear hm h
  by_cases c0 : c = 0
  · subst c0
    go_enter Try.func15, Try.ntmps15
    go_wp2_with (first | (go_at_call 11; refine (H.out _).mono ?_; rintro e w' ⟨rfl, hb⟩; obtain ⟨hc, hf⟩ := bcell hb))
    go_ret
    exact ⟨rfl, below_after1 hb⟩
  · have h0 : (c == 0) = false := by simpa using c0
    by_cases c1 : c = 1
    · subst c1
      go_enter Try.func15, Try.ntmps15
      go_wp2_with (first | (go_at_call 11; refine (H.out _).mono ?_; rintro e w' ⟨rfl, hb⟩; obtain ⟨hc, hf⟩ := bcell hb))
      go_ret
      exact ⟨rfl, below_after1 hb⟩
    · have h1 : (c == 1) = false := by simpa using c1
      have hr : (decide (c = 0) || decide (c = 1)) = false := by simp [c0, c1]
      rw [hr]
      clear hr
      go_enter Try.func15, Try.ntmps15
      go_wp2_with (first | (go_at_call 11; refine (H.out _).mono ?_; rintro e w' ⟨rfl, hb⟩; obtain ⟨hc, hf⟩ := bcell hb))
      go_ret
      exact ⟨rfl, below_after1 hb⟩

theorem maydart_not (s n c : Int) (w : World) (h : mayI s n = false) :
    Calls Try.prog 15 #[.agg #[.int .i64 s, .int .i64 n, .int .i64 c]] w fun e w' => e = .returned (.bool false) ∧ Below w.heap.size w w' := by
  have hm := may_any s n
  rw [h] at hm
  have H := Lib.hid hm
  clear hm h
  go_enter Try.func15, Try.ntmps15
  go_wp2_with (first | (go_at_call 11; refine (H.out _).mono ?_; rintro e w' ⟨rfl, hb⟩; obtain ⟨hc, hf⟩ := bcell hb))
  go_ret
  exact ⟨rfl, below_after1 hb⟩

theorem maydart_any (s n c : Int) : Pure 15 #[.agg #[.int .i64 s, .int .i64 n, .int .i64 c]] (.bool (mayD s n c)) := fun w => by
  unfold mayD
  cases h : mayI s n
  · exact maydart_not s n c w h
  · exact maydart_may s n c w h

theorem orderdart_edge (s n c s' n' c' : Int) (w : World) (h : ¬ (s = s' ∧ n = n')) :
    Calls Try.prog 16 #[.agg #[.int .i64 s, .int .i64 n, .int .i64 c], .agg #[.int .i64 s', .int .i64 n', .int .i64 c']] w fun e w' => e = .returned (.int .i64 (ordI s n s' n')) ∧ Below w.heap.size w w' := by
  have hm := Lib.hid (order_any s n s' n')
  by_cases h0 : s = s'
  · subst h0
    have h1 : (n == n') = false := by simpa using fun e => h ⟨rfl, e⟩
    clear h
    go_enter Try.func16, Try.ntmps16
    go_wp2_with (first | (go_at_call 13; refine (hm.out _).mono ?_; rintro e w' ⟨rfl, hb⟩; obtain ⟨hc, hf⟩ := bcell hb))
    go_ret
    exact ⟨rfl, below_after2 hb⟩
  · have h1 : (s == s') = false := by simpa using h0
    clear h
    go_enter Try.func16, Try.ntmps16
    go_wp2_with (first | (go_at_call 13; refine (hm.out _).mono ?_; rintro e w' ⟨rfl, hb⟩; obtain ⟨hc, hf⟩ := bcell hb))
    go_ret
    exact ⟨rfl, below_after2 hb⟩

theorem orderdart_side (s n c c' : Int) (w : World) :
    Calls Try.prog 16 #[.agg #[.int .i64 s, .int .i64 n, .int .i64 c], .agg #[.int .i64 s, .int .i64 n, .int .i64 c']] w fun e w' => e = .returned (.int .i64 (cmpI c c')) ∧ Below w.heap.size w w' := by
  unfold cmpI
  by_cases h1 : c < c'
  · rw [if_pos h1]
    go_enter Try.func16, Try.ntmps16
    go_wp2
    go_ret
    exact ⟨rfl, below2 _ _ _⟩
  · rw [if_neg h1]
    by_cases h2 : c' < c
    · rw [if_pos h2]
      go_enter Try.func16, Try.ntmps16
      go_wp2
      go_ret
      exact ⟨rfl, below2 _ _ _⟩
    · rw [if_neg h2]
      go_enter Try.func16, Try.ntmps16
      go_wp2
      go_ret
      exact ⟨rfl, below2 _ _ _⟩

theorem orderdart_any (s n c s' n' c' : Int) : Pure 16 #[.agg #[.int .i64 s, .int .i64 n, .int .i64 c], .agg #[.int .i64 s', .int .i64 n', .int .i64 c']] (.int .i64 (ordD s n c s' n' c')) := fun w => by
  unfold ordD
  by_cases h : s = s' ∧ n = n'
  · rw [if_pos h]
    obtain ⟨rfl, rfl⟩ := h
    exact orderdart_side s n c c' w
  · rw [if_neg h]
    exact orderdart_edge s n c s' n' c' w h

theorem other_any (s n c : Int) (h1 : -9223372036854775807 < c) (h2 : c ≤ 9223372036854775807) : Pure 18 #[.agg #[.int .i64 s, .int .i64 n, .int .i64 c]] (.agg #[.int .i64 s, .int .i64 n, .int .i64 (1 - c)]) := fun w => by
  go_enter Try.func18, Try.ntmps18
  go_wp2
  exact bodyPost_ret (v := .agg #[.int .i64 s, .int .i64 n, .int .i64 (1 - c)]) (by simp [results, Try.results18, go_sem]) rfl ⟨rfl, below2 _ _ _⟩
end Go.Proofs.Ytedihfggijcciaa
