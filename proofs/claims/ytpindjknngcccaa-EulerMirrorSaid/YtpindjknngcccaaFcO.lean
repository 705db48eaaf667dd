/- ident.OrderDart lays blocks alone. -/
import Derived.Test.YtpindjknngcccaaDart
import Derived.Shelf.SlSortCmp.WholeK
namespace Go.Proofs.Ytpindjknngcccaa
open Go.RowKit Go.Shelf Go.Lib Go.Sort
/-- Blocks alone are laid. -/
def GrW (w w' : World) : Prop := ∃ q os, w' = grow (w.drewN q) os
def PureGw (k : FuncId) (args : Array Value) (v : Value) : Prop := ∀ w : World, Calls Try.prog k args w fun e w' => e = .returned v ∧ GrW w w'
theorem gr2 (w : World) (o o' : Obj) : GrW w ((w.alloc o).alloc o') := ⟨0, _, by rw [alloc_eq_grow, alloc_eq_grow, grow_grow]; rfl⟩
theorem GrW.below {w w' : World} (h : GrW w w') : Below w.heap.size w w' := by
  obtain ⟨q, os, rfl⟩ := h
  refine ⟨rfl, rfl, rfl, ?_, fun k hk => ?_⟩
  · simp [grow, World.drewN]
  · simp [grow, World.drewN, Array.getElem?_append, hk]
theorem gr_after2 {w w' : World} {o o' : Obj} (h : GrW ((w.alloc o).alloc o') w') : GrW w w' := by
  obtain ⟨q, os, rfl⟩ := h
  refine ⟨q, (#[o] ++ #[o']) ++ os, ?_⟩
  rw [alloc_eq_grow, alloc_eq_grow, grow_grow, show (grow w (#[o] ++ #[o'])).drewN q = grow (w.drewN q) (#[o] ++ #[o']) from rfl, grow_grow]
theorem order_same_g (s n : Int) (w : World) :
    Calls Try.prog 71 #[.agg #[.int .i64 s, .int .i64 n], .agg #[.int .i64 s, .int .i64 n]] w fun e w' => e = .returned (.int .i64 0) ∧ GrW w w' := by
  go_enter Try.func71, Try.ntmps71
  go_wp2
  go_ret
  exact ⟨rfl, gr2 _ _ _⟩

theorem order_site_lt_g (s n s' n' : Int) (w : World) (h : s < s') :
    Calls Try.prog 71 #[.agg #[.int .i64 s, .int .i64 n], .agg #[.int .i64 s', .int .i64 n']] w fun e w' => e = .returned (.int .i64 (-1)) ∧ GrW w w' := by
  have h1 : (s == s') = false := by simp; omega
  have h2 : (s != s') = true := by simp; omega
  go_enter Try.func71, Try.ntmps71
  go_wp2
  go_ret
  exact ⟨rfl, gr2 _ _ _⟩

theorem order_site_gt_g (s n s' n' : Int) (w : World) (h : s' < s) :
    Calls Try.prog 71 #[.agg #[.int .i64 s, .int .i64 n], .agg #[.int .i64 s', .int .i64 n']] w fun e w' => e = .returned (.int .i64 1) ∧ GrW w w' := by
  have h1 : (s == s') = false := by simp; omega
  have h2 : (s != s') = true := by simp; omega
  have h3 : ¬ s < s' := by omega
  go_enter Try.func71, Try.ntmps71
  go_wp2
  go_ret
  exact ⟨rfl, gr2 _ _ _⟩

theorem order_n_lt_g (s n n' : Int) (w : World) (h : n < n') :
    Calls Try.prog 71 #[.agg #[.int .i64 s, .int .i64 n], .agg #[.int .i64 s, .int .i64 n']] w fun e w' => e = .returned (.int .i64 (-1)) ∧ GrW w w' := by
  have h1 : (n == n') = false := by simp; omega
  go_enter Try.func71, Try.ntmps71
  go_wp2
  go_ret
  exact ⟨rfl, gr2 _ _ _⟩

theorem order_n_gt_g (s n n' : Int) (w : World) (h : n' < n) :
    Calls Try.prog 71 #[.agg #[.int .i64 s, .int .i64 n], .agg #[.int .i64 s, .int .i64 n']] w fun e w' => e = .returned (.int .i64 1) ∧ GrW w w' := by
  have h1 : (n == n') = false := by simp; omega
  have h3 : ¬ n < n' := by omega
  go_enter Try.func71, Try.ntmps71
  go_wp2
  go_ret
  exact ⟨rfl, gr2 _ _ _⟩

theorem order_any_g (s n s' n' : Int) : PureGw 71 #[.agg #[.int .i64 s, .int .i64 n], .agg #[.int .i64 s', .int .i64 n']] (.int .i64 (ordI s n s' n')) := fun w => by
  unfold ordI cmpI
  by_cases e : s = s'
  · subst e
    rw [if_pos rfl]
    by_cases h1 : n < n'
    · rw [if_pos h1]; exact order_n_lt_g s n n' w h1
    · rw [if_neg h1]
      by_cases h2 : n' < n
      · rw [if_pos h2]; exact order_n_gt_g s n n' w h2
      · rw [if_neg h2]
        obtain rfl : n = n' := by omega
        exact order_same_g s n w
  · rw [if_neg e]
    by_cases h1 : s < s'
    · rw [if_pos h1]; exact order_site_lt_g s n s' n' w h1
    · rw [if_neg h1, if_pos (by omega)]
      exact order_site_gt_g s n s' n' w (by omega)
theorem orderdart_edge_g (s n c s' n' c' : Int) (w : World) (h : ¬ (s = s' ∧ n = n')) :
    Calls Try.prog 82 #[.agg #[.int .i64 s, .int .i64 n, .int .i64 c], .agg #[.int .i64 s', .int .i64 n', .int .i64 c']] w fun e w' => e = .returned (.int .i64 (ordI s n s' n')) ∧ GrW w w' := by
  have hm := Lib.hid (order_any_g s n s' n')
  by_cases h0 : s = s'
  · subst h0
    have h1 : (n == n') = false := by simpa using fun e => h ⟨rfl, e⟩
    clear h
    go_enter Try.func82, Try.ntmps82
    go_wp2_with (first | (go_at_call 71; refine (hm.out _).mono ?_; rintro e w' ⟨rfl, hb⟩; obtain ⟨hc, hf⟩ := bcell hb.below))
    go_ret
    exact ⟨rfl, gr_after2 hb⟩
  · have h1 : (s == s') = false := by simpa using h0
    clear h
    go_enter Try.func82, Try.ntmps82
    go_wp2_with (first | (go_at_call 71; refine (hm.out _).mono ?_; rintro e w' ⟨rfl, hb⟩; obtain ⟨hc, hf⟩ := bcell hb.below))
    go_ret
    exact ⟨rfl, gr_after2 hb⟩

theorem orderdart_side_g (s n c c' : Int) (w : World) :
    Calls Try.prog 82 #[.agg #[.int .i64 s, .int .i64 n, .int .i64 c], .agg #[.int .i64 s, .int .i64 n, .int .i64 c']] w fun e w' => e = .returned (.int .i64 (cmpI c c')) ∧ GrW w w' := by
  unfold cmpI
  by_cases h1 : c < c'
  · rw [if_pos h1]
    go_enter Try.func82, Try.ntmps82
    go_wp2
    go_ret
    exact ⟨rfl, gr2 _ _ _⟩
  · rw [if_neg h1]
    by_cases h2 : c' < c
    · rw [if_pos h2]
      go_enter Try.func82, Try.ntmps82
      go_wp2
      go_ret
      exact ⟨rfl, gr2 _ _ _⟩
    · rw [if_neg h2]
      go_enter Try.func82, Try.ntmps82
      go_wp2
      go_ret
      exact ⟨rfl, gr2 _ _ _⟩

theorem orderdart_any_g (s n c s' n' c' : Int) : PureGw 82 #[.agg #[.int .i64 s, .int .i64 n, .int .i64 c], .agg #[.int .i64 s', .int .i64 n', .int .i64 c']] (.int .i64 (ordD s n c s' n' c')) := fun w => by
  unfold ordD
  by_cases h : s = s' ∧ n = n'
  · rw [if_pos h]
    obtain ⟨rfl, rfl⟩ := h
    exact orderdart_side_g s n c c' w
  · rw [if_neg h]
    exact orderdart_edge_g s n c s' n' c' w h

end Go.Proofs.Ytpindjknngcccaa
