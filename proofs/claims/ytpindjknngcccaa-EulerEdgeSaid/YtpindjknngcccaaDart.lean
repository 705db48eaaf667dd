/- The order of names and darts: the contracts of ident's Order and OrderDart, and of the document's own; its laws; darts compared. -/
import Derived.Test.YtpindjknngcccaaProg
import Derived.Test.YtpindjknngcccaaBase
import Derived.WalkSpells
import Derived.WalkLawsBesides
import Derived.KernelRfl
namespace Go.Proofs.Ytpindjknngcccaa
open Go.RowKit

/-- A call that answers v and leaves all that was there as it was, in every world. -/
def Pure (k : FuncId) (args : Array Value) (v : Value) : Prop := ∀ w : World, Calls Try.prog k args w fun e w' => e = .returned v ∧ Below w.heap.size w w'

def mayI (s n : Int) : Bool := decide (1 ≤ s ∧ s ≤ 8 ∧ 1 ≤ n ∧ n ≤ 1048576)
def cmpI (a b : Int) : Int := if a < b then -1 else if b < a then 1 else 0
def ordI (s n s' n' : Int) : Int := if s = s' then cmpI n n' else cmpI s s'
def ordD (s n c s' n' c' : Int) : Int := if s = s' ∧ n = n' then cmpI c c' else ordI s n s' n'

theorem ret_int {a b : Int} (h : a = b) : Ending.returned (.int .i64 a) = .returned (.int .i64 b) := by rw [h]
theorem ret_bool {a b : Bool} (h : a = b) : Ending.returned (.bool a) = .returned (.bool b) := by rw [h]

theorem below1 (w : World) (o : Obj) : Below w.heap.size w (w.alloc o) := (Below.refl _ _).alloc (Nat.le_refl _) o
theorem below2 (w : World) (o o' : Obj) : Below w.heap.size w ((w.alloc o).alloc o') := (below1 w o).alloc (by simp) o'

theorem below_drewN (B : Nat) (w : World) (n : Nat) : Below B w (w.drewN n) := ⟨rfl, rfl, rfl, Nat.le_refl _, fun _ _ => rfl⟩
theorem below_after2 {w w1 : World} {o o' : Obj} (hb : Below ((w.alloc o).alloc o').heap.size ((w.alloc o).alloc o') w1) : Below w.heap.size w w1 := (below2 w o o').trans (hb.mono (by simp; omega))

theorem bcell {W w1 : World} (hb : Below W.heap.size W w1) : (∀ b o, b < W.heap.size → w1.cell? ⟨b, o, none⟩ = W.cell? ⟨b, o, none⟩) ∧ (∀ b o, b < W.heap.size → w1.frozen? ⟨b, o, none⟩ = W.frozen? ⟨b, o, none⟩) :=
  ⟨fun _ _ h => hb.cell h, fun _ _ h => hb.frozen h⟩

theorem rorder_any (s n s' n' : Int) : Pure 61 #[.agg #[.int .i64 s, .int .i64 n], .agg #[.int .i64 s', .int .i64 n']] (.int .i64 (ordI s n s' n')) := fun w => by
  unfold ordI cmpI
  by_cases e : s = s'
  · subst e
    rw [if_pos rfl]
    by_cases h1 : n < n'
    · rw [if_pos h1]
      have h3 : (n == n') = false := by simp; omega
      go_enter Try.func61, Try.ntmps61
      go_wp2
      go_ret
      exact ⟨rfl, below2 _ _ _⟩
    · rw [if_neg h1]
      by_cases h2 : n' < n
      · rw [if_pos h2]
        have h3 : (n == n') = false := by simp; omega
        go_enter Try.func61, Try.ntmps61
        go_wp2
        go_ret
        exact ⟨rfl, below2 _ _ _⟩
      · rw [if_neg h2]
        obtain rfl : n = n' := by omega
        clear h1 h2
        go_enter Try.func61, Try.ntmps61
        go_wp2
        go_ret
        exact ⟨rfl, below2 _ _ _⟩
  · rw [if_neg e]
    have h3 : (s == s') = false := by simp; omega
    by_cases h1 : s < s'
    · rw [if_pos h1]
      clear e
      go_enter Try.func61, Try.ntmps61
      go_wp2
      go_ret
      exact ⟨rfl, below2 _ _ _⟩
    · rw [if_neg h1, if_pos (by omega)]
      clear e
      go_enter Try.func61, Try.ntmps61
      go_wp2
      go_ret
      exact ⟨rfl, below2 _ _ _⟩

theorem cmpI_cases (a b : Int) : (a < b ∧ cmpI a b = -1) ∨ (b < a ∧ cmpI a b = 1) ∨ (a = b ∧ cmpI a b = 0) := by
  unfold cmpI
  split
  · exact .inl ⟨‹_›, rfl⟩
  · split
    · exact .inr (.inl ⟨‹_›, rfl⟩)
    · exact .inr (.inr ⟨by omega, rfl⟩)
theorem ordI_zero (s n s' n' : Int) : ordI s n s' n' = 0 ↔ s = s' ∧ n = n' := by
  unfold ordI
  have h1 := cmpI_cases n n'
  have h2 := cmpI_cases s s'
  split <;> omega

theorem rorderdart_any (s n c s' n' c' : Int) : Pure 47 #[.agg #[.int .i64 s, .int .i64 n, .int .i64 c], .agg #[.int .i64 s', .int .i64 n', .int .i64 c']] (.int .i64 (ordD s n c s' n' c')) := fun w => by
  unfold ordD
  have hm := rorder_any s n s' n'
  by_cases h : s = s' ∧ n = n'
  · rw [if_pos h]
    rw [(ordI_zero s n s' n').2 h] at hm
    have H := Lib.hid hm
    clear hm
    obtain ⟨rfl, rfl⟩ := h
    unfold cmpI
    by_cases h1 : c < c'
    · rw [if_pos h1]
      go_enter Try.func47, Try.ntmps47
      go_wp2_with (first | (go_at_call 61; refine (H.out _).mono ?_; rintro e w' ⟨rfl, hb⟩; obtain ⟨hc, hf⟩ := bcell hb))
      go_ret
      exact ⟨rfl, below_after2 hb⟩
    · rw [if_neg h1]
      by_cases h2 : c' < c
      · rw [if_pos h2]
        go_enter Try.func47, Try.ntmps47
        go_wp2_with (first | (go_at_call 61; refine (H.out _).mono ?_; rintro e w' ⟨rfl, hb⟩; obtain ⟨hc, hf⟩ := bcell hb))
        go_ret
        exact ⟨rfl, below_after2 hb⟩
      · rw [if_neg h2]
        go_enter Try.func47, Try.ntmps47
        go_wp2_with (first | (go_at_call 61; refine (H.out _).mono ?_; rintro e w' ⟨rfl, hb⟩; obtain ⟨hc, hf⟩ := bcell hb))
        go_ret
        exact ⟨rfl, below_after2 hb⟩
  · rw [if_neg h]
    have hz : ordI s n s' n' ≠ 0 := fun e => h ((ordI_zero s n s' n').1 e)
    clear h
    generalize ordI s n s' n' = x at *
    have H := Lib.hid hm
    clear hm
    have h1 : (x != 0) = true := by simpa using hz
    clear hz
    go_enter Try.func47, Try.ntmps47
    go_wp2_with (first | (go_at_call 61; refine (H.out _).mono ?_; rintro e w' ⟨rfl, hb⟩; obtain ⟨hc, hf⟩ := bcell hb))
    go_ret
    exact ⟨rfl, below_after2 hb⟩

theorem ordI_neg (s n s' n' : Int) : ordI s' n' s n = - ordI s n s' n' := by
  unfold ordI
  have h1 := cmpI_cases n n'
  have h2 := cmpI_cases s s'
  have h3 := cmpI_cases n' n
  have h4 := cmpI_cases s' s
  split <;> split <;> omega
theorem ordI_trans (s n s' n' s2 n2 : Int) (h : ordI s n s' n' ≤ 0) (k : ordI s' n' s2 n2 ≤ 0) : ordI s n s2 n2 ≤ 0 := by
  unfold ordI at *
  have h1 := cmpI_cases n n'
  have h2 := cmpI_cases s s'
  have h3 := cmpI_cases n' n2
  have h4 := cmpI_cases s' s2
  have h5 := cmpI_cases n n2
  have h6 := cmpI_cases s s2
  split at h <;> split at k <;> split <;> omega
theorem ordD_zero (s n c s' n' c' : Int) : ordD s n c s' n' c' = 0 ↔ s = s' ∧ n = n' ∧ c = c' := by
  unfold ordD
  have h1 := cmpI_cases c c'
  have h2 := ordI_zero s n s' n'
  split <;> omega
theorem ordD_neg (s n c s' n' c' : Int) : ordD s' n' c' s n c = - ordD s n c s' n' c' := by
  unfold ordD
  have h1 := cmpI_cases c c'
  have h2 := cmpI_cases c' c
  have h3 := ordI_neg s n s' n'
  split <;> split <;> omega
theorem ordD_trans (s n c s' n' c' s2 n2 c2 : Int) (h : ordD s n c s' n' c' ≤ 0) (k : ordD s' n' c' s2 n2 c2 ≤ 0) : ordD s n c s2 n2 c2 ≤ 0 := by
  have h1 := cmpI_cases c c'
  have h2 := cmpI_cases c' c2
  have h3 := cmpI_cases c c2
  have h4 := ordI_trans s n s' n' s2 n2
  have h5 := ordI_zero s n s' n'
  unfold ordD at *
  by_cases e1 : s = s' ∧ n = n'
  · obtain ⟨rfl, rfl⟩ := e1
    rw [if_pos ⟨rfl, rfl⟩] at h
    by_cases e2 : s = s2 ∧ n = n2
    · rw [if_pos e2] at *; omega
    · rw [if_neg e2] at *; omega
  · rw [if_neg e1] at h
    by_cases e2 : s' = s2 ∧ n' = n2
    · obtain ⟨rfl, rfl⟩ := e2
      rw [if_neg e1]; omega
    · rw [if_neg e2] at k
      by_cases e3 : s = s2 ∧ n = n2
      · obtain ⟨rfl, rfl⟩ := e3
        have h6 := ordI_neg s n s' n'
        omega
      · rw [if_neg e3]; omega
theorem eq_id (s n s' n' : Int) (W : World) : (binOp .eql 35 (.agg #[.int .i64 s, .int .i64 n]) (.agg #[.int .i64 s', .int .i64 n'])).run Try.prog W = .ok (.bool (s == s' && n == n')) W := by
  by_cases h1 : s = s' <;> by_cases h2 : n = n' <;> simp [go_sem, h1, h2]
theorem eq_dart (s n c s' n' c' : Int) (W : World) : (binOp .eql 39 (.agg #[.int .i64 s, .int .i64 n, .int .i64 c]) (.agg #[.int .i64 s', .int .i64 n', .int .i64 c'])).run Try.prog W = .ok (.bool ((s == s' && n == n') && c == c')) W := by
  by_cases h1 : s = s' <;> by_cases h2 : n = n' <;> by_cases h3 : c = c' <;> simp [go_sem, h1, h2, h3]
end Go.Proofs.Ytpindjknngcccaa
