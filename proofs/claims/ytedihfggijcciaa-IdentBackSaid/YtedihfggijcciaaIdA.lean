/- The contracts of ident's May, Order, MayDart, OrderDart, Other, and of the document's own answers for them. -/
import Derived.Test.YtedihfggijcciaaProg
import Derived.WalkKit
import Derived.WalkSpells
import Derived.WalkLawsBesides
import Derived.Deep.RegionHeld3
import Derived.Deep.QuietTactic
import Derived.BigQuiet
import Derived.KernelRfl
import Derived.Lib.Hide
namespace Go.Proofs.Ytedihfggijcciaa
open Go.RowKit

/-- A call that answers v and leaves all that was there as it was, in every world. -/
def Pure (k : FuncId) (args : Array Value) (v : Value) : Prop := ∀ w : World, Calls Try.prog k args w fun e w' => e = .returned v ∧ Below w.heap.size w w'

def iv (n : Int) : Value := .int .i64 n
def mayI (s n : Int) : Bool := decide (1 ≤ s ∧ s ≤ 8 ∧ 1 ≤ n ∧ n ≤ 1048576)
def cmpI (a b : Int) : Int := if a < b then -1 else if b < a then 1 else 0
def ordI (s n s' n' : Int) : Int := if s = s' then cmpI n n' else cmpI s s'
def mayD (s n c : Int) : Bool := mayI s n && (decide (c = 0) || decide (c = 1))
def ordD (s n c s' n' c' : Int) : Int := if s = s' ∧ n = n' then cmpI c c' else ordI s n s' n'

theorem ret_int {a b : Int} (h : a = b) : Ending.returned (.int .i64 a) = .returned (.int .i64 b) := by rw [h]
theorem ret_bool {a b : Bool} (h : a = b) : Ending.returned (.bool a) = .returned (.bool b) := by rw [h]

theorem below1 (w : World) (o : Obj) : Below w.heap.size w (w.alloc o) := (Below.refl _ _).alloc (Nat.le_refl _) o
theorem below2 (w : World) (o o' : Obj) : Below w.heap.size w ((w.alloc o).alloc o') := (below1 w o).alloc (by simp) o'

theorem may_yes (s n : Int) (w : World) (h1 : 1 ≤ s) (h2 : s ≤ 8) (h3 : 1 ≤ n) (h4 : n ≤ 1048576) :
    Calls Try.prog 11 #[.agg #[.int .i64 s, .int .i64 n]] w fun e w' => e = .returned (.bool true) ∧ Below w.heap.size w w' := by
  go_enter Try.func11, Try.ntmps11
  go_wp2
  go_ret
  exact ⟨rfl, below1 _ _⟩

theorem may_no (s n : Int) (w : World) (h : ¬ (1 ≤ s ∧ s ≤ 8 ∧ 1 ≤ n ∧ n ≤ 1048576)) :
    Calls Try.prog 11 #[.agg #[.int .i64 s, .int .i64 n]] w fun e w' => e = .returned (.bool false) ∧ Below w.heap.size w w' := by
  by_cases h1 : 1 ≤ s
  · by_cases h2 : s ≤ 8
    · by_cases h3 : 1 ≤ n
      · have h4 : ¬ n ≤ 1048576 := by omega
        go_enter Try.func11, Try.ntmps11
        go_wp2
        go_ret
        exact ⟨rfl, below1 _ _⟩
      · clear h
        go_enter Try.func11, Try.ntmps11
        go_wp2
        go_ret
        exact ⟨rfl, below1 _ _⟩
    · clear h
      go_enter Try.func11, Try.ntmps11
      go_wp2
      go_ret
      exact ⟨rfl, below1 _ _⟩
  · clear h
    go_enter Try.func11, Try.ntmps11
    go_wp2
    go_ret
    exact ⟨rfl, below1 _ _⟩

theorem may_any (s n : Int) : Pure 11 #[.agg #[.int .i64 s, .int .i64 n]] (.bool (mayI s n)) := fun w => by
  by_cases h : 1 ≤ s ∧ s ≤ 8 ∧ 1 ≤ n ∧ n ≤ 1048576
  · rw [show mayI s n = true from decide_eq_true h]
    exact may_yes s n w h.1 h.2.1 h.2.2.1 h.2.2.2
  · rw [show mayI s n = false from decide_eq_false h]
    exact may_no s n w h

theorem order_same (s n : Int) (w : World) :
    Calls Try.prog 13 #[.agg #[.int .i64 s, .int .i64 n], .agg #[.int .i64 s, .int .i64 n]] w fun e w' => e = .returned (.int .i64 0) ∧ Below w.heap.size w w' := by
  go_enter Try.func13, Try.ntmps13
  go_wp2
  go_ret
  exact ⟨rfl, below2 _ _ _⟩

theorem order_site_lt (s n s' n' : Int) (w : World) (h : s < s') :
    Calls Try.prog 13 #[.agg #[.int .i64 s, .int .i64 n], .agg #[.int .i64 s', .int .i64 n']] w fun e w' => e = .returned (.int .i64 (-1)) ∧ Below w.heap.size w w' := by
  have h1 : (s == s') = false := by simp; omega
  have h2 : (s != s') = true := by simp; omega
  go_enter Try.func13, Try.ntmps13
  go_wp2
  go_ret
  exact ⟨rfl, below2 _ _ _⟩

theorem order_site_gt (s n s' n' : Int) (w : World) (h : s' < s) :
    Calls Try.prog 13 #[.agg #[.int .i64 s, .int .i64 n], .agg #[.int .i64 s', .int .i64 n']] w fun e w' => e = .returned (.int .i64 1) ∧ Below w.heap.size w w' := by
  have h1 : (s == s') = false := by simp; omega
  have h2 : (s != s') = true := by simp; omega
  have h3 : ¬ s < s' := by omega
  go_enter Try.func13, Try.ntmps13
  go_wp2
  go_ret
  exact ⟨rfl, below2 _ _ _⟩

theorem order_n_lt (s n n' : Int) (w : World) (h : n < n') :
    Calls Try.prog 13 #[.agg #[.int .i64 s, .int .i64 n], .agg #[.int .i64 s, .int .i64 n']] w fun e w' => e = .returned (.int .i64 (-1)) ∧ Below w.heap.size w w' := by
  have h1 : (n == n') = false := by simp; omega
  go_enter Try.func13, Try.ntmps13
  go_wp2
  go_ret
  exact ⟨rfl, below2 _ _ _⟩

theorem order_n_gt (s n n' : Int) (w : World) (h : n' < n) :
    Calls Try.prog 13 #[.agg #[.int .i64 s, .int .i64 n], .agg #[.int .i64 s, .int .i64 n']] w fun e w' => e = .returned (.int .i64 1) ∧ Below w.heap.size w w' := by
  have h1 : (n == n') = false := by simp; omega
  have h3 : ¬ n < n' := by omega
  go_enter Try.func13, Try.ntmps13
  go_wp2
  go_ret
  exact ⟨rfl, below2 _ _ _⟩

theorem order_any (s n s' n' : Int) : Pure 13 #[.agg #[.int .i64 s, .int .i64 n], .agg #[.int .i64 s', .int .i64 n']] (.int .i64 (ordI s n s' n')) := fun w => by
  unfold ordI cmpI
  by_cases e : s = s'
  · subst e
    rw [if_pos rfl]
    by_cases h1 : n < n'
    · rw [if_pos h1]; exact order_n_lt s n n' w h1
    · rw [if_neg h1]
      by_cases h2 : n' < n
      · rw [if_pos h2]; exact order_n_gt s n n' w h2
      · rw [if_neg h2]
        obtain rfl : n = n' := by omega
        exact order_same s n w
  · rw [if_neg e]
    by_cases h1 : s < s'
    · rw [if_pos h1]; exact order_site_lt s n s' n' w h1
    · rw [if_neg h1, if_pos (by omega)]
      exact order_site_gt s n s' n' w (by omega)
end Go.Proofs.Ytedihfggijcciaa
