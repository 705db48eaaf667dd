/- The contracts of ident.May and MayDart, and of the document's own answer for May. -/
import Derived.Test.YtfbgbljljhgbjaaProg
import Derived.WalkKit
import Derived.WalkSpells
import Derived.WalkLawsBesides
import Derived.Deep.RegionHeld3
import Derived.Deep.QuietTactic
import Derived.BigQuiet
import Derived.KernelRfl
import Derived.Lib.Hide
namespace Go.Proofs.Ytfbgbljljhgbjaa
open Go.RowKit

/-- A call that answers v and leaves all that was there as it was, in every world. -/
def Pure (k : FuncId) (args : Array Value) (v : Value) : Prop := ∀ w : World, Calls Try.prog k args w fun e w' => e = .returned v ∧ Below w.heap.size w w'

def iv (n : Int) : Value := .int .i64 n
def mayI (s n : Int) : Bool := decide (1 ≤ s ∧ s ≤ 8 ∧ 1 ≤ n ∧ n ≤ 1048576)
def cmpI (a b : Int) : Int := if a < b then -1 else if b < a then 1 else 0
def ordI (s n s' n' : Int) : Int := if s = s' then cmpI n n' else cmpI s s'
def mayD (s n c : Int) : Bool := mayI s n && (decide (c = 0) || decide (c = 1))
def ordD (s n c s' n' c' : Int) : Int := if s = s' ∧ n = n' then cmpI c c' else ordI s n s' n'

theorem ret_int {a b : Int} (h : a = b) : Ending.returned (.int .i64 a) = .returned (.int .i64 b) := by rw [h]
theorem ret_bool {a b : Bool} (h : a = b) : Ending.returned (.bool a) = .returned (.bool b) := by rw [h]

theorem below1 (w : World) (o : Obj) : Below w.heap.size w (w.alloc o) := (Below.refl _ _).alloc (Nat.le_refl _) o
theorem below2 (w : World) (o o' : Obj) : Below w.heap.size w ((w.alloc o).alloc o') := (below1 w o).alloc (by simp) o'

theorem may_yes (s n : Int) (w : World) (h1 : 1 ≤ s) (h2 : s ≤ 8) (h3 : 1 ≤ n) (h4 : n ≤ 1048576) :
    Calls Try.prog 21 #[.agg #[.int .i64 s, .int .i64 n]] w fun e w' => e = .returned (.bool true) ∧ Below w.heap.size w w' := by
  go_enter Try.func21, Try.ntmps21
  go_wp2
  go_ret
  exact ⟨rfl, below1 _ _⟩

theorem may_no (s n : Int) (w : World) (h : ¬ (1 ≤ s ∧ s ≤ 8 ∧ 1 ≤ n ∧ n ≤ 1048576)) :
    Calls Try.prog 21 #[.agg #[.int .i64 s, .int .i64 n]] w fun e w' => e = .returned (.bool false) ∧ Below w.heap.size w w' := by
  by_cases h1 : 1 ≤ s
  · by_cases h2 : s ≤ 8
    · by_cases h3 : 1 ≤ n
      · have h4 : ¬ n ≤ 1048576 := by omega
        go_enter Try.func21, Try.ntmps21
        go_wp2
        go_ret
        exact ⟨rfl, below1 _ _⟩
      · clear h
        go_enter Try.func21, Try.ntmps21
        go_wp2
        go_ret
        exact ⟨rfl, below1 _ _⟩
    · clear h
      go_enter Try.func21, Try.ntmps21
      go_wp2
      go_ret
      exact ⟨rfl, below1 _ _⟩
  · clear h
    go_enter Try.func21, Try.ntmps21
    go_wp2
    go_ret
    exact ⟨rfl, below1 _ _⟩

theorem may_any (s n : Int) : Pure 21 #[.agg #[.int .i64 s, .int .i64 n]] (.bool (mayI s n)) := fun w => by
  by_cases h : 1 ≤ s ∧ s ≤ 8 ∧ 1 ≤ n ∧ n ≤ 1048576
  · rw [show mayI s n = true from decide_eq_true h]
    exact may_yes s n w h.1 h.2.1 h.2.2.1 h.2.2.2
  · rw [show mayI s n = false from decide_eq_false h]
    exact may_no s n w h

theorem below_after1 {w w1 : World} {o : Obj} (hb : Below (w.alloc o).heap.size (w.alloc o) w1) : Below w.heap.size w w1 := (below1 w o).trans (hb.mono (by simp))
theorem below_after2 {w w1 : World} {o o' : Obj} (hb : Below ((w.alloc o).alloc o').heap.size ((w.alloc o).alloc o') w1) : Below w.heap.size w w1 := (below2 w o o').trans (hb.mono (by simp; omega))

theorem bcell {W w1 : World} (hb : Below W.heap.size W w1) : (∀ b o, b < W.heap.size → w1.cell? ⟨b, o, none⟩ = W.cell? ⟨b, o, none⟩) ∧ (∀ b o, b < W.heap.size → w1.frozen? ⟨b, o, none⟩ = W.frozen? ⟨b, o, none⟩) :=
  ⟨fun _ _ h => hb.cell h, fun _ _ h => hb.frozen h⟩

theorem maydart_may (s n c : Int) (w : World) (h : mayI s n = true) :
    Calls Try.prog 34 #[.agg #[.int .i64 s, .int .i64 n, .int .i64 c]] w fun e w' => e = .returned (.bool (decide (c = 0) || decide (c = 1))) ∧ Below w.heap.size w w' := by
  have hm := may_any s n
  rw [h] at hm
  have H := Lib.hid hm
  clear hm h
  by_cases c0 : c = 0
  · subst c0
    go_enter Try.func34, Try.ntmps34
    go_wp2_with (first | (go_at_call 21; refine (H.out _).mono ?_; rintro e w' ⟨rfl, hb⟩; obtain ⟨hc, hf⟩ := bcell hb))
    go_ret
    exact ⟨rfl, below_after1 hb⟩
  · have h0 : (c == 0) = false := by simpa using c0
    by_cases c1 : c = 1
    · subst c1
      go_enter Try.func34, Try.ntmps34
      go_wp2_with (first | (go_at_call 21; refine (H.out _).mono ?_; rintro e w' ⟨rfl, hb⟩; obtain ⟨hc, hf⟩ := bcell hb))
      go_ret
      exact ⟨rfl, below_after1 hb⟩
    · have h1 : (c == 1) = false := by simpa using c1
      have hr : (decide (c = 0) || decide (c = 1)) = false := by simp [c0, c1]
      rw [hr]
      clear hr
      go_enter Try.func34, Try.ntmps34
      go_wp2_with (first | (go_at_call 21; refine (H.out _).mono ?_; rintro e w' ⟨rfl, hb⟩; obtain ⟨hc, hf⟩ := bcell hb))
      go_ret
      exact ⟨rfl, below_after1 hb⟩

theorem maydart_not (s n c : Int) (w : World) (h : mayI s n = false) :
    Calls Try.prog 34 #[.agg #[.int .i64 s, .int .i64 n, .int .i64 c]] w fun e w' => e = .returned (.bool false) ∧ Below w.heap.size w w' := by
  have hm := may_any s n
  rw [h] at hm
  have H := Lib.hid hm
  clear hm h
  go_enter Try.func34, Try.ntmps34
  go_wp2_with (first | (go_at_call 21; refine (H.out _).mono ?_; rintro e w' ⟨rfl, hb⟩; obtain ⟨hc, hf⟩ := bcell hb))
  go_ret
  exact ⟨rfl, below_after1 hb⟩

theorem maydart_any (s n c : Int) : Pure 34 #[.agg #[.int .i64 s, .int .i64 n, .int .i64 c]] (.bool (mayD s n c)) := fun w => by
  unfold mayD
  cases h : mayI s n
  · exact maydart_not s n c w h
  · exact maydart_may s n c w h

theorem rmay_any (s n : Int) : Pure 20 #[.agg #[.int .i64 s, .int .i64 n]] (.bool (mayI s n)) := fun w => by
  by_cases h : 1 ≤ s ∧ s ≤ 8 ∧ 1 ≤ n ∧ n ≤ 1048576
  · rw [show mayI s n = true from decide_eq_true h]
    obtain ⟨h1, h2, h3, h4⟩ := h
    go_enter Try.func20, Try.ntmps20
    go_wp2
    go_ret
    exact ⟨rfl, below1 _ _⟩
  · rw [show mayI s n = false from decide_eq_false h]
    by_cases h1 : 1 ≤ s
    · by_cases h2 : s ≤ 8
      · by_cases h3 : 1 ≤ n
        · have h4 : ¬ n ≤ 1048576 := by omega
          clear h
          go_enter Try.func20, Try.ntmps20
          go_wp2
          go_ret
          exact ⟨rfl, below1 _ _⟩
        · clear h
          go_enter Try.func20, Try.ntmps20
          go_wp2
          go_ret
          exact ⟨rfl, below1 _ _⟩
      · clear h
        go_enter Try.func20, Try.ntmps20
        go_wp2
        go_ret
        exact ⟨rfl, below1 _ _⟩
    · clear h
      go_enter Try.func20, Try.ntmps20
      go_wp2
      go_ret
      exact ⟨rfl, below1 _ _⟩

end Go.Proofs.Ytfbgbljljhgbjaa
