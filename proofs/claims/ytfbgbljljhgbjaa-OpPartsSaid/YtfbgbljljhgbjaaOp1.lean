/- Operations: what they are in memory; the contracts of op.mayCorner and op.fits. -/
import Derived.Test.YtfbgbljljhgbjaaMay
import Derived.Test.YtfbgbljljhgbjaaWo
import Derived.Test.YtfbgbljljhgbjaaReg
namespace Go.Proofs.Ytfbgbljljhgbjaa
open Go.RowKit
set_option linter.unusedSimpArgs false
set_option linter.unusedVariables false

/-- An operation's fields, one behind the other. -/
structure OpT where
  (k s n s1 n1 s2 n2 a0 a1 a2 a3 a4 b0 b1 b2 b3 b4 : Int)
  e : Bool
  t : ByteArray
  m : Int
deriving DecidableEq

def opCells (o : OpT) : List Value := [.int .i64 o.k, .int .i64 o.s, .int .i64 o.n, .int .i64 o.s1, .int .i64 o.n1, .int .i64 o.s2, .int .i64 o.n2, .int .i64 o.a0, .int .i64 o.a1, .int .i64 o.a2, .int .i64 o.a3, .int .i64 o.a4, .int .i64 o.b0, .int .i64 o.b1, .int .i64 o.b2, .int .i64 o.b3, .int .i64 o.b4, .bool o.e, .string o.t, .int .i64 o.m]
def mayAt (n : Int) : Bool := decide (-1099511627776 ≤ n ∧ n ≤ 1099511627776)
def mayC (a0 a1 a2 a3 a4 : Int) : Bool := mayI a0 a1 && (decide (a2 = 0 ∧ a3 = 0 ∧ a4 = 0) || mayD a2 a3 a4)

theorem mayattr_any (n : Int) : Pure 32 #[.int .i64 n] (.bool (mayAt n)) := fun w => by
  unfold mayAt
  by_cases h1 : -1099511627776 ≤ n
  · by_cases h2 : n ≤ 1099511627776
    · rw [decide_eq_true ⟨h1, h2⟩]
      go_enter Try.func32, Try.ntmps32
      go_wp2
      go_ret
      exact ⟨rfl, Below.refl _ _⟩
    · rw [decide_eq_false (fun h => h2 h.2)]
      go_enter Try.func32, Try.ntmps32
      go_wp2
      go_ret
      exact ⟨rfl, Below.refl _ _⟩
  · rw [decide_eq_false (fun h => h1 h.1)]
    go_enter Try.func32, Try.ntmps32
    go_wp2
    go_ret
    exact ⟨rfl, Below.refl _ _⟩

theorem eq_dartz_run (a b c : Int) (W : World) : (binOp .eql 25 (.agg #[.int .i64 a, .int .i64 b, .int .i64 c]) (.agg #[.int .i64 0, .int .i64 0, .int .i64 0])).run Try.prog W = .ok (.bool (decide (a = 0 ∧ b = 0 ∧ c = 0))) W := by
  by_cases h1 : a = 0 <;> by_cases h2 : b = 0 <;> by_cases h3 : c = 0 <;> simp [go_sem, h1, h2, h3]

theorem maycorner_any (a0 a1 a2 a3 a4 : Int) : Pure 31 #[.agg #[.int .i64 a0, .int .i64 a1, .int .i64 a2, .int .i64 a3, .int .i64 a4]] (.bool (mayC a0 a1 a2 a3 a4)) := fun w => by
  unfold mayC
  have hm := may_any a0 a1
  have hd := maydart_any a2 a3 a4
  have hq := eq_dartz_run a2 a3 a4
  cases h : mayI a0 a1
  · rw [h] at hm
    have H := Lib.hid hm
    clear hm hd hq h
    go_enter Try.func31, Try.ntmps31
    go_wp2_with (first | (go_at_call 21; refine (H.out _).mono ?_; rintro e w' ⟨rfl, hb⟩; obtain ⟨hc, hf⟩ := bcell hb))
    go_ret
    exact ⟨rfl, below_after1 hb⟩
  · rw [h] at hm
    have H := Lib.hid hm
    by_cases hz : a2 = 0 ∧ a3 = 0 ∧ a4 = 0
    · rw [decide_eq_true hz] at hq ⊢
      clear hm hd h hz
      go_enter Try.func31, Try.ntmps31
      go_wp2_with (first | (go_at_call 21; refine (H.out _).mono ?_; rintro e w' ⟨rfl, hb⟩; obtain ⟨hc, hf⟩ := bcell hb))
      go_ret
      exact ⟨rfl, below_after1 hb⟩
    · rw [decide_eq_false hz] at hq ⊢
      have HD := Lib.hid hd
      clear hm hd h hz
      go_enter Try.func31, Try.ntmps31
      go_wp2_with (first
        | (go_at_call 21; refine (H.out _).mono ?_; rintro e w' ⟨rfl, hb⟩; obtain ⟨hc, hf⟩ := bcell hb)
        | (go_at_call 34; refine (HD.out _).mono ?_; rintro e w'' ⟨rfl, hb2⟩))
      go_ret
      exact ⟨by simp, (below_after1 hb).trans (hb2.mono (below_after1 hb).size)⟩

def fitsO (o : OpT) : Bool :=
  if o.k = 1 ∨ o.k = 2 ∨ o.k = 4 ∨ o.k = 7 then true
  else if o.k = 3 then mayC o.a0 o.a1 o.a2 o.a3 o.a4 && mayC o.b0 o.b1 o.b2 o.b3 o.b4
  else if o.k = 5 then mayI o.s1 o.n1 && mayI o.s2 o.n2 && decide (0 ≤ o.m ∧ o.m ≤ 3)
  else if o.k = 6 then mayI o.s2 o.n2
  else if o.k = 8 then mayAt o.m
  else false
end Go.Proofs.Ytfbgbljljhgbjaa
