/- The contracts of frame.May and of the document's own. -/
import Derived.Test.YtgmjehejaailpaaFr1
namespace Go.Proofs.Ytgmjehejaailpaa
open Go.RowKit
set_option linter.unusedSimpArgs false
set_option linter.unusedVariables false

/-- A frame's numbers. -/
structure FrT where
  (k fr tt ep sq ac : Int)
deriving DecidableEq
def frCells (f : FrT) (A : Option Addr) (n c : Nat) : List Value := [.int .i64 f.k, .int .i64 f.fr, .int .i64 f.tt, .int .i64 f.ep, .int .i64 f.sq, .int .i64 f.ac, .slice A n c]
def siteB (s : Int) : Bool := decide (0 ≤ s ∧ s ≤ 8)
def numB (s : Int) : Bool := decide (0 ≤ s ∧ s ≤ 1073741824)
/-- What is wrong with a frame of n bytes. -/
def mayF (f : FrT) (n : Nat) : Int := if 1 ≤ f.k ∧ f.k ≤ 4 ∧ siteB f.fr = true ∧ siteB f.tt = true ∧ ¬ f.fr = f.tt ∧ numB f.ep = true ∧ numB f.sq = true ∧ numB f.ac = true then (if 16384 < n then 3 else 0) else 1
theorem ret_bool {a b : Bool} (h : a = b) : Ending.returned (.bool a) = .returned (.bool b) := by rw [h]
theorem below1 (w : World) (o : Obj) : Below w.heap.size w (w.alloc o) := (Below.refl _ _).alloc (Nat.le_refl _) o
theorem below2 (w : World) (o o' : Obj) : Below w.heap.size w ((w.alloc o).alloc o') := (below1 w o).alloc (by simp) o'

theorem maysite_any (s : Int) (w : World) : Calls Try.prog 22 #[.int .i64 s] w fun e w' => e = .returned (.bool (siteB s)) ∧ w = w' := by
  unfold siteB
  by_cases h1 : 0 ≤ s
  · by_cases h2 : s ≤ 8
    · rw [decide_eq_true ⟨h1, h2⟩]
      go_enter Try.func22, Try.ntmps22
      go_wp2
      go_ret
      exact ⟨rfl, rfl⟩
    · rw [decide_eq_false (fun h => h2 h.2)]
      go_enter Try.func22, Try.ntmps22
      go_wp2
      go_ret
      exact ⟨rfl, rfl⟩
  · rw [decide_eq_false (fun h => h1 h.1)]
    go_enter Try.func22, Try.ntmps22
    go_wp2
    go_ret
    exact ⟨rfl, rfl⟩
theorem maynum_any (s : Int) (w : World) : Calls Try.prog 23 #[.int .i64 s] w fun e w' => e = .returned (.bool (numB s)) ∧ w = w' := by
  unfold numB
  by_cases h1 : 0 ≤ s
  · by_cases h2 : s ≤ 1073741824
    · rw [decide_eq_true ⟨h1, h2⟩]
      go_enter Try.func23, Try.ntmps23
      go_wp2
      go_ret
      exact ⟨rfl, rfl⟩
    · rw [decide_eq_false (fun h => h2 h.2)]
      go_enter Try.func23, Try.ntmps23
      go_wp2
      go_ret
      exact ⟨rfl, rfl⟩
  · rw [decide_eq_false (fun h => h1 h.1)]
    go_enter Try.func23, Try.ntmps23
    go_wp2
    go_ret
    exact ⟨rfl, rfl⟩
theorem counts_any (s : Int) (w : World) : Calls Try.prog 24 #[.int .i64 s] w fun e w' => e = .returned (.bool (numB s)) ∧ w = w' := by
  unfold numB
  by_cases h1 : 0 ≤ s
  · by_cases h2 : s ≤ 1073741824
    · rw [decide_eq_true ⟨h1, h2⟩]
      go_enter Try.func24, Try.ntmps24
      go_wp2
      go_ret
      exact ⟨rfl, rfl⟩
    · rw [decide_eq_false (fun h => h2 h.2)]
      go_enter Try.func24, Try.ntmps24
      go_wp2
      go_ret
      exact ⟨rfl, rfl⟩
  · rw [decide_eq_false (fun h => h1 h.1)]
    go_enter Try.func24, Try.ntmps24
    go_wp2
    go_ret
    exact ⟨rfl, rfl⟩
theorem fm_k1 (f : FrT) (A : Option Addr) (n c : Nat) (w : World) (h_k1 : decide (f.k < 1) = true) : Calls Try.prog 13 #[.agg (frCells f A n c).toArray] w fun e w' => e = .returned (.int .i64 1) ∧ Below w.heap.size w w' := by
  unfold frCells
  go_enter Try.func13, Try.ntmps13
  go_wp2_with (first
    | (go_at_call 22; refine (maysite_any _ _).mono ?_; rintro e w' ⟨rfl, rfl⟩)
    | (go_at_call 23; refine (maynum_any _ _).mono ?_; rintro e w' ⟨rfl, rfl⟩))
  go_ret
  exact ⟨rfl, below1 _ _⟩
theorem fm_k4 (f : FrT) (A : Option Addr) (n c : Nat) (w : World) (h_k1 : decide (f.k < 1) = false) (h_k4 : decide (4 < f.k) = true) : Calls Try.prog 13 #[.agg (frCells f A n c).toArray] w fun e w' => e = .returned (.int .i64 1) ∧ Below w.heap.size w w' := by
  unfold frCells
  go_enter Try.func13, Try.ntmps13
  go_wp2_with (first
    | (go_at_call 22; refine (maysite_any _ _).mono ?_; rintro e w' ⟨rfl, rfl⟩)
    | (go_at_call 23; refine (maynum_any _ _).mono ?_; rintro e w' ⟨rfl, rfl⟩))
  go_ret
  exact ⟨rfl, below1 _ _⟩
theorem fm_fr (f : FrT) (A : Option Addr) (n c : Nat) (w : World) (h_k1 : decide (f.k < 1) = false) (h_k4 : decide (4 < f.k) = false) (h_fr : siteB f.fr = false) : Calls Try.prog 13 #[.agg (frCells f A n c).toArray] w fun e w' => e = .returned (.int .i64 1) ∧ Below w.heap.size w w' := by
  unfold frCells
  go_enter Try.func13, Try.ntmps13
  go_wp2_with (first
    | (go_at_call 22; refine (maysite_any _ _).mono ?_; rintro e w' ⟨rfl, rfl⟩)
    | (go_at_call 23; refine (maynum_any _ _).mono ?_; rintro e w' ⟨rfl, rfl⟩))
  go_ret
  exact ⟨rfl, below1 _ _⟩
theorem fm_tt (f : FrT) (A : Option Addr) (n c : Nat) (w : World) (h_k1 : decide (f.k < 1) = false) (h_k4 : decide (4 < f.k) = false) (h_fr : siteB f.fr = true) (h_tt : siteB f.tt = false) : Calls Try.prog 13 #[.agg (frCells f A n c).toArray] w fun e w' => e = .returned (.int .i64 1) ∧ Below w.heap.size w w' := by
  unfold frCells
  go_enter Try.func13, Try.ntmps13
  go_wp2_with (first
    | (go_at_call 22; refine (maysite_any _ _).mono ?_; rintro e w' ⟨rfl, rfl⟩)
    | (go_at_call 23; refine (maynum_any _ _).mono ?_; rintro e w' ⟨rfl, rfl⟩))
  go_ret
  exact ⟨rfl, below1 _ _⟩
theorem fm_eq (f : FrT) (A : Option Addr) (n c : Nat) (w : World) (h_k1 : decide (f.k < 1) = false) (h_k4 : decide (4 < f.k) = false) (h_fr : siteB f.fr = true) (h_tt : siteB f.tt = true) (h_eq : (f.fr == f.tt) = true) : Calls Try.prog 13 #[.agg (frCells f A n c).toArray] w fun e w' => e = .returned (.int .i64 1) ∧ Below w.heap.size w w' := by
  unfold frCells
  go_enter Try.func13, Try.ntmps13
  go_wp2_with (first
    | (go_at_call 22; refine (maysite_any _ _).mono ?_; rintro e w' ⟨rfl, rfl⟩)
    | (go_at_call 23; refine (maynum_any _ _).mono ?_; rintro e w' ⟨rfl, rfl⟩))
  go_ret
  exact ⟨rfl, below1 _ _⟩
theorem fm_ep (f : FrT) (A : Option Addr) (n c : Nat) (w : World) (h_k1 : decide (f.k < 1) = false) (h_k4 : decide (4 < f.k) = false) (h_fr : siteB f.fr = true) (h_tt : siteB f.tt = true) (h_eq : (f.fr == f.tt) = false) (h_ep : numB f.ep = false) : Calls Try.prog 13 #[.agg (frCells f A n c).toArray] w fun e w' => e = .returned (.int .i64 1) ∧ Below w.heap.size w w' := by
  unfold frCells
  go_enter Try.func13, Try.ntmps13
  go_wp2_with (first
    | (go_at_call 22; refine (maysite_any _ _).mono ?_; rintro e w' ⟨rfl, rfl⟩)
    | (go_at_call 23; refine (maynum_any _ _).mono ?_; rintro e w' ⟨rfl, rfl⟩))
  go_ret
  exact ⟨rfl, below1 _ _⟩
theorem fm_sq (f : FrT) (A : Option Addr) (n c : Nat) (w : World) (h_k1 : decide (f.k < 1) = false) (h_k4 : decide (4 < f.k) = false) (h_fr : siteB f.fr = true) (h_tt : siteB f.tt = true) (h_eq : (f.fr == f.tt) = false) (h_ep : numB f.ep = true) (h_sq : numB f.sq = false) : Calls Try.prog 13 #[.agg (frCells f A n c).toArray] w fun e w' => e = .returned (.int .i64 1) ∧ Below w.heap.size w w' := by
  unfold frCells
  go_enter Try.func13, Try.ntmps13
  go_wp2_with (first
    | (go_at_call 22; refine (maysite_any _ _).mono ?_; rintro e w' ⟨rfl, rfl⟩)
    | (go_at_call 23; refine (maynum_any _ _).mono ?_; rintro e w' ⟨rfl, rfl⟩))
  go_ret
  exact ⟨rfl, below1 _ _⟩
theorem fm_ac (f : FrT) (A : Option Addr) (n c : Nat) (w : World) (h_k1 : decide (f.k < 1) = false) (h_k4 : decide (4 < f.k) = false) (h_fr : siteB f.fr = true) (h_tt : siteB f.tt = true) (h_eq : (f.fr == f.tt) = false) (h_ep : numB f.ep = true) (h_sq : numB f.sq = true) (h_ac : numB f.ac = false) : Calls Try.prog 13 #[.agg (frCells f A n c).toArray] w fun e w' => e = .returned (.int .i64 1) ∧ Below w.heap.size w w' := by
  unfold frCells
  go_enter Try.func13, Try.ntmps13
  go_wp2_with (first
    | (go_at_call 22; refine (maysite_any _ _).mono ?_; rintro e w' ⟨rfl, rfl⟩)
    | (go_at_call 23; refine (maynum_any _ _).mono ?_; rintro e w' ⟨rfl, rfl⟩))
  go_ret
  exact ⟨rfl, below1 _ _⟩
theorem fm_n (f : FrT) (A : Option Addr) (n c : Nat) (w : World) (h_k1 : decide (f.k < 1) = false) (h_k4 : decide (4 < f.k) = false) (h_fr : siteB f.fr = true) (h_tt : siteB f.tt = true) (h_eq : (f.fr == f.tt) = false) (h_ep : numB f.ep = true) (h_sq : numB f.sq = true) (h_ac : numB f.ac = true) (h_n : decide ((16384 : Int) < (n : Int)) = true) : Calls Try.prog 13 #[.agg (frCells f A n c).toArray] w fun e w' => e = .returned (.int .i64 3) ∧ Below w.heap.size w w' := by
  unfold frCells
  go_enter Try.func13, Try.ntmps13
  go_wp2_with (first
    | (go_at_call 22; refine (maysite_any _ _).mono ?_; rintro e w' ⟨rfl, rfl⟩)
    | (go_at_call 23; refine (maynum_any _ _).mono ?_; rintro e w' ⟨rfl, rfl⟩))
  go_ret
  exact ⟨rfl, below1 _ _⟩
theorem fm_ok (f : FrT) (A : Option Addr) (n c : Nat) (w : World) (h_k1 : decide (f.k < 1) = false) (h_k4 : decide (4 < f.k) = false) (h_fr : siteB f.fr = true) (h_tt : siteB f.tt = true) (h_eq : (f.fr == f.tt) = false) (h_ep : numB f.ep = true) (h_sq : numB f.sq = true) (h_ac : numB f.ac = true) (h_n : decide ((16384 : Int) < (n : Int)) = false) : Calls Try.prog 13 #[.agg (frCells f A n c).toArray] w fun e w' => e = .returned (.int .i64 0) ∧ Below w.heap.size w w' := by
  unfold frCells
  go_enter Try.func13, Try.ntmps13
  go_wp2_with (first
    | (go_at_call 22; refine (maysite_any _ _).mono ?_; rintro e w' ⟨rfl, rfl⟩)
    | (go_at_call 23; refine (maynum_any _ _).mono ?_; rintro e w' ⟨rfl, rfl⟩))
  go_ret
  exact ⟨rfl, below1 _ _⟩
theorem rfm_k1 (f : FrT) (A : Option Addr) (n c : Nat) (w : World) (h_k1 : decide (f.k < 1) = true) : Calls Try.prog 14 #[.agg (frCells f A n c).toArray] w fun e w' => e = .returned (.int .i64 1) ∧ Below w.heap.size w w' := by
  unfold frCells
  go_enter Try.func14, Try.ntmps14
  go_wp2_with (first
    | (go_at_call 24; refine (counts_any _ _).mono ?_; rintro e w' ⟨rfl, rfl⟩))
  go_ret
  exact ⟨rfl, below1 _ _⟩
theorem rfm_k4 (f : FrT) (A : Option Addr) (n c : Nat) (w : World) (h_k1 : decide (f.k < 1) = false) (h_k4 : decide (4 < f.k) = true) : Calls Try.prog 14 #[.agg (frCells f A n c).toArray] w fun e w' => e = .returned (.int .i64 1) ∧ Below w.heap.size w w' := by
  unfold frCells
  go_enter Try.func14, Try.ntmps14
  go_wp2_with (first
    | (go_at_call 24; refine (counts_any _ _).mono ?_; rintro e w' ⟨rfl, rfl⟩))
  go_ret
  exact ⟨rfl, below1 _ _⟩
theorem rfm_f0 (f : FrT) (A : Option Addr) (n c : Nat) (w : World) (h_k1 : decide (f.k < 1) = false) (h_k4 : decide (4 < f.k) = false) (h_f0 : decide (f.fr < 0) = true) : Calls Try.prog 14 #[.agg (frCells f A n c).toArray] w fun e w' => e = .returned (.int .i64 1) ∧ Below w.heap.size w w' := by
  unfold frCells
  go_enter Try.func14, Try.ntmps14
  go_wp2_with (first
    | (go_at_call 24; refine (counts_any _ _).mono ?_; rintro e w' ⟨rfl, rfl⟩))
  go_ret
  exact ⟨rfl, below1 _ _⟩
theorem rfm_f8 (f : FrT) (A : Option Addr) (n c : Nat) (w : World) (h_k1 : decide (f.k < 1) = false) (h_k4 : decide (4 < f.k) = false) (h_f0 : decide (f.fr < 0) = false) (h_f8 : decide (8 < f.fr) = true) : Calls Try.prog 14 #[.agg (frCells f A n c).toArray] w fun e w' => e = .returned (.int .i64 1) ∧ Below w.heap.size w w' := by
  unfold frCells
  go_enter Try.func14, Try.ntmps14
  go_wp2_with (first
    | (go_at_call 24; refine (counts_any _ _).mono ?_; rintro e w' ⟨rfl, rfl⟩))
  go_ret
  exact ⟨rfl, below1 _ _⟩
theorem rfm_t0 (f : FrT) (A : Option Addr) (n c : Nat) (w : World) (h_k1 : decide (f.k < 1) = false) (h_k4 : decide (4 < f.k) = false) (h_f0 : decide (f.fr < 0) = false) (h_f8 : decide (8 < f.fr) = false) (h_t0 : decide (f.tt < 0) = true) : Calls Try.prog 14 #[.agg (frCells f A n c).toArray] w fun e w' => e = .returned (.int .i64 1) ∧ Below w.heap.size w w' := by
  unfold frCells
  go_enter Try.func14, Try.ntmps14
  go_wp2_with (first
    | (go_at_call 24; refine (counts_any _ _).mono ?_; rintro e w' ⟨rfl, rfl⟩))
  go_ret
  exact ⟨rfl, below1 _ _⟩
theorem rfm_t8 (f : FrT) (A : Option Addr) (n c : Nat) (w : World) (h_k1 : decide (f.k < 1) = false) (h_k4 : decide (4 < f.k) = false) (h_f0 : decide (f.fr < 0) = false) (h_f8 : decide (8 < f.fr) = false) (h_t0 : decide (f.tt < 0) = false) (h_t8 : decide (8 < f.tt) = true) : Calls Try.prog 14 #[.agg (frCells f A n c).toArray] w fun e w' => e = .returned (.int .i64 1) ∧ Below w.heap.size w w' := by
  unfold frCells
  go_enter Try.func14, Try.ntmps14
  go_wp2_with (first
    | (go_at_call 24; refine (counts_any _ _).mono ?_; rintro e w' ⟨rfl, rfl⟩))
  go_ret
  exact ⟨rfl, below1 _ _⟩
theorem rfm_eq (f : FrT) (A : Option Addr) (n c : Nat) (w : World) (h_k1 : decide (f.k < 1) = false) (h_k4 : decide (4 < f.k) = false) (h_f0 : decide (f.fr < 0) = false) (h_f8 : decide (8 < f.fr) = false) (h_t0 : decide (f.tt < 0) = false) (h_t8 : decide (8 < f.tt) = false) (h_eq : (f.fr == f.tt) = true) : Calls Try.prog 14 #[.agg (frCells f A n c).toArray] w fun e w' => e = .returned (.int .i64 1) ∧ Below w.heap.size w w' := by
  unfold frCells
  go_enter Try.func14, Try.ntmps14
  go_wp2_with (first
    | (go_at_call 24; refine (counts_any _ _).mono ?_; rintro e w' ⟨rfl, rfl⟩))
  go_ret
  exact ⟨rfl, below1 _ _⟩
theorem rfm_ep (f : FrT) (A : Option Addr) (n c : Nat) (w : World) (h_k1 : decide (f.k < 1) = false) (h_k4 : decide (4 < f.k) = false) (h_f0 : decide (f.fr < 0) = false) (h_f8 : decide (8 < f.fr) = false) (h_t0 : decide (f.tt < 0) = false) (h_t8 : decide (8 < f.tt) = false) (h_eq : (f.fr == f.tt) = false) (h_ep : numB f.ep = false) : Calls Try.prog 14 #[.agg (frCells f A n c).toArray] w fun e w' => e = .returned (.int .i64 1) ∧ Below w.heap.size w w' := by
  unfold frCells
  go_enter Try.func14, Try.ntmps14
  go_wp2_with (first
    | (go_at_call 24; refine (counts_any _ _).mono ?_; rintro e w' ⟨rfl, rfl⟩))
  go_ret
  exact ⟨rfl, below1 _ _⟩
theorem rfm_sq (f : FrT) (A : Option Addr) (n c : Nat) (w : World) (h_k1 : decide (f.k < 1) = false) (h_k4 : decide (4 < f.k) = false) (h_f0 : decide (f.fr < 0) = false) (h_f8 : decide (8 < f.fr) = false) (h_t0 : decide (f.tt < 0) = false) (h_t8 : decide (8 < f.tt) = false) (h_eq : (f.fr == f.tt) = false) (h_ep : numB f.ep = true) (h_sq : numB f.sq = false) : Calls Try.prog 14 #[.agg (frCells f A n c).toArray] w fun e w' => e = .returned (.int .i64 1) ∧ Below w.heap.size w w' := by
  unfold frCells
  go_enter Try.func14, Try.ntmps14
  go_wp2_with (first
    | (go_at_call 24; refine (counts_any _ _).mono ?_; rintro e w' ⟨rfl, rfl⟩))
  go_ret
  exact ⟨rfl, below1 _ _⟩
theorem rfm_ac (f : FrT) (A : Option Addr) (n c : Nat) (w : World) (h_k1 : decide (f.k < 1) = false) (h_k4 : decide (4 < f.k) = false) (h_f0 : decide (f.fr < 0) = false) (h_f8 : decide (8 < f.fr) = false) (h_t0 : decide (f.tt < 0) = false) (h_t8 : decide (8 < f.tt) = false) (h_eq : (f.fr == f.tt) = false) (h_ep : numB f.ep = true) (h_sq : numB f.sq = true) (h_ac : numB f.ac = false) : Calls Try.prog 14 #[.agg (frCells f A n c).toArray] w fun e w' => e = .returned (.int .i64 1) ∧ Below w.heap.size w w' := by
  unfold frCells
  go_enter Try.func14, Try.ntmps14
  go_wp2_with (first
    | (go_at_call 24; refine (counts_any _ _).mono ?_; rintro e w' ⟨rfl, rfl⟩))
  go_ret
  exact ⟨rfl, below1 _ _⟩
theorem rfm_n (f : FrT) (A : Option Addr) (n c : Nat) (w : World) (h_k1 : decide (f.k < 1) = false) (h_k4 : decide (4 < f.k) = false) (h_f0 : decide (f.fr < 0) = false) (h_f8 : decide (8 < f.fr) = false) (h_t0 : decide (f.tt < 0) = false) (h_t8 : decide (8 < f.tt) = false) (h_eq : (f.fr == f.tt) = false) (h_ep : numB f.ep = true) (h_sq : numB f.sq = true) (h_ac : numB f.ac = true) (h_n : decide ((16384 : Int) < (n : Int)) = true) : Calls Try.prog 14 #[.agg (frCells f A n c).toArray] w fun e w' => e = .returned (.int .i64 3) ∧ Below w.heap.size w w' := by
  unfold frCells
  go_enter Try.func14, Try.ntmps14
  go_wp2_with (first
    | (go_at_call 24; refine (counts_any _ _).mono ?_; rintro e w' ⟨rfl, rfl⟩))
  go_ret
  exact ⟨rfl, below1 _ _⟩
theorem rfm_ok (f : FrT) (A : Option Addr) (n c : Nat) (w : World) (h_k1 : decide (f.k < 1) = false) (h_k4 : decide (4 < f.k) = false) (h_f0 : decide (f.fr < 0) = false) (h_f8 : decide (8 < f.fr) = false) (h_t0 : decide (f.tt < 0) = false) (h_t8 : decide (8 < f.tt) = false) (h_eq : (f.fr == f.tt) = false) (h_ep : numB f.ep = true) (h_sq : numB f.sq = true) (h_ac : numB f.ac = true) (h_n : decide ((16384 : Int) < (n : Int)) = false) : Calls Try.prog 14 #[.agg (frCells f A n c).toArray] w fun e w' => e = .returned (.int .i64 0) ∧ Below w.heap.size w w' := by
  unfold frCells
  go_enter Try.func14, Try.ntmps14
  go_wp2_with (first
    | (go_at_call 24; refine (counts_any _ _).mono ?_; rintro e w' ⟨rfl, rfl⟩))
  go_ret
  exact ⟨rfl, below1 _ _⟩
theorem fmay_any (f : FrT) (A : Option Addr) (n c : Nat) (w : World) : Calls Try.prog 13 #[.agg (frCells f A n c).toArray] w fun e w' => e = .returned (.int .i64 (mayF f n)) ∧ Below w.heap.size w w' := by
  have fin : ∀ {b : Int}, (Calls Try.prog 13 #[.agg (frCells f A n c).toArray] w fun e w' => e = .returned (.int .i64 b) ∧ Below w.heap.size w w') → mayF f n = b → Calls Try.prog 13 #[.agg (frCells f A n c).toArray] w fun e w' => e = .returned (.int .i64 (mayF f n)) ∧ Below w.heap.size w w' := fun h e => e ▸ h
  cases h_k1 : decide (f.k < 1)
  rotate_left
  · exact fin (fm_k1 f A n c w h_k1) (by unfold mayF; rw [if_neg]; rintro ⟨q1, q2, q3, q4, q5, q6, q7, q8⟩; first | (simp_all; done) | (simp_all; omega) | (simp_all [siteB]; done) | (simp_all [siteB]; omega))
  cases h_k4 : decide (4 < f.k)
  rotate_left
  · exact fin (fm_k4 f A n c w h_k1 h_k4) (by unfold mayF; rw [if_neg]; rintro ⟨q1, q2, q3, q4, q5, q6, q7, q8⟩; first | (simp_all; done) | (simp_all; omega) | (simp_all [siteB]; done) | (simp_all [siteB]; omega))
  cases h_fr : siteB f.fr
  · exact fin (fm_fr f A n c w h_k1 h_k4 h_fr) (by unfold mayF; rw [if_neg]; rintro ⟨q1, q2, q3, q4, q5, q6, q7, q8⟩; first | (simp_all; done) | (simp_all; omega) | (simp_all [siteB]; done) | (simp_all [siteB]; omega))
  cases h_tt : siteB f.tt
  · exact fin (fm_tt f A n c w h_k1 h_k4 h_fr h_tt) (by unfold mayF; rw [if_neg]; rintro ⟨q1, q2, q3, q4, q5, q6, q7, q8⟩; first | (simp_all; done) | (simp_all; omega) | (simp_all [siteB]; done) | (simp_all [siteB]; omega))
  cases h_eq : (f.fr == f.tt)
  rotate_left
  · exact fin (fm_eq f A n c w h_k1 h_k4 h_fr h_tt h_eq) (by unfold mayF; rw [if_neg]; rintro ⟨q1, q2, q3, q4, q5, q6, q7, q8⟩; first | (simp_all; done) | (simp_all; omega) | (simp_all [siteB]; done) | (simp_all [siteB]; omega))
  cases h_ep : numB f.ep
  · exact fin (fm_ep f A n c w h_k1 h_k4 h_fr h_tt h_eq h_ep) (by unfold mayF; rw [if_neg]; rintro ⟨q1, q2, q3, q4, q5, q6, q7, q8⟩; first | (simp_all; done) | (simp_all; omega) | (simp_all [siteB]; done) | (simp_all [siteB]; omega))
  cases h_sq : numB f.sq
  · exact fin (fm_sq f A n c w h_k1 h_k4 h_fr h_tt h_eq h_ep h_sq) (by unfold mayF; rw [if_neg]; rintro ⟨q1, q2, q3, q4, q5, q6, q7, q8⟩; first | (simp_all; done) | (simp_all; omega) | (simp_all [siteB]; done) | (simp_all [siteB]; omega))
  cases h_ac : numB f.ac
  · exact fin (fm_ac f A n c w h_k1 h_k4 h_fr h_tt h_eq h_ep h_sq h_ac) (by unfold mayF; rw [if_neg]; rintro ⟨q1, q2, q3, q4, q5, q6, q7, q8⟩; first | (simp_all; done) | (simp_all; omega) | (simp_all [siteB]; done) | (simp_all [siteB]; omega))
  cases h_n : decide ((16384 : Int) < (n : Int))
  rotate_left
  · exact fin (fm_n f A n c w h_k1 h_k4 h_fr h_tt h_eq h_ep h_sq h_ac h_n) (by unfold mayF; rw [if_pos (by refine ⟨?_, ?_, ?_, ?_, ?_, ?_, ?_, ?_⟩ <;> simp_all [siteB] <;> omega), if_pos (by have := of_decide_eq_true h_n; omega)])
  exact fin (fm_ok f A n c w h_k1 h_k4 h_fr h_tt h_eq h_ep h_sq h_ac h_n) (by unfold mayF; rw [if_pos (by refine ⟨?_, ?_, ?_, ?_, ?_, ?_, ?_, ?_⟩ <;> simp_all [siteB] <;> omega), if_neg (by have := of_decide_eq_false h_n; omega)])

theorem rfmay_any (f : FrT) (A : Option Addr) (n c : Nat) (w : World) : Calls Try.prog 14 #[.agg (frCells f A n c).toArray] w fun e w' => e = .returned (.int .i64 (mayF f n)) ∧ Below w.heap.size w w' := by
  have fin : ∀ {b : Int}, (Calls Try.prog 14 #[.agg (frCells f A n c).toArray] w fun e w' => e = .returned (.int .i64 b) ∧ Below w.heap.size w w') → mayF f n = b → Calls Try.prog 14 #[.agg (frCells f A n c).toArray] w fun e w' => e = .returned (.int .i64 (mayF f n)) ∧ Below w.heap.size w w' := fun h e => e ▸ h
  cases h_k1 : decide (f.k < 1)
  rotate_left
  · exact fin (rfm_k1 f A n c w h_k1) (by unfold mayF; rw [if_neg]; rintro ⟨q1, q2, q3, q4, q5, q6, q7, q8⟩; first | (simp_all; done) | (simp_all; omega) | (simp_all [siteB]; done) | (simp_all [siteB]; omega))
  cases h_k4 : decide (4 < f.k)
  rotate_left
  · exact fin (rfm_k4 f A n c w h_k1 h_k4) (by unfold mayF; rw [if_neg]; rintro ⟨q1, q2, q3, q4, q5, q6, q7, q8⟩; first | (simp_all; done) | (simp_all; omega) | (simp_all [siteB]; done) | (simp_all [siteB]; omega))
  cases h_f0 : decide (f.fr < 0)
  rotate_left
  · exact fin (rfm_f0 f A n c w h_k1 h_k4 h_f0) (by unfold mayF; rw [if_neg]; rintro ⟨q1, q2, q3, q4, q5, q6, q7, q8⟩; first | (simp_all; done) | (simp_all; omega) | (simp_all [siteB]; done) | (simp_all [siteB]; omega))
  cases h_f8 : decide (8 < f.fr)
  rotate_left
  · exact fin (rfm_f8 f A n c w h_k1 h_k4 h_f0 h_f8) (by unfold mayF; rw [if_neg]; rintro ⟨q1, q2, q3, q4, q5, q6, q7, q8⟩; first | (simp_all; done) | (simp_all; omega) | (simp_all [siteB]; done) | (simp_all [siteB]; omega))
  cases h_t0 : decide (f.tt < 0)
  rotate_left
  · exact fin (rfm_t0 f A n c w h_k1 h_k4 h_f0 h_f8 h_t0) (by unfold mayF; rw [if_neg]; rintro ⟨q1, q2, q3, q4, q5, q6, q7, q8⟩; first | (simp_all; done) | (simp_all; omega) | (simp_all [siteB]; done) | (simp_all [siteB]; omega))
  cases h_t8 : decide (8 < f.tt)
  rotate_left
  · exact fin (rfm_t8 f A n c w h_k1 h_k4 h_f0 h_f8 h_t0 h_t8) (by unfold mayF; rw [if_neg]; rintro ⟨q1, q2, q3, q4, q5, q6, q7, q8⟩; first | (simp_all; done) | (simp_all; omega) | (simp_all [siteB]; done) | (simp_all [siteB]; omega))
  cases h_eq : (f.fr == f.tt)
  rotate_left
  · exact fin (rfm_eq f A n c w h_k1 h_k4 h_f0 h_f8 h_t0 h_t8 h_eq) (by unfold mayF; rw [if_neg]; rintro ⟨q1, q2, q3, q4, q5, q6, q7, q8⟩; first | (simp_all; done) | (simp_all; omega) | (simp_all [siteB]; done) | (simp_all [siteB]; omega))
  cases h_ep : numB f.ep
  · exact fin (rfm_ep f A n c w h_k1 h_k4 h_f0 h_f8 h_t0 h_t8 h_eq h_ep) (by unfold mayF; rw [if_neg]; rintro ⟨q1, q2, q3, q4, q5, q6, q7, q8⟩; first | (simp_all; done) | (simp_all; omega) | (simp_all [siteB]; done) | (simp_all [siteB]; omega))
  cases h_sq : numB f.sq
  · exact fin (rfm_sq f A n c w h_k1 h_k4 h_f0 h_f8 h_t0 h_t8 h_eq h_ep h_sq) (by unfold mayF; rw [if_neg]; rintro ⟨q1, q2, q3, q4, q5, q6, q7, q8⟩; first | (simp_all; done) | (simp_all; omega) | (simp_all [siteB]; done) | (simp_all [siteB]; omega))
  cases h_ac : numB f.ac
  · exact fin (rfm_ac f A n c w h_k1 h_k4 h_f0 h_f8 h_t0 h_t8 h_eq h_ep h_sq h_ac) (by unfold mayF; rw [if_neg]; rintro ⟨q1, q2, q3, q4, q5, q6, q7, q8⟩; first | (simp_all; done) | (simp_all; omega) | (simp_all [siteB]; done) | (simp_all [siteB]; omega))
  cases h_n : decide ((16384 : Int) < (n : Int))
  rotate_left
  · exact fin (rfm_n f A n c w h_k1 h_k4 h_f0 h_f8 h_t0 h_t8 h_eq h_ep h_sq h_ac h_n) (by unfold mayF; rw [if_pos (by refine ⟨?_, ?_, ?_, ?_, ?_, ?_, ?_, ?_⟩ <;> simp_all [siteB] <;> omega), if_pos (by have := of_decide_eq_true h_n; omega)])
  exact fin (rfm_ok f A n c w h_k1 h_k4 h_f0 h_f8 h_t0 h_t8 h_eq h_ep h_sq h_ac h_n) (by unfold mayF; rw [if_pos (by refine ⟨?_, ?_, ?_, ?_, ?_, ?_, ?_, ?_⟩ <;> simp_all [siteB] <;> omega), if_neg (by have := of_decide_eq_false h_n; omega)])

end Go.Proofs.Ytgmjehejaailpaa
