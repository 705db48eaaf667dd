/- The body kept under any number, and an acknowledgement of any: the code's and the document's own. -/
import Derived.Test.YthfngmlnmpbcpaaSd12
namespace Go.Proofs.Ythfngmlnmpbcpaa
open Go.RowKit
set_option linter.unusedSimpArgs false
set_option linter.unusedVariables false

/-- The body under a number, and whether there is one: Ls is kept past ack. -/
def bodyR (ack : Nat) (Ls : List (List Nat)) (x : Int) : List Nat × Bool :=
  if (ack : Int) < x ∧ x ≤ (ack : Int) + (Ls.length : Int) then ((Ls[(x - ack - 1).toNat]?).getD [], true) else ([], false)
theorem bodyR_lo {ack : Nat} {Ls : List (List Nat)} {x : Int} (h : x ≤ ack) : bodyR ack Ls x = ([], false) := if_neg (by omega)
theorem bodyR_hi {ack : Nat} {Ls : List (List Nat)} {x : Int} (h : (ack : Int) + (Ls.length : Int) < x) : bodyR ack Ls x = ([], false) := if_neg (by omega)
theorem bodyR_yes {ack : Nat} {Ls : List (List Nat)} {x : Int} {i : Nat} {L : List Nat} (hL : Ls[i]? = some L) (hx : x = (ack : Int) + (i : Int) + 1) : bodyR ack Ls x = (L, true) := by
  have hi := (List.getElem?_eq_some_iff.1 hL).1
  unfold bodyR
  rw [if_pos (by omega), show (x - ack - 1).toNat = i by omega, hL]
  rfl
theorem body_any {B : Nat} {g win ack c : Nat} {Ls : List (List Nat)} {A : Option Addr} {es : List Sl} {k : Option Nat} (w : World) (h : SdIn B w g win ack Ls A c es k) (ha : ack ≤ 100000) (hn : Ls.length ≤ 100000) (x : Int) :
    Calls Try.prog 21 #[.pointer (some ⟨g, 0, none⟩), .int .i64 x] w fun e w' => ∃ A' c', e = .returned (.tuple #[.slice A' (bodyR ack Ls x).1.length c', .bool (bodyR ack Ls x).2]) ∧ RdS w' w'.heap.size 1 A' (bodyR ack Ls x).1.length c' (rowsV f8 (bodyR ack Ls x).1) ∧ Below w.heap.size w w' := by
  rcases Int.lt_or_le (ack : Int) x with h1 | h1
  · rcases Int.lt_or_le ((ack : Int) + (Ls.length : Int)) x with h2 | h2
    · rw [bodyR_hi h2]
      refine (body_hi w h (by omega) (by omega) x h2).mono ?_
      rintro e w' ⟨rfl, hb⟩
      exact ⟨none, 0, rfl, rds_nil _ _ _, hb⟩
    · obtain ⟨i, hi⟩ : ∃ i : Nat, x = (ack : Int) + (i : Int) + 1 := ⟨(x - ack - 1).toNat, by omega⟩
      obtain ⟨L, hL⟩ : ∃ L, Ls[i]? = some L := ⟨_, List.getElem?_eq_getElem (by omega)⟩
      rw [bodyR_yes hL hi]
      refine (body_yes w h (by omega) (by omega) x i L hL hi).mono ?_
      rintro e w' ⟨A', c', rfl, hr, _, _, hb⟩
      exact ⟨A', c', rfl, hr, hb⟩
  · rw [bodyR_lo h1]
    refine (body_lo w h (by omega) (by omega) x h1).mono ?_
    rintro e w' ⟨rfl, hb⟩
    exact ⟨none, 0, rfl, rds_nil _ _ _, hb⟩
theorem rbody_any {g win ack c : Nat} {TL : List (List Nat)} {A : Option Addr} {es : List Sl} (w : World) (h : RfIn w g win ack TL A c es) (ha : ack ≤ 200000) (hn : TL.length ≤ 200000) (hal : ack ≤ TL.length) (x : Int) :
    Calls Try.prog 22 #[.pointer (some ⟨g, 0, none⟩), .int .i64 x] w fun e w' => ∃ A' c', e = .returned (.tuple #[.slice A' (bodyR ack (TL.drop ack) x).1.length c', .bool (bodyR ack (TL.drop ack) x).2]) ∧ RdS w' w'.heap.size 1 A' (bodyR ack (TL.drop ack) x).1.length c' (rowsV f8 (bodyR ack (TL.drop ack) x).1) ∧ Below w.heap.size w w' := by
  have hd : (TL.drop ack).length = TL.length - ack := List.length_drop
  rcases Int.lt_or_le (ack : Int) x with h1 | h1
  · rcases Int.lt_or_le (TL.length : Int) x with h2 | h2
    · rw [bodyR_hi (by omega)]
      refine (rbody_hi w h (by omega) (by omega) x h1 h2).mono ?_
      rintro e w' ⟨rfl, hb⟩
      exact ⟨none, 0, rfl, rds_nil _ _ _, hb⟩
    · obtain ⟨i, hi⟩ : ∃ i : Nat, x = (ack : Int) + (i : Int) + 1 := ⟨(x - ack - 1).toNat, by omega⟩
      obtain ⟨L, hL⟩ : ∃ L, TL[ack + i]? = some L := ⟨_, List.getElem?_eq_getElem (by omega)⟩
      rw [bodyR_yes (i := i) (L := L) (by rw [List.getElem?_drop]; exact hL) hi]
      exact rbody_yes w h (by omega) (by omega) x (ack + i) L hL h1 (by omega)
  · rw [bodyR_lo h1]
    refine (rbody_lo w h (by omega) (by omega) x h1).mono ?_
    rintro e w' ⟨rfl, hb⟩
    exact ⟨none, 0, rfl, rds_nil _ _ _, hb⟩
/-- What an acknowledgement answers. -/
def ackR (ack n : Nat) (x : Int) : Int := if (ack : Int) ≤ x ∧ x ≤ (n : Int) then 0 else 22
/-- What is acknowledged then. -/
def ackTo (ack n : Nat) (x : Int) : Nat := if (ack : Int) ≤ x ∧ x ≤ (n : Int) then x.toNat else ack
theorem rack_any {g win ack c : Nat} {TL : List (List Nat)} {A : Option Addr} {es : List Sl} (w : World) (h : RfIn w g win ack TL A c es) (ha : ack ≤ 200000) (hn : TL.length ≤ 200000) (hal : ack ≤ TL.length) (x : Int) :
    Calls Try.prog 17 #[.pointer (some ⟨g, 0, none⟩), .int .i64 x] w fun e w' => e = .returned (.int .i64 (ackR ack TL.length x)) ∧ RfIn w' g win (ackTo ack TL.length x) TL A c es ∧ Kept (fun b => b = g) w w' := by
  unfold ackR ackTo
  rcases Int.lt_or_le x (ack : Int) with h1 | h1
  · rw [if_neg (by omega), if_neg (by omega)]
    refine (rack_lo w h (by omega) (by omega) x h1).mono ?_
    rintro e w' ⟨rfl, rfl⟩
    exact ⟨rfl, h, Kept.refl _ _⟩
  · rcases Int.lt_or_le (TL.length : Int) x with h2 | h2
    · rw [if_neg (by omega), if_neg (by omega)]
      refine (rack_hi w h (by omega) (by omega) x h1 h2).mono ?_
      rintro e w' ⟨rfl, rfl⟩
      exact ⟨rfl, h, Kept.refl _ _⟩
    · obtain ⟨j, rfl⟩ : ∃ j : Nat, x = (j : Int) := ⟨x.toNat, by omega⟩
      rw [if_pos (by omega), if_pos (by omega)]
      exact rack_yes w h ha hn j (by omega) (by omega)
theorem ack_any {B : Nat} {g win ack c : Nat} {Ls : List (List Nat)} {A : Option Addr} {es : List Sl} {k : Option Nat} (w : World) (h : SdIn B w g win ack Ls A c es k) (ha : ack ≤ 100000) (hn : Ls.length ≤ 100000) (N : Nat) (hN : ack + Ls.length = N) (x : Int) :
    Calls Try.prog 14 #[.pointer (some ⟨g, 0, none⟩), .int .i64 x] w fun e w' => e = .returned (.int .i64 (ackR ack N x)) ∧
      ∃ A' c' es' k', SdIn B w' g win (ackTo ack N x) (Ls.drop (ackTo ack N x - ack)) A' c' es' k' ∧ Kept (fun b => b = g) w w' ∧ (k' = k ∨ k' = none ∨ ∃ b, k' = some b ∧ w.heap.size ≤ b) := by
  unfold ackR ackTo
  rcases Int.lt_or_le x (ack : Int) with h1 | h1
  · rw [if_neg (by omega), if_neg (by omega), Nat.sub_self, List.drop_zero]
    refine (ack_lo w h (by omega) (by omega) x h1).mono ?_
    rintro e w' ⟨rfl, rfl⟩
    exact ⟨rfl, A, c, es, k, h, Kept.refl _ _, .inl rfl⟩
  · rcases Int.lt_or_le ((ack : Int) + (Ls.length : Int)) x with h2 | h2
    · rw [if_neg (by omega), if_neg (by omega), Nat.sub_self, List.drop_zero]
      refine (ack_hi w h (by omega) (by omega) x h2).mono ?_
      rintro e w' ⟨rfl, hb⟩
      exact ⟨rfl, A, c, es, k, h.below hb, Kept.of_below hb, .inl rfl⟩
    · obtain ⟨j, rfl⟩ : ∃ j : Nat, x = (ack : Int) + (j : Int) := ⟨(x - ack).toNat, by omega⟩
      rw [if_pos (by omega), if_pos (by omega), show ((ack : Int) + (j : Int)).toNat = ack + j by omega, show ack + j - ack = j by omega]
      refine (ack_yes w h (by omega) (by omega) j (by omega)).mono ?_
      rintro e w' ⟨rfl, A', c', es', k', h3, h4, h5, _, _⟩
      exact ⟨rfl, A', c', es', k', h3, h4, .inr h5⟩
end Go.Proofs.Ythfngmlnmpbcpaa
