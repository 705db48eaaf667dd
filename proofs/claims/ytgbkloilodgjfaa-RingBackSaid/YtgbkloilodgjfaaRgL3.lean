/- RingBack's walk: all cases. -/
import Derived.Test.YtgbkloilodgjfaaRgL3a
import Derived.Test.YtgbkloilodgjfaaRgL3b
import Derived.Test.YtgbkloilodgjfaaRgL3c
import Derived.Test.YtgbkloilodgjfaaRgL3e
namespace Go.Proofs.Ytgbkloilodgjfaa
open Go.RowKit
set_option linter.unusedSimpArgs false
set_option linter.unusedVariables false

set_option maxRecDepth 100000 in
set_option maxHeartbeats 4000000 in
theorem law_rback_0 (A : Option Addr) (n c : Nat) (t0 : Int) (L0 : List D) (d e : D) (w : World) (h : RdS w w.heap.size 3 A n c (dartsV L0)) (hn : n ≤ maxLen) (gL : onceD L0 = []) :
    Calls Try.prog 9 #[.slice A n c, .agg #[.int .i64 d.1, .int .i64 d.2.1, .int .i64 d.2.2, .int .i64 e.1, .int .i64 e.2.1, .int .i64 e.2.2], .int .i64 t0] w fun e w' => e = .returned (.bool true) ∧ Below w.heap.size w w' := by
  have R0 := Lib.hid h
  have HO : RowKit.Hid (∀ W, RdS W W.heap.size 3 A n c (dartsV L0) → Calls Try.prog 25 #[.slice A n c] W (GivesN W 0 [])) := Lib.hid (fun W h => givesN (gL ▸ once_any A n c L0 W h (by unfold maxLen at hn; omega)) rfl)
  have HT : RowKit.Hid (∀ A1 c1 W, RdS W W.heap.size 3 A1 0 c1 (dartsV []) → Calls Try.prog 31 #[.slice A1 0 c1] W (GivesN W 0 [])) := Lib.hid (fun A1 c1 W h => givesN (turn_any A1 0 c1 [] W h (by omega)) rfl)
  clear h hn gL
  go_enter Try.func9, Try.ntmps9
  go_wp2_with fail
  refine (rg_shown _).mono ?_
  rintro e w1 ⟨rfl, hb1⟩
  have R0_2 := Lib.hid ((R0.out.al (.cells #[.int .i64 d.1, .int .i64 d.2.1, .int .i64 d.2.2, .int .i64 e.1, .int .i64 e.2.1, .int .i64 e.2.2] 53)).bl hb1)
  have Bel_2 := Lib.hid (bel_bl (bel_al (Below.refl _ w) (.cells #[.int .i64 d.1, .int .i64 d.2.1, .int .i64 d.2.2, .int .i64 e.1, .int .i64 e.2.1, .int .i64 e.2.2] 53)) hb1)
  clear hb1
  go_wp2_with fail
  refine (HO.out _ R0_2.out).mono ?_
  rintro e w3 ⟨A1, c1, rfl, hr1, hb3⟩
  have R0_4 := Lib.hid (R0_2.out.bl hb3)
  have Bel_4 := Lib.hid (bel_bl Bel_2.out hb3)
  clear hb3
  have R1_4 := Lib.hid hr1
  clear hr1
  go_wp2_with fail
  refine (HT.out _ _ _ R1_4.out).mono ?_
  rintro e w5 ⟨A2, c2, rfl, hr2, hb5⟩
  have R1_6 := Lib.hid (R1_4.out.bl hb5)
  have Bel_6 := Lib.hid (bel_bl Bel_4.out hb5)
  clear hb5
  go_wp2
  go_ret
  exact ⟨by simp, Bel_6.out⟩

theorem law_rback (A : Option Addr) (n c : Nat) (t0 : Int) (L0 : List D) (d e : D) (w : World) (h : RdS w w.heap.size 3 A n c (dartsV L0)) (hn : n ≤ maxLen) :
    Calls Try.prog 9 #[.slice A n c, .agg #[.int .i64 d.1, .int .i64 d.2.1, .int .i64 d.2.2, .int .i64 e.1, .int .i64 e.2.1, .int .i64 e.2.2], .int .i64 t0] w fun e w' => e = .returned (.bool true) ∧ Below w.heap.size w w' := by
  obtain ⟨L, gL⟩ : ∃ v, onceD L0 = v := ⟨_, rfl⟩
  rcases Nat.eq_zero_or_pos L.length with h0 | h0
  · obtain rfl := List.eq_nil_of_length_eq_zero h0
    exact law_rback_0 A n c t0 L0 d e w h hn gL
  · obtain ⟨k, hk, hat⟩ : ∃ k, k < L.length ∧ ((¬ 0 < t0 ∧ k = 0) ∨ ∃ a : Nat, t0 = (a : Int) ∧ 0 < (a : Int) ∧ (a : Int) % (L.length : Int) = (k : Int)) := by
      by_cases ht : 0 < t0
      · obtain ⟨a, rfl⟩ := Int.eq_ofNat_of_zero_le (Int.le_of_lt ht)
        exact ⟨a % L.length, Nat.mod_lt _ h0, .inr ⟨a, rfl, ht, by rw [Int.natCast_emod]⟩⟩
      · exact ⟨0, h0, .inl ⟨ht, rfl⟩⟩
    by_cases hw : e ∈ L <;> by_cases hd : d ∈ L
    · exact law_rback_c A n c k t0 L0 L d e _ w h hn gL hk rfl hat hw hd
    · exact law_rback_e A n c k t0 L0 L d e _ w h hn gL hk rfl hat hw hd
    · exact law_rback_a A n c k t0 L0 L d e _ w h hn gL hk rfl hat hw hd
    · exact law_rback_b A n c k t0 L0 L d e _ w h hn gL hk rfl hat hw hd
end Go.Proofs.Ytgbkloilodgjfaa
