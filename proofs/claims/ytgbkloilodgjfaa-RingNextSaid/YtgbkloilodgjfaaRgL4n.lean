/- RingNext's walk. -/
import Derived.Test.YtgbkloilodgjfaaRgM
import Derived.Test.YtgbkloilodgjfaaRgJ
import Derived.Test.YtgbkloilodgjfaaCh
namespace Go.Proofs.Ytgbkloilodgjfaa
open Go.RowKit
set_option linter.unusedSimpArgs false
set_option linter.unusedVariables false

theorem getD_inj {L : List D} (n : L.Nodup) {i j : Nat} (hi : i < L.length) (hj : j < L.length) (e : L.getD i (0, 0, 0) = L.getD j (0, 0, 0)) : i = j := by
  have := congrArg L.idxOf e
  rwa [idx_of_get n hi, idx_of_get n hj] at this
theorem ring_next {L : List D} (n : L.Nodup) {k j : Nat} (hk : k < L.length) (hj : j < L.length) :
    nextD L (L.getD ((k + j) % L.length) (0, 0, 0)) = L.getD ((k + (j + 1)) % L.length) (0, 0, 0) ∧ (L.getD ((k + (j + 1)) % L.length) (0, 0, 0) = L.getD k (0, 0, 0) ↔ j + 1 = L.length) := by
  constructor
  · unfold nextD
    rw [step_at n (Nat.mod_lt _ (by omega)), Nat.mod_add_mod, Nat.add_assoc]
  · constructor
    · intro e
      have e := getD_inj n (Nat.mod_lt _ (by omega)) hk e
      rcases Nat.lt_or_ge (k + (j + 1)) L.length with h | h
      · rw [Nat.mod_eq_of_lt h] at e
        omega
      · rw [Nat.mod_eq_sub_mod h, Nat.mod_eq_of_lt (by omega)] at e
        omega
    · intro e
      rw [e, Nat.add_mod_right, Nat.mod_eq_of_lt hk]

set_option maxRecDepth 100000 in
set_option maxHeartbeats 4000000 in
theorem law_rnext_no (A : Option Addr) (n c : Nat) (L0 L : List D) (d : D) (w : World) (h : RdS w w.heap.size 3 A n c (dartsV L0)) (hn : n ≤ maxLen) (gL : onceD L0 = L) (hd : ¬ d ∈ L) :
    Calls Try.prog 10 #[.slice A n c, .agg #[.int .i64 d.1, .int .i64 d.2.1, .int .i64 d.2.2]] w fun e w' => e = .returned (.bool true) ∧ Below w.heap.size w w' := by
  obtain ⟨i0, hi, hz0, hz1, hz2⟩ := info_parts info_dart
  have R0 := Lib.hid h
  obtain ⟨hl40, hnd⟩ := onceD_len L0
  rw [gL] at hl40
  have HO : RowKit.Hid (∀ W, RdS W W.heap.size 3 A n c (dartsV L0) → Calls Try.prog 25 #[.slice A n c] W (GivesN W L.length L)) := Lib.hid (fun W h => givesN (gL ▸ once_any A n c L0 W h (by unfold maxLen at hn; omega)) rfl)
  obtain ⟨n1, gn⟩ : ∃ v, L.length = v := ⟨_, rfl⟩
  rw [gn] at HO
  have HX := Lib.hid (fun A1 c1 W h => rindex_any A1 n1 c1 L d W h (by omega))
  rw [idxD_no hd] at HX
  have HP := Lib.hid (fun A1 c1 W h => rprev_any A1 n1 c1 L d W h (by omega))
  have HN := Lib.hid (fun A1 c1 W h => rnext_any A1 n1 c1 L d W h (by omega))
  have e1 : prevD L d = (0, 0, 0) := by unfold prevD stepD; rw [if_neg hd]
  have e2 : nextD L d = (0, 0, 0) := by unfold nextD stepD; rw [if_neg hd]
  rw [e1, decide_eq_false hd] at HP
  rw [e2, decide_eq_false hd] at HN
  have hq := fun W => eq_dart_run (0, 0, 0) (0, 0, 0) W
  rw [show decide (((0, 0, 0) : D) = (0, 0, 0)) = true from decide_eq_true rfl] at hq
  simp only at hq
  clear h hn gL gn hl40 hnd e1 e2 hd
  go_enter Try.func10, Try.ntmps10
  go_wp2_with fail
  refine (rg_shown _).mono ?_
  rintro e w1 ⟨rfl, hb1⟩
  have R0_2 := Lib.hid ((R0.out.al (.cells #[.int .i64 d.1, .int .i64 d.2.1, .int .i64 d.2.2] 46)).bl hb1)
  have Qd_2 := Lib.hid ((show Whole (w.alloc (.cells #[.int .i64 d.1, .int .i64 d.2.1, .int .i64 d.2.2] 46)) (w.heap.size) (46) (dartsV [d]) from Whole.new2 (by first | rfl | simp)).bl hb1)
  have Bel_2 := Lib.hid (bel_bl (bel_al (Below.refl _ w) (.cells #[.int .i64 d.1, .int .i64 d.2.1, .int .i64 d.2.2] 46)) hb1)
  clear hb1
  go_wp2_with fail
  refine (HO.out _ R0_2.out).mono ?_
  rintro e w3 ⟨A1, c1, rfl, hr1, hb3⟩
  have R0_4 := Lib.hid (R0_2.out.bl hb3)
  have Qd_4 := Lib.hid (Qd_2.out.bl hb3)
  have Bel_4 := Lib.hid (bel_bl Bel_2.out hb3)
  clear hb3
  have R1_4 := Lib.hid hr1
  clear hr1
  have lw6 : (w3).cell? ⟨w.heap.size, 0, none⟩ = some (.int .i64 d.1) := Qd_4.out.cell (i := 0) rfl
  have lw7 : (w3).cell? ⟨w.heap.size, 1, none⟩ = some (.int .i64 d.2.1) := Qd_4.out.cell (i := 1) rfl
  have lw8 : (w3).cell? ⟨w.heap.size, 2, none⟩ = some (.int .i64 d.2.2) := Qd_4.out.cell (i := 2) rfl
  go_wp2_with fail
  clear lw6 lw7 lw8
  refine (HX.out _ _ _ R1_4.out).mono ?_
  rintro e w5 ⟨rfl, hb5⟩
  have Qd_9 := Lib.hid (Qd_4.out.bl hb5)
  have R1_9 := Lib.hid (R1_4.out.bl hb5)
  have Bel_9 := Lib.hid (bel_bl Bel_4.out hb5)
  clear hb5
  have lw11 : (w5).cell? ⟨w.heap.size, 0, none⟩ = some (.int .i64 d.1) := Qd_9.out.cell (i := 0) rfl
  have lw12 : (w5).cell? ⟨w.heap.size, 1, none⟩ = some (.int .i64 d.2.1) := Qd_9.out.cell (i := 1) rfl
  have lw13 : (w5).cell? ⟨w.heap.size, 2, none⟩ = some (.int .i64 d.2.2) := Qd_9.out.cell (i := 2) rfl
  go_wp2_with fail
  clear lw11 lw12 lw13
  refine (HP.out _ _ _ R1_9.out).mono ?_
  rintro e w10 ⟨rfl, hb10⟩
  have Qd_14 := Lib.hid (Qd_9.out.bl hb10)
  have R1_14 := Lib.hid (R1_9.out.bl hb10)
  have Bel_14 := Lib.hid (bel_bl Bel_9.out hb10)
  clear hb10
  have lw16 : ((w10.alloc (.cells #[.int .i64 0, .int .i64 0, .int .i64 0] 46))).cell? ⟨w.heap.size, 0, none⟩ = some (.int .i64 d.1) := (Qd_14.out.al (.cells #[.int .i64 0, .int .i64 0, .int .i64 0] 46)).cell (i := 0) rfl
  have lw17 : ((w10.alloc (.cells #[.int .i64 0, .int .i64 0, .int .i64 0] 46))).cell? ⟨w.heap.size, 1, none⟩ = some (.int .i64 d.2.1) := (Qd_14.out.al (.cells #[.int .i64 0, .int .i64 0, .int .i64 0] 46)).cell (i := 1) rfl
  have lw18 : ((w10.alloc (.cells #[.int .i64 0, .int .i64 0, .int .i64 0] 46))).cell? ⟨w.heap.size, 2, none⟩ = some (.int .i64 d.2.2) := (Qd_14.out.al (.cells #[.int .i64 0, .int .i64 0, .int .i64 0] 46)).cell (i := 2) rfl
  go_wp2_with fail
  clear lw16 lw17 lw18
  refine (HN.out _ _ _ (R1_14.out.al (.cells #[.int .i64 0, .int .i64 0, .int .i64 0] 46))).mono ?_
  rintro e w15 ⟨rfl, hb15⟩
  have Qd_19 := Lib.hid ((Qd_14.out.al (.cells #[.int .i64 0, .int .i64 0, .int .i64 0] 46)).bl hb15)
  have R1_19 := Lib.hid ((R1_14.out.al (.cells #[.int .i64 0, .int .i64 0, .int .i64 0] 46)).bl hb15)
  have Qp_19 := Lib.hid ((show Whole (w10.alloc (.cells #[.int .i64 0, .int .i64 0, .int .i64 0] 46)) (w10.heap.size) (46) (dartsV [(0, 0, 0)]) from Whole.new2 (by first | rfl | simp)).bl hb15)
  have Bel_19 := Lib.hid (bel_bl (bel_al Bel_14.out (.cells #[.int .i64 0, .int .i64 0, .int .i64 0] 46)) hb15)
  clear hb15
  have lQp0 : ((w15.alloc (.cells #[.int .i64 0, .int .i64 0, .int .i64 0] 46))).cell? ⟨w10.heap.size, 0, none⟩ = some (.int .i64 0) := (Qp_19.out.al (.cells #[.int .i64 0, .int .i64 0, .int .i64 0] 46)).cell (i := 0) rfl
  have lQp1 : ((w15.alloc (.cells #[.int .i64 0, .int .i64 0, .int .i64 0] 46))).cell? ⟨w10.heap.size, 1, none⟩ = some (.int .i64 0) := (Qp_19.out.al (.cells #[.int .i64 0, .int .i64 0, .int .i64 0] 46)).cell (i := 1) rfl
  have lQp2 : ((w15.alloc (.cells #[.int .i64 0, .int .i64 0, .int .i64 0] 46))).cell? ⟨w10.heap.size, 2, none⟩ = some (.int .i64 0) := (Qp_19.out.al (.cells #[.int .i64 0, .int .i64 0, .int .i64 0] 46)).cell (i := 2) rfl
  have lQn0 : ((w15.alloc (.cells #[.int .i64 0, .int .i64 0, .int .i64 0] 46))).cell? ⟨w15.heap.size, 0, none⟩ = some (.int .i64 0) := (show Whole (w15.alloc (.cells #[.int .i64 0, .int .i64 0, .int .i64 0] 46)) (w15.heap.size) (46) (dartsV [(0, 0, 0)]) from Whole.new2 (by first | rfl | simp)).cell (i := 0) rfl
  have lQn1 : ((w15.alloc (.cells #[.int .i64 0, .int .i64 0, .int .i64 0] 46))).cell? ⟨w15.heap.size, 1, none⟩ = some (.int .i64 0) := (show Whole (w15.alloc (.cells #[.int .i64 0, .int .i64 0, .int .i64 0] 46)) (w15.heap.size) (46) (dartsV [(0, 0, 0)]) from Whole.new2 (by first | rfl | simp)).cell (i := 1) rfl
  have lQn2 : ((w15.alloc (.cells #[.int .i64 0, .int .i64 0, .int .i64 0] 46))).cell? ⟨w15.heap.size, 2, none⟩ = some (.int .i64 0) := (show Whole (w15.alloc (.cells #[.int .i64 0, .int .i64 0, .int .i64 0] 46)) (w15.heap.size) (46) (dartsV [(0, 0, 0)]) from Whole.new2 (by first | rfl | simp)).cell (i := 2) rfl
  go_wp2
  go_ret
  exact ⟨by simp, (bel_al Bel_19.out (.cells #[.int .i64 0, .int .i64 0, .int .i64 0] 46))⟩

end Go.Proofs.Ytgbkloilodgjfaa
