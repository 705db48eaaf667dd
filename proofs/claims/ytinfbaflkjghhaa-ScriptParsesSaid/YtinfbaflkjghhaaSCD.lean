/- Several texts in one. -/
import Derived.Test.YtinfbaflkjghhaaSCA
import Derived.Test.YtinfbaflkjghhaaSCC
import Derived.Test.YtinfbaflkjghhaaSCB
/- The contracts of the document's own corner, MayAttr, May for operations. -/
set_option linter.unusedSimpArgs false
set_option linter.unusedVariables false
namespace Go.Proofs.Ytinfbaflkjghhaa
open Go.RowKit
theorem rmayattr_any (n : Int) : Pure 85 #[.int .i64 n] (.bool (mayAt n)) := fun w => by
  unfold mayAt
  by_cases h1 : -1099511627776 ≤ n
  · by_cases h2 : n ≤ 1099511627776
    · rw [decide_eq_true ⟨h1, h2⟩]
      go_enter Try.func85, Try.ntmps85
      go_wp2
      go_ret
      exact ⟨rfl, Below.refl _ _⟩
    · rw [decide_eq_false (fun h => h2 h.2)]
      go_enter Try.func85, Try.ntmps85
      go_wp2
      go_ret
      exact ⟨rfl, Below.refl _ _⟩
  · rw [decide_eq_false (fun h => h1 h.1)]
    go_enter Try.func85, Try.ntmps85
    go_wp2
    go_ret
    exact ⟨rfl, Below.refl _ _⟩
theorem rcorner_any (a0 a1 a2 a3 a4 : Int) : Pure 84 #[.agg #[.int .i64 a0, .int .i64 a1, .int .i64 a2, .int .i64 a3, .int .i64 a4]] (.bool (mayC a0 a1 a2 a3 a4)) := fun w => by
  unfold mayC
  have hq := eq_dartz_run a2 a3 a4
  have HM := Lib.hid (rmay_any a0 a1)
  have HD := Lib.hid (rmaydart_any a2 a3 a4)
  by_cases hz : a2 = 0 ∧ a3 = 0 ∧ a4 = 0
  all_goals
    first | rw [decide_eq_true hz] at hq ⊢ | rw [decide_eq_false hz] at hq ⊢
    obtain ⟨V, gV⟩ : ∃ x, mayI a0 a1 = x := ⟨_, rfl⟩
    obtain ⟨D, gD⟩ : ∃ x, mayD a2 a3 a4 = x := ⟨_, rfl⟩
    rw [gV] at HM ⊢
    rw [gD] at HD ⊢
    clear gV gD hz
    cases V <;> cases D
    all_goals
      go_enter Try.func84, Try.ntmps84
      go_wp2_with (first
        | (go_at_call 82; refine (HM.out _).mono ?_; rintro e w' ⟨rfl, hb⟩; obtain ⟨hc, hf⟩ := bcell hb; have hz1 : w.heap.size < w'.heap.size := by have := hb.size; simp at this; omega)
        | (go_at_call 101; refine (HD.out _).mono ?_; rintro e w'' ⟨rfl, hb2⟩; obtain ⟨hc2, hf2⟩ := bcell hb2))
      go_ret
      exact ⟨by simp, (below_after1 hb).trans (hb2.mono (below_after1 hb).size)⟩
def zeroO : OpT := ⟨0, 0, 0, 0, 0, 0, 0, 0, 0, 0, 0, 0, 0, 0, 0, 0, 0, false, ⟨#[]⟩, 0⟩
theorem opCells_zero : (opCells zeroO).toArray = #[.int .i64 0, .int .i64 0, .int .i64 0, .int .i64 0, .int .i64 0, .int .i64 0, .int .i64 0, .int .i64 0, .int .i64 0, .int .i64 0, .int .i64 0, .int .i64 0, .int .i64 0, .int .i64 0, .int .i64 0, .int .i64 0, .int .i64 0, .bool false, .string ⟨#[]⟩, .int .i64 0] := rfl
set_option maxRecDepth 100000 in
set_option maxHeartbeats 2000000 in
theorem rm_lo (o : OpT) (h0 : decide (o.k < 1) = true) (w : World) : Calls Try.prog 67 #[.agg (opCells o).toArray] w fun e w' => e = .returned (.int .i64 1) ∧ Below w.heap.size w w' := by
  go_enter Try.func67, Try.ntmps67
  go_upto_region 1 with fail
  obtain ⟨W1, gW1⟩ : ∃ x, w.alloc (.cells (opCells o).toArray 53) = x := ⟨_, rfl⟩
  have HO : RowKit.Hid (Whole W1 w.heap.size 53 (opCells o)) := Lib.hid (by rw [← gW1]; exact Whole.new_ w _ _)
  have HB : RowKit.Hid (Below w.heap.size w W1) := Lib.hid (by rw [← gW1]; exact below1 _ _)
  rw [gW1]
  clear gW1
  obtain ⟨g0, gg0⟩ : ∃ x, w.heap.size = x := ⟨_, rfl⟩
  rw [gg0] at HO ⊢
  clear gg0
  have lw1 : W1.cell? ⟨g0, 1, none⟩ = some (.int .i64 o.s) := HO.out.cell (i := 1) rfl
  have lw2 : W1.cell? ⟨g0, 2, none⟩ = some (.int .i64 o.n) := HO.out.cell (i := 2) rfl
  go_wp2_with fail
  clear lw1 lw2
  refine (rmay_any o.s o.n _).mono ?_
  rintro e w3 ⟨rfl, hb3⟩
  have O_4 := Lib.hid (HO.out.bl hb3)
  have Bel_4 := Lib.hid (bel_bl HB.out hb3)
  clear hb3
  have lw5 : w3.cell? ⟨g0, 0, none⟩ = some (.int .i64 o.k) := O_4.out.cell (i := 0) rfl
  go_wp2
  go_ret
  exact ⟨rfl, Bel_4.out⟩
set_option maxRecDepth 100000 in
set_option maxHeartbeats 2000000 in
theorem rm_hi (o : OpT) (h0 : decide (o.k < 1) = false) (h9 : decide (8 < o.k) = true) (w : World) : Calls Try.prog 67 #[.agg (opCells o).toArray] w fun e w' => e = .returned (.int .i64 1) ∧ Below w.heap.size w w' := by
  go_enter Try.func67, Try.ntmps67
  go_upto_region 1 with fail
  obtain ⟨W1, gW1⟩ : ∃ x, w.alloc (.cells (opCells o).toArray 53) = x := ⟨_, rfl⟩
  have HO : RowKit.Hid (Whole W1 w.heap.size 53 (opCells o)) := Lib.hid (by rw [← gW1]; exact Whole.new_ w _ _)
  have HB : RowKit.Hid (Below w.heap.size w W1) := Lib.hid (by rw [← gW1]; exact below1 _ _)
  rw [gW1]
  clear gW1
  obtain ⟨g0, gg0⟩ : ∃ x, w.heap.size = x := ⟨_, rfl⟩
  rw [gg0] at HO ⊢
  clear gg0
  have lw1 : W1.cell? ⟨g0, 1, none⟩ = some (.int .i64 o.s) := HO.out.cell (i := 1) rfl
  have lw2 : W1.cell? ⟨g0, 2, none⟩ = some (.int .i64 o.n) := HO.out.cell (i := 2) rfl
  go_wp2_with fail
  clear lw1 lw2
  refine (rmay_any o.s o.n _).mono ?_
  rintro e w3 ⟨rfl, hb3⟩
  have O_4 := Lib.hid (HO.out.bl hb3)
  have Bel_4 := Lib.hid (bel_bl HB.out hb3)
  clear hb3
  have lw5 : w3.cell? ⟨g0, 0, none⟩ = some (.int .i64 o.k) := O_4.out.cell (i := 0) rfl
  go_wp2
  go_ret
  exact ⟨rfl, Bel_4.out⟩
set_option maxRecDepth 100000 in
set_option maxHeartbeats 2000000 in
theorem rm_id (o : OpT) (h0 : decide (o.k < 1) = false) (h9 : decide (8 < o.k) = false) (h1 : mayI o.s o.n = false) (w : World) : Calls Try.prog 67 #[.agg (opCells o).toArray] w fun e w' => e = .returned (.int .i64 1) ∧ Below w.heap.size w w' := by
  go_enter Try.func67, Try.ntmps67
  go_upto_region 1 with fail
  obtain ⟨W1, gW1⟩ : ∃ x, w.alloc (.cells (opCells o).toArray 53) = x := ⟨_, rfl⟩
  have HO : RowKit.Hid (Whole W1 w.heap.size 53 (opCells o)) := Lib.hid (by rw [← gW1]; exact Whole.new_ w _ _)
  have HB : RowKit.Hid (Below w.heap.size w W1) := Lib.hid (by rw [← gW1]; exact below1 _ _)
  rw [gW1]
  clear gW1
  obtain ⟨g0, gg0⟩ : ∃ x, w.heap.size = x := ⟨_, rfl⟩
  rw [gg0] at HO ⊢
  clear gg0
  have lw1 : W1.cell? ⟨g0, 1, none⟩ = some (.int .i64 o.s) := HO.out.cell (i := 1) rfl
  have lw2 : W1.cell? ⟨g0, 2, none⟩ = some (.int .i64 o.n) := HO.out.cell (i := 2) rfl
  go_wp2_with fail
  clear lw1 lw2
  refine (rmay_any o.s o.n _).mono ?_
  rintro e w3 ⟨rfl, hb3⟩
  have O_4 := Lib.hid (HO.out.bl hb3)
  have Bel_4 := Lib.hid (bel_bl HB.out hb3)
  clear hb3
  have lw5 : w3.cell? ⟨g0, 0, none⟩ = some (.int .i64 o.k) := O_4.out.cell (i := 0) rfl
  go_wp2
  go_ret
  exact ⟨rfl, Bel_4.out⟩
set_option maxRecDepth 100000 in
set_option maxHeartbeats 2000000 in
theorem rm_rest (o : OpT) (h0 : decide (o.k < 1) = false) (h9 : decide (8 < o.k) = false) (h1 : mayI o.s o.n = true) (h2 : ¬ restO o = zeroO) (w : World) : Calls Try.prog 67 #[.agg (opCells o).toArray] w fun e w' => e = .returned (.int .i64 1) ∧ Below w.heap.size w w' := by
  have he : Try.prog.eqGuardType Try.prog.depth 53 = false := by kernel_rfl
  have hq := neq_op_run (restO o) zeroO
  rw [opCells_zero, decide_eq_false h2] at hq
  clear h2
  go_enter Try.func67, Try.ntmps67
  go_upto_region 1 with fail
  obtain ⟨W1, gW1⟩ : ∃ x, w.alloc (.cells (opCells o).toArray 53) = x := ⟨_, rfl⟩
  have HO : RowKit.Hid (Whole W1 w.heap.size 53 (opCells o)) := Lib.hid (by rw [← gW1]; exact Whole.new_ w _ _)
  have HB : RowKit.Hid (Below w.heap.size w W1) := Lib.hid (by rw [← gW1]; exact below1 _ _)
  rw [gW1]
  clear gW1
  obtain ⟨g0, gg0⟩ : ∃ x, w.heap.size = x := ⟨_, rfl⟩
  rw [gg0] at HO ⊢
  clear gg0
  have lw1 : W1.cell? ⟨g0, 1, none⟩ = some (.int .i64 o.s) := HO.out.cell (i := 1) rfl
  have lw2 : W1.cell? ⟨g0, 2, none⟩ = some (.int .i64 o.n) := HO.out.cell (i := 2) rfl
  go_wp2_with fail
  clear lw1 lw2
  refine (rmay_any o.s o.n _).mono ?_
  rintro e w3 ⟨rfl, hb3⟩
  have O_4 := Lib.hid (HO.out.bl hb3)
  have Bel_4 := Lib.hid (bel_bl HB.out hb3)
  clear hb3
  have lw5 : w3.cell? ⟨g0, 0, none⟩ = some (.int .i64 o.k) := O_4.out.cell (i := 0) rfl
  go_upto_region 2 with fail
  refine wp_region_lit ?_
  refine wl_read (v := ?_) (some 12) rfl (by rfl) ?_ ?_
  rotate_left
  · go_simp; (try with_reducible rfl)
  simp only [Act.put, stA_, st0_, st1_]
  refine wl_read (v := ?_) (some 13) rfl (by rfl) ?_ ?_
  rotate_left
  · go_simp; (try with_reducible rfl)
  simp only [Act.put, stA_, st0_, st1_]
  refine wl_read (v := ?_) (some 14) rfl (by rfl) ?_ ?_
  rotate_left
  · go_simp; (try with_reducible rfl)
  simp only [Act.put, stA_, st0_, st1_]
  refine wl_read (v := ?_) (some 15) rfl (by rfl) ?_ ?_
  rotate_left
  · go_simp; (try with_reducible rfl)
  simp only [Act.put, stA_, st0_, st1_]
  refine wl_read (v := ?_) (some 16) rfl (by rfl) ?_ ?_
  rotate_left
  · go_simp; (try with_reducible rfl)
  simp only [Act.put, stA_, st0_, st1_]
  refine wl_read (v := ?_) (some 17) rfl (by rfl) ?_ ?_
  rotate_left
  · go_simp; (try with_reducible rfl)
  simp only [Act.put, stA_, st0_, st1_]
  refine wl_read (v := ?_) (some 18) rfl (by rfl) ?_ ?_
  rotate_left
  · go_simp; (try with_reducible rfl)
  simp only [Act.put, stA_, st0_, st1_]
  refine wl_read (v := ?_) (some 19) rfl (by rfl) ?_ ?_
  rotate_left
  · go_simp; (try with_reducible rfl)
  simp only [Act.put, stA_, st0_, st1_]
  refine wl_read (v := ?_) (some 20) rfl (by rfl) ?_ ?_
  rotate_left
  · go_simp; (try with_reducible rfl)
  simp only [Act.put, stA_, st0_, st1_]
  refine wl_read (v := ?_) (some 21) rfl (by rfl) ?_ ?_
  rotate_left
  · go_simp; (try with_reducible rfl)
  simp only [Act.put, stA_, st0_, st1_]
  refine wl_read (v := ?_) (some 22) rfl (by rfl) ?_ ?_
  rotate_left
  · go_simp; (try with_reducible rfl)
  simp only [Act.put, stA_, st0_, st1_]
  refine wl_read (v := ?_) (some 23) rfl (by rfl) ?_ ?_
  rotate_left
  · go_simp; (try with_reducible rfl)
  simp only [Act.put, stA_, st0_, st1_]
  refine wl_read (v := ?_) (some 24) rfl (by rfl) ?_ ?_
  rotate_left
  · go_simp; (try with_reducible rfl)
  simp only [Act.put, stA_, st0_, st1_]
  refine wl_load (some 25) rfl (by rfl) 53 (.tmp 1) rfl g0 rfl 53 (opCells o) _ O_4.out Try.underlying53 rfl (by kernel_rfl) ?_
  simp only [Act.put, stA_, st0_, st1_]
  go_wp2_with fail
  clear lw5
  refine (rest_any o _).mono ?_
  rintro e w6 ⟨rfl, hb6⟩
  have O_7 := Lib.hid (O_4.out.bl hb6)
  have Bel_7 := Lib.hid (bel_bl Bel_4.out hb6)
  clear hb6
  have lw8 : w6.cell? ⟨g0, 0, none⟩ = some (.int .i64 o.k) := O_7.out.cell (i := 0) rfl
  go_wp2
  go_ret
  exact ⟨rfl, Bel_7.out⟩
set_option maxRecDepth 100000 in
set_option maxHeartbeats 2000000 in
theorem rm_3n (o : OpT) (h0 : decide (o.k < 1) = false) (h9 : decide (8 < o.k) = false) (h1 : mayI o.s o.n = true) (h2 : restO o = zeroO) (hk : o.k = 3) (h3 : mayC o.a0 o.a1 o.a2 o.a3 o.a4 = false) (w : World) : Calls Try.prog 67 #[.agg (opCells o).toArray] w fun e w' => e = .returned (.int .i64 1) ∧ Below w.heap.size w w' := by
  have he : Try.prog.eqGuardType Try.prog.depth 53 = false := by kernel_rfl
  have hq := neq_op_run (restO o) zeroO
  rw [opCells_zero, decide_eq_true h2] at hq
  clear h2
  have q3 : (o.k == 3) = true := by rw [hk]; decide
  have q5 : (o.k == 5) = false := by rw [hk]; decide
  have q6 : (o.k == 6) = false := by rw [hk]; decide
  have q7 : (o.k == 7) = false := by rw [hk]; decide
  have q8 : (o.k == 8) = false := by rw [hk]; decide
  clear hk
  go_enter Try.func67, Try.ntmps67
  go_upto_region 1 with fail
  obtain ⟨W1, gW1⟩ : ∃ x, w.alloc (.cells (opCells o).toArray 53) = x := ⟨_, rfl⟩
  have HO : RowKit.Hid (Whole W1 w.heap.size 53 (opCells o)) := Lib.hid (by rw [← gW1]; exact Whole.new_ w _ _)
  have HB : RowKit.Hid (Below w.heap.size w W1) := Lib.hid (by rw [← gW1]; exact below1 _ _)
  rw [gW1]
  clear gW1
  obtain ⟨g0, gg0⟩ : ∃ x, w.heap.size = x := ⟨_, rfl⟩
  rw [gg0] at HO ⊢
  clear gg0
  have lw1 : W1.cell? ⟨g0, 1, none⟩ = some (.int .i64 o.s) := HO.out.cell (i := 1) rfl
  have lw2 : W1.cell? ⟨g0, 2, none⟩ = some (.int .i64 o.n) := HO.out.cell (i := 2) rfl
  go_wp2_with fail
  clear lw1 lw2
  refine (rmay_any o.s o.n _).mono ?_
  rintro e w3 ⟨rfl, hb3⟩
  have O_4 := Lib.hid (HO.out.bl hb3)
  have Bel_4 := Lib.hid (bel_bl HB.out hb3)
  clear hb3
  have lw5 : w3.cell? ⟨g0, 0, none⟩ = some (.int .i64 o.k) := O_4.out.cell (i := 0) rfl
  go_upto_region 2 with fail
  refine wp_region_lit ?_
  refine wl_read (v := ?_) (some 12) rfl (by rfl) ?_ ?_
  rotate_left
  · go_simp; (try with_reducible rfl)
  simp only [Act.put, stA_, st0_, st1_]
  refine wl_read (v := ?_) (some 13) rfl (by rfl) ?_ ?_
  rotate_left
  · go_simp; (try with_reducible rfl)
  simp only [Act.put, stA_, st0_, st1_]
  refine wl_read (v := ?_) (some 14) rfl (by rfl) ?_ ?_
  rotate_left
  · go_simp; (try with_reducible rfl)
  simp only [Act.put, stA_, st0_, st1_]
  refine wl_read (v := ?_) (some 15) rfl (by rfl) ?_ ?_
  rotate_left
  · go_simp; (try with_reducible rfl)
  simp only [Act.put, stA_, st0_, st1_]
  refine wl_read (v := ?_) (some 16) rfl (by rfl) ?_ ?_
  rotate_left
  · go_simp; (try with_reducible rfl)
  simp only [Act.put, stA_, st0_, st1_]
  refine wl_read (v := ?_) (some 17) rfl (by rfl) ?_ ?_
  rotate_left
  · go_simp; (try with_reducible rfl)
  simp only [Act.put, stA_, st0_, st1_]
  refine wl_read (v := ?_) (some 18) rfl (by rfl) ?_ ?_
  rotate_left
  · go_simp; (try with_reducible rfl)
  simp only [Act.put, stA_, st0_, st1_]
  refine wl_read (v := ?_) (some 19) rfl (by rfl) ?_ ?_
  rotate_left
  · go_simp; (try with_reducible rfl)
  simp only [Act.put, stA_, st0_, st1_]
  refine wl_read (v := ?_) (some 20) rfl (by rfl) ?_ ?_
  rotate_left
  · go_simp; (try with_reducible rfl)
  simp only [Act.put, stA_, st0_, st1_]
  refine wl_read (v := ?_) (some 21) rfl (by rfl) ?_ ?_
  rotate_left
  · go_simp; (try with_reducible rfl)
  simp only [Act.put, stA_, st0_, st1_]
  refine wl_read (v := ?_) (some 22) rfl (by rfl) ?_ ?_
  rotate_left
  · go_simp; (try with_reducible rfl)
  simp only [Act.put, stA_, st0_, st1_]
  refine wl_read (v := ?_) (some 23) rfl (by rfl) ?_ ?_
  rotate_left
  · go_simp; (try with_reducible rfl)
  simp only [Act.put, stA_, st0_, st1_]
  refine wl_read (v := ?_) (some 24) rfl (by rfl) ?_ ?_
  rotate_left
  · go_simp; (try with_reducible rfl)
  simp only [Act.put, stA_, st0_, st1_]
  refine wl_load (some 25) rfl (by rfl) 53 (.tmp 1) rfl g0 rfl 53 (opCells o) _ O_4.out Try.underlying53 rfl (by kernel_rfl) ?_
  simp only [Act.put, stA_, st0_, st1_]
  go_wp2_with fail
  clear lw5
  refine (rest_any o _).mono ?_
  rintro e w6 ⟨rfl, hb6⟩
  have O_7 := Lib.hid (O_4.out.bl hb6)
  have Bel_7 := Lib.hid (bel_bl Bel_4.out hb6)
  clear hb6
  have lw8 : w6.cell? ⟨g0, 0, none⟩ = some (.int .i64 o.k) := O_7.out.cell (i := 0) rfl
  have lw9 : w6.cell? ⟨g0, 7, none⟩ = some (.int .i64 o.a0) := O_7.out.cell (i := 7) rfl
  have lw10 : w6.cell? ⟨g0, 8, none⟩ = some (.int .i64 o.a1) := O_7.out.cell (i := 8) rfl
  have lw11 : w6.cell? ⟨g0, 9, none⟩ = some (.int .i64 o.a2) := O_7.out.cell (i := 9) rfl
  have lw12 : w6.cell? ⟨g0, 10, none⟩ = some (.int .i64 o.a3) := O_7.out.cell (i := 10) rfl
  have lw13 : w6.cell? ⟨g0, 11, none⟩ = some (.int .i64 o.a4) := O_7.out.cell (i := 11) rfl
  go_wp2_with fail
  clear lw8 lw9 lw10 lw11 lw12 lw13
  refine (rcorner_any o.a0 o.a1 o.a2 o.a3 o.a4 _).mono ?_
  rintro e w14 ⟨rfl, hb14⟩
  have O_15 := Lib.hid (O_7.out.bl hb14)
  have Bel_15 := Lib.hid (bel_bl Bel_7.out hb14)
  clear hb14
  have lw16 : w14.cell? ⟨g0, 0, none⟩ = some (.int .i64 o.k) := O_15.out.cell (i := 0) rfl
  have lw17 : w14.cell? ⟨g0, 12, none⟩ = some (.int .i64 o.b0) := O_15.out.cell (i := 12) rfl
  have lw18 : w14.cell? ⟨g0, 13, none⟩ = some (.int .i64 o.b1) := O_15.out.cell (i := 13) rfl
  have lw19 : w14.cell? ⟨g0, 14, none⟩ = some (.int .i64 o.b2) := O_15.out.cell (i := 14) rfl
  have lw20 : w14.cell? ⟨g0, 15, none⟩ = some (.int .i64 o.b3) := O_15.out.cell (i := 15) rfl
  have lw21 : w14.cell? ⟨g0, 16, none⟩ = some (.int .i64 o.b4) := O_15.out.cell (i := 16) rfl
  go_wp2_with fail
  clear lw16 lw17 lw18 lw19 lw20 lw21
  refine (rcorner_any o.b0 o.b1 o.b2 o.b3 o.b4 _).mono ?_
  rintro e w22 ⟨rfl, hb22⟩
  have O_23 := Lib.hid (O_15.out.bl hb22)
  have Bel_23 := Lib.hid (bel_bl Bel_15.out hb22)
  clear hb22
  have lw24 : w22.cell? ⟨g0, 0, none⟩ = some (.int .i64 o.k) := O_23.out.cell (i := 0) rfl
  go_wp2
  go_ret
  exact ⟨rfl, Bel_23.out⟩
set_option maxRecDepth 100000 in
set_option maxHeartbeats 2000000 in
theorem rm_3m (o : OpT) (h0 : decide (o.k < 1) = false) (h9 : decide (8 < o.k) = false) (h1 : mayI o.s o.n = true) (h2 : restO o = zeroO) (hk : o.k = 3) (h3 : mayC o.a0 o.a1 o.a2 o.a3 o.a4 = true) (h4 : mayC o.b0 o.b1 o.b2 o.b3 o.b4 = false) (w : World) : Calls Try.prog 67 #[.agg (opCells o).toArray] w fun e w' => e = .returned (.int .i64 1) ∧ Below w.heap.size w w' := by
  have he : Try.prog.eqGuardType Try.prog.depth 53 = false := by kernel_rfl
  have hq := neq_op_run (restO o) zeroO
  rw [opCells_zero, decide_eq_true h2] at hq
  clear h2
  have q3 : (o.k == 3) = true := by rw [hk]; decide
  have q5 : (o.k == 5) = false := by rw [hk]; decide
  have q6 : (o.k == 6) = false := by rw [hk]; decide
  have q7 : (o.k == 7) = false := by rw [hk]; decide
  have q8 : (o.k == 8) = false := by rw [hk]; decide
  clear hk
  go_enter Try.func67, Try.ntmps67
  go_upto_region 1 with fail
  obtain ⟨W1, gW1⟩ : ∃ x, w.alloc (.cells (opCells o).toArray 53) = x := ⟨_, rfl⟩
  have HO : RowKit.Hid (Whole W1 w.heap.size 53 (opCells o)) := Lib.hid (by rw [← gW1]; exact Whole.new_ w _ _)
  have HB : RowKit.Hid (Below w.heap.size w W1) := Lib.hid (by rw [← gW1]; exact below1 _ _)
  rw [gW1]
  clear gW1
  obtain ⟨g0, gg0⟩ : ∃ x, w.heap.size = x := ⟨_, rfl⟩
  rw [gg0] at HO ⊢
  clear gg0
  have lw1 : W1.cell? ⟨g0, 1, none⟩ = some (.int .i64 o.s) := HO.out.cell (i := 1) rfl
  have lw2 : W1.cell? ⟨g0, 2, none⟩ = some (.int .i64 o.n) := HO.out.cell (i := 2) rfl
  go_wp2_with fail
  clear lw1 lw2
  refine (rmay_any o.s o.n _).mono ?_
  rintro e w3 ⟨rfl, hb3⟩
  have O_4 := Lib.hid (HO.out.bl hb3)
  have Bel_4 := Lib.hid (bel_bl HB.out hb3)
  clear hb3
  have lw5 : w3.cell? ⟨g0, 0, none⟩ = some (.int .i64 o.k) := O_4.out.cell (i := 0) rfl
  go_upto_region 2 with fail
  refine wp_region_lit ?_
  refine wl_read (v := ?_) (some 12) rfl (by rfl) ?_ ?_
  rotate_left
  · go_simp; (try with_reducible rfl)
  simp only [Act.put, stA_, st0_, st1_]
  refine wl_read (v := ?_) (some 13) rfl (by rfl) ?_ ?_
  rotate_left
  · go_simp; (try with_reducible rfl)
  simp only [Act.put, stA_, st0_, st1_]
  refine wl_read (v := ?_) (some 14) rfl (by rfl) ?_ ?_
  rotate_left
  · go_simp; (try with_reducible rfl)
  simp only [Act.put, stA_, st0_, st1_]
  refine wl_read (v := ?_) (some 15) rfl (by rfl) ?_ ?_
  rotate_left
  · go_simp; (try with_reducible rfl)
  simp only [Act.put, stA_, st0_, st1_]
  refine wl_read (v := ?_) (some 16) rfl (by rfl) ?_ ?_
  rotate_left
  · go_simp; (try with_reducible rfl)
  simp only [Act.put, stA_, st0_, st1_]
  refine wl_read (v := ?_) (some 17) rfl (by rfl) ?_ ?_
  rotate_left
  · go_simp; (try with_reducible rfl)
  simp only [Act.put, stA_, st0_, st1_]
  refine wl_read (v := ?_) (some 18) rfl (by rfl) ?_ ?_
  rotate_left
  · go_simp; (try with_reducible rfl)
  simp only [Act.put, stA_, st0_, st1_]
  refine wl_read (v := ?_) (some 19) rfl (by rfl) ?_ ?_
  rotate_left
  · go_simp; (try with_reducible rfl)
  simp only [Act.put, stA_, st0_, st1_]
  refine wl_read (v := ?_) (some 20) rfl (by rfl) ?_ ?_
  rotate_left
  · go_simp; (try with_reducible rfl)
  simp only [Act.put, stA_, st0_, st1_]
  refine wl_read (v := ?_) (some 21) rfl (by rfl) ?_ ?_
  rotate_left
  · go_simp; (try with_reducible rfl)
  simp only [Act.put, stA_, st0_, st1_]
  refine wl_read (v := ?_) (some 22) rfl (by rfl) ?_ ?_
  rotate_left
  · go_simp; (try with_reducible rfl)
  simp only [Act.put, stA_, st0_, st1_]
  refine wl_read (v := ?_) (some 23) rfl (by rfl) ?_ ?_
  rotate_left
  · go_simp; (try with_reducible rfl)
  simp only [Act.put, stA_, st0_, st1_]
  refine wl_read (v := ?_) (some 24) rfl (by rfl) ?_ ?_
  rotate_left
  · go_simp; (try with_reducible rfl)
  simp only [Act.put, stA_, st0_, st1_]
  refine wl_load (some 25) rfl (by rfl) 53 (.tmp 1) rfl g0 rfl 53 (opCells o) _ O_4.out Try.underlying53 rfl (by kernel_rfl) ?_
  simp only [Act.put, stA_, st0_, st1_]
  go_wp2_with fail
  clear lw5
  refine (rest_any o _).mono ?_
  rintro e w6 ⟨rfl, hb6⟩
  have O_7 := Lib.hid (O_4.out.bl hb6)
  have Bel_7 := Lib.hid (bel_bl Bel_4.out hb6)
  clear hb6
  have lw8 : w6.cell? ⟨g0, 0, none⟩ = some (.int .i64 o.k) := O_7.out.cell (i := 0) rfl
  have lw9 : w6.cell? ⟨g0, 7, none⟩ = some (.int .i64 o.a0) := O_7.out.cell (i := 7) rfl
  have lw10 : w6.cell? ⟨g0, 8, none⟩ = some (.int .i64 o.a1) := O_7.out.cell (i := 8) rfl
  have lw11 : w6.cell? ⟨g0, 9, none⟩ = some (.int .i64 o.a2) := O_7.out.cell (i := 9) rfl
  have lw12 : w6.cell? ⟨g0, 10, none⟩ = some (.int .i64 o.a3) := O_7.out.cell (i := 10) rfl
  have lw13 : w6.cell? ⟨g0, 11, none⟩ = some (.int .i64 o.a4) := O_7.out.cell (i := 11) rfl
  go_wp2_with fail
  clear lw8 lw9 lw10 lw11 lw12 lw13
  refine (rcorner_any o.a0 o.a1 o.a2 o.a3 o.a4 _).mono ?_
  rintro e w14 ⟨rfl, hb14⟩
  have O_15 := Lib.hid (O_7.out.bl hb14)
  have Bel_15 := Lib.hid (bel_bl Bel_7.out hb14)
  clear hb14
  have lw16 : w14.cell? ⟨g0, 0, none⟩ = some (.int .i64 o.k) := O_15.out.cell (i := 0) rfl
  have lw17 : w14.cell? ⟨g0, 12, none⟩ = some (.int .i64 o.b0) := O_15.out.cell (i := 12) rfl
  have lw18 : w14.cell? ⟨g0, 13, none⟩ = some (.int .i64 o.b1) := O_15.out.cell (i := 13) rfl
  have lw19 : w14.cell? ⟨g0, 14, none⟩ = some (.int .i64 o.b2) := O_15.out.cell (i := 14) rfl
  have lw20 : w14.cell? ⟨g0, 15, none⟩ = some (.int .i64 o.b3) := O_15.out.cell (i := 15) rfl
  have lw21 : w14.cell? ⟨g0, 16, none⟩ = some (.int .i64 o.b4) := O_15.out.cell (i := 16) rfl
  go_wp2_with fail
  clear lw16 lw17 lw18 lw19 lw20 lw21
  refine (rcorner_any o.b0 o.b1 o.b2 o.b3 o.b4 _).mono ?_
  rintro e w22 ⟨rfl, hb22⟩
  have O_23 := Lib.hid (O_15.out.bl hb22)
  have Bel_23 := Lib.hid (bel_bl Bel_15.out hb22)
  clear hb22
  have lw24 : w22.cell? ⟨g0, 0, none⟩ = some (.int .i64 o.k) := O_23.out.cell (i := 0) rfl
  go_wp2
  go_ret
  exact ⟨rfl, Bel_23.out⟩
set_option maxRecDepth 100000 in
set_option maxHeartbeats 2000000 in
theorem rm_3y (o : OpT) (h0 : decide (o.k < 1) = false) (h9 : decide (8 < o.k) = false) (h1 : mayI o.s o.n = true) (h2 : restO o = zeroO) (hk : o.k = 3) (h3 : mayC o.a0 o.a1 o.a2 o.a3 o.a4 = true) (h4 : mayC o.b0 o.b1 o.b2 o.b3 o.b4 = true) (w : World) : Calls Try.prog 67 #[.agg (opCells o).toArray] w fun e w' => e = .returned (.int .i64 0) ∧ Below w.heap.size w w' := by
  have he : Try.prog.eqGuardType Try.prog.depth 53 = false := by kernel_rfl
  have hq := neq_op_run (restO o) zeroO
  rw [opCells_zero, decide_eq_true h2] at hq
  clear h2
  have q3 : (o.k == 3) = true := by rw [hk]; decide
  have q5 : (o.k == 5) = false := by rw [hk]; decide
  have q6 : (o.k == 6) = false := by rw [hk]; decide
  have q7 : (o.k == 7) = false := by rw [hk]; decide
  have q8 : (o.k == 8) = false := by rw [hk]; decide
  clear hk
  go_enter Try.func67, Try.ntmps67
  go_upto_region 1 with fail
  obtain ⟨W1, gW1⟩ : ∃ x, w.alloc (.cells (opCells o).toArray 53) = x := ⟨_, rfl⟩
  have HO : RowKit.Hid (Whole W1 w.heap.size 53 (opCells o)) := Lib.hid (by rw [← gW1]; exact Whole.new_ w _ _)
  have HB : RowKit.Hid (Below w.heap.size w W1) := Lib.hid (by rw [← gW1]; exact below1 _ _)
  rw [gW1]
  clear gW1
  obtain ⟨g0, gg0⟩ : ∃ x, w.heap.size = x := ⟨_, rfl⟩
  rw [gg0] at HO ⊢
  clear gg0
  have lw1 : W1.cell? ⟨g0, 1, none⟩ = some (.int .i64 o.s) := HO.out.cell (i := 1) rfl
  have lw2 : W1.cell? ⟨g0, 2, none⟩ = some (.int .i64 o.n) := HO.out.cell (i := 2) rfl
  go_wp2_with fail
  clear lw1 lw2
  refine (rmay_any o.s o.n _).mono ?_
  rintro e w3 ⟨rfl, hb3⟩
  have O_4 := Lib.hid (HO.out.bl hb3)
  have Bel_4 := Lib.hid (bel_bl HB.out hb3)
  clear hb3
  have lw5 : w3.cell? ⟨g0, 0, none⟩ = some (.int .i64 o.k) := O_4.out.cell (i := 0) rfl
  go_upto_region 2 with fail
  refine wp_region_lit ?_
  refine wl_read (v := ?_) (some 12) rfl (by rfl) ?_ ?_
  rotate_left
  · go_simp; (try with_reducible rfl)
  simp only [Act.put, stA_, st0_, st1_]
  refine wl_read (v := ?_) (some 13) rfl (by rfl) ?_ ?_
  rotate_left
  · go_simp; (try with_reducible rfl)
  simp only [Act.put, stA_, st0_, st1_]
  refine wl_read (v := ?_) (some 14) rfl (by rfl) ?_ ?_
  rotate_left
  · go_simp; (try with_reducible rfl)
  simp only [Act.put, stA_, st0_, st1_]
  refine wl_read (v := ?_) (some 15) rfl (by rfl) ?_ ?_
  rotate_left
  · go_simp; (try with_reducible rfl)
  simp only [Act.put, stA_, st0_, st1_]
  refine wl_read (v := ?_) (some 16) rfl (by rfl) ?_ ?_
  rotate_left
  · go_simp; (try with_reducible rfl)
  simp only [Act.put, stA_, st0_, st1_]
  refine wl_read (v := ?_) (some 17) rfl (by rfl) ?_ ?_
  rotate_left
  · go_simp; (try with_reducible rfl)
  simp only [Act.put, stA_, st0_, st1_]
  refine wl_read (v := ?_) (some 18) rfl (by rfl) ?_ ?_
  rotate_left
  · go_simp; (try with_reducible rfl)
  simp only [Act.put, stA_, st0_, st1_]
  refine wl_read (v := ?_) (some 19) rfl (by rfl) ?_ ?_
  rotate_left
  · go_simp; (try with_reducible rfl)
  simp only [Act.put, stA_, st0_, st1_]
  refine wl_read (v := ?_) (some 20) rfl (by rfl) ?_ ?_
  rotate_left
  · go_simp; (try with_reducible rfl)
  simp only [Act.put, stA_, st0_, st1_]
  refine wl_read (v := ?_) (some 21) rfl (by rfl) ?_ ?_
  rotate_left
  · go_simp; (try with_reducible rfl)
  simp only [Act.put, stA_, st0_, st1_]
  refine wl_read (v := ?_) (some 22) rfl (by rfl) ?_ ?_
  rotate_left
  · go_simp; (try with_reducible rfl)
  simp only [Act.put, stA_, st0_, st1_]
  refine wl_read (v := ?_) (some 23) rfl (by rfl) ?_ ?_
  rotate_left
  · go_simp; (try with_reducible rfl)
  simp only [Act.put, stA_, st0_, st1_]
  refine wl_read (v := ?_) (some 24) rfl (by rfl) ?_ ?_
  rotate_left
  · go_simp; (try with_reducible rfl)
  simp only [Act.put, stA_, st0_, st1_]
  refine wl_load (some 25) rfl (by rfl) 53 (.tmp 1) rfl g0 rfl 53 (opCells o) _ O_4.out Try.underlying53 rfl (by kernel_rfl) ?_
  simp only [Act.put, stA_, st0_, st1_]
  go_wp2_with fail
  clear lw5
  refine (rest_any o _).mono ?_
  rintro e w6 ⟨rfl, hb6⟩
  have O_7 := Lib.hid (O_4.out.bl hb6)
  have Bel_7 := Lib.hid (bel_bl Bel_4.out hb6)
  clear hb6
  have lw8 : w6.cell? ⟨g0, 0, none⟩ = some (.int .i64 o.k) := O_7.out.cell (i := 0) rfl
  have lw9 : w6.cell? ⟨g0, 7, none⟩ = some (.int .i64 o.a0) := O_7.out.cell (i := 7) rfl
  have lw10 : w6.cell? ⟨g0, 8, none⟩ = some (.int .i64 o.a1) := O_7.out.cell (i := 8) rfl
  have lw11 : w6.cell? ⟨g0, 9, none⟩ = some (.int .i64 o.a2) := O_7.out.cell (i := 9) rfl
  have lw12 : w6.cell? ⟨g0, 10, none⟩ = some (.int .i64 o.a3) := O_7.out.cell (i := 10) rfl
  have lw13 : w6.cell? ⟨g0, 11, none⟩ = some (.int .i64 o.a4) := O_7.out.cell (i := 11) rfl
  go_wp2_with fail
  clear lw8 lw9 lw10 lw11 lw12 lw13
  refine (rcorner_any o.a0 o.a1 o.a2 o.a3 o.a4 _).mono ?_
  rintro e w14 ⟨rfl, hb14⟩
  have O_15 := Lib.hid (O_7.out.bl hb14)
  have Bel_15 := Lib.hid (bel_bl Bel_7.out hb14)
  clear hb14
  have lw16 : w14.cell? ⟨g0, 0, none⟩ = some (.int .i64 o.k) := O_15.out.cell (i := 0) rfl
  have lw17 : w14.cell? ⟨g0, 12, none⟩ = some (.int .i64 o.b0) := O_15.out.cell (i := 12) rfl
  have lw18 : w14.cell? ⟨g0, 13, none⟩ = some (.int .i64 o.b1) := O_15.out.cell (i := 13) rfl
  have lw19 : w14.cell? ⟨g0, 14, none⟩ = some (.int .i64 o.b2) := O_15.out.cell (i := 14) rfl
  have lw20 : w14.cell? ⟨g0, 15, none⟩ = some (.int .i64 o.b3) := O_15.out.cell (i := 15) rfl
  have lw21 : w14.cell? ⟨g0, 16, none⟩ = some (.int .i64 o.b4) := O_15.out.cell (i := 16) rfl
  go_wp2_with fail
  clear lw16 lw17 lw18 lw19 lw20 lw21
  refine (rcorner_any o.b0 o.b1 o.b2 o.b3 o.b4 _).mono ?_
  rintro e w22 ⟨rfl, hb22⟩
  have O_23 := Lib.hid (O_15.out.bl hb22)
  have Bel_23 := Lib.hid (bel_bl Bel_15.out hb22)
  clear hb22
  have lw24 : w22.cell? ⟨g0, 0, none⟩ = some (.int .i64 o.k) := O_23.out.cell (i := 0) rfl
  go_wp2
  go_ret
  exact ⟨rfl, Bel_23.out⟩
set_option maxRecDepth 100000 in
set_option maxHeartbeats 2000000 in
theorem rm_5a (o : OpT) (h0 : decide (o.k < 1) = false) (h9 : decide (8 < o.k) = false) (h1 : mayI o.s o.n = true) (h2 : restO o = zeroO) (hk : o.k = 5) (h3 : mayI o.s1 o.n1 = false) (w : World) : Calls Try.prog 67 #[.agg (opCells o).toArray] w fun e w' => e = .returned (.int .i64 1) ∧ Below w.heap.size w w' := by
  have he : Try.prog.eqGuardType Try.prog.depth 53 = false := by kernel_rfl
  have hq := neq_op_run (restO o) zeroO
  rw [opCells_zero, decide_eq_true h2] at hq
  clear h2
  have q3 : (o.k == 3) = false := by rw [hk]; decide
  have q5 : (o.k == 5) = true := by rw [hk]; decide
  have q6 : (o.k == 6) = false := by rw [hk]; decide
  have q7 : (o.k == 7) = false := by rw [hk]; decide
  have q8 : (o.k == 8) = false := by rw [hk]; decide
  clear hk
  go_enter Try.func67, Try.ntmps67
  go_upto_region 1 with fail
  obtain ⟨W1, gW1⟩ : ∃ x, w.alloc (.cells (opCells o).toArray 53) = x := ⟨_, rfl⟩
  have HO : RowKit.Hid (Whole W1 w.heap.size 53 (opCells o)) := Lib.hid (by rw [← gW1]; exact Whole.new_ w _ _)
  have HB : RowKit.Hid (Below w.heap.size w W1) := Lib.hid (by rw [← gW1]; exact below1 _ _)
  rw [gW1]
  clear gW1
  obtain ⟨g0, gg0⟩ : ∃ x, w.heap.size = x := ⟨_, rfl⟩
  rw [gg0] at HO ⊢
  clear gg0
  have lw1 : W1.cell? ⟨g0, 1, none⟩ = some (.int .i64 o.s) := HO.out.cell (i := 1) rfl
  have lw2 : W1.cell? ⟨g0, 2, none⟩ = some (.int .i64 o.n) := HO.out.cell (i := 2) rfl
  go_wp2_with fail
  clear lw1 lw2
  refine (rmay_any o.s o.n _).mono ?_
  rintro e w3 ⟨rfl, hb3⟩
  have O_4 := Lib.hid (HO.out.bl hb3)
  have Bel_4 := Lib.hid (bel_bl HB.out hb3)
  clear hb3
  have lw5 : w3.cell? ⟨g0, 0, none⟩ = some (.int .i64 o.k) := O_4.out.cell (i := 0) rfl
  go_upto_region 2 with fail
  refine wp_region_lit ?_
  refine wl_read (v := ?_) (some 12) rfl (by rfl) ?_ ?_
  rotate_left
  · go_simp; (try with_reducible rfl)
  simp only [Act.put, stA_, st0_, st1_]
  refine wl_read (v := ?_) (some 13) rfl (by rfl) ?_ ?_
  rotate_left
  · go_simp; (try with_reducible rfl)
  simp only [Act.put, stA_, st0_, st1_]
  refine wl_read (v := ?_) (some 14) rfl (by rfl) ?_ ?_
  rotate_left
  · go_simp; (try with_reducible rfl)
  simp only [Act.put, stA_, st0_, st1_]
  refine wl_read (v := ?_) (some 15) rfl (by rfl) ?_ ?_
  rotate_left
  · go_simp; (try with_reducible rfl)
  simp only [Act.put, stA_, st0_, st1_]
  refine wl_read (v := ?_) (some 16) rfl (by rfl) ?_ ?_
  rotate_left
  · go_simp; (try with_reducible rfl)
  simp only [Act.put, stA_, st0_, st1_]
  refine wl_read (v := ?_) (some 17) rfl (by rfl) ?_ ?_
  rotate_left
  · go_simp; (try with_reducible rfl)
  simp only [Act.put, stA_, st0_, st1_]
  refine wl_read (v := ?_) (some 18) rfl (by rfl) ?_ ?_
  rotate_left
  · go_simp; (try with_reducible rfl)
  simp only [Act.put, stA_, st0_, st1_]
  refine wl_read (v := ?_) (some 19) rfl (by rfl) ?_ ?_
  rotate_left
  · go_simp; (try with_reducible rfl)
  simp only [Act.put, stA_, st0_, st1_]
  refine wl_read (v := ?_) (some 20) rfl (by rfl) ?_ ?_
  rotate_left
  · go_simp; (try with_reducible rfl)
  simp only [Act.put, stA_, st0_, st1_]
  refine wl_read (v := ?_) (some 21) rfl (by rfl) ?_ ?_
  rotate_left
  · go_simp; (try with_reducible rfl)
  simp only [Act.put, stA_, st0_, st1_]
  refine wl_read (v := ?_) (some 22) rfl (by rfl) ?_ ?_
  rotate_left
  · go_simp; (try with_reducible rfl)
  simp only [Act.put, stA_, st0_, st1_]
  refine wl_read (v := ?_) (some 23) rfl (by rfl) ?_ ?_
  rotate_left
  · go_simp; (try with_reducible rfl)
  simp only [Act.put, stA_, st0_, st1_]
  refine wl_read (v := ?_) (some 24) rfl (by rfl) ?_ ?_
  rotate_left
  · go_simp; (try with_reducible rfl)
  simp only [Act.put, stA_, st0_, st1_]
  refine wl_load (some 25) rfl (by rfl) 53 (.tmp 1) rfl g0 rfl 53 (opCells o) _ O_4.out Try.underlying53 rfl (by kernel_rfl) ?_
  simp only [Act.put, stA_, st0_, st1_]
  go_wp2_with fail
  clear lw5
  refine (rest_any o _).mono ?_
  rintro e w6 ⟨rfl, hb6⟩
  have O_7 := Lib.hid (O_4.out.bl hb6)
  have Bel_7 := Lib.hid (bel_bl Bel_4.out hb6)
  clear hb6
  have lw8 : w6.cell? ⟨g0, 0, none⟩ = some (.int .i64 o.k) := O_7.out.cell (i := 0) rfl
  have lw9 : w6.cell? ⟨g0, 3, none⟩ = some (.int .i64 o.s1) := O_7.out.cell (i := 3) rfl
  have lw10 : w6.cell? ⟨g0, 4, none⟩ = some (.int .i64 o.n1) := O_7.out.cell (i := 4) rfl
  go_wp2_with fail
  clear lw8 lw9 lw10
  refine (rmay_any o.s1 o.n1 _).mono ?_
  rintro e w11 ⟨rfl, hb11⟩
  have O_12 := Lib.hid (O_7.out.bl hb11)
  have Bel_12 := Lib.hid (bel_bl Bel_7.out hb11)
  clear hb11
  have lw13 : w11.cell? ⟨g0, 0, none⟩ = some (.int .i64 o.k) := O_12.out.cell (i := 0) rfl
  have lw14 : w11.cell? ⟨g0, 5, none⟩ = some (.int .i64 o.s2) := O_12.out.cell (i := 5) rfl
  have lw15 : w11.cell? ⟨g0, 6, none⟩ = some (.int .i64 o.n2) := O_12.out.cell (i := 6) rfl
  go_wp2_with fail
  clear lw13 lw14 lw15
  refine (rmay_any o.s2 o.n2 _).mono ?_
  rintro e w16 ⟨rfl, hb16⟩
  have O_17 := Lib.hid (O_12.out.bl hb16)
  have Bel_17 := Lib.hid (bel_bl Bel_12.out hb16)
  clear hb16
  have lw18 : w16.cell? ⟨g0, 0, none⟩ = some (.int .i64 o.k) := O_17.out.cell (i := 0) rfl
  have lw19 : w16.cell? ⟨g0, 19, none⟩ = some (.int .i64 o.m) := O_17.out.cell (i := 19) rfl
  go_wp2
  go_ret
  exact ⟨rfl, Bel_17.out⟩
set_option maxRecDepth 100000 in
set_option maxHeartbeats 2000000 in
theorem rm_5b (o : OpT) (h0 : decide (o.k < 1) = false) (h9 : decide (8 < o.k) = false) (h1 : mayI o.s o.n = true) (h2 : restO o = zeroO) (hk : o.k = 5) (h3 : mayI o.s1 o.n1 = true) (h4 : mayI o.s2 o.n2 = false) (w : World) : Calls Try.prog 67 #[.agg (opCells o).toArray] w fun e w' => e = .returned (.int .i64 1) ∧ Below w.heap.size w w' := by
  have he : Try.prog.eqGuardType Try.prog.depth 53 = false := by kernel_rfl
  have hq := neq_op_run (restO o) zeroO
  rw [opCells_zero, decide_eq_true h2] at hq
  clear h2
  have q3 : (o.k == 3) = false := by rw [hk]; decide
  have q5 : (o.k == 5) = true := by rw [hk]; decide
  have q6 : (o.k == 6) = false := by rw [hk]; decide
  have q7 : (o.k == 7) = false := by rw [hk]; decide
  have q8 : (o.k == 8) = false := by rw [hk]; decide
  clear hk
  go_enter Try.func67, Try.ntmps67
  go_upto_region 1 with fail
  obtain ⟨W1, gW1⟩ : ∃ x, w.alloc (.cells (opCells o).toArray 53) = x := ⟨_, rfl⟩
  have HO : RowKit.Hid (Whole W1 w.heap.size 53 (opCells o)) := Lib.hid (by rw [← gW1]; exact Whole.new_ w _ _)
  have HB : RowKit.Hid (Below w.heap.size w W1) := Lib.hid (by rw [← gW1]; exact below1 _ _)
  rw [gW1]
  clear gW1
  obtain ⟨g0, gg0⟩ : ∃ x, w.heap.size = x := ⟨_, rfl⟩
  rw [gg0] at HO ⊢
  clear gg0
  have lw1 : W1.cell? ⟨g0, 1, none⟩ = some (.int .i64 o.s) := HO.out.cell (i := 1) rfl
  have lw2 : W1.cell? ⟨g0, 2, none⟩ = some (.int .i64 o.n) := HO.out.cell (i := 2) rfl
  go_wp2_with fail
  clear lw1 lw2
  refine (rmay_any o.s o.n _).mono ?_
  rintro e w3 ⟨rfl, hb3⟩
  have O_4 := Lib.hid (HO.out.bl hb3)
  have Bel_4 := Lib.hid (bel_bl HB.out hb3)
  clear hb3
  have lw5 : w3.cell? ⟨g0, 0, none⟩ = some (.int .i64 o.k) := O_4.out.cell (i := 0) rfl
  go_upto_region 2 with fail
  refine wp_region_lit ?_
  refine wl_read (v := ?_) (some 12) rfl (by rfl) ?_ ?_
  rotate_left
  · go_simp; (try with_reducible rfl)
  simp only [Act.put, stA_, st0_, st1_]
  refine wl_read (v := ?_) (some 13) rfl (by rfl) ?_ ?_
  rotate_left
  · go_simp; (try with_reducible rfl)
  simp only [Act.put, stA_, st0_, st1_]
  refine wl_read (v := ?_) (some 14) rfl (by rfl) ?_ ?_
  rotate_left
  · go_simp; (try with_reducible rfl)
  simp only [Act.put, stA_, st0_, st1_]
  refine wl_read (v := ?_) (some 15) rfl (by rfl) ?_ ?_
  rotate_left
  · go_simp; (try with_reducible rfl)
  simp only [Act.put, stA_, st0_, st1_]
  refine wl_read (v := ?_) (some 16) rfl (by rfl) ?_ ?_
  rotate_left
  · go_simp; (try with_reducible rfl)
  simp only [Act.put, stA_, st0_, st1_]
  refine wl_read (v := ?_) (some 17) rfl (by rfl) ?_ ?_
  rotate_left
  · go_simp; (try with_reducible rfl)
  simp only [Act.put, stA_, st0_, st1_]
  refine wl_read (v := ?_) (some 18) rfl (by rfl) ?_ ?_
  rotate_left
  · go_simp; (try with_reducible rfl)
  simp only [Act.put, stA_, st0_, st1_]
  refine wl_read (v := ?_) (some 19) rfl (by rfl) ?_ ?_
  rotate_left
  · go_simp; (try with_reducible rfl)
  simp only [Act.put, stA_, st0_, st1_]
  refine wl_read (v := ?_) (some 20) rfl (by rfl) ?_ ?_
  rotate_left
  · go_simp; (try with_reducible rfl)
  simp only [Act.put, stA_, st0_, st1_]
  refine wl_read (v := ?_) (some 21) rfl (by rfl) ?_ ?_
  rotate_left
  · go_simp; (try with_reducible rfl)
  simp only [Act.put, stA_, st0_, st1_]
  refine wl_read (v := ?_) (some 22) rfl (by rfl) ?_ ?_
  rotate_left
  · go_simp; (try with_reducible rfl)
  simp only [Act.put, stA_, st0_, st1_]
  refine wl_read (v := ?_) (some 23) rfl (by rfl) ?_ ?_
  rotate_left
  · go_simp; (try with_reducible rfl)
  simp only [Act.put, stA_, st0_, st1_]
  refine wl_read (v := ?_) (some 24) rfl (by rfl) ?_ ?_
  rotate_left
  · go_simp; (try with_reducible rfl)
  simp only [Act.put, stA_, st0_, st1_]
  refine wl_load (some 25) rfl (by rfl) 53 (.tmp 1) rfl g0 rfl 53 (opCells o) _ O_4.out Try.underlying53 rfl (by kernel_rfl) ?_
  simp only [Act.put, stA_, st0_, st1_]
  go_wp2_with fail
  clear lw5
  refine (rest_any o _).mono ?_
  rintro e w6 ⟨rfl, hb6⟩
  have O_7 := Lib.hid (O_4.out.bl hb6)
  have Bel_7 := Lib.hid (bel_bl Bel_4.out hb6)
  clear hb6
  have lw8 : w6.cell? ⟨g0, 0, none⟩ = some (.int .i64 o.k) := O_7.out.cell (i := 0) rfl
  have lw9 : w6.cell? ⟨g0, 3, none⟩ = some (.int .i64 o.s1) := O_7.out.cell (i := 3) rfl
  have lw10 : w6.cell? ⟨g0, 4, none⟩ = some (.int .i64 o.n1) := O_7.out.cell (i := 4) rfl
  go_wp2_with fail
  clear lw8 lw9 lw10
  refine (rmay_any o.s1 o.n1 _).mono ?_
  rintro e w11 ⟨rfl, hb11⟩
  have O_12 := Lib.hid (O_7.out.bl hb11)
  have Bel_12 := Lib.hid (bel_bl Bel_7.out hb11)
  clear hb11
  have lw13 : w11.cell? ⟨g0, 0, none⟩ = some (.int .i64 o.k) := O_12.out.cell (i := 0) rfl
  have lw14 : w11.cell? ⟨g0, 5, none⟩ = some (.int .i64 o.s2) := O_12.out.cell (i := 5) rfl
  have lw15 : w11.cell? ⟨g0, 6, none⟩ = some (.int .i64 o.n2) := O_12.out.cell (i := 6) rfl
  go_wp2_with fail
  clear lw13 lw14 lw15
  refine (rmay_any o.s2 o.n2 _).mono ?_
  rintro e w16 ⟨rfl, hb16⟩
  have O_17 := Lib.hid (O_12.out.bl hb16)
  have Bel_17 := Lib.hid (bel_bl Bel_12.out hb16)
  clear hb16
  have lw18 : w16.cell? ⟨g0, 0, none⟩ = some (.int .i64 o.k) := O_17.out.cell (i := 0) rfl
  have lw19 : w16.cell? ⟨g0, 19, none⟩ = some (.int .i64 o.m) := O_17.out.cell (i := 19) rfl
  go_wp2
  go_ret
  exact ⟨rfl, Bel_17.out⟩
set_option maxRecDepth 100000 in
set_option maxHeartbeats 2000000 in
theorem rm_5c (o : OpT) (h0 : decide (o.k < 1) = false) (h9 : decide (8 < o.k) = false) (h1 : mayI o.s o.n = true) (h2 : restO o = zeroO) (hk : o.k = 5) (h3 : mayI o.s1 o.n1 = true) (h4 : mayI o.s2 o.n2 = true) (h5 : decide (o.m < 0) = true) (w : World) : Calls Try.prog 67 #[.agg (opCells o).toArray] w fun e w' => e = .returned (.int .i64 1) ∧ Below w.heap.size w w' := by
  have he : Try.prog.eqGuardType Try.prog.depth 53 = false := by kernel_rfl
  have hq := neq_op_run (restO o) zeroO
  rw [opCells_zero, decide_eq_true h2] at hq
  clear h2
  have q3 : (o.k == 3) = false := by rw [hk]; decide
  have q5 : (o.k == 5) = true := by rw [hk]; decide
  have q6 : (o.k == 6) = false := by rw [hk]; decide
  have q7 : (o.k == 7) = false := by rw [hk]; decide
  have q8 : (o.k == 8) = false := by rw [hk]; decide
  clear hk
  go_enter Try.func67, Try.ntmps67
  go_upto_region 1 with fail
  obtain ⟨W1, gW1⟩ : ∃ x, w.alloc (.cells (opCells o).toArray 53) = x := ⟨_, rfl⟩
  have HO : RowKit.Hid (Whole W1 w.heap.size 53 (opCells o)) := Lib.hid (by rw [← gW1]; exact Whole.new_ w _ _)
  have HB : RowKit.Hid (Below w.heap.size w W1) := Lib.hid (by rw [← gW1]; exact below1 _ _)
  rw [gW1]
  clear gW1
  obtain ⟨g0, gg0⟩ : ∃ x, w.heap.size = x := ⟨_, rfl⟩
  rw [gg0] at HO ⊢
  clear gg0
  have lw1 : W1.cell? ⟨g0, 1, none⟩ = some (.int .i64 o.s) := HO.out.cell (i := 1) rfl
  have lw2 : W1.cell? ⟨g0, 2, none⟩ = some (.int .i64 o.n) := HO.out.cell (i := 2) rfl
  go_wp2_with fail
  clear lw1 lw2
  refine (rmay_any o.s o.n _).mono ?_
  rintro e w3 ⟨rfl, hb3⟩
  have O_4 := Lib.hid (HO.out.bl hb3)
  have Bel_4 := Lib.hid (bel_bl HB.out hb3)
  clear hb3
  have lw5 : w3.cell? ⟨g0, 0, none⟩ = some (.int .i64 o.k) := O_4.out.cell (i := 0) rfl
  go_upto_region 2 with fail
  refine wp_region_lit ?_
  refine wl_read (v := ?_) (some 12) rfl (by rfl) ?_ ?_
  rotate_left
  · go_simp; (try with_reducible rfl)
  simp only [Act.put, stA_, st0_, st1_]
  refine wl_read (v := ?_) (some 13) rfl (by rfl) ?_ ?_
  rotate_left
  · go_simp; (try with_reducible rfl)
  simp only [Act.put, stA_, st0_, st1_]
  refine wl_read (v := ?_) (some 14) rfl (by rfl) ?_ ?_
  rotate_left
  · go_simp; (try with_reducible rfl)
  simp only [Act.put, stA_, st0_, st1_]
  refine wl_read (v := ?_) (some 15) rfl (by rfl) ?_ ?_
  rotate_left
  · go_simp; (try with_reducible rfl)
  simp only [Act.put, stA_, st0_, st1_]
  refine wl_read (v := ?_) (some 16) rfl (by rfl) ?_ ?_
  rotate_left
  · go_simp; (try with_reducible rfl)
  simp only [Act.put, stA_, st0_, st1_]
  refine wl_read (v := ?_) (some 17) rfl (by rfl) ?_ ?_
  rotate_left
  · go_simp; (try with_reducible rfl)
  simp only [Act.put, stA_, st0_, st1_]
  refine wl_read (v := ?_) (some 18) rfl (by rfl) ?_ ?_
  rotate_left
  · go_simp; (try with_reducible rfl)
  simp only [Act.put, stA_, st0_, st1_]
  refine wl_read (v := ?_) (some 19) rfl (by rfl) ?_ ?_
  rotate_left
  · go_simp; (try with_reducible rfl)
  simp only [Act.put, stA_, st0_, st1_]
  refine wl_read (v := ?_) (some 20) rfl (by rfl) ?_ ?_
  rotate_left
  · go_simp; (try with_reducible rfl)
  simp only [Act.put, stA_, st0_, st1_]
  refine wl_read (v := ?_) (some 21) rfl (by rfl) ?_ ?_
  rotate_left
  · go_simp; (try with_reducible rfl)
  simp only [Act.put, stA_, st0_, st1_]
  refine wl_read (v := ?_) (some 22) rfl (by rfl) ?_ ?_
  rotate_left
  · go_simp; (try with_reducible rfl)
  simp only [Act.put, stA_, st0_, st1_]
  refine wl_read (v := ?_) (some 23) rfl (by rfl) ?_ ?_
  rotate_left
  · go_simp; (try with_reducible rfl)
  simp only [Act.put, stA_, st0_, st1_]
  refine wl_read (v := ?_) (some 24) rfl (by rfl) ?_ ?_
  rotate_left
  · go_simp; (try with_reducible rfl)
  simp only [Act.put, stA_, st0_, st1_]
  refine wl_load (some 25) rfl (by rfl) 53 (.tmp 1) rfl g0 rfl 53 (opCells o) _ O_4.out Try.underlying53 rfl (by kernel_rfl) ?_
  simp only [Act.put, stA_, st0_, st1_]
  go_wp2_with fail
  clear lw5
  refine (rest_any o _).mono ?_
  rintro e w6 ⟨rfl, hb6⟩
  have O_7 := Lib.hid (O_4.out.bl hb6)
  have Bel_7 := Lib.hid (bel_bl Bel_4.out hb6)
  clear hb6
  have lw8 : w6.cell? ⟨g0, 0, none⟩ = some (.int .i64 o.k) := O_7.out.cell (i := 0) rfl
  have lw9 : w6.cell? ⟨g0, 3, none⟩ = some (.int .i64 o.s1) := O_7.out.cell (i := 3) rfl
  have lw10 : w6.cell? ⟨g0, 4, none⟩ = some (.int .i64 o.n1) := O_7.out.cell (i := 4) rfl
  go_wp2_with fail
  clear lw8 lw9 lw10
  refine (rmay_any o.s1 o.n1 _).mono ?_
  rintro e w11 ⟨rfl, hb11⟩
  have O_12 := Lib.hid (O_7.out.bl hb11)
  have Bel_12 := Lib.hid (bel_bl Bel_7.out hb11)
  clear hb11
  have lw13 : w11.cell? ⟨g0, 0, none⟩ = some (.int .i64 o.k) := O_12.out.cell (i := 0) rfl
  have lw14 : w11.cell? ⟨g0, 5, none⟩ = some (.int .i64 o.s2) := O_12.out.cell (i := 5) rfl
  have lw15 : w11.cell? ⟨g0, 6, none⟩ = some (.int .i64 o.n2) := O_12.out.cell (i := 6) rfl
  go_wp2_with fail
  clear lw13 lw14 lw15
  refine (rmay_any o.s2 o.n2 _).mono ?_
  rintro e w16 ⟨rfl, hb16⟩
  have O_17 := Lib.hid (O_12.out.bl hb16)
  have Bel_17 := Lib.hid (bel_bl Bel_12.out hb16)
  clear hb16
  have lw18 : w16.cell? ⟨g0, 0, none⟩ = some (.int .i64 o.k) := O_17.out.cell (i := 0) rfl
  have lw19 : w16.cell? ⟨g0, 19, none⟩ = some (.int .i64 o.m) := O_17.out.cell (i := 19) rfl
  go_wp2
  go_ret
  exact ⟨rfl, Bel_17.out⟩
set_option maxRecDepth 100000 in
set_option maxHeartbeats 2000000 in
theorem rm_5d (o : OpT) (h0 : decide (o.k < 1) = false) (h9 : decide (8 < o.k) = false) (h1 : mayI o.s o.n = true) (h2 : restO o = zeroO) (hk : o.k = 5) (h3 : mayI o.s1 o.n1 = true) (h4 : mayI o.s2 o.n2 = true) (h5 : decide (o.m < 0) = false) (h6 : decide (3 < o.m) = true) (w : World) : Calls Try.prog 67 #[.agg (opCells o).toArray] w fun e w' => e = .returned (.int .i64 1) ∧ Below w.heap.size w w' := by
  have he : Try.prog.eqGuardType Try.prog.depth 53 = false := by kernel_rfl
  have hq := neq_op_run (restO o) zeroO
  rw [opCells_zero, decide_eq_true h2] at hq
  clear h2
  have q3 : (o.k == 3) = false := by rw [hk]; decide
  have q5 : (o.k == 5) = true := by rw [hk]; decide
  have q6 : (o.k == 6) = false := by rw [hk]; decide
  have q7 : (o.k == 7) = false := by rw [hk]; decide
  have q8 : (o.k == 8) = false := by rw [hk]; decide
  clear hk
  go_enter Try.func67, Try.ntmps67
  go_upto_region 1 with fail
  obtain ⟨W1, gW1⟩ : ∃ x, w.alloc (.cells (opCells o).toArray 53) = x := ⟨_, rfl⟩
  have HO : RowKit.Hid (Whole W1 w.heap.size 53 (opCells o)) := Lib.hid (by rw [← gW1]; exact Whole.new_ w _ _)
  have HB : RowKit.Hid (Below w.heap.size w W1) := Lib.hid (by rw [← gW1]; exact below1 _ _)
  rw [gW1]
  clear gW1
  obtain ⟨g0, gg0⟩ : ∃ x, w.heap.size = x := ⟨_, rfl⟩
  rw [gg0] at HO ⊢
  clear gg0
  have lw1 : W1.cell? ⟨g0, 1, none⟩ = some (.int .i64 o.s) := HO.out.cell (i := 1) rfl
  have lw2 : W1.cell? ⟨g0, 2, none⟩ = some (.int .i64 o.n) := HO.out.cell (i := 2) rfl
  go_wp2_with fail
  clear lw1 lw2
  refine (rmay_any o.s o.n _).mono ?_
  rintro e w3 ⟨rfl, hb3⟩
  have O_4 := Lib.hid (HO.out.bl hb3)
  have Bel_4 := Lib.hid (bel_bl HB.out hb3)
  clear hb3
  have lw5 : w3.cell? ⟨g0, 0, none⟩ = some (.int .i64 o.k) := O_4.out.cell (i := 0) rfl
  go_upto_region 2 with fail
  refine wp_region_lit ?_
  refine wl_read (v := ?_) (some 12) rfl (by rfl) ?_ ?_
  rotate_left
  · go_simp; (try with_reducible rfl)
  simp only [Act.put, stA_, st0_, st1_]
  refine wl_read (v := ?_) (some 13) rfl (by rfl) ?_ ?_
  rotate_left
  · go_simp; (try with_reducible rfl)
  simp only [Act.put, stA_, st0_, st1_]
  refine wl_read (v := ?_) (some 14) rfl (by rfl) ?_ ?_
  rotate_left
  · go_simp; (try with_reducible rfl)
  simp only [Act.put, stA_, st0_, st1_]
  refine wl_read (v := ?_) (some 15) rfl (by rfl) ?_ ?_
  rotate_left
  · go_simp; (try with_reducible rfl)
  simp only [Act.put, stA_, st0_, st1_]
  refine wl_read (v := ?_) (some 16) rfl (by rfl) ?_ ?_
  rotate_left
  · go_simp; (try with_reducible rfl)
  simp only [Act.put, stA_, st0_, st1_]
  refine wl_read (v := ?_) (some 17) rfl (by rfl) ?_ ?_
  rotate_left
  · go_simp; (try with_reducible rfl)
  simp only [Act.put, stA_, st0_, st1_]
  refine wl_read (v := ?_) (some 18) rfl (by rfl) ?_ ?_
  rotate_left
  · go_simp; (try with_reducible rfl)
  simp only [Act.put, stA_, st0_, st1_]
  refine wl_read (v := ?_) (some 19) rfl (by rfl) ?_ ?_
  rotate_left
  · go_simp; (try with_reducible rfl)
  simp only [Act.put, stA_, st0_, st1_]
  refine wl_read (v := ?_) (some 20) rfl (by rfl) ?_ ?_
  rotate_left
  · go_simp; (try with_reducible rfl)
  simp only [Act.put, stA_, st0_, st1_]
  refine wl_read (v := ?_) (some 21) rfl (by rfl) ?_ ?_
  rotate_left
  · go_simp; (try with_reducible rfl)
  simp only [Act.put, stA_, st0_, st1_]
  refine wl_read (v := ?_) (some 22) rfl (by rfl) ?_ ?_
  rotate_left
  · go_simp; (try with_reducible rfl)
  simp only [Act.put, stA_, st0_, st1_]
  refine wl_read (v := ?_) (some 23) rfl (by rfl) ?_ ?_
  rotate_left
  · go_simp; (try with_reducible rfl)
  simp only [Act.put, stA_, st0_, st1_]
  refine wl_read (v := ?_) (some 24) rfl (by rfl) ?_ ?_
  rotate_left
  · go_simp; (try with_reducible rfl)
  simp only [Act.put, stA_, st0_, st1_]
  refine wl_load (some 25) rfl (by rfl) 53 (.tmp 1) rfl g0 rfl 53 (opCells o) _ O_4.out Try.underlying53 rfl (by kernel_rfl) ?_
  simp only [Act.put, stA_, st0_, st1_]
  go_wp2_with fail
  clear lw5
  refine (rest_any o _).mono ?_
  rintro e w6 ⟨rfl, hb6⟩
  have O_7 := Lib.hid (O_4.out.bl hb6)
  have Bel_7 := Lib.hid (bel_bl Bel_4.out hb6)
  clear hb6
  have lw8 : w6.cell? ⟨g0, 0, none⟩ = some (.int .i64 o.k) := O_7.out.cell (i := 0) rfl
  have lw9 : w6.cell? ⟨g0, 3, none⟩ = some (.int .i64 o.s1) := O_7.out.cell (i := 3) rfl
  have lw10 : w6.cell? ⟨g0, 4, none⟩ = some (.int .i64 o.n1) := O_7.out.cell (i := 4) rfl
  go_wp2_with fail
  clear lw8 lw9 lw10
  refine (rmay_any o.s1 o.n1 _).mono ?_
  rintro e w11 ⟨rfl, hb11⟩
  have O_12 := Lib.hid (O_7.out.bl hb11)
  have Bel_12 := Lib.hid (bel_bl Bel_7.out hb11)
  clear hb11
  have lw13 : w11.cell? ⟨g0, 0, none⟩ = some (.int .i64 o.k) := O_12.out.cell (i := 0) rfl
  have lw14 : w11.cell? ⟨g0, 5, none⟩ = some (.int .i64 o.s2) := O_12.out.cell (i := 5) rfl
  have lw15 : w11.cell? ⟨g0, 6, none⟩ = some (.int .i64 o.n2) := O_12.out.cell (i := 6) rfl
  go_wp2_with fail
  clear lw13 lw14 lw15
  refine (rmay_any o.s2 o.n2 _).mono ?_
  rintro e w16 ⟨rfl, hb16⟩
  have O_17 := Lib.hid (O_12.out.bl hb16)
  have Bel_17 := Lib.hid (bel_bl Bel_12.out hb16)
  clear hb16
  have lw18 : w16.cell? ⟨g0, 0, none⟩ = some (.int .i64 o.k) := O_17.out.cell (i := 0) rfl
  have lw19 : w16.cell? ⟨g0, 19, none⟩ = some (.int .i64 o.m) := O_17.out.cell (i := 19) rfl
  go_wp2
  go_ret
  exact ⟨rfl, Bel_17.out⟩
set_option maxRecDepth 100000 in
set_option maxHeartbeats 2000000 in
theorem rm_5y (o : OpT) (h0 : decide (o.k < 1) = false) (h9 : decide (8 < o.k) = false) (h1 : mayI o.s o.n = true) (h2 : restO o = zeroO) (hk : o.k = 5) (h3 : mayI o.s1 o.n1 = true) (h4 : mayI o.s2 o.n2 = true) (h5 : decide (o.m < 0) = false) (h6 : decide (3 < o.m) = false) (w : World) : Calls Try.prog 67 #[.agg (opCells o).toArray] w fun e w' => e = .returned (.int .i64 0) ∧ Below w.heap.size w w' := by
  have he : Try.prog.eqGuardType Try.prog.depth 53 = false := by kernel_rfl
  have hq := neq_op_run (restO o) zeroO
  rw [opCells_zero, decide_eq_true h2] at hq
  clear h2
  have q3 : (o.k == 3) = false := by rw [hk]; decide
  have q5 : (o.k == 5) = true := by rw [hk]; decide
  have q6 : (o.k == 6) = false := by rw [hk]; decide
  have q7 : (o.k == 7) = false := by rw [hk]; decide
  have q8 : (o.k == 8) = false := by rw [hk]; decide
  clear hk
  go_enter Try.func67, Try.ntmps67
  go_upto_region 1 with fail
  obtain ⟨W1, gW1⟩ : ∃ x, w.alloc (.cells (opCells o).toArray 53) = x := ⟨_, rfl⟩
  have HO : RowKit.Hid (Whole W1 w.heap.size 53 (opCells o)) := Lib.hid (by rw [← gW1]; exact Whole.new_ w _ _)
  have HB : RowKit.Hid (Below w.heap.size w W1) := Lib.hid (by rw [← gW1]; exact below1 _ _)
  rw [gW1]
  clear gW1
  obtain ⟨g0, gg0⟩ : ∃ x, w.heap.size = x := ⟨_, rfl⟩
  rw [gg0] at HO ⊢
  clear gg0
  have lw1 : W1.cell? ⟨g0, 1, none⟩ = some (.int .i64 o.s) := HO.out.cell (i := 1) rfl
  have lw2 : W1.cell? ⟨g0, 2, none⟩ = some (.int .i64 o.n) := HO.out.cell (i := 2) rfl
  go_wp2_with fail
  clear lw1 lw2
  refine (rmay_any o.s o.n _).mono ?_
  rintro e w3 ⟨rfl, hb3⟩
  have O_4 := Lib.hid (HO.out.bl hb3)
  have Bel_4 := Lib.hid (bel_bl HB.out hb3)
  clear hb3
  have lw5 : w3.cell? ⟨g0, 0, none⟩ = some (.int .i64 o.k) := O_4.out.cell (i := 0) rfl
  go_upto_region 2 with fail
  refine wp_region_lit ?_
  refine wl_read (v := ?_) (some 12) rfl (by rfl) ?_ ?_
  rotate_left
  · go_simp; (try with_reducible rfl)
  simp only [Act.put, stA_, st0_, st1_]
  refine wl_read (v := ?_) (some 13) rfl (by rfl) ?_ ?_
  rotate_left
  · go_simp; (try with_reducible rfl)
  simp only [Act.put, stA_, st0_, st1_]
  refine wl_read (v := ?_) (some 14) rfl (by rfl) ?_ ?_
  rotate_left
  · go_simp; (try with_reducible rfl)
  simp only [Act.put, stA_, st0_, st1_]
  refine wl_read (v := ?_) (some 15) rfl (by rfl) ?_ ?_
  rotate_left
  · go_simp; (try with_reducible rfl)
  simp only [Act.put, stA_, st0_, st1_]
  refine wl_read (v := ?_) (some 16) rfl (by rfl) ?_ ?_
  rotate_left
  · go_simp; (try with_reducible rfl)
  simp only [Act.put, stA_, st0_, st1_]
  refine wl_read (v := ?_) (some 17) rfl (by rfl) ?_ ?_
  rotate_left
  · go_simp; (try with_reducible rfl)
  simp only [Act.put, stA_, st0_, st1_]
  refine wl_read (v := ?_) (some 18) rfl (by rfl) ?_ ?_
  rotate_left
  · go_simp; (try with_reducible rfl)
  simp only [Act.put, stA_, st0_, st1_]
  refine wl_read (v := ?_) (some 19) rfl (by rfl) ?_ ?_
  rotate_left
  · go_simp; (try with_reducible rfl)
  simp only [Act.put, stA_, st0_, st1_]
  refine wl_read (v := ?_) (some 20) rfl (by rfl) ?_ ?_
  rotate_left
  · go_simp; (try with_reducible rfl)
  simp only [Act.put, stA_, st0_, st1_]
  refine wl_read (v := ?_) (some 21) rfl (by rfl) ?_ ?_
  rotate_left
  · go_simp; (try with_reducible rfl)
  simp only [Act.put, stA_, st0_, st1_]
  refine wl_read (v := ?_) (some 22) rfl (by rfl) ?_ ?_
  rotate_left
  · go_simp; (try with_reducible rfl)
  simp only [Act.put, stA_, st0_, st1_]
  refine wl_read (v := ?_) (some 23) rfl (by rfl) ?_ ?_
  rotate_left
  · go_simp; (try with_reducible rfl)
  simp only [Act.put, stA_, st0_, st1_]
  refine wl_read (v := ?_) (some 24) rfl (by rfl) ?_ ?_
  rotate_left
  · go_simp; (try with_reducible rfl)
  simp only [Act.put, stA_, st0_, st1_]
  refine wl_load (some 25) rfl (by rfl) 53 (.tmp 1) rfl g0 rfl 53 (opCells o) _ O_4.out Try.underlying53 rfl (by kernel_rfl) ?_
  simp only [Act.put, stA_, st0_, st1_]
  go_wp2_with fail
  clear lw5
  refine (rest_any o _).mono ?_
  rintro e w6 ⟨rfl, hb6⟩
  have O_7 := Lib.hid (O_4.out.bl hb6)
  have Bel_7 := Lib.hid (bel_bl Bel_4.out hb6)
  clear hb6
  have lw8 : w6.cell? ⟨g0, 0, none⟩ = some (.int .i64 o.k) := O_7.out.cell (i := 0) rfl
  have lw9 : w6.cell? ⟨g0, 3, none⟩ = some (.int .i64 o.s1) := O_7.out.cell (i := 3) rfl
  have lw10 : w6.cell? ⟨g0, 4, none⟩ = some (.int .i64 o.n1) := O_7.out.cell (i := 4) rfl
  go_wp2_with fail
  clear lw8 lw9 lw10
  refine (rmay_any o.s1 o.n1 _).mono ?_
  rintro e w11 ⟨rfl, hb11⟩
  have O_12 := Lib.hid (O_7.out.bl hb11)
  have Bel_12 := Lib.hid (bel_bl Bel_7.out hb11)
  clear hb11
  have lw13 : w11.cell? ⟨g0, 0, none⟩ = some (.int .i64 o.k) := O_12.out.cell (i := 0) rfl
  have lw14 : w11.cell? ⟨g0, 5, none⟩ = some (.int .i64 o.s2) := O_12.out.cell (i := 5) rfl
  have lw15 : w11.cell? ⟨g0, 6, none⟩ = some (.int .i64 o.n2) := O_12.out.cell (i := 6) rfl
  go_wp2_with fail
  clear lw13 lw14 lw15
  refine (rmay_any o.s2 o.n2 _).mono ?_
  rintro e w16 ⟨rfl, hb16⟩
  have O_17 := Lib.hid (O_12.out.bl hb16)
  have Bel_17 := Lib.hid (bel_bl Bel_12.out hb16)
  clear hb16
  have lw18 : w16.cell? ⟨g0, 0, none⟩ = some (.int .i64 o.k) := O_17.out.cell (i := 0) rfl
  have lw19 : w16.cell? ⟨g0, 19, none⟩ = some (.int .i64 o.m) := O_17.out.cell (i := 19) rfl
  go_wp2
  go_ret
  exact ⟨rfl, Bel_17.out⟩
set_option maxRecDepth 100000 in
set_option maxHeartbeats 2000000 in
theorem rm_6n (o : OpT) (h0 : decide (o.k < 1) = false) (h9 : decide (8 < o.k) = false) (h1 : mayI o.s o.n = true) (h2 : restO o = zeroO) (hk : o.k = 6) (h3 : mayI o.s2 o.n2 = false) (w : World) : Calls Try.prog 67 #[.agg (opCells o).toArray] w fun e w' => e = .returned (.int .i64 1) ∧ Below w.heap.size w w' := by
  have he : Try.prog.eqGuardType Try.prog.depth 53 = false := by kernel_rfl
  have hq := neq_op_run (restO o) zeroO
  rw [opCells_zero, decide_eq_true h2] at hq
  clear h2
  have q3 : (o.k == 3) = false := by rw [hk]; decide
  have q5 : (o.k == 5) = false := by rw [hk]; decide
  have q6 : (o.k == 6) = true := by rw [hk]; decide
  have q7 : (o.k == 7) = false := by rw [hk]; decide
  have q8 : (o.k == 8) = false := by rw [hk]; decide
  clear hk
  go_enter Try.func67, Try.ntmps67
  go_upto_region 1 with fail
  obtain ⟨W1, gW1⟩ : ∃ x, w.alloc (.cells (opCells o).toArray 53) = x := ⟨_, rfl⟩
  have HO : RowKit.Hid (Whole W1 w.heap.size 53 (opCells o)) := Lib.hid (by rw [← gW1]; exact Whole.new_ w _ _)
  have HB : RowKit.Hid (Below w.heap.size w W1) := Lib.hid (by rw [← gW1]; exact below1 _ _)
  rw [gW1]
  clear gW1
  obtain ⟨g0, gg0⟩ : ∃ x, w.heap.size = x := ⟨_, rfl⟩
  rw [gg0] at HO ⊢
  clear gg0
  have lw1 : W1.cell? ⟨g0, 1, none⟩ = some (.int .i64 o.s) := HO.out.cell (i := 1) rfl
  have lw2 : W1.cell? ⟨g0, 2, none⟩ = some (.int .i64 o.n) := HO.out.cell (i := 2) rfl
  go_wp2_with fail
  clear lw1 lw2
  refine (rmay_any o.s o.n _).mono ?_
  rintro e w3 ⟨rfl, hb3⟩
  have O_4 := Lib.hid (HO.out.bl hb3)
  have Bel_4 := Lib.hid (bel_bl HB.out hb3)
  clear hb3
  have lw5 : w3.cell? ⟨g0, 0, none⟩ = some (.int .i64 o.k) := O_4.out.cell (i := 0) rfl
  go_upto_region 2 with fail
  refine wp_region_lit ?_
  refine wl_read (v := ?_) (some 12) rfl (by rfl) ?_ ?_
  rotate_left
  · go_simp; (try with_reducible rfl)
  simp only [Act.put, stA_, st0_, st1_]
  refine wl_read (v := ?_) (some 13) rfl (by rfl) ?_ ?_
  rotate_left
  · go_simp; (try with_reducible rfl)
  simp only [Act.put, stA_, st0_, st1_]
  refine wl_read (v := ?_) (some 14) rfl (by rfl) ?_ ?_
  rotate_left
  · go_simp; (try with_reducible rfl)
  simp only [Act.put, stA_, st0_, st1_]
  refine wl_read (v := ?_) (some 15) rfl (by rfl) ?_ ?_
  rotate_left
  · go_simp; (try with_reducible rfl)
  simp only [Act.put, stA_, st0_, st1_]
  refine wl_read (v := ?_) (some 16) rfl (by rfl) ?_ ?_
  rotate_left
  · go_simp; (try with_reducible rfl)
  simp only [Act.put, stA_, st0_, st1_]
  refine wl_read (v := ?_) (some 17) rfl (by rfl) ?_ ?_
  rotate_left
  · go_simp; (try with_reducible rfl)
  simp only [Act.put, stA_, st0_, st1_]
  refine wl_read (v := ?_) (some 18) rfl (by rfl) ?_ ?_
  rotate_left
  · go_simp; (try with_reducible rfl)
  simp only [Act.put, stA_, st0_, st1_]
  refine wl_read (v := ?_) (some 19) rfl (by rfl) ?_ ?_
  rotate_left
  · go_simp; (try with_reducible rfl)
  simp only [Act.put, stA_, st0_, st1_]
  refine wl_read (v := ?_) (some 20) rfl (by rfl) ?_ ?_
  rotate_left
  · go_simp; (try with_reducible rfl)
  simp only [Act.put, stA_, st0_, st1_]
  refine wl_read (v := ?_) (some 21) rfl (by rfl) ?_ ?_
  rotate_left
  · go_simp; (try with_reducible rfl)
  simp only [Act.put, stA_, st0_, st1_]
  refine wl_read (v := ?_) (some 22) rfl (by rfl) ?_ ?_
  rotate_left
  · go_simp; (try with_reducible rfl)
  simp only [Act.put, stA_, st0_, st1_]
  refine wl_read (v := ?_) (some 23) rfl (by rfl) ?_ ?_
  rotate_left
  · go_simp; (try with_reducible rfl)
  simp only [Act.put, stA_, st0_, st1_]
  refine wl_read (v := ?_) (some 24) rfl (by rfl) ?_ ?_
  rotate_left
  · go_simp; (try with_reducible rfl)
  simp only [Act.put, stA_, st0_, st1_]
  refine wl_load (some 25) rfl (by rfl) 53 (.tmp 1) rfl g0 rfl 53 (opCells o) _ O_4.out Try.underlying53 rfl (by kernel_rfl) ?_
  simp only [Act.put, stA_, st0_, st1_]
  go_wp2_with fail
  clear lw5
  refine (rest_any o _).mono ?_
  rintro e w6 ⟨rfl, hb6⟩
  have O_7 := Lib.hid (O_4.out.bl hb6)
  have Bel_7 := Lib.hid (bel_bl Bel_4.out hb6)
  clear hb6
  have lw8 : w6.cell? ⟨g0, 0, none⟩ = some (.int .i64 o.k) := O_7.out.cell (i := 0) rfl
  have lw9 : w6.cell? ⟨g0, 5, none⟩ = some (.int .i64 o.s2) := O_7.out.cell (i := 5) rfl
  have lw10 : w6.cell? ⟨g0, 6, none⟩ = some (.int .i64 o.n2) := O_7.out.cell (i := 6) rfl
  go_wp2_with fail
  clear lw8 lw9 lw10
  refine (rmay_any o.s2 o.n2 _).mono ?_
  rintro e w11 ⟨rfl, hb11⟩
  have O_12 := Lib.hid (O_7.out.bl hb11)
  have Bel_12 := Lib.hid (bel_bl Bel_7.out hb11)
  clear hb11
  have lw13 : w11.cell? ⟨g0, 0, none⟩ = some (.int .i64 o.k) := O_12.out.cell (i := 0) rfl
  go_wp2
  go_ret
  exact ⟨rfl, Bel_12.out⟩
set_option maxRecDepth 100000 in
set_option maxHeartbeats 2000000 in
theorem rm_6y (o : OpT) (h0 : decide (o.k < 1) = false) (h9 : decide (8 < o.k) = false) (h1 : mayI o.s o.n = true) (h2 : restO o = zeroO) (hk : o.k = 6) (h3 : mayI o.s2 o.n2 = true) (w : World) : Calls Try.prog 67 #[.agg (opCells o).toArray] w fun e w' => e = .returned (.int .i64 0) ∧ Below w.heap.size w w' := by
  have he : Try.prog.eqGuardType Try.prog.depth 53 = false := by kernel_rfl
  have hq := neq_op_run (restO o) zeroO
  rw [opCells_zero, decide_eq_true h2] at hq
  clear h2
  have q3 : (o.k == 3) = false := by rw [hk]; decide
  have q5 : (o.k == 5) = false := by rw [hk]; decide
  have q6 : (o.k == 6) = true := by rw [hk]; decide
  have q7 : (o.k == 7) = false := by rw [hk]; decide
  have q8 : (o.k == 8) = false := by rw [hk]; decide
  clear hk
  go_enter Try.func67, Try.ntmps67
  go_upto_region 1 with fail
  obtain ⟨W1, gW1⟩ : ∃ x, w.alloc (.cells (opCells o).toArray 53) = x := ⟨_, rfl⟩
  have HO : RowKit.Hid (Whole W1 w.heap.size 53 (opCells o)) := Lib.hid (by rw [← gW1]; exact Whole.new_ w _ _)
  have HB : RowKit.Hid (Below w.heap.size w W1) := Lib.hid (by rw [← gW1]; exact below1 _ _)
  rw [gW1]
  clear gW1
  obtain ⟨g0, gg0⟩ : ∃ x, w.heap.size = x := ⟨_, rfl⟩
  rw [gg0] at HO ⊢
  clear gg0
  have lw1 : W1.cell? ⟨g0, 1, none⟩ = some (.int .i64 o.s) := HO.out.cell (i := 1) rfl
  have lw2 : W1.cell? ⟨g0, 2, none⟩ = some (.int .i64 o.n) := HO.out.cell (i := 2) rfl
  go_wp2_with fail
  clear lw1 lw2
  refine (rmay_any o.s o.n _).mono ?_
  rintro e w3 ⟨rfl, hb3⟩
  have O_4 := Lib.hid (HO.out.bl hb3)
  have Bel_4 := Lib.hid (bel_bl HB.out hb3)
  clear hb3
  have lw5 : w3.cell? ⟨g0, 0, none⟩ = some (.int .i64 o.k) := O_4.out.cell (i := 0) rfl
  go_upto_region 2 with fail
  refine wp_region_lit ?_
  refine wl_read (v := ?_) (some 12) rfl (by rfl) ?_ ?_
  rotate_left
  · go_simp; (try with_reducible rfl)
  simp only [Act.put, stA_, st0_, st1_]
  refine wl_read (v := ?_) (some 13) rfl (by rfl) ?_ ?_
  rotate_left
  · go_simp; (try with_reducible rfl)
  simp only [Act.put, stA_, st0_, st1_]
  refine wl_read (v := ?_) (some 14) rfl (by rfl) ?_ ?_
  rotate_left
  · go_simp; (try with_reducible rfl)
  simp only [Act.put, stA_, st0_, st1_]
  refine wl_read (v := ?_) (some 15) rfl (by rfl) ?_ ?_
  rotate_left
  · go_simp; (try with_reducible rfl)
  simp only [Act.put, stA_, st0_, st1_]
  refine wl_read (v := ?_) (some 16) rfl (by rfl) ?_ ?_
  rotate_left
  · go_simp; (try with_reducible rfl)
  simp only [Act.put, stA_, st0_, st1_]
  refine wl_read (v := ?_) (some 17) rfl (by rfl) ?_ ?_
  rotate_left
  · go_simp; (try with_reducible rfl)
  simp only [Act.put, stA_, st0_, st1_]
  refine wl_read (v := ?_) (some 18) rfl (by rfl) ?_ ?_
  rotate_left
  · go_simp; (try with_reducible rfl)
  simp only [Act.put, stA_, st0_, st1_]
  refine wl_read (v := ?_) (some 19) rfl (by rfl) ?_ ?_
  rotate_left
  · go_simp; (try with_reducible rfl)
  simp only [Act.put, stA_, st0_, st1_]
  refine wl_read (v := ?_) (some 20) rfl (by rfl) ?_ ?_
  rotate_left
  · go_simp; (try with_reducible rfl)
  simp only [Act.put, stA_, st0_, st1_]
  refine wl_read (v := ?_) (some 21) rfl (by rfl) ?_ ?_
  rotate_left
  · go_simp; (try with_reducible rfl)
  simp only [Act.put, stA_, st0_, st1_]
  refine wl_read (v := ?_) (some 22) rfl (by rfl) ?_ ?_
  rotate_left
  · go_simp; (try with_reducible rfl)
  simp only [Act.put, stA_, st0_, st1_]
  refine wl_read (v := ?_) (some 23) rfl (by rfl) ?_ ?_
  rotate_left
  · go_simp; (try with_reducible rfl)
  simp only [Act.put, stA_, st0_, st1_]
  refine wl_read (v := ?_) (some 24) rfl (by rfl) ?_ ?_
  rotate_left
  · go_simp; (try with_reducible rfl)
  simp only [Act.put, stA_, st0_, st1_]
  refine wl_load (some 25) rfl (by rfl) 53 (.tmp 1) rfl g0 rfl 53 (opCells o) _ O_4.out Try.underlying53 rfl (by kernel_rfl) ?_
  simp only [Act.put, stA_, st0_, st1_]
  go_wp2_with fail
  clear lw5
  refine (rest_any o _).mono ?_
  rintro e w6 ⟨rfl, hb6⟩
  have O_7 := Lib.hid (O_4.out.bl hb6)
  have Bel_7 := Lib.hid (bel_bl Bel_4.out hb6)
  clear hb6
  have lw8 : w6.cell? ⟨g0, 0, none⟩ = some (.int .i64 o.k) := O_7.out.cell (i := 0) rfl
  have lw9 : w6.cell? ⟨g0, 5, none⟩ = some (.int .i64 o.s2) := O_7.out.cell (i := 5) rfl
  have lw10 : w6.cell? ⟨g0, 6, none⟩ = some (.int .i64 o.n2) := O_7.out.cell (i := 6) rfl
  go_wp2_with fail
  clear lw8 lw9 lw10
  refine (rmay_any o.s2 o.n2 _).mono ?_
  rintro e w11 ⟨rfl, hb11⟩
  have O_12 := Lib.hid (O_7.out.bl hb11)
  have Bel_12 := Lib.hid (bel_bl Bel_7.out hb11)
  clear hb11
  have lw13 : w11.cell? ⟨g0, 0, none⟩ = some (.int .i64 o.k) := O_12.out.cell (i := 0) rfl
  go_wp2
  go_ret
  exact ⟨rfl, Bel_12.out⟩
set_option maxRecDepth 100000 in
set_option maxHeartbeats 2000000 in
theorem rm_8n (o : OpT) (h0 : decide (o.k < 1) = false) (h9 : decide (8 < o.k) = false) (h1 : mayI o.s o.n = true) (h2 : restO o = zeroO) (hk : o.k = 8) (h3 : mayAt o.m = false) (w : World) : Calls Try.prog 67 #[.agg (opCells o).toArray] w fun e w' => e = .returned (.int .i64 1) ∧ Below w.heap.size w w' := by
  have he : Try.prog.eqGuardType Try.prog.depth 53 = false := by kernel_rfl
  have hq := neq_op_run (restO o) zeroO
  rw [opCells_zero, decide_eq_true h2] at hq
  clear h2
  have q3 : (o.k == 3) = false := by rw [hk]; decide
  have q5 : (o.k == 5) = false := by rw [hk]; decide
  have q6 : (o.k == 6) = false := by rw [hk]; decide
  have q7 : (o.k == 7) = false := by rw [hk]; decide
  have q8 : (o.k == 8) = true := by rw [hk]; decide
  clear hk
  go_enter Try.func67, Try.ntmps67
  go_upto_region 1 with fail
  obtain ⟨W1, gW1⟩ : ∃ x, w.alloc (.cells (opCells o).toArray 53) = x := ⟨_, rfl⟩
  have HO : RowKit.Hid (Whole W1 w.heap.size 53 (opCells o)) := Lib.hid (by rw [← gW1]; exact Whole.new_ w _ _)
  have HB : RowKit.Hid (Below w.heap.size w W1) := Lib.hid (by rw [← gW1]; exact below1 _ _)
  rw [gW1]
  clear gW1
  obtain ⟨g0, gg0⟩ : ∃ x, w.heap.size = x := ⟨_, rfl⟩
  rw [gg0] at HO ⊢
  clear gg0
  have lw1 : W1.cell? ⟨g0, 1, none⟩ = some (.int .i64 o.s) := HO.out.cell (i := 1) rfl
  have lw2 : W1.cell? ⟨g0, 2, none⟩ = some (.int .i64 o.n) := HO.out.cell (i := 2) rfl
  go_wp2_with fail
  clear lw1 lw2
  refine (rmay_any o.s o.n _).mono ?_
  rintro e w3 ⟨rfl, hb3⟩
  have O_4 := Lib.hid (HO.out.bl hb3)
  have Bel_4 := Lib.hid (bel_bl HB.out hb3)
  clear hb3
  have lw5 : w3.cell? ⟨g0, 0, none⟩ = some (.int .i64 o.k) := O_4.out.cell (i := 0) rfl
  go_upto_region 2 with fail
  refine wp_region_lit ?_
  refine wl_read (v := ?_) (some 12) rfl (by rfl) ?_ ?_
  rotate_left
  · go_simp; (try with_reducible rfl)
  simp only [Act.put, stA_, st0_, st1_]
  refine wl_read (v := ?_) (some 13) rfl (by rfl) ?_ ?_
  rotate_left
  · go_simp; (try with_reducible rfl)
  simp only [Act.put, stA_, st0_, st1_]
  refine wl_read (v := ?_) (some 14) rfl (by rfl) ?_ ?_
  rotate_left
  · go_simp; (try with_reducible rfl)
  simp only [Act.put, stA_, st0_, st1_]
  refine wl_read (v := ?_) (some 15) rfl (by rfl) ?_ ?_
  rotate_left
  · go_simp; (try with_reducible rfl)
  simp only [Act.put, stA_, st0_, st1_]
  refine wl_read (v := ?_) (some 16) rfl (by rfl) ?_ ?_
  rotate_left
  · go_simp; (try with_reducible rfl)
  simp only [Act.put, stA_, st0_, st1_]
  refine wl_read (v := ?_) (some 17) rfl (by rfl) ?_ ?_
  rotate_left
  · go_simp; (try with_reducible rfl)
  simp only [Act.put, stA_, st0_, st1_]
  refine wl_read (v := ?_) (some 18) rfl (by rfl) ?_ ?_
  rotate_left
  · go_simp; (try with_reducible rfl)
  simp only [Act.put, stA_, st0_, st1_]
  refine wl_read (v := ?_) (some 19) rfl (by rfl) ?_ ?_
  rotate_left
  · go_simp; (try with_reducible rfl)
  simp only [Act.put, stA_, st0_, st1_]
  refine wl_read (v := ?_) (some 20) rfl (by rfl) ?_ ?_
  rotate_left
  · go_simp; (try with_reducible rfl)
  simp only [Act.put, stA_, st0_, st1_]
  refine wl_read (v := ?_) (some 21) rfl (by rfl) ?_ ?_
  rotate_left
  · go_simp; (try with_reducible rfl)
  simp only [Act.put, stA_, st0_, st1_]
  refine wl_read (v := ?_) (some 22) rfl (by rfl) ?_ ?_
  rotate_left
  · go_simp; (try with_reducible rfl)
  simp only [Act.put, stA_, st0_, st1_]
  refine wl_read (v := ?_) (some 23) rfl (by rfl) ?_ ?_
  rotate_left
  · go_simp; (try with_reducible rfl)
  simp only [Act.put, stA_, st0_, st1_]
  refine wl_read (v := ?_) (some 24) rfl (by rfl) ?_ ?_
  rotate_left
  · go_simp; (try with_reducible rfl)
  simp only [Act.put, stA_, st0_, st1_]
  refine wl_load (some 25) rfl (by rfl) 53 (.tmp 1) rfl g0 rfl 53 (opCells o) _ O_4.out Try.underlying53 rfl (by kernel_rfl) ?_
  simp only [Act.put, stA_, st0_, st1_]
  go_wp2_with fail
  clear lw5
  refine (rest_any o _).mono ?_
  rintro e w6 ⟨rfl, hb6⟩
  have O_7 := Lib.hid (O_4.out.bl hb6)
  have Bel_7 := Lib.hid (bel_bl Bel_4.out hb6)
  clear hb6
  have lw8 : w6.cell? ⟨g0, 0, none⟩ = some (.int .i64 o.k) := O_7.out.cell (i := 0) rfl
  have lw9 : w6.cell? ⟨g0, 19, none⟩ = some (.int .i64 o.m) := O_7.out.cell (i := 19) rfl
  go_wp2_with fail
  clear lw8 lw9
  refine (rmayattr_any o.m _).mono ?_
  rintro e w10 ⟨rfl, hb10⟩
  have O_11 := Lib.hid (O_7.out.bl hb10)
  have Bel_11 := Lib.hid (bel_bl Bel_7.out hb10)
  clear hb10
  have lw12 : w10.cell? ⟨g0, 0, none⟩ = some (.int .i64 o.k) := O_11.out.cell (i := 0) rfl
  go_wp2
  go_ret
  exact ⟨rfl, Bel_11.out⟩
set_option maxRecDepth 100000 in
set_option maxHeartbeats 2000000 in
theorem rm_8y (o : OpT) (h0 : decide (o.k < 1) = false) (h9 : decide (8 < o.k) = false) (h1 : mayI o.s o.n = true) (h2 : restO o = zeroO) (hk : o.k = 8) (h3 : mayAt o.m = true) (w : World) : Calls Try.prog 67 #[.agg (opCells o).toArray] w fun e w' => e = .returned (.int .i64 0) ∧ Below w.heap.size w w' := by
  have he : Try.prog.eqGuardType Try.prog.depth 53 = false := by kernel_rfl
  have hq := neq_op_run (restO o) zeroO
  rw [opCells_zero, decide_eq_true h2] at hq
  clear h2
  have q3 : (o.k == 3) = false := by rw [hk]; decide
  have q5 : (o.k == 5) = false := by rw [hk]; decide
  have q6 : (o.k == 6) = false := by rw [hk]; decide
  have q7 : (o.k == 7) = false := by rw [hk]; decide
  have q8 : (o.k == 8) = true := by rw [hk]; decide
  clear hk
  go_enter Try.func67, Try.ntmps67
  go_upto_region 1 with fail
  obtain ⟨W1, gW1⟩ : ∃ x, w.alloc (.cells (opCells o).toArray 53) = x := ⟨_, rfl⟩
  have HO : RowKit.Hid (Whole W1 w.heap.size 53 (opCells o)) := Lib.hid (by rw [← gW1]; exact Whole.new_ w _ _)
  have HB : RowKit.Hid (Below w.heap.size w W1) := Lib.hid (by rw [← gW1]; exact below1 _ _)
  rw [gW1]
  clear gW1
  obtain ⟨g0, gg0⟩ : ∃ x, w.heap.size = x := ⟨_, rfl⟩
  rw [gg0] at HO ⊢
  clear gg0
  have lw1 : W1.cell? ⟨g0, 1, none⟩ = some (.int .i64 o.s) := HO.out.cell (i := 1) rfl
  have lw2 : W1.cell? ⟨g0, 2, none⟩ = some (.int .i64 o.n) := HO.out.cell (i := 2) rfl
  go_wp2_with fail
  clear lw1 lw2
  refine (rmay_any o.s o.n _).mono ?_
  rintro e w3 ⟨rfl, hb3⟩
  have O_4 := Lib.hid (HO.out.bl hb3)
  have Bel_4 := Lib.hid (bel_bl HB.out hb3)
  clear hb3
  have lw5 : w3.cell? ⟨g0, 0, none⟩ = some (.int .i64 o.k) := O_4.out.cell (i := 0) rfl
  go_upto_region 2 with fail
  refine wp_region_lit ?_
  refine wl_read (v := ?_) (some 12) rfl (by rfl) ?_ ?_
  rotate_left
  · go_simp; (try with_reducible rfl)
  simp only [Act.put, stA_, st0_, st1_]
  refine wl_read (v := ?_) (some 13) rfl (by rfl) ?_ ?_
  rotate_left
  · go_simp; (try with_reducible rfl)
  simp only [Act.put, stA_, st0_, st1_]
  refine wl_read (v := ?_) (some 14) rfl (by rfl) ?_ ?_
  rotate_left
  · go_simp; (try with_reducible rfl)
  simp only [Act.put, stA_, st0_, st1_]
  refine wl_read (v := ?_) (some 15) rfl (by rfl) ?_ ?_
  rotate_left
  · go_simp; (try with_reducible rfl)
  simp only [Act.put, stA_, st0_, st1_]
  refine wl_read (v := ?_) (some 16) rfl (by rfl) ?_ ?_
  rotate_left
  · go_simp; (try with_reducible rfl)
  simp only [Act.put, stA_, st0_, st1_]
  refine wl_read (v := ?_) (some 17) rfl (by rfl) ?_ ?_
  rotate_left
  · go_simp; (try with_reducible rfl)
  simp only [Act.put, stA_, st0_, st1_]
  refine wl_read (v := ?_) (some 18) rfl (by rfl) ?_ ?_
  rotate_left
  · go_simp; (try with_reducible rfl)
  simp only [Act.put, stA_, st0_, st1_]
  refine wl_read (v := ?_) (some 19) rfl (by rfl) ?_ ?_
  rotate_left
  · go_simp; (try with_reducible rfl)
  simp only [Act.put, stA_, st0_, st1_]
  refine wl_read (v := ?_) (some 20) rfl (by rfl) ?_ ?_
  rotate_left
  · go_simp; (try with_reducible rfl)
  simp only [Act.put, stA_, st0_, st1_]
  refine wl_read (v := ?_) (some 21) rfl (by rfl) ?_ ?_
  rotate_left
  · go_simp; (try with_reducible rfl)
  simp only [Act.put, stA_, st0_, st1_]
  refine wl_read (v := ?_) (some 22) rfl (by rfl) ?_ ?_
  rotate_left
  · go_simp; (try with_reducible rfl)
  simp only [Act.put, stA_, st0_, st1_]
  refine wl_read (v := ?_) (some 23) rfl (by rfl) ?_ ?_
  rotate_left
  · go_simp; (try with_reducible rfl)
  simp only [Act.put, stA_, st0_, st1_]
  refine wl_read (v := ?_) (some 24) rfl (by rfl) ?_ ?_
  rotate_left
  · go_simp; (try with_reducible rfl)
  simp only [Act.put, stA_, st0_, st1_]
  refine wl_load (some 25) rfl (by rfl) 53 (.tmp 1) rfl g0 rfl 53 (opCells o) _ O_4.out Try.underlying53 rfl (by kernel_rfl) ?_
  simp only [Act.put, stA_, st0_, st1_]
  go_wp2_with fail
  clear lw5
  refine (rest_any o _).mono ?_
  rintro e w6 ⟨rfl, hb6⟩
  have O_7 := Lib.hid (O_4.out.bl hb6)
  have Bel_7 := Lib.hid (bel_bl Bel_4.out hb6)
  clear hb6
  have lw8 : w6.cell? ⟨g0, 0, none⟩ = some (.int .i64 o.k) := O_7.out.cell (i := 0) rfl
  have lw9 : w6.cell? ⟨g0, 19, none⟩ = some (.int .i64 o.m) := O_7.out.cell (i := 19) rfl
  go_wp2_with fail
  clear lw8 lw9
  refine (rmayattr_any o.m _).mono ?_
  rintro e w10 ⟨rfl, hb10⟩
  have O_11 := Lib.hid (O_7.out.bl hb10)
  have Bel_11 := Lib.hid (bel_bl Bel_7.out hb10)
  clear hb10
  have lw12 : w10.cell? ⟨g0, 0, none⟩ = some (.int .i64 o.k) := O_11.out.cell (i := 0) rfl
  go_wp2
  go_ret
  exact ⟨rfl, Bel_11.out⟩
set_option maxRecDepth 100000 in
set_option maxHeartbeats 2000000 in
theorem rm_7n (o : OpT) (h0 : decide (o.k < 1) = false) (h9 : decide (8 < o.k) = false) (h1 : mayI o.s o.n = true) (h2 : restO o = zeroO) (hk : o.k = 7) (ht : RowKit.Hid (o.t.size ≤ maxLen)) (h3 : mayL o.t = false) (w : World) : Calls Try.prog 67 #[.agg (opCells o).toArray] w fun e w' => e = .returned (.int .i64 4) ∧ Below w.heap.size w w' := by
  have he : Try.prog.eqGuardType Try.prog.depth 53 = false := by kernel_rfl
  have hq := neq_op_run (restO o) zeroO
  rw [opCells_zero, decide_eq_true h2] at hq
  clear h2
  have q3 : (o.k == 3) = false := by rw [hk]; decide
  have q5 : (o.k == 5) = false := by rw [hk]; decide
  have q6 : (o.k == 6) = false := by rw [hk]; decide
  have q7 : (o.k == 7) = true := by rw [hk]; decide
  have q8 : (o.k == 8) = false := by rw [hk]; decide
  clear hk
  go_enter Try.func67, Try.ntmps67
  go_upto_region 1 with fail
  obtain ⟨W1, gW1⟩ : ∃ x, w.alloc (.cells (opCells o).toArray 53) = x := ⟨_, rfl⟩
  have HO : RowKit.Hid (Whole W1 w.heap.size 53 (opCells o)) := Lib.hid (by rw [← gW1]; exact Whole.new_ w _ _)
  have HB : RowKit.Hid (Below w.heap.size w W1) := Lib.hid (by rw [← gW1]; exact below1 _ _)
  rw [gW1]
  clear gW1
  obtain ⟨g0, gg0⟩ : ∃ x, w.heap.size = x := ⟨_, rfl⟩
  rw [gg0] at HO ⊢
  clear gg0
  have lw1 : W1.cell? ⟨g0, 1, none⟩ = some (.int .i64 o.s) := HO.out.cell (i := 1) rfl
  have lw2 : W1.cell? ⟨g0, 2, none⟩ = some (.int .i64 o.n) := HO.out.cell (i := 2) rfl
  go_wp2_with fail
  clear lw1 lw2
  refine (rmay_any o.s o.n _).mono ?_
  rintro e w3 ⟨rfl, hb3⟩
  have O_4 := Lib.hid (HO.out.bl hb3)
  have Bel_4 := Lib.hid (bel_bl HB.out hb3)
  clear hb3
  have lw5 : w3.cell? ⟨g0, 0, none⟩ = some (.int .i64 o.k) := O_4.out.cell (i := 0) rfl
  go_upto_region 2 with fail
  refine wp_region_lit ?_
  refine wl_read (v := ?_) (some 12) rfl (by rfl) ?_ ?_
  rotate_left
  · go_simp; (try with_reducible rfl)
  simp only [Act.put, stA_, st0_, st1_]
  refine wl_read (v := ?_) (some 13) rfl (by rfl) ?_ ?_
  rotate_left
  · go_simp; (try with_reducible rfl)
  simp only [Act.put, stA_, st0_, st1_]
  refine wl_read (v := ?_) (some 14) rfl (by rfl) ?_ ?_
  rotate_left
  · go_simp; (try with_reducible rfl)
  simp only [Act.put, stA_, st0_, st1_]
  refine wl_read (v := ?_) (some 15) rfl (by rfl) ?_ ?_
  rotate_left
  · go_simp; (try with_reducible rfl)
  simp only [Act.put, stA_, st0_, st1_]
  refine wl_read (v := ?_) (some 16) rfl (by rfl) ?_ ?_
  rotate_left
  · go_simp; (try with_reducible rfl)
  simp only [Act.put, stA_, st0_, st1_]
  refine wl_read (v := ?_) (some 17) rfl (by rfl) ?_ ?_
  rotate_left
  · go_simp; (try with_reducible rfl)
  simp only [Act.put, stA_, st0_, st1_]
  refine wl_read (v := ?_) (some 18) rfl (by rfl) ?_ ?_
  rotate_left
  · go_simp; (try with_reducible rfl)
  simp only [Act.put, stA_, st0_, st1_]
  refine wl_read (v := ?_) (some 19) rfl (by rfl) ?_ ?_
  rotate_left
  · go_simp; (try with_reducible rfl)
  simp only [Act.put, stA_, st0_, st1_]
  refine wl_read (v := ?_) (some 20) rfl (by rfl) ?_ ?_
  rotate_left
  · go_simp; (try with_reducible rfl)
  simp only [Act.put, stA_, st0_, st1_]
  refine wl_read (v := ?_) (some 21) rfl (by rfl) ?_ ?_
  rotate_left
  · go_simp; (try with_reducible rfl)
  simp only [Act.put, stA_, st0_, st1_]
  refine wl_read (v := ?_) (some 22) rfl (by rfl) ?_ ?_
  rotate_left
  · go_simp; (try with_reducible rfl)
  simp only [Act.put, stA_, st0_, st1_]
  refine wl_read (v := ?_) (some 23) rfl (by rfl) ?_ ?_
  rotate_left
  · go_simp; (try with_reducible rfl)
  simp only [Act.put, stA_, st0_, st1_]
  refine wl_read (v := ?_) (some 24) rfl (by rfl) ?_ ?_
  rotate_left
  · go_simp; (try with_reducible rfl)
  simp only [Act.put, stA_, st0_, st1_]
  refine wl_load (some 25) rfl (by rfl) 53 (.tmp 1) rfl g0 rfl 53 (opCells o) _ O_4.out Try.underlying53 rfl (by kernel_rfl) ?_
  simp only [Act.put, stA_, st0_, st1_]
  go_wp2_with fail
  clear lw5
  refine (rest_any o _).mono ?_
  rintro e w6 ⟨rfl, hb6⟩
  have O_7 := Lib.hid (O_4.out.bl hb6)
  have Bel_7 := Lib.hid (bel_bl Bel_4.out hb6)
  clear hb6
  have lw8 : w6.cell? ⟨g0, 0, none⟩ = some (.int .i64 o.k) := O_7.out.cell (i := 0) rfl
  have lw9 : w6.cell? ⟨g0, 18, none⟩ = some (.string o.t) := O_7.out.cell (i := 18) rfl
  go_wp2_with fail
  clear lw8 lw9
  refine (rmaylabel_any o.t ht.out _).mono ?_
  rintro e w10 ⟨rfl, hb10⟩
  have O_11 := Lib.hid (O_7.out.bl hb10)
  have Bel_11 := Lib.hid (bel_bl Bel_7.out hb10)
  clear hb10
  have lw12 : w10.cell? ⟨g0, 0, none⟩ = some (.int .i64 o.k) := O_11.out.cell (i := 0) rfl
  go_wp2
  go_ret
  exact ⟨rfl, Bel_11.out⟩
set_option maxRecDepth 100000 in
set_option maxHeartbeats 2000000 in
theorem rm_7y (o : OpT) (h0 : decide (o.k < 1) = false) (h9 : decide (8 < o.k) = false) (h1 : mayI o.s o.n = true) (h2 : restO o = zeroO) (hk : o.k = 7) (ht : RowKit.Hid (o.t.size ≤ maxLen)) (h3 : mayL o.t = true) (w : World) : Calls Try.prog 67 #[.agg (opCells o).toArray] w fun e w' => e = .returned (.int .i64 0) ∧ Below w.heap.size w w' := by
  have he : Try.prog.eqGuardType Try.prog.depth 53 = false := by kernel_rfl
  have hq := neq_op_run (restO o) zeroO
  rw [opCells_zero, decide_eq_true h2] at hq
  clear h2
  have q3 : (o.k == 3) = false := by rw [hk]; decide
  have q5 : (o.k == 5) = false := by rw [hk]; decide
  have q6 : (o.k == 6) = false := by rw [hk]; decide
  have q7 : (o.k == 7) = true := by rw [hk]; decide
  have q8 : (o.k == 8) = false := by rw [hk]; decide
  clear hk
  go_enter Try.func67, Try.ntmps67
  go_upto_region 1 with fail
  obtain ⟨W1, gW1⟩ : ∃ x, w.alloc (.cells (opCells o).toArray 53) = x := ⟨_, rfl⟩
  have HO : RowKit.Hid (Whole W1 w.heap.size 53 (opCells o)) := Lib.hid (by rw [← gW1]; exact Whole.new_ w _ _)
  have HB : RowKit.Hid (Below w.heap.size w W1) := Lib.hid (by rw [← gW1]; exact below1 _ _)
  rw [gW1]
  clear gW1
  obtain ⟨g0, gg0⟩ : ∃ x, w.heap.size = x := ⟨_, rfl⟩
  rw [gg0] at HO ⊢
  clear gg0
  have lw1 : W1.cell? ⟨g0, 1, none⟩ = some (.int .i64 o.s) := HO.out.cell (i := 1) rfl
  have lw2 : W1.cell? ⟨g0, 2, none⟩ = some (.int .i64 o.n) := HO.out.cell (i := 2) rfl
  go_wp2_with fail
  clear lw1 lw2
  refine (rmay_any o.s o.n _).mono ?_
  rintro e w3 ⟨rfl, hb3⟩
  have O_4 := Lib.hid (HO.out.bl hb3)
  have Bel_4 := Lib.hid (bel_bl HB.out hb3)
  clear hb3
  have lw5 : w3.cell? ⟨g0, 0, none⟩ = some (.int .i64 o.k) := O_4.out.cell (i := 0) rfl
  go_upto_region 2 with fail
  refine wp_region_lit ?_
  refine wl_read (v := ?_) (some 12) rfl (by rfl) ?_ ?_
  rotate_left
  · go_simp; (try with_reducible rfl)
  simp only [Act.put, stA_, st0_, st1_]
  refine wl_read (v := ?_) (some 13) rfl (by rfl) ?_ ?_
  rotate_left
  · go_simp; (try with_reducible rfl)
  simp only [Act.put, stA_, st0_, st1_]
  refine wl_read (v := ?_) (some 14) rfl (by rfl) ?_ ?_
  rotate_left
  · go_simp; (try with_reducible rfl)
  simp only [Act.put, stA_, st0_, st1_]
  refine wl_read (v := ?_) (some 15) rfl (by rfl) ?_ ?_
  rotate_left
  · go_simp; (try with_reducible rfl)
  simp only [Act.put, stA_, st0_, st1_]
  refine wl_read (v := ?_) (some 16) rfl (by rfl) ?_ ?_
  rotate_left
  · go_simp; (try with_reducible rfl)
  simp only [Act.put, stA_, st0_, st1_]
  refine wl_read (v := ?_) (some 17) rfl (by rfl) ?_ ?_
  rotate_left
  · go_simp; (try with_reducible rfl)
  simp only [Act.put, stA_, st0_, st1_]
  refine wl_read (v := ?_) (some 18) rfl (by rfl) ?_ ?_
  rotate_left
  · go_simp; (try with_reducible rfl)
  simp only [Act.put, stA_, st0_, st1_]
  refine wl_read (v := ?_) (some 19) rfl (by rfl) ?_ ?_
  rotate_left
  · go_simp; (try with_reducible rfl)
  simp only [Act.put, stA_, st0_, st1_]
  refine wl_read (v := ?_) (some 20) rfl (by rfl) ?_ ?_
  rotate_left
  · go_simp; (try with_reducible rfl)
  simp only [Act.put, stA_, st0_, st1_]
  refine wl_read (v := ?_) (some 21) rfl (by rfl) ?_ ?_
  rotate_left
  · go_simp; (try with_reducible rfl)
  simp only [Act.put, stA_, st0_, st1_]
  refine wl_read (v := ?_) (some 22) rfl (by rfl) ?_ ?_
  rotate_left
  · go_simp; (try with_reducible rfl)
  simp only [Act.put, stA_, st0_, st1_]
  refine wl_read (v := ?_) (some 23) rfl (by rfl) ?_ ?_
  rotate_left
  · go_simp; (try with_reducible rfl)
  simp only [Act.put, stA_, st0_, st1_]
  refine wl_read (v := ?_) (some 24) rfl (by rfl) ?_ ?_
  rotate_left
  · go_simp; (try with_reducible rfl)
  simp only [Act.put, stA_, st0_, st1_]
  refine wl_load (some 25) rfl (by rfl) 53 (.tmp 1) rfl g0 rfl 53 (opCells o) _ O_4.out Try.underlying53 rfl (by kernel_rfl) ?_
  simp only [Act.put, stA_, st0_, st1_]
  go_wp2_with fail
  clear lw5
  refine (rest_any o _).mono ?_
  rintro e w6 ⟨rfl, hb6⟩
  have O_7 := Lib.hid (O_4.out.bl hb6)
  have Bel_7 := Lib.hid (bel_bl Bel_4.out hb6)
  clear hb6
  have lw8 : w6.cell? ⟨g0, 0, none⟩ = some (.int .i64 o.k) := O_7.out.cell (i := 0) rfl
  have lw9 : w6.cell? ⟨g0, 18, none⟩ = some (.string o.t) := O_7.out.cell (i := 18) rfl
  go_wp2_with fail
  clear lw8 lw9
  refine (rmaylabel_any o.t ht.out _).mono ?_
  rintro e w10 ⟨rfl, hb10⟩
  have O_11 := Lib.hid (O_7.out.bl hb10)
  have Bel_11 := Lib.hid (bel_bl Bel_7.out hb10)
  clear hb10
  have lw12 : w10.cell? ⟨g0, 0, none⟩ = some (.int .i64 o.k) := O_11.out.cell (i := 0) rfl
  go_wp2
  go_ret
  exact ⟨rfl, Bel_11.out⟩
set_option maxRecDepth 100000 in
set_option maxHeartbeats 2000000 in
theorem rm_0y (o : OpT) (h0 : decide (o.k < 1) = false) (h9 : decide (8 < o.k) = false) (h1 : mayI o.s o.n = true) (h2 : restO o = zeroO) (q3 : (o.k == 3) = false) (q5 : (o.k == 5) = false) (q6 : (o.k == 6) = false) (q7 : (o.k == 7) = false) (q8 : (o.k == 8) = false) (w : World) : Calls Try.prog 67 #[.agg (opCells o).toArray] w fun e w' => e = .returned (.int .i64 0) ∧ Below w.heap.size w w' := by
  have he : Try.prog.eqGuardType Try.prog.depth 53 = false := by kernel_rfl
  have hq := neq_op_run (restO o) zeroO
  rw [opCells_zero, decide_eq_true h2] at hq
  clear h2
  go_enter Try.func67, Try.ntmps67
  go_upto_region 1 with fail
  obtain ⟨W1, gW1⟩ : ∃ x, w.alloc (.cells (opCells o).toArray 53) = x := ⟨_, rfl⟩
  have HO : RowKit.Hid (Whole W1 w.heap.size 53 (opCells o)) := Lib.hid (by rw [← gW1]; exact Whole.new_ w _ _)
  have HB : RowKit.Hid (Below w.heap.size w W1) := Lib.hid (by rw [← gW1]; exact below1 _ _)
  rw [gW1]
  clear gW1
  obtain ⟨g0, gg0⟩ : ∃ x, w.heap.size = x := ⟨_, rfl⟩
  rw [gg0] at HO ⊢
  clear gg0
  have lw1 : W1.cell? ⟨g0, 1, none⟩ = some (.int .i64 o.s) := HO.out.cell (i := 1) rfl
  have lw2 : W1.cell? ⟨g0, 2, none⟩ = some (.int .i64 o.n) := HO.out.cell (i := 2) rfl
  go_wp2_with fail
  clear lw1 lw2
  refine (rmay_any o.s o.n _).mono ?_
  rintro e w3 ⟨rfl, hb3⟩
  have O_4 := Lib.hid (HO.out.bl hb3)
  have Bel_4 := Lib.hid (bel_bl HB.out hb3)
  clear hb3
  have lw5 : w3.cell? ⟨g0, 0, none⟩ = some (.int .i64 o.k) := O_4.out.cell (i := 0) rfl
  go_upto_region 2 with fail
  refine wp_region_lit ?_
  refine wl_read (v := ?_) (some 12) rfl (by rfl) ?_ ?_
  rotate_left
  · go_simp; (try with_reducible rfl)
  simp only [Act.put, stA_, st0_, st1_]
  refine wl_read (v := ?_) (some 13) rfl (by rfl) ?_ ?_
  rotate_left
  · go_simp; (try with_reducible rfl)
  simp only [Act.put, stA_, st0_, st1_]
  refine wl_read (v := ?_) (some 14) rfl (by rfl) ?_ ?_
  rotate_left
  · go_simp; (try with_reducible rfl)
  simp only [Act.put, stA_, st0_, st1_]
  refine wl_read (v := ?_) (some 15) rfl (by rfl) ?_ ?_
  rotate_left
  · go_simp; (try with_reducible rfl)
  simp only [Act.put, stA_, st0_, st1_]
  refine wl_read (v := ?_) (some 16) rfl (by rfl) ?_ ?_
  rotate_left
  · go_simp; (try with_reducible rfl)
  simp only [Act.put, stA_, st0_, st1_]
  refine wl_read (v := ?_) (some 17) rfl (by rfl) ?_ ?_
  rotate_left
  · go_simp; (try with_reducible rfl)
  simp only [Act.put, stA_, st0_, st1_]
  refine wl_read (v := ?_) (some 18) rfl (by rfl) ?_ ?_
  rotate_left
  · go_simp; (try with_reducible rfl)
  simp only [Act.put, stA_, st0_, st1_]
  refine wl_read (v := ?_) (some 19) rfl (by rfl) ?_ ?_
  rotate_left
  · go_simp; (try with_reducible rfl)
  simp only [Act.put, stA_, st0_, st1_]
  refine wl_read (v := ?_) (some 20) rfl (by rfl) ?_ ?_
  rotate_left
  · go_simp; (try with_reducible rfl)
  simp only [Act.put, stA_, st0_, st1_]
  refine wl_read (v := ?_) (some 21) rfl (by rfl) ?_ ?_
  rotate_left
  · go_simp; (try with_reducible rfl)
  simp only [Act.put, stA_, st0_, st1_]
  refine wl_read (v := ?_) (some 22) rfl (by rfl) ?_ ?_
  rotate_left
  · go_simp; (try with_reducible rfl)
  simp only [Act.put, stA_, st0_, st1_]
  refine wl_read (v := ?_) (some 23) rfl (by rfl) ?_ ?_
  rotate_left
  · go_simp; (try with_reducible rfl)
  simp only [Act.put, stA_, st0_, st1_]
  refine wl_read (v := ?_) (some 24) rfl (by rfl) ?_ ?_
  rotate_left
  · go_simp; (try with_reducible rfl)
  simp only [Act.put, stA_, st0_, st1_]
  refine wl_load (some 25) rfl (by rfl) 53 (.tmp 1) rfl g0 rfl 53 (opCells o) _ O_4.out Try.underlying53 rfl (by kernel_rfl) ?_
  simp only [Act.put, stA_, st0_, st1_]
  go_wp2_with fail
  clear lw5
  refine (rest_any o _).mono ?_
  rintro e w6 ⟨rfl, hb6⟩
  have O_7 := Lib.hid (O_4.out.bl hb6)
  have Bel_7 := Lib.hid (bel_bl Bel_4.out hb6)
  clear hb6
  have lw8 : w6.cell? ⟨g0, 0, none⟩ = some (.int .i64 o.k) := O_7.out.cell (i := 0) rfl
  go_wp2
  go_ret
  exact ⟨rfl, Bel_7.out⟩
end Go.Proofs.Ytinfbaflkjghhaa
/- The contract of the document's own May for operations, whole: it is the program's. -/
namespace Go.Proofs.Ytinfbaflkjghhaa
open Go.RowKit
theorem mayO_rest (o : OpT) (h1 : mayI o.s o.n = true) : mayO o = if restO o = zeroO then (if fitsO o = true then (if mayL o.t = true then 0 else 4) else 1) else 1 := by
  have key : (fitsO o = true ∧ o = onlyO o) ↔ (restO o = zeroO ∧ fitsO o = true) := by
    obtain ⟨k, s, n, s1, n1, s2, n2, a0, a1, a2, a3, a4, b0, b1, b2, b3, b4, e, t, m⟩ := o
    unfold onlyO restO zeroO
    by_cases k3 : k = 3
    · subst k3
      simp
      constructor
      · rintro ⟨h, h2⟩; simp_all
      · rintro ⟨h, h2⟩; simp_all
    by_cases k5 : k = 5
    · subst k5
      simp
      constructor
      · rintro ⟨h, h2⟩; simp_all
      · rintro ⟨h, h2⟩; simp_all
    by_cases k6 : k = 6
    · subst k6
      simp
      constructor
      · rintro ⟨h, h2⟩; simp_all
      · rintro ⟨h, h2⟩; simp_all
    by_cases k7 : k = 7
    · subst k7
      simp
      constructor
      · rintro ⟨h, h2⟩; simp_all
      · rintro ⟨h, h2⟩; simp_all
    by_cases k8 : k = 8
    · subst k8
      simp
      constructor
      · rintro ⟨h, h2⟩; simp_all
      · rintro ⟨h, h2⟩; simp_all
    simp only [k3, k5, k6, k7, k8, if_false]
    simp
    constructor
    · rintro ⟨h, h2⟩; simp_all
    · rintro ⟨h, h2⟩; simp_all
  unfold mayO
  by_cases hz : restO o = zeroO
  · rw [if_pos hz]
    by_cases hf : fitsO o = true
    · rw [if_pos hf, if_pos ⟨h1, key.2 ⟨hz, hf⟩⟩]
    · rw [if_neg hf, if_neg (fun h => hf h.2.1)]
  · rw [if_neg hz, if_neg (fun h => hz (key.1 h.2).1)]
theorem mayL_empty : mayL ⟨#[]⟩ = true := by decide
theorem rmayop_any (o : OpT) (ht : o.t.size ≤ maxLen) : Pure 67 #[.agg (opCells o).toArray] (.int .i64 (mayO o)) := fun w => by
  have fin : ∀ {b : Int}, (Calls Try.prog 67 #[.agg (opCells o).toArray] w fun e w' => e = .returned (.int .i64 b) ∧ Below w.heap.size w w') → mayO o = b → Calls Try.prog 67 #[.agg (opCells o).toArray] w fun e w' => e = .returned (.int .i64 (mayO o)) ∧ Below w.heap.size w w' := fun h e => e ▸ h
  by_cases h0 : o.k < 1
  · refine fin (rm_lo o (decide_eq_true h0) w) ?_
    unfold mayO fitsO
    rw [if_neg]
    rintro ⟨-, h, -⟩
    rw [if_neg (by omega), if_neg (by omega), if_neg (by omega), if_neg (by omega), if_neg (by omega)] at h
    cases h
  by_cases h9 : 8 < o.k
  · refine fin (rm_hi o (decide_eq_false h0) (decide_eq_true h9) w) ?_
    unfold mayO fitsO
    rw [if_neg]
    rintro ⟨-, h, -⟩
    rw [if_neg (by omega), if_neg (by omega), if_neg (by omega), if_neg (by omega), if_neg (by omega)] at h
    cases h
  by_cases h1 : mayI o.s o.n = true
  case neg =>
    refine fin (rm_id o (decide_eq_false h0) (decide_eq_false h9) (by simpa using h1) w) ?_
    unfold mayO
    rw [if_neg (fun h => h1 h.1)]
  have hm := mayO_rest o h1
  by_cases h2 : restO o = zeroO
  case neg =>
    refine fin (rm_rest o (decide_eq_false h0) (decide_eq_false h9) h1 h2 w) ?_
    rw [hm, if_neg h2]
  rw [if_pos h2] at hm
  have ht0 : o.k ≠ 7 → o.t = ⟨#[]⟩ := fun hk => by
    have := congrArg OpT.t h2
    unfold restO at this
    repeat' split at this
    all_goals first | exact this | (exfalso; omega)
  by_cases k3 : o.k = 3
  · have hf : fitsO o = (mayC o.a0 o.a1 o.a2 o.a3 o.a4 && mayC o.b0 o.b1 o.b2 o.b3 o.b4) := by
      unfold fitsO
      rw [if_neg (by omega), if_pos k3]
    rw [hf, ht0 (by omega), mayL_empty] at hm
    by_cases h3 : mayC o.a0 o.a1 o.a2 o.a3 o.a4 = true
    · by_cases h4 : mayC o.b0 o.b1 o.b2 o.b3 o.b4 = true
      · exact fin (rm_3y o (decide_eq_false h0) (decide_eq_false h9) h1 h2 k3 h3 h4 w) (by rw [hm, h3, h4]; rfl)
      · have h4' : mayC o.b0 o.b1 o.b2 o.b3 o.b4 = false := by simpa using h4
        exact fin (rm_3m o (decide_eq_false h0) (decide_eq_false h9) h1 h2 k3 h3 h4' w) (by rw [hm, h3, h4']; rfl)
    · have h3' : mayC o.a0 o.a1 o.a2 o.a3 o.a4 = false := by simpa using h3
      exact fin (rm_3n o (decide_eq_false h0) (decide_eq_false h9) h1 h2 k3 h3' w) (by rw [hm, h3']; rfl)
  by_cases k5 : o.k = 5
  · have hf : fitsO o = (mayI o.s1 o.n1 && mayI o.s2 o.n2 && decide (0 ≤ o.m ∧ o.m ≤ 3)) := by
      unfold fitsO
      rw [if_neg (by omega), if_neg k3, if_pos k5]
    rw [hf, ht0 (by omega), mayL_empty] at hm
    by_cases h3 : mayI o.s1 o.n1 = true
    case neg =>
      have h3' : mayI o.s1 o.n1 = false := by simpa using h3
      exact fin (rm_5a o (decide_eq_false h0) (decide_eq_false h9) h1 h2 k5 h3' w) (by rw [hm, h3']; rfl)
    by_cases h4 : mayI o.s2 o.n2 = true
    case neg =>
      have h4' : mayI o.s2 o.n2 = false := by simpa using h4
      exact fin (rm_5b o (decide_eq_false h0) (decide_eq_false h9) h1 h2 k5 h3 h4' w) (by rw [hm, h3, h4']; rfl)
    by_cases h5 : o.m < 0
    · exact fin (rm_5c o (decide_eq_false h0) (decide_eq_false h9) h1 h2 k5 h3 h4 (decide_eq_true h5) w) (by rw [hm, h3, h4, decide_eq_false (by omega)]; rfl)
    by_cases h6 : 3 < o.m
    · exact fin (rm_5d o (decide_eq_false h0) (decide_eq_false h9) h1 h2 k5 h3 h4 (decide_eq_false h5) (decide_eq_true h6) w) (by rw [hm, h3, h4, decide_eq_false (by omega)]; rfl)
    · exact fin (rm_5y o (decide_eq_false h0) (decide_eq_false h9) h1 h2 k5 h3 h4 (decide_eq_false h5) (decide_eq_false h6) w) (by rw [hm, h3, h4, decide_eq_true (by omega)]; rfl)
  by_cases k6 : o.k = 6
  · have hf : fitsO o = mayI o.s2 o.n2 := by
      unfold fitsO
      rw [if_neg (by omega), if_neg k3, if_neg k5, if_pos k6]
    rw [hf, ht0 (by omega), mayL_empty] at hm
    by_cases h3 : mayI o.s2 o.n2 = true
    · exact fin (rm_6y o (decide_eq_false h0) (decide_eq_false h9) h1 h2 k6 h3 w) (by rw [hm, h3]; rfl)
    · have h3' : mayI o.s2 o.n2 = false := by simpa using h3
      exact fin (rm_6n o (decide_eq_false h0) (decide_eq_false h9) h1 h2 k6 h3' w) (by rw [hm, h3']; rfl)
  by_cases k8 : o.k = 8
  · have hf : fitsO o = mayAt o.m := by
      unfold fitsO
      rw [if_neg (by omega), if_neg k3, if_neg k5, if_neg k6, if_pos k8]
    rw [hf, ht0 (by omega), mayL_empty] at hm
    by_cases h3 : mayAt o.m = true
    · exact fin (rm_8y o (decide_eq_false h0) (decide_eq_false h9) h1 h2 k8 h3 w) (by rw [hm, h3]; rfl)
    · have h3' : mayAt o.m = false := by simpa using h3
      exact fin (rm_8n o (decide_eq_false h0) (decide_eq_false h9) h1 h2 k8 h3' w) (by rw [hm, h3']; rfl)
  have hf : fitsO o = true := by
    unfold fitsO
    rw [if_pos (by omega)]
  rw [hf, if_pos rfl] at hm
  by_cases k7 : o.k = 7
  · by_cases h3 : mayL o.t = true
    · exact fin (rm_7y o (decide_eq_false h0) (decide_eq_false h9) h1 h2 k7 (Lib.hid ht) h3 w) (by rw [hm, h3]; rfl)
    · have h3' : mayL o.t = false := by simpa using h3
      exact fin (rm_7n o (decide_eq_false h0) (decide_eq_false h9) h1 h2 k7 (Lib.hid ht) h3' w) (by rw [hm, h3']; rfl)
  · rw [ht0 k7, mayL_empty] at hm
    exact fin (rm_0y o (decide_eq_false h0) (decide_eq_false h9) h1 h2 (by simpa using k3) (by simpa using k5) (by simpa using k6) (by simpa using k7) (by simpa using k8) w) (by rw [hm]; rfl)
end Go.Proofs.Ytinfbaflkjghhaa
/- The contracts of op.MayEdit and of the document's own. -/
namespace Go.Proofs.Ytinfbaflkjghhaa
open Go.RowKit
/-- What is wrong with the first of them that is wrong. -/
def mayEs : List OpT → Int
  | [] => 0
  | o :: l => if mayO o = 0 then mayEs l else mayO o
/-- What is wrong with an edit. -/
def mayE (L : List OpT) : Int := if L.length < 1 ∨ 6 < L.length then 3 else mayEs L
theorem mayEs_app (l m : List OpT) : mayEs (l ++ m) = if mayEs l = 0 then mayEs m else mayEs l := by
  induction l with
  | nil => simp [mayEs]
  | cons o l ih =>
    simp only [List.cons_append, mayEs]
    by_cases h : mayO o = 0
    · simp [h, ih]
    · simp [h]
theorem mayEs_next (L : List OpT) (k : Nat) (o : OpT) (h : L[k]? = some o) (h0 : mayEs (L.take k) = 0) (ho : mayO o = 0) : mayEs (L.take (k + 1)) = 0 := by
  rw [take_snoc_ L k o h, mayEs_app, if_pos h0]
  simp [mayEs, ho]
theorem mayEs_stop (L : List OpT) (k : Nat) (o : OpT) (h : L[k]? = some o) (h0 : mayEs (L.take k) = 0) (ho : mayO o ≠ 0) : mayEs L = mayO o := by
  have e : L = L.take (k + 1) ++ L.drop (k + 1) := (List.take_append_drop _ _).symm
  rw [e, take_snoc_ L k o h, List.append_assoc, mayEs_app, if_pos h0]
  simp [mayEs, ho]
theorem opCells_len' (o : OpT) : (opCells o).length = 20 := rfl
theorem opCells_one (o : OpT) : ∀ u ∈ opCells o, u.oneCell' = true := by simp [opCells, Value.oneCell']
theorem opCells_all (o : OpT) : (opCells o).toArray.all (·.oneCell') = true := by simp [opCells, Value.oneCell']
/-- How a round of the loop over an edit stands. -/
def EdIn (L : List OpT) (W1 : World) (k : Nat) (wr : World) : Prop := Ext W1 wr ∧ mayEs (L.take k) = 0
set_option maxRecDepth 100000 in
set_option maxHeartbeats 2000000 in
theorem mayedit_any (A : Option Addr) (n c : Nat) (L : List OpT) (w : World) (h : RdS w w.heap.size 20 A n c (rowsV opCells L)) (hn : n ≤ maxLen) :
    Calls Try.prog 41 #[.agg #[.slice A n c]] w fun e w' => e = .returned (.int .i64 (mayE L)) ∧ Below w.heap.size w w' := by
  have hl := h.rlen opCells_len' (by decide)
  unfold maxLen at hn
  by_cases h1 : n < 1
  · have hm : mayE L = 3 := by unfold mayE; rw [if_pos (by omega)]
    rw [hm]
    have q1 : decide ((n : Int) < 1) = true := decide_eq_true (by omega)
    clear hm hl h1
    go_enter Try.func41, Try.ntmps41
    go_wp2
    go_ret
    exact ⟨rfl, below1 _ _⟩
  have q1 : decide ((n : Int) < 1) = false := decide_eq_false (by omega)
  by_cases h6 : 6 < n
  · have hm : mayE L = 3 := by unfold mayE; rw [if_pos (by omega)]
    rw [hm]
    have q6 : decide ((6 : Int) < (n : Int)) = true := decide_eq_true (by omega)
    clear hm hl h1
    go_enter Try.func41, Try.ntmps41
    go_wp2
    go_ret
    exact ⟨rfl, below1 _ _⟩
  have q6 : decide ((6 : Int) < (n : Int)) = false := decide_eq_false (by omega)
  have hm : mayE L = mayEs L := by unfold mayE; rw [if_neg (by omega)]
  have HM := Lib.hid hm
  have HR := Lib.hid h
  obtain rfl := hl
  clear hm h
  go_enter Try.func41, Try.ntmps41
  go_wp2
  clear q1 q6
  obtain ⟨W1, gW1⟩ : ∃ x, w.alloc (.cells #[.slice A L.length c] 28) = x := ⟨_, rfl⟩
  have HB : RowKit.Hid (Below w.heap.size w W1) := Lib.hid (by rw [← gW1]; exact below1 _ _)
  have HRd : RowKit.Hid (RdS W1 W1.heap.size 20 A L.length c (rowsV opCells L)) := Lib.hid (by rw [← gW1]; exact HR.out.al _)
  have HE : RowKit.Hid (Whole W1 w.heap.size 28 [.slice A L.length c]) := Lib.hid (by rw [← gW1]; exact Whole.new_ w _ [_])
  rw [gW1]
  clear gW1
  obtain ⟨g0, gg0⟩ : ∃ x, w.heap.size = x := ⟨_, rfl⟩
  rw [gg0] at HE ⊢
  clear gg0
  go_loopw [19] (fun i wr => ∃ k : Nat, k ≤ L.length ∧ i = .int .i64 k ∧ RowKit.Hid (EdIn L W1 k wr)) (fun i _ => L.length - (intOf i).toNat)
  case atStart => exact ⟨0, Nat.zero_le _, rfl, Lib.hid ⟨Ext.refl _, rfl⟩⟩
  case round =>
    rename_i wr _
    obtain ⟨k, hk, rfl, hin⟩ := hrel
    by_cases hlt : k < L.length
    · have hk0 : L[k]? = some (L[k]'(by omega)) := List.getElem?_eq_getElem _
      obtain ⟨o, go⟩ : ∃ o, L[k]'(by omega) = o := ⟨_, rfl⟩
      rw [go] at hk0
      have HK := Lib.hid hk0
      have HRd2 := Lib.hid (HRd.out.bl hin.out.1)
      obtain ⟨b, off, rfl, hbB, hpl⟩ := HRd2.out.place opCells_len' (by decide) (by omega)
      have HP := Lib.hid (hpl k o hk0)
      clear go hk0 hpl hbB
      obtain ⟨x, gx⟩ : ∃ x, mayO o = x := ⟨_, rfl⟩
      have HC := Lib.hid (mayop_any o)
      rw [gx] at HC
      have HX := Lib.hid gx
      clear gx
      go_upto_region 5 with fail
      refine wp_region_lit ?_
      refine wl_read (v := ?_) (some 21) rfl (by rfl) ?_ ?_
      rotate_left
      · go_simp; (try with_reducible rfl)
      simp only [Act.put, stA_, st0_, st1_]
      refine wl_load_at (some 22) rfl (by rfl) 53 (.tmp 21) rfl ⟨b, off + k * 20, none⟩ rfl (opCells o) _ HP.out Try.underlying53 rfl (by kernel_rfl) ?_
      simp only [Act.put, stA_, st0_, st1_]
      refine wl_new 4 rfl rfl rfl 53 (.tmp 22) rfl rfl #[.int .i64 0, .int .i64 0, .int .i64 0, .int .i64 0, .int .i64 0, .int .i64 0, .int .i64 0, .int .i64 0, .int .i64 0, .int .i64 0, .int .i64 0, .int .i64 0, .int .i64 0, .int .i64 0, .int .i64 0, .int .i64 0, .int .i64 0, .bool false, .string ⟨#[]⟩, .int .i64 0] ?_ (opCells o).toArray (by simp) rfl (by kernel_rfl) rfl (opCells_all o) ?_
      · go_simp; (try with_reducible rfl)
      simp only [Act.put, stA_, st0_, st1_]
      have HX2 : RowKit.Hid (Ext W1 (wr.alloc (.cells (opCells o).toArray 53))) := Lib.hid (hin.out.1.trans (below1 _ _))
      have HN : RowKit.Hid (Whole (wr.alloc (.cells (opCells o).toArray 53)) wr.heap.size 53 (opCells o)) := Lib.hid (Whole.new_ _ _ _)
      obtain ⟨W2, gW2⟩ : ∃ x, wr.alloc (.cells (opCells o).toArray 53) = x := ⟨_, rfl⟩
      obtain ⟨g2, gg2⟩ : ∃ x, wr.heap.size = x := ⟨_, rfl⟩
      rw [gW2] at HX2 HN ⊢
      rw [gg2] at HN ⊢
      clear gW2 gg2
      go_upto_region 6 with fail
      refine wp_region_lit ?_
      refine wl_load (some 23) rfl (by rfl) 53 (.tmp 4) rfl g2 rfl 53 (opCells o) _ HN.out Try.underlying53 rfl (by kernel_rfl) ?_
      simp only [Act.put, stA_, st0_, st1_]
      go_wp2_with fail
      refine (HC.out _).mono ?_
      rintro e w3 ⟨rfl, hb3⟩
      have HX3 := Lib.hid (HX2.out.trans hb3)
      clear hb3
      by_cases hx : x = 0
      · subst hx
        have HI : RowKit.Hid (EdIn L W1 (k + 1) w3) := Lib.hid ⟨HX3.out, mayEs_next L k o HK.out hin.out.2 HX.out⟩
        go_wp2
        go_roundw
        case rel => exact ⟨k + 1, by omega, by go_num, HI⟩
        case measure => simp [intOf]; omega
      · have q : (x == 0) = false := by simpa using hx
        have q' : (x != 0) = true := by simpa using hx
        have HR9 : RowKit.Hid (mayEs L = x) := Lib.hid (by rw [mayEs_stop L k o HK.out hin.out.2 (by rw [HX.out]; exact hx), HX.out])
        clear hx
        go_wp2
        go_ret
        exact ⟨ret_int (by rw [HM.out, HR9.out]), HB.out.trans (HX3.out.mono HB.out.size)⟩
    · have HR9 : RowKit.Hid (mayEs L = 0) := Lib.hid (by have := hin.out.2; rwa [List.take_of_length_le (by omega)] at this)
      go_wp2
      go_ret
      exact ⟨ret_int (by rw [HM.out, HR9.out]), HB.out.trans (hin.out.1.mono HB.out.size)⟩
set_option maxRecDepth 100000 in
set_option maxHeartbeats 2000000 in
theorem rmayedit_any (A : Option Addr) (n c : Nat) (L : List OpT) (w : World) (h : RdS w w.heap.size 20 A n c (rowsV opCells L)) (hn : n ≤ maxLen) (ht : ∀ o ∈ L, o.t.size ≤ maxLen) :
    Calls Try.prog 44 #[.agg #[.slice A n c]] w fun e w' => e = .returned (.int .i64 (mayE L)) ∧ Below w.heap.size w w' := by
  have hl := h.rlen opCells_len' (by decide)
  unfold maxLen at hn
  have HT := Lib.hid ht
  clear ht
  by_cases h1 : n < 1
  · have hm : mayE L = 3 := by unfold mayE; rw [if_pos (by omega)]
    rw [hm]
    have q1 : decide ((n : Int) < 1) = true := decide_eq_true (by omega)
    clear hm hl h1
    go_enter Try.func44, Try.ntmps44
    go_wp2
    go_ret
    exact ⟨rfl, below1 _ _⟩
  have q1 : decide ((n : Int) < 1) = false := decide_eq_false (by omega)
  by_cases h6 : 6 < n
  · have hm : mayE L = 3 := by unfold mayE; rw [if_pos (by omega)]
    rw [hm]
    have q6 : decide ((6 : Int) < (n : Int)) = true := decide_eq_true (by omega)
    clear hm hl h1
    go_enter Try.func44, Try.ntmps44
    go_wp2
    go_ret
    exact ⟨rfl, below1 _ _⟩
  have q6 : decide ((6 : Int) < (n : Int)) = false := decide_eq_false (by omega)
  have hm : mayE L = mayEs L := by unfold mayE; rw [if_neg (by omega)]
  have HM := Lib.hid hm
  have HR := Lib.hid h
  obtain rfl := hl
  clear hm h
  go_enter Try.func44, Try.ntmps44
  go_wp2
  clear q1 q6
  obtain ⟨W1, gW1⟩ : ∃ x, w.alloc (.cells #[.slice A L.length c] 28) = x := ⟨_, rfl⟩
  have HB : RowKit.Hid (Below w.heap.size w W1) := Lib.hid (by rw [← gW1]; exact below1 _ _)
  have HRd : RowKit.Hid (RdS W1 W1.heap.size 20 A L.length c (rowsV opCells L)) := Lib.hid (by rw [← gW1]; exact HR.out.al _)
  have HE : RowKit.Hid (Whole W1 w.heap.size 28 [.slice A L.length c]) := Lib.hid (by rw [← gW1]; exact Whole.new_ w _ [_])
  rw [gW1]
  clear gW1
  obtain ⟨g0, gg0⟩ : ∃ x, w.heap.size = x := ⟨_, rfl⟩
  rw [gg0] at HE ⊢
  clear gg0
  go_loopw [3] (fun i wr => ∃ k : Nat, k ≤ L.length ∧ i = .int .i64 k ∧ RowKit.Hid (EdIn L W1 k wr)) (fun i _ => L.length - (intOf i).toNat)
  case atStart => exact ⟨0, Nat.zero_le _, rfl, Lib.hid ⟨Ext.refl _, rfl⟩⟩
  case round =>
    rename_i wr _
    obtain ⟨k, hk, rfl, hin⟩ := hrel
    have le := (HE.out.bl hin.out.1).cell (i := 0) rfl
    by_cases hlt : k < L.length
    · have hk0 : L[k]? = some (L[k]'(by omega)) := List.getElem?_eq_getElem _
      obtain ⟨o, go⟩ : ∃ o, L[k]'(by omega) = o := ⟨_, rfl⟩
      rw [go] at hk0
      have HK := Lib.hid hk0
      have HRd2 := Lib.hid (HRd.out.bl hin.out.1)
      obtain ⟨b, off, rfl, hbB, hpl⟩ := HRd2.out.place opCells_len' (by decide) (by omega)
      have HP := Lib.hid (hpl k o hk0)
      clear go hk0 hpl hbB
      obtain ⟨x, gx⟩ : ∃ x, mayO o = x := ⟨_, rfl⟩
      have HC := Lib.hid (rmayop_any o (HT.out o (List.mem_of_getElem? HK.out)))
      rw [gx] at HC
      have HX := Lib.hid gx
      clear gx
      go_upto_region 6 with fail
      refine wp_region_lit ?_
      refine wl_read (v := ?_) (some 22) rfl (by rfl) ?_ ?_
      rotate_left
      · go_simp; (try with_reducible rfl)
      simp only [Act.put, stA_, st0_, st1_]
      refine wl_read (v := ?_) (some 23) rfl (by rfl) ?_ ?_
      rotate_left
      · go_simp; (try with_reducible rfl)
      simp only [Act.put, stA_, st0_, st1_]
      refine wl_read (v := ?_) (some 24) rfl (by rfl) ?_ ?_
      rotate_left
      · go_simp; (try with_reducible rfl)
      simp only [Act.put, stA_, st0_, st1_]
      refine wl_read (v := ?_) (some 25) rfl (by rfl) ?_ ?_
      rotate_left
      · go_simp; (try with_reducible rfl)
      simp only [Act.put, stA_, st0_, st1_]
      refine wl_load_at (some 26) rfl (by rfl) 53 (.tmp 25) rfl ⟨b, off + k * 20, none⟩ rfl (opCells o) _ HP.out Try.underlying53 rfl (by kernel_rfl) ?_
      simp only [Act.put, stA_, st0_, st1_]
      have HX2 := Lib.hid hin.out.1
      go_wp2_with fail
      refine (HC.out _).mono ?_
      rintro e w3 ⟨rfl, hb3⟩
      have HX3 := Lib.hid (HX2.out.trans hb3)
      clear hb3
      by_cases hx : x = 0
      · subst hx
        have HI : RowKit.Hid (EdIn L W1 (k + 1) w3) := Lib.hid ⟨HX3.out, mayEs_next L k o HK.out hin.out.2 HX.out⟩
        go_wp2
        go_roundw
        case rel => exact ⟨k + 1, by omega, by go_num, HI⟩
        case measure => simp [intOf]; omega
      · have q : (x == 0) = false := by simpa using hx
        have q' : (x != 0) = true := by simpa using hx
        have HR9 : RowKit.Hid (mayEs L = x) := Lib.hid (by rw [mayEs_stop L k o HK.out hin.out.2 (by rw [HX.out]; exact hx), HX.out])
        clear hx
        go_wp2
        go_ret
        exact ⟨ret_int (by rw [HM.out, HR9.out]), HB.out.trans (HX3.out.mono HB.out.size)⟩
    · have HR9 : RowKit.Hid (mayEs L = 0) := Lib.hid (by have := hin.out.2; rwa [List.take_of_length_le (by omega)] at this)
      go_wp2
      go_ret
      exact ⟨ret_int (by rw [HM.out, HR9.out]), HB.out.trans (hin.out.1.mono HB.out.size)⟩
end Go.Proofs.Ytinfbaflkjghhaa
/- Edits as bytes, and what bytes are read as: numbers alone. -/
namespace Go.Proofs.Ytinfbaflkjghhaa
open Go.RowKit
/-- A flag's byte. -/
def fl (e : Bool) : Nat := if e then 1 else 0
abbrev C5 := Int × Int × Int × Int × Int
/-- A corner's bytes. -/
def crB (c : C5) : List Nat := idB (c.1, c.2.1) ++ (if c.2.2.1 = 0 ∧ c.2.2.2.1 = 0 ∧ c.2.2.2.2 = 0 then [0] else ((1 + c.2.2.2.2) % 256).toNat :: idB (c.2.2.1, c.2.2.2.1))
def OpT.ca (o : OpT) : C5 := (o.a0, o.a1, o.a2, o.a3, o.a4)
def OpT.cb (o : OpT) : C5 := (o.b0, o.b1, o.b2, o.b3, o.b4)
/-- What an operation has beside its kind and its name. -/
def fdB (o : OpT) : List Nat :=
  if o.k = 3 then crB o.ca ++ crB o.cb
  else if o.k = 5 then idB (o.s1, o.n1) ++ (idB (o.s2, o.n2) ++ [(o.m % 256).toNat])
  else if o.k = 6 then idB (o.s2, o.n2)
  else if o.k = 7 then fl o.e :: textB o.t
  else if o.k = 8 then fl o.e :: be8 o.m
  else []
def opB (o : OpT) : List Nat := (o.k % 256).toNat :: (idB (o.s, o.n) ++ fdB o)
/-- An edit's bytes. -/
def edB (L : List OpT) : List Nat := L.length % 256 :: L.flatMap opB
/-- A name as it is read, and what is left. -/
def vI (L : List Nat) : Int × Int := if 4 ≤ L.length then tk4 L else (0, 0)
def lI (L : List Nat) : List Nat := if 4 ≤ L.length then L.drop 4 else L
def crV (L : List Nat) : C5 := if 0 < c1 (lI L) then ((vI L).1, (vI L).2, (vI ((lI L).drop 1)).1, (vI ((lI L).drop 1)).2, (c1 (lI L) : Int) - 1) else ((vI L).1, (vI L).2, 0, 0, 0)
def crL (L : List Nat) : List Nat := if 0 < c1 (lI L) then lI ((lI L).drop 1) else (lI L).drop 1
def vM (L : List Nat) : Int := if 8 ≤ L.length then num8 (L.take 8) else 0
def lM (L : List Nat) : List Nat := if 8 ≤ L.length then L.drop 8 else L
/-- An operation as it is read behind its kind and its name. -/
def fdV (k : Nat) (x : Int × Int) (M : List Nat) : OpT :=
  if k = 3 then ⟨3, x.1, x.2, 0, 0, 0, 0, (crV M).1, (crV M).2.1, (crV M).2.2.1, (crV M).2.2.2.1, (crV M).2.2.2.2, (crV (crL M)).1, (crV (crL M)).2.1, (crV (crL M)).2.2.1, (crV (crL M)).2.2.2.1, (crV (crL M)).2.2.2.2, false, ⟨#[]⟩, 0⟩
  else if k = 5 then ⟨5, x.1, x.2, (vI M).1, (vI M).2, (vI (lI M)).1, (vI (lI M)).2, 0, 0, 0, 0, 0, 0, 0, 0, 0, 0, false, ⟨#[]⟩, (c1 (lI (lI M)) : Int)⟩
  else if k = 6 then ⟨6, x.1, x.2, 0, 0, (vI M).1, (vI M).2, 0, 0, 0, 0, 0, 0, 0, 0, 0, 0, false, ⟨#[]⟩, 0⟩
  else if k = 7 then ⟨7, x.1, x.2, 0, 0, 0, 0, 0, 0, 0, 0, 0, 0, 0, 0, 0, 0, decide (c1 M ≠ 0), txT (M.drop 1), 0⟩
  else if k = 8 then ⟨8, x.1, x.2, 0, 0, 0, 0, 0, 0, 0, 0, 0, 0, 0, 0, 0, 0, decide (c1 M ≠ 0), ⟨#[]⟩, vM (M.drop 1)⟩
  else ⟨(k : Int), x.1, x.2, 0, 0, 0, 0, 0, 0, 0, 0, 0, 0, 0, 0, 0, 0, false, ⟨#[]⟩, 0⟩
def fdL (k : Nat) (M : List Nat) : List Nat :=
  if k = 3 then crL (crL M)
  else if k = 5 then (lI (lI M)).drop 1
  else if k = 6 then lI M
  else if k = 7 then leT (M.drop 1)
  else if k = 8 then lM (M.drop 1)
  else M
def opV (L : List Nat) : OpT := fdV (c1 L) (vI (L.drop 1)) (lI (L.drop 1))
def opL (L : List Nat) : List Nat := fdL (c1 L) (lI (L.drop 1))
def edV : Nat → List Nat → List OpT
  | 0, _ => []
  | n + 1, L => opV L :: edV n (opL L)
def edL : Nat → List Nat → List Nat
  | 0, L => L
  | n + 1, L => edL n (opL L)
/-- Whether what is read stands there. -/
def okC (L : List Nat) : Bool := idT L && (decide (1 ≤ (L.drop 4).length) && (decide (c1 (L.drop 4) ≤ 2) && (decide (c1 (L.drop 4) = 0) || idT ((L.drop 4).drop 1))))
def okF (L : List Nat) : Bool := decide (1 ≤ L.length) && decide (c1 L ≤ 1)
def okFd (k : Nat) (M : List Nat) : Bool :=
  if k = 3 then okC M && okC (crL M)
  else if k = 5 then idT M && (idT (M.drop 4) && decide (1 ≤ ((M.drop 4).drop 4).length))
  else if k = 6 then idT M
  else if k = 7 then okF M && isT (M.drop 1)
  else if k = 8 then okF M && decide (8 ≤ (M.drop 1).length)
  else true
def okO (L : List Nat) : Bool := decide (1 ≤ L.length) && (idT (L.drop 1) && okFd (c1 L) ((L.drop 1).drop 4))
def okN : Nat → List Nat → Bool
  | 0, _ => true
  | n + 1, L => okO L && okN n (opL L)
theorem idT_vI {L : List Nat} (h : idT L = true) : vI L = nm4 L ∧ lI L = L.drop 4 := by
  obtain ⟨h1, h2⟩ := of_decide_eq_true h
  unfold vI lI tk4
  rw [if_pos h1, if_pos h1, if_pos h2]
  exact ⟨rfl, rfl⟩
theorem idT_B {x : Int × Int} (R : List Nat) (h : mayI x.1 x.2 = true) : idT (idB x ++ R) = true ∧ vI (idB x ++ R) = x ∧ lI (idB x ++ R) = R := by
  have h1 : 4 ≤ (idB x ++ R).length := by simp [idB]
  have ht : tk4 (idB x ++ R) = x := tk4_idB h
  have hn : nm4 (idB x ++ R) = nm4 (idB x) := rfl
  have h2 : nm4 (idB x) = x := by
    have := tk4_idB h
    unfold tk4 at this
    by_cases hq : mayI (nm4 (idB x)).1 (nm4 (idB x)).2 = true
    · rwa [if_pos hq] at this
    · rw [if_neg hq] at this
      rw [← this] at h
      exact absurd h (by decide)
  refine ⟨decide_eq_true ⟨h1, by rw [hn, h2]; exact h⟩, ?_, ?_⟩
  · unfold vI; rw [if_pos h1, ht]
  · unfold lI; rw [if_pos h1, drop_app (A := idB x) (n := 4) rfl]
/-- Four bytes that are a name are those that it is laid down as. -/
theorem idB_nm4 {L : List Nat} (hb : ∀ b ∈ L, b < 256) (h : 4 ≤ L.length) : idB (nm4 L) ++ L.drop 4 = L := by
  match L, h with
  | a :: b :: c :: d :: K, _ =>
    have := hb a (by simp); have := hb b (by simp); have := hb c (by simp); have := hb d (by simp)
    simp only [idB, nm4, List.getD_cons_zero, List.getD_cons_succ, List.drop_succ_cons, List.drop_zero, List.cons_append, List.nil_append, List.cons.injEq, and_true]
    omega
theorem c1_cons {L : List Nat} (h : 1 ≤ L.length) : c1 L :: L.drop 1 = L := by
  cases L with
  | nil => simp at h
  | cons a l => rfl
theorem drop_lt {L : List Nat} (h : ∀ b ∈ L, b < 256) (n : Nat) : ∀ b ∈ L.drop n, b < 256 := fun b hb => h b (List.mem_of_mem_drop hb)
theorem lI_lt {L : List Nat} (h : ∀ b ∈ L, b < 256) : ∀ b ∈ lI L, b < 256 := by
  unfold lI; split
  · exact drop_lt h 4
  · exact h
theorem crL_lt {L : List Nat} (h : ∀ b ∈ L, b < 256) : ∀ b ∈ crL L, b < 256 := by
  unfold crL; split
  · exact lI_lt (drop_lt (lI_lt h) 1)
  · exact drop_lt (lI_lt h) 1
theorem leT_lt {L : List Nat} (h : ∀ b ∈ L, b < 256) : ∀ b ∈ leT L, b < 256 := by
  unfold leT; split
  · exact drop_lt h _
  · exact h
theorem lM_lt {L : List Nat} (h : ∀ b ∈ L, b < 256) : ∀ b ∈ lM L, b < 256 := by
  unfold lM; split
  · exact drop_lt h _
  · exact h
theorem fdL_lt {L : List Nat} (k : Nat) (h : ∀ b ∈ L, b < 256) : ∀ b ∈ fdL k L, b < 256 := by
  unfold fdL
  split
  · exact crL_lt (crL_lt h)
  split
  · exact drop_lt (lI_lt (lI_lt h)) 1
  split
  · exact lI_lt h
  split
  · exact leT_lt (drop_lt h 1)
  split
  · exact lM_lt (drop_lt h 1)
  · exact h
theorem opL_lt {L : List Nat} (h : ∀ b ∈ L, b < 256) : ∀ b ∈ opL L, b < 256 := fdL_lt _ (lI_lt (drop_lt h 1))
/-- A corner that is there is laid down as it stands. -/
theorem okC_B {L : List Nat} (hb : ∀ b ∈ L, b < 256) (h : okC L = true) : crB (crV L) ++ crL L = L := by
  unfold okC at h
  simp only [Bool.and_eq_true, Bool.or_eq_true, decide_eq_true_eq] at h
  obtain ⟨h1, h2, h3, h4⟩ := h
  have hi := idT_vI h1
  have h5 := of_decide_eq_true h1
  have hc := c1_cons h2
  have e1 := idB_nm4 hb h5.1
  unfold crV crL
  rw [hi.1, hi.2]
  by_cases hz : c1 (L.drop 4) = 0
  · rw [if_neg (by omega), if_neg (by omega)]
    unfold crB
    rw [if_pos ⟨rfl, rfl, rfl⟩]
    rw [hz] at hc
    rw [List.append_assoc, List.singleton_append, hc]
    exact e1
  · rw [if_pos (by omega), if_pos (by omega)]
    have h6 := h4.resolve_left hz
    have hj := idT_vI h6
    have h7 := of_decide_eq_true h6
    have e2 := idB_nm4 (drop_lt (drop_lt hb 4) 1) h7.1
    rw [hj.1, hj.2]
    unfold crB
    have h8 : 1 ≤ (nm4 ((L.drop 4).drop 1)).1 := (of_decide_eq_true (show decide (_ ∧ _) = true from h7.2)).1
    rw [if_neg (fun q => by have := q.1; simp only at this; omega)]
    simp only
    rw [show ((1 + ((c1 (L.drop 4) : Int) - 1)) % 256).toNat = c1 (L.drop 4) by omega]
    rw [List.append_assoc, List.cons_append, e2, hc]
    exact e1
theorem txT_B {L : List Nat} (hb : ∀ b ∈ L, b < 256) (h : isT L = true) : textB (txT L) ++ leT L = L := by
  obtain ⟨h1, h2⟩ := of_decide_eq_true h
  have hc := byte_lt hb
  unfold txT leT textB
  rw [if_pos h, if_pos h, txt_size, List.length_take, List.length_drop, Nat.min_eq_left (by omega), Nat.mod_eq_of_lt hc]
  have e : tB (txt ((L.drop 1).take (c1 L))) = (L.drop 1).take (c1 L) := by
    rw [tB, txt_list, List.map_map]
    conv => rhs; rw [← List.map_id ((L.drop 1).take (c1 L))]
    refine List.map_congr_left fun b hb' => ?_
    have := hb b (List.mem_of_mem_drop (List.mem_of_mem_take hb'))
    simp [UInt8.toNat_ofNat']
    omega
  rw [e, ← List.drop_drop, List.append_assoc, List.take_append_drop]
  rw [List.singleton_append]
  exact c1_cons h1
theorem beN_deN_rev : ∀ (K : List Nat), (∀ b ∈ K, b < 256) → beN K.length (deN K.reverse) = K.reverse
  | [], _ => rfl
  | a :: K, hm => by
    have ha := hm a (by simp)
    rw [List.reverse_cons, List.length_cons, deN_snoc, beN, show (deN K.reverse * 256 + a) / 256 = deN K.reverse by omega, show (deN K.reverse * 256 + a) % 256 = a by omega, beN_deN_rev K (fun b hb => hm b (by simp [hb]))]
theorem beN_deN (M : List Nat) (h : ∀ b ∈ M, b < 256) : beN M.length (deN M) = M := by
  have := beN_deN_rev M.reverse (fun b hb => h b (List.mem_reverse.1 hb))
  rwa [List.length_reverse, List.reverse_reverse] at this
theorem num8_B {L : List Nat} (hb : ∀ b ∈ L, b < 256) (h : 8 ≤ L.length) : be8 (num8 (L.take 8)) ++ L.drop 8 = L := by
  have hl : (L.take 8).length = 8 := by rw [List.length_take]; omega
  have hk := beN_deN (L.take 8) (fun b hb' => hb b (List.mem_of_mem_take hb'))
  have hlt := deN_lt hb 8 h
  rw [hl] at hk
  have e : u64 (num8 (L.take 8)) = deN (L.take 8) := by
    unfold num8 u64
    rw [IntKind.wrap_i64]
    omega
  unfold be8
  rw [e, hk, List.take_append_drop]
theorem fdB3 {o : OpT} (h : o.k = 3) : fdB o = crB o.ca ++ crB o.cb := by unfold fdB; rw [if_pos h]
theorem fdB5 {o : OpT} (h : o.k = 5) : fdB o = idB (o.s1, o.n1) ++ (idB (o.s2, o.n2) ++ [(o.m % 256).toNat]) := by unfold fdB; rw [if_neg (by omega), if_pos h]
theorem fdB6 {o : OpT} (h : o.k = 6) : fdB o = idB (o.s2, o.n2) := by unfold fdB; rw [if_neg (by omega), if_neg (by omega), if_pos h]
theorem fdB7 {o : OpT} (h : o.k = 7) : fdB o = fl o.e :: textB o.t := by unfold fdB; rw [if_neg (by omega), if_neg (by omega), if_neg (by omega), if_pos h]
theorem fdB8 {o : OpT} (h : o.k = 8) : fdB o = fl o.e :: be8 o.m := by unfold fdB; rw [if_neg (by omega), if_neg (by omega), if_neg (by omega), if_neg (by omega), if_pos h]
theorem fdB0 {o : OpT} (k3 : o.k ≠ 3) (k5 : o.k ≠ 5) (k6 : o.k ≠ 6) (k7 : o.k ≠ 7) (k8 : o.k ≠ 8) : fdB o = [] := by unfold fdB; rw [if_neg k3, if_neg k5, if_neg k6, if_neg k7, if_neg k8]
theorem fl_of {c : Nat} (hc : c ≤ 1) : fl (decide (c ≠ 0)) = c := by
  rcases (by omega : c = 0 ∨ c = 1) with rfl | rfl <;> rfl
theorem okFd_B {k : Nat} {x : Int × Int} {M : List Nat} (hb : ∀ b ∈ M, b < 256) (h : okFd k M = true) : fdB (fdV k x M) ++ fdL k M = M := by
  unfold okFd at h
  unfold fdV fdL
  by_cases k3 : k = 3
  · rw [if_pos k3] at h
    rw [if_pos k3, if_pos k3]
    have h9 := Bool.and_eq_true_iff.1 h
    rw [fdB3 rfl]
    show (crB (crV M) ++ crB (crV (crL M))) ++ crL (crL M) = M
    rw [List.append_assoc, okC_B (crL_lt hb) h9.2, okC_B hb h9.1]
  rw [if_neg k3] at h
  rw [if_neg k3, if_neg k3]
  by_cases k5 : k = 5
  · rw [if_pos k5] at h
    rw [if_pos k5, if_pos k5]
    simp only [Bool.and_eq_true, decide_eq_true_eq] at h
    obtain ⟨h1, h2, h3⟩ := h
    have i1 := idT_vI h1
    rw [i1.1, i1.2]
    have i2 := idT_vI h2
    rw [i2.1, i2.2]
    have e1 := idB_nm4 hb (of_decide_eq_true h1).1
    have e2 := idB_nm4 (drop_lt hb 4) (of_decide_eq_true h2).1
    have hc := byte_lt (drop_lt (drop_lt hb 4) 4)
    rw [fdB5 rfl]
    show (idB (nm4 M) ++ (idB (nm4 (M.drop 4)) ++ [(((c1 ((M.drop 4).drop 4) : Nat) : Int) % 256).toNat])) ++ ((M.drop 4).drop 4).drop 1 = M
    rw [show (((c1 ((M.drop 4).drop 4) : Nat) : Int) % 256).toNat = c1 ((M.drop 4).drop 4) by omega]
    rw [List.append_assoc, List.append_assoc, List.singleton_append, c1_cons h3, e2, e1]
  rw [if_neg k5] at h
  rw [if_neg k5, if_neg k5]
  by_cases k6 : k = 6
  · rw [if_pos k6] at h
    rw [if_pos k6, if_pos k6]
    have i1 := idT_vI h
    rw [i1.1, i1.2, fdB6 rfl]
    exact idB_nm4 hb (of_decide_eq_true h).1
  rw [if_neg k6] at h
  rw [if_neg k6, if_neg k6]
  by_cases k7 : k = 7
  · rw [if_pos k7] at h
    rw [if_pos k7, if_pos k7]
    simp only [okF, Bool.and_eq_true, decide_eq_true_eq] at h
    obtain ⟨⟨h1, h2⟩, h3⟩ := h
    rw [fdB7 rfl]
    show (fl (decide (c1 M ≠ 0)) :: textB (txT (M.drop 1))) ++ leT (M.drop 1) = M
    rw [fl_of h2, List.cons_append, txT_B (drop_lt hb 1) h3, c1_cons h1]
  rw [if_neg k7] at h
  rw [if_neg k7, if_neg k7]
  by_cases k8 : k = 8
  · rw [if_pos k8] at h
    rw [if_pos k8, if_pos k8]
    simp only [okF, Bool.and_eq_true, decide_eq_true_eq] at h
    obtain ⟨⟨h1, h2⟩, h3⟩ := h
    rw [fdB8 rfl]
    show (fl (decide (c1 M ≠ 0)) :: be8 (vM (M.drop 1))) ++ lM (M.drop 1) = M
    unfold vM lM
    rw [if_pos h3, if_pos h3, fl_of h2, List.cons_append, num8_B (drop_lt hb 1) h3, c1_cons h1]
  rw [if_neg k8, if_neg k8]
  rw [fdB0 (by show (k : Int) ≠ 3; omega) (by show (k : Int) ≠ 5; omega) (by show (k : Int) ≠ 6; omega) (by show (k : Int) ≠ 7; omega) (by show (k : Int) ≠ 8; omega), List.nil_append]
theorem fdV_head (k : Nat) (x : Int × Int) (M : List Nat) : (fdV k x M).k = (k : Int) ∧ (fdV k x M).s = x.1 ∧ (fdV k x M).n = x.2 := by
  unfold fdV
  by_cases k3 : k = 3
  · rw [if_pos k3]; subst k3; exact ⟨rfl, rfl, rfl⟩
  rw [if_neg k3]
  by_cases k5 : k = 5
  · rw [if_pos k5]; subst k5; exact ⟨rfl, rfl, rfl⟩
  rw [if_neg k5]
  by_cases k6 : k = 6
  · rw [if_pos k6]; subst k6; exact ⟨rfl, rfl, rfl⟩
  rw [if_neg k6]
  by_cases k7 : k = 7
  · rw [if_pos k7]; subst k7; exact ⟨rfl, rfl, rfl⟩
  rw [if_neg k7]
  by_cases k8 : k = 8
  · rw [if_pos k8]; subst k8; exact ⟨rfl, rfl, rfl⟩
  rw [if_neg k8]
  exact ⟨rfl, rfl, rfl⟩
theorem okO_B {L : List Nat} (hb : ∀ b ∈ L, b < 256) (h : okO L = true) : opB (opV L) ++ opL L = L := by
  unfold okO at h
  simp only [Bool.and_eq_true, decide_eq_true_eq] at h
  obtain ⟨h1, h2, h3⟩ := h
  have i := idT_vI h2
  unfold opV opL opB
  rw [i.1, i.2]
  have hh := fdV_head (c1 L) (nm4 (L.drop 1)) ((L.drop 1).drop 4)
  rw [hh.1, hh.2.1, hh.2.2]
  have hc := byte_lt hb
  rw [show ((c1 L : Int) % 256).toNat = c1 L by omega, List.cons_append, List.append_assoc, okFd_B (drop_lt (drop_lt hb 1) 4) h3]
  show c1 L :: (idB (nm4 (L.drop 1)) ++ _) = L
  rw [idB_nm4 (drop_lt hb 1) (of_decide_eq_true h2).1]
  exact c1_cons h1
theorem okN_B : ∀ (n : Nat) {L : List Nat}, (∀ b ∈ L, b < 256) → okN n L = true → (edV n L).flatMap opB ++ edL n L = L
  | 0, L, _, _ => rfl
  | n + 1, L, hb, h => by
    have h9 := Bool.and_eq_true_iff.1 h
    show (opV L :: edV n (opL L)).flatMap opB ++ edL n (opL L) = L
    rw [List.flatMap_cons, List.append_assoc, okN_B n (opL_lt hb) h9.2, okO_B hb h9.1]
theorem edV_len : ∀ (n : Nat) (L : List Nat), (edV n L).length = n
  | 0, _ => rfl
  | n + 1, L => by show (edV n (opL L)).length + 1 = n + 1; rw [edV_len n]
/-- A corner that may be is read as it was laid down. -/
theorem crB_ok {c : C5} (R : List Nat) (h : mayC c.1 c.2.1 c.2.2.1 c.2.2.2.1 c.2.2.2.2 = true) : okC (crB c ++ R) = true ∧ crV (crB c ++ R) = c ∧ crL (crB c ++ R) = R := by
  obtain ⟨c0, c1', c2, c3, c4⟩ := c
  unfold mayC at h
  simp only [Bool.and_eq_true, Bool.or_eq_true, decide_eq_true_eq] at h
  obtain ⟨h1, h2⟩ := h
  unfold crB
  simp only
  rw [List.append_assoc]
  obtain ⟨X, gX⟩ : ∃ X, (if c2 = 0 ∧ c3 = 0 ∧ c4 = 0 then [0] else ((1 + c4) % 256).toNat :: idB (c2, c3)) ++ R = X := ⟨_, rfl⟩
  rw [gX]
  obtain ⟨i1, i2, i3⟩ := idT_B (x := (c0, c1')) X h1
  have d4 : (idB (c0, c1') ++ X).drop 4 = X := drop_app (A := idB (c0, c1')) (n := 4) rfl
  unfold okC crV crL
  rw [i1, i2, i3, d4]
  by_cases hz : c2 = 0 ∧ c3 = 0 ∧ c4 = 0
  · rw [if_pos hz] at gX
    subst gX
    obtain ⟨rfl, rfl, rfl⟩ := hz
    refine ⟨rfl, rfl, rfl⟩
  · rw [if_neg hz, List.cons_append] at gX
    subst gX
    have hd := h2.resolve_left hz
    unfold mayD at hd
    simp only [Bool.and_eq_true, Bool.or_eq_true, decide_eq_true_eq] at hd
    obtain ⟨j1, j2, j3⟩ := idT_B (x := (c2, c3)) R hd.1
    have hc : c1 (((1 + c4) % 256).toNat :: (idB (c2, c3) ++ R)) = ((1 + c4) % 256).toNat := rfl
    have hdr : (((1 + c4) % 256).toNat :: (idB (c2, c3) ++ R)).drop 1 = idB (c2, c3) ++ R := rfl
    rw [hc, hdr, j1, j2, j3]
    have hq := hd.2
    rw [if_pos (by omega), if_pos (by omega)]
    refine ⟨?_, ?_, rfl⟩
    · simp only [Bool.true_and, Bool.and_eq_true, Bool.or_true, decide_eq_true_eq, and_true]
      exact ⟨by simp, by omega⟩
    · simp only [Prod.mk.injEq, true_and]
      omega
theorem tB_take {s : ByteArray} (R : List Nat) (hs : s.size < 256) : isT (textB s ++ R) = true ∧ txT (textB s ++ R) = s ∧ leT (textB s ++ R) = R := by
  have e : textB s ++ R = s.size :: (tB s ++ R) := by rw [textB, Nat.mod_eq_of_lt hs]; rfl
  rw [e]
  have hc : c1 (s.size :: (tB s ++ R)) = s.size := rfl
  have hl := tB_len s
  have h1 : isT (s.size :: (tB s ++ R)) = true := decide_eq_true ⟨by simp, by rw [hc]; simp [hl]; omega⟩
  refine ⟨h1, ?_, ?_⟩
  · unfold txT
    rw [if_pos h1, hc, List.drop_succ_cons, List.drop_zero, List.take_append_of_le_length (by omega), List.take_of_length_le (by omega), txt_tB]
  · unfold leT
    rw [if_pos h1, hc, Nat.add_comm, List.drop_succ_cons, drop_app hl]
theorem fdB_ok {o : OpT} (R : List Nat) (h : mayO o = 0) : okFd o.k.toNat (fdB o ++ R) = true ∧ fdV o.k.toNat (o.s, o.n) (fdB o ++ R) = o ∧ fdL o.k.toNat (fdB o ++ R) = R := by
  unfold mayO at h
  by_cases hh : mayI o.s o.n = true ∧ fitsO o = true ∧ o = onlyO o
  case neg => rw [if_neg hh] at h; exact absurd h (by decide)
  rw [if_pos hh] at h
  by_cases ht : mayL o.t = true
  case neg => rw [if_neg ht] at h; exact absurd h (by decide)
  obtain ⟨h1, h2, h3⟩ := hh
  have hts : o.t.size ≤ 16 := by
    unfold mayL at ht
    exact of_decide_eq_true (Bool.and_eq_true_iff.1 ht).1
  clear h ht h1
  unfold fitsO at h2
  unfold onlyO at h3
  unfold okFd fdV fdL
  by_cases k3 : o.k = 3
  · rw [fdB3 k3]
    rw [if_neg (by omega), if_pos k3] at h2
    rw [if_pos k3] at h3
    obtain ⟨q1, q2⟩ := Bool.and_eq_true_iff.1 h2
    obtain ⟨A1, A2, A3⟩ := crB_ok (c := o.ca) (crB o.cb ++ R) q1
    obtain ⟨B1, B2, B3⟩ := crB_ok (c := o.cb) R q2
    have e : o.k.toNat = 3 := by omega
    rw [List.append_assoc, if_pos e, if_pos e, if_pos e, A1, A2, A3, B1, B2, B3]
    refine ⟨rfl, Eq.trans ?_ h3.symm, rfl⟩
    rw [k3]
    rfl
  rw [if_neg k3] at h3
  have e3 : o.k.toNat ≠ 3 := by omega
  rw [if_neg e3, if_neg e3, if_neg e3]
  by_cases k5 : o.k = 5
  · rw [fdB5 k5]
    rw [if_neg (by omega), if_neg k3, if_pos k5] at h2
    rw [if_pos k5] at h3
    simp only [Bool.and_eq_true, decide_eq_true_eq] at h2
    obtain ⟨⟨q1, q2⟩, q3⟩ := h2
    obtain ⟨A1, A2, A3⟩ := idT_B (x := (o.s1, o.n1)) (idB (o.s2, o.n2) ++ ([(o.m % 256).toNat] ++ R)) q1
    obtain ⟨B1, B2, B3⟩ := idT_B (x := (o.s2, o.n2)) ([(o.m % 256).toNat] ++ R) q2
    have d1 : (idB (o.s1, o.n1) ++ (idB (o.s2, o.n2) ++ ([(o.m % 256).toNat] ++ R))).drop 4 = idB (o.s2, o.n2) ++ ([(o.m % 256).toNat] ++ R) := drop_app (A := idB (o.s1, o.n1)) (n := 4) rfl
    have d2 : (idB (o.s2, o.n2) ++ ([(o.m % 256).toNat] ++ R)).drop 4 = [(o.m % 256).toNat] ++ R := drop_app (A := idB (o.s2, o.n2)) (n := 4) rfl
    have e : o.k.toNat = 5 := by omega
    have hc : c1 ([(o.m % 256).toNat] ++ R) = (o.m % 256).toNat := rfl
    have hm : (((o.m % 256).toNat : Nat) : Int) = o.m := by omega
    rw [List.append_assoc, List.append_assoc, if_pos e, if_pos e, if_pos e, A1, A2, A3, d1, B1, B2, B3, d2, hc, hm]
    refine ⟨by simp, Eq.trans ?_ h3.symm, rfl⟩
    rw [k5]
  rw [if_neg k5] at h3
  have e5 : o.k.toNat ≠ 5 := by omega
  rw [if_neg e5, if_neg e5, if_neg e5]
  by_cases k6 : o.k = 6
  · rw [fdB6 k6]
    rw [if_neg (by omega), if_neg k3, if_neg k5, if_pos k6] at h2
    rw [if_pos k6] at h3
    obtain ⟨A1, A2, A3⟩ := idT_B (x := (o.s2, o.n2)) R h2
    have e : o.k.toNat = 6 := by omega
    rw [if_pos e, if_pos e, if_pos e, A1, A2, A3]
    refine ⟨rfl, Eq.trans ?_ h3.symm, rfl⟩
    rw [k6]
  rw [if_neg k6] at h3
  have e6 : o.k.toNat ≠ 6 := by omega
  rw [if_neg e6, if_neg e6, if_neg e6]
  have hfl : ∀ b : Bool, fl b ≤ 1 ∧ decide (fl b ≠ 0) = b := fun b => by cases b <;> exact ⟨by decide, rfl⟩
  by_cases k7 : o.k = 7
  · rw [fdB7 k7]
    rw [if_pos k7] at h3
    obtain ⟨A1, A2, A3⟩ := tB_take (s := o.t) R (by omega)
    have e : o.k.toNat = 7 := by omega
    have hd : (fl o.e :: textB o.t ++ R).drop 1 = textB o.t ++ R := rfl
    have hc : c1 (fl o.e :: textB o.t ++ R) = fl o.e := rfl
    rw [if_pos e, if_pos e, if_pos e, hd, A1, A2, A3, hc, (hfl o.e).2]
    refine ⟨?_, Eq.trans ?_ h3.symm, rfl⟩
    · unfold okF
      rw [hc, decide_eq_true (hfl o.e).1, decide_eq_true (by simp)]
      rfl
    · rw [k7]
  rw [if_neg k7] at h3
  have e7 : o.k.toNat ≠ 7 := by omega
  rw [if_neg e7, if_neg e7, if_neg e7]
  by_cases k8 : o.k = 8
  · rw [fdB8 k8]
    rw [if_neg (by omega), if_neg k3, if_neg k5, if_neg k6, if_pos k8] at h2
    rw [if_pos k8] at h3
    have hm := of_decide_eq_true (show decide (_ ∧ _) = true from h2)
    have e : o.k.toNat = 8 := by omega
    have hd : (fl o.e :: be8 o.m ++ R).drop 1 = be8 o.m ++ R := rfl
    have hc : c1 (fl o.e :: be8 o.m ++ R) = fl o.e := rfl
    have hl : 8 ≤ (be8 o.m ++ R).length := by rw [List.length_append, be8_len]; omega
    have hv : vM (be8 o.m ++ R) = o.m := by
      unfold vM
      rw [if_pos hl, List.take_append_of_le_length (by rw [be8_len]; omega), List.take_of_length_le (by rw [be8_len]; omega), num8_be8 _ ⟨by omega, by omega⟩]
    have hr : lM (be8 o.m ++ R) = R := by
      unfold lM
      rw [if_pos hl, drop_app (be8_len _)]
    rw [if_pos e, if_pos e, if_pos e, hd, hv, hr, hc, (hfl o.e).2]
    refine ⟨?_, Eq.trans ?_ h3.symm, rfl⟩
    · unfold okF
      rw [hc, decide_eq_true (hfl o.e).1, decide_eq_true hl, decide_eq_true (by simp)]
      rfl
    · rw [k8]
  rw [if_neg k8] at h3
  have e8 : o.k.toNat ≠ 8 := by omega
  have hk : 1 ≤ o.k ∧ o.k ≤ 7 := by
    by_cases hq : o.k = 1 ∨ o.k = 2 ∨ o.k = 4 ∨ o.k = 7
    · omega
    · rw [if_neg hq, if_neg k3, if_neg k5, if_neg k6, if_neg k8] at h2
      cases h2
  rw [if_neg e8, if_neg e8, if_neg e8, fdB0 k3 k5 k6 k7 k8, List.nil_append]
  refine ⟨rfl, Eq.trans ?_ h3.symm, rfl⟩
  rw [show ((o.k.toNat : Nat) : Int) = o.k by omega]
theorem mayO_head {o : OpT} (h : mayO o = 0) : mayI o.s o.n = true ∧ 1 ≤ o.k ∧ o.k ≤ 8 ∧ o.t.size ≤ 16 := by
  unfold mayO at h
  by_cases hh : mayI o.s o.n = true ∧ fitsO o = true ∧ o = onlyO o
  case neg => rw [if_neg hh] at h; exact absurd h (by decide)
  rw [if_pos hh] at h
  by_cases ht : mayL o.t = true
  case neg => rw [if_neg ht] at h; exact absurd h (by decide)
  have h2 := hh.2.1
  refine ⟨hh.1, ?_⟩
  have hts : o.t.size ≤ 16 := by
    unfold mayL at ht
    exact of_decide_eq_true (Bool.and_eq_true_iff.1 ht).1
  unfold fitsO at h2
  by_cases hq : o.k = 1 ∨ o.k = 2 ∨ o.k = 4 ∨ o.k = 7
  · omega
  rw [if_neg hq] at h2
  by_cases k3 : o.k = 3
  · omega
  rw [if_neg k3] at h2
  by_cases k5 : o.k = 5
  · omega
  rw [if_neg k5] at h2
  by_cases k6 : o.k = 6
  · omega
  rw [if_neg k6] at h2
  by_cases k8 : o.k = 8
  · omega
  rw [if_neg k8] at h2
  cases h2
/-- An operation that may be is read as it was laid down. -/
theorem opB_ok {o : OpT} (R : List Nat) (h : mayO o = 0) : okO (opB o ++ R) = true ∧ opV (opB o ++ R) = o ∧ opL (opB o ++ R) = R := by
  obtain ⟨h1, h2, h3, -⟩ := mayO_head h
  obtain ⟨f1, f2, f3⟩ := fdB_ok R h
  obtain ⟨i1, i2, i3⟩ := idT_B (x := (o.s, o.n)) (fdB o ++ R) h1
  have e : opB o ++ R = (o.k % 256).toNat :: (idB (o.s, o.n) ++ (fdB o ++ R)) := by unfold opB; rw [List.cons_append, List.append_assoc]
  have ek : (o.k % 256).toNat = o.k.toNat := by omega
  rw [e, ek]
  have hc : c1 (o.k.toNat :: (idB (o.s, o.n) ++ (fdB o ++ R))) = o.k.toNat := rfl
  have hd : (o.k.toNat :: (idB (o.s, o.n) ++ (fdB o ++ R))).drop 1 = idB (o.s, o.n) ++ (fdB o ++ R) := rfl
  have d4 : (idB (o.s, o.n) ++ (fdB o ++ R)).drop 4 = fdB o ++ R := drop_app (A := idB (o.s, o.n)) (n := 4) rfl
  unfold okO opV opL
  rw [hc, hd, i1, i2, i3, d4, f1, f2, f3]
  exact ⟨by simp, rfl, rfl⟩
theorem opsB_ok : ∀ (L : List OpT) (R : List Nat), mayEs L = 0 → okN L.length (L.flatMap opB ++ R) = true ∧ edV L.length (L.flatMap opB ++ R) = L ∧ edL L.length (L.flatMap opB ++ R) = R
  | [], R, _ => ⟨rfl, rfl, rfl⟩
  | o :: L, R, h => by
    unfold mayEs at h
    by_cases ho : mayO o = 0
    case neg => rw [if_neg ho] at h; exact absurd h ho
    rw [if_pos ho] at h
    obtain ⟨a1, a2, a3⟩ := opB_ok (L.flatMap opB ++ R) ho
    obtain ⟨b1, b2, b3⟩ := opsB_ok L R h
    rw [List.flatMap_cons, List.append_assoc]
    show (okO _ && okN L.length (opL _)) = true ∧ opV _ :: edV L.length (opL _) = o :: L ∧ edL L.length (opL _) = R
    rw [a1, a2, a3, b1, b2, b3]
    exact ⟨rfl, rfl, rfl⟩
theorem mayE_ok {L : List OpT} (h : mayE L = 0) : 1 ≤ L.length ∧ L.length ≤ 6 ∧ mayEs L = 0 := by
  unfold mayE at h
  by_cases hq : L.length < 1 ∨ 6 < L.length
  · rw [if_pos hq] at h; exact absurd h (by decide)
  · rw [if_neg hq] at h; exact ⟨by omega, by omega, h⟩
/-- What stands at the head of bytes. -/
def isE (B : List Nat) (L : List OpT) (R : List Nat) : Prop := mayE L = 0 ∧ B = edB L ++ R
def rdV (B : List Nat) : List OpT := edV (c1 B) (B.drop 1)
def rdR (B : List Nat) : List Nat := edL (c1 B) (B.drop 1)
theorem isE_rd {B : List Nat} {L : List OpT} {R : List Nat} (h : isE B L R) : rdV B = L ∧ rdR B = R ∧ okN (c1 B) (B.drop 1) = true ∧ 1 ≤ B.length ∧ c1 B = L.length := by
  obtain ⟨h1, rfl⟩ := h
  obtain ⟨h2, h3, h4⟩ := mayE_ok h1
  obtain ⟨q1, q2, q3⟩ := opsB_ok L R h4
  have hc : c1 (edB L ++ R) = L.length := by
    show L.length % 256 = L.length
    omega
  have hd : (edB L ++ R).drop 1 = L.flatMap opB ++ R := rfl
  unfold rdV rdR
  rw [hc, hd]
  exact ⟨q2, q3, q1, by simp [edB], rfl⟩
/-- What is read without a fault, and may be, stands there. -/
theorem rd_isE {B : List Nat} (hb : ∀ b ∈ B, b < 256) (h0 : 1 ≤ B.length) (h1 : okN (c1 B) (B.drop 1) = true) (h2 : mayE (rdV B) = 0) : isE B (rdV B) (rdR B) := by
  refine ⟨h2, ?_⟩
  have hl : (rdV B).length = c1 B := edV_len _ _
  have hc := byte_lt hb
  unfold edB
  rw [hl, Nat.mod_eq_of_lt hc, List.cons_append]
  unfold rdV rdR
  rw [okN_B _ (drop_lt hb 1) h1, c1_cons h0]
end Go.Proofs.Ytinfbaflkjghhaa
/- opcode.name, flag, corner. -/
namespace Go.Proofs.Ytinfbaflkjghhaa
open Go.RowKit
/-- What a call from a later world gives is given from an earlier one. -/
theorem Gives8.from_ {w w1 w' : World} {L : List Nat} {e : Ending} (h : Gives8 w1 L e w') (hx : Below w.heap.size w w1) : Gives8 w L e w' := by
  obtain ⟨A, c, h1, h2, h3, h4, h5⟩ := h
  exact ⟨A, c, h1, h2, fun a ha hl => Nat.le_trans hx.size (h3 a ha hl), own_lo8 h4 hx.size, hx.trans (h5.mono hx.size)⟩
set_option maxRecDepth 100000 in
theorem oname_any (x1 x2 : Int) (w : World) : Calls Try.prog 42 #[.agg #[.int .i64 x1, .int .i64 x2]] w (Gives8 w (idB (x1, x2))) := by
  have HP := Lib.hid (idput_any none 0 [] x1 x2 (w.alloc (.cells #[.int .i64 x1, .int .i64 x2] 47)) (rds_nil _ _ _) (by simp))
  rw [List.nil_append] at HP
  have hX : Whole (w.alloc (.cells #[.int .i64 x1, .int .i64 x2] 47)) w.heap.size 47 [.int .i64 x1, .int .i64 x2] := Whole.new_ _ _ [_, _]
  have c0 := hX.cell (i := 0) rfl
  have c1 := hX.cell (i := 1) rfl
  clear hX
  go_enter Try.func42, Try.ntmps42
  go_wp2_with (first
    | (go_at_call 63
       refine HP.out.mono ?_
       rintro e w2 ⟨A, c, rfl, h2, h3, h4, h5⟩
       have HG := Lib.hid (Gives8.from_ (w := w) ⟨A, c, rfl, h2, h3, h4, h5⟩ (below1 _ _))
       clear h2 h3 h4 h5))
  go_ret
  exact HG.out
set_option maxRecDepth 100000 in
theorem oflag_any (b : Bool) (w : World) : Calls Try.prog 66 #[.bool b] w (Gives8 w [fl b]) := by
  have hg : ∀ x : Nat, Gives8 w [x] (.returned (.slice (some ⟨w.heap.size, 0, none⟩) 1 1)) (w.alloc (.cells #[.int .u8 (x : Int)] 5)) := fun x =>
    gives8_whole rfl (by decide) (Nat.le_refl _) (Whole.new_ _ _ [_]) (below1 _ _)
  cases b with
  | true =>
    have HG := Lib.hid (hg 1)
    clear hg
    go_enter Try.func66, Try.ntmps66
    go_wp2
    go_ret
    exact HG.out
  | false =>
    have HG := Lib.hid (hg 0)
    clear hg
    go_enter Try.func66, Try.ntmps66
    go_wp2
    go_ret
    exact HG.out
theorem eq_dartz (a b c : Int) (W : World) : (binOp .eql 49 (.agg #[.int .i64 a, .int .i64 b, .int .i64 c]) (.agg #[.int .i64 0, .int .i64 0, .int .i64 0])).run Try.prog W = .ok (.bool (decide (a = 0 ∧ b = 0 ∧ c = 0))) W := eq_dartz_run a b c W
end Go.Proofs.Ytinfbaflkjghhaa
