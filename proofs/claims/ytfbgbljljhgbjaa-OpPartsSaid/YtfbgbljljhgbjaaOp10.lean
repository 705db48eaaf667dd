/- The contracts of the document's own corner, MayAttr, May for operations. -/
import Derived.Test.YtfbgbljljhgbjaaOp9
import Derived.Test.YtfbgbljljhgbjaaMay2
import Derived.Test.YtfbgbljljhgbjaaCh
namespace Go.Proofs.Ytfbgbljljhgbjaa
open Go.RowKit
set_option linter.unusedSimpArgs false
set_option linter.unusedVariables false

theorem rmayattr_any (n : Int) : Pure 27 #[.int .i64 n] (.bool (mayAt n)) := fun w => by
  unfold mayAt
  by_cases h1 : -1099511627776 ≤ n
  · by_cases h2 : n ≤ 1099511627776
    · rw [decide_eq_true ⟨h1, h2⟩]
      go_enter Try.func27, Try.ntmps27
      go_wp2
      go_ret
      exact ⟨rfl, Below.refl _ _⟩
    · rw [decide_eq_false (fun h => h2 h.2)]
      go_enter Try.func27, Try.ntmps27
      go_wp2
      go_ret
      exact ⟨rfl, Below.refl _ _⟩
  · rw [decide_eq_false (fun h => h1 h.1)]
    go_enter Try.func27, Try.ntmps27
    go_wp2
    go_ret
    exact ⟨rfl, Below.refl _ _⟩

theorem rcorner_any (a0 a1 a2 a3 a4 : Int) : Pure 26 #[.agg #[.int .i64 a0, .int .i64 a1, .int .i64 a2, .int .i64 a3, .int .i64 a4]] (.bool (mayC a0 a1 a2 a3 a4)) := fun w => by
  unfold mayC
  have hq := eq_dartz_run a2 a3 a4
  have HM := Lib.hid (rmay_any a0 a1)
  have HD := Lib.hid (rmaydart_any a2 a3 a4)
  by_cases hz : a2 = 0 ∧ a3 = 0 ∧ a4 = 0
  all_goals
    first | rw [decide_eq_true hz] at hq ⊢ | rw [decide_eq_false hz] at hq ⊢
    obtain ⟨V, gV⟩ : ∃ x, mayI a0 a1 = x := ⟨_, rfl⟩
    obtain ⟨D, gD⟩ : ∃ x, mayD a2 a3 a4 = x := ⟨_, rfl⟩
    rw [gV] at HM ⊢
    rw [gD] at HD ⊢
    clear gV gD hz
    cases V <;> cases D
    all_goals
      go_enter Try.func26, Try.ntmps26
      go_wp2_with (first
        | (go_at_call 20; refine (HM.out _).mono ?_; rintro e w' ⟨rfl, hb⟩; obtain ⟨hc, hf⟩ := bcell hb; have hz1 : w.heap.size < w'.heap.size := by have := hb.size; simp at this; omega)
        | (go_at_call 33; refine (HD.out _).mono ?_; rintro e w'' ⟨rfl, hb2⟩; obtain ⟨hc2, hf2⟩ := bcell hb2))
      go_ret
      exact ⟨by simp, (below_after1 hb).trans (hb2.mono (below_after1 hb).size)⟩

def zeroO : OpT := ⟨0, 0, 0, 0, 0, 0, 0, 0, 0, 0, 0, 0, 0, 0, 0, 0, 0, false, ⟨#[]⟩, 0⟩
theorem opCells_zero : (opCells zeroO).toArray = #[.int .i64 0, .int .i64 0, .int .i64 0, .int .i64 0, .int .i64 0, .int .i64 0, .int .i64 0, .int .i64 0, .int .i64 0, .int .i64 0, .int .i64 0, .int .i64 0, .int .i64 0, .int .i64 0, .int .i64 0, .int .i64 0, .int .i64 0, .bool false, .string ⟨#[]⟩, .int .i64 0] := rfl

set_option maxRecDepth 100000 in
set_option maxHeartbeats 2000000 in
theorem rm_lo (o : OpT) (h0 : decide (o.k < 1) = true) (w : World) : Calls Try.prog 15 #[.agg (opCells o).toArray] w fun e w' => e = .returned (.int .i64 1) ∧ Below w.heap.size w w' := by
  go_enter Try.func15, Try.ntmps15
  go_upto_region 1 with fail
  obtain ⟨W1, gW1⟩ : ∃ x, w.alloc (.cells (opCells o).toArray 29) = x := ⟨_, rfl⟩
  have HO : RowKit.Hid (Whole W1 w.heap.size 29 (opCells o)) := Lib.hid (by rw [← gW1]; exact Whole.new_ w _ _)
  have HB : RowKit.Hid (Below w.heap.size w W1) := Lib.hid (by rw [← gW1]; exact below1 _ _)
  rw [gW1]
  clear gW1
  obtain ⟨g0, gg0⟩ : ∃ x, w.heap.size = x := ⟨_, rfl⟩
  rw [gg0] at HO ⊢
  clear gg0
  have lw1 : W1.cell? ⟨g0, 1, none⟩ = some (.int .i64 o.s) := HO.out.cell (i := 1) rfl
  have lw2 : W1.cell? ⟨g0, 2, none⟩ = some (.int .i64 o.n) := HO.out.cell (i := 2) rfl
  go_wp2_with fail
  clear lw1 lw2
  refine (rmay_any o.s o.n _).mono ?_
  rintro e w3 ⟨rfl, hb3⟩
  have O_4 := Lib.hid (HO.out.bl hb3)
  have Bel_4 := Lib.hid (bel_bl HB.out hb3)
  clear hb3
  have lw5 : w3.cell? ⟨g0, 0, none⟩ = some (.int .i64 o.k) := O_4.out.cell (i := 0) rfl
  go_wp2
  go_ret
  exact ⟨rfl, Bel_4.out⟩

set_option maxRecDepth 100000 in
set_option maxHeartbeats 2000000 in
theorem rm_hi (o : OpT) (h0 : decide (o.k < 1) = false) (h9 : decide (8 < o.k) = true) (w : World) : Calls Try.prog 15 #[.agg (opCells o).toArray] w fun e w' => e = .returned (.int .i64 1) ∧ Below w.heap.size w w' := by
  go_enter Try.func15, Try.ntmps15
  go_upto_region 1 with fail
  obtain ⟨W1, gW1⟩ : ∃ x, w.alloc (.cells (opCells o).toArray 29) = x := ⟨_, rfl⟩
  have HO : RowKit.Hid (Whole W1 w.heap.size 29 (opCells o)) := Lib.hid (by rw [← gW1]; exact Whole.new_ w _ _)
  have HB : RowKit.Hid (Below w.heap.size w W1) := Lib.hid (by rw [← gW1]; exact below1 _ _)
  rw [gW1]
  clear gW1
  obtain ⟨g0, gg0⟩ : ∃ x, w.heap.size = x := ⟨_, rfl⟩
  rw [gg0] at HO ⊢
  clear gg0
  have lw1 : W1.cell? ⟨g0, 1, none⟩ = some (.int .i64 o.s) := HO.out.cell (i := 1) rfl
  have lw2 : W1.cell? ⟨g0, 2, none⟩ = some (.int .i64 o.n) := HO.out.cell (i := 2) rfl
  go_wp2_with fail
  clear lw1 lw2
  refine (rmay_any o.s o.n _).mono ?_
  rintro e w3 ⟨rfl, hb3⟩
  have O_4 := Lib.hid (HO.out.bl hb3)
  have Bel_4 := Lib.hid (bel_bl HB.out hb3)
  clear hb3
  have lw5 : w3.cell? ⟨g0, 0, none⟩ = some (.int .i64 o.k) := O_4.out.cell (i := 0) rfl
  go_wp2
  go_ret
  exact ⟨rfl, Bel_4.out⟩

set_option maxRecDepth 100000 in
set_option maxHeartbeats 2000000 in
theorem rm_id (o : OpT) (h0 : decide (o.k < 1) = false) (h9 : decide (8 < o.k) = false) (h1 : mayI o.s o.n = false) (w : World) : Calls Try.prog 15 #[.agg (opCells o).toArray] w fun e w' => e = .returned (.int .i64 1) ∧ Below w.heap.size w w' := by
  go_enter Try.func15, Try.ntmps15
  go_upto_region 1 with fail
  obtain ⟨W1, gW1⟩ : ∃ x, w.alloc (.cells (opCells o).toArray 29) = x := ⟨_, rfl⟩
  have HO : RowKit.Hid (Whole W1 w.heap.size 29 (opCells o)) := Lib.hid (by rw [← gW1]; exact Whole.new_ w _ _)
  have HB : RowKit.Hid (Below w.heap.size w W1) := Lib.hid (by rw [← gW1]; exact below1 _ _)
  rw [gW1]
  clear gW1
  obtain ⟨g0, gg0⟩ : ∃ x, w.heap.size = x := ⟨_, rfl⟩
  rw [gg0] at HO ⊢
  clear gg0
  have lw1 : W1.cell? ⟨g0, 1, none⟩ = some (.int .i64 o.s) := HO.out.cell (i := 1) rfl
  have lw2 : W1.cell? ⟨g0, 2, none⟩ = some (.int .i64 o.n) := HO.out.cell (i := 2) rfl
  go_wp2_with fail
  clear lw1 lw2
  refine (rmay_any o.s o.n _).mono ?_
  rintro e w3 ⟨rfl, hb3⟩
  have O_4 := Lib.hid (HO.out.bl hb3)
  have Bel_4 := Lib.hid (bel_bl HB.out hb3)
  clear hb3
  have lw5 : w3.cell? ⟨g0, 0, none⟩ = some (.int .i64 o.k) := O_4.out.cell (i := 0) rfl
  go_wp2
  go_ret
  exact ⟨rfl, Bel_4.out⟩

set_option maxRecDepth 100000 in
set_option maxHeartbeats 2000000 in
theorem rm_rest (o : OpT) (h0 : decide (o.k < 1) = false) (h9 : decide (8 < o.k) = false) (h1 : mayI o.s o.n = true) (h2 : ¬ restO o = zeroO) (w : World) : Calls Try.prog 15 #[.agg (opCells o).toArray] w fun e w' => e = .returned (.int .i64 1) ∧ Below w.heap.size w w' := by
  have he : Try.prog.eqGuardType Try.prog.depth 29 = false := by kernel_rfl
  have hq := neq_op_run (restO o) zeroO
  rw [opCells_zero, decide_eq_false h2] at hq
  clear h2
  go_enter Try.func15, Try.ntmps15
  go_upto_region 1 with fail
  obtain ⟨W1, gW1⟩ : ∃ x, w.alloc (.cells (opCells o).toArray 29) = x := ⟨_, rfl⟩
  have HO : RowKit.Hid (Whole W1 w.heap.size 29 (opCells o)) := Lib.hid (by rw [← gW1]; exact Whole.new_ w _ _)
  have HB : RowKit.Hid (Below w.heap.size w W1) := Lib.hid (by rw [← gW1]; exact below1 _ _)
  rw [gW1]
  clear gW1
  obtain ⟨g0, gg0⟩ : ∃ x, w.heap.size = x := ⟨_, rfl⟩
  rw [gg0] at HO ⊢
  clear gg0
  have lw1 : W1.cell? ⟨g0, 1, none⟩ = some (.int .i64 o.s) := HO.out.cell (i := 1) rfl
  have lw2 : W1.cell? ⟨g0, 2, none⟩ = some (.int .i64 o.n) := HO.out.cell (i := 2) rfl
  go_wp2_with fail
  clear lw1 lw2
  refine (rmay_any o.s o.n _).mono ?_
  rintro e w3 ⟨rfl, hb3⟩
  have O_4 := Lib.hid (HO.out.bl hb3)
  have Bel_4 := Lib.hid (bel_bl HB.out hb3)
  clear hb3
  have lw5 : w3.cell? ⟨g0, 0, none⟩ = some (.int .i64 o.k) := O_4.out.cell (i := 0) rfl
  go_upto_region 2 with fail
  refine wp_region_lit ?_
  refine wl_read (v := ?_) (some 12) rfl (by rfl) ?_ ?_
  rotate_left
  · go_simp; (try with_reducible rfl)
  simp only [Act.put, List.setIfInBounds_toArray, List.set_cons_zero, List.set_cons_succ]
  refine wl_read (v := ?_) (some 13) rfl (by rfl) ?_ ?_
  rotate_left
  · go_simp; (try with_reducible rfl)
  simp only [Act.put, List.setIfInBounds_toArray, List.set_cons_zero, List.set_cons_succ]
  refine wl_read (v := ?_) (some 14) rfl (by rfl) ?_ ?_
  rotate_left
  · go_simp; (try with_reducible rfl)
  simp only [Act.put, List.setIfInBounds_toArray, List.set_cons_zero, List.set_cons_succ]
  refine wl_read (v := ?_) (some 15) rfl (by rfl) ?_ ?_
  rotate_left
  · go_simp; (try with_reducible rfl)
  simp only [Act.put, List.setIfInBounds_toArray, List.set_cons_zero, List.set_cons_succ]
  refine wl_read (v := ?_) (some 16) rfl (by rfl) ?_ ?_
  rotate_left
  · go_simp; (try with_reducible rfl)
  simp only [Act.put, List.setIfInBounds_toArray, List.set_cons_zero, List.set_cons_succ]
  refine wl_read (v := ?_) (some 17) rfl (by rfl) ?_ ?_
  rotate_left
  · go_simp; (try with_reducible rfl)
  simp only [Act.put, List.setIfInBounds_toArray, List.set_cons_zero, List.set_cons_succ]
  refine wl_read (v := ?_) (some 18) rfl (by rfl) ?_ ?_
  rotate_left
  · go_simp; (try with_reducible rfl)
  simp only [Act.put, List.setIfInBounds_toArray, List.set_cons_zero, List.set_cons_succ]
  refine wl_read (v := ?_) (some 19) rfl (by rfl) ?_ ?_
  rotate_left
  · go_simp; (try with_reducible rfl)
  simp only [Act.put, List.setIfInBounds_toArray, List.set_cons_zero, List.set_cons_succ]
  refine wl_read (v := ?_) (some 20) rfl (by rfl) ?_ ?_
  rotate_left
  · go_simp; (try with_reducible rfl)
  simp only [Act.put, List.setIfInBounds_toArray, List.set_cons_zero, List.set_cons_succ]
  refine wl_read (v := ?_) (some 21) rfl (by rfl) ?_ ?_
  rotate_left
  · go_simp; (try with_reducible rfl)
  simp only [Act.put, List.setIfInBounds_toArray, List.set_cons_zero, List.set_cons_succ]
  refine wl_read (v := ?_) (some 22) rfl (by rfl) ?_ ?_
  rotate_left
  · go_simp; (try with_reducible rfl)
  simp only [Act.put, List.setIfInBounds_toArray, List.set_cons_zero, List.set_cons_succ]
  refine wl_read (v := ?_) (some 23) rfl (by rfl) ?_ ?_
  rotate_left
  · go_simp; (try with_reducible rfl)
  simp only [Act.put, List.setIfInBounds_toArray, List.set_cons_zero, List.set_cons_succ]
  refine wl_read (v := ?_) (some 24) rfl (by rfl) ?_ ?_
  rotate_left
  · go_simp; (try with_reducible rfl)
  simp only [Act.put, List.setIfInBounds_toArray, List.set_cons_zero, List.set_cons_succ]
  refine wl_load (some 25) rfl (by rfl) 29 (.tmp 1) rfl g0 rfl 29 (opCells o) _ O_4.out Try.underlying29 rfl (by kernel_rfl) ?_
  simp only [Act.put, List.setIfInBounds_toArray, List.set_cons_zero, List.set_cons_succ]
  go_wp2_with fail
  clear lw5
  refine (rest_any o _).mono ?_
  rintro e w6 ⟨rfl, hb6⟩
  have O_7 := Lib.hid (O_4.out.bl hb6)
  have Bel_7 := Lib.hid (bel_bl Bel_4.out hb6)
  clear hb6
  have lw8 : w6.cell? ⟨g0, 0, none⟩ = some (.int .i64 o.k) := O_7.out.cell (i := 0) rfl
  go_wp2
  go_ret
  exact ⟨rfl, Bel_7.out⟩

set_option maxRecDepth 100000 in
set_option maxHeartbeats 2000000 in
theorem rm_3n (o : OpT) (h0 : decide (o.k < 1) = false) (h9 : decide (8 < o.k) = false) (h1 : mayI o.s o.n = true) (h2 : restO o = zeroO) (hk : o.k = 3) (h3 : mayC o.a0 o.a1 o.a2 o.a3 o.a4 = false) (w : World) : Calls Try.prog 15 #[.agg (opCells o).toArray] w fun e w' => e = .returned (.int .i64 1) ∧ Below w.heap.size w w' := by
  have he : Try.prog.eqGuardType Try.prog.depth 29 = false := by kernel_rfl
  have hq := neq_op_run (restO o) zeroO
  rw [opCells_zero, decide_eq_true h2] at hq
  clear h2
  have q3 : (o.k == 3) = true := by rw [hk]; decide
  have q5 : (o.k == 5) = false := by rw [hk]; decide
  have q6 : (o.k == 6) = false := by rw [hk]; decide
  have q7 : (o.k == 7) = false := by rw [hk]; decide
  have q8 : (o.k == 8) = false := by rw [hk]; decide
  clear hk
  go_enter Try.func15, Try.ntmps15
  go_upto_region 1 with fail
  obtain ⟨W1, gW1⟩ : ∃ x, w.alloc (.cells (opCells o).toArray 29) = x := ⟨_, rfl⟩
  have HO : RowKit.Hid (Whole W1 w.heap.size 29 (opCells o)) := Lib.hid (by rw [← gW1]; exact Whole.new_ w _ _)
  have HB : RowKit.Hid (Below w.heap.size w W1) := Lib.hid (by rw [← gW1]; exact below1 _ _)
  rw [gW1]
  clear gW1
  obtain ⟨g0, gg0⟩ : ∃ x, w.heap.size = x := ⟨_, rfl⟩
  rw [gg0] at HO ⊢
  clear gg0
  have lw1 : W1.cell? ⟨g0, 1, none⟩ = some (.int .i64 o.s) := HO.out.cell (i := 1) rfl
  have lw2 : W1.cell? ⟨g0, 2, none⟩ = some (.int .i64 o.n) := HO.out.cell (i := 2) rfl
  go_wp2_with fail
  clear lw1 lw2
  refine (rmay_any o.s o.n _).mono ?_
  rintro e w3 ⟨rfl, hb3⟩
  have O_4 := Lib.hid (HO.out.bl hb3)
  have Bel_4 := Lib.hid (bel_bl HB.out hb3)
  clear hb3
  have lw5 : w3.cell? ⟨g0, 0, none⟩ = some (.int .i64 o.k) := O_4.out.cell (i := 0) rfl
  go_upto_region 2 with fail
  refine wp_region_lit ?_
  refine wl_read (v := ?_) (some 12) rfl (by rfl) ?_ ?_
  rotate_left
  · go_simp; (try with_reducible rfl)
  simp only [Act.put, List.setIfInBounds_toArray, List.set_cons_zero, List.set_cons_succ]
  refine wl_read (v := ?_) (some 13) rfl (by rfl) ?_ ?_
  rotate_left
  · go_simp; (try with_reducible rfl)
  simp only [Act.put, List.setIfInBounds_toArray, List.set_cons_zero, List.set_cons_succ]
  refine wl_read (v := ?_) (some 14) rfl (by rfl) ?_ ?_
  rotate_left
  · go_simp; (try with_reducible rfl)
  simp only [Act.put, List.setIfInBounds_toArray, List.set_cons_zero, List.set_cons_succ]
  refine wl_read (v := ?_) (some 15) rfl (by rfl) ?_ ?_
  rotate_left
  · go_simp; (try with_reducible rfl)
  simp only [Act.put, List.setIfInBounds_toArray, List.set_cons_zero, List.set_cons_succ]
  refine wl_read (v := ?_) (some 16) rfl (by rfl) ?_ ?_
  rotate_left
  · go_simp; (try with_reducible rfl)
  simp only [Act.put, List.setIfInBounds_toArray, List.set_cons_zero, List.set_cons_succ]
  refine wl_read (v := ?_) (some 17) rfl (by rfl) ?_ ?_
  rotate_left
  · go_simp; (try with_reducible rfl)
  simp only [Act.put, List.setIfInBounds_toArray, List.set_cons_zero, List.set_cons_succ]
  refine wl_read (v := ?_) (some 18) rfl (by rfl) ?_ ?_
  rotate_left
  · go_simp; (try with_reducible rfl)
  simp only [Act.put, List.setIfInBounds_toArray, List.set_cons_zero, List.set_cons_succ]
  refine wl_read (v := ?_) (some 19) rfl (by rfl) ?_ ?_
  rotate_left
  · go_simp; (try with_reducible rfl)
  simp only [Act.put, List.setIfInBounds_toArray, List.set_cons_zero, List.set_cons_succ]
  refine wl_read (v := ?_) (some 20) rfl (by rfl) ?_ ?_
  rotate_left
  · go_simp; (try with_reducible rfl)
  simp only [Act.put, List.setIfInBounds_toArray, List.set_cons_zero, List.set_cons_succ]
  refine wl_read (v := ?_) (some 21) rfl (by rfl) ?_ ?_
  rotate_left
  · go_simp; (try with_reducible rfl)
  simp only [Act.put, List.setIfInBounds_toArray, List.set_cons_zero, List.set_cons_succ]
  refine wl_read (v := ?_) (some 22) rfl (by rfl) ?_ ?_
  rotate_left
  · go_simp; (try with_reducible rfl)
  simp only [Act.put, List.setIfInBounds_toArray, List.set_cons_zero, List.set_cons_succ]
  refine wl_read (v := ?_) (some 23) rfl (by rfl) ?_ ?_
  rotate_left
  · go_simp; (try with_reducible rfl)
  simp only [Act.put, List.setIfInBounds_toArray, List.set_cons_zero, List.set_cons_succ]
  refine wl_read (v := ?_) (some 24) rfl (by rfl) ?_ ?_
  rotate_left
  · go_simp; (try with_reducible rfl)
  simp only [Act.put, List.setIfInBounds_toArray, List.set_cons_zero, List.set_cons_succ]
  refine wl_load (some 25) rfl (by rfl) 29 (.tmp 1) rfl g0 rfl 29 (opCells o) _ O_4.out Try.underlying29 rfl (by kernel_rfl) ?_
  simp only [Act.put, List.setIfInBounds_toArray, List.set_cons_zero, List.set_cons_succ]
  go_wp2_with fail
  clear lw5
  refine (rest_any o _).mono ?_
  rintro e w6 ⟨rfl, hb6⟩
  have O_7 := Lib.hid (O_4.out.bl hb6)
  have Bel_7 := Lib.hid (bel_bl Bel_4.out hb6)
  clear hb6
  have lw8 : w6.cell? ⟨g0, 0, none⟩ = some (.int .i64 o.k) := O_7.out.cell (i := 0) rfl
  have lw9 : w6.cell? ⟨g0, 7, none⟩ = some (.int .i64 o.a0) := O_7.out.cell (i := 7) rfl
  have lw10 : w6.cell? ⟨g0, 8, none⟩ = some (.int .i64 o.a1) := O_7.out.cell (i := 8) rfl
  have lw11 : w6.cell? ⟨g0, 9, none⟩ = some (.int .i64 o.a2) := O_7.out.cell (i := 9) rfl
  have lw12 : w6.cell? ⟨g0, 10, none⟩ = some (.int .i64 o.a3) := O_7.out.cell (i := 10) rfl
  have lw13 : w6.cell? ⟨g0, 11, none⟩ = some (.int .i64 o.a4) := O_7.out.cell (i := 11) rfl
  go_wp2_with fail
  clear lw8 lw9 lw10 lw11 lw12 lw13
  refine (rcorner_any o.a0 o.a1 o.a2 o.a3 o.a4 _).mono ?_
  rintro e w14 ⟨rfl, hb14⟩
  have O_15 := Lib.hid (O_7.out.bl hb14)
  have Bel_15 := Lib.hid (bel_bl Bel_7.out hb14)
  clear hb14
  have lw16 : w14.cell? ⟨g0, 0, none⟩ = some (.int .i64 o.k) := O_15.out.cell (i := 0) rfl
  have lw17 : w14.cell? ⟨g0, 12, none⟩ = some (.int .i64 o.b0) := O_15.out.cell (i := 12) rfl
  have lw18 : w14.cell? ⟨g0, 13, none⟩ = some (.int .i64 o.b1) := O_15.out.cell (i := 13) rfl
  have lw19 : w14.cell? ⟨g0, 14, none⟩ = some (.int .i64 o.b2) := O_15.out.cell (i := 14) rfl
  have lw20 : w14.cell? ⟨g0, 15, none⟩ = some (.int .i64 o.b3) := O_15.out.cell (i := 15) rfl
  have lw21 : w14.cell? ⟨g0, 16, none⟩ = some (.int .i64 o.b4) := O_15.out.cell (i := 16) rfl
  go_wp2_with fail
  clear lw16 lw17 lw18 lw19 lw20 lw21
  refine (rcorner_any o.b0 o.b1 o.b2 o.b3 o.b4 _).mono ?_
  rintro e w22 ⟨rfl, hb22⟩
  have O_23 := Lib.hid (O_15.out.bl hb22)
  have Bel_23 := Lib.hid (bel_bl Bel_15.out hb22)
  clear hb22
  have lw24 : w22.cell? ⟨g0, 0, none⟩ = some (.int .i64 o.k) := O_23.out.cell (i := 0) rfl
  go_wp2
  go_ret
  exact ⟨rfl, Bel_23.out⟩

set_option maxRecDepth 100000 in
set_option maxHeartbeats 2000000 in
theorem rm_3m (o : OpT) (h0 : decide (o.k < 1) = false) (h9 : decide (8 < o.k) = false) (h1 : mayI o.s o.n = true) (h2 : restO o = zeroO) (hk : o.k = 3) (h3 : mayC o.a0 o.a1 o.a2 o.a3 o.a4 = true) (h4 : mayC o.b0 o.b1 o.b2 o.b3 o.b4 = false) (w : World) : Calls Try.prog 15 #[.agg (opCells o).toArray] w fun e w' => e = .returned (.int .i64 1) ∧ Below w.heap.size w w' := by
  have he : Try.prog.eqGuardType Try.prog.depth 29 = false := by kernel_rfl
  have hq := neq_op_run (restO o) zeroO
  rw [opCells_zero, decide_eq_true h2] at hq
  clear h2
  have q3 : (o.k == 3) = true := by rw [hk]; decide
  have q5 : (o.k == 5) = false := by rw [hk]; decide
  have q6 : (o.k == 6) = false := by rw [hk]; decide
  have q7 : (o.k == 7) = false := by rw [hk]; decide
  have q8 : (o.k == 8) = false := by rw [hk]; decide
  clear hk
  go_enter Try.func15, Try.ntmps15
  go_upto_region 1 with fail
  obtain ⟨W1, gW1⟩ : ∃ x, w.alloc (.cells (opCells o).toArray 29) = x := ⟨_, rfl⟩
  have HO : RowKit.Hid (Whole W1 w.heap.size 29 (opCells o)) := Lib.hid (by rw [← gW1]; exact Whole.new_ w _ _)
  have HB : RowKit.Hid (Below w.heap.size w W1) := Lib.hid (by rw [← gW1]; exact below1 _ _)
  rw [gW1]
  clear gW1
  obtain ⟨g0, gg0⟩ : ∃ x, w.heap.size = x := ⟨_, rfl⟩
  rw [gg0] at HO ⊢
  clear gg0
  have lw1 : W1.cell? ⟨g0, 1, none⟩ = some (.int .i64 o.s) := HO.out.cell (i := 1) rfl
  have lw2 : W1.cell? ⟨g0, 2, none⟩ = some (.int .i64 o.n) := HO.out.cell (i := 2) rfl
  go_wp2_with fail
  clear lw1 lw2
  refine (rmay_any o.s o.n _).mono ?_
  rintro e w3 ⟨rfl, hb3⟩
  have O_4 := Lib.hid (HO.out.bl hb3)
  have Bel_4 := Lib.hid (bel_bl HB.out hb3)
  clear hb3
  have lw5 : w3.cell? ⟨g0, 0, none⟩ = some (.int .i64 o.k) := O_4.out.cell (i := 0) rfl
  go_upto_region 2 with fail
  refine wp_region_lit ?_
  refine wl_read (v := ?_) (some 12) rfl (by rfl) ?_ ?_
  rotate_left
  · go_simp; (try with_reducible rfl)
  simp only [Act.put, List.setIfInBounds_toArray, List.set_cons_zero, List.set_cons_succ]
  refine wl_read (v := ?_) (some 13) rfl (by rfl) ?_ ?_
  rotate_left
  · go_simp; (try with_reducible rfl)
  simp only [Act.put, List.setIfInBounds_toArray, List.set_cons_zero, List.set_cons_succ]
  refine wl_read (v := ?_) (some 14) rfl (by rfl) ?_ ?_
  rotate_left
  · go_simp; (try with_reducible rfl)
  simp only [Act.put, List.setIfInBounds_toArray, List.set_cons_zero, List.set_cons_succ]
  refine wl_read (v := ?_) (some 15) rfl (by rfl) ?_ ?_
  rotate_left
  · go_simp; (try with_reducible rfl)
  simp only [Act.put, List.setIfInBounds_toArray, List.set_cons_zero, List.set_cons_succ]
  refine wl_read (v := ?_) (some 16) rfl (by rfl) ?_ ?_
  rotate_left
  · go_simp; (try with_reducible rfl)
  simp only [Act.put, List.setIfInBounds_toArray, List.set_cons_zero, List.set_cons_succ]
  refine wl_read (v := ?_) (some 17) rfl (by rfl) ?_ ?_
  rotate_left
  · go_simp; (try with_reducible rfl)
  simp only [Act.put, List.setIfInBounds_toArray, List.set_cons_zero, List.set_cons_succ]
  refine wl_read (v := ?_) (some 18) rfl (by rfl) ?_ ?_
  rotate_left
  · go_simp; (try with_reducible rfl)
  simp only [Act.put, List.setIfInBounds_toArray, List.set_cons_zero, List.set_cons_succ]
  refine wl_read (v := ?_) (some 19) rfl (by rfl) ?_ ?_
  rotate_left
  · go_simp; (try with_reducible rfl)
  simp only [Act.put, List.setIfInBounds_toArray, List.set_cons_zero, List.set_cons_succ]
  refine wl_read (v := ?_) (some 20) rfl (by rfl) ?_ ?_
  rotate_left
  · go_simp; (try with_reducible rfl)
  simp only [Act.put, List.setIfInBounds_toArray, List.set_cons_zero, List.set_cons_succ]
  refine wl_read (v := ?_) (some 21) rfl (by rfl) ?_ ?_
  rotate_left
  · go_simp; (try with_reducible rfl)
  simp only [Act.put, List.setIfInBounds_toArray, List.set_cons_zero, List.set_cons_succ]
  refine wl_read (v := ?_) (some 22) rfl (by rfl) ?_ ?_
  rotate_left
  · go_simp; (try with_reducible rfl)
  simp only [Act.put, List.setIfInBounds_toArray, List.set_cons_zero, List.set_cons_succ]
  refine wl_read (v := ?_) (some 23) rfl (by rfl) ?_ ?_
  rotate_left
  · go_simp; (try with_reducible rfl)
  simp only [Act.put, List.setIfInBounds_toArray, List.set_cons_zero, List.set_cons_succ]
  refine wl_read (v := ?_) (some 24) rfl (by rfl) ?_ ?_
  rotate_left
  · go_simp; (try with_reducible rfl)
  simp only [Act.put, List.setIfInBounds_toArray, List.set_cons_zero, List.set_cons_succ]
  refine wl_load (some 25) rfl (by rfl) 29 (.tmp 1) rfl g0 rfl 29 (opCells o) _ O_4.out Try.underlying29 rfl (by kernel_rfl) ?_
  simp only [Act.put, List.setIfInBounds_toArray, List.set_cons_zero, List.set_cons_succ]
  go_wp2_with fail
  clear lw5
  refine (rest_any o _).mono ?_
  rintro e w6 ⟨rfl, hb6⟩
  have O_7 := Lib.hid (O_4.out.bl hb6)
  have Bel_7 := Lib.hid (bel_bl Bel_4.out hb6)
  clear hb6
  have lw8 : w6.cell? ⟨g0, 0, none⟩ = some (.int .i64 o.k) := O_7.out.cell (i := 0) rfl
  have lw9 : w6.cell? ⟨g0, 7, none⟩ = some (.int .i64 o.a0) := O_7.out.cell (i := 7) rfl
  have lw10 : w6.cell? ⟨g0, 8, none⟩ = some (.int .i64 o.a1) := O_7.out.cell (i := 8) rfl
  have lw11 : w6.cell? ⟨g0, 9, none⟩ = some (.int .i64 o.a2) := O_7.out.cell (i := 9) rfl
  have lw12 : w6.cell? ⟨g0, 10, none⟩ = some (.int .i64 o.a3) := O_7.out.cell (i := 10) rfl
  have lw13 : w6.cell? ⟨g0, 11, none⟩ = some (.int .i64 o.a4) := O_7.out.cell (i := 11) rfl
  go_wp2_with fail
  clear lw8 lw9 lw10 lw11 lw12 lw13
  refine (rcorner_any o.a0 o.a1 o.a2 o.a3 o.a4 _).mono ?_
  rintro e w14 ⟨rfl, hb14⟩
  have O_15 := Lib.hid (O_7.out.bl hb14)
  have Bel_15 := Lib.hid (bel_bl Bel_7.out hb14)
  clear hb14
  have lw16 : w14.cell? ⟨g0, 0, none⟩ = some (.int .i64 o.k) := O_15.out.cell (i := 0) rfl
  have lw17 : w14.cell? ⟨g0, 12, none⟩ = some (.int .i64 o.b0) := O_15.out.cell (i := 12) rfl
  have lw18 : w14.cell? ⟨g0, 13, none⟩ = some (.int .i64 o.b1) := O_15.out.cell (i := 13) rfl
  have lw19 : w14.cell? ⟨g0, 14, none⟩ = some (.int .i64 o.b2) := O_15.out.cell (i := 14) rfl
  have lw20 : w14.cell? ⟨g0, 15, none⟩ = some (.int .i64 o.b3) := O_15.out.cell (i := 15) rfl
  have lw21 : w14.cell? ⟨g0, 16, none⟩ = some (.int .i64 o.b4) := O_15.out.cell (i := 16) rfl
  go_wp2_with fail
  clear lw16 lw17 lw18 lw19 lw20 lw21
  refine (rcorner_any o.b0 o.b1 o.b2 o.b3 o.b4 _).mono ?_
  rintro e w22 ⟨rfl, hb22⟩
  have O_23 := Lib.hid (O_15.out.bl hb22)
  have Bel_23 := Lib.hid (bel_bl Bel_15.out hb22)
  clear hb22
  have lw24 : w22.cell? ⟨g0, 0, none⟩ = some (.int .i64 o.k) := O_23.out.cell (i := 0) rfl
  go_wp2
  go_ret
  exact ⟨rfl, Bel_23.out⟩

set_option maxRecDepth 100000 in
set_option maxHeartbeats 2000000 in
theorem rm_3y (o : OpT) (h0 : decide (o.k < 1) = false) (h9 : decide (8 < o.k) = false) (h1 : mayI o.s o.n = true) (h2 : restO o = zeroO) (hk : o.k = 3) (h3 : mayC o.a0 o.a1 o.a2 o.a3 o.a4 = true) (h4 : mayC o.b0 o.b1 o.b2 o.b3 o.b4 = true) (w : World) : Calls Try.prog 15 #[.agg (opCells o).toArray] w fun e w' => e = .returned (.int .i64 0) ∧ Below w.heap.size w w' := by
  have he : Try.prog.eqGuardType Try.prog.depth 29 = false := by kernel_rfl
  have hq := neq_op_run (restO o) zeroO
  rw [opCells_zero, decide_eq_true h2] at hq
  clear h2
  have q3 : (o.k == 3) = true := by rw [hk]; decide
  have q5 : (o.k == 5) = false := by rw [hk]; decide
  have q6 : (o.k == 6) = false := by rw [hk]; decide
  have q7 : (o.k == 7) = false := by rw [hk]; decide
  have q8 : (o.k == 8) = false := by rw [hk]; decide
  clear hk
  go_enter Try.func15, Try.ntmps15
  go_upto_region 1 with fail
  obtain ⟨W1, gW1⟩ : ∃ x, w.alloc (.cells (opCells o).toArray 29) = x := ⟨_, rfl⟩
  have HO : RowKit.Hid (Whole W1 w.heap.size 29 (opCells o)) := Lib.hid (by rw [← gW1]; exact Whole.new_ w _ _)
  have HB : RowKit.Hid (Below w.heap.size w W1) := Lib.hid (by rw [← gW1]; exact below1 _ _)
  rw [gW1]
  clear gW1
  obtain ⟨g0, gg0⟩ : ∃ x, w.heap.size = x := ⟨_, rfl⟩
  rw [gg0] at HO ⊢
  clear gg0
  have lw1 : W1.cell? ⟨g0, 1, none⟩ = some (.int .i64 o.s) := HO.out.cell (i := 1) rfl
  have lw2 : W1.cell? ⟨g0, 2, none⟩ = some (.int .i64 o.n) := HO.out.cell (i := 2) rfl
  go_wp2_with fail
  clear lw1 lw2
  refine (rmay_any o.s o.n _).mono ?_
  rintro e w3 ⟨rfl, hb3⟩
  have O_4 := Lib.hid (HO.out.bl hb3)
  have Bel_4 := Lib.hid (bel_bl HB.out hb3)
  clear hb3
  have lw5 : w3.cell? ⟨g0, 0, none⟩ = some (.int .i64 o.k) := O_4.out.cell (i := 0) rfl
  go_upto_region 2 with fail
  refine wp_region_lit ?_
  refine wl_read (v := ?_) (some 12) rfl (by rfl) ?_ ?_
  rotate_left
  · go_simp; (try with_reducible rfl)
  simp only [Act.put, List.setIfInBounds_toArray, List.set_cons_zero, List.set_cons_succ]
  refine wl_read (v := ?_) (some 13) rfl (by rfl) ?_ ?_
  rotate_left
  · go_simp; (try with_reducible rfl)
  simp only [Act.put, List.setIfInBounds_toArray, List.set_cons_zero, List.set_cons_succ]
  refine wl_read (v := ?_) (some 14) rfl (by rfl) ?_ ?_
  rotate_left
  · go_simp; (try with_reducible rfl)
  simp only [Act.put, List.setIfInBounds_toArray, List.set_cons_zero, List.set_cons_succ]
  refine wl_read (v := ?_) (some 15) rfl (by rfl) ?_ ?_
  rotate_left
  · go_simp; (try with_reducible rfl)
  simp only [Act.put, List.setIfInBounds_toArray, List.set_cons_zero, List.set_cons_succ]
  refine wl_read (v := ?_) (some 16) rfl (by rfl) ?_ ?_
  rotate_left
  · go_simp; (try with_reducible rfl)
  simp only [Act.put, List.setIfInBounds_toArray, List.set_cons_zero, List.set_cons_succ]
  refine wl_read (v := ?_) (some 17) rfl (by rfl) ?_ ?_
  rotate_left
  · go_simp; (try with_reducible rfl)
  simp only [Act.put, List.setIfInBounds_toArray, List.set_cons_zero, List.set_cons_succ]
  refine wl_read (v := ?_) (some 18) rfl (by rfl) ?_ ?_
  rotate_left
  · go_simp; (try with_reducible rfl)
  simp only [Act.put, List.setIfInBounds_toArray, List.set_cons_zero, List.set_cons_succ]
  refine wl_read (v := ?_) (some 19) rfl (by rfl) ?_ ?_
  rotate_left
  · go_simp; (try with_reducible rfl)
  simp only [Act.put, List.setIfInBounds_toArray, List.set_cons_zero, List.set_cons_succ]
  refine wl_read (v := ?_) (some 20) rfl (by rfl) ?_ ?_
  rotate_left
  · go_simp; (try with_reducible rfl)
  simp only [Act.put, List.setIfInBounds_toArray, List.set_cons_zero, List.set_cons_succ]
  refine wl_read (v := ?_) (some 21) rfl (by rfl) ?_ ?_
  rotate_left
  · go_simp; (try with_reducible rfl)
  simp only [Act.put, List.setIfInBounds_toArray, List.set_cons_zero, List.set_cons_succ]
  refine wl_read (v := ?_) (some 22) rfl (by rfl) ?_ ?_
  rotate_left
  · go_simp; (try with_reducible rfl)
  simp only [Act.put, List.setIfInBounds_toArray, List.set_cons_zero, List.set_cons_succ]
  refine wl_read (v := ?_) (some 23) rfl (by rfl) ?_ ?_
  rotate_left
  · go_simp; (try with_reducible rfl)
  simp only [Act.put, List.setIfInBounds_toArray, List.set_cons_zero, List.set_cons_succ]
  refine wl_read (v := ?_) (some 24) rfl (by rfl) ?_ ?_
  rotate_left
  · go_simp; (try with_reducible rfl)
  simp only [Act.put, List.setIfInBounds_toArray, List.set_cons_zero, List.set_cons_succ]
  refine wl_load (some 25) rfl (by rfl) 29 (.tmp 1) rfl g0 rfl 29 (opCells o) _ O_4.out Try.underlying29 rfl (by kernel_rfl) ?_
  simp only [Act.put, List.setIfInBounds_toArray, List.set_cons_zero, List.set_cons_succ]
  go_wp2_with fail
  clear lw5
  refine (rest_any o _).mono ?_
  rintro e w6 ⟨rfl, hb6⟩
  have O_7 := Lib.hid (O_4.out.bl hb6)
  have Bel_7 := Lib.hid (bel_bl Bel_4.out hb6)
  clear hb6
  have lw8 : w6.cell? ⟨g0, 0, none⟩ = some (.int .i64 o.k) := O_7.out.cell (i := 0) rfl
  have lw9 : w6.cell? ⟨g0, 7, none⟩ = some (.int .i64 o.a0) := O_7.out.cell (i := 7) rfl
  have lw10 : w6.cell? ⟨g0, 8, none⟩ = some (.int .i64 o.a1) := O_7.out.cell (i := 8) rfl
  have lw11 : w6.cell? ⟨g0, 9, none⟩ = some (.int .i64 o.a2) := O_7.out.cell (i := 9) rfl
  have lw12 : w6.cell? ⟨g0, 10, none⟩ = some (.int .i64 o.a3) := O_7.out.cell (i := 10) rfl
  have lw13 : w6.cell? ⟨g0, 11, none⟩ = some (.int .i64 o.a4) := O_7.out.cell (i := 11) rfl
  go_wp2_with fail
  clear lw8 lw9 lw10 lw11 lw12 lw13
  refine (rcorner_any o.a0 o.a1 o.a2 o.a3 o.a4 _).mono ?_
  rintro e w14 ⟨rfl, hb14⟩
  have O_15 := Lib.hid (O_7.out.bl hb14)
  have Bel_15 := Lib.hid (bel_bl Bel_7.out hb14)
  clear hb14
  have lw16 : w14.cell? ⟨g0, 0, none⟩ = some (.int .i64 o.k) := O_15.out.cell (i := 0) rfl
  have lw17 : w14.cell? ⟨g0, 12, none⟩ = some (.int .i64 o.b0) := O_15.out.cell (i := 12) rfl
  have lw18 : w14.cell? ⟨g0, 13, none⟩ = some (.int .i64 o.b1) := O_15.out.cell (i := 13) rfl
  have lw19 : w14.cell? ⟨g0, 14, none⟩ = some (.int .i64 o.b2) := O_15.out.cell (i := 14) rfl
  have lw20 : w14.cell? ⟨g0, 15, none⟩ = some (.int .i64 o.b3) := O_15.out.cell (i := 15) rfl
  have lw21 : w14.cell? ⟨g0, 16, none⟩ = some (.int .i64 o.b4) := O_15.out.cell (i := 16) rfl
  go_wp2_with fail
  clear lw16 lw17 lw18 lw19 lw20 lw21
  refine (rcorner_any o.b0 o.b1 o.b2 o.b3 o.b4 _).mono ?_
  rintro e w22 ⟨rfl, hb22⟩
  have O_23 := Lib.hid (O_15.out.bl hb22)
  have Bel_23 := Lib.hid (bel_bl Bel_15.out hb22)
  clear hb22
  have lw24 : w22.cell? ⟨g0, 0, none⟩ = some (.int .i64 o.k) := O_23.out.cell (i := 0) rfl
  go_wp2
  go_ret
  exact ⟨rfl, Bel_23.out⟩

set_option maxRecDepth 100000 in
set_option maxHeartbeats 2000000 in
theorem rm_5a (o : OpT) (h0 : decide (o.k < 1) = false) (h9 : decide (8 < o.k) = false) (h1 : mayI o.s o.n = true) (h2 : restO o = zeroO) (hk : o.k = 5) (h3 : mayI o.s1 o.n1 = false) (w : World) : Calls Try.prog 15 #[.agg (opCells o).toArray] w fun e w' => e = .returned (.int .i64 1) ∧ Below w.heap.size w w' := by
  have he : Try.prog.eqGuardType Try.prog.depth 29 = false := by kernel_rfl
  have hq := neq_op_run (restO o) zeroO
  rw [opCells_zero, decide_eq_true h2] at hq
  clear h2
  have q3 : (o.k == 3) = false := by rw [hk]; decide
  have q5 : (o.k == 5) = true := by rw [hk]; decide
  have q6 : (o.k == 6) = false := by rw [hk]; decide
  have q7 : (o.k == 7) = false := by rw [hk]; decide
  have q8 : (o.k == 8) = false := by rw [hk]; decide
  clear hk
  go_enter Try.func15, Try.ntmps15
  go_upto_region 1 with fail
  obtain ⟨W1, gW1⟩ : ∃ x, w.alloc (.cells (opCells o).toArray 29) = x := ⟨_, rfl⟩
  have HO : RowKit.Hid (Whole W1 w.heap.size 29 (opCells o)) := Lib.hid (by rw [← gW1]; exact Whole.new_ w _ _)
  have HB : RowKit.Hid (Below w.heap.size w W1) := Lib.hid (by rw [← gW1]; exact below1 _ _)
  rw [gW1]
  clear gW1
  obtain ⟨g0, gg0⟩ : ∃ x, w.heap.size = x := ⟨_, rfl⟩
  rw [gg0] at HO ⊢
  clear gg0
  have lw1 : W1.cell? ⟨g0, 1, none⟩ = some (.int .i64 o.s) := HO.out.cell (i := 1) rfl
  have lw2 : W1.cell? ⟨g0, 2, none⟩ = some (.int .i64 o.n) := HO.out.cell (i := 2) rfl
  go_wp2_with fail
  clear lw1 lw2
  refine (rmay_any o.s o.n _).mono ?_
  rintro e w3 ⟨rfl, hb3⟩
  have O_4 := Lib.hid (HO.out.bl hb3)
  have Bel_4 := Lib.hid (bel_bl HB.out hb3)
  clear hb3
  have lw5 : w3.cell? ⟨g0, 0, none⟩ = some (.int .i64 o.k) := O_4.out.cell (i := 0) rfl
  go_upto_region 2 with fail
  refine wp_region_lit ?_
  refine wl_read (v := ?_) (some 12) rfl (by rfl) ?_ ?_
  rotate_left
  · go_simp; (try with_reducible rfl)
  simp only [Act.put, List.setIfInBounds_toArray, List.set_cons_zero, List.set_cons_succ]
  refine wl_read (v := ?_) (some 13) rfl (by rfl) ?_ ?_
  rotate_left
  · go_simp; (try with_reducible rfl)
  simp only [Act.put, List.setIfInBounds_toArray, List.set_cons_zero, List.set_cons_succ]
  refine wl_read (v := ?_) (some 14) rfl (by rfl) ?_ ?_
  rotate_left
  · go_simp; (try with_reducible rfl)
  simp only [Act.put, List.setIfInBounds_toArray, List.set_cons_zero, List.set_cons_succ]
  refine wl_read (v := ?_) (some 15) rfl (by rfl) ?_ ?_
  rotate_left
  · go_simp; (try with_reducible rfl)
  simp only [Act.put, List.setIfInBounds_toArray, List.set_cons_zero, List.set_cons_succ]
  refine wl_read (v := ?_) (some 16) rfl (by rfl) ?_ ?_
  rotate_left
  · go_simp; (try with_reducible rfl)
  simp only [Act.put, List.setIfInBounds_toArray, List.set_cons_zero, List.set_cons_succ]
  refine wl_read (v := ?_) (some 17) rfl (by rfl) ?_ ?_
  rotate_left
  · go_simp; (try with_reducible rfl)
  simp only [Act.put, List.setIfInBounds_toArray, List.set_cons_zero, List.set_cons_succ]
  refine wl_read (v := ?_) (some 18) rfl (by rfl) ?_ ?_
  rotate_left
  · go_simp; (try with_reducible rfl)
  simp only [Act.put, List.setIfInBounds_toArray, List.set_cons_zero, List.set_cons_succ]
  refine wl_read (v := ?_) (some 19) rfl (by rfl) ?_ ?_
  rotate_left
  · go_simp; (try with_reducible rfl)
  simp only [Act.put, List.setIfInBounds_toArray, List.set_cons_zero, List.set_cons_succ]
  refine wl_read (v := ?_) (some 20) rfl (by rfl) ?_ ?_
  rotate_left
  · go_simp; (try with_reducible rfl)
  simp only [Act.put, List.setIfInBounds_toArray, List.set_cons_zero, List.set_cons_succ]
  refine wl_read (v := ?_) (some 21) rfl (by rfl) ?_ ?_
  rotate_left
  · go_simp; (try with_reducible rfl)
  simp only [Act.put, List.setIfInBounds_toArray, List.set_cons_zero, List.set_cons_succ]
  refine wl_read (v := ?_) (some 22) rfl (by rfl) ?_ ?_
  rotate_left
  · go_simp; (try with_reducible rfl)
  simp only [Act.put, List.setIfInBounds_toArray, List.set_cons_zero, List.set_cons_succ]
  refine wl_read (v := ?_) (some 23) rfl (by rfl) ?_ ?_
  rotate_left
  · go_simp; (try with_reducible rfl)
  simp only [Act.put, List.setIfInBounds_toArray, List.set_cons_zero, List.set_cons_succ]
  refine wl_read (v := ?_) (some 24) rfl (by rfl) ?_ ?_
  rotate_left
  · go_simp; (try with_reducible rfl)
  simp only [Act.put, List.setIfInBounds_toArray, List.set_cons_zero, List.set_cons_succ]
  refine wl_load (some 25) rfl (by rfl) 29 (.tmp 1) rfl g0 rfl 29 (opCells o) _ O_4.out Try.underlying29 rfl (by kernel_rfl) ?_
  simp only [Act.put, List.setIfInBounds_toArray, List.set_cons_zero, List.set_cons_succ]
  go_wp2_with fail
  clear lw5
  refine (rest_any o _).mono ?_
  rintro e w6 ⟨rfl, hb6⟩
  have O_7 := Lib.hid (O_4.out.bl hb6)
  have Bel_7 := Lib.hid (bel_bl Bel_4.out hb6)
  clear hb6
  have lw8 : w6.cell? ⟨g0, 0, none⟩ = some (.int .i64 o.k) := O_7.out.cell (i := 0) rfl
  have lw9 : w6.cell? ⟨g0, 3, none⟩ = some (.int .i64 o.s1) := O_7.out.cell (i := 3) rfl
  have lw10 : w6.cell? ⟨g0, 4, none⟩ = some (.int .i64 o.n1) := O_7.out.cell (i := 4) rfl
  go_wp2_with fail
  clear lw8 lw9 lw10
  refine (rmay_any o.s1 o.n1 _).mono ?_
  rintro e w11 ⟨rfl, hb11⟩
  have O_12 := Lib.hid (O_7.out.bl hb11)
  have Bel_12 := Lib.hid (bel_bl Bel_7.out hb11)
  clear hb11
  have lw13 : w11.cell? ⟨g0, 0, none⟩ = some (.int .i64 o.k) := O_12.out.cell (i := 0) rfl
  have lw14 : w11.cell? ⟨g0, 5, none⟩ = some (.int .i64 o.s2) := O_12.out.cell (i := 5) rfl
  have lw15 : w11.cell? ⟨g0, 6, none⟩ = some (.int .i64 o.n2) := O_12.out.cell (i := 6) rfl
  go_wp2_with fail
  clear lw13 lw14 lw15
  refine (rmay_any o.s2 o.n2 _).mono ?_
  rintro e w16 ⟨rfl, hb16⟩
  have O_17 := Lib.hid (O_12.out.bl hb16)
  have Bel_17 := Lib.hid (bel_bl Bel_12.out hb16)
  clear hb16
  have lw18 : w16.cell? ⟨g0, 0, none⟩ = some (.int .i64 o.k) := O_17.out.cell (i := 0) rfl
  have lw19 : w16.cell? ⟨g0, 19, none⟩ = some (.int .i64 o.m) := O_17.out.cell (i := 19) rfl
  go_wp2
  go_ret
  exact ⟨rfl, Bel_17.out⟩

set_option maxRecDepth 100000 in
set_option maxHeartbeats 2000000 in
theorem rm_5b (o : OpT) (h0 : decide (o.k < 1) = false) (h9 : decide (8 < o.k) = false) (h1 : mayI o.s o.n = true) (h2 : restO o = zeroO) (hk : o.k = 5) (h3 : mayI o.s1 o.n1 = true) (h4 : mayI o.s2 o.n2 = false) (w : World) : Calls Try.prog 15 #[.agg (opCells o).toArray] w fun e w' => e = .returned (.int .i64 1) ∧ Below w.heap.size w w' := by
  have he : Try.prog.eqGuardType Try.prog.depth 29 = false := by kernel_rfl
  have hq := neq_op_run (restO o) zeroO
  rw [opCells_zero, decide_eq_true h2] at hq
  clear h2
  have q3 : (o.k == 3) = false := by rw [hk]; decide
  have q5 : (o.k == 5) = true := by rw [hk]; decide
  have q6 : (o.k == 6) = false := by rw [hk]; decide
  have q7 : (o.k == 7) = false := by rw [hk]; decide
  have q8 : (o.k == 8) = false := by rw [hk]; decide
  clear hk
  go_enter Try.func15, Try.ntmps15
  go_upto_region 1 with fail
  obtain ⟨W1, gW1⟩ : ∃ x, w.alloc (.cells (opCells o).toArray 29) = x := ⟨_, rfl⟩
  have HO : RowKit.Hid (Whole W1 w.heap.size 29 (opCells o)) := Lib.hid (by rw [← gW1]; exact Whole.new_ w _ _)
  have HB : RowKit.Hid (Below w.heap.size w W1) := Lib.hid (by rw [← gW1]; exact below1 _ _)
  rw [gW1]
  clear gW1
  obtain ⟨g0, gg0⟩ : ∃ x, w.heap.size = x := ⟨_, rfl⟩
  rw [gg0] at HO ⊢
  clear gg0
  have lw1 : W1.cell? ⟨g0, 1, none⟩ = some (.int .i64 o.s) := HO.out.cell (i := 1) rfl
  have lw2 : W1.cell? ⟨g0, 2, none⟩ = some (.int .i64 o.n) := HO.out.cell (i := 2) rfl
  go_wp2_with fail
  clear lw1 lw2
  refine (rmay_any o.s o.n _).mono ?_
  rintro e w3 ⟨rfl, hb3⟩
  have O_4 := Lib.hid (HO.out.bl hb3)
  have Bel_4 := Lib.hid (bel_bl HB.out hb3)
  clear hb3
  have lw5 : w3.cell? ⟨g0, 0, none⟩ = some (.int .i64 o.k) := O_4.out.cell (i := 0) rfl
  go_upto_region 2 with fail
  refine wp_region_lit ?_
  refine wl_read (v := ?_) (some 12) rfl (by rfl) ?_ ?_
  rotate_left
  · go_simp; (try with_reducible rfl)
  simp only [Act.put, List.setIfInBounds_toArray, List.set_cons_zero, List.set_cons_succ]
  refine wl_read (v := ?_) (some 13) rfl (by rfl) ?_ ?_
  rotate_left
  · go_simp; (try with_reducible rfl)
  simp only [Act.put, List.setIfInBounds_toArray, List.set_cons_zero, List.set_cons_succ]
  refine wl_read (v := ?_) (some 14) rfl (by rfl) ?_ ?_
  rotate_left
  · go_simp; (try with_reducible rfl)
  simp only [Act.put, List.setIfInBounds_toArray, List.set_cons_zero, List.set_cons_succ]
  refine wl_read (v := ?_) (some 15) rfl (by rfl) ?_ ?_
  rotate_left
  · go_simp; (try with_reducible rfl)
  simp only [Act.put, List.setIfInBounds_toArray, List.set_cons_zero, List.set_cons_succ]
  refine wl_read (v := ?_) (some 16) rfl (by rfl) ?_ ?_
  rotate_left
  · go_simp; (try with_reducible rfl)
  simp only [Act.put, List.setIfInBounds_toArray, List.set_cons_zero, List.set_cons_succ]
  refine wl_read (v := ?_) (some 17) rfl (by rfl) ?_ ?_
  rotate_left
  · go_simp; (try with_reducible rfl)
  simp only [Act.put, List.setIfInBounds_toArray, List.set_cons_zero, List.set_cons_succ]
  refine wl_read (v := ?_) (some 18) rfl (by rfl) ?_ ?_
  rotate_left
  · go_simp; (try with_reducible rfl)
  simp only [Act.put, List.setIfInBounds_toArray, List.set_cons_zero, List.set_cons_succ]
  refine wl_read (v := ?_) (some 19) rfl (by rfl) ?_ ?_
  rotate_left
  · go_simp; (try with_reducible rfl)
  simp only [Act.put, List.setIfInBounds_toArray, List.set_cons_zero, List.set_cons_succ]
  refine wl_read (v := ?_) (some 20) rfl (by rfl) ?_ ?_
  rotate_left
  · go_simp; (try with_reducible rfl)
  simp only [Act.put, List.setIfInBounds_toArray, List.set_cons_zero, List.set_cons_succ]
  refine wl_read (v := ?_) (some 21) rfl (by rfl) ?_ ?_
  rotate_left
  · go_simp; (try with_reducible rfl)
  simp only [Act.put, List.setIfInBounds_toArray, List.set_cons_zero, List.set_cons_succ]
  refine wl_read (v := ?_) (some 22) rfl (by rfl) ?_ ?_
  rotate_left
  · go_simp; (try with_reducible rfl)
  simp only [Act.put, List.setIfInBounds_toArray, List.set_cons_zero, List.set_cons_succ]
  refine wl_read (v := ?_) (some 23) rfl (by rfl) ?_ ?_
  rotate_left
  · go_simp; (try with_reducible rfl)
  simp only [Act.put, List.setIfInBounds_toArray, List.set_cons_zero, List.set_cons_succ]
  refine wl_read (v := ?_) (some 24) rfl (by rfl) ?_ ?_
  rotate_left
  · go_simp; (try with_reducible rfl)
  simp only [Act.put, List.setIfInBounds_toArray, List.set_cons_zero, List.set_cons_succ]
  refine wl_load (some 25) rfl (by rfl) 29 (.tmp 1) rfl g0 rfl 29 (opCells o) _ O_4.out Try.underlying29 rfl (by kernel_rfl) ?_
  simp only [Act.put, List.setIfInBounds_toArray, List.set_cons_zero, List.set_cons_succ]
  go_wp2_with fail
  clear lw5
  refine (rest_any o _).mono ?_
  rintro e w6 ⟨rfl, hb6⟩
  have O_7 := Lib.hid (O_4.out.bl hb6)
  have Bel_7 := Lib.hid (bel_bl Bel_4.out hb6)
  clear hb6
  have lw8 : w6.cell? ⟨g0, 0, none⟩ = some (.int .i64 o.k) := O_7.out.cell (i := 0) rfl
  have lw9 : w6.cell? ⟨g0, 3, none⟩ = some (.int .i64 o.s1) := O_7.out.cell (i := 3) rfl
  have lw10 : w6.cell? ⟨g0, 4, none⟩ = some (.int .i64 o.n1) := O_7.out.cell (i := 4) rfl
  go_wp2_with fail
  clear lw8 lw9 lw10
  refine (rmay_any o.s1 o.n1 _).mono ?_
  rintro e w11 ⟨rfl, hb11⟩
  have O_12 := Lib.hid (O_7.out.bl hb11)
  have Bel_12 := Lib.hid (bel_bl Bel_7.out hb11)
  clear hb11
  have lw13 : w11.cell? ⟨g0, 0, none⟩ = some (.int .i64 o.k) := O_12.out.cell (i := 0) rfl
  have lw14 : w11.cell? ⟨g0, 5, none⟩ = some (.int .i64 o.s2) := O_12.out.cell (i := 5) rfl
  have lw15 : w11.cell? ⟨g0, 6, none⟩ = some (.int .i64 o.n2) := O_12.out.cell (i := 6) rfl
  go_wp2_with fail
  clear lw13 lw14 lw15
  refine (rmay_any o.s2 o.n2 _).mono ?_
  rintro e w16 ⟨rfl, hb16⟩
  have O_17 := Lib.hid (O_12.out.bl hb16)
  have Bel_17 := Lib.hid (bel_bl Bel_12.out hb16)
  clear hb16
  have lw18 : w16.cell? ⟨g0, 0, none⟩ = some (.int .i64 o.k) := O_17.out.cell (i := 0) rfl
  have lw19 : w16.cell? ⟨g0, 19, none⟩ = some (.int .i64 o.m) := O_17.out.cell (i := 19) rfl
  go_wp2
  go_ret
  exact ⟨rfl, Bel_17.out⟩

set_option maxRecDepth 100000 in
set_option maxHeartbeats 2000000 in
theorem rm_5c (o : OpT) (h0 : decide (o.k < 1) = false) (h9 : decide (8 < o.k) = false) (h1 : mayI o.s o.n = true) (h2 : restO o = zeroO) (hk : o.k = 5) (h3 : mayI o.s1 o.n1 = true) (h4 : mayI o.s2 o.n2 = true) (h5 : decide (o.m < 0) = true) (w : World) : Calls Try.prog 15 #[.agg (opCells o).toArray] w fun e w' => e = .returned (.int .i64 1) ∧ Below w.heap.size w w' := by
  have he : Try.prog.eqGuardType Try.prog.depth 29 = false := by kernel_rfl
  have hq := neq_op_run (restO o) zeroO
  rw [opCells_zero, decide_eq_true h2] at hq
  clear h2
  have q3 : (o.k == 3) = false := by rw [hk]; decide
  have q5 : (o.k == 5) = true := by rw [hk]; decide
  have q6 : (o.k == 6) = false := by rw [hk]; decide
  have q7 : (o.k == 7) = false := by rw [hk]; decide
  have q8 : (o.k == 8) = false := by rw [hk]; decide
  clear hk
  go_enter Try.func15, Try.ntmps15
  go_upto_region 1 with fail
  obtain ⟨W1, gW1⟩ : ∃ x, w.alloc (.cells (opCells o).toArray 29) = x := ⟨_, rfl⟩
  have HO : RowKit.Hid (Whole W1 w.heap.size 29 (opCells o)) := Lib.hid (by rw [← gW1]; exact Whole.new_ w _ _)
  have HB : RowKit.Hid (Below w.heap.size w W1) := Lib.hid (by rw [← gW1]; exact below1 _ _)
  rw [gW1]
  clear gW1
  obtain ⟨g0, gg0⟩ : ∃ x, w.heap.size = x := ⟨_, rfl⟩
  rw [gg0] at HO ⊢
  clear gg0
  have lw1 : W1.cell? ⟨g0, 1, none⟩ = some (.int .i64 o.s) := HO.out.cell (i := 1) rfl
  have lw2 : W1.cell? ⟨g0, 2, none⟩ = some (.int .i64 o.n) := HO.out.cell (i := 2) rfl
  go_wp2_with fail
  clear lw1 lw2
  refine (rmay_any o.s o.n _).mono ?_
  rintro e w3 ⟨rfl, hb3⟩
  have O_4 := Lib.hid (HO.out.bl hb3)
  have Bel_4 := Lib.hid (bel_bl HB.out hb3)
  clear hb3
  have lw5 : w3.cell? ⟨g0, 0, none⟩ = some (.int .i64 o.k) := O_4.out.cell (i := 0) rfl
  go_upto_region 2 with fail
  refine wp_region_lit ?_
  refine wl_read (v := ?_) (some 12) rfl (by rfl) ?_ ?_
  rotate_left
  · go_simp; (try with_reducible rfl)
  simp only [Act.put, List.setIfInBounds_toArray, List.set_cons_zero, List.set_cons_succ]
  refine wl_read (v := ?_) (some 13) rfl (by rfl) ?_ ?_
  rotate_left
  · go_simp; (try with_reducible rfl)
  simp only [Act.put, List.setIfInBounds_toArray, List.set_cons_zero, List.set_cons_succ]
  refine wl_read (v := ?_) (some 14) rfl (by rfl) ?_ ?_
  rotate_left
  · go_simp; (try with_reducible rfl)
  simp only [Act.put, List.setIfInBounds_toArray, List.set_cons_zero, List.set_cons_succ]
  refine wl_read (v := ?_) (some 15) rfl (by rfl) ?_ ?_
  rotate_left
  · go_simp; (try with_reducible rfl)
  simp only [Act.put, List.setIfInBounds_toArray, List.set_cons_zero, List.set_cons_succ]
  refine wl_read (v := ?_) (some 16) rfl (by rfl) ?_ ?_
  rotate_left
  · go_simp; (try with_reducible rfl)
  simp only [Act.put, List.setIfInBounds_toArray, List.set_cons_zero, List.set_cons_succ]
  refine wl_read (v := ?_) (some 17) rfl (by rfl) ?_ ?_
  rotate_left
  · go_simp; (try with_reducible rfl)
  simp only [Act.put, List.setIfInBounds_toArray, List.set_cons_zero, List.set_cons_succ]
  refine wl_read (v := ?_) (some 18) rfl (by rfl) ?_ ?_
  rotate_left
  · go_simp; (try with_reducible rfl)
  simp only [Act.put, List.setIfInBounds_toArray, List.set_cons_zero, List.set_cons_succ]
  refine wl_read (v := ?_) (some 19) rfl (by rfl) ?_ ?_
  rotate_left
  · go_simp; (try with_reducible rfl)
  simp only [Act.put, List.setIfInBounds_toArray, List.set_cons_zero, List.set_cons_succ]
  refine wl_read (v := ?_) (some 20) rfl (by rfl) ?_ ?_
  rotate_left
  · go_simp; (try with_reducible rfl)
  simp only [Act.put, List.setIfInBounds_toArray, List.set_cons_zero, List.set_cons_succ]
  refine wl_read (v := ?_) (some 21) rfl (by rfl) ?_ ?_
  rotate_left
  · go_simp; (try with_reducible rfl)
  simp only [Act.put, List.setIfInBounds_toArray, List.set_cons_zero, List.set_cons_succ]
  refine wl_read (v := ?_) (some 22) rfl (by rfl) ?_ ?_
  rotate_left
  · go_simp; (try with_reducible rfl)
  simp only [Act.put, List.setIfInBounds_toArray, List.set_cons_zero, List.set_cons_succ]
  refine wl_read (v := ?_) (some 23) rfl (by rfl) ?_ ?_
  rotate_left
  · go_simp; (try with_reducible rfl)
  simp only [Act.put, List.setIfInBounds_toArray, List.set_cons_zero, List.set_cons_succ]
  refine wl_read (v := ?_) (some 24) rfl (by rfl) ?_ ?_
  rotate_left
  · go_simp; (try with_reducible rfl)
  simp only [Act.put, List.setIfInBounds_toArray, List.set_cons_zero, List.set_cons_succ]
  refine wl_load (some 25) rfl (by rfl) 29 (.tmp 1) rfl g0 rfl 29 (opCells o) _ O_4.out Try.underlying29 rfl (by kernel_rfl) ?_
  simp only [Act.put, List.setIfInBounds_toArray, List.set_cons_zero, List.set_cons_succ]
  go_wp2_with fail
  clear lw5
  refine (rest_any o _).mono ?_
  rintro e w6 ⟨rfl, hb6⟩
  have O_7 := Lib.hid (O_4.out.bl hb6)
  have Bel_7 := Lib.hid (bel_bl Bel_4.out hb6)
  clear hb6
  have lw8 : w6.cell? ⟨g0, 0, none⟩ = some (.int .i64 o.k) := O_7.out.cell (i := 0) rfl
  have lw9 : w6.cell? ⟨g0, 3, none⟩ = some (.int .i64 o.s1) := O_7.out.cell (i := 3) rfl
  have lw10 : w6.cell? ⟨g0, 4, none⟩ = some (.int .i64 o.n1) := O_7.out.cell (i := 4) rfl
  go_wp2_with fail
  clear lw8 lw9 lw10
  refine (rmay_any o.s1 o.n1 _).mono ?_
  rintro e w11 ⟨rfl, hb11⟩
  have O_12 := Lib.hid (O_7.out.bl hb11)
  have Bel_12 := Lib.hid (bel_bl Bel_7.out hb11)
  clear hb11
  have lw13 : w11.cell? ⟨g0, 0, none⟩ = some (.int .i64 o.k) := O_12.out.cell (i := 0) rfl
  have lw14 : w11.cell? ⟨g0, 5, none⟩ = some (.int .i64 o.s2) := O_12.out.cell (i := 5) rfl
  have lw15 : w11.cell? ⟨g0, 6, none⟩ = some (.int .i64 o.n2) := O_12.out.cell (i := 6) rfl
  go_wp2_with fail
  clear lw13 lw14 lw15
  refine (rmay_any o.s2 o.n2 _).mono ?_
  rintro e w16 ⟨rfl, hb16⟩
  have O_17 := Lib.hid (O_12.out.bl hb16)
  have Bel_17 := Lib.hid (bel_bl Bel_12.out hb16)
  clear hb16
  have lw18 : w16.cell? ⟨g0, 0, none⟩ = some (.int .i64 o.k) := O_17.out.cell (i := 0) rfl
  have lw19 : w16.cell? ⟨g0, 19, none⟩ = some (.int .i64 o.m) := O_17.out.cell (i := 19) rfl
  go_wp2
  go_ret
  exact ⟨rfl, Bel_17.out⟩

set_option maxRecDepth 100000 in
set_option maxHeartbeats 2000000 in
theorem rm_5d (o : OpT) (h0 : decide (o.k < 1) = false) (h9 : decide (8 < o.k) = false) (h1 : mayI o.s o.n = true) (h2 : restO o = zeroO) (hk : o.k = 5) (h3 : mayI o.s1 o.n1 = true) (h4 : mayI o.s2 o.n2 = true) (h5 : decide (o.m < 0) = false) (h6 : decide (3 < o.m) = true) (w : World) : Calls Try.prog 15 #[.agg (opCells o).toArray] w fun e w' => e = .returned (.int .i64 1) ∧ Below w.heap.size w w' := by
  have he : Try.prog.eqGuardType Try.prog.depth 29 = false := by kernel_rfl
  have hq := neq_op_run (restO o) zeroO
  rw [opCells_zero, decide_eq_true h2] at hq
  clear h2
  have q3 : (o.k == 3) = false := by rw [hk]; decide
  have q5 : (o.k == 5) = true := by rw [hk]; decide
  have q6 : (o.k == 6) = false := by rw [hk]; decide
  have q7 : (o.k == 7) = false := by rw [hk]; decide
  have q8 : (o.k == 8) = false := by rw [hk]; decide
  clear hk
  go_enter Try.func15, Try.ntmps15
  go_upto_region 1 with fail
  obtain ⟨W1, gW1⟩ : ∃ x, w.alloc (.cells (opCells o).toArray 29) = x := ⟨_, rfl⟩
  have HO : RowKit.Hid (Whole W1 w.heap.size 29 (opCells o)) := Lib.hid (by rw [← gW1]; exact Whole.new_ w _ _)
  have HB : RowKit.Hid (Below w.heap.size w W1) := Lib.hid (by rw [← gW1]; exact below1 _ _)
  rw [gW1]
  clear gW1
  obtain ⟨g0, gg0⟩ : ∃ x, w.heap.size = x := ⟨_, rfl⟩
  rw [gg0] at HO ⊢
  clear gg0
  have lw1 : W1.cell? ⟨g0, 1, none⟩ = some (.int .i64 o.s) := HO.out.cell (i := 1) rfl
  have lw2 : W1.cell? ⟨g0, 2, none⟩ = some (.int .i64 o.n) := HO.out.cell (i := 2) rfl
  go_wp2_with fail
  clear lw1 lw2
  refine (rmay_any o.s o.n _).mono ?_
  rintro e w3 ⟨rfl, hb3⟩
  have O_4 := Lib.hid (HO.out.bl hb3)
  have Bel_4 := Lib.hid (bel_bl HB.out hb3)
  clear hb3
  have lw5 : w3.cell? ⟨g0, 0, none⟩ = some (.int .i64 o.k) := O_4.out.cell (i := 0) rfl
  go_upto_region 2 with fail
  refine wp_region_lit ?_
  refine wl_read (v := ?_) (some 12) rfl (by rfl) ?_ ?_
  rotate_left
  · go_simp; (try with_reducible rfl)
  simp only [Act.put, List.setIfInBounds_toArray, List.set_cons_zero, List.set_cons_succ]
  refine wl_read (v := ?_) (some 13) rfl (by rfl) ?_ ?_
  rotate_left
  · go_simp; (try with_reducible rfl)
  simp only [Act.put, List.setIfInBounds_toArray, List.set_cons_zero, List.set_cons_succ]
  refine wl_read (v := ?_) (some 14) rfl (by rfl) ?_ ?_
  rotate_left
  · go_simp; (try with_reducible rfl)
  simp only [Act.put, List.setIfInBounds_toArray, List.set_cons_zero, List.set_cons_succ]
  refine wl_read (v := ?_) (some 15) rfl (by rfl) ?_ ?_
  rotate_left
  · go_simp; (try with_reducible rfl)
  simp only [Act.put, List.setIfInBounds_toArray, List.set_cons_zero, List.set_cons_succ]
  refine wl_read (v := ?_) (some 16) rfl (by rfl) ?_ ?_
  rotate_left
  · go_simp; (try with_reducible rfl)
  simp only [Act.put, List.setIfInBounds_toArray, List.set_cons_zero, List.set_cons_succ]
  refine wl_read (v := ?_) (some 17) rfl (by rfl) ?_ ?_
  rotate_left
  · go_simp; (try with_reducible rfl)
  simp only [Act.put, List.setIfInBounds_toArray, List.set_cons_zero, List.set_cons_succ]
  refine wl_read (v := ?_) (some 18) rfl (by rfl) ?_ ?_
  rotate_left
  · go_simp; (try with_reducible rfl)
  simp only [Act.put, List.setIfInBounds_toArray, List.set_cons_zero, List.set_cons_succ]
  refine wl_read (v := ?_) (some 19) rfl (by rfl) ?_ ?_
  rotate_left
  · go_simp; (try with_reducible rfl)
  simp only [Act.put, List.setIfInBounds_toArray, List.set_cons_zero, List.set_cons_succ]
  refine wl_read (v := ?_) (some 20) rfl (by rfl) ?_ ?_
  rotate_left
  · go_simp; (try with_reducible rfl)
  simp only [Act.put, List.setIfInBounds_toArray, List.set_cons_zero, List.set_cons_succ]
  refine wl_read (v := ?_) (some 21) rfl (by rfl) ?_ ?_
  rotate_left
  · go_simp; (try with_reducible rfl)
  simp only [Act.put, List.setIfInBounds_toArray, List.set_cons_zero, List.set_cons_succ]
  refine wl_read (v := ?_) (some 22) rfl (by rfl) ?_ ?_
  rotate_left
  · go_simp; (try with_reducible rfl)
  simp only [Act.put, List.setIfInBounds_toArray, List.set_cons_zero, List.set_cons_succ]
  refine wl_read (v := ?_) (some 23) rfl (by rfl) ?_ ?_
  rotate_left
  · go_simp; (try with_reducible rfl)
  simp only [Act.put, List.setIfInBounds_toArray, List.set_cons_zero, List.set_cons_succ]
  refine wl_read (v := ?_) (some 24) rfl (by rfl) ?_ ?_
  rotate_left
  · go_simp; (try with_reducible rfl)
  simp only [Act.put, List.setIfInBounds_toArray, List.set_cons_zero, List.set_cons_succ]
  refine wl_load (some 25) rfl (by rfl) 29 (.tmp 1) rfl g0 rfl 29 (opCells o) _ O_4.out Try.underlying29 rfl (by kernel_rfl) ?_
  simp only [Act.put, List.setIfInBounds_toArray, List.set_cons_zero, List.set_cons_succ]
  go_wp2_with fail
  clear lw5
  refine (rest_any o _).mono ?_
  rintro e w6 ⟨rfl, hb6⟩
  have O_7 := Lib.hid (O_4.out.bl hb6)
  have Bel_7 := Lib.hid (bel_bl Bel_4.out hb6)
  clear hb6
  have lw8 : w6.cell? ⟨g0, 0, none⟩ = some (.int .i64 o.k) := O_7.out.cell (i := 0) rfl
  have lw9 : w6.cell? ⟨g0, 3, none⟩ = some (.int .i64 o.s1) := O_7.out.cell (i := 3) rfl
  have lw10 : w6.cell? ⟨g0, 4, none⟩ = some (.int .i64 o.n1) := O_7.out.cell (i := 4) rfl
  go_wp2_with fail
  clear lw8 lw9 lw10
  refine (rmay_any o.s1 o.n1 _).mono ?_
  rintro e w11 ⟨rfl, hb11⟩
  have O_12 := Lib.hid (O_7.out.bl hb11)
  have Bel_12 := Lib.hid (bel_bl Bel_7.out hb11)
  clear hb11
  have lw13 : w11.cell? ⟨g0, 0, none⟩ = some (.int .i64 o.k) := O_12.out.cell (i := 0) rfl
  have lw14 : w11.cell? ⟨g0, 5, none⟩ = some (.int .i64 o.s2) := O_12.out.cell (i := 5) rfl
  have lw15 : w11.cell? ⟨g0, 6, none⟩ = some (.int .i64 o.n2) := O_12.out.cell (i := 6) rfl
  go_wp2_with fail
  clear lw13 lw14 lw15
  refine (rmay_any o.s2 o.n2 _).mono ?_
  rintro e w16 ⟨rfl, hb16⟩
  have O_17 := Lib.hid (O_12.out.bl hb16)
  have Bel_17 := Lib.hid (bel_bl Bel_12.out hb16)
  clear hb16
  have lw18 : w16.cell? ⟨g0, 0, none⟩ = some (.int .i64 o.k) := O_17.out.cell (i := 0) rfl
  have lw19 : w16.cell? ⟨g0, 19, none⟩ = some (.int .i64 o.m) := O_17.out.cell (i := 19) rfl
  go_wp2
  go_ret
  exact ⟨rfl, Bel_17.out⟩

set_option maxRecDepth 100000 in
set_option maxHeartbeats 2000000 in
theorem rm_5y (o : OpT) (h0 : decide (o.k < 1) = false) (h9 : decide (8 < o.k) = false) (h1 : mayI o.s o.n = true) (h2 : restO o = zeroO) (hk : o.k = 5) (h3 : mayI o.s1 o.n1 = true) (h4 : mayI o.s2 o.n2 = true) (h5 : decide (o.m < 0) = false) (h6 : decide (3 < o.m) = false) (w : World) : Calls Try.prog 15 #[.agg (opCells o).toArray] w fun e w' => e = .returned (.int .i64 0) ∧ Below w.heap.size w w' := by
  have he : Try.prog.eqGuardType Try.prog.depth 29 = false := by kernel_rfl
  have hq := neq_op_run (restO o) zeroO
  rw [opCells_zero, decide_eq_true h2] at hq
  clear h2
  have q3 : (o.k == 3) = false := by rw [hk]; decide
  have q5 : (o.k == 5) = true := by rw [hk]; decide
  have q6 : (o.k == 6) = false := by rw [hk]; decide
  have q7 : (o.k == 7) = false := by rw [hk]; decide
  have q8 : (o.k == 8) = false := by rw [hk]; decide
  clear hk
  go_enter Try.func15, Try.ntmps15
  go_upto_region 1 with fail
  obtain ⟨W1, gW1⟩ : ∃ x, w.alloc (.cells (opCells o).toArray 29) = x := ⟨_, rfl⟩
  have HO : RowKit.Hid (Whole W1 w.heap.size 29 (opCells o)) := Lib.hid (by rw [← gW1]; exact Whole.new_ w _ _)
  have HB : RowKit.Hid (Below w.heap.size w W1) := Lib.hid (by rw [← gW1]; exact below1 _ _)
  rw [gW1]
  clear gW1
  obtain ⟨g0, gg0⟩ : ∃ x, w.heap.size = x := ⟨_, rfl⟩
  rw [gg0] at HO ⊢
  clear gg0
  have lw1 : W1.cell? ⟨g0, 1, none⟩ = some (.int .i64 o.s) := HO.out.cell (i := 1) rfl
  have lw2 : W1.cell? ⟨g0, 2, none⟩ = some (.int .i64 o.n) := HO.out.cell (i := 2) rfl
  go_wp2_with fail
  clear lw1 lw2
  refine (rmay_any o.s o.n _).mono ?_
  rintro e w3 ⟨rfl, hb3⟩
  have O_4 := Lib.hid (HO.out.bl hb3)
  have Bel_4 := Lib.hid (bel_bl HB.out hb3)
  clear hb3
  have lw5 : w3.cell? ⟨g0, 0, none⟩ = some (.int .i64 o.k) := O_4.out.cell (i := 0) rfl
  go_upto_region 2 with fail
  refine wp_region_lit ?_
  refine wl_read (v := ?_) (some 12) rfl (by rfl) ?_ ?_
  rotate_left
  · go_simp; (try with_reducible rfl)
  simp only [Act.put, List.setIfInBounds_toArray, List.set_cons_zero, List.set_cons_succ]
  refine wl_read (v := ?_) (some 13) rfl (by rfl) ?_ ?_
  rotate_left
  · go_simp; (try with_reducible rfl)
  simp only [Act.put, List.setIfInBounds_toArray, List.set_cons_zero, List.set_cons_succ]
  refine wl_read (v := ?_) (some 14) rfl (by rfl) ?_ ?_
  rotate_left
  · go_simp; (try with_reducible rfl)
  simp only [Act.put, List.setIfInBounds_toArray, List.set_cons_zero, List.set_cons_succ]
  refine wl_read (v := ?_) (some 15) rfl (by rfl) ?_ ?_
  rotate_left
  · go_simp; (try with_reducible rfl)
  simp only [Act.put, List.setIfInBounds_toArray, List.set_cons_zero, List.set_cons_succ]
  refine wl_read (v := ?_) (some 16) rfl (by rfl) ?_ ?_
  rotate_left
  · go_simp; (try with_reducible rfl)
  simp only [Act.put, List.setIfInBounds_toArray, List.set_cons_zero, List.set_cons_succ]
  refine wl_read (v := ?_) (some 17) rfl (by rfl) ?_ ?_
  rotate_left
  · go_simp; (try with_reducible rfl)
  simp only [Act.put, List.setIfInBounds_toArray, List.set_cons_zero, List.set_cons_succ]
  refine wl_read (v := ?_) (some 18) rfl (by rfl) ?_ ?_
  rotate_left
  · go_simp; (try with_reducible rfl)
  simp only [Act.put, List.setIfInBounds_toArray, List.set_cons_zero, List.set_cons_succ]
  refine wl_read (v := ?_) (some 19) rfl (by rfl) ?_ ?_
  rotate_left
  · go_simp; (try with_reducible rfl)
  simp only [Act.put, List.setIfInBounds_toArray, List.set_cons_zero, List.set_cons_succ]
  refine wl_read (v := ?_) (some 20) rfl (by rfl) ?_ ?_
  rotate_left
  · go_simp; (try with_reducible rfl)
  simp only [Act.put, List.setIfInBounds_toArray, List.set_cons_zero, List.set_cons_succ]
  refine wl_read (v := ?_) (some 21) rfl (by rfl) ?_ ?_
  rotate_left
  · go_simp; (try with_reducible rfl)
  simp only [Act.put, List.setIfInBounds_toArray, List.set_cons_zero, List.set_cons_succ]
  refine wl_read (v := ?_) (some 22) rfl (by rfl) ?_ ?_
  rotate_left
  · go_simp; (try with_reducible rfl)
  simp only [Act.put, List.setIfInBounds_toArray, List.set_cons_zero, List.set_cons_succ]
  refine wl_read (v := ?_) (some 23) rfl (by rfl) ?_ ?_
  rotate_left
  · go_simp; (try with_reducible rfl)
  simp only [Act.put, List.setIfInBounds_toArray, List.set_cons_zero, List.set_cons_succ]
  refine wl_read (v := ?_) (some 24) rfl (by rfl) ?_ ?_
  rotate_left
  · go_simp; (try with_reducible rfl)
  simp only [Act.put, List.setIfInBounds_toArray, List.set_cons_zero, List.set_cons_succ]
  refine wl_load (some 25) rfl (by rfl) 29 (.tmp 1) rfl g0 rfl 29 (opCells o) _ O_4.out Try.underlying29 rfl (by kernel_rfl) ?_
  simp only [Act.put, List.setIfInBounds_toArray, List.set_cons_zero, List.set_cons_succ]
  go_wp2_with fail
  clear lw5
  refine (rest_any o _).mono ?_
  rintro e w6 ⟨rfl, hb6⟩
  have O_7 := Lib.hid (O_4.out.bl hb6)
  have Bel_7 := Lib.hid (bel_bl Bel_4.out hb6)
  clear hb6
  have lw8 : w6.cell? ⟨g0, 0, none⟩ = some (.int .i64 o.k) := O_7.out.cell (i := 0) rfl
  have lw9 : w6.cell? ⟨g0, 3, none⟩ = some (.int .i64 o.s1) := O_7.out.cell (i := 3) rfl
  have lw10 : w6.cell? ⟨g0, 4, none⟩ = some (.int .i64 o.n1) := O_7.out.cell (i := 4) rfl
  go_wp2_with fail
  clear lw8 lw9 lw10
  refine (rmay_any o.s1 o.n1 _).mono ?_
  rintro e w11 ⟨rfl, hb11⟩
  have O_12 := Lib.hid (O_7.out.bl hb11)
  have Bel_12 := Lib.hid (bel_bl Bel_7.out hb11)
  clear hb11
  have lw13 : w11.cell? ⟨g0, 0, none⟩ = some (.int .i64 o.k) := O_12.out.cell (i := 0) rfl
  have lw14 : w11.cell? ⟨g0, 5, none⟩ = some (.int .i64 o.s2) := O_12.out.cell (i := 5) rfl
  have lw15 : w11.cell? ⟨g0, 6, none⟩ = some (.int .i64 o.n2) := O_12.out.cell (i := 6) rfl
  go_wp2_with fail
  clear lw13 lw14 lw15
  refine (rmay_any o.s2 o.n2 _).mono ?_
  rintro e w16 ⟨rfl, hb16⟩
  have O_17 := Lib.hid (O_12.out.bl hb16)
  have Bel_17 := Lib.hid (bel_bl Bel_12.out hb16)
  clear hb16
  have lw18 : w16.cell? ⟨g0, 0, none⟩ = some (.int .i64 o.k) := O_17.out.cell (i := 0) rfl
  have lw19 : w16.cell? ⟨g0, 19, none⟩ = some (.int .i64 o.m) := O_17.out.cell (i := 19) rfl
  go_wp2
  go_ret
  exact ⟨rfl, Bel_17.out⟩

set_option maxRecDepth 100000 in
set_option maxHeartbeats 2000000 in
theorem rm_6n (o : OpT) (h0 : decide (o.k < 1) = false) (h9 : decide (8 < o.k) = false) (h1 : mayI o.s o.n = true) (h2 : restO o = zeroO) (hk : o.k = 6) (h3 : mayI o.s2 o.n2 = false) (w : World) : Calls Try.prog 15 #[.agg (opCells o).toArray] w fun e w' => e = .returned (.int .i64 1) ∧ Below w.heap.size w w' := by
  have he : Try.prog.eqGuardType Try.prog.depth 29 = false := by kernel_rfl
  have hq := neq_op_run (restO o) zeroO
  rw [opCells_zero, decide_eq_true h2] at hq
  clear h2
  have q3 : (o.k == 3) = false := by rw [hk]; decide
  have q5 : (o.k == 5) = false := by rw [hk]; decide
  have q6 : (o.k == 6) = true := by rw [hk]; decide
  have q7 : (o.k == 7) = false := by rw [hk]; decide
  have q8 : (o.k == 8) = false := by rw [hk]; decide
  clear hk
  go_enter Try.func15, Try.ntmps15
  go_upto_region 1 with fail
  obtain ⟨W1, gW1⟩ : ∃ x, w.alloc (.cells (opCells o).toArray 29) = x := ⟨_, rfl⟩
  have HO : RowKit.Hid (Whole W1 w.heap.size 29 (opCells o)) := Lib.hid (by rw [← gW1]; exact Whole.new_ w _ _)
  have HB : RowKit.Hid (Below w.heap.size w W1) := Lib.hid (by rw [← gW1]; exact below1 _ _)
  rw [gW1]
  clear gW1
  obtain ⟨g0, gg0⟩ : ∃ x, w.heap.size = x := ⟨_, rfl⟩
  rw [gg0] at HO ⊢
  clear gg0
  have lw1 : W1.cell? ⟨g0, 1, none⟩ = some (.int .i64 o.s) := HO.out.cell (i := 1) rfl
  have lw2 : W1.cell? ⟨g0, 2, none⟩ = some (.int .i64 o.n) := HO.out.cell (i := 2) rfl
  go_wp2_with fail
  clear lw1 lw2
  refine (rmay_any o.s o.n _).mono ?_
  rintro e w3 ⟨rfl, hb3⟩
  have O_4 := Lib.hid (HO.out.bl hb3)
  have Bel_4 := Lib.hid (bel_bl HB.out hb3)
  clear hb3
  have lw5 : w3.cell? ⟨g0, 0, none⟩ = some (.int .i64 o.k) := O_4.out.cell (i := 0) rfl
  go_upto_region 2 with fail
  refine wp_region_lit ?_
  refine wl_read (v := ?_) (some 12) rfl (by rfl) ?_ ?_
  rotate_left
  · go_simp; (try with_reducible rfl)
  simp only [Act.put, List.setIfInBounds_toArray, List.set_cons_zero, List.set_cons_succ]
  refine wl_read (v := ?_) (some 13) rfl (by rfl) ?_ ?_
  rotate_left
  · go_simp; (try with_reducible rfl)
  simp only [Act.put, List.setIfInBounds_toArray, List.set_cons_zero, List.set_cons_succ]
  refine wl_read (v := ?_) (some 14) rfl (by rfl) ?_ ?_
  rotate_left
  · go_simp; (try with_reducible rfl)
  simp only [Act.put, List.setIfInBounds_toArray, List.set_cons_zero, List.set_cons_succ]
  refine wl_read (v := ?_) (some 15) rfl (by rfl) ?_ ?_
  rotate_left
  · go_simp; (try with_reducible rfl)
  simp only [Act.put, List.setIfInBounds_toArray, List.set_cons_zero, List.set_cons_succ]
  refine wl_read (v := ?_) (some 16) rfl (by rfl) ?_ ?_
  rotate_left
  · go_simp; (try with_reducible rfl)
  simp only [Act.put, List.setIfInBounds_toArray, List.set_cons_zero, List.set_cons_succ]
  refine wl_read (v := ?_) (some 17) rfl (by rfl) ?_ ?_
  rotate_left
  · go_simp; (try with_reducible rfl)
  simp only [Act.put, List.setIfInBounds_toArray, List.set_cons_zero, List.set_cons_succ]
  refine wl_read (v := ?_) (some 18) rfl (by rfl) ?_ ?_
  rotate_left
  · go_simp; (try with_reducible rfl)
  simp only [Act.put, List.setIfInBounds_toArray, List.set_cons_zero, List.set_cons_succ]
  refine wl_read (v := ?_) (some 19) rfl (by rfl) ?_ ?_
  rotate_left
  · go_simp; (try with_reducible rfl)
  simp only [Act.put, List.setIfInBounds_toArray, List.set_cons_zero, List.set_cons_succ]
  refine wl_read (v := ?_) (some 20) rfl (by rfl) ?_ ?_
  rotate_left
  · go_simp; (try with_reducible rfl)
  simp only [Act.put, List.setIfInBounds_toArray, List.set_cons_zero, List.set_cons_succ]
  refine wl_read (v := ?_) (some 21) rfl (by rfl) ?_ ?_
  rotate_left
  · go_simp; (try with_reducible rfl)
  simp only [Act.put, List.setIfInBounds_toArray, List.set_cons_zero, List.set_cons_succ]
  refine wl_read (v := ?_) (some 22) rfl (by rfl) ?_ ?_
  rotate_left
  · go_simp; (try with_reducible rfl)
  simp only [Act.put, List.setIfInBounds_toArray, List.set_cons_zero, List.set_cons_succ]
  refine wl_read (v := ?_) (some 23) rfl (by rfl) ?_ ?_
  rotate_left
  · go_simp; (try with_reducible rfl)
  simp only [Act.put, List.setIfInBounds_toArray, List.set_cons_zero, List.set_cons_succ]
  refine wl_read (v := ?_) (some 24) rfl (by rfl) ?_ ?_
  rotate_left
  · go_simp; (try with_reducible rfl)
  simp only [Act.put, List.setIfInBounds_toArray, List.set_cons_zero, List.set_cons_succ]
  refine wl_load (some 25) rfl (by rfl) 29 (.tmp 1) rfl g0 rfl 29 (opCells o) _ O_4.out Try.underlying29 rfl (by kernel_rfl) ?_
  simp only [Act.put, List.setIfInBounds_toArray, List.set_cons_zero, List.set_cons_succ]
  go_wp2_with fail
  clear lw5
  refine (rest_any o _).mono ?_
  rintro e w6 ⟨rfl, hb6⟩
  have O_7 := Lib.hid (O_4.out.bl hb6)
  have Bel_7 := Lib.hid (bel_bl Bel_4.out hb6)
  clear hb6
  have lw8 : w6.cell? ⟨g0, 0, none⟩ = some (.int .i64 o.k) := O_7.out.cell (i := 0) rfl
  have lw9 : w6.cell? ⟨g0, 5, none⟩ = some (.int .i64 o.s2) := O_7.out.cell (i := 5) rfl
  have lw10 : w6.cell? ⟨g0, 6, none⟩ = some (.int .i64 o.n2) := O_7.out.cell (i := 6) rfl
  go_wp2_with fail
  clear lw8 lw9 lw10
  refine (rmay_any o.s2 o.n2 _).mono ?_
  rintro e w11 ⟨rfl, hb11⟩
  have O_12 := Lib.hid (O_7.out.bl hb11)
  have Bel_12 := Lib.hid (bel_bl Bel_7.out hb11)
  clear hb11
  have lw13 : w11.cell? ⟨g0, 0, none⟩ = some (.int .i64 o.k) := O_12.out.cell (i := 0) rfl
  go_wp2
  go_ret
  exact ⟨rfl, Bel_12.out⟩

set_option maxRecDepth 100000 in
set_option maxHeartbeats 2000000 in
theorem rm_6y (o : OpT) (h0 : decide (o.k < 1) = false) (h9 : decide (8 < o.k) = false) (h1 : mayI o.s o.n = true) (h2 : restO o = zeroO) (hk : o.k = 6) (h3 : mayI o.s2 o.n2 = true) (w : World) : Calls Try.prog 15 #[.agg (opCells o).toArray] w fun e w' => e = .returned (.int .i64 0) ∧ Below w.heap.size w w' := by
  have he : Try.prog.eqGuardType Try.prog.depth 29 = false := by kernel_rfl
  have hq := neq_op_run (restO o) zeroO
  rw [opCells_zero, decide_eq_true h2] at hq
  clear h2
  have q3 : (o.k == 3) = false := by rw [hk]; decide
  have q5 : (o.k == 5) = false := by rw [hk]; decide
  have q6 : (o.k == 6) = true := by rw [hk]; decide
  have q7 : (o.k == 7) = false := by rw [hk]; decide
  have q8 : (o.k == 8) = false := by rw [hk]; decide
  clear hk
  go_enter Try.func15, Try.ntmps15
  go_upto_region 1 with fail
  obtain ⟨W1, gW1⟩ : ∃ x, w.alloc (.cells (opCells o).toArray 29) = x := ⟨_, rfl⟩
  have HO : RowKit.Hid (Whole W1 w.heap.size 29 (opCells o)) := Lib.hid (by rw [← gW1]; exact Whole.new_ w _ _)
  have HB : RowKit.Hid (Below w.heap.size w W1) := Lib.hid (by rw [← gW1]; exact below1 _ _)
  rw [gW1]
  clear gW1
  obtain ⟨g0, gg0⟩ : ∃ x, w.heap.size = x := ⟨_, rfl⟩
  rw [gg0] at HO ⊢
  clear gg0
  have lw1 : W1.cell? ⟨g0, 1, none⟩ = some (.int .i64 o.s) := HO.out.cell (i := 1) rfl
  have lw2 : W1.cell? ⟨g0, 2, none⟩ = some (.int .i64 o.n) := HO.out.cell (i := 2) rfl
  go_wp2_with fail
  clear lw1 lw2
  refine (rmay_any o.s o.n _).mono ?_
  rintro e w3 ⟨rfl, hb3⟩
  have O_4 := Lib.hid (HO.out.bl hb3)
  have Bel_4 := Lib.hid (bel_bl HB.out hb3)
  clear hb3
  have lw5 : w3.cell? ⟨g0, 0, none⟩ = some (.int .i64 o.k) := O_4.out.cell (i := 0) rfl
  go_upto_region 2 with fail
  refine wp_region_lit ?_
  refine wl_read (v := ?_) (some 12) rfl (by rfl) ?_ ?_
  rotate_left
  · go_simp; (try with_reducible rfl)
  simp only [Act.put, List.setIfInBounds_toArray, List.set_cons_zero, List.set_cons_succ]
  refine wl_read (v := ?_) (some 13) rfl (by rfl) ?_ ?_
  rotate_left
  · go_simp; (try with_reducible rfl)
  simp only [Act.put, List.setIfInBounds_toArray, List.set_cons_zero, List.set_cons_succ]
  refine wl_read (v := ?_) (some 14) rfl (by rfl) ?_ ?_
  rotate_left
  · go_simp; (try with_reducible rfl)
  simp only [Act.put, List.setIfInBounds_toArray, List.set_cons_zero, List.set_cons_succ]
  refine wl_read (v := ?_) (some 15) rfl (by rfl) ?_ ?_
  rotate_left
  · go_simp; (try with_reducible rfl)
  simp only [Act.put, List.setIfInBounds_toArray, List.set_cons_zero, List.set_cons_succ]
  refine wl_read (v := ?_) (some 16) rfl (by rfl) ?_ ?_
  rotate_left
  · go_simp; (try with_reducible rfl)
  simp only [Act.put, List.setIfInBounds_toArray, List.set_cons_zero, List.set_cons_succ]
  refine wl_read (v := ?_) (some 17) rfl (by rfl) ?_ ?_
  rotate_left
  · go_simp; (try with_reducible rfl)
  simp only [Act.put, List.setIfInBounds_toArray, List.set_cons_zero, List.set_cons_succ]
  refine wl_read (v := ?_) (some 18) rfl (by rfl) ?_ ?_
  rotate_left
  · go_simp; (try with_reducible rfl)
  simp only [Act.put, List.setIfInBounds_toArray, List.set_cons_zero, List.set_cons_succ]
  refine wl_read (v := ?_) (some 19) rfl (by rfl) ?_ ?_
  rotate_left
  · go_simp; (try with_reducible rfl)
  simp only [Act.put, List.setIfInBounds_toArray, List.set_cons_zero, List.set_cons_succ]
  refine wl_read (v := ?_) (some 20) rfl (by rfl) ?_ ?_
  rotate_left
  · go_simp; (try with_reducible rfl)
  simp only [Act.put, List.setIfInBounds_toArray, List.set_cons_zero, List.set_cons_succ]
  refine wl_read (v := ?_) (some 21) rfl (by rfl) ?_ ?_
  rotate_left
  · go_simp; (try with_reducible rfl)
  simp only [Act.put, List.setIfInBounds_toArray, List.set_cons_zero, List.set_cons_succ]
  refine wl_read (v := ?_) (some 22) rfl (by rfl) ?_ ?_
  rotate_left
  · go_simp; (try with_reducible rfl)
  simp only [Act.put, List.setIfInBounds_toArray, List.set_cons_zero, List.set_cons_succ]
  refine wl_read (v := ?_) (some 23) rfl (by rfl) ?_ ?_
  rotate_left
  · go_simp; (try with_reducible rfl)
  simp only [Act.put, List.setIfInBounds_toArray, List.set_cons_zero, List.set_cons_succ]
  refine wl_read (v := ?_) (some 24) rfl (by rfl) ?_ ?_
  rotate_left
  · go_simp; (try with_reducible rfl)
  simp only [Act.put, List.setIfInBounds_toArray, List.set_cons_zero, List.set_cons_succ]
  refine wl_load (some 25) rfl (by rfl) 29 (.tmp 1) rfl g0 rfl 29 (opCells o) _ O_4.out Try.underlying29 rfl (by kernel_rfl) ?_
  simp only [Act.put, List.setIfInBounds_toArray, List.set_cons_zero, List.set_cons_succ]
  go_wp2_with fail
  clear lw5
  refine (rest_any o _).mono ?_
  rintro e w6 ⟨rfl, hb6⟩
  have O_7 := Lib.hid (O_4.out.bl hb6)
  have Bel_7 := Lib.hid (bel_bl Bel_4.out hb6)
  clear hb6
  have lw8 : w6.cell? ⟨g0, 0, none⟩ = some (.int .i64 o.k) := O_7.out.cell (i := 0) rfl
  have lw9 : w6.cell? ⟨g0, 5, none⟩ = some (.int .i64 o.s2) := O_7.out.cell (i := 5) rfl
  have lw10 : w6.cell? ⟨g0, 6, none⟩ = some (.int .i64 o.n2) := O_7.out.cell (i := 6) rfl
  go_wp2_with fail
  clear lw8 lw9 lw10
  refine (rmay_any o.s2 o.n2 _).mono ?_
  rintro e w11 ⟨rfl, hb11⟩
  have O_12 := Lib.hid (O_7.out.bl hb11)
  have Bel_12 := Lib.hid (bel_bl Bel_7.out hb11)
  clear hb11
  have lw13 : w11.cell? ⟨g0, 0, none⟩ = some (.int .i64 o.k) := O_12.out.cell (i := 0) rfl
  go_wp2
  go_ret
  exact ⟨rfl, Bel_12.out⟩

set_option maxRecDepth 100000 in
set_option maxHeartbeats 2000000 in
theorem rm_8n (o : OpT) (h0 : decide (o.k < 1) = false) (h9 : decide (8 < o.k) = false) (h1 : mayI o.s o.n = true) (h2 : restO o = zeroO) (hk : o.k = 8) (h3 : mayAt o.m = false) (w : World) : Calls Try.prog 15 #[.agg (opCells o).toArray] w fun e w' => e = .returned (.int .i64 1) ∧ Below w.heap.size w w' := by
  have he : Try.prog.eqGuardType Try.prog.depth 29 = false := by kernel_rfl
  have hq := neq_op_run (restO o) zeroO
  rw [opCells_zero, decide_eq_true h2] at hq
  clear h2
  have q3 : (o.k == 3) = false := by rw [hk]; decide
  have q5 : (o.k == 5) = false := by rw [hk]; decide
  have q6 : (o.k == 6) = false := by rw [hk]; decide
  have q7 : (o.k == 7) = false := by rw [hk]; decide
  have q8 : (o.k == 8) = true := by rw [hk]; decide
  clear hk
  go_enter Try.func15, Try.ntmps15
  go_upto_region 1 with fail
  obtain ⟨W1, gW1⟩ : ∃ x, w.alloc (.cells (opCells o).toArray 29) = x := ⟨_, rfl⟩
  have HO : RowKit.Hid (Whole W1 w.heap.size 29 (opCells o)) := Lib.hid (by rw [← gW1]; exact Whole.new_ w _ _)
  have HB : RowKit.Hid (Below w.heap.size w W1) := Lib.hid (by rw [← gW1]; exact below1 _ _)
  rw [gW1]
  clear gW1
  obtain ⟨g0, gg0⟩ : ∃ x, w.heap.size = x := ⟨_, rfl⟩
  rw [gg0] at HO ⊢
  clear gg0
  have lw1 : W1.cell? ⟨g0, 1, none⟩ = some (.int .i64 o.s) := HO.out.cell (i := 1) rfl
  have lw2 : W1.cell? ⟨g0, 2, none⟩ = some (.int .i64 o.n) := HO.out.cell (i := 2) rfl
  go_wp2_with fail
  clear lw1 lw2
  refine (rmay_any o.s o.n _).mono ?_
  rintro e w3 ⟨rfl, hb3⟩
  have O_4 := Lib.hid (HO.out.bl hb3)
  have Bel_4 := Lib.hid (bel_bl HB.out hb3)
  clear hb3
  have lw5 : w3.cell? ⟨g0, 0, none⟩ = some (.int .i64 o.k) := O_4.out.cell (i := 0) rfl
  go_upto_region 2 with fail
  refine wp_region_lit ?_
  refine wl_read (v := ?_) (some 12) rfl (by rfl) ?_ ?_
  rotate_left
  · go_simp; (try with_reducible rfl)
  simp only [Act.put, List.setIfInBounds_toArray, List.set_cons_zero, List.set_cons_succ]
  refine wl_read (v := ?_) (some 13) rfl (by rfl) ?_ ?_
  rotate_left
  · go_simp; (try with_reducible rfl)
  simp only [Act.put, List.setIfInBounds_toArray, List.set_cons_zero, List.set_cons_succ]
  refine wl_read (v := ?_) (some 14) rfl (by rfl) ?_ ?_
  rotate_left
  · go_simp; (try with_reducible rfl)
  simp only [Act.put, List.setIfInBounds_toArray, List.set_cons_zero, List.set_cons_succ]
  refine wl_read (v := ?_) (some 15) rfl (by rfl) ?_ ?_
  rotate_left
  · go_simp; (try with_reducible rfl)
  simp only [Act.put, List.setIfInBounds_toArray, List.set_cons_zero, List.set_cons_succ]
  refine wl_read (v := ?_) (some 16) rfl (by rfl) ?_ ?_
  rotate_left
  · go_simp; (try with_reducible rfl)
  simp only [Act.put, List.setIfInBounds_toArray, List.set_cons_zero, List.set_cons_succ]
  refine wl_read (v := ?_) (some 17) rfl (by rfl) ?_ ?_
  rotate_left
  · go_simp; (try with_reducible rfl)
  simp only [Act.put, List.setIfInBounds_toArray, List.set_cons_zero, List.set_cons_succ]
  refine wl_read (v := ?_) (some 18) rfl (by rfl) ?_ ?_
  rotate_left
  · go_simp; (try with_reducible rfl)
  simp only [Act.put, List.setIfInBounds_toArray, List.set_cons_zero, List.set_cons_succ]
  refine wl_read (v := ?_) (some 19) rfl (by rfl) ?_ ?_
  rotate_left
  · go_simp; (try with_reducible rfl)
  simp only [Act.put, List.setIfInBounds_toArray, List.set_cons_zero, List.set_cons_succ]
  refine wl_read (v := ?_) (some 20) rfl (by rfl) ?_ ?_
  rotate_left
  · go_simp; (try with_reducible rfl)
  simp only [Act.put, List.setIfInBounds_toArray, List.set_cons_zero, List.set_cons_succ]
  refine wl_read (v := ?_) (some 21) rfl (by rfl) ?_ ?_
  rotate_left
  · go_simp; (try with_reducible rfl)
  simp only [Act.put, List.setIfInBounds_toArray, List.set_cons_zero, List.set_cons_succ]
  refine wl_read (v := ?_) (some 22) rfl (by rfl) ?_ ?_
  rotate_left
  · go_simp; (try with_reducible rfl)
  simp only [Act.put, List.setIfInBounds_toArray, List.set_cons_zero, List.set_cons_succ]
  refine wl_read (v := ?_) (some 23) rfl (by rfl) ?_ ?_
  rotate_left
  · go_simp; (try with_reducible rfl)
  simp only [Act.put, List.setIfInBounds_toArray, List.set_cons_zero, List.set_cons_succ]
  refine wl_read (v := ?_) (some 24) rfl (by rfl) ?_ ?_
  rotate_left
  · go_simp; (try with_reducible rfl)
  simp only [Act.put, List.setIfInBounds_toArray, List.set_cons_zero, List.set_cons_succ]
  refine wl_load (some 25) rfl (by rfl) 29 (.tmp 1) rfl g0 rfl 29 (opCells o) _ O_4.out Try.underlying29 rfl (by kernel_rfl) ?_
  simp only [Act.put, List.setIfInBounds_toArray, List.set_cons_zero, List.set_cons_succ]
  go_wp2_with fail
  clear lw5
  refine (rest_any o _).mono ?_
  rintro e w6 ⟨rfl, hb6⟩
  have O_7 := Lib.hid (O_4.out.bl hb6)
  have Bel_7 := Lib.hid (bel_bl Bel_4.out hb6)
  clear hb6
  have lw8 : w6.cell? ⟨g0, 0, none⟩ = some (.int .i64 o.k) := O_7.out.cell (i := 0) rfl
  have lw9 : w6.cell? ⟨g0, 19, none⟩ = some (.int .i64 o.m) := O_7.out.cell (i := 19) rfl
  go_wp2_with fail
  clear lw8 lw9
  refine (rmayattr_any o.m _).mono ?_
  rintro e w10 ⟨rfl, hb10⟩
  have O_11 := Lib.hid (O_7.out.bl hb10)
  have Bel_11 := Lib.hid (bel_bl Bel_7.out hb10)
  clear hb10
  have lw12 : w10.cell? ⟨g0, 0, none⟩ = some (.int .i64 o.k) := O_11.out.cell (i := 0) rfl
  go_wp2
  go_ret
  exact ⟨rfl, Bel_11.out⟩

set_option maxRecDepth 100000 in
set_option maxHeartbeats 2000000 in
theorem rm_8y (o : OpT) (h0 : decide (o.k < 1) = false) (h9 : decide (8 < o.k) = false) (h1 : mayI o.s o.n = true) (h2 : restO o = zeroO) (hk : o.k = 8) (h3 : mayAt o.m = true) (w : World) : Calls Try.prog 15 #[.agg (opCells o).toArray] w fun e w' => e = .returned (.int .i64 0) ∧ Below w.heap.size w w' := by
  have he : Try.prog.eqGuardType Try.prog.depth 29 = false := by kernel_rfl
  have hq := neq_op_run (restO o) zeroO
  rw [opCells_zero, decide_eq_true h2] at hq
  clear h2
  have q3 : (o.k == 3) = false := by rw [hk]; decide
  have q5 : (o.k == 5) = false := by rw [hk]; decide
  have q6 : (o.k == 6) = false := by rw [hk]; decide
  have q7 : (o.k == 7) = false := by rw [hk]; decide
  have q8 : (o.k == 8) = true := by rw [hk]; decide
  clear hk
  go_enter Try.func15, Try.ntmps15
  go_upto_region 1 with fail
  obtain ⟨W1, gW1⟩ : ∃ x, w.alloc (.cells (opCells o).toArray 29) = x := ⟨_, rfl⟩
  have HO : RowKit.Hid (Whole W1 w.heap.size 29 (opCells o)) := Lib.hid (by rw [← gW1]; exact Whole.new_ w _ _)
  have HB : RowKit.Hid (Below w.heap.size w W1) := Lib.hid (by rw [← gW1]; exact below1 _ _)
  rw [gW1]
  clear gW1
  obtain ⟨g0, gg0⟩ : ∃ x, w.heap.size = x := ⟨_, rfl⟩
  rw [gg0] at HO ⊢
  clear gg0
  have lw1 : W1.cell? ⟨g0, 1, none⟩ = some (.int .i64 o.s) := HO.out.cell (i := 1) rfl
  have lw2 : W1.cell? ⟨g0, 2, none⟩ = some (.int .i64 o.n) := HO.out.cell (i := 2) rfl
  go_wp2_with fail
  clear lw1 lw2
  refine (rmay_any o.s o.n _).mono ?_
  rintro e w3 ⟨rfl, hb3⟩
  have O_4 := Lib.hid (HO.out.bl hb3)
  have Bel_4 := Lib.hid (bel_bl HB.out hb3)
  clear hb3
  have lw5 : w3.cell? ⟨g0, 0, none⟩ = some (.int .i64 o.k) := O_4.out.cell (i := 0) rfl
  go_upto_region 2 with fail
  refine wp_region_lit ?_
  refine wl_read (v := ?_) (some 12) rfl (by rfl) ?_ ?_
  rotate_left
  · go_simp; (try with_reducible rfl)
  simp only [Act.put, List.setIfInBounds_toArray, List.set_cons_zero, List.set_cons_succ]
  refine wl_read (v := ?_) (some 13) rfl (by rfl) ?_ ?_
  rotate_left
  · go_simp; (try with_reducible rfl)
  simp only [Act.put, List.setIfInBounds_toArray, List.set_cons_zero, List.set_cons_succ]
  refine wl_read (v := ?_) (some 14) rfl (by rfl) ?_ ?_
  rotate_left
  · go_simp; (try with_reducible rfl)
  simp only [Act.put, List.setIfInBounds_toArray, List.set_cons_zero, List.set_cons_succ]
  refine wl_read (v := ?_) (some 15) rfl (by rfl) ?_ ?_
  rotate_left
  · go_simp; (try with_reducible rfl)
  simp only [Act.put, List.setIfInBounds_toArray, List.set_cons_zero, List.set_cons_succ]
  refine wl_read (v := ?_) (some 16) rfl (by rfl) ?_ ?_
  rotate_left
  · go_simp; (try with_reducible rfl)
  simp only [Act.put, List.setIfInBounds_toArray, List.set_cons_zero, List.set_cons_succ]
  refine wl_read (v := ?_) (some 17) rfl (by rfl) ?_ ?_
  rotate_left
  · go_simp; (try with_reducible rfl)
  simp only [Act.put, List.setIfInBounds_toArray, List.set_cons_zero, List.set_cons_succ]
  refine wl_read (v := ?_) (some 18) rfl (by rfl) ?_ ?_
  rotate_left
  · go_simp; (try with_reducible rfl)
  simp only [Act.put, List.setIfInBounds_toArray, List.set_cons_zero, List.set_cons_succ]
  refine wl_read (v := ?_) (some 19) rfl (by rfl) ?_ ?_
  rotate_left
  · go_simp; (try with_reducible rfl)
  simp only [Act.put, List.setIfInBounds_toArray, List.set_cons_zero, List.set_cons_succ]
  refine wl_read (v := ?_) (some 20) rfl (by rfl) ?_ ?_
  rotate_left
  · go_simp; (try with_reducible rfl)
  simp only [Act.put, List.setIfInBounds_toArray, List.set_cons_zero, List.set_cons_succ]
  refine wl_read (v := ?_) (some 21) rfl (by rfl) ?_ ?_
  rotate_left
  · go_simp; (try with_reducible rfl)
  simp only [Act.put, List.setIfInBounds_toArray, List.set_cons_zero, List.set_cons_succ]
  refine wl_read (v := ?_) (some 22) rfl (by rfl) ?_ ?_
  rotate_left
  · go_simp; (try with_reducible rfl)
  simp only [Act.put, List.setIfInBounds_toArray, List.set_cons_zero, List.set_cons_succ]
  refine wl_read (v := ?_) (some 23) rfl (by rfl) ?_ ?_
  rotate_left
  · go_simp; (try with_reducible rfl)
  simp only [Act.put, List.setIfInBounds_toArray, List.set_cons_zero, List.set_cons_succ]
  refine wl_read (v := ?_) (some 24) rfl (by rfl) ?_ ?_
  rotate_left
  · go_simp; (try with_reducible rfl)
  simp only [Act.put, List.setIfInBounds_toArray, List.set_cons_zero, List.set_cons_succ]
  refine wl_load (some 25) rfl (by rfl) 29 (.tmp 1) rfl g0 rfl 29 (opCells o) _ O_4.out Try.underlying29 rfl (by kernel_rfl) ?_
  simp only [Act.put, List.setIfInBounds_toArray, List.set_cons_zero, List.set_cons_succ]
  go_wp2_with fail
  clear lw5
  refine (rest_any o _).mono ?_
  rintro e w6 ⟨rfl, hb6⟩
  have O_7 := Lib.hid (O_4.out.bl hb6)
  have Bel_7 := Lib.hid (bel_bl Bel_4.out hb6)
  clear hb6
  have lw8 : w6.cell? ⟨g0, 0, none⟩ = some (.int .i64 o.k) := O_7.out.cell (i := 0) rfl
  have lw9 : w6.cell? ⟨g0, 19, none⟩ = some (.int .i64 o.m) := O_7.out.cell (i := 19) rfl
  go_wp2_with fail
  clear lw8 lw9
  refine (rmayattr_any o.m _).mono ?_
  rintro e w10 ⟨rfl, hb10⟩
  have O_11 := Lib.hid (O_7.out.bl hb10)
  have Bel_11 := Lib.hid (bel_bl Bel_7.out hb10)
  clear hb10
  have lw12 : w10.cell? ⟨g0, 0, none⟩ = some (.int .i64 o.k) := O_11.out.cell (i := 0) rfl
  go_wp2
  go_ret
  exact ⟨rfl, Bel_11.out⟩

set_option maxRecDepth 100000 in
set_option maxHeartbeats 2000000 in
theorem rm_7n (o : OpT) (h0 : decide (o.k < 1) = false) (h9 : decide (8 < o.k) = false) (h1 : mayI o.s o.n = true) (h2 : restO o = zeroO) (hk : o.k = 7) (ht : RowKit.Hid (o.t.size ≤ maxLen)) (h3 : mayL o.t = false) (w : World) : Calls Try.prog 15 #[.agg (opCells o).toArray] w fun e w' => e = .returned (.int .i64 4) ∧ Below w.heap.size w w' := by
  have he : Try.prog.eqGuardType Try.prog.depth 29 = false := by kernel_rfl
  have hq := neq_op_run (restO o) zeroO
  rw [opCells_zero, decide_eq_true h2] at hq
  clear h2
  have q3 : (o.k == 3) = false := by rw [hk]; decide
  have q5 : (o.k == 5) = false := by rw [hk]; decide
  have q6 : (o.k == 6) = false := by rw [hk]; decide
  have q7 : (o.k == 7) = true := by rw [hk]; decide
  have q8 : (o.k == 8) = false := by rw [hk]; decide
  clear hk
  go_enter Try.func15, Try.ntmps15
  go_upto_region 1 with fail
  obtain ⟨W1, gW1⟩ : ∃ x, w.alloc (.cells (opCells o).toArray 29) = x := ⟨_, rfl⟩
  have HO : RowKit.Hid (Whole W1 w.heap.size 29 (opCells o)) := Lib.hid (by rw [← gW1]; exact Whole.new_ w _ _)
  have HB : RowKit.Hid (Below w.heap.size w W1) := Lib.hid (by rw [← gW1]; exact below1 _ _)
  rw [gW1]
  clear gW1
  obtain ⟨g0, gg0⟩ : ∃ x, w.heap.size = x := ⟨_, rfl⟩
  rw [gg0] at HO ⊢
  clear gg0
  have lw1 : W1.cell? ⟨g0, 1, none⟩ = some (.int .i64 o.s) := HO.out.cell (i := 1) rfl
  have lw2 : W1.cell? ⟨g0, 2, none⟩ = some (.int .i64 o.n) := HO.out.cell (i := 2) rfl
  go_wp2_with fail
  clear lw1 lw2
  refine (rmay_any o.s o.n _).mono ?_
  rintro e w3 ⟨rfl, hb3⟩
  have O_4 := Lib.hid (HO.out.bl hb3)
  have Bel_4 := Lib.hid (bel_bl HB.out hb3)
  clear hb3
  have lw5 : w3.cell? ⟨g0, 0, none⟩ = some (.int .i64 o.k) := O_4.out.cell (i := 0) rfl
  go_upto_region 2 with fail
  refine wp_region_lit ?_
  refine wl_read (v := ?_) (some 12) rfl (by rfl) ?_ ?_
  rotate_left
  · go_simp; (try with_reducible rfl)
  simp only [Act.put, List.setIfInBounds_toArray, List.set_cons_zero, List.set_cons_succ]
  refine wl_read (v := ?_) (some 13) rfl (by rfl) ?_ ?_
  rotate_left
  · go_simp; (try with_reducible rfl)
  simp only [Act.put, List.setIfInBounds_toArray, List.set_cons_zero, List.set_cons_succ]
  refine wl_read (v := ?_) (some 14) rfl (by rfl) ?_ ?_
  rotate_left
  · go_simp; (try with_reducible rfl)
  simp only [Act.put, List.setIfInBounds_toArray, List.set_cons_zero, List.set_cons_succ]
  refine wl_read (v := ?_) (some 15) rfl (by rfl) ?_ ?_
  rotate_left
  · go_simp; (try with_reducible rfl)
  simp only [Act.put, List.setIfInBounds_toArray, List.set_cons_zero, List.set_cons_succ]
  refine wl_read (v := ?_) (some 16) rfl (by rfl) ?_ ?_
  rotate_left
  · go_simp; (try with_reducible rfl)
  simp only [Act.put, List.setIfInBounds_toArray, List.set_cons_zero, List.set_cons_succ]
  refine wl_read (v := ?_) (some 17) rfl (by rfl) ?_ ?_
  rotate_left
  · go_simp; (try with_reducible rfl)
  simp only [Act.put, List.setIfInBounds_toArray, List.set_cons_zero, List.set_cons_succ]
  refine wl_read (v := ?_) (some 18) rfl (by rfl) ?_ ?_
  rotate_left
  · go_simp; (try with_reducible rfl)
  simp only [Act.put, List.setIfInBounds_toArray, List.set_cons_zero, List.set_cons_succ]
  refine wl_read (v := ?_) (some 19) rfl (by rfl) ?_ ?_
  rotate_left
  · go_simp; (try with_reducible rfl)
  simp only [Act.put, List.setIfInBounds_toArray, List.set_cons_zero, List.set_cons_succ]
  refine wl_read (v := ?_) (some 20) rfl (by rfl) ?_ ?_
  rotate_left
  · go_simp; (try with_reducible rfl)
  simp only [Act.put, List.setIfInBounds_toArray, List.set_cons_zero, List.set_cons_succ]
  refine wl_read (v := ?_) (some 21) rfl (by rfl) ?_ ?_
  rotate_left
  · go_simp; (try with_reducible rfl)
  simp only [Act.put, List.setIfInBounds_toArray, List.set_cons_zero, List.set_cons_succ]
  refine wl_read (v := ?_) (some 22) rfl (by rfl) ?_ ?_
  rotate_left
  · go_simp; (try with_reducible rfl)
  simp only [Act.put, List.setIfInBounds_toArray, List.set_cons_zero, List.set_cons_succ]
  refine wl_read (v := ?_) (some 23) rfl (by rfl) ?_ ?_
  rotate_left
  · go_simp; (try with_reducible rfl)
  simp only [Act.put, List.setIfInBounds_toArray, List.set_cons_zero, List.set_cons_succ]
  refine wl_read (v := ?_) (some 24) rfl (by rfl) ?_ ?_
  rotate_left
  · go_simp; (try with_reducible rfl)
  simp only [Act.put, List.setIfInBounds_toArray, List.set_cons_zero, List.set_cons_succ]
  refine wl_load (some 25) rfl (by rfl) 29 (.tmp 1) rfl g0 rfl 29 (opCells o) _ O_4.out Try.underlying29 rfl (by kernel_rfl) ?_
  simp only [Act.put, List.setIfInBounds_toArray, List.set_cons_zero, List.set_cons_succ]
  go_wp2_with fail
  clear lw5
  refine (rest_any o _).mono ?_
  rintro e w6 ⟨rfl, hb6⟩
  have O_7 := Lib.hid (O_4.out.bl hb6)
  have Bel_7 := Lib.hid (bel_bl Bel_4.out hb6)
  clear hb6
  have lw8 : w6.cell? ⟨g0, 0, none⟩ = some (.int .i64 o.k) := O_7.out.cell (i := 0) rfl
  have lw9 : w6.cell? ⟨g0, 18, none⟩ = some (.string o.t) := O_7.out.cell (i := 18) rfl
  go_wp2_with fail
  clear lw8 lw9
  refine (rmaylabel_any o.t ht.out _).mono ?_
  rintro e w10 ⟨rfl, hb10⟩
  have O_11 := Lib.hid (O_7.out.bl hb10)
  have Bel_11 := Lib.hid (bel_bl Bel_7.out hb10)
  clear hb10
  have lw12 : w10.cell? ⟨g0, 0, none⟩ = some (.int .i64 o.k) := O_11.out.cell (i := 0) rfl
  go_wp2
  go_ret
  exact ⟨rfl, Bel_11.out⟩

set_option maxRecDepth 100000 in
set_option maxHeartbeats 2000000 in
theorem rm_7y (o : OpT) (h0 : decide (o.k < 1) = false) (h9 : decide (8 < o.k) = false) (h1 : mayI o.s o.n = true) (h2 : restO o = zeroO) (hk : o.k = 7) (ht : RowKit.Hid (o.t.size ≤ maxLen)) (h3 : mayL o.t = true) (w : World) : Calls Try.prog 15 #[.agg (opCells o).toArray] w fun e w' => e = .returned (.int .i64 0) ∧ Below w.heap.size w w' := by
  have he : Try.prog.eqGuardType Try.prog.depth 29 = false := by kernel_rfl
  have hq := neq_op_run (restO o) zeroO
  rw [opCells_zero, decide_eq_true h2] at hq
  clear h2
  have q3 : (o.k == 3) = false := by rw [hk]; decide
  have q5 : (o.k == 5) = false := by rw [hk]; decide
  have q6 : (o.k == 6) = false := by rw [hk]; decide
  have q7 : (o.k == 7) = true := by rw [hk]; decide
  have q8 : (o.k == 8) = false := by rw [hk]; decide
  clear hk
  go_enter Try.func15, Try.ntmps15
  go_upto_region 1 with fail
  obtain ⟨W1, gW1⟩ : ∃ x, w.alloc (.cells (opCells o).toArray 29) = x := ⟨_, rfl⟩
  have HO : RowKit.Hid (Whole W1 w.heap.size 29 (opCells o)) := Lib.hid (by rw [← gW1]; exact Whole.new_ w _ _)
  have HB : RowKit.Hid (Below w.heap.size w W1) := Lib.hid (by rw [← gW1]; exact below1 _ _)
  rw [gW1]
  clear gW1
  obtain ⟨g0, gg0⟩ : ∃ x, w.heap.size = x := ⟨_, rfl⟩
  rw [gg0] at HO ⊢
  clear gg0
  have lw1 : W1.cell? ⟨g0, 1, none⟩ = some (.int .i64 o.s) := HO.out.cell (i := 1) rfl
  have lw2 : W1.cell? ⟨g0, 2, none⟩ = some (.int .i64 o.n) := HO.out.cell (i := 2) rfl
  go_wp2_with fail
  clear lw1 lw2
  refine (rmay_any o.s o.n _).mono ?_
  rintro e w3 ⟨rfl, hb3⟩
  have O_4 := Lib.hid (HO.out.bl hb3)
  have Bel_4 := Lib.hid (bel_bl HB.out hb3)
  clear hb3
  have lw5 : w3.cell? ⟨g0, 0, none⟩ = some (.int .i64 o.k) := O_4.out.cell (i := 0) rfl
  go_upto_region 2 with fail
  refine wp_region_lit ?_
  refine wl_read (v := ?_) (some 12) rfl (by rfl) ?_ ?_
  rotate_left
  · go_simp; (try with_reducible rfl)
  simp only [Act.put, List.setIfInBounds_toArray, List.set_cons_zero, List.set_cons_succ]
  refine wl_read (v := ?_) (some 13) rfl (by rfl) ?_ ?_
  rotate_left
  · go_simp; (try with_reducible rfl)
  simp only [Act.put, List.setIfInBounds_toArray, List.set_cons_zero, List.set_cons_succ]
  refine wl_read (v := ?_) (some 14) rfl (by rfl) ?_ ?_
  rotate_left
  · go_simp; (try with_reducible rfl)
  simp only [Act.put, List.setIfInBounds_toArray, List.set_cons_zero, List.set_cons_succ]
  refine wl_read (v := ?_) (some 15) rfl (by rfl) ?_ ?_
  rotate_left
  · go_simp; (try with_reducible rfl)
  simp only [Act.put, List.setIfInBounds_toArray, List.set_cons_zero, List.set_cons_succ]
  refine wl_read (v := ?_) (some 16) rfl (by rfl) ?_ ?_
  rotate_left
  · go_simp; (try with_reducible rfl)
  simp only [Act.put, List.setIfInBounds_toArray, List.set_cons_zero, List.set_cons_succ]
  refine wl_read (v := ?_) (some 17) rfl (by rfl) ?_ ?_
  rotate_left
  · go_simp; (try with_reducible rfl)
  simp only [Act.put, List.setIfInBounds_toArray, List.set_cons_zero, List.set_cons_succ]
  refine wl_read (v := ?_) (some 18) rfl (by rfl) ?_ ?_
  rotate_left
  · go_simp; (try with_reducible rfl)
  simp only [Act.put, List.setIfInBounds_toArray, List.set_cons_zero, List.set_cons_succ]
  refine wl_read (v := ?_) (some 19) rfl (by rfl) ?_ ?_
  rotate_left
  · go_simp; (try with_reducible rfl)
  simp only [Act.put, List.setIfInBounds_toArray, List.set_cons_zero, List.set_cons_succ]
  refine wl_read (v := ?_) (some 20) rfl (by rfl) ?_ ?_
  rotate_left
  · go_simp; (try with_reducible rfl)
  simp only [Act.put, List.setIfInBounds_toArray, List.set_cons_zero, List.set_cons_succ]
  refine wl_read (v := ?_) (some 21) rfl (by rfl) ?_ ?_
  rotate_left
  · go_simp; (try with_reducible rfl)
  simp only [Act.put, List.setIfInBounds_toArray, List.set_cons_zero, List.set_cons_succ]
  refine wl_read (v := ?_) (some 22) rfl (by rfl) ?_ ?_
  rotate_left
  · go_simp; (try with_reducible rfl)
  simp only [Act.put, List.setIfInBounds_toArray, List.set_cons_zero, List.set_cons_succ]
  refine wl_read (v := ?_) (some 23) rfl (by rfl) ?_ ?_
  rotate_left
  · go_simp; (try with_reducible rfl)
  simp only [Act.put, List.setIfInBounds_toArray, List.set_cons_zero, List.set_cons_succ]
  refine wl_read (v := ?_) (some 24) rfl (by rfl) ?_ ?_
  rotate_left
  · go_simp; (try with_reducible rfl)
  simp only [Act.put, List.setIfInBounds_toArray, List.set_cons_zero, List.set_cons_succ]
  refine wl_load (some 25) rfl (by rfl) 29 (.tmp 1) rfl g0 rfl 29 (opCells o) _ O_4.out Try.underlying29 rfl (by kernel_rfl) ?_
  simp only [Act.put, List.setIfInBounds_toArray, List.set_cons_zero, List.set_cons_succ]
  go_wp2_with fail
  clear lw5
  refine (rest_any o _).mono ?_
  rintro e w6 ⟨rfl, hb6⟩
  have O_7 := Lib.hid (O_4.out.bl hb6)
  have Bel_7 := Lib.hid (bel_bl Bel_4.out hb6)
  clear hb6
  have lw8 : w6.cell? ⟨g0, 0, none⟩ = some (.int .i64 o.k) := O_7.out.cell (i := 0) rfl
  have lw9 : w6.cell? ⟨g0, 18, none⟩ = some (.string o.t) := O_7.out.cell (i := 18) rfl
  go_wp2_with fail
  clear lw8 lw9
  refine (rmaylabel_any o.t ht.out _).mono ?_
  rintro e w10 ⟨rfl, hb10⟩
  have O_11 := Lib.hid (O_7.out.bl hb10)
  have Bel_11 := Lib.hid (bel_bl Bel_7.out hb10)
  clear hb10
  have lw12 : w10.cell? ⟨g0, 0, none⟩ = some (.int .i64 o.k) := O_11.out.cell (i := 0) rfl
  go_wp2
  go_ret
  exact ⟨rfl, Bel_11.out⟩

set_option maxRecDepth 100000 in
set_option maxHeartbeats 2000000 in
theorem rm_0y (o : OpT) (h0 : decide (o.k < 1) = false) (h9 : decide (8 < o.k) = false) (h1 : mayI o.s o.n = true) (h2 : restO o = zeroO) (q3 : (o.k == 3) = false) (q5 : (o.k == 5) = false) (q6 : (o.k == 6) = false) (q7 : (o.k == 7) = false) (q8 : (o.k == 8) = false) (w : World) : Calls Try.prog 15 #[.agg (opCells o).toArray] w fun e w' => e = .returned (.int .i64 0) ∧ Below w.heap.size w w' := by
  have he : Try.prog.eqGuardType Try.prog.depth 29 = false := by kernel_rfl
  have hq := neq_op_run (restO o) zeroO
  rw [opCells_zero, decide_eq_true h2] at hq
  clear h2
  go_enter Try.func15, Try.ntmps15
  go_upto_region 1 with fail
  obtain ⟨W1, gW1⟩ : ∃ x, w.alloc (.cells (opCells o).toArray 29) = x := ⟨_, rfl⟩
  have HO : RowKit.Hid (Whole W1 w.heap.size 29 (opCells o)) := Lib.hid (by rw [← gW1]; exact Whole.new_ w _ _)
  have HB : RowKit.Hid (Below w.heap.size w W1) := Lib.hid (by rw [← gW1]; exact below1 _ _)
  rw [gW1]
  clear gW1
  obtain ⟨g0, gg0⟩ : ∃ x, w.heap.size = x := ⟨_, rfl⟩
  rw [gg0] at HO ⊢
  clear gg0
  have lw1 : W1.cell? ⟨g0, 1, none⟩ = some (.int .i64 o.s) := HO.out.cell (i := 1) rfl
  have lw2 : W1.cell? ⟨g0, 2, none⟩ = some (.int .i64 o.n) := HO.out.cell (i := 2) rfl
  go_wp2_with fail
  clear lw1 lw2
  refine (rmay_any o.s o.n _).mono ?_
  rintro e w3 ⟨rfl, hb3⟩
  have O_4 := Lib.hid (HO.out.bl hb3)
  have Bel_4 := Lib.hid (bel_bl HB.out hb3)
  clear hb3
  have lw5 : w3.cell? ⟨g0, 0, none⟩ = some (.int .i64 o.k) := O_4.out.cell (i := 0) rfl
  go_upto_region 2 with fail
  refine wp_region_lit ?_
  refine wl_read (v := ?_) (some 12) rfl (by rfl) ?_ ?_
  rotate_left
  · go_simp; (try with_reducible rfl)
  simp only [Act.put, List.setIfInBounds_toArray, List.set_cons_zero, List.set_cons_succ]
  refine wl_read (v := ?_) (some 13) rfl (by rfl) ?_ ?_
  rotate_left
  · go_simp; (try with_reducible rfl)
  simp only [Act.put, List.setIfInBounds_toArray, List.set_cons_zero, List.set_cons_succ]
  refine wl_read (v := ?_) (some 14) rfl (by rfl) ?_ ?_
  rotate_left
  · go_simp; (try with_reducible rfl)
  simp only [Act.put, List.setIfInBounds_toArray, List.set_cons_zero, List.set_cons_succ]
  refine wl_read (v := ?_) (some 15) rfl (by rfl) ?_ ?_
  rotate_left
  · go_simp; (try with_reducible rfl)
  simp only [Act.put, List.setIfInBounds_toArray, List.set_cons_zero, List.set_cons_succ]
  refine wl_read (v := ?_) (some 16) rfl (by rfl) ?_ ?_
  rotate_left
  · go_simp; (try with_reducible rfl)
  simp only [Act.put, List.setIfInBounds_toArray, List.set_cons_zero, List.set_cons_succ]
  refine wl_read (v := ?_) (some 17) rfl (by rfl) ?_ ?_
  rotate_left
  · go_simp; (try with_reducible rfl)
  simp only [Act.put, List.setIfInBounds_toArray, List.set_cons_zero, List.set_cons_succ]
  refine wl_read (v := ?_) (some 18) rfl (by rfl) ?_ ?_
  rotate_left
  · go_simp; (try with_reducible rfl)
  simp only [Act.put, List.setIfInBounds_toArray, List.set_cons_zero, List.set_cons_succ]
  refine wl_read (v := ?_) (some 19) rfl (by rfl) ?_ ?_
  rotate_left
  · go_simp; (try with_reducible rfl)
  simp only [Act.put, List.setIfInBounds_toArray, List.set_cons_zero, List.set_cons_succ]
  refine wl_read (v := ?_) (some 20) rfl (by rfl) ?_ ?_
  rotate_left
  · go_simp; (try with_reducible rfl)
  simp only [Act.put, List.setIfInBounds_toArray, List.set_cons_zero, List.set_cons_succ]
  refine wl_read (v := ?_) (some 21) rfl (by rfl) ?_ ?_
  rotate_left
  · go_simp; (try with_reducible rfl)
  simp only [Act.put, List.setIfInBounds_toArray, List.set_cons_zero, List.set_cons_succ]
  refine wl_read (v := ?_) (some 22) rfl (by rfl) ?_ ?_
  rotate_left
  · go_simp; (try with_reducible rfl)
  simp only [Act.put, List.setIfInBounds_toArray, List.set_cons_zero, List.set_cons_succ]
  refine wl_read (v := ?_) (some 23) rfl (by rfl) ?_ ?_
  rotate_left
  · go_simp; (try with_reducible rfl)
  simp only [Act.put, List.setIfInBounds_toArray, List.set_cons_zero, List.set_cons_succ]
  refine wl_read (v := ?_) (some 24) rfl (by rfl) ?_ ?_
  rotate_left
  · go_simp; (try with_reducible rfl)
  simp only [Act.put, List.setIfInBounds_toArray, List.set_cons_zero, List.set_cons_succ]
  refine wl_load (some 25) rfl (by rfl) 29 (.tmp 1) rfl g0 rfl 29 (opCells o) _ O_4.out Try.underlying29 rfl (by kernel_rfl) ?_
  simp only [Act.put, List.setIfInBounds_toArray, List.set_cons_zero, List.set_cons_succ]
  go_wp2_with fail
  clear lw5
  refine (rest_any o _).mono ?_
  rintro e w6 ⟨rfl, hb6⟩
  have O_7 := Lib.hid (O_4.out.bl hb6)
  have Bel_7 := Lib.hid (bel_bl Bel_4.out hb6)
  clear hb6
  have lw8 : w6.cell? ⟨g0, 0, none⟩ = some (.int .i64 o.k) := O_7.out.cell (i := 0) rfl
  go_wp2
  go_ret
  exact ⟨rfl, Bel_7.out⟩

end Go.Proofs.Ytfbgbljljhgbjaa
