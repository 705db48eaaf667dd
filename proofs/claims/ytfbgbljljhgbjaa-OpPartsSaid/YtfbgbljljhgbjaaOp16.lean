/- OpKinds' walk. -/
import Derived.Test.YtfbgbljljhgbjaaOp15
namespace Go.Proofs.Ytfbgbljljhgbjaa
open Go.RowKit
set_option linter.unusedSimpArgs false
set_option linter.unusedVariables false

theorem RdS.of_whole {W : World} {g : Nat} {t : TypeId} {cs : List Value} {n size : Nat} (h : Whole W g t cs) (hl : cs.length = n * size) : RdS W W.heap.size size (some ⟨g, 0, none⟩) n n cs :=
  ⟨hl, fun e => (by cases e), Nat.le_refl _, fun a ha _ => (by obtain rfl := Option.some.inj ha; exact h.lt), fun a ha j u hu => (by
    obtain rfl := Option.some.inj ha
    have hadd : (⟨g, 0, none⟩ : Addr).add j = ⟨g, j, none⟩ := by unfold Addr.add; split <;> simp_all
    rw [hadd]
    exact h.cell hu)⟩

def kindO (k a b : Int) : OpT := ⟨k, a, b, 0, 0, 0, 0, 0, 0, 0, 0, 0, 0, 0, 0, 0, 0, false, ⟨#[]⟩, 0⟩
theorem kindO_may (k a b : Int) : mayO (kindO k a b) = if mayI a b = true ∧ (k = 1 ∨ k = 2 ∨ k = 4 ∨ k = 7 ∨ k = 8) then 0 else 1 := by
  have h0 : mayI 0 0 = false := by decide
  have hc : mayC 0 0 0 0 0 = false := by decide
  have ha : mayAt 0 = true := by decide
  unfold mayO
  rw [show mayL (kindO k a b).t = true from mayL_empty]
  simp only [if_true]
  by_cases hk : k = 1 ∨ k = 2 ∨ k = 4 ∨ k = 7 ∨ k = 8
  · have hf : fitsO (kindO k a b) = true := by
      unfold fitsO kindO
      simp only
      by_cases h8 : k = 8
      · subst h8
        simp [ha]
      · rw [if_pos (by omega)]
    have ho : kindO k a b = onlyO (kindO k a b) := by
      unfold onlyO kindO
      repeat' split
      all_goals first | rfl | (simp_all; done) | (exfalso; simp_all; done)
    by_cases hm : mayI a b = true
    · rw [if_pos ⟨hm, hf, ho⟩, if_pos ⟨hm, hk⟩]
    · rw [if_neg (fun h => hm h.1), if_neg (fun h => hm h.1)]
  · have hr : (if mayI a b = true ∧ (k = 1 ∨ k = 2 ∨ k = 4 ∨ k = 7 ∨ k = 8) then (0 : Int) else 1) = 1 := if_neg (fun h => hk h.2)
    rw [hr, if_neg]
    rintro ⟨-, h, -⟩
    unfold fitsO kindO at h
    simp only at h
    rw [if_neg (by omega)] at h
    repeat' split at h
    all_goals first | (simp [hc] at h; done) | (simp [h0] at h; done) | (exfalso; omega) | (simp at h; done)

set_option maxRecDepth 100000 in
set_option maxHeartbeats 4000000 in
theorem kd_1y (a b : Int) (hm : mayI a b = true) (w : World) : Calls Try.prog 8 #[.int .i64 1, .agg #[.int .i64 a, .int .i64 b]] w fun e w' => e = .returned (.bool true) ∧ Below w.heap.size w w' := by
  have hv : mayO (kindO 1 a b) = 0 := by rw [kindO_may]; rw [if_pos ⟨hm, by decide⟩]
  have h1 := mayop_any (kindO 1 a b)
  rw [hv] at h1
  have H1 := Lib.hid h1
  have hE := fun A c W h => mayedit_any A 1 c [kindO 1 a b] W h (by decide)
  rw [show mayE [kindO 1 a b] = 0 by simp [mayE, mayEs, hv]] at hE
  have HE := Lib.hid hE
  have h2 := rmay_any a b
  rw [hm] at h2
  have H2 := Lib.hid h2
  clear h1 h2 hv hm hE
  go_enter Try.func8, Try.ntmps8
  go_wp2_with fail
  refine (shown9 _).mono ?_
  rintro e w1 ⟨rfl, hb1⟩
  have X_2 := Lib.hid ((show Whole (w.alloc (.cells #[.int .i64 a, .int .i64 b] 23)) (w.heap.size) (23) ([.int .i64 a, .int .i64 b]) from Whole.new2 (by first | rfl | simp)).bl hb1)
  have Bel_2 := Lib.hid (bel_bl (bel_al (Below.refl _ w) (.cells #[.int .i64 a, .int .i64 b] 23)) hb1)
  clear hb1
  go_upto_region 2 with fail
  refine wp_region_lit ?_
  refine wl_read (v := ?_) (some 11) rfl (by rfl) ?_ ?_
  rotate_left
  · go_simp; (try with_reducible rfl)
  simp only [Act.put, List.setIfInBounds_toArray, List.set_cons_zero, List.set_cons_succ]
  refine wl_load (some 12) rfl (by rfl) 23 (.tmp 3) rfl (w.heap.size) rfl 23 ([.int .i64 a, .int .i64 b]) _ X_2.out Try.underlying23 rfl (by kernel_rfl) ?_
  simp only [Act.put, List.setIfInBounds_toArray, List.set_cons_zero, List.set_cons_succ]
  refine wl_read (v := ?_) (some 13) rfl (by rfl) ?_ ?_
  rotate_left
  · go_simp; (try with_reducible rfl)
  simp only [Act.put, List.setIfInBounds_toArray, List.set_cons_zero, List.set_cons_succ]
  refine wl_new 6 rfl rfl rfl 29 (.tmp 13) rfl rfl #[.int .i64 0, .int .i64 0, .int .i64 0, .int .i64 0, .int .i64 0, .int .i64 0, .int .i64 0, .int .i64 0, .int .i64 0, .int .i64 0, .int .i64 0, .int .i64 0, .int .i64 0, .int .i64 0, .int .i64 0, .int .i64 0, .int .i64 0, .bool false, .string ⟨#[]⟩, .int .i64 0] ?_ ((opCells (kindO 1 a b)).toArray) (by simp) rfl (by kernel_rfl) rfl (opCells_all _) ?_
  · go_simp; (try with_reducible rfl)
  simp only [Act.put, List.setIfInBounds_toArray, List.set_cons_zero, List.set_cons_succ]
  have X_3 := Lib.hid ((X_2.out.al (.cells ((opCells (kindO 1 a b)).toArray) 29)))
  have O_3 := Lib.hid ((show Whole (w1.alloc (.cells ((opCells (kindO 1 a b)).toArray) 29)) (w1.heap.size) (29) (opCells (kindO 1 a b)) from Whole.new2 (by first | rfl | simp)))
  have Bel_3 := Lib.hid (bel_al Bel_2.out (.cells ((opCells (kindO 1 a b)).toArray) 29))
  obtain ⟨v3, gv3⟩ : ∃ x, (w1.alloc (.cells ((opCells (kindO 1 a b)).toArray) 29)) = x := ⟨_, rfl⟩
  rw [gv3] at X_3 O_3 Bel_3 ⊢
  clear gv3
  obtain ⟨g4, gg4⟩ : ∃ x, w1.heap.size = x := ⟨_, rfl⟩
  rw [gg4] at O_3 ⊢
  clear gg4
  have lw5 : (v3).cell? ⟨w.heap.size, 0, none⟩ = some (.int .i64 a) := X_3.out.cell (i := 0) rfl
  have lw6 : (v3).cell? ⟨w.heap.size, 1, none⟩ = some (.int .i64 b) := X_3.out.cell (i := 1) rfl
  go_wp2_with fail
  clear lw5 lw6
  refine (H2.out _).mono ?_
  rintro e w7 ⟨rfl, hb7⟩
  have X_8 := Lib.hid (X_3.out.bl hb7)
  have O_8 := Lib.hid (O_3.out.bl hb7)
  have Bel_8 := Lib.hid (bel_bl Bel_3.out hb7)
  clear hb7
  go_upto_region 5 with fail
  refine wp_region_lit ?_
  refine wl_load (some 34) rfl (by rfl) 29 (.tmp 6) rfl (g4) rfl 29 (opCells (kindO 1 a b)) _ O_8.out Try.underlying29 rfl (by kernel_rfl) ?_
  simp only [Act.put, List.setIfInBounds_toArray, List.set_cons_zero, List.set_cons_succ]
  go_wp2_with fail
  refine (H1.out _).mono ?_
  rintro e w9 ⟨rfl, hb9⟩
  have X_10 := Lib.hid (X_8.out.bl hb9)
  have O_10 := Lib.hid (O_8.out.bl hb9)
  have Bel_10 := Lib.hid (bel_bl Bel_8.out hb9)
  clear hb9
  go_upto_region 6 with fail
  refine wp_region_lit ?_
  refine wl_read (v := ?_) (some 36) rfl (by rfl) ?_ ?_
  rotate_left
  · go_simp; (try with_reducible rfl)
  simp only [Act.put, List.setIfInBounds_toArray, List.set_cons_zero, List.set_cons_succ]
  refine wl_read (v := ?_) (some 37) rfl (by rfl) ?_ ?_
  rotate_left
  · go_simp; (try with_reducible rfl)
  simp only [Act.put, List.setIfInBounds_toArray, List.set_cons_zero, List.set_cons_succ]
  refine wl_read (v := ?_) (some 38) rfl (by rfl) ?_ ?_
  rotate_left
  · go_simp; (try with_reducible rfl)
  simp only [Act.put, List.setIfInBounds_toArray, List.set_cons_zero, List.set_cons_succ]
  refine wl_read (v := ?_) (some 39) rfl (by rfl) ?_ ?_
  rotate_left
  · go_simp; (try with_reducible rfl)
  simp only [Act.put, List.setIfInBounds_toArray, List.set_cons_zero, List.set_cons_succ]
  refine wl_read (v := ?_) (some 40) rfl (by rfl) ?_ ?_
  rotate_left
  · go_simp; (try with_reducible rfl)
  simp only [Act.put, List.setIfInBounds_toArray, List.set_cons_zero, List.set_cons_succ]
  refine wl_read (v := ?_) (some 41) rfl (by rfl) ?_ ?_
  rotate_left
  · go_simp; (try with_reducible rfl)
  simp only [Act.put, List.setIfInBounds_toArray, List.set_cons_zero, List.set_cons_succ]
  refine wl_read (v := ?_) (some 42) rfl (by rfl) ?_ ?_
  rotate_left
  · go_simp; (try with_reducible rfl)
  simp only [Act.put, List.setIfInBounds_toArray, List.set_cons_zero, List.set_cons_succ]
  refine wl_read (v := ?_) (some 43) rfl (by rfl) ?_ ?_
  rotate_left
  · go_simp; (try with_reducible rfl)
  simp only [Act.put, List.setIfInBounds_toArray, List.set_cons_zero, List.set_cons_succ]
  refine wl_read (v := ?_) (some 44) rfl (by rfl) ?_ ?_
  rotate_left
  · go_simp; (try with_reducible rfl)
  simp only [Act.put, List.setIfInBounds_toArray, List.set_cons_zero, List.set_cons_succ]
  refine wl_read (v := ?_) (some 45) rfl (by rfl) ?_ ?_
  rotate_left
  · go_simp; (try with_reducible rfl)
  simp only [Act.put, List.setIfInBounds_toArray, List.set_cons_zero, List.set_cons_succ]
  refine wl_read (v := ?_) (some 46) rfl (by rfl) ?_ ?_
  rotate_left
  · go_simp; (try with_reducible rfl)
  simp only [Act.put, List.setIfInBounds_toArray, List.set_cons_zero, List.set_cons_succ]
  refine wl_read (v := ?_) (some 47) rfl (by rfl) ?_ ?_
  rotate_left
  · go_simp; (try with_reducible rfl)
  simp only [Act.put, List.setIfInBounds_toArray, List.set_cons_zero, List.set_cons_succ]
  refine wl_read (v := ?_) (some 48) rfl (by rfl) ?_ ?_
  rotate_left
  · go_simp; (try with_reducible rfl)
  simp only [Act.put, List.setIfInBounds_toArray, List.set_cons_zero, List.set_cons_succ]
  refine wl_read (v := ?_) (some 49) rfl (by rfl) ?_ ?_
  rotate_left
  · go_simp; (try with_reducible rfl)
  simp only [Act.put, List.setIfInBounds_toArray, List.set_cons_zero, List.set_cons_succ]
  refine wl_skip (some 50) rfl (by rfl) ?_
  simp only [Act.put, List.setIfInBounds_toArray, List.set_cons_zero, List.set_cons_succ]
  refine wl_skip (some 51) rfl (by rfl) ?_
  simp only [Act.put, List.setIfInBounds_toArray, List.set_cons_zero, List.set_cons_succ]
  refine wl_read (v := ?_) (some 52) rfl (by rfl) ?_ ?_
  rotate_left
  · go_simp; (try with_reducible rfl)
  simp only [Act.put, List.setIfInBounds_toArray, List.set_cons_zero, List.set_cons_succ]
  refine wl_read (v := ?_) (some 53) rfl (by rfl) ?_ ?_
  rotate_left
  · go_simp; (try with_reducible rfl)
  simp only [Act.put, List.setIfInBounds_toArray, List.set_cons_zero, List.set_cons_succ]
  refine wl_read (v := ?_) (some 54) rfl (by rfl) ?_ ?_
  rotate_left
  · go_simp; (try with_reducible rfl)
  simp only [Act.put, List.setIfInBounds_toArray, List.set_cons_zero, List.set_cons_succ]
  refine wl_load (some 55) rfl (by rfl) 29 (.tmp 6) rfl (g4) rfl 29 (opCells (kindO 1 a b)) _ O_10.out Try.underlying29 rfl (by kernel_rfl) ?_
  simp only [Act.put, List.setIfInBounds_toArray, List.set_cons_zero, List.set_cons_succ]
  refine wl_buildSlice (some 56) rfl (by rfl) 30 29 1 #[(0, .tmp 55)] rfl Try.underlying30 (opCells (kindO 1 a b)).toArray (by kernel_rfl) ?_
  simp only [Act.put, List.setIfInBounds_toArray, List.set_cons_zero, List.set_cons_succ]
  have X_11 := Lib.hid ((X_10.out.al (.cells ((opCells (kindO 1 a b)).toArray) 29)))
  have O_11 := Lib.hid ((O_10.out.al (.cells ((opCells (kindO 1 a b)).toArray) 29)))
  have S_11 := Lib.hid ((show Whole (w9.alloc (.cells ((opCells (kindO 1 a b)).toArray) 29)) (w9.heap.size) (29) (opCells (kindO 1 a b)) from Whole.new2 (by first | rfl | simp)))
  have Bel_11 := Lib.hid (bel_al Bel_10.out (.cells ((opCells (kindO 1 a b)).toArray) 29))
  obtain ⟨v11, gv11⟩ : ∃ x, (w9.alloc (.cells ((opCells (kindO 1 a b)).toArray) 29)) = x := ⟨_, rfl⟩
  rw [gv11] at X_11 O_11 S_11 Bel_11 ⊢
  clear gv11
  obtain ⟨g12, gg12⟩ : ∃ x, w9.heap.size = x := ⟨_, rfl⟩
  rw [gg12] at S_11 ⊢
  clear gg12
  go_wp2_with fail
  refine (HE.out (some ⟨g12, 0, none⟩) 1 _ (show RdS _ _ 20 _ 1 1 (rowsV opCells [kindO 1 a b]) from RdS.of_whole S_11.out rfl)).mono ?_
  rintro e w13 ⟨rfl, hb13⟩
  have X_14 := Lib.hid (X_11.out.bl hb13)
  have O_14 := Lib.hid (O_11.out.bl hb13)
  have S_14 := Lib.hid (S_11.out.bl hb13)
  have Bel_14 := Lib.hid (bel_bl Bel_11.out hb13)
  clear hb13
  go_wp2
  go_ret
  exact ⟨rfl, Bel_14.out⟩

set_option maxRecDepth 100000 in
set_option maxHeartbeats 4000000 in
theorem kd_1n (a b : Int) (hm : mayI a b = false) (w : World) : Calls Try.prog 8 #[.int .i64 1, .agg #[.int .i64 a, .int .i64 b]] w fun e w' => e = .returned (.bool true) ∧ Below w.heap.size w w' := by
  have hv : mayO (kindO 1 a b) = 1 := by rw [kindO_may]; rw [if_neg (fun h => by rw [hm] at h; cases h.1)]
  have h1 := mayop_any (kindO 1 a b)
  rw [hv] at h1
  have H1 := Lib.hid h1
  have hE := fun A c W h => mayedit_any A 1 c [kindO 1 a b] W h (by decide)
  rw [show mayE [kindO 1 a b] = 1 by simp [mayE, mayEs, hv]] at hE
  have HE := Lib.hid hE
  have h2 := rmay_any a b
  rw [hm] at h2
  have H2 := Lib.hid h2
  clear h1 h2 hv hm hE
  go_enter Try.func8, Try.ntmps8
  go_wp2_with fail
  refine (shown9 _).mono ?_
  rintro e w1 ⟨rfl, hb1⟩
  have X_2 := Lib.hid ((show Whole (w.alloc (.cells #[.int .i64 a, .int .i64 b] 23)) (w.heap.size) (23) ([.int .i64 a, .int .i64 b]) from Whole.new2 (by first | rfl | simp)).bl hb1)
  have Bel_2 := Lib.hid (bel_bl (bel_al (Below.refl _ w) (.cells #[.int .i64 a, .int .i64 b] 23)) hb1)
  clear hb1
  go_upto_region 2 with fail
  refine wp_region_lit ?_
  refine wl_read (v := ?_) (some 11) rfl (by rfl) ?_ ?_
  rotate_left
  · go_simp; (try with_reducible rfl)
  simp only [Act.put, List.setIfInBounds_toArray, List.set_cons_zero, List.set_cons_succ]
  refine wl_load (some 12) rfl (by rfl) 23 (.tmp 3) rfl (w.heap.size) rfl 23 ([.int .i64 a, .int .i64 b]) _ X_2.out Try.underlying23 rfl (by kernel_rfl) ?_
  simp only [Act.put, List.setIfInBounds_toArray, List.set_cons_zero, List.set_cons_succ]
  refine wl_read (v := ?_) (some 13) rfl (by rfl) ?_ ?_
  rotate_left
  · go_simp; (try with_reducible rfl)
  simp only [Act.put, List.setIfInBounds_toArray, List.set_cons_zero, List.set_cons_succ]
  refine wl_new 6 rfl rfl rfl 29 (.tmp 13) rfl rfl #[.int .i64 0, .int .i64 0, .int .i64 0, .int .i64 0, .int .i64 0, .int .i64 0, .int .i64 0, .int .i64 0, .int .i64 0, .int .i64 0, .int .i64 0, .int .i64 0, .int .i64 0, .int .i64 0, .int .i64 0, .int .i64 0, .int .i64 0, .bool false, .string ⟨#[]⟩, .int .i64 0] ?_ ((opCells (kindO 1 a b)).toArray) (by simp) rfl (by kernel_rfl) rfl (opCells_all _) ?_
  · go_simp; (try with_reducible rfl)
  simp only [Act.put, List.setIfInBounds_toArray, List.set_cons_zero, List.set_cons_succ]
  have X_3 := Lib.hid ((X_2.out.al (.cells ((opCells (kindO 1 a b)).toArray) 29)))
  have O_3 := Lib.hid ((show Whole (w1.alloc (.cells ((opCells (kindO 1 a b)).toArray) 29)) (w1.heap.size) (29) (opCells (kindO 1 a b)) from Whole.new2 (by first | rfl | simp)))
  have Bel_3 := Lib.hid (bel_al Bel_2.out (.cells ((opCells (kindO 1 a b)).toArray) 29))
  obtain ⟨v3, gv3⟩ : ∃ x, (w1.alloc (.cells ((opCells (kindO 1 a b)).toArray) 29)) = x := ⟨_, rfl⟩
  rw [gv3] at X_3 O_3 Bel_3 ⊢
  clear gv3
  obtain ⟨g4, gg4⟩ : ∃ x, w1.heap.size = x := ⟨_, rfl⟩
  rw [gg4] at O_3 ⊢
  clear gg4
  have lw5 : (v3).cell? ⟨w.heap.size, 0, none⟩ = some (.int .i64 a) := X_3.out.cell (i := 0) rfl
  have lw6 : (v3).cell? ⟨w.heap.size, 1, none⟩ = some (.int .i64 b) := X_3.out.cell (i := 1) rfl
  go_wp2_with fail
  clear lw5 lw6
  refine (H2.out _).mono ?_
  rintro e w7 ⟨rfl, hb7⟩
  have X_8 := Lib.hid (X_3.out.bl hb7)
  have O_8 := Lib.hid (O_3.out.bl hb7)
  have Bel_8 := Lib.hid (bel_bl Bel_3.out hb7)
  clear hb7
  go_upto_region 5 with fail
  refine wp_region_lit ?_
  refine wl_load (some 34) rfl (by rfl) 29 (.tmp 6) rfl (g4) rfl 29 (opCells (kindO 1 a b)) _ O_8.out Try.underlying29 rfl (by kernel_rfl) ?_
  simp only [Act.put, List.setIfInBounds_toArray, List.set_cons_zero, List.set_cons_succ]
  go_wp2_with fail
  refine (H1.out _).mono ?_
  rintro e w9 ⟨rfl, hb9⟩
  have X_10 := Lib.hid (X_8.out.bl hb9)
  have O_10 := Lib.hid (O_8.out.bl hb9)
  have Bel_10 := Lib.hid (bel_bl Bel_8.out hb9)
  clear hb9
  go_upto_region 6 with fail
  refine wp_region_lit ?_
  refine wl_read (v := ?_) (some 36) rfl (by rfl) ?_ ?_
  rotate_left
  · go_simp; (try with_reducible rfl)
  simp only [Act.put, List.setIfInBounds_toArray, List.set_cons_zero, List.set_cons_succ]
  refine wl_read (v := ?_) (some 37) rfl (by rfl) ?_ ?_
  rotate_left
  · go_simp; (try with_reducible rfl)
  simp only [Act.put, List.setIfInBounds_toArray, List.set_cons_zero, List.set_cons_succ]
  refine wl_read (v := ?_) (some 38) rfl (by rfl) ?_ ?_
  rotate_left
  · go_simp; (try with_reducible rfl)
  simp only [Act.put, List.setIfInBounds_toArray, List.set_cons_zero, List.set_cons_succ]
  refine wl_read (v := ?_) (some 39) rfl (by rfl) ?_ ?_
  rotate_left
  · go_simp; (try with_reducible rfl)
  simp only [Act.put, List.setIfInBounds_toArray, List.set_cons_zero, List.set_cons_succ]
  refine wl_read (v := ?_) (some 40) rfl (by rfl) ?_ ?_
  rotate_left
  · go_simp; (try with_reducible rfl)
  simp only [Act.put, List.setIfInBounds_toArray, List.set_cons_zero, List.set_cons_succ]
  refine wl_read (v := ?_) (some 41) rfl (by rfl) ?_ ?_
  rotate_left
  · go_simp; (try with_reducible rfl)
  simp only [Act.put, List.setIfInBounds_toArray, List.set_cons_zero, List.set_cons_succ]
  refine wl_read (v := ?_) (some 42) rfl (by rfl) ?_ ?_
  rotate_left
  · go_simp; (try with_reducible rfl)
  simp only [Act.put, List.setIfInBounds_toArray, List.set_cons_zero, List.set_cons_succ]
  refine wl_read (v := ?_) (some 43) rfl (by rfl) ?_ ?_
  rotate_left
  · go_simp; (try with_reducible rfl)
  simp only [Act.put, List.setIfInBounds_toArray, List.set_cons_zero, List.set_cons_succ]
  refine wl_read (v := ?_) (some 44) rfl (by rfl) ?_ ?_
  rotate_left
  · go_simp; (try with_reducible rfl)
  simp only [Act.put, List.setIfInBounds_toArray, List.set_cons_zero, List.set_cons_succ]
  refine wl_read (v := ?_) (some 45) rfl (by rfl) ?_ ?_
  rotate_left
  · go_simp; (try with_reducible rfl)
  simp only [Act.put, List.setIfInBounds_toArray, List.set_cons_zero, List.set_cons_succ]
  refine wl_read (v := ?_) (some 46) rfl (by rfl) ?_ ?_
  rotate_left
  · go_simp; (try with_reducible rfl)
  simp only [Act.put, List.setIfInBounds_toArray, List.set_cons_zero, List.set_cons_succ]
  refine wl_read (v := ?_) (some 47) rfl (by rfl) ?_ ?_
  rotate_left
  · go_simp; (try with_reducible rfl)
  simp only [Act.put, List.setIfInBounds_toArray, List.set_cons_zero, List.set_cons_succ]
  refine wl_read (v := ?_) (some 48) rfl (by rfl) ?_ ?_
  rotate_left
  · go_simp; (try with_reducible rfl)
  simp only [Act.put, List.setIfInBounds_toArray, List.set_cons_zero, List.set_cons_succ]
  refine wl_read (v := ?_) (some 49) rfl (by rfl) ?_ ?_
  rotate_left
  · go_simp; (try with_reducible rfl)
  simp only [Act.put, List.setIfInBounds_toArray, List.set_cons_zero, List.set_cons_succ]
  refine wl_read (v := ?_) (some 50) rfl (by rfl) ?_ ?_
  rotate_left
  · go_simp; (try with_reducible rfl)
  simp only [Act.put, List.setIfInBounds_toArray, List.set_cons_zero, List.set_cons_succ]
  refine wl_read (v := ?_) (some 51) rfl (by rfl) ?_ ?_
  rotate_left
  · go_simp; (try with_reducible rfl)
  simp only [Act.put, List.setIfInBounds_toArray, List.set_cons_zero, List.set_cons_succ]
  refine wl_read (v := ?_) (some 52) rfl (by rfl) ?_ ?_
  rotate_left
  · go_simp; (try with_reducible rfl)
  simp only [Act.put, List.setIfInBounds_toArray, List.set_cons_zero, List.set_cons_succ]
  refine wl_read (v := ?_) (some 53) rfl (by rfl) ?_ ?_
  rotate_left
  · go_simp; (try with_reducible rfl)
  simp only [Act.put, List.setIfInBounds_toArray, List.set_cons_zero, List.set_cons_succ]
  refine wl_read (v := ?_) (some 54) rfl (by rfl) ?_ ?_
  rotate_left
  · go_simp; (try with_reducible rfl)
  simp only [Act.put, List.setIfInBounds_toArray, List.set_cons_zero, List.set_cons_succ]
  refine wl_load (some 55) rfl (by rfl) 29 (.tmp 6) rfl (g4) rfl 29 (opCells (kindO 1 a b)) _ O_10.out Try.underlying29 rfl (by kernel_rfl) ?_
  simp only [Act.put, List.setIfInBounds_toArray, List.set_cons_zero, List.set_cons_succ]
  refine wl_buildSlice (some 56) rfl (by rfl) 30 29 1 #[(0, .tmp 55)] rfl Try.underlying30 (opCells (kindO 1 a b)).toArray (by kernel_rfl) ?_
  simp only [Act.put, List.setIfInBounds_toArray, List.set_cons_zero, List.set_cons_succ]
  have X_11 := Lib.hid ((X_10.out.al (.cells ((opCells (kindO 1 a b)).toArray) 29)))
  have O_11 := Lib.hid ((O_10.out.al (.cells ((opCells (kindO 1 a b)).toArray) 29)))
  have S_11 := Lib.hid ((show Whole (w9.alloc (.cells ((opCells (kindO 1 a b)).toArray) 29)) (w9.heap.size) (29) (opCells (kindO 1 a b)) from Whole.new2 (by first | rfl | simp)))
  have Bel_11 := Lib.hid (bel_al Bel_10.out (.cells ((opCells (kindO 1 a b)).toArray) 29))
  obtain ⟨v11, gv11⟩ : ∃ x, (w9.alloc (.cells ((opCells (kindO 1 a b)).toArray) 29)) = x := ⟨_, rfl⟩
  rw [gv11] at X_11 O_11 S_11 Bel_11 ⊢
  clear gv11
  obtain ⟨g12, gg12⟩ : ∃ x, w9.heap.size = x := ⟨_, rfl⟩
  rw [gg12] at S_11 ⊢
  clear gg12
  go_wp2_with fail
  refine (HE.out (some ⟨g12, 0, none⟩) 1 _ (show RdS _ _ 20 _ 1 1 (rowsV opCells [kindO 1 a b]) from RdS.of_whole S_11.out rfl)).mono ?_
  rintro e w13 ⟨rfl, hb13⟩
  have X_14 := Lib.hid (X_11.out.bl hb13)
  have O_14 := Lib.hid (O_11.out.bl hb13)
  have S_14 := Lib.hid (S_11.out.bl hb13)
  have Bel_14 := Lib.hid (bel_bl Bel_11.out hb13)
  clear hb13
  go_wp2
  go_ret
  exact ⟨rfl, Bel_14.out⟩

set_option maxRecDepth 100000 in
set_option maxHeartbeats 4000000 in
theorem kd_2y (a b : Int) (hm : mayI a b = true) (w : World) : Calls Try.prog 8 #[.int .i64 2, .agg #[.int .i64 a, .int .i64 b]] w fun e w' => e = .returned (.bool true) ∧ Below w.heap.size w w' := by
  have hv : mayO (kindO 2 a b) = 0 := by rw [kindO_may]; rw [if_pos ⟨hm, by decide⟩]
  have h1 := mayop_any (kindO 2 a b)
  rw [hv] at h1
  have H1 := Lib.hid h1
  have hE := fun A c W h => mayedit_any A 1 c [kindO 2 a b] W h (by decide)
  rw [show mayE [kindO 2 a b] = 0 by simp [mayE, mayEs, hv]] at hE
  have HE := Lib.hid hE
  have h2 := rmay_any a b
  rw [hm] at h2
  have H2 := Lib.hid h2
  clear h1 h2 hv hm hE
  go_enter Try.func8, Try.ntmps8
  go_wp2_with fail
  refine (shown9 _).mono ?_
  rintro e w1 ⟨rfl, hb1⟩
  have X_2 := Lib.hid ((show Whole (w.alloc (.cells #[.int .i64 a, .int .i64 b] 23)) (w.heap.size) (23) ([.int .i64 a, .int .i64 b]) from Whole.new2 (by first | rfl | simp)).bl hb1)
  have Bel_2 := Lib.hid (bel_bl (bel_al (Below.refl _ w) (.cells #[.int .i64 a, .int .i64 b] 23)) hb1)
  clear hb1
  go_upto_region 2 with fail
  refine wp_region_lit ?_
  refine wl_read (v := ?_) (some 11) rfl (by rfl) ?_ ?_
  rotate_left
  · go_simp; (try with_reducible rfl)
  simp only [Act.put, List.setIfInBounds_toArray, List.set_cons_zero, List.set_cons_succ]
  refine wl_load (some 12) rfl (by rfl) 23 (.tmp 3) rfl (w.heap.size) rfl 23 ([.int .i64 a, .int .i64 b]) _ X_2.out Try.underlying23 rfl (by kernel_rfl) ?_
  simp only [Act.put, List.setIfInBounds_toArray, List.set_cons_zero, List.set_cons_succ]
  refine wl_read (v := ?_) (some 13) rfl (by rfl) ?_ ?_
  rotate_left
  · go_simp; (try with_reducible rfl)
  simp only [Act.put, List.setIfInBounds_toArray, List.set_cons_zero, List.set_cons_succ]
  refine wl_new 6 rfl rfl rfl 29 (.tmp 13) rfl rfl #[.int .i64 0, .int .i64 0, .int .i64 0, .int .i64 0, .int .i64 0, .int .i64 0, .int .i64 0, .int .i64 0, .int .i64 0, .int .i64 0, .int .i64 0, .int .i64 0, .int .i64 0, .int .i64 0, .int .i64 0, .int .i64 0, .int .i64 0, .bool false, .string ⟨#[]⟩, .int .i64 0] ?_ ((opCells (kindO 2 a b)).toArray) (by simp) rfl (by kernel_rfl) rfl (opCells_all _) ?_
  · go_simp; (try with_reducible rfl)
  simp only [Act.put, List.setIfInBounds_toArray, List.set_cons_zero, List.set_cons_succ]
  have X_3 := Lib.hid ((X_2.out.al (.cells ((opCells (kindO 2 a b)).toArray) 29)))
  have O_3 := Lib.hid ((show Whole (w1.alloc (.cells ((opCells (kindO 2 a b)).toArray) 29)) (w1.heap.size) (29) (opCells (kindO 2 a b)) from Whole.new2 (by first | rfl | simp)))
  have Bel_3 := Lib.hid (bel_al Bel_2.out (.cells ((opCells (kindO 2 a b)).toArray) 29))
  obtain ⟨v3, gv3⟩ : ∃ x, (w1.alloc (.cells ((opCells (kindO 2 a b)).toArray) 29)) = x := ⟨_, rfl⟩
  rw [gv3] at X_3 O_3 Bel_3 ⊢
  clear gv3
  obtain ⟨g4, gg4⟩ : ∃ x, w1.heap.size = x := ⟨_, rfl⟩
  rw [gg4] at O_3 ⊢
  clear gg4
  have lw5 : (v3).cell? ⟨w.heap.size, 0, none⟩ = some (.int .i64 a) := X_3.out.cell (i := 0) rfl
  have lw6 : (v3).cell? ⟨w.heap.size, 1, none⟩ = some (.int .i64 b) := X_3.out.cell (i := 1) rfl
  go_wp2_with fail
  clear lw5 lw6
  refine (H2.out _).mono ?_
  rintro e w7 ⟨rfl, hb7⟩
  have X_8 := Lib.hid (X_3.out.bl hb7)
  have O_8 := Lib.hid (O_3.out.bl hb7)
  have Bel_8 := Lib.hid (bel_bl Bel_3.out hb7)
  clear hb7
  go_upto_region 5 with fail
  refine wp_region_lit ?_
  refine wl_load (some 34) rfl (by rfl) 29 (.tmp 6) rfl (g4) rfl 29 (opCells (kindO 2 a b)) _ O_8.out Try.underlying29 rfl (by kernel_rfl) ?_
  simp only [Act.put, List.setIfInBounds_toArray, List.set_cons_zero, List.set_cons_succ]
  go_wp2_with fail
  refine (H1.out _).mono ?_
  rintro e w9 ⟨rfl, hb9⟩
  have X_10 := Lib.hid (X_8.out.bl hb9)
  have O_10 := Lib.hid (O_8.out.bl hb9)
  have Bel_10 := Lib.hid (bel_bl Bel_8.out hb9)
  clear hb9
  go_upto_region 6 with fail
  refine wp_region_lit ?_
  refine wl_read (v := ?_) (some 36) rfl (by rfl) ?_ ?_
  rotate_left
  · go_simp; (try with_reducible rfl)
  simp only [Act.put, List.setIfInBounds_toArray, List.set_cons_zero, List.set_cons_succ]
  refine wl_read (v := ?_) (some 37) rfl (by rfl) ?_ ?_
  rotate_left
  · go_simp; (try with_reducible rfl)
  simp only [Act.put, List.setIfInBounds_toArray, List.set_cons_zero, List.set_cons_succ]
  refine wl_read (v := ?_) (some 38) rfl (by rfl) ?_ ?_
  rotate_left
  · go_simp; (try with_reducible rfl)
  simp only [Act.put, List.setIfInBounds_toArray, List.set_cons_zero, List.set_cons_succ]
  refine wl_read (v := ?_) (some 39) rfl (by rfl) ?_ ?_
  rotate_left
  · go_simp; (try with_reducible rfl)
  simp only [Act.put, List.setIfInBounds_toArray, List.set_cons_zero, List.set_cons_succ]
  refine wl_read (v := ?_) (some 40) rfl (by rfl) ?_ ?_
  rotate_left
  · go_simp; (try with_reducible rfl)
  simp only [Act.put, List.setIfInBounds_toArray, List.set_cons_zero, List.set_cons_succ]
  refine wl_read (v := ?_) (some 41) rfl (by rfl) ?_ ?_
  rotate_left
  · go_simp; (try with_reducible rfl)
  simp only [Act.put, List.setIfInBounds_toArray, List.set_cons_zero, List.set_cons_succ]
  refine wl_read (v := ?_) (some 42) rfl (by rfl) ?_ ?_
  rotate_left
  · go_simp; (try with_reducible rfl)
  simp only [Act.put, List.setIfInBounds_toArray, List.set_cons_zero, List.set_cons_succ]
  refine wl_read (v := ?_) (some 43) rfl (by rfl) ?_ ?_
  rotate_left
  · go_simp; (try with_reducible rfl)
  simp only [Act.put, List.setIfInBounds_toArray, List.set_cons_zero, List.set_cons_succ]
  refine wl_read (v := ?_) (some 44) rfl (by rfl) ?_ ?_
  rotate_left
  · go_simp; (try with_reducible rfl)
  simp only [Act.put, List.setIfInBounds_toArray, List.set_cons_zero, List.set_cons_succ]
  refine wl_read (v := ?_) (some 45) rfl (by rfl) ?_ ?_
  rotate_left
  · go_simp; (try with_reducible rfl)
  simp only [Act.put, List.setIfInBounds_toArray, List.set_cons_zero, List.set_cons_succ]
  refine wl_read (v := ?_) (some 46) rfl (by rfl) ?_ ?_
  rotate_left
  · go_simp; (try with_reducible rfl)
  simp only [Act.put, List.setIfInBounds_toArray, List.set_cons_zero, List.set_cons_succ]
  refine wl_read (v := ?_) (some 47) rfl (by rfl) ?_ ?_
  rotate_left
  · go_simp; (try with_reducible rfl)
  simp only [Act.put, List.setIfInBounds_toArray, List.set_cons_zero, List.set_cons_succ]
  refine wl_read (v := ?_) (some 48) rfl (by rfl) ?_ ?_
  rotate_left
  · go_simp; (try with_reducible rfl)
  simp only [Act.put, List.setIfInBounds_toArray, List.set_cons_zero, List.set_cons_succ]
  refine wl_read (v := ?_) (some 49) rfl (by rfl) ?_ ?_
  rotate_left
  · go_simp; (try with_reducible rfl)
  simp only [Act.put, List.setIfInBounds_toArray, List.set_cons_zero, List.set_cons_succ]
  refine wl_skip (some 50) rfl (by rfl) ?_
  simp only [Act.put, List.setIfInBounds_toArray, List.set_cons_zero, List.set_cons_succ]
  refine wl_skip (some 51) rfl (by rfl) ?_
  simp only [Act.put, List.setIfInBounds_toArray, List.set_cons_zero, List.set_cons_succ]
  refine wl_read (v := ?_) (some 52) rfl (by rfl) ?_ ?_
  rotate_left
  · go_simp; (try with_reducible rfl)
  simp only [Act.put, List.setIfInBounds_toArray, List.set_cons_zero, List.set_cons_succ]
  refine wl_read (v := ?_) (some 53) rfl (by rfl) ?_ ?_
  rotate_left
  · go_simp; (try with_reducible rfl)
  simp only [Act.put, List.setIfInBounds_toArray, List.set_cons_zero, List.set_cons_succ]
  refine wl_read (v := ?_) (some 54) rfl (by rfl) ?_ ?_
  rotate_left
  · go_simp; (try with_reducible rfl)
  simp only [Act.put, List.setIfInBounds_toArray, List.set_cons_zero, List.set_cons_succ]
  refine wl_load (some 55) rfl (by rfl) 29 (.tmp 6) rfl (g4) rfl 29 (opCells (kindO 2 a b)) _ O_10.out Try.underlying29 rfl (by kernel_rfl) ?_
  simp only [Act.put, List.setIfInBounds_toArray, List.set_cons_zero, List.set_cons_succ]
  refine wl_buildSlice (some 56) rfl (by rfl) 30 29 1 #[(0, .tmp 55)] rfl Try.underlying30 (opCells (kindO 2 a b)).toArray (by kernel_rfl) ?_
  simp only [Act.put, List.setIfInBounds_toArray, List.set_cons_zero, List.set_cons_succ]
  have X_11 := Lib.hid ((X_10.out.al (.cells ((opCells (kindO 2 a b)).toArray) 29)))
  have O_11 := Lib.hid ((O_10.out.al (.cells ((opCells (kindO 2 a b)).toArray) 29)))
  have S_11 := Lib.hid ((show Whole (w9.alloc (.cells ((opCells (kindO 2 a b)).toArray) 29)) (w9.heap.size) (29) (opCells (kindO 2 a b)) from Whole.new2 (by first | rfl | simp)))
  have Bel_11 := Lib.hid (bel_al Bel_10.out (.cells ((opCells (kindO 2 a b)).toArray) 29))
  obtain ⟨v11, gv11⟩ : ∃ x, (w9.alloc (.cells ((opCells (kindO 2 a b)).toArray) 29)) = x := ⟨_, rfl⟩
  rw [gv11] at X_11 O_11 S_11 Bel_11 ⊢
  clear gv11
  obtain ⟨g12, gg12⟩ : ∃ x, w9.heap.size = x := ⟨_, rfl⟩
  rw [gg12] at S_11 ⊢
  clear gg12
  go_wp2_with fail
  refine (HE.out (some ⟨g12, 0, none⟩) 1 _ (show RdS _ _ 20 _ 1 1 (rowsV opCells [kindO 2 a b]) from RdS.of_whole S_11.out rfl)).mono ?_
  rintro e w13 ⟨rfl, hb13⟩
  have X_14 := Lib.hid (X_11.out.bl hb13)
  have O_14 := Lib.hid (O_11.out.bl hb13)
  have S_14 := Lib.hid (S_11.out.bl hb13)
  have Bel_14 := Lib.hid (bel_bl Bel_11.out hb13)
  clear hb13
  go_wp2
  go_ret
  exact ⟨rfl, Bel_14.out⟩

set_option maxRecDepth 100000 in
set_option maxHeartbeats 4000000 in
theorem kd_2n (a b : Int) (hm : mayI a b = false) (w : World) : Calls Try.prog 8 #[.int .i64 2, .agg #[.int .i64 a, .int .i64 b]] w fun e w' => e = .returned (.bool true) ∧ Below w.heap.size w w' := by
  have hv : mayO (kindO 2 a b) = 1 := by rw [kindO_may]; rw [if_neg (fun h => by rw [hm] at h; cases h.1)]
  have h1 := mayop_any (kindO 2 a b)
  rw [hv] at h1
  have H1 := Lib.hid h1
  have hE := fun A c W h => mayedit_any A 1 c [kindO 2 a b] W h (by decide)
  rw [show mayE [kindO 2 a b] = 1 by simp [mayE, mayEs, hv]] at hE
  have HE := Lib.hid hE
  have h2 := rmay_any a b
  rw [hm] at h2
  have H2 := Lib.hid h2
  clear h1 h2 hv hm hE
  go_enter Try.func8, Try.ntmps8
  go_wp2_with fail
  refine (shown9 _).mono ?_
  rintro e w1 ⟨rfl, hb1⟩
  have X_2 := Lib.hid ((show Whole (w.alloc (.cells #[.int .i64 a, .int .i64 b] 23)) (w.heap.size) (23) ([.int .i64 a, .int .i64 b]) from Whole.new2 (by first | rfl | simp)).bl hb1)
  have Bel_2 := Lib.hid (bel_bl (bel_al (Below.refl _ w) (.cells #[.int .i64 a, .int .i64 b] 23)) hb1)
  clear hb1
  go_upto_region 2 with fail
  refine wp_region_lit ?_
  refine wl_read (v := ?_) (some 11) rfl (by rfl) ?_ ?_
  rotate_left
  · go_simp; (try with_reducible rfl)
  simp only [Act.put, List.setIfInBounds_toArray, List.set_cons_zero, List.set_cons_succ]
  refine wl_load (some 12) rfl (by rfl) 23 (.tmp 3) rfl (w.heap.size) rfl 23 ([.int .i64 a, .int .i64 b]) _ X_2.out Try.underlying23 rfl (by kernel_rfl) ?_
  simp only [Act.put, List.setIfInBounds_toArray, List.set_cons_zero, List.set_cons_succ]
  refine wl_read (v := ?_) (some 13) rfl (by rfl) ?_ ?_
  rotate_left
  · go_simp; (try with_reducible rfl)
  simp only [Act.put, List.setIfInBounds_toArray, List.set_cons_zero, List.set_cons_succ]
  refine wl_new 6 rfl rfl rfl 29 (.tmp 13) rfl rfl #[.int .i64 0, .int .i64 0, .int .i64 0, .int .i64 0, .int .i64 0, .int .i64 0, .int .i64 0, .int .i64 0, .int .i64 0, .int .i64 0, .int .i64 0, .int .i64 0, .int .i64 0, .int .i64 0, .int .i64 0, .int .i64 0, .int .i64 0, .bool false, .string ⟨#[]⟩, .int .i64 0] ?_ ((opCells (kindO 2 a b)).toArray) (by simp) rfl (by kernel_rfl) rfl (opCells_all _) ?_
  · go_simp; (try with_reducible rfl)
  simp only [Act.put, List.setIfInBounds_toArray, List.set_cons_zero, List.set_cons_succ]
  have X_3 := Lib.hid ((X_2.out.al (.cells ((opCells (kindO 2 a b)).toArray) 29)))
  have O_3 := Lib.hid ((show Whole (w1.alloc (.cells ((opCells (kindO 2 a b)).toArray) 29)) (w1.heap.size) (29) (opCells (kindO 2 a b)) from Whole.new2 (by first | rfl | simp)))
  have Bel_3 := Lib.hid (bel_al Bel_2.out (.cells ((opCells (kindO 2 a b)).toArray) 29))
  obtain ⟨v3, gv3⟩ : ∃ x, (w1.alloc (.cells ((opCells (kindO 2 a b)).toArray) 29)) = x := ⟨_, rfl⟩
  rw [gv3] at X_3 O_3 Bel_3 ⊢
  clear gv3
  obtain ⟨g4, gg4⟩ : ∃ x, w1.heap.size = x := ⟨_, rfl⟩
  rw [gg4] at O_3 ⊢
  clear gg4
  have lw5 : (v3).cell? ⟨w.heap.size, 0, none⟩ = some (.int .i64 a) := X_3.out.cell (i := 0) rfl
  have lw6 : (v3).cell? ⟨w.heap.size, 1, none⟩ = some (.int .i64 b) := X_3.out.cell (i := 1) rfl
  go_wp2_with fail
  clear lw5 lw6
  refine (H2.out _).mono ?_
  rintro e w7 ⟨rfl, hb7⟩
  have X_8 := Lib.hid (X_3.out.bl hb7)
  have O_8 := Lib.hid (O_3.out.bl hb7)
  have Bel_8 := Lib.hid (bel_bl Bel_3.out hb7)
  clear hb7
  go_upto_region 5 with fail
  refine wp_region_lit ?_
  refine wl_load (some 34) rfl (by rfl) 29 (.tmp 6) rfl (g4) rfl 29 (opCells (kindO 2 a b)) _ O_8.out Try.underlying29 rfl (by kernel_rfl) ?_
  simp only [Act.put, List.setIfInBounds_toArray, List.set_cons_zero, List.set_cons_succ]
  go_wp2_with fail
  refine (H1.out _).mono ?_
  rintro e w9 ⟨rfl, hb9⟩
  have X_10 := Lib.hid (X_8.out.bl hb9)
  have O_10 := Lib.hid (O_8.out.bl hb9)
  have Bel_10 := Lib.hid (bel_bl Bel_8.out hb9)
  clear hb9
  go_upto_region 6 with fail
  refine wp_region_lit ?_
  refine wl_read (v := ?_) (some 36) rfl (by rfl) ?_ ?_
  rotate_left
  · go_simp; (try with_reducible rfl)
  simp only [Act.put, List.setIfInBounds_toArray, List.set_cons_zero, List.set_cons_succ]
  refine wl_read (v := ?_) (some 37) rfl (by rfl) ?_ ?_
  rotate_left
  · go_simp; (try with_reducible rfl)
  simp only [Act.put, List.setIfInBounds_toArray, List.set_cons_zero, List.set_cons_succ]
  refine wl_read (v := ?_) (some 38) rfl (by rfl) ?_ ?_
  rotate_left
  · go_simp; (try with_reducible rfl)
  simp only [Act.put, List.setIfInBounds_toArray, List.set_cons_zero, List.set_cons_succ]
  refine wl_read (v := ?_) (some 39) rfl (by rfl) ?_ ?_
  rotate_left
  · go_simp; (try with_reducible rfl)
  simp only [Act.put, List.setIfInBounds_toArray, List.set_cons_zero, List.set_cons_succ]
  refine wl_read (v := ?_) (some 40) rfl (by rfl) ?_ ?_
  rotate_left
  · go_simp; (try with_reducible rfl)
  simp only [Act.put, List.setIfInBounds_toArray, List.set_cons_zero, List.set_cons_succ]
  refine wl_read (v := ?_) (some 41) rfl (by rfl) ?_ ?_
  rotate_left
  · go_simp; (try with_reducible rfl)
  simp only [Act.put, List.setIfInBounds_toArray, List.set_cons_zero, List.set_cons_succ]
  refine wl_read (v := ?_) (some 42) rfl (by rfl) ?_ ?_
  rotate_left
  · go_simp; (try with_reducible rfl)
  simp only [Act.put, List.setIfInBounds_toArray, List.set_cons_zero, List.set_cons_succ]
  refine wl_read (v := ?_) (some 43) rfl (by rfl) ?_ ?_
  rotate_left
  · go_simp; (try with_reducible rfl)
  simp only [Act.put, List.setIfInBounds_toArray, List.set_cons_zero, List.set_cons_succ]
  refine wl_read (v := ?_) (some 44) rfl (by rfl) ?_ ?_
  rotate_left
  · go_simp; (try with_reducible rfl)
  simp only [Act.put, List.setIfInBounds_toArray, List.set_cons_zero, List.set_cons_succ]
  refine wl_read (v := ?_) (some 45) rfl (by rfl) ?_ ?_
  rotate_left
  · go_simp; (try with_reducible rfl)
  simp only [Act.put, List.setIfInBounds_toArray, List.set_cons_zero, List.set_cons_succ]
  refine wl_read (v := ?_) (some 46) rfl (by rfl) ?_ ?_
  rotate_left
  · go_simp; (try with_reducible rfl)
  simp only [Act.put, List.setIfInBounds_toArray, List.set_cons_zero, List.set_cons_succ]
  refine wl_read (v := ?_) (some 47) rfl (by rfl) ?_ ?_
  rotate_left
  · go_simp; (try with_reducible rfl)
  simp only [Act.put, List.setIfInBounds_toArray, List.set_cons_zero, List.set_cons_succ]
  refine wl_read (v := ?_) (some 48) rfl (by rfl) ?_ ?_
  rotate_left
  · go_simp; (try with_reducible rfl)
  simp only [Act.put, List.setIfInBounds_toArray, List.set_cons_zero, List.set_cons_succ]
  refine wl_read (v := ?_) (some 49) rfl (by rfl) ?_ ?_
  rotate_left
  · go_simp; (try with_reducible rfl)
  simp only [Act.put, List.setIfInBounds_toArray, List.set_cons_zero, List.set_cons_succ]
  refine wl_read (v := ?_) (some 50) rfl (by rfl) ?_ ?_
  rotate_left
  · go_simp; (try with_reducible rfl)
  simp only [Act.put, List.setIfInBounds_toArray, List.set_cons_zero, List.set_cons_succ]
  refine wl_read (v := ?_) (some 51) rfl (by rfl) ?_ ?_
  rotate_left
  · go_simp; (try with_reducible rfl)
  simp only [Act.put, List.setIfInBounds_toArray, List.set_cons_zero, List.set_cons_succ]
  refine wl_read (v := ?_) (some 52) rfl (by rfl) ?_ ?_
  rotate_left
  · go_simp; (try with_reducible rfl)
  simp only [Act.put, List.setIfInBounds_toArray, List.set_cons_zero, List.set_cons_succ]
  refine wl_read (v := ?_) (some 53) rfl (by rfl) ?_ ?_
  rotate_left
  · go_simp; (try with_reducible rfl)
  simp only [Act.put, List.setIfInBounds_toArray, List.set_cons_zero, List.set_cons_succ]
  refine wl_read (v := ?_) (some 54) rfl (by rfl) ?_ ?_
  rotate_left
  · go_simp; (try with_reducible rfl)
  simp only [Act.put, List.setIfInBounds_toArray, List.set_cons_zero, List.set_cons_succ]
  refine wl_load (some 55) rfl (by rfl) 29 (.tmp 6) rfl (g4) rfl 29 (opCells (kindO 2 a b)) _ O_10.out Try.underlying29 rfl (by kernel_rfl) ?_
  simp only [Act.put, List.setIfInBounds_toArray, List.set_cons_zero, List.set_cons_succ]
  refine wl_buildSlice (some 56) rfl (by rfl) 30 29 1 #[(0, .tmp 55)] rfl Try.underlying30 (opCells (kindO 2 a b)).toArray (by kernel_rfl) ?_
  simp only [Act.put, List.setIfInBounds_toArray, List.set_cons_zero, List.set_cons_succ]
  have X_11 := Lib.hid ((X_10.out.al (.cells ((opCells (kindO 2 a b)).toArray) 29)))
  have O_11 := Lib.hid ((O_10.out.al (.cells ((opCells (kindO 2 a b)).toArray) 29)))
  have S_11 := Lib.hid ((show Whole (w9.alloc (.cells ((opCells (kindO 2 a b)).toArray) 29)) (w9.heap.size) (29) (opCells (kindO 2 a b)) from Whole.new2 (by first | rfl | simp)))
  have Bel_11 := Lib.hid (bel_al Bel_10.out (.cells ((opCells (kindO 2 a b)).toArray) 29))
  obtain ⟨v11, gv11⟩ : ∃ x, (w9.alloc (.cells ((opCells (kindO 2 a b)).toArray) 29)) = x := ⟨_, rfl⟩
  rw [gv11] at X_11 O_11 S_11 Bel_11 ⊢
  clear gv11
  obtain ⟨g12, gg12⟩ : ∃ x, w9.heap.size = x := ⟨_, rfl⟩
  rw [gg12] at S_11 ⊢
  clear gg12
  go_wp2_with fail
  refine (HE.out (some ⟨g12, 0, none⟩) 1 _ (show RdS _ _ 20 _ 1 1 (rowsV opCells [kindO 2 a b]) from RdS.of_whole S_11.out rfl)).mono ?_
  rintro e w13 ⟨rfl, hb13⟩
  have X_14 := Lib.hid (X_11.out.bl hb13)
  have O_14 := Lib.hid (O_11.out.bl hb13)
  have S_14 := Lib.hid (S_11.out.bl hb13)
  have Bel_14 := Lib.hid (bel_bl Bel_11.out hb13)
  clear hb13
  go_wp2
  go_ret
  exact ⟨rfl, Bel_14.out⟩

set_option maxRecDepth 100000 in
set_option maxHeartbeats 4000000 in
theorem kd_4y (a b : Int) (hm : mayI a b = true) (w : World) : Calls Try.prog 8 #[.int .i64 4, .agg #[.int .i64 a, .int .i64 b]] w fun e w' => e = .returned (.bool true) ∧ Below w.heap.size w w' := by
  have hv : mayO (kindO 4 a b) = 0 := by rw [kindO_may]; rw [if_pos ⟨hm, by decide⟩]
  have h1 := mayop_any (kindO 4 a b)
  rw [hv] at h1
  have H1 := Lib.hid h1
  have hE := fun A c W h => mayedit_any A 1 c [kindO 4 a b] W h (by decide)
  rw [show mayE [kindO 4 a b] = 0 by simp [mayE, mayEs, hv]] at hE
  have HE := Lib.hid hE
  have h2 := rmay_any a b
  rw [hm] at h2
  have H2 := Lib.hid h2
  clear h1 h2 hv hm hE
  go_enter Try.func8, Try.ntmps8
  go_wp2_with fail
  refine (shown9 _).mono ?_
  rintro e w1 ⟨rfl, hb1⟩
  have X_2 := Lib.hid ((show Whole (w.alloc (.cells #[.int .i64 a, .int .i64 b] 23)) (w.heap.size) (23) ([.int .i64 a, .int .i64 b]) from Whole.new2 (by first | rfl | simp)).bl hb1)
  have Bel_2 := Lib.hid (bel_bl (bel_al (Below.refl _ w) (.cells #[.int .i64 a, .int .i64 b] 23)) hb1)
  clear hb1
  go_upto_region 2 with fail
  refine wp_region_lit ?_
  refine wl_read (v := ?_) (some 11) rfl (by rfl) ?_ ?_
  rotate_left
  · go_simp; (try with_reducible rfl)
  simp only [Act.put, List.setIfInBounds_toArray, List.set_cons_zero, List.set_cons_succ]
  refine wl_load (some 12) rfl (by rfl) 23 (.tmp 3) rfl (w.heap.size) rfl 23 ([.int .i64 a, .int .i64 b]) _ X_2.out Try.underlying23 rfl (by kernel_rfl) ?_
  simp only [Act.put, List.setIfInBounds_toArray, List.set_cons_zero, List.set_cons_succ]
  refine wl_read (v := ?_) (some 13) rfl (by rfl) ?_ ?_
  rotate_left
  · go_simp; (try with_reducible rfl)
  simp only [Act.put, List.setIfInBounds_toArray, List.set_cons_zero, List.set_cons_succ]
  refine wl_new 6 rfl rfl rfl 29 (.tmp 13) rfl rfl #[.int .i64 0, .int .i64 0, .int .i64 0, .int .i64 0, .int .i64 0, .int .i64 0, .int .i64 0, .int .i64 0, .int .i64 0, .int .i64 0, .int .i64 0, .int .i64 0, .int .i64 0, .int .i64 0, .int .i64 0, .int .i64 0, .int .i64 0, .bool false, .string ⟨#[]⟩, .int .i64 0] ?_ ((opCells (kindO 4 a b)).toArray) (by simp) rfl (by kernel_rfl) rfl (opCells_all _) ?_
  · go_simp; (try with_reducible rfl)
  simp only [Act.put, List.setIfInBounds_toArray, List.set_cons_zero, List.set_cons_succ]
  have X_3 := Lib.hid ((X_2.out.al (.cells ((opCells (kindO 4 a b)).toArray) 29)))
  have O_3 := Lib.hid ((show Whole (w1.alloc (.cells ((opCells (kindO 4 a b)).toArray) 29)) (w1.heap.size) (29) (opCells (kindO 4 a b)) from Whole.new2 (by first | rfl | simp)))
  have Bel_3 := Lib.hid (bel_al Bel_2.out (.cells ((opCells (kindO 4 a b)).toArray) 29))
  obtain ⟨v3, gv3⟩ : ∃ x, (w1.alloc (.cells ((opCells (kindO 4 a b)).toArray) 29)) = x := ⟨_, rfl⟩
  rw [gv3] at X_3 O_3 Bel_3 ⊢
  clear gv3
  obtain ⟨g4, gg4⟩ : ∃ x, w1.heap.size = x := ⟨_, rfl⟩
  rw [gg4] at O_3 ⊢
  clear gg4
  have lw5 : (v3).cell? ⟨w.heap.size, 0, none⟩ = some (.int .i64 a) := X_3.out.cell (i := 0) rfl
  have lw6 : (v3).cell? ⟨w.heap.size, 1, none⟩ = some (.int .i64 b) := X_3.out.cell (i := 1) rfl
  go_wp2_with fail
  clear lw5 lw6
  refine (H2.out _).mono ?_
  rintro e w7 ⟨rfl, hb7⟩
  have X_8 := Lib.hid (X_3.out.bl hb7)
  have O_8 := Lib.hid (O_3.out.bl hb7)
  have Bel_8 := Lib.hid (bel_bl Bel_3.out hb7)
  clear hb7
  go_upto_region 5 with fail
  refine wp_region_lit ?_
  refine wl_load (some 34) rfl (by rfl) 29 (.tmp 6) rfl (g4) rfl 29 (opCells (kindO 4 a b)) _ O_8.out Try.underlying29 rfl (by kernel_rfl) ?_
  simp only [Act.put, List.setIfInBounds_toArray, List.set_cons_zero, List.set_cons_succ]
  go_wp2_with fail
  refine (H1.out _).mono ?_
  rintro e w9 ⟨rfl, hb9⟩
  have X_10 := Lib.hid (X_8.out.bl hb9)
  have O_10 := Lib.hid (O_8.out.bl hb9)
  have Bel_10 := Lib.hid (bel_bl Bel_8.out hb9)
  clear hb9
  go_upto_region 6 with fail
  refine wp_region_lit ?_
  refine wl_read (v := ?_) (some 36) rfl (by rfl) ?_ ?_
  rotate_left
  · go_simp; (try with_reducible rfl)
  simp only [Act.put, List.setIfInBounds_toArray, List.set_cons_zero, List.set_cons_succ]
  refine wl_read (v := ?_) (some 37) rfl (by rfl) ?_ ?_
  rotate_left
  · go_simp; (try with_reducible rfl)
  simp only [Act.put, List.setIfInBounds_toArray, List.set_cons_zero, List.set_cons_succ]
  refine wl_read (v := ?_) (some 38) rfl (by rfl) ?_ ?_
  rotate_left
  · go_simp; (try with_reducible rfl)
  simp only [Act.put, List.setIfInBounds_toArray, List.set_cons_zero, List.set_cons_succ]
  refine wl_read (v := ?_) (some 39) rfl (by rfl) ?_ ?_
  rotate_left
  · go_simp; (try with_reducible rfl)
  simp only [Act.put, List.setIfInBounds_toArray, List.set_cons_zero, List.set_cons_succ]
  refine wl_read (v := ?_) (some 40) rfl (by rfl) ?_ ?_
  rotate_left
  · go_simp; (try with_reducible rfl)
  simp only [Act.put, List.setIfInBounds_toArray, List.set_cons_zero, List.set_cons_succ]
  refine wl_read (v := ?_) (some 41) rfl (by rfl) ?_ ?_
  rotate_left
  · go_simp; (try with_reducible rfl)
  simp only [Act.put, List.setIfInBounds_toArray, List.set_cons_zero, List.set_cons_succ]
  refine wl_read (v := ?_) (some 42) rfl (by rfl) ?_ ?_
  rotate_left
  · go_simp; (try with_reducible rfl)
  simp only [Act.put, List.setIfInBounds_toArray, List.set_cons_zero, List.set_cons_succ]
  refine wl_read (v := ?_) (some 43) rfl (by rfl) ?_ ?_
  rotate_left
  · go_simp; (try with_reducible rfl)
  simp only [Act.put, List.setIfInBounds_toArray, List.set_cons_zero, List.set_cons_succ]
  refine wl_read (v := ?_) (some 44) rfl (by rfl) ?_ ?_
  rotate_left
  · go_simp; (try with_reducible rfl)
  simp only [Act.put, List.setIfInBounds_toArray, List.set_cons_zero, List.set_cons_succ]
  refine wl_read (v := ?_) (some 45) rfl (by rfl) ?_ ?_
  rotate_left
  · go_simp; (try with_reducible rfl)
  simp only [Act.put, List.setIfInBounds_toArray, List.set_cons_zero, List.set_cons_succ]
  refine wl_read (v := ?_) (some 46) rfl (by rfl) ?_ ?_
  rotate_left
  · go_simp; (try with_reducible rfl)
  simp only [Act.put, List.setIfInBounds_toArray, List.set_cons_zero, List.set_cons_succ]
  refine wl_read (v := ?_) (some 47) rfl (by rfl) ?_ ?_
  rotate_left
  · go_simp; (try with_reducible rfl)
  simp only [Act.put, List.setIfInBounds_toArray, List.set_cons_zero, List.set_cons_succ]
  refine wl_read (v := ?_) (some 48) rfl (by rfl) ?_ ?_
  rotate_left
  · go_simp; (try with_reducible rfl)
  simp only [Act.put, List.setIfInBounds_toArray, List.set_cons_zero, List.set_cons_succ]
  refine wl_read (v := ?_) (some 49) rfl (by rfl) ?_ ?_
  rotate_left
  · go_simp; (try with_reducible rfl)
  simp only [Act.put, List.setIfInBounds_toArray, List.set_cons_zero, List.set_cons_succ]
  refine wl_skip (some 50) rfl (by rfl) ?_
  simp only [Act.put, List.setIfInBounds_toArray, List.set_cons_zero, List.set_cons_succ]
  refine wl_skip (some 51) rfl (by rfl) ?_
  simp only [Act.put, List.setIfInBounds_toArray, List.set_cons_zero, List.set_cons_succ]
  refine wl_read (v := ?_) (some 52) rfl (by rfl) ?_ ?_
  rotate_left
  · go_simp; (try with_reducible rfl)
  simp only [Act.put, List.setIfInBounds_toArray, List.set_cons_zero, List.set_cons_succ]
  refine wl_read (v := ?_) (some 53) rfl (by rfl) ?_ ?_
  rotate_left
  · go_simp; (try with_reducible rfl)
  simp only [Act.put, List.setIfInBounds_toArray, List.set_cons_zero, List.set_cons_succ]
  refine wl_read (v := ?_) (some 54) rfl (by rfl) ?_ ?_
  rotate_left
  · go_simp; (try with_reducible rfl)
  simp only [Act.put, List.setIfInBounds_toArray, List.set_cons_zero, List.set_cons_succ]
  refine wl_load (some 55) rfl (by rfl) 29 (.tmp 6) rfl (g4) rfl 29 (opCells (kindO 4 a b)) _ O_10.out Try.underlying29 rfl (by kernel_rfl) ?_
  simp only [Act.put, List.setIfInBounds_toArray, List.set_cons_zero, List.set_cons_succ]
  refine wl_buildSlice (some 56) rfl (by rfl) 30 29 1 #[(0, .tmp 55)] rfl Try.underlying30 (opCells (kindO 4 a b)).toArray (by kernel_rfl) ?_
  simp only [Act.put, List.setIfInBounds_toArray, List.set_cons_zero, List.set_cons_succ]
  have X_11 := Lib.hid ((X_10.out.al (.cells ((opCells (kindO 4 a b)).toArray) 29)))
  have O_11 := Lib.hid ((O_10.out.al (.cells ((opCells (kindO 4 a b)).toArray) 29)))
  have S_11 := Lib.hid ((show Whole (w9.alloc (.cells ((opCells (kindO 4 a b)).toArray) 29)) (w9.heap.size) (29) (opCells (kindO 4 a b)) from Whole.new2 (by first | rfl | simp)))
  have Bel_11 := Lib.hid (bel_al Bel_10.out (.cells ((opCells (kindO 4 a b)).toArray) 29))
  obtain ⟨v11, gv11⟩ : ∃ x, (w9.alloc (.cells ((opCells (kindO 4 a b)).toArray) 29)) = x := ⟨_, rfl⟩
  rw [gv11] at X_11 O_11 S_11 Bel_11 ⊢
  clear gv11
  obtain ⟨g12, gg12⟩ : ∃ x, w9.heap.size = x := ⟨_, rfl⟩
  rw [gg12] at S_11 ⊢
  clear gg12
  go_wp2_with fail
  refine (HE.out (some ⟨g12, 0, none⟩) 1 _ (show RdS _ _ 20 _ 1 1 (rowsV opCells [kindO 4 a b]) from RdS.of_whole S_11.out rfl)).mono ?_
  rintro e w13 ⟨rfl, hb13⟩
  have X_14 := Lib.hid (X_11.out.bl hb13)
  have O_14 := Lib.hid (O_11.out.bl hb13)
  have S_14 := Lib.hid (S_11.out.bl hb13)
  have Bel_14 := Lib.hid (bel_bl Bel_11.out hb13)
  clear hb13
  go_wp2
  go_ret
  exact ⟨rfl, Bel_14.out⟩

set_option maxRecDepth 100000 in
set_option maxHeartbeats 4000000 in
theorem kd_4n (a b : Int) (hm : mayI a b = false) (w : World) : Calls Try.prog 8 #[.int .i64 4, .agg #[.int .i64 a, .int .i64 b]] w fun e w' => e = .returned (.bool true) ∧ Below w.heap.size w w' := by
  have hv : mayO (kindO 4 a b) = 1 := by rw [kindO_may]; rw [if_neg (fun h => by rw [hm] at h; cases h.1)]
  have h1 := mayop_any (kindO 4 a b)
  rw [hv] at h1
  have H1 := Lib.hid h1
  have hE := fun A c W h => mayedit_any A 1 c [kindO 4 a b] W h (by decide)
  rw [show mayE [kindO 4 a b] = 1 by simp [mayE, mayEs, hv]] at hE
  have HE := Lib.hid hE
  have h2 := rmay_any a b
  rw [hm] at h2
  have H2 := Lib.hid h2
  clear h1 h2 hv hm hE
  go_enter Try.func8, Try.ntmps8
  go_wp2_with fail
  refine (shown9 _).mono ?_
  rintro e w1 ⟨rfl, hb1⟩
  have X_2 := Lib.hid ((show Whole (w.alloc (.cells #[.int .i64 a, .int .i64 b] 23)) (w.heap.size) (23) ([.int .i64 a, .int .i64 b]) from Whole.new2 (by first | rfl | simp)).bl hb1)
  have Bel_2 := Lib.hid (bel_bl (bel_al (Below.refl _ w) (.cells #[.int .i64 a, .int .i64 b] 23)) hb1)
  clear hb1
  go_upto_region 2 with fail
  refine wp_region_lit ?_
  refine wl_read (v := ?_) (some 11) rfl (by rfl) ?_ ?_
  rotate_left
  · go_simp; (try with_reducible rfl)
  simp only [Act.put, List.setIfInBounds_toArray, List.set_cons_zero, List.set_cons_succ]
  refine wl_load (some 12) rfl (by rfl) 23 (.tmp 3) rfl (w.heap.size) rfl 23 ([.int .i64 a, .int .i64 b]) _ X_2.out Try.underlying23 rfl (by kernel_rfl) ?_
  simp only [Act.put, List.setIfInBounds_toArray, List.set_cons_zero, List.set_cons_succ]
  refine wl_read (v := ?_) (some 13) rfl (by rfl) ?_ ?_
  rotate_left
  · go_simp; (try with_reducible rfl)
  simp only [Act.put, List.setIfInBounds_toArray, List.set_cons_zero, List.set_cons_succ]
  refine wl_new 6 rfl rfl rfl 29 (.tmp 13) rfl rfl #[.int .i64 0, .int .i64 0, .int .i64 0, .int .i64 0, .int .i64 0, .int .i64 0, .int .i64 0, .int .i64 0, .int .i64 0, .int .i64 0, .int .i64 0, .int .i64 0, .int .i64 0, .int .i64 0, .int .i64 0, .int .i64 0, .int .i64 0, .bool false, .string ⟨#[]⟩, .int .i64 0] ?_ ((opCells (kindO 4 a b)).toArray) (by simp) rfl (by kernel_rfl) rfl (opCells_all _) ?_
  · go_simp; (try with_reducible rfl)
  simp only [Act.put, List.setIfInBounds_toArray, List.set_cons_zero, List.set_cons_succ]
  have X_3 := Lib.hid ((X_2.out.al (.cells ((opCells (kindO 4 a b)).toArray) 29)))
  have O_3 := Lib.hid ((show Whole (w1.alloc (.cells ((opCells (kindO 4 a b)).toArray) 29)) (w1.heap.size) (29) (opCells (kindO 4 a b)) from Whole.new2 (by first | rfl | simp)))
  have Bel_3 := Lib.hid (bel_al Bel_2.out (.cells ((opCells (kindO 4 a b)).toArray) 29))
  obtain ⟨v3, gv3⟩ : ∃ x, (w1.alloc (.cells ((opCells (kindO 4 a b)).toArray) 29)) = x := ⟨_, rfl⟩
  rw [gv3] at X_3 O_3 Bel_3 ⊢
  clear gv3
  obtain ⟨g4, gg4⟩ : ∃ x, w1.heap.size = x := ⟨_, rfl⟩
  rw [gg4] at O_3 ⊢
  clear gg4
  have lw5 : (v3).cell? ⟨w.heap.size, 0, none⟩ = some (.int .i64 a) := X_3.out.cell (i := 0) rfl
  have lw6 : (v3).cell? ⟨w.heap.size, 1, none⟩ = some (.int .i64 b) := X_3.out.cell (i := 1) rfl
  go_wp2_with fail
  clear lw5 lw6
  refine (H2.out _).mono ?_
  rintro e w7 ⟨rfl, hb7⟩
  have X_8 := Lib.hid (X_3.out.bl hb7)
  have O_8 := Lib.hid (O_3.out.bl hb7)
  have Bel_8 := Lib.hid (bel_bl Bel_3.out hb7)
  clear hb7
  go_upto_region 5 with fail
  refine wp_region_lit ?_
  refine wl_load (some 34) rfl (by rfl) 29 (.tmp 6) rfl (g4) rfl 29 (opCells (kindO 4 a b)) _ O_8.out Try.underlying29 rfl (by kernel_rfl) ?_
  simp only [Act.put, List.setIfInBounds_toArray, List.set_cons_zero, List.set_cons_succ]
  go_wp2_with fail
  refine (H1.out _).mono ?_
  rintro e w9 ⟨rfl, hb9⟩
  have X_10 := Lib.hid (X_8.out.bl hb9)
  have O_10 := Lib.hid (O_8.out.bl hb9)
  have Bel_10 := Lib.hid (bel_bl Bel_8.out hb9)
  clear hb9
  go_upto_region 6 with fail
  refine wp_region_lit ?_
  refine wl_read (v := ?_) (some 36) rfl (by rfl) ?_ ?_
  rotate_left
  · go_simp; (try with_reducible rfl)
  simp only [Act.put, List.setIfInBounds_toArray, List.set_cons_zero, List.set_cons_succ]
  refine wl_read (v := ?_) (some 37) rfl (by rfl) ?_ ?_
  rotate_left
  · go_simp; (try with_reducible rfl)
  simp only [Act.put, List.setIfInBounds_toArray, List.set_cons_zero, List.set_cons_succ]
  refine wl_read (v := ?_) (some 38) rfl (by rfl) ?_ ?_
  rotate_left
  · go_simp; (try with_reducible rfl)
  simp only [Act.put, List.setIfInBounds_toArray, List.set_cons_zero, List.set_cons_succ]
  refine wl_read (v := ?_) (some 39) rfl (by rfl) ?_ ?_
  rotate_left
  · go_simp; (try with_reducible rfl)
  simp only [Act.put, List.setIfInBounds_toArray, List.set_cons_zero, List.set_cons_succ]
  refine wl_read (v := ?_) (some 40) rfl (by rfl) ?_ ?_
  rotate_left
  · go_simp; (try with_reducible rfl)
  simp only [Act.put, List.setIfInBounds_toArray, List.set_cons_zero, List.set_cons_succ]
  refine wl_read (v := ?_) (some 41) rfl (by rfl) ?_ ?_
  rotate_left
  · go_simp; (try with_reducible rfl)
  simp only [Act.put, List.setIfInBounds_toArray, List.set_cons_zero, List.set_cons_succ]
  refine wl_read (v := ?_) (some 42) rfl (by rfl) ?_ ?_
  rotate_left
  · go_simp; (try with_reducible rfl)
  simp only [Act.put, List.setIfInBounds_toArray, List.set_cons_zero, List.set_cons_succ]
  refine wl_read (v := ?_) (some 43) rfl (by rfl) ?_ ?_
  rotate_left
  · go_simp; (try with_reducible rfl)
  simp only [Act.put, List.setIfInBounds_toArray, List.set_cons_zero, List.set_cons_succ]
  refine wl_read (v := ?_) (some 44) rfl (by rfl) ?_ ?_
  rotate_left
  · go_simp; (try with_reducible rfl)
  simp only [Act.put, List.setIfInBounds_toArray, List.set_cons_zero, List.set_cons_succ]
  refine wl_read (v := ?_) (some 45) rfl (by rfl) ?_ ?_
  rotate_left
  · go_simp; (try with_reducible rfl)
  simp only [Act.put, List.setIfInBounds_toArray, List.set_cons_zero, List.set_cons_succ]
  refine wl_read (v := ?_) (some 46) rfl (by rfl) ?_ ?_
  rotate_left
  · go_simp; (try with_reducible rfl)
  simp only [Act.put, List.setIfInBounds_toArray, List.set_cons_zero, List.set_cons_succ]
  refine wl_read (v := ?_) (some 47) rfl (by rfl) ?_ ?_
  rotate_left
  · go_simp; (try with_reducible rfl)
  simp only [Act.put, List.setIfInBounds_toArray, List.set_cons_zero, List.set_cons_succ]
  refine wl_read (v := ?_) (some 48) rfl (by rfl) ?_ ?_
  rotate_left
  · go_simp; (try with_reducible rfl)
  simp only [Act.put, List.setIfInBounds_toArray, List.set_cons_zero, List.set_cons_succ]
  refine wl_read (v := ?_) (some 49) rfl (by rfl) ?_ ?_
  rotate_left
  · go_simp; (try with_reducible rfl)
  simp only [Act.put, List.setIfInBounds_toArray, List.set_cons_zero, List.set_cons_succ]
  refine wl_read (v := ?_) (some 50) rfl (by rfl) ?_ ?_
  rotate_left
  · go_simp; (try with_reducible rfl)
  simp only [Act.put, List.setIfInBounds_toArray, List.set_cons_zero, List.set_cons_succ]
  refine wl_read (v := ?_) (some 51) rfl (by rfl) ?_ ?_
  rotate_left
  · go_simp; (try with_reducible rfl)
  simp only [Act.put, List.setIfInBounds_toArray, List.set_cons_zero, List.set_cons_succ]
  refine wl_read (v := ?_) (some 52) rfl (by rfl) ?_ ?_
  rotate_left
  · go_simp; (try with_reducible rfl)
  simp only [Act.put, List.setIfInBounds_toArray, List.set_cons_zero, List.set_cons_succ]
  refine wl_read (v := ?_) (some 53) rfl (by rfl) ?_ ?_
  rotate_left
  · go_simp; (try with_reducible rfl)
  simp only [Act.put, List.setIfInBounds_toArray, List.set_cons_zero, List.set_cons_succ]
  refine wl_read (v := ?_) (some 54) rfl (by rfl) ?_ ?_
  rotate_left
  · go_simp; (try with_reducible rfl)
  simp only [Act.put, List.setIfInBounds_toArray, List.set_cons_zero, List.set_cons_succ]
  refine wl_load (some 55) rfl (by rfl) 29 (.tmp 6) rfl (g4) rfl 29 (opCells (kindO 4 a b)) _ O_10.out Try.underlying29 rfl (by kernel_rfl) ?_
  simp only [Act.put, List.setIfInBounds_toArray, List.set_cons_zero, List.set_cons_succ]
  refine wl_buildSlice (some 56) rfl (by rfl) 30 29 1 #[(0, .tmp 55)] rfl Try.underlying30 (opCells (kindO 4 a b)).toArray (by kernel_rfl) ?_
  simp only [Act.put, List.setIfInBounds_toArray, List.set_cons_zero, List.set_cons_succ]
  have X_11 := Lib.hid ((X_10.out.al (.cells ((opCells (kindO 4 a b)).toArray) 29)))
  have O_11 := Lib.hid ((O_10.out.al (.cells ((opCells (kindO 4 a b)).toArray) 29)))
  have S_11 := Lib.hid ((show Whole (w9.alloc (.cells ((opCells (kindO 4 a b)).toArray) 29)) (w9.heap.size) (29) (opCells (kindO 4 a b)) from Whole.new2 (by first | rfl | simp)))
  have Bel_11 := Lib.hid (bel_al Bel_10.out (.cells ((opCells (kindO 4 a b)).toArray) 29))
  obtain ⟨v11, gv11⟩ : ∃ x, (w9.alloc (.cells ((opCells (kindO 4 a b)).toArray) 29)) = x := ⟨_, rfl⟩
  rw [gv11] at X_11 O_11 S_11 Bel_11 ⊢
  clear gv11
  obtain ⟨g12, gg12⟩ : ∃ x, w9.heap.size = x := ⟨_, rfl⟩
  rw [gg12] at S_11 ⊢
  clear gg12
  go_wp2_with fail
  refine (HE.out (some ⟨g12, 0, none⟩) 1 _ (show RdS _ _ 20 _ 1 1 (rowsV opCells [kindO 4 a b]) from RdS.of_whole S_11.out rfl)).mono ?_
  rintro e w13 ⟨rfl, hb13⟩
  have X_14 := Lib.hid (X_11.out.bl hb13)
  have O_14 := Lib.hid (O_11.out.bl hb13)
  have S_14 := Lib.hid (S_11.out.bl hb13)
  have Bel_14 := Lib.hid (bel_bl Bel_11.out hb13)
  clear hb13
  go_wp2
  go_ret
  exact ⟨rfl, Bel_14.out⟩

set_option maxRecDepth 100000 in
set_option maxHeartbeats 4000000 in
theorem kd_7y (a b : Int) (hm : mayI a b = true) (w : World) : Calls Try.prog 8 #[.int .i64 7, .agg #[.int .i64 a, .int .i64 b]] w fun e w' => e = .returned (.bool true) ∧ Below w.heap.size w w' := by
  have hv : mayO (kindO 7 a b) = 0 := by rw [kindO_may]; rw [if_pos ⟨hm, by decide⟩]
  have h1 := mayop_any (kindO 7 a b)
  rw [hv] at h1
  have H1 := Lib.hid h1
  have hE := fun A c W h => mayedit_any A 1 c [kindO 7 a b] W h (by decide)
  rw [show mayE [kindO 7 a b] = 0 by simp [mayE, mayEs, hv]] at hE
  have HE := Lib.hid hE
  have h2 := rmay_any a b
  rw [hm] at h2
  have H2 := Lib.hid h2
  clear h1 h2 hv hm hE
  go_enter Try.func8, Try.ntmps8
  go_wp2_with fail
  refine (shown9 _).mono ?_
  rintro e w1 ⟨rfl, hb1⟩
  have X_2 := Lib.hid ((show Whole (w.alloc (.cells #[.int .i64 a, .int .i64 b] 23)) (w.heap.size) (23) ([.int .i64 a, .int .i64 b]) from Whole.new2 (by first | rfl | simp)).bl hb1)
  have Bel_2 := Lib.hid (bel_bl (bel_al (Below.refl _ w) (.cells #[.int .i64 a, .int .i64 b] 23)) hb1)
  clear hb1
  go_upto_region 2 with fail
  refine wp_region_lit ?_
  refine wl_read (v := ?_) (some 11) rfl (by rfl) ?_ ?_
  rotate_left
  · go_simp; (try with_reducible rfl)
  simp only [Act.put, List.setIfInBounds_toArray, List.set_cons_zero, List.set_cons_succ]
  refine wl_load (some 12) rfl (by rfl) 23 (.tmp 3) rfl (w.heap.size) rfl 23 ([.int .i64 a, .int .i64 b]) _ X_2.out Try.underlying23 rfl (by kernel_rfl) ?_
  simp only [Act.put, List.setIfInBounds_toArray, List.set_cons_zero, List.set_cons_succ]
  refine wl_read (v := ?_) (some 13) rfl (by rfl) ?_ ?_
  rotate_left
  · go_simp; (try with_reducible rfl)
  simp only [Act.put, List.setIfInBounds_toArray, List.set_cons_zero, List.set_cons_succ]
  refine wl_new 6 rfl rfl rfl 29 (.tmp 13) rfl rfl #[.int .i64 0, .int .i64 0, .int .i64 0, .int .i64 0, .int .i64 0, .int .i64 0, .int .i64 0, .int .i64 0, .int .i64 0, .int .i64 0, .int .i64 0, .int .i64 0, .int .i64 0, .int .i64 0, .int .i64 0, .int .i64 0, .int .i64 0, .bool false, .string ⟨#[]⟩, .int .i64 0] ?_ ((opCells (kindO 7 a b)).toArray) (by simp) rfl (by kernel_rfl) rfl (opCells_all _) ?_
  · go_simp; (try with_reducible rfl)
  simp only [Act.put, List.setIfInBounds_toArray, List.set_cons_zero, List.set_cons_succ]
  have X_3 := Lib.hid ((X_2.out.al (.cells ((opCells (kindO 7 a b)).toArray) 29)))
  have O_3 := Lib.hid ((show Whole (w1.alloc (.cells ((opCells (kindO 7 a b)).toArray) 29)) (w1.heap.size) (29) (opCells (kindO 7 a b)) from Whole.new2 (by first | rfl | simp)))
  have Bel_3 := Lib.hid (bel_al Bel_2.out (.cells ((opCells (kindO 7 a b)).toArray) 29))
  obtain ⟨v3, gv3⟩ : ∃ x, (w1.alloc (.cells ((opCells (kindO 7 a b)).toArray) 29)) = x := ⟨_, rfl⟩
  rw [gv3] at X_3 O_3 Bel_3 ⊢
  clear gv3
  obtain ⟨g4, gg4⟩ : ∃ x, w1.heap.size = x := ⟨_, rfl⟩
  rw [gg4] at O_3 ⊢
  clear gg4
  have lw5 : (v3).cell? ⟨w.heap.size, 0, none⟩ = some (.int .i64 a) := X_3.out.cell (i := 0) rfl
  have lw6 : (v3).cell? ⟨w.heap.size, 1, none⟩ = some (.int .i64 b) := X_3.out.cell (i := 1) rfl
  go_wp2_with fail
  clear lw5 lw6
  refine (H2.out _).mono ?_
  rintro e w7 ⟨rfl, hb7⟩
  have X_8 := Lib.hid (X_3.out.bl hb7)
  have O_8 := Lib.hid (O_3.out.bl hb7)
  have Bel_8 := Lib.hid (bel_bl Bel_3.out hb7)
  clear hb7
  go_upto_region 5 with fail
  refine wp_region_lit ?_
  refine wl_load (some 34) rfl (by rfl) 29 (.tmp 6) rfl (g4) rfl 29 (opCells (kindO 7 a b)) _ O_8.out Try.underlying29 rfl (by kernel_rfl) ?_
  simp only [Act.put, List.setIfInBounds_toArray, List.set_cons_zero, List.set_cons_succ]
  go_wp2_with fail
  refine (H1.out _).mono ?_
  rintro e w9 ⟨rfl, hb9⟩
  have X_10 := Lib.hid (X_8.out.bl hb9)
  have O_10 := Lib.hid (O_8.out.bl hb9)
  have Bel_10 := Lib.hid (bel_bl Bel_8.out hb9)
  clear hb9
  go_upto_region 6 with fail
  refine wp_region_lit ?_
  refine wl_read (v := ?_) (some 36) rfl (by rfl) ?_ ?_
  rotate_left
  · go_simp; (try with_reducible rfl)
  simp only [Act.put, List.setIfInBounds_toArray, List.set_cons_zero, List.set_cons_succ]
  refine wl_read (v := ?_) (some 37) rfl (by rfl) ?_ ?_
  rotate_left
  · go_simp; (try with_reducible rfl)
  simp only [Act.put, List.setIfInBounds_toArray, List.set_cons_zero, List.set_cons_succ]
  refine wl_read (v := ?_) (some 38) rfl (by rfl) ?_ ?_
  rotate_left
  · go_simp; (try with_reducible rfl)
  simp only [Act.put, List.setIfInBounds_toArray, List.set_cons_zero, List.set_cons_succ]
  refine wl_read (v := ?_) (some 39) rfl (by rfl) ?_ ?_
  rotate_left
  · go_simp; (try with_reducible rfl)
  simp only [Act.put, List.setIfInBounds_toArray, List.set_cons_zero, List.set_cons_succ]
  refine wl_read (v := ?_) (some 40) rfl (by rfl) ?_ ?_
  rotate_left
  · go_simp; (try with_reducible rfl)
  simp only [Act.put, List.setIfInBounds_toArray, List.set_cons_zero, List.set_cons_succ]
  refine wl_read (v := ?_) (some 41) rfl (by rfl) ?_ ?_
  rotate_left
  · go_simp; (try with_reducible rfl)
  simp only [Act.put, List.setIfInBounds_toArray, List.set_cons_zero, List.set_cons_succ]
  refine wl_read (v := ?_) (some 42) rfl (by rfl) ?_ ?_
  rotate_left
  · go_simp; (try with_reducible rfl)
  simp only [Act.put, List.setIfInBounds_toArray, List.set_cons_zero, List.set_cons_succ]
  refine wl_read (v := ?_) (some 43) rfl (by rfl) ?_ ?_
  rotate_left
  · go_simp; (try with_reducible rfl)
  simp only [Act.put, List.setIfInBounds_toArray, List.set_cons_zero, List.set_cons_succ]
  refine wl_read (v := ?_) (some 44) rfl (by rfl) ?_ ?_
  rotate_left
  · go_simp; (try with_reducible rfl)
  simp only [Act.put, List.setIfInBounds_toArray, List.set_cons_zero, List.set_cons_succ]
  refine wl_read (v := ?_) (some 45) rfl (by rfl) ?_ ?_
  rotate_left
  · go_simp; (try with_reducible rfl)
  simp only [Act.put, List.setIfInBounds_toArray, List.set_cons_zero, List.set_cons_succ]
  refine wl_read (v := ?_) (some 46) rfl (by rfl) ?_ ?_
  rotate_left
  · go_simp; (try with_reducible rfl)
  simp only [Act.put, List.setIfInBounds_toArray, List.set_cons_zero, List.set_cons_succ]
  refine wl_read (v := ?_) (some 47) rfl (by rfl) ?_ ?_
  rotate_left
  · go_simp; (try with_reducible rfl)
  simp only [Act.put, List.setIfInBounds_toArray, List.set_cons_zero, List.set_cons_succ]
  refine wl_read (v := ?_) (some 48) rfl (by rfl) ?_ ?_
  rotate_left
  · go_simp; (try with_reducible rfl)
  simp only [Act.put, List.setIfInBounds_toArray, List.set_cons_zero, List.set_cons_succ]
  refine wl_read (v := ?_) (some 49) rfl (by rfl) ?_ ?_
  rotate_left
  · go_simp; (try with_reducible rfl)
  simp only [Act.put, List.setIfInBounds_toArray, List.set_cons_zero, List.set_cons_succ]
  refine wl_skip (some 50) rfl (by rfl) ?_
  simp only [Act.put, List.setIfInBounds_toArray, List.set_cons_zero, List.set_cons_succ]
  refine wl_skip (some 51) rfl (by rfl) ?_
  simp only [Act.put, List.setIfInBounds_toArray, List.set_cons_zero, List.set_cons_succ]
  refine wl_read (v := ?_) (some 52) rfl (by rfl) ?_ ?_
  rotate_left
  · go_simp; (try with_reducible rfl)
  simp only [Act.put, List.setIfInBounds_toArray, List.set_cons_zero, List.set_cons_succ]
  refine wl_read (v := ?_) (some 53) rfl (by rfl) ?_ ?_
  rotate_left
  · go_simp; (try with_reducible rfl)
  simp only [Act.put, List.setIfInBounds_toArray, List.set_cons_zero, List.set_cons_succ]
  refine wl_read (v := ?_) (some 54) rfl (by rfl) ?_ ?_
  rotate_left
  · go_simp; (try with_reducible rfl)
  simp only [Act.put, List.setIfInBounds_toArray, List.set_cons_zero, List.set_cons_succ]
  refine wl_load (some 55) rfl (by rfl) 29 (.tmp 6) rfl (g4) rfl 29 (opCells (kindO 7 a b)) _ O_10.out Try.underlying29 rfl (by kernel_rfl) ?_
  simp only [Act.put, List.setIfInBounds_toArray, List.set_cons_zero, List.set_cons_succ]
  refine wl_buildSlice (some 56) rfl (by rfl) 30 29 1 #[(0, .tmp 55)] rfl Try.underlying30 (opCells (kindO 7 a b)).toArray (by kernel_rfl) ?_
  simp only [Act.put, List.setIfInBounds_toArray, List.set_cons_zero, List.set_cons_succ]
  have X_11 := Lib.hid ((X_10.out.al (.cells ((opCells (kindO 7 a b)).toArray) 29)))
  have O_11 := Lib.hid ((O_10.out.al (.cells ((opCells (kindO 7 a b)).toArray) 29)))
  have S_11 := Lib.hid ((show Whole (w9.alloc (.cells ((opCells (kindO 7 a b)).toArray) 29)) (w9.heap.size) (29) (opCells (kindO 7 a b)) from Whole.new2 (by first | rfl | simp)))
  have Bel_11 := Lib.hid (bel_al Bel_10.out (.cells ((opCells (kindO 7 a b)).toArray) 29))
  obtain ⟨v11, gv11⟩ : ∃ x, (w9.alloc (.cells ((opCells (kindO 7 a b)).toArray) 29)) = x := ⟨_, rfl⟩
  rw [gv11] at X_11 O_11 S_11 Bel_11 ⊢
  clear gv11
  obtain ⟨g12, gg12⟩ : ∃ x, w9.heap.size = x := ⟨_, rfl⟩
  rw [gg12] at S_11 ⊢
  clear gg12
  go_wp2_with fail
  refine (HE.out (some ⟨g12, 0, none⟩) 1 _ (show RdS _ _ 20 _ 1 1 (rowsV opCells [kindO 7 a b]) from RdS.of_whole S_11.out rfl)).mono ?_
  rintro e w13 ⟨rfl, hb13⟩
  have X_14 := Lib.hid (X_11.out.bl hb13)
  have O_14 := Lib.hid (O_11.out.bl hb13)
  have S_14 := Lib.hid (S_11.out.bl hb13)
  have Bel_14 := Lib.hid (bel_bl Bel_11.out hb13)
  clear hb13
  go_wp2
  go_ret
  exact ⟨rfl, Bel_14.out⟩

set_option maxRecDepth 100000 in
set_option maxHeartbeats 4000000 in
theorem kd_7n (a b : Int) (hm : mayI a b = false) (w : World) : Calls Try.prog 8 #[.int .i64 7, .agg #[.int .i64 a, .int .i64 b]] w fun e w' => e = .returned (.bool true) ∧ Below w.heap.size w w' := by
  have hv : mayO (kindO 7 a b) = 1 := by rw [kindO_may]; rw [if_neg (fun h => by rw [hm] at h; cases h.1)]
  have h1 := mayop_any (kindO 7 a b)
  rw [hv] at h1
  have H1 := Lib.hid h1
  have hE := fun A c W h => mayedit_any A 1 c [kindO 7 a b] W h (by decide)
  rw [show mayE [kindO 7 a b] = 1 by simp [mayE, mayEs, hv]] at hE
  have HE := Lib.hid hE
  have h2 := rmay_any a b
  rw [hm] at h2
  have H2 := Lib.hid h2
  clear h1 h2 hv hm hE
  go_enter Try.func8, Try.ntmps8
  go_wp2_with fail
  refine (shown9 _).mono ?_
  rintro e w1 ⟨rfl, hb1⟩
  have X_2 := Lib.hid ((show Whole (w.alloc (.cells #[.int .i64 a, .int .i64 b] 23)) (w.heap.size) (23) ([.int .i64 a, .int .i64 b]) from Whole.new2 (by first | rfl | simp)).bl hb1)
  have Bel_2 := Lib.hid (bel_bl (bel_al (Below.refl _ w) (.cells #[.int .i64 a, .int .i64 b] 23)) hb1)
  clear hb1
  go_upto_region 2 with fail
  refine wp_region_lit ?_
  refine wl_read (v := ?_) (some 11) rfl (by rfl) ?_ ?_
  rotate_left
  · go_simp; (try with_reducible rfl)
  simp only [Act.put, List.setIfInBounds_toArray, List.set_cons_zero, List.set_cons_succ]
  refine wl_load (some 12) rfl (by rfl) 23 (.tmp 3) rfl (w.heap.size) rfl 23 ([.int .i64 a, .int .i64 b]) _ X_2.out Try.underlying23 rfl (by kernel_rfl) ?_
  simp only [Act.put, List.setIfInBounds_toArray, List.set_cons_zero, List.set_cons_succ]
  refine wl_read (v := ?_) (some 13) rfl (by rfl) ?_ ?_
  rotate_left
  · go_simp; (try with_reducible rfl)
  simp only [Act.put, List.setIfInBounds_toArray, List.set_cons_zero, List.set_cons_succ]
  refine wl_new 6 rfl rfl rfl 29 (.tmp 13) rfl rfl #[.int .i64 0, .int .i64 0, .int .i64 0, .int .i64 0, .int .i64 0, .int .i64 0, .int .i64 0, .int .i64 0, .int .i64 0, .int .i64 0, .int .i64 0, .int .i64 0, .int .i64 0, .int .i64 0, .int .i64 0, .int .i64 0, .int .i64 0, .bool false, .string ⟨#[]⟩, .int .i64 0] ?_ ((opCells (kindO 7 a b)).toArray) (by simp) rfl (by kernel_rfl) rfl (opCells_all _) ?_
  · go_simp; (try with_reducible rfl)
  simp only [Act.put, List.setIfInBounds_toArray, List.set_cons_zero, List.set_cons_succ]
  have X_3 := Lib.hid ((X_2.out.al (.cells ((opCells (kindO 7 a b)).toArray) 29)))
  have O_3 := Lib.hid ((show Whole (w1.alloc (.cells ((opCells (kindO 7 a b)).toArray) 29)) (w1.heap.size) (29) (opCells (kindO 7 a b)) from Whole.new2 (by first | rfl | simp)))
  have Bel_3 := Lib.hid (bel_al Bel_2.out (.cells ((opCells (kindO 7 a b)).toArray) 29))
  obtain ⟨v3, gv3⟩ : ∃ x, (w1.alloc (.cells ((opCells (kindO 7 a b)).toArray) 29)) = x := ⟨_, rfl⟩
  rw [gv3] at X_3 O_3 Bel_3 ⊢
  clear gv3
  obtain ⟨g4, gg4⟩ : ∃ x, w1.heap.size = x := ⟨_, rfl⟩
  rw [gg4] at O_3 ⊢
  clear gg4
  have lw5 : (v3).cell? ⟨w.heap.size, 0, none⟩ = some (.int .i64 a) := X_3.out.cell (i := 0) rfl
  have lw6 : (v3).cell? ⟨w.heap.size, 1, none⟩ = some (.int .i64 b) := X_3.out.cell (i := 1) rfl
  go_wp2_with fail
  clear lw5 lw6
  refine (H2.out _).mono ?_
  rintro e w7 ⟨rfl, hb7⟩
  have X_8 := Lib.hid (X_3.out.bl hb7)
  have O_8 := Lib.hid (O_3.out.bl hb7)
  have Bel_8 := Lib.hid (bel_bl Bel_3.out hb7)
  clear hb7
  go_upto_region 5 with fail
  refine wp_region_lit ?_
  refine wl_load (some 34) rfl (by rfl) 29 (.tmp 6) rfl (g4) rfl 29 (opCells (kindO 7 a b)) _ O_8.out Try.underlying29 rfl (by kernel_rfl) ?_
  simp only [Act.put, List.setIfInBounds_toArray, List.set_cons_zero, List.set_cons_succ]
  go_wp2_with fail
  refine (H1.out _).mono ?_
  rintro e w9 ⟨rfl, hb9⟩
  have X_10 := Lib.hid (X_8.out.bl hb9)
  have O_10 := Lib.hid (O_8.out.bl hb9)
  have Bel_10 := Lib.hid (bel_bl Bel_8.out hb9)
  clear hb9
  go_upto_region 6 with fail
  refine wp_region_lit ?_
  refine wl_read (v := ?_) (some 36) rfl (by rfl) ?_ ?_
  rotate_left
  · go_simp; (try with_reducible rfl)
  simp only [Act.put, List.setIfInBounds_toArray, List.set_cons_zero, List.set_cons_succ]
  refine wl_read (v := ?_) (some 37) rfl (by rfl) ?_ ?_
  rotate_left
  · go_simp; (try with_reducible rfl)
  simp only [Act.put, List.setIfInBounds_toArray, List.set_cons_zero, List.set_cons_succ]
  refine wl_read (v := ?_) (some 38) rfl (by rfl) ?_ ?_
  rotate_left
  · go_simp; (try with_reducible rfl)
  simp only [Act.put, List.setIfInBounds_toArray, List.set_cons_zero, List.set_cons_succ]
  refine wl_read (v := ?_) (some 39) rfl (by rfl) ?_ ?_
  rotate_left
  · go_simp; (try with_reducible rfl)
  simp only [Act.put, List.setIfInBounds_toArray, List.set_cons_zero, List.set_cons_succ]
  refine wl_read (v := ?_) (some 40) rfl (by rfl) ?_ ?_
  rotate_left
  · go_simp; (try with_reducible rfl)
  simp only [Act.put, List.setIfInBounds_toArray, List.set_cons_zero, List.set_cons_succ]
  refine wl_read (v := ?_) (some 41) rfl (by rfl) ?_ ?_
  rotate_left
  · go_simp; (try with_reducible rfl)
  simp only [Act.put, List.setIfInBounds_toArray, List.set_cons_zero, List.set_cons_succ]
  refine wl_read (v := ?_) (some 42) rfl (by rfl) ?_ ?_
  rotate_left
  · go_simp; (try with_reducible rfl)
  simp only [Act.put, List.setIfInBounds_toArray, List.set_cons_zero, List.set_cons_succ]
  refine wl_read (v := ?_) (some 43) rfl (by rfl) ?_ ?_
  rotate_left
  · go_simp; (try with_reducible rfl)
  simp only [Act.put, List.setIfInBounds_toArray, List.set_cons_zero, List.set_cons_succ]
  refine wl_read (v := ?_) (some 44) rfl (by rfl) ?_ ?_
  rotate_left
  · go_simp; (try with_reducible rfl)
  simp only [Act.put, List.setIfInBounds_toArray, List.set_cons_zero, List.set_cons_succ]
  refine wl_read (v := ?_) (some 45) rfl (by rfl) ?_ ?_
  rotate_left
  · go_simp; (try with_reducible rfl)
  simp only [Act.put, List.setIfInBounds_toArray, List.set_cons_zero, List.set_cons_succ]
  refine wl_read (v := ?_) (some 46) rfl (by rfl) ?_ ?_
  rotate_left
  · go_simp; (try with_reducible rfl)
  simp only [Act.put, List.setIfInBounds_toArray, List.set_cons_zero, List.set_cons_succ]
  refine wl_read (v := ?_) (some 47) rfl (by rfl) ?_ ?_
  rotate_left
  · go_simp; (try with_reducible rfl)
  simp only [Act.put, List.setIfInBounds_toArray, List.set_cons_zero, List.set_cons_succ]
  refine wl_read (v := ?_) (some 48) rfl (by rfl) ?_ ?_
  rotate_left
  · go_simp; (try with_reducible rfl)
  simp only [Act.put, List.setIfInBounds_toArray, List.set_cons_zero, List.set_cons_succ]
  refine wl_read (v := ?_) (some 49) rfl (by rfl) ?_ ?_
  rotate_left
  · go_simp; (try with_reducible rfl)
  simp only [Act.put, List.setIfInBounds_toArray, List.set_cons_zero, List.set_cons_succ]
  refine wl_read (v := ?_) (some 50) rfl (by rfl) ?_ ?_
  rotate_left
  · go_simp; (try with_reducible rfl)
  simp only [Act.put, List.setIfInBounds_toArray, List.set_cons_zero, List.set_cons_succ]
  refine wl_read (v := ?_) (some 51) rfl (by rfl) ?_ ?_
  rotate_left
  · go_simp; (try with_reducible rfl)
  simp only [Act.put, List.setIfInBounds_toArray, List.set_cons_zero, List.set_cons_succ]
  refine wl_read (v := ?_) (some 52) rfl (by rfl) ?_ ?_
  rotate_left
  · go_simp; (try with_reducible rfl)
  simp only [Act.put, List.setIfInBounds_toArray, List.set_cons_zero, List.set_cons_succ]
  refine wl_read (v := ?_) (some 53) rfl (by rfl) ?_ ?_
  rotate_left
  · go_simp; (try with_reducible rfl)
  simp only [Act.put, List.setIfInBounds_toArray, List.set_cons_zero, List.set_cons_succ]
  refine wl_read (v := ?_) (some 54) rfl (by rfl) ?_ ?_
  rotate_left
  · go_simp; (try with_reducible rfl)
  simp only [Act.put, List.setIfInBounds_toArray, List.set_cons_zero, List.set_cons_succ]
  refine wl_load (some 55) rfl (by rfl) 29 (.tmp 6) rfl (g4) rfl 29 (opCells (kindO 7 a b)) _ O_10.out Try.underlying29 rfl (by kernel_rfl) ?_
  simp only [Act.put, List.setIfInBounds_toArray, List.set_cons_zero, List.set_cons_succ]
  refine wl_buildSlice (some 56) rfl (by rfl) 30 29 1 #[(0, .tmp 55)] rfl Try.underlying30 (opCells (kindO 7 a b)).toArray (by kernel_rfl) ?_
  simp only [Act.put, List.setIfInBounds_toArray, List.set_cons_zero, List.set_cons_succ]
  have X_11 := Lib.hid ((X_10.out.al (.cells ((opCells (kindO 7 a b)).toArray) 29)))
  have O_11 := Lib.hid ((O_10.out.al (.cells ((opCells (kindO 7 a b)).toArray) 29)))
  have S_11 := Lib.hid ((show Whole (w9.alloc (.cells ((opCells (kindO 7 a b)).toArray) 29)) (w9.heap.size) (29) (opCells (kindO 7 a b)) from Whole.new2 (by first | rfl | simp)))
  have Bel_11 := Lib.hid (bel_al Bel_10.out (.cells ((opCells (kindO 7 a b)).toArray) 29))
  obtain ⟨v11, gv11⟩ : ∃ x, (w9.alloc (.cells ((opCells (kindO 7 a b)).toArray) 29)) = x := ⟨_, rfl⟩
  rw [gv11] at X_11 O_11 S_11 Bel_11 ⊢
  clear gv11
  obtain ⟨g12, gg12⟩ : ∃ x, w9.heap.size = x := ⟨_, rfl⟩
  rw [gg12] at S_11 ⊢
  clear gg12
  go_wp2_with fail
  refine (HE.out (some ⟨g12, 0, none⟩) 1 _ (show RdS _ _ 20 _ 1 1 (rowsV opCells [kindO 7 a b]) from RdS.of_whole S_11.out rfl)).mono ?_
  rintro e w13 ⟨rfl, hb13⟩
  have X_14 := Lib.hid (X_11.out.bl hb13)
  have O_14 := Lib.hid (O_11.out.bl hb13)
  have S_14 := Lib.hid (S_11.out.bl hb13)
  have Bel_14 := Lib.hid (bel_bl Bel_11.out hb13)
  clear hb13
  go_wp2
  go_ret
  exact ⟨rfl, Bel_14.out⟩

set_option maxRecDepth 100000 in
set_option maxHeartbeats 4000000 in
theorem kd_8y (a b : Int) (hm : mayI a b = true) (w : World) : Calls Try.prog 8 #[.int .i64 8, .agg #[.int .i64 a, .int .i64 b]] w fun e w' => e = .returned (.bool true) ∧ Below w.heap.size w w' := by
  have hv : mayO (kindO 8 a b) = 0 := by rw [kindO_may]; rw [if_pos ⟨hm, by decide⟩]
  have h1 := mayop_any (kindO 8 a b)
  rw [hv] at h1
  have H1 := Lib.hid h1
  have hE := fun A c W h => mayedit_any A 1 c [kindO 8 a b] W h (by decide)
  rw [show mayE [kindO 8 a b] = 0 by simp [mayE, mayEs, hv]] at hE
  have HE := Lib.hid hE
  have h2 := rmay_any a b
  rw [hm] at h2
  have H2 := Lib.hid h2
  clear h1 h2 hv hm hE
  go_enter Try.func8, Try.ntmps8
  go_wp2_with fail
  refine (shown9 _).mono ?_
  rintro e w1 ⟨rfl, hb1⟩
  have X_2 := Lib.hid ((show Whole (w.alloc (.cells #[.int .i64 a, .int .i64 b] 23)) (w.heap.size) (23) ([.int .i64 a, .int .i64 b]) from Whole.new2 (by first | rfl | simp)).bl hb1)
  have Bel_2 := Lib.hid (bel_bl (bel_al (Below.refl _ w) (.cells #[.int .i64 a, .int .i64 b] 23)) hb1)
  clear hb1
  go_upto_region 2 with fail
  refine wp_region_lit ?_
  refine wl_read (v := ?_) (some 11) rfl (by rfl) ?_ ?_
  rotate_left
  · go_simp; (try with_reducible rfl)
  simp only [Act.put, List.setIfInBounds_toArray, List.set_cons_zero, List.set_cons_succ]
  refine wl_load (some 12) rfl (by rfl) 23 (.tmp 3) rfl (w.heap.size) rfl 23 ([.int .i64 a, .int .i64 b]) _ X_2.out Try.underlying23 rfl (by kernel_rfl) ?_
  simp only [Act.put, List.setIfInBounds_toArray, List.set_cons_zero, List.set_cons_succ]
  refine wl_read (v := ?_) (some 13) rfl (by rfl) ?_ ?_
  rotate_left
  · go_simp; (try with_reducible rfl)
  simp only [Act.put, List.setIfInBounds_toArray, List.set_cons_zero, List.set_cons_succ]
  refine wl_new 6 rfl rfl rfl 29 (.tmp 13) rfl rfl #[.int .i64 0, .int .i64 0, .int .i64 0, .int .i64 0, .int .i64 0, .int .i64 0, .int .i64 0, .int .i64 0, .int .i64 0, .int .i64 0, .int .i64 0, .int .i64 0, .int .i64 0, .int .i64 0, .int .i64 0, .int .i64 0, .int .i64 0, .bool false, .string ⟨#[]⟩, .int .i64 0] ?_ ((opCells (kindO 8 a b)).toArray) (by simp) rfl (by kernel_rfl) rfl (opCells_all _) ?_
  · go_simp; (try with_reducible rfl)
  simp only [Act.put, List.setIfInBounds_toArray, List.set_cons_zero, List.set_cons_succ]
  have X_3 := Lib.hid ((X_2.out.al (.cells ((opCells (kindO 8 a b)).toArray) 29)))
  have O_3 := Lib.hid ((show Whole (w1.alloc (.cells ((opCells (kindO 8 a b)).toArray) 29)) (w1.heap.size) (29) (opCells (kindO 8 a b)) from Whole.new2 (by first | rfl | simp)))
  have Bel_3 := Lib.hid (bel_al Bel_2.out (.cells ((opCells (kindO 8 a b)).toArray) 29))
  obtain ⟨v3, gv3⟩ : ∃ x, (w1.alloc (.cells ((opCells (kindO 8 a b)).toArray) 29)) = x := ⟨_, rfl⟩
  rw [gv3] at X_3 O_3 Bel_3 ⊢
  clear gv3
  obtain ⟨g4, gg4⟩ : ∃ x, w1.heap.size = x := ⟨_, rfl⟩
  rw [gg4] at O_3 ⊢
  clear gg4
  have lw5 : (v3).cell? ⟨w.heap.size, 0, none⟩ = some (.int .i64 a) := X_3.out.cell (i := 0) rfl
  have lw6 : (v3).cell? ⟨w.heap.size, 1, none⟩ = some (.int .i64 b) := X_3.out.cell (i := 1) rfl
  go_wp2_with fail
  clear lw5 lw6
  refine (H2.out _).mono ?_
  rintro e w7 ⟨rfl, hb7⟩
  have X_8 := Lib.hid (X_3.out.bl hb7)
  have O_8 := Lib.hid (O_3.out.bl hb7)
  have Bel_8 := Lib.hid (bel_bl Bel_3.out hb7)
  clear hb7
  go_upto_region 5 with fail
  refine wp_region_lit ?_
  refine wl_load (some 34) rfl (by rfl) 29 (.tmp 6) rfl (g4) rfl 29 (opCells (kindO 8 a b)) _ O_8.out Try.underlying29 rfl (by kernel_rfl) ?_
  simp only [Act.put, List.setIfInBounds_toArray, List.set_cons_zero, List.set_cons_succ]
  go_wp2_with fail
  refine (H1.out _).mono ?_
  rintro e w9 ⟨rfl, hb9⟩
  have X_10 := Lib.hid (X_8.out.bl hb9)
  have O_10 := Lib.hid (O_8.out.bl hb9)
  have Bel_10 := Lib.hid (bel_bl Bel_8.out hb9)
  clear hb9
  go_upto_region 6 with fail
  refine wp_region_lit ?_
  refine wl_read (v := ?_) (some 36) rfl (by rfl) ?_ ?_
  rotate_left
  · go_simp; (try with_reducible rfl)
  simp only [Act.put, List.setIfInBounds_toArray, List.set_cons_zero, List.set_cons_succ]
  refine wl_read (v := ?_) (some 37) rfl (by rfl) ?_ ?_
  rotate_left
  · go_simp; (try with_reducible rfl)
  simp only [Act.put, List.setIfInBounds_toArray, List.set_cons_zero, List.set_cons_succ]
  refine wl_read (v := ?_) (some 38) rfl (by rfl) ?_ ?_
  rotate_left
  · go_simp; (try with_reducible rfl)
  simp only [Act.put, List.setIfInBounds_toArray, List.set_cons_zero, List.set_cons_succ]
  refine wl_read (v := ?_) (some 39) rfl (by rfl) ?_ ?_
  rotate_left
  · go_simp; (try with_reducible rfl)
  simp only [Act.put, List.setIfInBounds_toArray, List.set_cons_zero, List.set_cons_succ]
  refine wl_read (v := ?_) (some 40) rfl (by rfl) ?_ ?_
  rotate_left
  · go_simp; (try with_reducible rfl)
  simp only [Act.put, List.setIfInBounds_toArray, List.set_cons_zero, List.set_cons_succ]
  refine wl_read (v := ?_) (some 41) rfl (by rfl) ?_ ?_
  rotate_left
  · go_simp; (try with_reducible rfl)
  simp only [Act.put, List.setIfInBounds_toArray, List.set_cons_zero, List.set_cons_succ]
  refine wl_read (v := ?_) (some 42) rfl (by rfl) ?_ ?_
  rotate_left
  · go_simp; (try with_reducible rfl)
  simp only [Act.put, List.setIfInBounds_toArray, List.set_cons_zero, List.set_cons_succ]
  refine wl_read (v := ?_) (some 43) rfl (by rfl) ?_ ?_
  rotate_left
  · go_simp; (try with_reducible rfl)
  simp only [Act.put, List.setIfInBounds_toArray, List.set_cons_zero, List.set_cons_succ]
  refine wl_read (v := ?_) (some 44) rfl (by rfl) ?_ ?_
  rotate_left
  · go_simp; (try with_reducible rfl)
  simp only [Act.put, List.setIfInBounds_toArray, List.set_cons_zero, List.set_cons_succ]
  refine wl_read (v := ?_) (some 45) rfl (by rfl) ?_ ?_
  rotate_left
  · go_simp; (try with_reducible rfl)
  simp only [Act.put, List.setIfInBounds_toArray, List.set_cons_zero, List.set_cons_succ]
  refine wl_read (v := ?_) (some 46) rfl (by rfl) ?_ ?_
  rotate_left
  · go_simp; (try with_reducible rfl)
  simp only [Act.put, List.setIfInBounds_toArray, List.set_cons_zero, List.set_cons_succ]
  refine wl_read (v := ?_) (some 47) rfl (by rfl) ?_ ?_
  rotate_left
  · go_simp; (try with_reducible rfl)
  simp only [Act.put, List.setIfInBounds_toArray, List.set_cons_zero, List.set_cons_succ]
  refine wl_read (v := ?_) (some 48) rfl (by rfl) ?_ ?_
  rotate_left
  · go_simp; (try with_reducible rfl)
  simp only [Act.put, List.setIfInBounds_toArray, List.set_cons_zero, List.set_cons_succ]
  refine wl_read (v := ?_) (some 49) rfl (by rfl) ?_ ?_
  rotate_left
  · go_simp; (try with_reducible rfl)
  simp only [Act.put, List.setIfInBounds_toArray, List.set_cons_zero, List.set_cons_succ]
  refine wl_skip (some 50) rfl (by rfl) ?_
  simp only [Act.put, List.setIfInBounds_toArray, List.set_cons_zero, List.set_cons_succ]
  refine wl_skip (some 51) rfl (by rfl) ?_
  simp only [Act.put, List.setIfInBounds_toArray, List.set_cons_zero, List.set_cons_succ]
  refine wl_read (v := ?_) (some 52) rfl (by rfl) ?_ ?_
  rotate_left
  · go_simp; (try with_reducible rfl)
  simp only [Act.put, List.setIfInBounds_toArray, List.set_cons_zero, List.set_cons_succ]
  refine wl_read (v := ?_) (some 53) rfl (by rfl) ?_ ?_
  rotate_left
  · go_simp; (try with_reducible rfl)
  simp only [Act.put, List.setIfInBounds_toArray, List.set_cons_zero, List.set_cons_succ]
  refine wl_read (v := ?_) (some 54) rfl (by rfl) ?_ ?_
  rotate_left
  · go_simp; (try with_reducible rfl)
  simp only [Act.put, List.setIfInBounds_toArray, List.set_cons_zero, List.set_cons_succ]
  refine wl_load (some 55) rfl (by rfl) 29 (.tmp 6) rfl (g4) rfl 29 (opCells (kindO 8 a b)) _ O_10.out Try.underlying29 rfl (by kernel_rfl) ?_
  simp only [Act.put, List.setIfInBounds_toArray, List.set_cons_zero, List.set_cons_succ]
  refine wl_buildSlice (some 56) rfl (by rfl) 30 29 1 #[(0, .tmp 55)] rfl Try.underlying30 (opCells (kindO 8 a b)).toArray (by kernel_rfl) ?_
  simp only [Act.put, List.setIfInBounds_toArray, List.set_cons_zero, List.set_cons_succ]
  have X_11 := Lib.hid ((X_10.out.al (.cells ((opCells (kindO 8 a b)).toArray) 29)))
  have O_11 := Lib.hid ((O_10.out.al (.cells ((opCells (kindO 8 a b)).toArray) 29)))
  have S_11 := Lib.hid ((show Whole (w9.alloc (.cells ((opCells (kindO 8 a b)).toArray) 29)) (w9.heap.size) (29) (opCells (kindO 8 a b)) from Whole.new2 (by first | rfl | simp)))
  have Bel_11 := Lib.hid (bel_al Bel_10.out (.cells ((opCells (kindO 8 a b)).toArray) 29))
  obtain ⟨v11, gv11⟩ : ∃ x, (w9.alloc (.cells ((opCells (kindO 8 a b)).toArray) 29)) = x := ⟨_, rfl⟩
  rw [gv11] at X_11 O_11 S_11 Bel_11 ⊢
  clear gv11
  obtain ⟨g12, gg12⟩ : ∃ x, w9.heap.size = x := ⟨_, rfl⟩
  rw [gg12] at S_11 ⊢
  clear gg12
  go_wp2_with fail
  refine (HE.out (some ⟨g12, 0, none⟩) 1 _ (show RdS _ _ 20 _ 1 1 (rowsV opCells [kindO 8 a b]) from RdS.of_whole S_11.out rfl)).mono ?_
  rintro e w13 ⟨rfl, hb13⟩
  have X_14 := Lib.hid (X_11.out.bl hb13)
  have O_14 := Lib.hid (O_11.out.bl hb13)
  have S_14 := Lib.hid (S_11.out.bl hb13)
  have Bel_14 := Lib.hid (bel_bl Bel_11.out hb13)
  clear hb13
  go_wp2
  go_ret
  exact ⟨rfl, Bel_14.out⟩

set_option maxRecDepth 100000 in
set_option maxHeartbeats 4000000 in
theorem kd_8n (a b : Int) (hm : mayI a b = false) (w : World) : Calls Try.prog 8 #[.int .i64 8, .agg #[.int .i64 a, .int .i64 b]] w fun e w' => e = .returned (.bool true) ∧ Below w.heap.size w w' := by
  have hv : mayO (kindO 8 a b) = 1 := by rw [kindO_may]; rw [if_neg (fun h => by rw [hm] at h; cases h.1)]
  have h1 := mayop_any (kindO 8 a b)
  rw [hv] at h1
  have H1 := Lib.hid h1
  have hE := fun A c W h => mayedit_any A 1 c [kindO 8 a b] W h (by decide)
  rw [show mayE [kindO 8 a b] = 1 by simp [mayE, mayEs, hv]] at hE
  have HE := Lib.hid hE
  have h2 := rmay_any a b
  rw [hm] at h2
  have H2 := Lib.hid h2
  clear h1 h2 hv hm hE
  go_enter Try.func8, Try.ntmps8
  go_wp2_with fail
  refine (shown9 _).mono ?_
  rintro e w1 ⟨rfl, hb1⟩
  have X_2 := Lib.hid ((show Whole (w.alloc (.cells #[.int .i64 a, .int .i64 b] 23)) (w.heap.size) (23) ([.int .i64 a, .int .i64 b]) from Whole.new2 (by first | rfl | simp)).bl hb1)
  have Bel_2 := Lib.hid (bel_bl (bel_al (Below.refl _ w) (.cells #[.int .i64 a, .int .i64 b] 23)) hb1)
  clear hb1
  go_upto_region 2 with fail
  refine wp_region_lit ?_
  refine wl_read (v := ?_) (some 11) rfl (by rfl) ?_ ?_
  rotate_left
  · go_simp; (try with_reducible rfl)
  simp only [Act.put, List.setIfInBounds_toArray, List.set_cons_zero, List.set_cons_succ]
  refine wl_load (some 12) rfl (by rfl) 23 (.tmp 3) rfl (w.heap.size) rfl 23 ([.int .i64 a, .int .i64 b]) _ X_2.out Try.underlying23 rfl (by kernel_rfl) ?_
  simp only [Act.put, List.setIfInBounds_toArray, List.set_cons_zero, List.set_cons_succ]
  refine wl_read (v := ?_) (some 13) rfl (by rfl) ?_ ?_
  rotate_left
  · go_simp; (try with_reducible rfl)
  simp only [Act.put, List.setIfInBounds_toArray, List.set_cons_zero, List.set_cons_succ]
  refine wl_new 6 rfl rfl rfl 29 (.tmp 13) rfl rfl #[.int .i64 0, .int .i64 0, .int .i64 0, .int .i64 0, .int .i64 0, .int .i64 0, .int .i64 0, .int .i64 0, .int .i64 0, .int .i64 0, .int .i64 0, .int .i64 0, .int .i64 0, .int .i64 0, .int .i64 0, .int .i64 0, .int .i64 0, .bool false, .string ⟨#[]⟩, .int .i64 0] ?_ ((opCells (kindO 8 a b)).toArray) (by simp) rfl (by kernel_rfl) rfl (opCells_all _) ?_
  · go_simp; (try with_reducible rfl)
  simp only [Act.put, List.setIfInBounds_toArray, List.set_cons_zero, List.set_cons_succ]
  have X_3 := Lib.hid ((X_2.out.al (.cells ((opCells (kindO 8 a b)).toArray) 29)))
  have O_3 := Lib.hid ((show Whole (w1.alloc (.cells ((opCells (kindO 8 a b)).toArray) 29)) (w1.heap.size) (29) (opCells (kindO 8 a b)) from Whole.new2 (by first | rfl | simp)))
  have Bel_3 := Lib.hid (bel_al Bel_2.out (.cells ((opCells (kindO 8 a b)).toArray) 29))
  obtain ⟨v3, gv3⟩ : ∃ x, (w1.alloc (.cells ((opCells (kindO 8 a b)).toArray) 29)) = x := ⟨_, rfl⟩
  rw [gv3] at X_3 O_3 Bel_3 ⊢
  clear gv3
  obtain ⟨g4, gg4⟩ : ∃ x, w1.heap.size = x := ⟨_, rfl⟩
  rw [gg4] at O_3 ⊢
  clear gg4
  have lw5 : (v3).cell? ⟨w.heap.size, 0, none⟩ = some (.int .i64 a) := X_3.out.cell (i := 0) rfl
  have lw6 : (v3).cell? ⟨w.heap.size, 1, none⟩ = some (.int .i64 b) := X_3.out.cell (i := 1) rfl
  go_wp2_with fail
  clear lw5 lw6
  refine (H2.out _).mono ?_
  rintro e w7 ⟨rfl, hb7⟩
  have X_8 := Lib.hid (X_3.out.bl hb7)
  have O_8 := Lib.hid (O_3.out.bl hb7)
  have Bel_8 := Lib.hid (bel_bl Bel_3.out hb7)
  clear hb7
  go_upto_region 5 with fail
  refine wp_region_lit ?_
  refine wl_load (some 34) rfl (by rfl) 29 (.tmp 6) rfl (g4) rfl 29 (opCells (kindO 8 a b)) _ O_8.out Try.underlying29 rfl (by kernel_rfl) ?_
  simp only [Act.put, List.setIfInBounds_toArray, List.set_cons_zero, List.set_cons_succ]
  go_wp2_with fail
  refine (H1.out _).mono ?_
  rintro e w9 ⟨rfl, hb9⟩
  have X_10 := Lib.hid (X_8.out.bl hb9)
  have O_10 := Lib.hid (O_8.out.bl hb9)
  have Bel_10 := Lib.hid (bel_bl Bel_8.out hb9)
  clear hb9
  go_upto_region 6 with fail
  refine wp_region_lit ?_
  refine wl_read (v := ?_) (some 36) rfl (by rfl) ?_ ?_
  rotate_left
  · go_simp; (try with_reducible rfl)
  simp only [Act.put, List.setIfInBounds_toArray, List.set_cons_zero, List.set_cons_succ]
  refine wl_read (v := ?_) (some 37) rfl (by rfl) ?_ ?_
  rotate_left
  · go_simp; (try with_reducible rfl)
  simp only [Act.put, List.setIfInBounds_toArray, List.set_cons_zero, List.set_cons_succ]
  refine wl_read (v := ?_) (some 38) rfl (by rfl) ?_ ?_
  rotate_left
  · go_simp; (try with_reducible rfl)
  simp only [Act.put, List.setIfInBounds_toArray, List.set_cons_zero, List.set_cons_succ]
  refine wl_read (v := ?_) (some 39) rfl (by rfl) ?_ ?_
  rotate_left
  · go_simp; (try with_reducible rfl)
  simp only [Act.put, List.setIfInBounds_toArray, List.set_cons_zero, List.set_cons_succ]
  refine wl_read (v := ?_) (some 40) rfl (by rfl) ?_ ?_
  rotate_left
  · go_simp; (try with_reducible rfl)
  simp only [Act.put, List.setIfInBounds_toArray, List.set_cons_zero, List.set_cons_succ]
  refine wl_read (v := ?_) (some 41) rfl (by rfl) ?_ ?_
  rotate_left
  · go_simp; (try with_reducible rfl)
  simp only [Act.put, List.setIfInBounds_toArray, List.set_cons_zero, List.set_cons_succ]
  refine wl_read (v := ?_) (some 42) rfl (by rfl) ?_ ?_
  rotate_left
  · go_simp; (try with_reducible rfl)
  simp only [Act.put, List.setIfInBounds_toArray, List.set_cons_zero, List.set_cons_succ]
  refine wl_read (v := ?_) (some 43) rfl (by rfl) ?_ ?_
  rotate_left
  · go_simp; (try with_reducible rfl)
  simp only [Act.put, List.setIfInBounds_toArray, List.set_cons_zero, List.set_cons_succ]
  refine wl_read (v := ?_) (some 44) rfl (by rfl) ?_ ?_
  rotate_left
  · go_simp; (try with_reducible rfl)
  simp only [Act.put, List.setIfInBounds_toArray, List.set_cons_zero, List.set_cons_succ]
  refine wl_read (v := ?_) (some 45) rfl (by rfl) ?_ ?_
  rotate_left
  · go_simp; (try with_reducible rfl)
  simp only [Act.put, List.setIfInBounds_toArray, List.set_cons_zero, List.set_cons_succ]
  refine wl_read (v := ?_) (some 46) rfl (by rfl) ?_ ?_
  rotate_left
  · go_simp; (try with_reducible rfl)
  simp only [Act.put, List.setIfInBounds_toArray, List.set_cons_zero, List.set_cons_succ]
  refine wl_read (v := ?_) (some 47) rfl (by rfl) ?_ ?_
  rotate_left
  · go_simp; (try with_reducible rfl)
  simp only [Act.put, List.setIfInBounds_toArray, List.set_cons_zero, List.set_cons_succ]
  refine wl_read (v := ?_) (some 48) rfl (by rfl) ?_ ?_
  rotate_left
  · go_simp; (try with_reducible rfl)
  simp only [Act.put, List.setIfInBounds_toArray, List.set_cons_zero, List.set_cons_succ]
  refine wl_read (v := ?_) (some 49) rfl (by rfl) ?_ ?_
  rotate_left
  · go_simp; (try with_reducible rfl)
  simp only [Act.put, List.setIfInBounds_toArray, List.set_cons_zero, List.set_cons_succ]
  refine wl_read (v := ?_) (some 50) rfl (by rfl) ?_ ?_
  rotate_left
  · go_simp; (try with_reducible rfl)
  simp only [Act.put, List.setIfInBounds_toArray, List.set_cons_zero, List.set_cons_succ]
  refine wl_read (v := ?_) (some 51) rfl (by rfl) ?_ ?_
  rotate_left
  · go_simp; (try with_reducible rfl)
  simp only [Act.put, List.setIfInBounds_toArray, List.set_cons_zero, List.set_cons_succ]
  refine wl_read (v := ?_) (some 52) rfl (by rfl) ?_ ?_
  rotate_left
  · go_simp; (try with_reducible rfl)
  simp only [Act.put, List.setIfInBounds_toArray, List.set_cons_zero, List.set_cons_succ]
  refine wl_read (v := ?_) (some 53) rfl (by rfl) ?_ ?_
  rotate_left
  · go_simp; (try with_reducible rfl)
  simp only [Act.put, List.setIfInBounds_toArray, List.set_cons_zero, List.set_cons_succ]
  refine wl_read (v := ?_) (some 54) rfl (by rfl) ?_ ?_
  rotate_left
  · go_simp; (try with_reducible rfl)
  simp only [Act.put, List.setIfInBounds_toArray, List.set_cons_zero, List.set_cons_succ]
  refine wl_load (some 55) rfl (by rfl) 29 (.tmp 6) rfl (g4) rfl 29 (opCells (kindO 8 a b)) _ O_10.out Try.underlying29 rfl (by kernel_rfl) ?_
  simp only [Act.put, List.setIfInBounds_toArray, List.set_cons_zero, List.set_cons_succ]
  refine wl_buildSlice (some 56) rfl (by rfl) 30 29 1 #[(0, .tmp 55)] rfl Try.underlying30 (opCells (kindO 8 a b)).toArray (by kernel_rfl) ?_
  simp only [Act.put, List.setIfInBounds_toArray, List.set_cons_zero, List.set_cons_succ]
  have X_11 := Lib.hid ((X_10.out.al (.cells ((opCells (kindO 8 a b)).toArray) 29)))
  have O_11 := Lib.hid ((O_10.out.al (.cells ((opCells (kindO 8 a b)).toArray) 29)))
  have S_11 := Lib.hid ((show Whole (w9.alloc (.cells ((opCells (kindO 8 a b)).toArray) 29)) (w9.heap.size) (29) (opCells (kindO 8 a b)) from Whole.new2 (by first | rfl | simp)))
  have Bel_11 := Lib.hid (bel_al Bel_10.out (.cells ((opCells (kindO 8 a b)).toArray) 29))
  obtain ⟨v11, gv11⟩ : ∃ x, (w9.alloc (.cells ((opCells (kindO 8 a b)).toArray) 29)) = x := ⟨_, rfl⟩
  rw [gv11] at X_11 O_11 S_11 Bel_11 ⊢
  clear gv11
  obtain ⟨g12, gg12⟩ : ∃ x, w9.heap.size = x := ⟨_, rfl⟩
  rw [gg12] at S_11 ⊢
  clear gg12
  go_wp2_with fail
  refine (HE.out (some ⟨g12, 0, none⟩) 1 _ (show RdS _ _ 20 _ 1 1 (rowsV opCells [kindO 8 a b]) from RdS.of_whole S_11.out rfl)).mono ?_
  rintro e w13 ⟨rfl, hb13⟩
  have X_14 := Lib.hid (X_11.out.bl hb13)
  have O_14 := Lib.hid (O_11.out.bl hb13)
  have S_14 := Lib.hid (S_11.out.bl hb13)
  have Bel_14 := Lib.hid (bel_bl Bel_11.out hb13)
  clear hb13
  go_wp2
  go_ret
  exact ⟨rfl, Bel_14.out⟩

set_option maxRecDepth 100000 in
set_option maxHeartbeats 4000000 in
theorem kd_0y (k a b : Int) (hm : mayI a b = true) (hk : ¬ (k = 1 ∨ k = 2 ∨ k = 4 ∨ k = 7 ∨ k = 8)) (w : World) : Calls Try.prog 8 #[.int .i64 k, .agg #[.int .i64 a, .int .i64 b]] w fun e w' => e = .returned (.bool true) ∧ Below w.heap.size w w' := by
  have hv : mayO (kindO k a b) = 1 := by rw [kindO_may]; rw [if_neg (fun h => hk h.2)]
  have h1 := mayop_any (kindO k a b)
  rw [hv] at h1
  have H1 := Lib.hid h1
  have hE := fun A c W h => mayedit_any A 1 c [kindO k a b] W h (by decide)
  rw [show mayE [kindO k a b] = 1 by simp [mayE, mayEs, hv]] at hE
  have HE := Lib.hid hE
  have h2 := rmay_any a b
  rw [hm] at h2
  have H2 := Lib.hid h2
  clear h1 h2 hv hm hE
  have q1 : (k == 1) = false := beq_eq_false_iff_ne.2 (by omega)
  have q2 : (k == 2) = false := beq_eq_false_iff_ne.2 (by omega)
  have q4 : (k == 4) = false := beq_eq_false_iff_ne.2 (by omega)
  have q7 : (k == 7) = false := beq_eq_false_iff_ne.2 (by omega)
  have q8 : (k == 8) = false := beq_eq_false_iff_ne.2 (by omega)
  clear hk
  go_enter Try.func8, Try.ntmps8
  go_wp2_with fail
  refine (shown9 _).mono ?_
  rintro e w1 ⟨rfl, hb1⟩
  have X_2 := Lib.hid ((show Whole (w.alloc (.cells #[.int .i64 a, .int .i64 b] 23)) (w.heap.size) (23) ([.int .i64 a, .int .i64 b]) from Whole.new2 (by first | rfl | simp)).bl hb1)
  have Bel_2 := Lib.hid (bel_bl (bel_al (Below.refl _ w) (.cells #[.int .i64 a, .int .i64 b] 23)) hb1)
  clear hb1
  go_upto_region 2 with fail
  refine wp_region_lit ?_
  refine wl_read (v := ?_) (some 11) rfl (by rfl) ?_ ?_
  rotate_left
  · go_simp; (try with_reducible rfl)
  simp only [Act.put, List.setIfInBounds_toArray, List.set_cons_zero, List.set_cons_succ]
  refine wl_load (some 12) rfl (by rfl) 23 (.tmp 3) rfl (w.heap.size) rfl 23 ([.int .i64 a, .int .i64 b]) _ X_2.out Try.underlying23 rfl (by kernel_rfl) ?_
  simp only [Act.put, List.setIfInBounds_toArray, List.set_cons_zero, List.set_cons_succ]
  refine wl_read (v := ?_) (some 13) rfl (by rfl) ?_ ?_
  rotate_left
  · go_simp; (try with_reducible rfl)
  simp only [Act.put, List.setIfInBounds_toArray, List.set_cons_zero, List.set_cons_succ]
  refine wl_new 6 rfl rfl rfl 29 (.tmp 13) rfl rfl #[.int .i64 0, .int .i64 0, .int .i64 0, .int .i64 0, .int .i64 0, .int .i64 0, .int .i64 0, .int .i64 0, .int .i64 0, .int .i64 0, .int .i64 0, .int .i64 0, .int .i64 0, .int .i64 0, .int .i64 0, .int .i64 0, .int .i64 0, .bool false, .string ⟨#[]⟩, .int .i64 0] ?_ ((opCells (kindO k a b)).toArray) (by simp) rfl (by kernel_rfl) rfl (opCells_all _) ?_
  · go_simp; (try with_reducible rfl)
  simp only [Act.put, List.setIfInBounds_toArray, List.set_cons_zero, List.set_cons_succ]
  have X_3 := Lib.hid ((X_2.out.al (.cells ((opCells (kindO k a b)).toArray) 29)))
  have O_3 := Lib.hid ((show Whole (w1.alloc (.cells ((opCells (kindO k a b)).toArray) 29)) (w1.heap.size) (29) (opCells (kindO k a b)) from Whole.new2 (by first | rfl | simp)))
  have Bel_3 := Lib.hid (bel_al Bel_2.out (.cells ((opCells (kindO k a b)).toArray) 29))
  obtain ⟨v3, gv3⟩ : ∃ x, (w1.alloc (.cells ((opCells (kindO k a b)).toArray) 29)) = x := ⟨_, rfl⟩
  rw [gv3] at X_3 O_3 Bel_3 ⊢
  clear gv3
  obtain ⟨g4, gg4⟩ : ∃ x, w1.heap.size = x := ⟨_, rfl⟩
  rw [gg4] at O_3 ⊢
  clear gg4
  have lw5 : (v3).cell? ⟨w.heap.size, 0, none⟩ = some (.int .i64 a) := X_3.out.cell (i := 0) rfl
  have lw6 : (v3).cell? ⟨w.heap.size, 1, none⟩ = some (.int .i64 b) := X_3.out.cell (i := 1) rfl
  go_wp2_with fail
  clear lw5 lw6
  refine (H2.out _).mono ?_
  rintro e w7 ⟨rfl, hb7⟩
  have X_8 := Lib.hid (X_3.out.bl hb7)
  have O_8 := Lib.hid (O_3.out.bl hb7)
  have Bel_8 := Lib.hid (bel_bl Bel_3.out hb7)
  clear hb7
  go_upto_region 5 with fail
  refine wp_region_lit ?_
  refine wl_load (some 34) rfl (by rfl) 29 (.tmp 6) rfl (g4) rfl 29 (opCells (kindO k a b)) _ O_8.out Try.underlying29 rfl (by kernel_rfl) ?_
  simp only [Act.put, List.setIfInBounds_toArray, List.set_cons_zero, List.set_cons_succ]
  go_wp2_with fail
  refine (H1.out _).mono ?_
  rintro e w9 ⟨rfl, hb9⟩
  have X_10 := Lib.hid (X_8.out.bl hb9)
  have O_10 := Lib.hid (O_8.out.bl hb9)
  have Bel_10 := Lib.hid (bel_bl Bel_8.out hb9)
  clear hb9
  go_upto_region 6 with fail
  refine wp_region_lit ?_
  refine wl_read (v := ?_) (some 36) rfl (by rfl) ?_ ?_
  rotate_left
  · go_simp; (try with_reducible rfl)
  simp only [Act.put, List.setIfInBounds_toArray, List.set_cons_zero, List.set_cons_succ]
  refine wl_read (v := ?_) (some 37) rfl (by rfl) ?_ ?_
  rotate_left
  · go_simp; (try with_reducible rfl)
  simp only [Act.put, List.setIfInBounds_toArray, List.set_cons_zero, List.set_cons_succ]
  refine wl_read (v := ?_) (some 38) rfl (by rfl) ?_ ?_
  rotate_left
  · go_simp; (try with_reducible rfl)
  simp only [Act.put, List.setIfInBounds_toArray, List.set_cons_zero, List.set_cons_succ]
  refine wl_read (v := ?_) (some 39) rfl (by rfl) ?_ ?_
  rotate_left
  · go_simp; (try with_reducible rfl)
  simp only [Act.put, List.setIfInBounds_toArray, List.set_cons_zero, List.set_cons_succ]
  refine wl_read (v := ?_) (some 40) rfl (by rfl) ?_ ?_
  rotate_left
  · go_simp; (try with_reducible rfl)
  simp only [Act.put, List.setIfInBounds_toArray, List.set_cons_zero, List.set_cons_succ]
  refine wl_read (v := ?_) (some 41) rfl (by rfl) ?_ ?_
  rotate_left
  · go_simp; (try with_reducible rfl)
  simp only [Act.put, List.setIfInBounds_toArray, List.set_cons_zero, List.set_cons_succ]
  refine wl_skip (some 42) rfl (by rfl) ?_
  simp only [Act.put, List.setIfInBounds_toArray, List.set_cons_zero, List.set_cons_succ]
  refine wl_read (v := ?_) (some 43) rfl (by rfl) ?_ ?_
  rotate_left
  · go_simp; (try with_reducible rfl)
  simp only [Act.put, List.setIfInBounds_toArray, List.set_cons_zero, List.set_cons_succ]
  refine wl_read (v := ?_) (some 44) rfl (by rfl) ?_ ?_
  rotate_left
  · go_simp; (try with_reducible rfl)
  simp only [Act.put, List.setIfInBounds_toArray, List.set_cons_zero, List.set_cons_succ]
  refine wl_read (v := ?_) (some 45) rfl (by rfl) ?_ ?_
  rotate_left
  · go_simp; (try with_reducible rfl)
  simp only [Act.put, List.setIfInBounds_toArray, List.set_cons_zero, List.set_cons_succ]
  refine wl_read (v := ?_) (some 46) rfl (by rfl) ?_ ?_
  rotate_left
  · go_simp; (try with_reducible rfl)
  simp only [Act.put, List.setIfInBounds_toArray, List.set_cons_zero, List.set_cons_succ]
  refine wl_read (v := ?_) (some 47) rfl (by rfl) ?_ ?_
  rotate_left
  · go_simp; (try with_reducible rfl)
  simp only [Act.put, List.setIfInBounds_toArray, List.set_cons_zero, List.set_cons_succ]
  refine wl_read (v := ?_) (some 48) rfl (by rfl) ?_ ?_
  rotate_left
  · go_simp; (try with_reducible rfl)
  simp only [Act.put, List.setIfInBounds_toArray, List.set_cons_zero, List.set_cons_succ]
  refine wl_read (v := ?_) (some 49) rfl (by rfl) ?_ ?_
  rotate_left
  · go_simp; (try with_reducible rfl)
  simp only [Act.put, List.setIfInBounds_toArray, List.set_cons_zero, List.set_cons_succ]
  refine wl_read (v := ?_) (some 50) rfl (by rfl) ?_ ?_
  rotate_left
  · go_simp; (try with_reducible rfl)
  simp only [Act.put, List.setIfInBounds_toArray, List.set_cons_zero, List.set_cons_succ]
  refine wl_read (v := ?_) (some 51) rfl (by rfl) ?_ ?_
  rotate_left
  · go_simp; (try with_reducible rfl)
  simp only [Act.put, List.setIfInBounds_toArray, List.set_cons_zero, List.set_cons_succ]
  refine wl_read (v := ?_) (some 52) rfl (by rfl) ?_ ?_
  rotate_left
  · go_simp; (try with_reducible rfl)
  simp only [Act.put, List.setIfInBounds_toArray, List.set_cons_zero, List.set_cons_succ]
  refine wl_read (v := ?_) (some 53) rfl (by rfl) ?_ ?_
  rotate_left
  · go_simp; (try with_reducible rfl)
  simp only [Act.put, List.setIfInBounds_toArray, List.set_cons_zero, List.set_cons_succ]
  refine wl_read (v := ?_) (some 54) rfl (by rfl) ?_ ?_
  rotate_left
  · go_simp; (try with_reducible rfl)
  simp only [Act.put, List.setIfInBounds_toArray, List.set_cons_zero, List.set_cons_succ]
  refine wl_load (some 55) rfl (by rfl) 29 (.tmp 6) rfl (g4) rfl 29 (opCells (kindO k a b)) _ O_10.out Try.underlying29 rfl (by kernel_rfl) ?_
  simp only [Act.put, List.setIfInBounds_toArray, List.set_cons_zero, List.set_cons_succ]
  refine wl_buildSlice (some 56) rfl (by rfl) 30 29 1 #[(0, .tmp 55)] rfl Try.underlying30 (opCells (kindO k a b)).toArray (by kernel_rfl) ?_
  simp only [Act.put, List.setIfInBounds_toArray, List.set_cons_zero, List.set_cons_succ]
  have X_11 := Lib.hid ((X_10.out.al (.cells ((opCells (kindO k a b)).toArray) 29)))
  have O_11 := Lib.hid ((O_10.out.al (.cells ((opCells (kindO k a b)).toArray) 29)))
  have S_11 := Lib.hid ((show Whole (w9.alloc (.cells ((opCells (kindO k a b)).toArray) 29)) (w9.heap.size) (29) (opCells (kindO k a b)) from Whole.new2 (by first | rfl | simp)))
  have Bel_11 := Lib.hid (bel_al Bel_10.out (.cells ((opCells (kindO k a b)).toArray) 29))
  obtain ⟨v11, gv11⟩ : ∃ x, (w9.alloc (.cells ((opCells (kindO k a b)).toArray) 29)) = x := ⟨_, rfl⟩
  rw [gv11] at X_11 O_11 S_11 Bel_11 ⊢
  clear gv11
  obtain ⟨g12, gg12⟩ : ∃ x, w9.heap.size = x := ⟨_, rfl⟩
  rw [gg12] at S_11 ⊢
  clear gg12
  go_wp2_with fail
  refine (HE.out (some ⟨g12, 0, none⟩) 1 _ (show RdS _ _ 20 _ 1 1 (rowsV opCells [kindO k a b]) from RdS.of_whole S_11.out rfl)).mono ?_
  rintro e w13 ⟨rfl, hb13⟩
  have X_14 := Lib.hid (X_11.out.bl hb13)
  have O_14 := Lib.hid (O_11.out.bl hb13)
  have S_14 := Lib.hid (S_11.out.bl hb13)
  have Bel_14 := Lib.hid (bel_bl Bel_11.out hb13)
  clear hb13
  go_wp2
  go_ret
  exact ⟨rfl, Bel_14.out⟩

set_option maxRecDepth 100000 in
set_option maxHeartbeats 4000000 in
theorem kd_0n (k a b : Int) (hm : mayI a b = false) (hk : ¬ (k = 1 ∨ k = 2 ∨ k = 4 ∨ k = 7 ∨ k = 8)) (w : World) : Calls Try.prog 8 #[.int .i64 k, .agg #[.int .i64 a, .int .i64 b]] w fun e w' => e = .returned (.bool true) ∧ Below w.heap.size w w' := by
  have hv : mayO (kindO k a b) = 1 := by rw [kindO_may]; rw [if_neg (fun h => hk h.2)]
  have h1 := mayop_any (kindO k a b)
  rw [hv] at h1
  have H1 := Lib.hid h1
  have hE := fun A c W h => mayedit_any A 1 c [kindO k a b] W h (by decide)
  rw [show mayE [kindO k a b] = 1 by simp [mayE, mayEs, hv]] at hE
  have HE := Lib.hid hE
  have h2 := rmay_any a b
  rw [hm] at h2
  have H2 := Lib.hid h2
  clear h1 h2 hv hm hE
  have q1 : (k == 1) = false := beq_eq_false_iff_ne.2 (by omega)
  have q2 : (k == 2) = false := beq_eq_false_iff_ne.2 (by omega)
  have q4 : (k == 4) = false := beq_eq_false_iff_ne.2 (by omega)
  have q7 : (k == 7) = false := beq_eq_false_iff_ne.2 (by omega)
  have q8 : (k == 8) = false := beq_eq_false_iff_ne.2 (by omega)
  clear hk
  go_enter Try.func8, Try.ntmps8
  go_wp2_with fail
  refine (shown9 _).mono ?_
  rintro e w1 ⟨rfl, hb1⟩
  have X_2 := Lib.hid ((show Whole (w.alloc (.cells #[.int .i64 a, .int .i64 b] 23)) (w.heap.size) (23) ([.int .i64 a, .int .i64 b]) from Whole.new2 (by first | rfl | simp)).bl hb1)
  have Bel_2 := Lib.hid (bel_bl (bel_al (Below.refl _ w) (.cells #[.int .i64 a, .int .i64 b] 23)) hb1)
  clear hb1
  go_upto_region 2 with fail
  refine wp_region_lit ?_
  refine wl_read (v := ?_) (some 11) rfl (by rfl) ?_ ?_
  rotate_left
  · go_simp; (try with_reducible rfl)
  simp only [Act.put, List.setIfInBounds_toArray, List.set_cons_zero, List.set_cons_succ]
  refine wl_load (some 12) rfl (by rfl) 23 (.tmp 3) rfl (w.heap.size) rfl 23 ([.int .i64 a, .int .i64 b]) _ X_2.out Try.underlying23 rfl (by kernel_rfl) ?_
  simp only [Act.put, List.setIfInBounds_toArray, List.set_cons_zero, List.set_cons_succ]
  refine wl_read (v := ?_) (some 13) rfl (by rfl) ?_ ?_
  rotate_left
  · go_simp; (try with_reducible rfl)
  simp only [Act.put, List.setIfInBounds_toArray, List.set_cons_zero, List.set_cons_succ]
  refine wl_new 6 rfl rfl rfl 29 (.tmp 13) rfl rfl #[.int .i64 0, .int .i64 0, .int .i64 0, .int .i64 0, .int .i64 0, .int .i64 0, .int .i64 0, .int .i64 0, .int .i64 0, .int .i64 0, .int .i64 0, .int .i64 0, .int .i64 0, .int .i64 0, .int .i64 0, .int .i64 0, .int .i64 0, .bool false, .string ⟨#[]⟩, .int .i64 0] ?_ ((opCells (kindO k a b)).toArray) (by simp) rfl (by kernel_rfl) rfl (opCells_all _) ?_
  · go_simp; (try with_reducible rfl)
  simp only [Act.put, List.setIfInBounds_toArray, List.set_cons_zero, List.set_cons_succ]
  have X_3 := Lib.hid ((X_2.out.al (.cells ((opCells (kindO k a b)).toArray) 29)))
  have O_3 := Lib.hid ((show Whole (w1.alloc (.cells ((opCells (kindO k a b)).toArray) 29)) (w1.heap.size) (29) (opCells (kindO k a b)) from Whole.new2 (by first | rfl | simp)))
  have Bel_3 := Lib.hid (bel_al Bel_2.out (.cells ((opCells (kindO k a b)).toArray) 29))
  obtain ⟨v3, gv3⟩ : ∃ x, (w1.alloc (.cells ((opCells (kindO k a b)).toArray) 29)) = x := ⟨_, rfl⟩
  rw [gv3] at X_3 O_3 Bel_3 ⊢
  clear gv3
  obtain ⟨g4, gg4⟩ : ∃ x, w1.heap.size = x := ⟨_, rfl⟩
  rw [gg4] at O_3 ⊢
  clear gg4
  have lw5 : (v3).cell? ⟨w.heap.size, 0, none⟩ = some (.int .i64 a) := X_3.out.cell (i := 0) rfl
  have lw6 : (v3).cell? ⟨w.heap.size, 1, none⟩ = some (.int .i64 b) := X_3.out.cell (i := 1) rfl
  go_wp2_with fail
  clear lw5 lw6
  refine (H2.out _).mono ?_
  rintro e w7 ⟨rfl, hb7⟩
  have X_8 := Lib.hid (X_3.out.bl hb7)
  have O_8 := Lib.hid (O_3.out.bl hb7)
  have Bel_8 := Lib.hid (bel_bl Bel_3.out hb7)
  clear hb7
  go_upto_region 5 with fail
  refine wp_region_lit ?_
  refine wl_load (some 34) rfl (by rfl) 29 (.tmp 6) rfl (g4) rfl 29 (opCells (kindO k a b)) _ O_8.out Try.underlying29 rfl (by kernel_rfl) ?_
  simp only [Act.put, List.setIfInBounds_toArray, List.set_cons_zero, List.set_cons_succ]
  go_wp2_with fail
  refine (H1.out _).mono ?_
  rintro e w9 ⟨rfl, hb9⟩
  have X_10 := Lib.hid (X_8.out.bl hb9)
  have O_10 := Lib.hid (O_8.out.bl hb9)
  have Bel_10 := Lib.hid (bel_bl Bel_8.out hb9)
  clear hb9
  go_upto_region 6 with fail
  refine wp_region_lit ?_
  refine wl_read (v := ?_) (some 36) rfl (by rfl) ?_ ?_
  rotate_left
  · go_simp; (try with_reducible rfl)
  simp only [Act.put, List.setIfInBounds_toArray, List.set_cons_zero, List.set_cons_succ]
  refine wl_read (v := ?_) (some 37) rfl (by rfl) ?_ ?_
  rotate_left
  · go_simp; (try with_reducible rfl)
  simp only [Act.put, List.setIfInBounds_toArray, List.set_cons_zero, List.set_cons_succ]
  refine wl_read (v := ?_) (some 38) rfl (by rfl) ?_ ?_
  rotate_left
  · go_simp; (try with_reducible rfl)
  simp only [Act.put, List.setIfInBounds_toArray, List.set_cons_zero, List.set_cons_succ]
  refine wl_read (v := ?_) (some 39) rfl (by rfl) ?_ ?_
  rotate_left
  · go_simp; (try with_reducible rfl)
  simp only [Act.put, List.setIfInBounds_toArray, List.set_cons_zero, List.set_cons_succ]
  refine wl_read (v := ?_) (some 40) rfl (by rfl) ?_ ?_
  rotate_left
  · go_simp; (try with_reducible rfl)
  simp only [Act.put, List.setIfInBounds_toArray, List.set_cons_zero, List.set_cons_succ]
  refine wl_read (v := ?_) (some 41) rfl (by rfl) ?_ ?_
  rotate_left
  · go_simp; (try with_reducible rfl)
  simp only [Act.put, List.setIfInBounds_toArray, List.set_cons_zero, List.set_cons_succ]
  refine wl_skip (some 42) rfl (by rfl) ?_
  simp only [Act.put, List.setIfInBounds_toArray, List.set_cons_zero, List.set_cons_succ]
  refine wl_read (v := ?_) (some 43) rfl (by rfl) ?_ ?_
  rotate_left
  · go_simp; (try with_reducible rfl)
  simp only [Act.put, List.setIfInBounds_toArray, List.set_cons_zero, List.set_cons_succ]
  refine wl_read (v := ?_) (some 44) rfl (by rfl) ?_ ?_
  rotate_left
  · go_simp; (try with_reducible rfl)
  simp only [Act.put, List.setIfInBounds_toArray, List.set_cons_zero, List.set_cons_succ]
  refine wl_read (v := ?_) (some 45) rfl (by rfl) ?_ ?_
  rotate_left
  · go_simp; (try with_reducible rfl)
  simp only [Act.put, List.setIfInBounds_toArray, List.set_cons_zero, List.set_cons_succ]
  refine wl_read (v := ?_) (some 46) rfl (by rfl) ?_ ?_
  rotate_left
  · go_simp; (try with_reducible rfl)
  simp only [Act.put, List.setIfInBounds_toArray, List.set_cons_zero, List.set_cons_succ]
  refine wl_read (v := ?_) (some 47) rfl (by rfl) ?_ ?_
  rotate_left
  · go_simp; (try with_reducible rfl)
  simp only [Act.put, List.setIfInBounds_toArray, List.set_cons_zero, List.set_cons_succ]
  refine wl_read (v := ?_) (some 48) rfl (by rfl) ?_ ?_
  rotate_left
  · go_simp; (try with_reducible rfl)
  simp only [Act.put, List.setIfInBounds_toArray, List.set_cons_zero, List.set_cons_succ]
  refine wl_read (v := ?_) (some 49) rfl (by rfl) ?_ ?_
  rotate_left
  · go_simp; (try with_reducible rfl)
  simp only [Act.put, List.setIfInBounds_toArray, List.set_cons_zero, List.set_cons_succ]
  refine wl_read (v := ?_) (some 50) rfl (by rfl) ?_ ?_
  rotate_left
  · go_simp; (try with_reducible rfl)
  simp only [Act.put, List.setIfInBounds_toArray, List.set_cons_zero, List.set_cons_succ]
  refine wl_read (v := ?_) (some 51) rfl (by rfl) ?_ ?_
  rotate_left
  · go_simp; (try with_reducible rfl)
  simp only [Act.put, List.setIfInBounds_toArray, List.set_cons_zero, List.set_cons_succ]
  refine wl_read (v := ?_) (some 52) rfl (by rfl) ?_ ?_
  rotate_left
  · go_simp; (try with_reducible rfl)
  simp only [Act.put, List.setIfInBounds_toArray, List.set_cons_zero, List.set_cons_succ]
  refine wl_read (v := ?_) (some 53) rfl (by rfl) ?_ ?_
  rotate_left
  · go_simp; (try with_reducible rfl)
  simp only [Act.put, List.setIfInBounds_toArray, List.set_cons_zero, List.set_cons_succ]
  refine wl_read (v := ?_) (some 54) rfl (by rfl) ?_ ?_
  rotate_left
  · go_simp; (try with_reducible rfl)
  simp only [Act.put, List.setIfInBounds_toArray, List.set_cons_zero, List.set_cons_succ]
  refine wl_load (some 55) rfl (by rfl) 29 (.tmp 6) rfl (g4) rfl 29 (opCells (kindO k a b)) _ O_10.out Try.underlying29 rfl (by kernel_rfl) ?_
  simp only [Act.put, List.setIfInBounds_toArray, List.set_cons_zero, List.set_cons_succ]
  refine wl_buildSlice (some 56) rfl (by rfl) 30 29 1 #[(0, .tmp 55)] rfl Try.underlying30 (opCells (kindO k a b)).toArray (by kernel_rfl) ?_
  simp only [Act.put, List.setIfInBounds_toArray, List.set_cons_zero, List.set_cons_succ]
  have X_11 := Lib.hid ((X_10.out.al (.cells ((opCells (kindO k a b)).toArray) 29)))
  have O_11 := Lib.hid ((O_10.out.al (.cells ((opCells (kindO k a b)).toArray) 29)))
  have S_11 := Lib.hid ((show Whole (w9.alloc (.cells ((opCells (kindO k a b)).toArray) 29)) (w9.heap.size) (29) (opCells (kindO k a b)) from Whole.new2 (by first | rfl | simp)))
  have Bel_11 := Lib.hid (bel_al Bel_10.out (.cells ((opCells (kindO k a b)).toArray) 29))
  obtain ⟨v11, gv11⟩ : ∃ x, (w9.alloc (.cells ((opCells (kindO k a b)).toArray) 29)) = x := ⟨_, rfl⟩
  rw [gv11] at X_11 O_11 S_11 Bel_11 ⊢
  clear gv11
  obtain ⟨g12, gg12⟩ : ∃ x, w9.heap.size = x := ⟨_, rfl⟩
  rw [gg12] at S_11 ⊢
  clear gg12
  go_wp2_with fail
  refine (HE.out (some ⟨g12, 0, none⟩) 1 _ (show RdS _ _ 20 _ 1 1 (rowsV opCells [kindO k a b]) from RdS.of_whole S_11.out rfl)).mono ?_
  rintro e w13 ⟨rfl, hb13⟩
  have X_14 := Lib.hid (X_11.out.bl hb13)
  have O_14 := Lib.hid (O_11.out.bl hb13)
  have S_14 := Lib.hid (S_11.out.bl hb13)
  have Bel_14 := Lib.hid (bel_bl Bel_11.out hb13)
  clear hb13
  go_wp2
  go_ret
  exact ⟨rfl, Bel_14.out⟩

theorem law_kinds (k a b : Int) (w : World) : Calls Try.prog 8 #[.int .i64 k, .agg #[.int .i64 a, .int .i64 b]] w fun e w' => e = .returned (.bool true) ∧ Below w.heap.size w w' := by
  by_cases k1 : k = 1
  · subst k1
    cases hm : mayI a b
    · exact kd_1n a b hm w
    · exact kd_1y a b hm w
  by_cases k2 : k = 2
  · subst k2
    cases hm : mayI a b
    · exact kd_2n a b hm w
    · exact kd_2y a b hm w
  by_cases k4 : k = 4
  · subst k4
    cases hm : mayI a b
    · exact kd_4n a b hm w
    · exact kd_4y a b hm w
  by_cases k7 : k = 7
  · subst k7
    cases hm : mayI a b
    · exact kd_7n a b hm w
    · exact kd_7y a b hm w
  by_cases k8 : k = 8
  · subst k8
    cases hm : mayI a b
    · exact kd_8n a b hm w
    · exact kd_8y a b hm w
  cases hm : mayI a b
  · exact kd_0n k a b hm (by omega) w
  · exact kd_0y k a b hm (by omega) w
end Go.Proofs.Ytfbgbljljhgbjaa
