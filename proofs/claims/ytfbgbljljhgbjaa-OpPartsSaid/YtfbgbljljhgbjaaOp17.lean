/- OpZero's walk. -/
import Derived.Test.YtfbgbljljhgbjaaOp15
namespace Go.Proofs.Ytfbgbljljhgbjaa
open Go.RowKit
set_option linter.unusedSimpArgs false
set_option linter.unusedVariables false

def setM (o : OpT) (n : Int) : OpT := { o with m := n }
def setT (o : OpT) (t : ByteArray) : OpT := { o with t := t }
def setN (o : OpT) : OpT := { o with s1 := 1, n1 := 1 }
def setK (o : OpT) : OpT := { o with k := o.k + 8 }
theorem may_parts {o : OpT} (h : mayO o = 0) : mayI o.s o.n = true ∧ fitsO o = true ∧ o = onlyO o := by
  unfold mayO at h
  split at h
  · assumption
  · cases h
theorem may_range {o : OpT} (h : mayO o = 0) : 1 ≤ o.k ∧ o.k ≤ 8 := by
  have hf := (may_parts h).2.1
  unfold fitsO at hf
  repeat' split at hf
  all_goals first | omega | (simp at hf; done)
theorem not_only {o : OpT} (h : o ≠ onlyO o) : mayO o = 1 := by
  unfold mayO
  rw [if_neg (fun h' => h h'.2.2)]
theorem may_setM (o : OpT) (n : Int) (h : mayO o = 0) (hn : 0 < n) (h5 : o.k ≠ 5) (h8 : o.k ≠ 8) : mayO (setM o n) = 1 := by
  refine not_only fun e => ?_
  have := congrArg OpT.m e
  unfold onlyO setM at this
  repeat' split at this
  all_goals first | omega | (simp at this; omega)
theorem may_setT (o : OpT) (t : ByteArray) (h : mayO o = 0) (ht : t ≠ ⟨#[]⟩) (h7 : o.k ≠ 7) : mayO (setT o t) = 1 := by
  refine not_only fun e => ?_
  have := congrArg OpT.t e
  unfold onlyO setT at this
  repeat' split at this
  all_goals first | omega | exact ht this
theorem may_setN (o : OpT) (h : mayO o = 0) (h5 : o.k ≠ 5) : mayO (setN o) = 1 := by
  refine not_only fun e => ?_
  have := congrArg OpT.s1 e
  unfold onlyO setN at this
  repeat' split at this
  all_goals first | omega | (simp at this; done)
theorem may_setK (o : OpT) (h : mayO o = 0) : mayO (setK o) = 1 := by
  have hr := may_range h
  unfold mayO
  rw [if_neg]
  rintro ⟨-, hf, -⟩
  unfold fitsO setK at hf
  simp only at hf
  rw [if_neg (by omega), if_neg (by omega), if_neg (by omega), if_neg (by omega), if_neg (by omega)] at hf
  cases hf

set_option maxRecDepth 100000 in
set_option maxHeartbeats 4000000 in
theorem oz_no (o : OpT) (n : Int) (t : ByteArray) (hm : mayO o ≠ 0) (w : World) : Calls Try.prog 5 #[.agg (opCells o).toArray, .int .i64 n, .string t] w fun e w' => e = .returned (.bool true) ∧ Below w.heap.size w w' := by
  have h1 := mayop_any o
  have q : (mayO o == 0) = false := beq_eq_false_iff_ne.2 hm
  have q' : (mayO o != 0) = true := bne_iff_ne.2 hm
  have H1 := Lib.hid h1
  clear h1 hm
  go_enter Try.func5, Try.ntmps5
  go_wp2_with fail
  refine (shown9 _).mono ?_
  rintro e w1 ⟨rfl, hb1⟩
  have O_2 := Lib.hid ((show Whole (w.alloc (.cells (opCells o).toArray 29)) (w.heap.size) (29) (opCells o) from Whole.new2 (by first | rfl | simp)).bl hb1)
  have Bel_2 := Lib.hid (bel_bl (bel_al (Below.refl _ w) (.cells (opCells o).toArray 29)) hb1)
  clear hb1
  obtain ⟨g0, gg0⟩ : ∃ x, w.heap.size = x := ⟨_, rfl⟩
  have LO0 : RowKit.Hid (w.heap.size ≤ g0) := Lib.hid (by omega)
  rw [gg0] at O_2
  rw [gg0]
  clear gg0
  go_upto_region 2 with fail
  refine wp_region_lit ?_
  refine wl_load (some 16) rfl (by rfl) 29 (.tmp 3) rfl (g0) rfl 29 (opCells o) _ O_2.out Try.underlying29 rfl (by kernel_rfl) ?_
  simp only [Act.put, List.setIfInBounds_toArray, List.set_cons_zero, List.set_cons_succ]
  go_wp2_with fail
  refine (H1.out _).mono ?_
  rintro e w3 ⟨rfl, hb3⟩
  have O_4 := Lib.hid (O_2.out.bl hb3)
  have Bel_4 := Lib.hid (bel_bl Bel_2.out hb3)
  clear hb3
  go_wp2
  go_ret
  exact ⟨rfl, Bel_4.out⟩

set_option maxRecDepth 100000 in
set_option maxHeartbeats 4000000 in
theorem oz_neg (o : OpT) (n : Int) (t : ByteArray) (hm : mayO o = 0) (hn : decide (n ≤ 0) = true) (w : World) : Calls Try.prog 5 #[.agg (opCells o).toArray, .int .i64 n, .string t] w fun e w' => e = .returned (.bool true) ∧ Below w.heap.size w w' := by
  have h1 := mayop_any o
  rw [hm] at h1
  have H1 := Lib.hid h1
  clear h1 hm
  go_enter Try.func5, Try.ntmps5
  go_wp2_with fail
  refine (shown9 _).mono ?_
  rintro e w1 ⟨rfl, hb1⟩
  have O_2 := Lib.hid ((show Whole (w.alloc (.cells (opCells o).toArray 29)) (w.heap.size) (29) (opCells o) from Whole.new2 (by first | rfl | simp)).bl hb1)
  have Bel_2 := Lib.hid (bel_bl (bel_al (Below.refl _ w) (.cells (opCells o).toArray 29)) hb1)
  clear hb1
  obtain ⟨g0, gg0⟩ : ∃ x, w.heap.size = x := ⟨_, rfl⟩
  have LO0 : RowKit.Hid (w.heap.size ≤ g0) := Lib.hid (by omega)
  rw [gg0] at O_2
  rw [gg0]
  clear gg0
  go_upto_region 2 with fail
  refine wp_region_lit ?_
  refine wl_load (some 16) rfl (by rfl) 29 (.tmp 3) rfl (g0) rfl 29 (opCells o) _ O_2.out Try.underlying29 rfl (by kernel_rfl) ?_
  simp only [Act.put, List.setIfInBounds_toArray, List.set_cons_zero, List.set_cons_succ]
  go_wp2_with fail
  refine (H1.out _).mono ?_
  rintro e w3 ⟨rfl, hb3⟩
  have O_4 := Lib.hid (O_2.out.bl hb3)
  have Bel_4 := Lib.hid (bel_bl Bel_2.out hb3)
  clear hb3
  go_wp2
  go_ret
  exact ⟨rfl, Bel_4.out⟩

set_option maxRecDepth 100000 in
set_option maxHeartbeats 4000000 in
theorem oz_str (o : OpT) (n : Int) (hm : mayO o = 0) (hn : decide (n ≤ 0) = false) (w : World) : Calls Try.prog 5 #[.agg (opCells o).toArray, .int .i64 n, .string ⟨#[]⟩] w fun e w' => e = .returned (.bool true) ∧ Below w.heap.size w w' := by
  have h1 := mayop_any o
  rw [hm] at h1
  have H1 := Lib.hid h1
  clear h1 hm
  go_enter Try.func5, Try.ntmps5
  go_wp2_with fail
  refine (shown9 _).mono ?_
  rintro e w1 ⟨rfl, hb1⟩
  have O_2 := Lib.hid ((show Whole (w.alloc (.cells (opCells o).toArray 29)) (w.heap.size) (29) (opCells o) from Whole.new2 (by first | rfl | simp)).bl hb1)
  have Bel_2 := Lib.hid (bel_bl (bel_al (Below.refl _ w) (.cells (opCells o).toArray 29)) hb1)
  clear hb1
  obtain ⟨g0, gg0⟩ : ∃ x, w.heap.size = x := ⟨_, rfl⟩
  have LO0 : RowKit.Hid (w.heap.size ≤ g0) := Lib.hid (by omega)
  rw [gg0] at O_2
  rw [gg0]
  clear gg0
  go_upto_region 2 with fail
  refine wp_region_lit ?_
  refine wl_load (some 16) rfl (by rfl) 29 (.tmp 3) rfl (g0) rfl 29 (opCells o) _ O_2.out Try.underlying29 rfl (by kernel_rfl) ?_
  simp only [Act.put, List.setIfInBounds_toArray, List.set_cons_zero, List.set_cons_succ]
  go_wp2_with fail
  refine (H1.out _).mono ?_
  rintro e w3 ⟨rfl, hb3⟩
  have O_4 := Lib.hid (O_2.out.bl hb3)
  have Bel_4 := Lib.hid (bel_bl Bel_2.out hb3)
  clear hb3
  go_wp2
  go_ret
  exact ⟨rfl, Bel_4.out⟩

set_option maxRecDepth 100000 in
set_option maxHeartbeats 4000000 in
theorem oz_5 (o : OpT) (n : Int) (t : ByteArray) (hm : mayO o = 0) (hn : decide (n ≤ 0) = false) (ht : t ≠ ⟨#[]⟩) (hk : o.k = 5) (w : World) : Calls Try.prog 5 #[.agg (opCells o).toArray, .int .i64 n, .string t] w fun e w' => e = .returned (.bool true) ∧ Below w.heap.size w w' := by
  have h1 := mayop_any o
  rw [hm] at h1
  have H1 := Lib.hid h1
  have ht' : ¬ t.toList = [] := fun h => ht (by rw [ByteArray.toList_eq] at h; exact ByteArray.ext (Array.toList_inj.1 (by simpa using h)))
  have ht1 : t.toList.isEmpty = false := by cases h : t.toList.isEmpty <;> simp_all
  have hr := may_range hm
  have hT := mayop_any (setT o t)
  rw [may_setT o t hm ht (by omega)] at hT
  have HT := Lib.hid hT
  clear hT
  have hK := mayop_any (setK o)
  rw [may_setK o hm] at hK
  have HK := Lib.hid hK
  clear hK
  have q5 : (o.k == 5) = true := by rw [hk]; rfl
  have q7 : (o.k == 7) = false := by rw [hk]; rfl
  have q8 : (o.k == 8) = false := by rw [hk]; rfl
  obtain ⟨hr1, hr2⟩ := hr
  clear h1 hm ht hk
  go_enter Try.func5, Try.ntmps5
  go_wp2_with fail
  refine (shown9 _).mono ?_
  rintro e w1 ⟨rfl, hb1⟩
  have O_2 := Lib.hid ((show Whole (w.alloc (.cells (opCells o).toArray 29)) (w.heap.size) (29) (opCells o) from Whole.new2 (by first | rfl | simp)).bl hb1)
  have Bel_2 := Lib.hid (bel_bl (bel_al (Below.refl _ w) (.cells (opCells o).toArray 29)) hb1)
  clear hb1
  obtain ⟨g0, gg0⟩ : ∃ x, w.heap.size = x := ⟨_, rfl⟩
  have LO0 : RowKit.Hid (w.heap.size ≤ g0) := Lib.hid (by omega)
  rw [gg0] at O_2
  rw [gg0]
  clear gg0
  go_upto_region 2 with fail
  refine wp_region_lit ?_
  refine wl_load (some 16) rfl (by rfl) 29 (.tmp 3) rfl (g0) rfl 29 (opCells o) _ O_2.out Try.underlying29 rfl (by kernel_rfl) ?_
  simp only [Act.put, List.setIfInBounds_toArray, List.set_cons_zero, List.set_cons_succ]
  go_wp2_with fail
  refine (H1.out _).mono ?_
  rintro e w3 ⟨rfl, hb3⟩
  have O_4 := Lib.hid (O_2.out.bl hb3)
  have Bel_4 := Lib.hid (bel_bl Bel_2.out hb3)
  clear hb3
  go_upto_region 4 with fail
  refine wp_region_lit ?_
  refine wl_load (some 28) rfl (by rfl) 29 (.tmp 3) rfl (g0) rfl 29 (opCells o) _ O_4.out Try.underlying29 rfl (by kernel_rfl) ?_
  simp only [Act.put, List.setIfInBounds_toArray, List.set_cons_zero, List.set_cons_succ]
  refine wl_new 8 rfl rfl rfl 29 (.tmp 28) rfl rfl #[.int .i64 0, .int .i64 0, .int .i64 0, .int .i64 0, .int .i64 0, .int .i64 0, .int .i64 0, .int .i64 0, .int .i64 0, .int .i64 0, .int .i64 0, .int .i64 0, .int .i64 0, .int .i64 0, .int .i64 0, .int .i64 0, .int .i64 0, .bool false, .string ⟨#[]⟩, .int .i64 0] ?_ ((opCells o).toArray) (by simp) rfl (by kernel_rfl) rfl (opCells_all _) ?_
  · go_simp; (try with_reducible rfl)
  simp only [Act.put, List.setIfInBounds_toArray, List.set_cons_zero, List.set_cons_succ]
  have NE_O_A_5 : RowKit.Hid (g0 ≠ w3.heap.size) := Lib.hid (by have := (O_4.out).lt; omega)
  have LO_A_5 : RowKit.Hid (w.heap.size ≤ w3.heap.size) := Lib.hid (Bel_4.out).size
  have O_6 := Lib.hid ((O_4.out.al (.cells ((opCells o).toArray) 29)))
  have A_6 := Lib.hid ((show Whole (w3.alloc (.cells ((opCells o).toArray) 29)) (w3.heap.size) (29) (opCells o) from Whole.new2 (by first | rfl | simp)))
  have Bel_6 := Lib.hid (bel_al Bel_4.out (.cells ((opCells o).toArray) 29))
  obtain ⟨v6, gv6⟩ : ∃ x, (w3.alloc (.cells ((opCells o).toArray) 29)) = x := ⟨_, rfl⟩
  rw [gv6] at O_6 A_6 Bel_6 ⊢
  clear gv6
  obtain ⟨g7, gg7⟩ : ∃ x, w3.heap.size = x := ⟨_, rfl⟩
  rw [gg7] at A_6 LO_A_5 NE_O_A_5
  rw [gg7]
  clear gg7
  have lw8 : (v6).cell? ⟨g7, 19, none⟩ = some (.int .i64 o.m) := A_6.out.cell (i := 19) rfl
  have fr19 := A_6.out.free 19
  go_upto_region 6 with fail
  clear lw8 fr19
  obtain ⟨v9, gv9⟩ : ∃ x, (v6.setCell ⟨g7, 19, none⟩ (.int .i64 n)) = x := ⟨_, rfl⟩
  have O_9 := Lib.hid (show Whole v9 g0 _ _ from gv9 ▸ (O_6.out.far (by show g0 ≠ g7; exact NE_O_A_5.out) _))
  have A_9 : RowKit.Hid (Whole v9 g7 29 (opCells (setM o n))) := Lib.hid (gv9 ▸ (A_6.out.set_ 19 _))
  have Bel_9 : RowKit.Hid (Below w.heap.size w v9) := Lib.hid (gv9 ▸ (Bel_6.out.setCell (by show w.heap.size ≤ g7; exact LO_A_5.out) _))
  rw [gv9]
  clear gv9
  go_upto_region 6 with fail
  refine wp_region_lit ?_
  refine wl_load (some 31) rfl (by rfl) 29 (.tmp 3) rfl (g0) rfl 29 (opCells o) _ O_9.out Try.underlying29 rfl (by kernel_rfl) ?_
  simp only [Act.put, List.setIfInBounds_toArray, List.set_cons_zero, List.set_cons_succ]
  refine wl_new 9 rfl rfl rfl 29 (.tmp 31) rfl rfl #[.int .i64 0, .int .i64 0, .int .i64 0, .int .i64 0, .int .i64 0, .int .i64 0, .int .i64 0, .int .i64 0, .int .i64 0, .int .i64 0, .int .i64 0, .int .i64 0, .int .i64 0, .int .i64 0, .int .i64 0, .int .i64 0, .int .i64 0, .bool false, .string ⟨#[]⟩, .int .i64 0] ?_ ((opCells o).toArray) (by simp) rfl (by kernel_rfl) rfl (opCells_all _) ?_
  · go_simp; (try with_reducible rfl)
  simp only [Act.put, List.setIfInBounds_toArray, List.set_cons_zero, List.set_cons_succ]
  have NE_O_B_10 : RowKit.Hid (g0 ≠ v9.heap.size) := Lib.hid (by have := (O_9.out).lt; omega)
  have NE_A_B_10 : RowKit.Hid (g7 ≠ v9.heap.size) := Lib.hid (by have := (A_9.out).lt; omega)
  have LO_B_10 : RowKit.Hid (w.heap.size ≤ v9.heap.size) := Lib.hid (Bel_9.out).size
  have O_11 := Lib.hid ((O_9.out.al (.cells ((opCells o).toArray) 29)))
  have A_11 := Lib.hid ((A_9.out.al (.cells ((opCells o).toArray) 29)))
  have B_11 := Lib.hid ((show Whole (v9.alloc (.cells ((opCells o).toArray) 29)) (v9.heap.size) (29) (opCells o) from Whole.new2 (by first | rfl | simp)))
  have Bel_11 := Lib.hid (bel_al Bel_9.out (.cells ((opCells o).toArray) 29))
  obtain ⟨v11, gv11⟩ : ∃ x, (v9.alloc (.cells ((opCells o).toArray) 29)) = x := ⟨_, rfl⟩
  rw [gv11] at O_11 A_11 B_11 Bel_11 ⊢
  clear gv11
  obtain ⟨g12, gg12⟩ : ∃ x, v9.heap.size = x := ⟨_, rfl⟩
  rw [gg12] at B_11 LO_B_10 NE_O_B_10 NE_A_B_10
  rw [gg12]
  clear gg12
  have lw13 : (v11).cell? ⟨g12, 18, none⟩ = some (.string o.t) := B_11.out.cell (i := 18) rfl
  have fr18 := B_11.out.free 18
  go_upto_region 8 with fail
  clear lw13 fr18
  obtain ⟨v14, gv14⟩ : ∃ x, (v11.setCell ⟨g12, 18, none⟩ (.string t)) = x := ⟨_, rfl⟩
  have O_14 := Lib.hid (show Whole v14 g0 _ _ from gv14 ▸ (O_11.out.far (by show g0 ≠ g12; exact NE_O_B_10.out) _))
  have A_14 := Lib.hid (show Whole v14 g7 _ _ from gv14 ▸ (A_11.out.far (by show g7 ≠ g12; exact NE_A_B_10.out) _))
  have B_14 : RowKit.Hid (Whole v14 g12 29 (opCells (setT o t))) := Lib.hid (gv14 ▸ (B_11.out.set_ 18 _))
  have Bel_14 : RowKit.Hid (Below w.heap.size w v14) := Lib.hid (gv14 ▸ (Bel_11.out.setCell (by show w.heap.size ≤ g12; exact LO_B_10.out) _))
  rw [gv14]
  clear gv14
  go_upto_region 8 with fail
  refine wp_region_lit ?_
  refine wl_load (some 34) rfl (by rfl) 29 (.tmp 3) rfl (g0) rfl 29 (opCells o) _ O_14.out Try.underlying29 rfl (by kernel_rfl) ?_
  simp only [Act.put, List.setIfInBounds_toArray, List.set_cons_zero, List.set_cons_succ]
  refine wl_new 10 rfl rfl rfl 29 (.tmp 34) rfl rfl #[.int .i64 0, .int .i64 0, .int .i64 0, .int .i64 0, .int .i64 0, .int .i64 0, .int .i64 0, .int .i64 0, .int .i64 0, .int .i64 0, .int .i64 0, .int .i64 0, .int .i64 0, .int .i64 0, .int .i64 0, .int .i64 0, .int .i64 0, .bool false, .string ⟨#[]⟩, .int .i64 0] ?_ ((opCells o).toArray) (by simp) rfl (by kernel_rfl) rfl (opCells_all _) ?_
  · go_simp; (try with_reducible rfl)
  simp only [Act.put, List.setIfInBounds_toArray, List.set_cons_zero, List.set_cons_succ]
  have NE_O_C_15 : RowKit.Hid (g0 ≠ v14.heap.size) := Lib.hid (by have := (O_14.out).lt; omega)
  have NE_A_C_15 : RowKit.Hid (g7 ≠ v14.heap.size) := Lib.hid (by have := (A_14.out).lt; omega)
  have NE_B_C_15 : RowKit.Hid (g12 ≠ v14.heap.size) := Lib.hid (by have := (B_14.out).lt; omega)
  have LO_C_15 : RowKit.Hid (w.heap.size ≤ v14.heap.size) := Lib.hid (Bel_14.out).size
  have O_16 := Lib.hid ((O_14.out.al (.cells ((opCells o).toArray) 29)))
  have A_16 := Lib.hid ((A_14.out.al (.cells ((opCells o).toArray) 29)))
  have B_16 := Lib.hid ((B_14.out.al (.cells ((opCells o).toArray) 29)))
  have C_16 := Lib.hid ((show Whole (v14.alloc (.cells ((opCells o).toArray) 29)) (v14.heap.size) (29) (opCells o) from Whole.new2 (by first | rfl | simp)))
  have Bel_16 := Lib.hid (bel_al Bel_14.out (.cells ((opCells o).toArray) 29))
  obtain ⟨v16, gv16⟩ : ∃ x, (v14.alloc (.cells ((opCells o).toArray) 29)) = x := ⟨_, rfl⟩
  rw [gv16] at O_16 A_16 B_16 C_16 Bel_16 ⊢
  clear gv16
  obtain ⟨g17, gg17⟩ : ∃ x, v14.heap.size = x := ⟨_, rfl⟩
  rw [gg17] at C_16 LO_C_15 NE_O_C_15 NE_A_C_15 NE_B_C_15
  rw [gg17]
  clear gg17
  have lw18 : (v16).cell? ⟨g17, 3, none⟩ = some (.int .i64 o.s1) := C_16.out.cell (i := 3) rfl
  have lw19 : (v16).cell? ⟨g17, 4, none⟩ = some (.int .i64 o.n1) := C_16.out.cell (i := 4) rfl
  have fr3 := C_16.out.free 3
  have fr4 := C_16.out.free 4
  go_upto_region 10 with fail
  clear lw18 lw19 fr3 fr4
  obtain ⟨v20, gv20⟩ : ∃ x, ((v16.setCell ⟨g17, 3, none⟩ (.int .i64 1)).setCell ⟨g17, 4, none⟩ (.int .i64 1)) = x := ⟨_, rfl⟩
  have O_20 := Lib.hid (show Whole v20 g0 _ _ from gv20 ▸ ((O_16.out.far (by show g0 ≠ g17; exact NE_O_C_15.out) _).far (by show g0 ≠ g17; exact NE_O_C_15.out) _))
  have A_20 := Lib.hid (show Whole v20 g7 _ _ from gv20 ▸ ((A_16.out.far (by show g7 ≠ g17; exact NE_A_C_15.out) _).far (by show g7 ≠ g17; exact NE_A_C_15.out) _))
  have B_20 := Lib.hid (show Whole v20 g12 _ _ from gv20 ▸ ((B_16.out.far (by show g12 ≠ g17; exact NE_B_C_15.out) _).far (by show g12 ≠ g17; exact NE_B_C_15.out) _))
  have C_20 : RowKit.Hid (Whole v20 g17 29 (opCells (setN o))) := Lib.hid (gv20 ▸ ((C_16.out.set_ 3 _).set_ 4 _))
  have Bel_20 : RowKit.Hid (Below w.heap.size w v20) := Lib.hid (gv20 ▸ ((Bel_16.out.setCell (by show w.heap.size ≤ g17; exact LO_C_15.out) _).setCell (by show w.heap.size ≤ g17; exact LO_C_15.out) _))
  rw [gv20]
  clear gv20
  go_upto_region 10 with fail
  refine wp_region_lit ?_
  refine wl_load (some 37) rfl (by rfl) 29 (.tmp 3) rfl (g0) rfl 29 (opCells o) _ O_20.out Try.underlying29 rfl (by kernel_rfl) ?_
  simp only [Act.put, List.setIfInBounds_toArray, List.set_cons_zero, List.set_cons_succ]
  refine wl_new 11 rfl rfl rfl 29 (.tmp 37) rfl rfl #[.int .i64 0, .int .i64 0, .int .i64 0, .int .i64 0, .int .i64 0, .int .i64 0, .int .i64 0, .int .i64 0, .int .i64 0, .int .i64 0, .int .i64 0, .int .i64 0, .int .i64 0, .int .i64 0, .int .i64 0, .int .i64 0, .int .i64 0, .bool false, .string ⟨#[]⟩, .int .i64 0] ?_ ((opCells o).toArray) (by simp) rfl (by kernel_rfl) rfl (opCells_all _) ?_
  · go_simp; (try with_reducible rfl)
  simp only [Act.put, List.setIfInBounds_toArray, List.set_cons_zero, List.set_cons_succ]
  have NE_O_D_21 : RowKit.Hid (g0 ≠ v20.heap.size) := Lib.hid (by have := (O_20.out).lt; omega)
  have NE_A_D_21 : RowKit.Hid (g7 ≠ v20.heap.size) := Lib.hid (by have := (A_20.out).lt; omega)
  have NE_B_D_21 : RowKit.Hid (g12 ≠ v20.heap.size) := Lib.hid (by have := (B_20.out).lt; omega)
  have NE_C_D_21 : RowKit.Hid (g17 ≠ v20.heap.size) := Lib.hid (by have := (C_20.out).lt; omega)
  have LO_D_21 : RowKit.Hid (w.heap.size ≤ v20.heap.size) := Lib.hid (Bel_20.out).size
  have O_22 := Lib.hid ((O_20.out.al (.cells ((opCells o).toArray) 29)))
  have A_22 := Lib.hid ((A_20.out.al (.cells ((opCells o).toArray) 29)))
  have B_22 := Lib.hid ((B_20.out.al (.cells ((opCells o).toArray) 29)))
  have C_22 := Lib.hid ((C_20.out.al (.cells ((opCells o).toArray) 29)))
  have D_22 := Lib.hid ((show Whole (v20.alloc (.cells ((opCells o).toArray) 29)) (v20.heap.size) (29) (opCells o) from Whole.new2 (by first | rfl | simp)))
  have Bel_22 := Lib.hid (bel_al Bel_20.out (.cells ((opCells o).toArray) 29))
  obtain ⟨v22, gv22⟩ : ∃ x, (v20.alloc (.cells ((opCells o).toArray) 29)) = x := ⟨_, rfl⟩
  rw [gv22] at O_22 A_22 B_22 C_22 D_22 Bel_22 ⊢
  clear gv22
  obtain ⟨g23, gg23⟩ : ∃ x, v20.heap.size = x := ⟨_, rfl⟩
  rw [gg23] at D_22 LO_D_21 NE_O_D_21 NE_A_D_21 NE_B_D_21 NE_C_D_21
  rw [gg23]
  clear gg23
  have lw24 : (v22).cell? ⟨g23, 0, none⟩ = some (.int .i64 o.k) := D_22.out.cell (i := 0) rfl
  have fr0 := D_22.out.free 0
  have lw25 : (v22).cell? ⟨g0, 0, none⟩ = some (.int .i64 o.k) := O_22.out.cell (i := 0) rfl
  go_upto_region 12 with fail
  clear lw24 lw25 fr0
  obtain ⟨v26, gv26⟩ : ∃ x, (v22.setCell ⟨g23, 0, none⟩ (.int .i64 (o.k + 8))) = x := ⟨_, rfl⟩
  have O_26 := Lib.hid (show Whole v26 g0 _ _ from gv26 ▸ (O_22.out.far (by show g0 ≠ g23; exact NE_O_D_21.out) _))
  have A_26 := Lib.hid (show Whole v26 g7 _ _ from gv26 ▸ (A_22.out.far (by show g7 ≠ g23; exact NE_A_D_21.out) _))
  have B_26 := Lib.hid (show Whole v26 g12 _ _ from gv26 ▸ (B_22.out.far (by show g12 ≠ g23; exact NE_B_D_21.out) _))
  have C_26 := Lib.hid (show Whole v26 g17 _ _ from gv26 ▸ (C_22.out.far (by show g17 ≠ g23; exact NE_C_D_21.out) _))
  have D_26 : RowKit.Hid (Whole v26 g23 29 (opCells (setK o))) := Lib.hid (gv26 ▸ (D_22.out.set_ 0 _))
  have Bel_26 : RowKit.Hid (Below w.heap.size w v26) := Lib.hid (gv26 ▸ (Bel_22.out.setCell (by show w.heap.size ≤ g23; exact LO_D_21.out) _))
  rw [gv26]
  clear gv26
  have lw27 : (v26).cell? ⟨g0, 0, none⟩ = some (.int .i64 o.k) := O_26.out.cell (i := 0) rfl
  go_upto_region 13 with fail
  clear lw27
  have lw28 : (v26).cell? ⟨g0, 0, none⟩ = some (.int .i64 o.k) := O_26.out.cell (i := 0) rfl
  refine wp_region_lit ?_
  refine wl_read (v := ?_) (some 55) rfl (by rfl) ?_ ?_
  rotate_left
  · go_simp; (try with_reducible rfl)
  simp only [Act.put, List.setIfInBounds_toArray, List.set_cons_zero, List.set_cons_succ]
  refine wl_read (v := ?_) (some 56) rfl (by rfl) ?_ ?_
  rotate_left
  · go_simp; (try with_reducible rfl)
  simp only [Act.put, List.setIfInBounds_toArray, List.set_cons_zero, List.set_cons_succ]
  refine wl_read (v := ?_) (some 57) rfl (by rfl) ?_ ?_
  rotate_left
  · go_simp; (try with_reducible rfl)
  simp only [Act.put, List.setIfInBounds_toArray, List.set_cons_zero, List.set_cons_succ]
  refine wl_read (v := ?_) (some 58) rfl (by rfl) ?_ ?_
  rotate_left
  · go_simp; (try with_reducible rfl)
  simp only [Act.put, List.setIfInBounds_toArray, List.set_cons_zero, List.set_cons_succ]
  refine wl_load (some 59) rfl (by rfl) 29 (.tmp 9) rfl (g12) rfl 29 (opCells (setT o t)) _ B_26.out Try.underlying29 rfl (by kernel_rfl) ?_
  simp only [Act.put, List.setIfInBounds_toArray, List.set_cons_zero, List.set_cons_succ]
  clear lw28
  go_wp2_with fail
  refine (HT.out _).mono ?_
  rintro e w29 ⟨rfl, hb29⟩
  have O_30 := Lib.hid (O_26.out.bl hb29)
  have A_30 := Lib.hid (A_26.out.bl hb29)
  have B_30 := Lib.hid (B_26.out.bl hb29)
  have C_30 := Lib.hid (C_26.out.bl hb29)
  have D_30 := Lib.hid (D_26.out.bl hb29)
  have Bel_30 := Lib.hid (bel_bl Bel_26.out hb29)
  clear hb29
  go_upto_region 14 with fail
  have lw31 : (w29).cell? ⟨g0, 0, none⟩ = some (.int .i64 o.k) := O_30.out.cell (i := 0) rfl
  go_upto_region 15 with fail
  clear lw31
  refine wp_region_lit ?_
  refine wl_read (v := ?_) (some 71) rfl (by rfl) ?_ ?_
  rotate_left
  · go_simp; (try with_reducible rfl)
  simp only [Act.put, List.setIfInBounds_toArray, List.set_cons_zero, List.set_cons_succ]
  refine wl_read (v := ?_) (some 72) rfl (by rfl) ?_ ?_
  rotate_left
  · go_simp; (try with_reducible rfl)
  simp only [Act.put, List.setIfInBounds_toArray, List.set_cons_zero, List.set_cons_succ]
  refine wl_read (v := ?_) (some 73) rfl (by rfl) ?_ ?_
  rotate_left
  · go_simp; (try with_reducible rfl)
  simp only [Act.put, List.setIfInBounds_toArray, List.set_cons_zero, List.set_cons_succ]
  refine wl_read (v := ?_) (some 74) rfl (by rfl) ?_ ?_
  rotate_left
  · go_simp; (try with_reducible rfl)
  simp only [Act.put, List.setIfInBounds_toArray, List.set_cons_zero, List.set_cons_succ]
  refine wl_read (v := ?_) (some 75) rfl (by rfl) ?_ ?_
  rotate_left
  · go_simp; (try with_reducible rfl)
  simp only [Act.put, List.setIfInBounds_toArray, List.set_cons_zero, List.set_cons_succ]
  refine wl_read (v := ?_) (some 76) rfl (by rfl) ?_ ?_
  rotate_left
  · go_simp; (try with_reducible rfl)
  simp only [Act.put, List.setIfInBounds_toArray, List.set_cons_zero, List.set_cons_succ]
  refine wl_read (v := ?_) (some 77) rfl (by rfl) ?_ ?_
  rotate_left
  · go_simp; (try with_reducible rfl)
  simp only [Act.put, List.setIfInBounds_toArray, List.set_cons_zero, List.set_cons_succ]
  refine wl_read (v := ?_) (some 78) rfl (by rfl) ?_ ?_
  rotate_left
  · go_simp; (try with_reducible rfl)
  simp only [Act.put, List.setIfInBounds_toArray, List.set_cons_zero, List.set_cons_succ]
  refine wl_read (v := ?_) (some 79) rfl (by rfl) ?_ ?_
  rotate_left
  · go_simp; (try with_reducible rfl)
  simp only [Act.put, List.setIfInBounds_toArray, List.set_cons_zero, List.set_cons_succ]
  refine wl_read (v := ?_) (some 80) rfl (by rfl) ?_ ?_
  rotate_left
  · go_simp; (try with_reducible rfl)
  simp only [Act.put, List.setIfInBounds_toArray, List.set_cons_zero, List.set_cons_succ]
  refine wl_read (v := ?_) (some 81) rfl (by rfl) ?_ ?_
  rotate_left
  · go_simp; (try with_reducible rfl)
  simp only [Act.put, List.setIfInBounds_toArray, List.set_cons_zero, List.set_cons_succ]
  refine wl_load (some 82) rfl (by rfl) 29 (.tmp 11) rfl (g23) rfl 29 (opCells (setK o)) _ D_30.out Try.underlying29 rfl (by kernel_rfl) ?_
  simp only [Act.put, List.setIfInBounds_toArray, List.set_cons_zero, List.set_cons_succ]
  go_wp2_with fail
  refine (HK.out _).mono ?_
  rintro e w32 ⟨rfl, hb32⟩
  have O_33 := Lib.hid (O_30.out.bl hb32)
  have A_33 := Lib.hid (A_30.out.bl hb32)
  have B_33 := Lib.hid (B_30.out.bl hb32)
  have C_33 := Lib.hid (C_30.out.bl hb32)
  have D_33 := Lib.hid (D_30.out.bl hb32)
  have Bel_33 := Lib.hid (bel_bl Bel_30.out hb32)
  clear hb32
  go_wp2
  go_ret
  exact ⟨rfl, Bel_33.out⟩

set_option maxRecDepth 100000 in
set_option maxHeartbeats 4000000 in
theorem oz_7 (o : OpT) (n : Int) (t : ByteArray) (hm : mayO o = 0) (hn : decide (n ≤ 0) = false) (ht : t ≠ ⟨#[]⟩) (hk : o.k = 7) (w : World) : Calls Try.prog 5 #[.agg (opCells o).toArray, .int .i64 n, .string t] w fun e w' => e = .returned (.bool true) ∧ Below w.heap.size w w' := by
  have h1 := mayop_any o
  rw [hm] at h1
  have H1 := Lib.hid h1
  have ht' : ¬ t.toList = [] := fun h => ht (by rw [ByteArray.toList_eq] at h; exact ByteArray.ext (Array.toList_inj.1 (by simpa using h)))
  have ht1 : t.toList.isEmpty = false := by cases h : t.toList.isEmpty <;> simp_all
  have hr := may_range hm
  have hA := mayop_any (setM o n)
  rw [may_setM o n hm (by simpa using hn) (by omega) (by omega)] at hA
  have HA := Lib.hid hA
  clear hA
  have hN := mayop_any (setN o)
  rw [may_setN o hm (by omega)] at hN
  have HN := Lib.hid hN
  clear hN
  have hK := mayop_any (setK o)
  rw [may_setK o hm] at hK
  have HK := Lib.hid hK
  clear hK
  have q5 : (o.k == 5) = false := by rw [hk]; rfl
  have q7 : (o.k == 7) = true := by rw [hk]; rfl
  have q8 : (o.k == 8) = false := by rw [hk]; rfl
  obtain ⟨hr1, hr2⟩ := hr
  clear h1 hm ht hk
  go_enter Try.func5, Try.ntmps5
  go_wp2_with fail
  refine (shown9 _).mono ?_
  rintro e w1 ⟨rfl, hb1⟩
  have O_2 := Lib.hid ((show Whole (w.alloc (.cells (opCells o).toArray 29)) (w.heap.size) (29) (opCells o) from Whole.new2 (by first | rfl | simp)).bl hb1)
  have Bel_2 := Lib.hid (bel_bl (bel_al (Below.refl _ w) (.cells (opCells o).toArray 29)) hb1)
  clear hb1
  obtain ⟨g0, gg0⟩ : ∃ x, w.heap.size = x := ⟨_, rfl⟩
  have LO0 : RowKit.Hid (w.heap.size ≤ g0) := Lib.hid (by omega)
  rw [gg0] at O_2
  rw [gg0]
  clear gg0
  go_upto_region 2 with fail
  refine wp_region_lit ?_
  refine wl_load (some 16) rfl (by rfl) 29 (.tmp 3) rfl (g0) rfl 29 (opCells o) _ O_2.out Try.underlying29 rfl (by kernel_rfl) ?_
  simp only [Act.put, List.setIfInBounds_toArray, List.set_cons_zero, List.set_cons_succ]
  go_wp2_with fail
  refine (H1.out _).mono ?_
  rintro e w3 ⟨rfl, hb3⟩
  have O_4 := Lib.hid (O_2.out.bl hb3)
  have Bel_4 := Lib.hid (bel_bl Bel_2.out hb3)
  clear hb3
  go_upto_region 4 with fail
  refine wp_region_lit ?_
  refine wl_load (some 28) rfl (by rfl) 29 (.tmp 3) rfl (g0) rfl 29 (opCells o) _ O_4.out Try.underlying29 rfl (by kernel_rfl) ?_
  simp only [Act.put, List.setIfInBounds_toArray, List.set_cons_zero, List.set_cons_succ]
  refine wl_new 8 rfl rfl rfl 29 (.tmp 28) rfl rfl #[.int .i64 0, .int .i64 0, .int .i64 0, .int .i64 0, .int .i64 0, .int .i64 0, .int .i64 0, .int .i64 0, .int .i64 0, .int .i64 0, .int .i64 0, .int .i64 0, .int .i64 0, .int .i64 0, .int .i64 0, .int .i64 0, .int .i64 0, .bool false, .string ⟨#[]⟩, .int .i64 0] ?_ ((opCells o).toArray) (by simp) rfl (by kernel_rfl) rfl (opCells_all _) ?_
  · go_simp; (try with_reducible rfl)
  simp only [Act.put, List.setIfInBounds_toArray, List.set_cons_zero, List.set_cons_succ]
  have NE_O_A_5 : RowKit.Hid (g0 ≠ w3.heap.size) := Lib.hid (by have := (O_4.out).lt; omega)
  have LO_A_5 : RowKit.Hid (w.heap.size ≤ w3.heap.size) := Lib.hid (Bel_4.out).size
  have O_6 := Lib.hid ((O_4.out.al (.cells ((opCells o).toArray) 29)))
  have A_6 := Lib.hid ((show Whole (w3.alloc (.cells ((opCells o).toArray) 29)) (w3.heap.size) (29) (opCells o) from Whole.new2 (by first | rfl | simp)))
  have Bel_6 := Lib.hid (bel_al Bel_4.out (.cells ((opCells o).toArray) 29))
  obtain ⟨v6, gv6⟩ : ∃ x, (w3.alloc (.cells ((opCells o).toArray) 29)) = x := ⟨_, rfl⟩
  rw [gv6] at O_6 A_6 Bel_6 ⊢
  clear gv6
  obtain ⟨g7, gg7⟩ : ∃ x, w3.heap.size = x := ⟨_, rfl⟩
  rw [gg7] at A_6 LO_A_5 NE_O_A_5
  rw [gg7]
  clear gg7
  have lw8 : (v6).cell? ⟨g7, 19, none⟩ = some (.int .i64 o.m) := A_6.out.cell (i := 19) rfl
  have fr19 := A_6.out.free 19
  go_upto_region 6 with fail
  clear lw8 fr19
  obtain ⟨v9, gv9⟩ : ∃ x, (v6.setCell ⟨g7, 19, none⟩ (.int .i64 n)) = x := ⟨_, rfl⟩
  have O_9 := Lib.hid (show Whole v9 g0 _ _ from gv9 ▸ (O_6.out.far (by show g0 ≠ g7; exact NE_O_A_5.out) _))
  have A_9 : RowKit.Hid (Whole v9 g7 29 (opCells (setM o n))) := Lib.hid (gv9 ▸ (A_6.out.set_ 19 _))
  have Bel_9 : RowKit.Hid (Below w.heap.size w v9) := Lib.hid (gv9 ▸ (Bel_6.out.setCell (by show w.heap.size ≤ g7; exact LO_A_5.out) _))
  rw [gv9]
  clear gv9
  go_upto_region 6 with fail
  refine wp_region_lit ?_
  refine wl_load (some 31) rfl (by rfl) 29 (.tmp 3) rfl (g0) rfl 29 (opCells o) _ O_9.out Try.underlying29 rfl (by kernel_rfl) ?_
  simp only [Act.put, List.setIfInBounds_toArray, List.set_cons_zero, List.set_cons_succ]
  refine wl_new 9 rfl rfl rfl 29 (.tmp 31) rfl rfl #[.int .i64 0, .int .i64 0, .int .i64 0, .int .i64 0, .int .i64 0, .int .i64 0, .int .i64 0, .int .i64 0, .int .i64 0, .int .i64 0, .int .i64 0, .int .i64 0, .int .i64 0, .int .i64 0, .int .i64 0, .int .i64 0, .int .i64 0, .bool false, .string ⟨#[]⟩, .int .i64 0] ?_ ((opCells o).toArray) (by simp) rfl (by kernel_rfl) rfl (opCells_all _) ?_
  · go_simp; (try with_reducible rfl)
  simp only [Act.put, List.setIfInBounds_toArray, List.set_cons_zero, List.set_cons_succ]
  have NE_O_B_10 : RowKit.Hid (g0 ≠ v9.heap.size) := Lib.hid (by have := (O_9.out).lt; omega)
  have NE_A_B_10 : RowKit.Hid (g7 ≠ v9.heap.size) := Lib.hid (by have := (A_9.out).lt; omega)
  have LO_B_10 : RowKit.Hid (w.heap.size ≤ v9.heap.size) := Lib.hid (Bel_9.out).size
  have O_11 := Lib.hid ((O_9.out.al (.cells ((opCells o).toArray) 29)))
  have A_11 := Lib.hid ((A_9.out.al (.cells ((opCells o).toArray) 29)))
  have B_11 := Lib.hid ((show Whole (v9.alloc (.cells ((opCells o).toArray) 29)) (v9.heap.size) (29) (opCells o) from Whole.new2 (by first | rfl | simp)))
  have Bel_11 := Lib.hid (bel_al Bel_9.out (.cells ((opCells o).toArray) 29))
  obtain ⟨v11, gv11⟩ : ∃ x, (v9.alloc (.cells ((opCells o).toArray) 29)) = x := ⟨_, rfl⟩
  rw [gv11] at O_11 A_11 B_11 Bel_11 ⊢
  clear gv11
  obtain ⟨g12, gg12⟩ : ∃ x, v9.heap.size = x := ⟨_, rfl⟩
  rw [gg12] at B_11 LO_B_10 NE_O_B_10 NE_A_B_10
  rw [gg12]
  clear gg12
  have lw13 : (v11).cell? ⟨g12, 18, none⟩ = some (.string o.t) := B_11.out.cell (i := 18) rfl
  have fr18 := B_11.out.free 18
  go_upto_region 8 with fail
  clear lw13 fr18
  obtain ⟨v14, gv14⟩ : ∃ x, (v11.setCell ⟨g12, 18, none⟩ (.string t)) = x := ⟨_, rfl⟩
  have O_14 := Lib.hid (show Whole v14 g0 _ _ from gv14 ▸ (O_11.out.far (by show g0 ≠ g12; exact NE_O_B_10.out) _))
  have A_14 := Lib.hid (show Whole v14 g7 _ _ from gv14 ▸ (A_11.out.far (by show g7 ≠ g12; exact NE_A_B_10.out) _))
  have B_14 : RowKit.Hid (Whole v14 g12 29 (opCells (setT o t))) := Lib.hid (gv14 ▸ (B_11.out.set_ 18 _))
  have Bel_14 : RowKit.Hid (Below w.heap.size w v14) := Lib.hid (gv14 ▸ (Bel_11.out.setCell (by show w.heap.size ≤ g12; exact LO_B_10.out) _))
  rw [gv14]
  clear gv14
  go_upto_region 8 with fail
  refine wp_region_lit ?_
  refine wl_load (some 34) rfl (by rfl) 29 (.tmp 3) rfl (g0) rfl 29 (opCells o) _ O_14.out Try.underlying29 rfl (by kernel_rfl) ?_
  simp only [Act.put, List.setIfInBounds_toArray, List.set_cons_zero, List.set_cons_succ]
  refine wl_new 10 rfl rfl rfl 29 (.tmp 34) rfl rfl #[.int .i64 0, .int .i64 0, .int .i64 0, .int .i64 0, .int .i64 0, .int .i64 0, .int .i64 0, .int .i64 0, .int .i64 0, .int .i64 0, .int .i64 0, .int .i64 0, .int .i64 0, .int .i64 0, .int .i64 0, .int .i64 0, .int .i64 0, .bool false, .string ⟨#[]⟩, .int .i64 0] ?_ ((opCells o).toArray) (by simp) rfl (by kernel_rfl) rfl (opCells_all _) ?_
  · go_simp; (try with_reducible rfl)
  simp only [Act.put, List.setIfInBounds_toArray, List.set_cons_zero, List.set_cons_succ]
  have NE_O_C_15 : RowKit.Hid (g0 ≠ v14.heap.size) := Lib.hid (by have := (O_14.out).lt; omega)
  have NE_A_C_15 : RowKit.Hid (g7 ≠ v14.heap.size) := Lib.hid (by have := (A_14.out).lt; omega)
  have NE_B_C_15 : RowKit.Hid (g12 ≠ v14.heap.size) := Lib.hid (by have := (B_14.out).lt; omega)
  have LO_C_15 : RowKit.Hid (w.heap.size ≤ v14.heap.size) := Lib.hid (Bel_14.out).size
  have O_16 := Lib.hid ((O_14.out.al (.cells ((opCells o).toArray) 29)))
  have A_16 := Lib.hid ((A_14.out.al (.cells ((opCells o).toArray) 29)))
  have B_16 := Lib.hid ((B_14.out.al (.cells ((opCells o).toArray) 29)))
  have C_16 := Lib.hid ((show Whole (v14.alloc (.cells ((opCells o).toArray) 29)) (v14.heap.size) (29) (opCells o) from Whole.new2 (by first | rfl | simp)))
  have Bel_16 := Lib.hid (bel_al Bel_14.out (.cells ((opCells o).toArray) 29))
  obtain ⟨v16, gv16⟩ : ∃ x, (v14.alloc (.cells ((opCells o).toArray) 29)) = x := ⟨_, rfl⟩
  rw [gv16] at O_16 A_16 B_16 C_16 Bel_16 ⊢
  clear gv16
  obtain ⟨g17, gg17⟩ : ∃ x, v14.heap.size = x := ⟨_, rfl⟩
  rw [gg17] at C_16 LO_C_15 NE_O_C_15 NE_A_C_15 NE_B_C_15
  rw [gg17]
  clear gg17
  have lw18 : (v16).cell? ⟨g17, 3, none⟩ = some (.int .i64 o.s1) := C_16.out.cell (i := 3) rfl
  have lw19 : (v16).cell? ⟨g17, 4, none⟩ = some (.int .i64 o.n1) := C_16.out.cell (i := 4) rfl
  have fr3 := C_16.out.free 3
  have fr4 := C_16.out.free 4
  go_upto_region 10 with fail
  clear lw18 lw19 fr3 fr4
  obtain ⟨v20, gv20⟩ : ∃ x, ((v16.setCell ⟨g17, 3, none⟩ (.int .i64 1)).setCell ⟨g17, 4, none⟩ (.int .i64 1)) = x := ⟨_, rfl⟩
  have O_20 := Lib.hid (show Whole v20 g0 _ _ from gv20 ▸ ((O_16.out.far (by show g0 ≠ g17; exact NE_O_C_15.out) _).far (by show g0 ≠ g17; exact NE_O_C_15.out) _))
  have A_20 := Lib.hid (show Whole v20 g7 _ _ from gv20 ▸ ((A_16.out.far (by show g7 ≠ g17; exact NE_A_C_15.out) _).far (by show g7 ≠ g17; exact NE_A_C_15.out) _))
  have B_20 := Lib.hid (show Whole v20 g12 _ _ from gv20 ▸ ((B_16.out.far (by show g12 ≠ g17; exact NE_B_C_15.out) _).far (by show g12 ≠ g17; exact NE_B_C_15.out) _))
  have C_20 : RowKit.Hid (Whole v20 g17 29 (opCells (setN o))) := Lib.hid (gv20 ▸ ((C_16.out.set_ 3 _).set_ 4 _))
  have Bel_20 : RowKit.Hid (Below w.heap.size w v20) := Lib.hid (gv20 ▸ ((Bel_16.out.setCell (by show w.heap.size ≤ g17; exact LO_C_15.out) _).setCell (by show w.heap.size ≤ g17; exact LO_C_15.out) _))
  rw [gv20]
  clear gv20
  go_upto_region 10 with fail
  refine wp_region_lit ?_
  refine wl_load (some 37) rfl (by rfl) 29 (.tmp 3) rfl (g0) rfl 29 (opCells o) _ O_20.out Try.underlying29 rfl (by kernel_rfl) ?_
  simp only [Act.put, List.setIfInBounds_toArray, List.set_cons_zero, List.set_cons_succ]
  refine wl_new 11 rfl rfl rfl 29 (.tmp 37) rfl rfl #[.int .i64 0, .int .i64 0, .int .i64 0, .int .i64 0, .int .i64 0, .int .i64 0, .int .i64 0, .int .i64 0, .int .i64 0, .int .i64 0, .int .i64 0, .int .i64 0, .int .i64 0, .int .i64 0, .int .i64 0, .int .i64 0, .int .i64 0, .bool false, .string ⟨#[]⟩, .int .i64 0] ?_ ((opCells o).toArray) (by simp) rfl (by kernel_rfl) rfl (opCells_all _) ?_
  · go_simp; (try with_reducible rfl)
  simp only [Act.put, List.setIfInBounds_toArray, List.set_cons_zero, List.set_cons_succ]
  have NE_O_D_21 : RowKit.Hid (g0 ≠ v20.heap.size) := Lib.hid (by have := (O_20.out).lt; omega)
  have NE_A_D_21 : RowKit.Hid (g7 ≠ v20.heap.size) := Lib.hid (by have := (A_20.out).lt; omega)
  have NE_B_D_21 : RowKit.Hid (g12 ≠ v20.heap.size) := Lib.hid (by have := (B_20.out).lt; omega)
  have NE_C_D_21 : RowKit.Hid (g17 ≠ v20.heap.size) := Lib.hid (by have := (C_20.out).lt; omega)
  have LO_D_21 : RowKit.Hid (w.heap.size ≤ v20.heap.size) := Lib.hid (Bel_20.out).size
  have O_22 := Lib.hid ((O_20.out.al (.cells ((opCells o).toArray) 29)))
  have A_22 := Lib.hid ((A_20.out.al (.cells ((opCells o).toArray) 29)))
  have B_22 := Lib.hid ((B_20.out.al (.cells ((opCells o).toArray) 29)))
  have C_22 := Lib.hid ((C_20.out.al (.cells ((opCells o).toArray) 29)))
  have D_22 := Lib.hid ((show Whole (v20.alloc (.cells ((opCells o).toArray) 29)) (v20.heap.size) (29) (opCells o) from Whole.new2 (by first | rfl | simp)))
  have Bel_22 := Lib.hid (bel_al Bel_20.out (.cells ((opCells o).toArray) 29))
  obtain ⟨v22, gv22⟩ : ∃ x, (v20.alloc (.cells ((opCells o).toArray) 29)) = x := ⟨_, rfl⟩
  rw [gv22] at O_22 A_22 B_22 C_22 D_22 Bel_22 ⊢
  clear gv22
  obtain ⟨g23, gg23⟩ : ∃ x, v20.heap.size = x := ⟨_, rfl⟩
  rw [gg23] at D_22 LO_D_21 NE_O_D_21 NE_A_D_21 NE_B_D_21 NE_C_D_21
  rw [gg23]
  clear gg23
  have lw24 : (v22).cell? ⟨g23, 0, none⟩ = some (.int .i64 o.k) := D_22.out.cell (i := 0) rfl
  have fr0 := D_22.out.free 0
  have lw25 : (v22).cell? ⟨g0, 0, none⟩ = some (.int .i64 o.k) := O_22.out.cell (i := 0) rfl
  go_upto_region 12 with fail
  clear lw24 lw25 fr0
  obtain ⟨v26, gv26⟩ : ∃ x, (v22.setCell ⟨g23, 0, none⟩ (.int .i64 (o.k + 8))) = x := ⟨_, rfl⟩
  have O_26 := Lib.hid (show Whole v26 g0 _ _ from gv26 ▸ (O_22.out.far (by show g0 ≠ g23; exact NE_O_D_21.out) _))
  have A_26 := Lib.hid (show Whole v26 g7 _ _ from gv26 ▸ (A_22.out.far (by show g7 ≠ g23; exact NE_A_D_21.out) _))
  have B_26 := Lib.hid (show Whole v26 g12 _ _ from gv26 ▸ (B_22.out.far (by show g12 ≠ g23; exact NE_B_D_21.out) _))
  have C_26 := Lib.hid (show Whole v26 g17 _ _ from gv26 ▸ (C_22.out.far (by show g17 ≠ g23; exact NE_C_D_21.out) _))
  have D_26 : RowKit.Hid (Whole v26 g23 29 (opCells (setK o))) := Lib.hid (gv26 ▸ (D_22.out.set_ 0 _))
  have Bel_26 : RowKit.Hid (Below w.heap.size w v26) := Lib.hid (gv26 ▸ (Bel_22.out.setCell (by show w.heap.size ≤ g23; exact LO_D_21.out) _))
  rw [gv26]
  clear gv26
  have lw27 : (v26).cell? ⟨g0, 0, none⟩ = some (.int .i64 o.k) := O_26.out.cell (i := 0) rfl
  refine wp_region_lit ?_
  refine wl_read (v := ?_) (some 42) rfl (by rfl) ?_ ?_
  rotate_left
  · go_simp; (try with_reducible rfl)
  simp only [Act.put, List.setIfInBounds_toArray, List.set_cons_zero, List.set_cons_succ]
  refine wl_read (v := ?_) (some 43) rfl (by rfl) ?_ ?_
  rotate_left
  · go_simp; (try with_reducible rfl)
  simp only [Act.put, List.setIfInBounds_toArray, List.set_cons_zero, List.set_cons_succ]
  refine wl_read (v := ?_) (some 44) rfl (by rfl) ?_ ?_
  rotate_left
  · go_simp; (try with_reducible rfl)
  simp only [Act.put, List.setIfInBounds_toArray, List.set_cons_zero, List.set_cons_succ]
  refine wl_read (v := ?_) (some 45) rfl (by rfl) ?_ ?_
  rotate_left
  · go_simp; (try with_reducible rfl)
  simp only [Act.put, List.setIfInBounds_toArray, List.set_cons_zero, List.set_cons_succ]
  refine wl_read (v := ?_) (some 46) rfl (by rfl) ?_ ?_
  rotate_left
  · go_simp; (try with_reducible rfl)
  simp only [Act.put, List.setIfInBounds_toArray, List.set_cons_zero, List.set_cons_succ]
  refine wl_read (v := ?_) (some 47) rfl (by rfl) ?_ ?_
  rotate_left
  · go_simp; (try with_reducible rfl)
  simp only [Act.put, List.setIfInBounds_toArray, List.set_cons_zero, List.set_cons_succ]
  refine wl_read (v := ?_) (some 48) rfl (by rfl) ?_ ?_
  rotate_left
  · go_simp; (try with_reducible rfl)
  simp only [Act.put, List.setIfInBounds_toArray, List.set_cons_zero, List.set_cons_succ]
  refine wl_read (v := ?_) (some 49) rfl (by rfl) ?_ ?_
  rotate_left
  · go_simp; (try with_reducible rfl)
  simp only [Act.put, List.setIfInBounds_toArray, List.set_cons_zero, List.set_cons_succ]
  refine wl_read (v := ?_) (some 50) rfl (by rfl) ?_ ?_
  rotate_left
  · go_simp; (try with_reducible rfl)
  simp only [Act.put, List.setIfInBounds_toArray, List.set_cons_zero, List.set_cons_succ]
  refine wl_load (some 51) rfl (by rfl) 29 (.tmp 8) rfl (g7) rfl 29 (opCells (setM o n)) _ A_26.out Try.underlying29 rfl (by kernel_rfl) ?_
  simp only [Act.put, List.setIfInBounds_toArray, List.set_cons_zero, List.set_cons_succ]
  clear lw27
  go_wp2_with fail
  refine (HA.out _).mono ?_
  rintro e w28 ⟨rfl, hb28⟩
  have O_29 := Lib.hid (O_26.out.bl hb28)
  have A_29 := Lib.hid (A_26.out.bl hb28)
  have B_29 := Lib.hid (B_26.out.bl hb28)
  have C_29 := Lib.hid (C_26.out.bl hb28)
  have D_29 := Lib.hid (D_26.out.bl hb28)
  have Bel_29 := Lib.hid (bel_bl Bel_26.out hb28)
  clear hb28
  go_upto_region 13 with fail
  have lw30 : (w28).cell? ⟨g0, 0, none⟩ = some (.int .i64 o.k) := O_29.out.cell (i := 0) rfl
  go_upto_region 14 with fail
  clear lw30
  have lw31 : (w28).cell? ⟨g0, 0, none⟩ = some (.int .i64 o.k) := O_29.out.cell (i := 0) rfl
  refine wp_region_lit ?_
  refine wl_read (v := ?_) (some 63) rfl (by rfl) ?_ ?_
  rotate_left
  · go_simp; (try with_reducible rfl)
  simp only [Act.put, List.setIfInBounds_toArray, List.set_cons_zero, List.set_cons_succ]
  refine wl_read (v := ?_) (some 64) rfl (by rfl) ?_ ?_
  rotate_left
  · go_simp; (try with_reducible rfl)
  simp only [Act.put, List.setIfInBounds_toArray, List.set_cons_zero, List.set_cons_succ]
  refine wl_read (v := ?_) (some 65) rfl (by rfl) ?_ ?_
  rotate_left
  · go_simp; (try with_reducible rfl)
  simp only [Act.put, List.setIfInBounds_toArray, List.set_cons_zero, List.set_cons_succ]
  refine wl_read (v := ?_) (some 66) rfl (by rfl) ?_ ?_
  rotate_left
  · go_simp; (try with_reducible rfl)
  simp only [Act.put, List.setIfInBounds_toArray, List.set_cons_zero, List.set_cons_succ]
  refine wl_load (some 67) rfl (by rfl) 29 (.tmp 10) rfl (g17) rfl 29 (opCells (setN o)) _ C_29.out Try.underlying29 rfl (by kernel_rfl) ?_
  simp only [Act.put, List.setIfInBounds_toArray, List.set_cons_zero, List.set_cons_succ]
  clear lw31
  go_wp2_with fail
  refine (HN.out _).mono ?_
  rintro e w32 ⟨rfl, hb32⟩
  have O_33 := Lib.hid (O_29.out.bl hb32)
  have A_33 := Lib.hid (A_29.out.bl hb32)
  have B_33 := Lib.hid (B_29.out.bl hb32)
  have C_33 := Lib.hid (C_29.out.bl hb32)
  have D_33 := Lib.hid (D_29.out.bl hb32)
  have Bel_33 := Lib.hid (bel_bl Bel_29.out hb32)
  clear hb32
  go_upto_region 15 with fail
  refine wp_region_lit ?_
  refine wl_read (v := ?_) (some 71) rfl (by rfl) ?_ ?_
  rotate_left
  · go_simp; (try with_reducible rfl)
  simp only [Act.put, List.setIfInBounds_toArray, List.set_cons_zero, List.set_cons_succ]
  refine wl_read (v := ?_) (some 72) rfl (by rfl) ?_ ?_
  rotate_left
  · go_simp; (try with_reducible rfl)
  simp only [Act.put, List.setIfInBounds_toArray, List.set_cons_zero, List.set_cons_succ]
  refine wl_read (v := ?_) (some 73) rfl (by rfl) ?_ ?_
  rotate_left
  · go_simp; (try with_reducible rfl)
  simp only [Act.put, List.setIfInBounds_toArray, List.set_cons_zero, List.set_cons_succ]
  refine wl_read (v := ?_) (some 74) rfl (by rfl) ?_ ?_
  rotate_left
  · go_simp; (try with_reducible rfl)
  simp only [Act.put, List.setIfInBounds_toArray, List.set_cons_zero, List.set_cons_succ]
  refine wl_read (v := ?_) (some 75) rfl (by rfl) ?_ ?_
  rotate_left
  · go_simp; (try with_reducible rfl)
  simp only [Act.put, List.setIfInBounds_toArray, List.set_cons_zero, List.set_cons_succ]
  refine wl_read (v := ?_) (some 76) rfl (by rfl) ?_ ?_
  rotate_left
  · go_simp; (try with_reducible rfl)
  simp only [Act.put, List.setIfInBounds_toArray, List.set_cons_zero, List.set_cons_succ]
  refine wl_read (v := ?_) (some 77) rfl (by rfl) ?_ ?_
  rotate_left
  · go_simp; (try with_reducible rfl)
  simp only [Act.put, List.setIfInBounds_toArray, List.set_cons_zero, List.set_cons_succ]
  refine wl_read (v := ?_) (some 78) rfl (by rfl) ?_ ?_
  rotate_left
  · go_simp; (try with_reducible rfl)
  simp only [Act.put, List.setIfInBounds_toArray, List.set_cons_zero, List.set_cons_succ]
  refine wl_read (v := ?_) (some 79) rfl (by rfl) ?_ ?_
  rotate_left
  · go_simp; (try with_reducible rfl)
  simp only [Act.put, List.setIfInBounds_toArray, List.set_cons_zero, List.set_cons_succ]
  refine wl_read (v := ?_) (some 80) rfl (by rfl) ?_ ?_
  rotate_left
  · go_simp; (try with_reducible rfl)
  simp only [Act.put, List.setIfInBounds_toArray, List.set_cons_zero, List.set_cons_succ]
  refine wl_read (v := ?_) (some 81) rfl (by rfl) ?_ ?_
  rotate_left
  · go_simp; (try with_reducible rfl)
  simp only [Act.put, List.setIfInBounds_toArray, List.set_cons_zero, List.set_cons_succ]
  refine wl_load (some 82) rfl (by rfl) 29 (.tmp 11) rfl (g23) rfl 29 (opCells (setK o)) _ D_33.out Try.underlying29 rfl (by kernel_rfl) ?_
  simp only [Act.put, List.setIfInBounds_toArray, List.set_cons_zero, List.set_cons_succ]
  go_wp2_with fail
  refine (HK.out _).mono ?_
  rintro e w34 ⟨rfl, hb34⟩
  have O_35 := Lib.hid (O_33.out.bl hb34)
  have A_35 := Lib.hid (A_33.out.bl hb34)
  have B_35 := Lib.hid (B_33.out.bl hb34)
  have C_35 := Lib.hid (C_33.out.bl hb34)
  have D_35 := Lib.hid (D_33.out.bl hb34)
  have Bel_35 := Lib.hid (bel_bl Bel_33.out hb34)
  clear hb34
  go_wp2
  go_ret
  exact ⟨rfl, Bel_35.out⟩

set_option maxRecDepth 100000 in
set_option maxHeartbeats 4000000 in
theorem oz_8 (o : OpT) (n : Int) (t : ByteArray) (hm : mayO o = 0) (hn : decide (n ≤ 0) = false) (ht : t ≠ ⟨#[]⟩) (hk : o.k = 8) (w : World) : Calls Try.prog 5 #[.agg (opCells o).toArray, .int .i64 n, .string t] w fun e w' => e = .returned (.bool true) ∧ Below w.heap.size w w' := by
  have h1 := mayop_any o
  rw [hm] at h1
  have H1 := Lib.hid h1
  have ht' : ¬ t.toList = [] := fun h => ht (by rw [ByteArray.toList_eq] at h; exact ByteArray.ext (Array.toList_inj.1 (by simpa using h)))
  have ht1 : t.toList.isEmpty = false := by cases h : t.toList.isEmpty <;> simp_all
  have hr := may_range hm
  have hT := mayop_any (setT o t)
  rw [may_setT o t hm ht (by omega)] at hT
  have HT := Lib.hid hT
  clear hT
  have hN := mayop_any (setN o)
  rw [may_setN o hm (by omega)] at hN
  have HN := Lib.hid hN
  clear hN
  have hK := mayop_any (setK o)
  rw [may_setK o hm] at hK
  have HK := Lib.hid hK
  clear hK
  have q5 : (o.k == 5) = false := by rw [hk]; rfl
  have q7 : (o.k == 7) = false := by rw [hk]; rfl
  have q8 : (o.k == 8) = true := by rw [hk]; rfl
  obtain ⟨hr1, hr2⟩ := hr
  clear h1 hm ht hk
  go_enter Try.func5, Try.ntmps5
  go_wp2_with fail
  refine (shown9 _).mono ?_
  rintro e w1 ⟨rfl, hb1⟩
  have O_2 := Lib.hid ((show Whole (w.alloc (.cells (opCells o).toArray 29)) (w.heap.size) (29) (opCells o) from Whole.new2 (by first | rfl | simp)).bl hb1)
  have Bel_2 := Lib.hid (bel_bl (bel_al (Below.refl _ w) (.cells (opCells o).toArray 29)) hb1)
  clear hb1
  obtain ⟨g0, gg0⟩ : ∃ x, w.heap.size = x := ⟨_, rfl⟩
  have LO0 : RowKit.Hid (w.heap.size ≤ g0) := Lib.hid (by omega)
  rw [gg0] at O_2
  rw [gg0]
  clear gg0
  go_upto_region 2 with fail
  refine wp_region_lit ?_
  refine wl_load (some 16) rfl (by rfl) 29 (.tmp 3) rfl (g0) rfl 29 (opCells o) _ O_2.out Try.underlying29 rfl (by kernel_rfl) ?_
  simp only [Act.put, List.setIfInBounds_toArray, List.set_cons_zero, List.set_cons_succ]
  go_wp2_with fail
  refine (H1.out _).mono ?_
  rintro e w3 ⟨rfl, hb3⟩
  have O_4 := Lib.hid (O_2.out.bl hb3)
  have Bel_4 := Lib.hid (bel_bl Bel_2.out hb3)
  clear hb3
  go_upto_region 4 with fail
  refine wp_region_lit ?_
  refine wl_load (some 28) rfl (by rfl) 29 (.tmp 3) rfl (g0) rfl 29 (opCells o) _ O_4.out Try.underlying29 rfl (by kernel_rfl) ?_
  simp only [Act.put, List.setIfInBounds_toArray, List.set_cons_zero, List.set_cons_succ]
  refine wl_new 8 rfl rfl rfl 29 (.tmp 28) rfl rfl #[.int .i64 0, .int .i64 0, .int .i64 0, .int .i64 0, .int .i64 0, .int .i64 0, .int .i64 0, .int .i64 0, .int .i64 0, .int .i64 0, .int .i64 0, .int .i64 0, .int .i64 0, .int .i64 0, .int .i64 0, .int .i64 0, .int .i64 0, .bool false, .string ⟨#[]⟩, .int .i64 0] ?_ ((opCells o).toArray) (by simp) rfl (by kernel_rfl) rfl (opCells_all _) ?_
  · go_simp; (try with_reducible rfl)
  simp only [Act.put, List.setIfInBounds_toArray, List.set_cons_zero, List.set_cons_succ]
  have NE_O_A_5 : RowKit.Hid (g0 ≠ w3.heap.size) := Lib.hid (by have := (O_4.out).lt; omega)
  have LO_A_5 : RowKit.Hid (w.heap.size ≤ w3.heap.size) := Lib.hid (Bel_4.out).size
  have O_6 := Lib.hid ((O_4.out.al (.cells ((opCells o).toArray) 29)))
  have A_6 := Lib.hid ((show Whole (w3.alloc (.cells ((opCells o).toArray) 29)) (w3.heap.size) (29) (opCells o) from Whole.new2 (by first | rfl | simp)))
  have Bel_6 := Lib.hid (bel_al Bel_4.out (.cells ((opCells o).toArray) 29))
  obtain ⟨v6, gv6⟩ : ∃ x, (w3.alloc (.cells ((opCells o).toArray) 29)) = x := ⟨_, rfl⟩
  rw [gv6] at O_6 A_6 Bel_6 ⊢
  clear gv6
  obtain ⟨g7, gg7⟩ : ∃ x, w3.heap.size = x := ⟨_, rfl⟩
  rw [gg7] at A_6 LO_A_5 NE_O_A_5
  rw [gg7]
  clear gg7
  have lw8 : (v6).cell? ⟨g7, 19, none⟩ = some (.int .i64 o.m) := A_6.out.cell (i := 19) rfl
  have fr19 := A_6.out.free 19
  go_upto_region 6 with fail
  clear lw8 fr19
  obtain ⟨v9, gv9⟩ : ∃ x, (v6.setCell ⟨g7, 19, none⟩ (.int .i64 n)) = x := ⟨_, rfl⟩
  have O_9 := Lib.hid (show Whole v9 g0 _ _ from gv9 ▸ (O_6.out.far (by show g0 ≠ g7; exact NE_O_A_5.out) _))
  have A_9 : RowKit.Hid (Whole v9 g7 29 (opCells (setM o n))) := Lib.hid (gv9 ▸ (A_6.out.set_ 19 _))
  have Bel_9 : RowKit.Hid (Below w.heap.size w v9) := Lib.hid (gv9 ▸ (Bel_6.out.setCell (by show w.heap.size ≤ g7; exact LO_A_5.out) _))
  rw [gv9]
  clear gv9
  go_upto_region 6 with fail
  refine wp_region_lit ?_
  refine wl_load (some 31) rfl (by rfl) 29 (.tmp 3) rfl (g0) rfl 29 (opCells o) _ O_9.out Try.underlying29 rfl (by kernel_rfl) ?_
  simp only [Act.put, List.setIfInBounds_toArray, List.set_cons_zero, List.set_cons_succ]
  refine wl_new 9 rfl rfl rfl 29 (.tmp 31) rfl rfl #[.int .i64 0, .int .i64 0, .int .i64 0, .int .i64 0, .int .i64 0, .int .i64 0, .int .i64 0, .int .i64 0, .int .i64 0, .int .i64 0, .int .i64 0, .int .i64 0, .int .i64 0, .int .i64 0, .int .i64 0, .int .i64 0, .int .i64 0, .bool false, .string ⟨#[]⟩, .int .i64 0] ?_ ((opCells o).toArray) (by simp) rfl (by kernel_rfl) rfl (opCells_all _) ?_
  · go_simp; (try with_reducible rfl)
  simp only [Act.put, List.setIfInBounds_toArray, List.set_cons_zero, List.set_cons_succ]
  have NE_O_B_10 : RowKit.Hid (g0 ≠ v9.heap.size) := Lib.hid (by have := (O_9.out).lt; omega)
  have NE_A_B_10 : RowKit.Hid (g7 ≠ v9.heap.size) := Lib.hid (by have := (A_9.out).lt; omega)
  have LO_B_10 : RowKit.Hid (w.heap.size ≤ v9.heap.size) := Lib.hid (Bel_9.out).size
  have O_11 := Lib.hid ((O_9.out.al (.cells ((opCells o).toArray) 29)))
  have A_11 := Lib.hid ((A_9.out.al (.cells ((opCells o).toArray) 29)))
  have B_11 := Lib.hid ((show Whole (v9.alloc (.cells ((opCells o).toArray) 29)) (v9.heap.size) (29) (opCells o) from Whole.new2 (by first | rfl | simp)))
  have Bel_11 := Lib.hid (bel_al Bel_9.out (.cells ((opCells o).toArray) 29))
  obtain ⟨v11, gv11⟩ : ∃ x, (v9.alloc (.cells ((opCells o).toArray) 29)) = x := ⟨_, rfl⟩
  rw [gv11] at O_11 A_11 B_11 Bel_11 ⊢
  clear gv11
  obtain ⟨g12, gg12⟩ : ∃ x, v9.heap.size = x := ⟨_, rfl⟩
  rw [gg12] at B_11 LO_B_10 NE_O_B_10 NE_A_B_10
  rw [gg12]
  clear gg12
  have lw13 : (v11).cell? ⟨g12, 18, none⟩ = some (.string o.t) := B_11.out.cell (i := 18) rfl
  have fr18 := B_11.out.free 18
  go_upto_region 8 with fail
  clear lw13 fr18
  obtain ⟨v14, gv14⟩ : ∃ x, (v11.setCell ⟨g12, 18, none⟩ (.string t)) = x := ⟨_, rfl⟩
  have O_14 := Lib.hid (show Whole v14 g0 _ _ from gv14 ▸ (O_11.out.far (by show g0 ≠ g12; exact NE_O_B_10.out) _))
  have A_14 := Lib.hid (show Whole v14 g7 _ _ from gv14 ▸ (A_11.out.far (by show g7 ≠ g12; exact NE_A_B_10.out) _))
  have B_14 : RowKit.Hid (Whole v14 g12 29 (opCells (setT o t))) := Lib.hid (gv14 ▸ (B_11.out.set_ 18 _))
  have Bel_14 : RowKit.Hid (Below w.heap.size w v14) := Lib.hid (gv14 ▸ (Bel_11.out.setCell (by show w.heap.size ≤ g12; exact LO_B_10.out) _))
  rw [gv14]
  clear gv14
  go_upto_region 8 with fail
  refine wp_region_lit ?_
  refine wl_load (some 34) rfl (by rfl) 29 (.tmp 3) rfl (g0) rfl 29 (opCells o) _ O_14.out Try.underlying29 rfl (by kernel_rfl) ?_
  simp only [Act.put, List.setIfInBounds_toArray, List.set_cons_zero, List.set_cons_succ]
  refine wl_new 10 rfl rfl rfl 29 (.tmp 34) rfl rfl #[.int .i64 0, .int .i64 0, .int .i64 0, .int .i64 0, .int .i64 0, .int .i64 0, .int .i64 0, .int .i64 0, .int .i64 0, .int .i64 0, .int .i64 0, .int .i64 0, .int .i64 0, .int .i64 0, .int .i64 0, .int .i64 0, .int .i64 0, .bool false, .string ⟨#[]⟩, .int .i64 0] ?_ ((opCells o).toArray) (by simp) rfl (by kernel_rfl) rfl (opCells_all _) ?_
  · go_simp; (try with_reducible rfl)
  simp only [Act.put, List.setIfInBounds_toArray, List.set_cons_zero, List.set_cons_succ]
  have NE_O_C_15 : RowKit.Hid (g0 ≠ v14.heap.size) := Lib.hid (by have := (O_14.out).lt; omega)
  have NE_A_C_15 : RowKit.Hid (g7 ≠ v14.heap.size) := Lib.hid (by have := (A_14.out).lt; omega)
  have NE_B_C_15 : RowKit.Hid (g12 ≠ v14.heap.size) := Lib.hid (by have := (B_14.out).lt; omega)
  have LO_C_15 : RowKit.Hid (w.heap.size ≤ v14.heap.size) := Lib.hid (Bel_14.out).size
  have O_16 := Lib.hid ((O_14.out.al (.cells ((opCells o).toArray) 29)))
  have A_16 := Lib.hid ((A_14.out.al (.cells ((opCells o).toArray) 29)))
  have B_16 := Lib.hid ((B_14.out.al (.cells ((opCells o).toArray) 29)))
  have C_16 := Lib.hid ((show Whole (v14.alloc (.cells ((opCells o).toArray) 29)) (v14.heap.size) (29) (opCells o) from Whole.new2 (by first | rfl | simp)))
  have Bel_16 := Lib.hid (bel_al Bel_14.out (.cells ((opCells o).toArray) 29))
  obtain ⟨v16, gv16⟩ : ∃ x, (v14.alloc (.cells ((opCells o).toArray) 29)) = x := ⟨_, rfl⟩
  rw [gv16] at O_16 A_16 B_16 C_16 Bel_16 ⊢
  clear gv16
  obtain ⟨g17, gg17⟩ : ∃ x, v14.heap.size = x := ⟨_, rfl⟩
  rw [gg17] at C_16 LO_C_15 NE_O_C_15 NE_A_C_15 NE_B_C_15
  rw [gg17]
  clear gg17
  have lw18 : (v16).cell? ⟨g17, 3, none⟩ = some (.int .i64 o.s1) := C_16.out.cell (i := 3) rfl
  have lw19 : (v16).cell? ⟨g17, 4, none⟩ = some (.int .i64 o.n1) := C_16.out.cell (i := 4) rfl
  have fr3 := C_16.out.free 3
  have fr4 := C_16.out.free 4
  go_upto_region 10 with fail
  clear lw18 lw19 fr3 fr4
  obtain ⟨v20, gv20⟩ : ∃ x, ((v16.setCell ⟨g17, 3, none⟩ (.int .i64 1)).setCell ⟨g17, 4, none⟩ (.int .i64 1)) = x := ⟨_, rfl⟩
  have O_20 := Lib.hid (show Whole v20 g0 _ _ from gv20 ▸ ((O_16.out.far (by show g0 ≠ g17; exact NE_O_C_15.out) _).far (by show g0 ≠ g17; exact NE_O_C_15.out) _))
  have A_20 := Lib.hid (show Whole v20 g7 _ _ from gv20 ▸ ((A_16.out.far (by show g7 ≠ g17; exact NE_A_C_15.out) _).far (by show g7 ≠ g17; exact NE_A_C_15.out) _))
  have B_20 := Lib.hid (show Whole v20 g12 _ _ from gv20 ▸ ((B_16.out.far (by show g12 ≠ g17; exact NE_B_C_15.out) _).far (by show g12 ≠ g17; exact NE_B_C_15.out) _))
  have C_20 : RowKit.Hid (Whole v20 g17 29 (opCells (setN o))) := Lib.hid (gv20 ▸ ((C_16.out.set_ 3 _).set_ 4 _))
  have Bel_20 : RowKit.Hid (Below w.heap.size w v20) := Lib.hid (gv20 ▸ ((Bel_16.out.setCell (by show w.heap.size ≤ g17; exact LO_C_15.out) _).setCell (by show w.heap.size ≤ g17; exact LO_C_15.out) _))
  rw [gv20]
  clear gv20
  go_upto_region 10 with fail
  refine wp_region_lit ?_
  refine wl_load (some 37) rfl (by rfl) 29 (.tmp 3) rfl (g0) rfl 29 (opCells o) _ O_20.out Try.underlying29 rfl (by kernel_rfl) ?_
  simp only [Act.put, List.setIfInBounds_toArray, List.set_cons_zero, List.set_cons_succ]
  refine wl_new 11 rfl rfl rfl 29 (.tmp 37) rfl rfl #[.int .i64 0, .int .i64 0, .int .i64 0, .int .i64 0, .int .i64 0, .int .i64 0, .int .i64 0, .int .i64 0, .int .i64 0, .int .i64 0, .int .i64 0, .int .i64 0, .int .i64 0, .int .i64 0, .int .i64 0, .int .i64 0, .int .i64 0, .bool false, .string ⟨#[]⟩, .int .i64 0] ?_ ((opCells o).toArray) (by simp) rfl (by kernel_rfl) rfl (opCells_all _) ?_
  · go_simp; (try with_reducible rfl)
  simp only [Act.put, List.setIfInBounds_toArray, List.set_cons_zero, List.set_cons_succ]
  have NE_O_D_21 : RowKit.Hid (g0 ≠ v20.heap.size) := Lib.hid (by have := (O_20.out).lt; omega)
  have NE_A_D_21 : RowKit.Hid (g7 ≠ v20.heap.size) := Lib.hid (by have := (A_20.out).lt; omega)
  have NE_B_D_21 : RowKit.Hid (g12 ≠ v20.heap.size) := Lib.hid (by have := (B_20.out).lt; omega)
  have NE_C_D_21 : RowKit.Hid (g17 ≠ v20.heap.size) := Lib.hid (by have := (C_20.out).lt; omega)
  have LO_D_21 : RowKit.Hid (w.heap.size ≤ v20.heap.size) := Lib.hid (Bel_20.out).size
  have O_22 := Lib.hid ((O_20.out.al (.cells ((opCells o).toArray) 29)))
  have A_22 := Lib.hid ((A_20.out.al (.cells ((opCells o).toArray) 29)))
  have B_22 := Lib.hid ((B_20.out.al (.cells ((opCells o).toArray) 29)))
  have C_22 := Lib.hid ((C_20.out.al (.cells ((opCells o).toArray) 29)))
  have D_22 := Lib.hid ((show Whole (v20.alloc (.cells ((opCells o).toArray) 29)) (v20.heap.size) (29) (opCells o) from Whole.new2 (by first | rfl | simp)))
  have Bel_22 := Lib.hid (bel_al Bel_20.out (.cells ((opCells o).toArray) 29))
  obtain ⟨v22, gv22⟩ : ∃ x, (v20.alloc (.cells ((opCells o).toArray) 29)) = x := ⟨_, rfl⟩
  rw [gv22] at O_22 A_22 B_22 C_22 D_22 Bel_22 ⊢
  clear gv22
  obtain ⟨g23, gg23⟩ : ∃ x, v20.heap.size = x := ⟨_, rfl⟩
  rw [gg23] at D_22 LO_D_21 NE_O_D_21 NE_A_D_21 NE_B_D_21 NE_C_D_21
  rw [gg23]
  clear gg23
  have lw24 : (v22).cell? ⟨g23, 0, none⟩ = some (.int .i64 o.k) := D_22.out.cell (i := 0) rfl
  have fr0 := D_22.out.free 0
  have lw25 : (v22).cell? ⟨g0, 0, none⟩ = some (.int .i64 o.k) := O_22.out.cell (i := 0) rfl
  go_upto_region 12 with fail
  clear lw24 lw25 fr0
  obtain ⟨v26, gv26⟩ : ∃ x, (v22.setCell ⟨g23, 0, none⟩ (.int .i64 (o.k + 8))) = x := ⟨_, rfl⟩
  have O_26 := Lib.hid (show Whole v26 g0 _ _ from gv26 ▸ (O_22.out.far (by show g0 ≠ g23; exact NE_O_D_21.out) _))
  have A_26 := Lib.hid (show Whole v26 g7 _ _ from gv26 ▸ (A_22.out.far (by show g7 ≠ g23; exact NE_A_D_21.out) _))
  have B_26 := Lib.hid (show Whole v26 g12 _ _ from gv26 ▸ (B_22.out.far (by show g12 ≠ g23; exact NE_B_D_21.out) _))
  have C_26 := Lib.hid (show Whole v26 g17 _ _ from gv26 ▸ (C_22.out.far (by show g17 ≠ g23; exact NE_C_D_21.out) _))
  have D_26 : RowKit.Hid (Whole v26 g23 29 (opCells (setK o))) := Lib.hid (gv26 ▸ (D_22.out.set_ 0 _))
  have Bel_26 : RowKit.Hid (Below w.heap.size w v26) := Lib.hid (gv26 ▸ (Bel_22.out.setCell (by show w.heap.size ≤ g23; exact LO_D_21.out) _))
  rw [gv26]
  clear gv26
  have lw27 : (v26).cell? ⟨g0, 0, none⟩ = some (.int .i64 o.k) := O_26.out.cell (i := 0) rfl
  go_upto_region 13 with fail
  clear lw27
  have lw28 : (v26).cell? ⟨g0, 0, none⟩ = some (.int .i64 o.k) := O_26.out.cell (i := 0) rfl
  refine wp_region_lit ?_
  refine wl_read (v := ?_) (some 55) rfl (by rfl) ?_ ?_
  rotate_left
  · go_simp; (try with_reducible rfl)
  simp only [Act.put, List.setIfInBounds_toArray, List.set_cons_zero, List.set_cons_succ]
  refine wl_read (v := ?_) (some 56) rfl (by rfl) ?_ ?_
  rotate_left
  · go_simp; (try with_reducible rfl)
  simp only [Act.put, List.setIfInBounds_toArray, List.set_cons_zero, List.set_cons_succ]
  refine wl_read (v := ?_) (some 57) rfl (by rfl) ?_ ?_
  rotate_left
  · go_simp; (try with_reducible rfl)
  simp only [Act.put, List.setIfInBounds_toArray, List.set_cons_zero, List.set_cons_succ]
  refine wl_read (v := ?_) (some 58) rfl (by rfl) ?_ ?_
  rotate_left
  · go_simp; (try with_reducible rfl)
  simp only [Act.put, List.setIfInBounds_toArray, List.set_cons_zero, List.set_cons_succ]
  refine wl_load (some 59) rfl (by rfl) 29 (.tmp 9) rfl (g12) rfl 29 (opCells (setT o t)) _ B_26.out Try.underlying29 rfl (by kernel_rfl) ?_
  simp only [Act.put, List.setIfInBounds_toArray, List.set_cons_zero, List.set_cons_succ]
  clear lw28
  go_wp2_with fail
  refine (HT.out _).mono ?_
  rintro e w29 ⟨rfl, hb29⟩
  have O_30 := Lib.hid (O_26.out.bl hb29)
  have A_30 := Lib.hid (A_26.out.bl hb29)
  have B_30 := Lib.hid (B_26.out.bl hb29)
  have C_30 := Lib.hid (C_26.out.bl hb29)
  have D_30 := Lib.hid (D_26.out.bl hb29)
  have Bel_30 := Lib.hid (bel_bl Bel_26.out hb29)
  clear hb29
  go_upto_region 14 with fail
  have lw31 : (w29).cell? ⟨g0, 0, none⟩ = some (.int .i64 o.k) := O_30.out.cell (i := 0) rfl
  refine wp_region_lit ?_
  refine wl_read (v := ?_) (some 63) rfl (by rfl) ?_ ?_
  rotate_left
  · go_simp; (try with_reducible rfl)
  simp only [Act.put, List.setIfInBounds_toArray, List.set_cons_zero, List.set_cons_succ]
  refine wl_read (v := ?_) (some 64) rfl (by rfl) ?_ ?_
  rotate_left
  · go_simp; (try with_reducible rfl)
  simp only [Act.put, List.setIfInBounds_toArray, List.set_cons_zero, List.set_cons_succ]
  refine wl_read (v := ?_) (some 65) rfl (by rfl) ?_ ?_
  rotate_left
  · go_simp; (try with_reducible rfl)
  simp only [Act.put, List.setIfInBounds_toArray, List.set_cons_zero, List.set_cons_succ]
  refine wl_read (v := ?_) (some 66) rfl (by rfl) ?_ ?_
  rotate_left
  · go_simp; (try with_reducible rfl)
  simp only [Act.put, List.setIfInBounds_toArray, List.set_cons_zero, List.set_cons_succ]
  refine wl_load (some 67) rfl (by rfl) 29 (.tmp 10) rfl (g17) rfl 29 (opCells (setN o)) _ C_30.out Try.underlying29 rfl (by kernel_rfl) ?_
  simp only [Act.put, List.setIfInBounds_toArray, List.set_cons_zero, List.set_cons_succ]
  clear lw31
  go_wp2_with fail
  refine (HN.out _).mono ?_
  rintro e w32 ⟨rfl, hb32⟩
  have O_33 := Lib.hid (O_30.out.bl hb32)
  have A_33 := Lib.hid (A_30.out.bl hb32)
  have B_33 := Lib.hid (B_30.out.bl hb32)
  have C_33 := Lib.hid (C_30.out.bl hb32)
  have D_33 := Lib.hid (D_30.out.bl hb32)
  have Bel_33 := Lib.hid (bel_bl Bel_30.out hb32)
  clear hb32
  go_upto_region 15 with fail
  refine wp_region_lit ?_
  refine wl_read (v := ?_) (some 71) rfl (by rfl) ?_ ?_
  rotate_left
  · go_simp; (try with_reducible rfl)
  simp only [Act.put, List.setIfInBounds_toArray, List.set_cons_zero, List.set_cons_succ]
  refine wl_read (v := ?_) (some 72) rfl (by rfl) ?_ ?_
  rotate_left
  · go_simp; (try with_reducible rfl)
  simp only [Act.put, List.setIfInBounds_toArray, List.set_cons_zero, List.set_cons_succ]
  refine wl_read (v := ?_) (some 73) rfl (by rfl) ?_ ?_
  rotate_left
  · go_simp; (try with_reducible rfl)
  simp only [Act.put, List.setIfInBounds_toArray, List.set_cons_zero, List.set_cons_succ]
  refine wl_read (v := ?_) (some 74) rfl (by rfl) ?_ ?_
  rotate_left
  · go_simp; (try with_reducible rfl)
  simp only [Act.put, List.setIfInBounds_toArray, List.set_cons_zero, List.set_cons_succ]
  refine wl_read (v := ?_) (some 75) rfl (by rfl) ?_ ?_
  rotate_left
  · go_simp; (try with_reducible rfl)
  simp only [Act.put, List.setIfInBounds_toArray, List.set_cons_zero, List.set_cons_succ]
  refine wl_read (v := ?_) (some 76) rfl (by rfl) ?_ ?_
  rotate_left
  · go_simp; (try with_reducible rfl)
  simp only [Act.put, List.setIfInBounds_toArray, List.set_cons_zero, List.set_cons_succ]
  refine wl_read (v := ?_) (some 77) rfl (by rfl) ?_ ?_
  rotate_left
  · go_simp; (try with_reducible rfl)
  simp only [Act.put, List.setIfInBounds_toArray, List.set_cons_zero, List.set_cons_succ]
  refine wl_read (v := ?_) (some 78) rfl (by rfl) ?_ ?_
  rotate_left
  · go_simp; (try with_reducible rfl)
  simp only [Act.put, List.setIfInBounds_toArray, List.set_cons_zero, List.set_cons_succ]
  refine wl_read (v := ?_) (some 79) rfl (by rfl) ?_ ?_
  rotate_left
  · go_simp; (try with_reducible rfl)
  simp only [Act.put, List.setIfInBounds_toArray, List.set_cons_zero, List.set_cons_succ]
  refine wl_read (v := ?_) (some 80) rfl (by rfl) ?_ ?_
  rotate_left
  · go_simp; (try with_reducible rfl)
  simp only [Act.put, List.setIfInBounds_toArray, List.set_cons_zero, List.set_cons_succ]
  refine wl_read (v := ?_) (some 81) rfl (by rfl) ?_ ?_
  rotate_left
  · go_simp; (try with_reducible rfl)
  simp only [Act.put, List.setIfInBounds_toArray, List.set_cons_zero, List.set_cons_succ]
  refine wl_load (some 82) rfl (by rfl) 29 (.tmp 11) rfl (g23) rfl 29 (opCells (setK o)) _ D_33.out Try.underlying29 rfl (by kernel_rfl) ?_
  simp only [Act.put, List.setIfInBounds_toArray, List.set_cons_zero, List.set_cons_succ]
  go_wp2_with fail
  refine (HK.out _).mono ?_
  rintro e w34 ⟨rfl, hb34⟩
  have O_35 := Lib.hid (O_33.out.bl hb34)
  have A_35 := Lib.hid (A_33.out.bl hb34)
  have B_35 := Lib.hid (B_33.out.bl hb34)
  have C_35 := Lib.hid (C_33.out.bl hb34)
  have D_35 := Lib.hid (D_33.out.bl hb34)
  have Bel_35 := Lib.hid (bel_bl Bel_33.out hb34)
  clear hb34
  go_wp2
  go_ret
  exact ⟨rfl, Bel_35.out⟩

set_option maxRecDepth 100000 in
set_option maxHeartbeats 4000000 in
theorem oz_0 (o : OpT) (n : Int) (t : ByteArray) (hm : mayO o = 0) (hn : decide (n ≤ 0) = false) (ht : t ≠ ⟨#[]⟩) (k5 : o.k ≠ 5) (k7 : o.k ≠ 7) (k8 : o.k ≠ 8) (w : World) : Calls Try.prog 5 #[.agg (opCells o).toArray, .int .i64 n, .string t] w fun e w' => e = .returned (.bool true) ∧ Below w.heap.size w w' := by
  have h1 := mayop_any o
  rw [hm] at h1
  have H1 := Lib.hid h1
  have ht' : ¬ t.toList = [] := fun h => ht (by rw [ByteArray.toList_eq] at h; exact ByteArray.ext (Array.toList_inj.1 (by simpa using h)))
  have ht1 : t.toList.isEmpty = false := by cases h : t.toList.isEmpty <;> simp_all
  have hr := may_range hm
  have hA := mayop_any (setM o n)
  rw [may_setM o n hm (by simpa using hn) (by omega) (by omega)] at hA
  have HA := Lib.hid hA
  clear hA
  have hT := mayop_any (setT o t)
  rw [may_setT o t hm ht (by omega)] at hT
  have HT := Lib.hid hT
  clear hT
  have hN := mayop_any (setN o)
  rw [may_setN o hm (by omega)] at hN
  have HN := Lib.hid hN
  clear hN
  have hK := mayop_any (setK o)
  rw [may_setK o hm] at hK
  have HK := Lib.hid hK
  clear hK
  have q5 : (o.k == 5) = false := beq_eq_false_iff_ne.2 k5
  have q7 : (o.k == 7) = false := beq_eq_false_iff_ne.2 k7
  have q8 : (o.k == 8) = false := beq_eq_false_iff_ne.2 k8
  obtain ⟨hr1, hr2⟩ := hr
  clear h1 hm ht k5 k7 k8
  go_enter Try.func5, Try.ntmps5
  go_wp2_with fail
  refine (shown9 _).mono ?_
  rintro e w1 ⟨rfl, hb1⟩
  have O_2 := Lib.hid ((show Whole (w.alloc (.cells (opCells o).toArray 29)) (w.heap.size) (29) (opCells o) from Whole.new2 (by first | rfl | simp)).bl hb1)
  have Bel_2 := Lib.hid (bel_bl (bel_al (Below.refl _ w) (.cells (opCells o).toArray 29)) hb1)
  clear hb1
  obtain ⟨g0, gg0⟩ : ∃ x, w.heap.size = x := ⟨_, rfl⟩
  have LO0 : RowKit.Hid (w.heap.size ≤ g0) := Lib.hid (by omega)
  rw [gg0] at O_2
  rw [gg0]
  clear gg0
  go_upto_region 2 with fail
  refine wp_region_lit ?_
  refine wl_load (some 16) rfl (by rfl) 29 (.tmp 3) rfl (g0) rfl 29 (opCells o) _ O_2.out Try.underlying29 rfl (by kernel_rfl) ?_
  simp only [Act.put, List.setIfInBounds_toArray, List.set_cons_zero, List.set_cons_succ]
  go_wp2_with fail
  refine (H1.out _).mono ?_
  rintro e w3 ⟨rfl, hb3⟩
  have O_4 := Lib.hid (O_2.out.bl hb3)
  have Bel_4 := Lib.hid (bel_bl Bel_2.out hb3)
  clear hb3
  go_upto_region 4 with fail
  refine wp_region_lit ?_
  refine wl_load (some 28) rfl (by rfl) 29 (.tmp 3) rfl (g0) rfl 29 (opCells o) _ O_4.out Try.underlying29 rfl (by kernel_rfl) ?_
  simp only [Act.put, List.setIfInBounds_toArray, List.set_cons_zero, List.set_cons_succ]
  refine wl_new 8 rfl rfl rfl 29 (.tmp 28) rfl rfl #[.int .i64 0, .int .i64 0, .int .i64 0, .int .i64 0, .int .i64 0, .int .i64 0, .int .i64 0, .int .i64 0, .int .i64 0, .int .i64 0, .int .i64 0, .int .i64 0, .int .i64 0, .int .i64 0, .int .i64 0, .int .i64 0, .int .i64 0, .bool false, .string ⟨#[]⟩, .int .i64 0] ?_ ((opCells o).toArray) (by simp) rfl (by kernel_rfl) rfl (opCells_all _) ?_
  · go_simp; (try with_reducible rfl)
  simp only [Act.put, List.setIfInBounds_toArray, List.set_cons_zero, List.set_cons_succ]
  have NE_O_A_5 : RowKit.Hid (g0 ≠ w3.heap.size) := Lib.hid (by have := (O_4.out).lt; omega)
  have LO_A_5 : RowKit.Hid (w.heap.size ≤ w3.heap.size) := Lib.hid (Bel_4.out).size
  have O_6 := Lib.hid ((O_4.out.al (.cells ((opCells o).toArray) 29)))
  have A_6 := Lib.hid ((show Whole (w3.alloc (.cells ((opCells o).toArray) 29)) (w3.heap.size) (29) (opCells o) from Whole.new2 (by first | rfl | simp)))
  have Bel_6 := Lib.hid (bel_al Bel_4.out (.cells ((opCells o).toArray) 29))
  obtain ⟨v6, gv6⟩ : ∃ x, (w3.alloc (.cells ((opCells o).toArray) 29)) = x := ⟨_, rfl⟩
  rw [gv6] at O_6 A_6 Bel_6 ⊢
  clear gv6
  obtain ⟨g7, gg7⟩ : ∃ x, w3.heap.size = x := ⟨_, rfl⟩
  rw [gg7] at A_6 LO_A_5 NE_O_A_5
  rw [gg7]
  clear gg7
  have lw8 : (v6).cell? ⟨g7, 19, none⟩ = some (.int .i64 o.m) := A_6.out.cell (i := 19) rfl
  have fr19 := A_6.out.free 19
  go_upto_region 6 with fail
  clear lw8 fr19
  obtain ⟨v9, gv9⟩ : ∃ x, (v6.setCell ⟨g7, 19, none⟩ (.int .i64 n)) = x := ⟨_, rfl⟩
  have O_9 := Lib.hid (show Whole v9 g0 _ _ from gv9 ▸ (O_6.out.far (by show g0 ≠ g7; exact NE_O_A_5.out) _))
  have A_9 : RowKit.Hid (Whole v9 g7 29 (opCells (setM o n))) := Lib.hid (gv9 ▸ (A_6.out.set_ 19 _))
  have Bel_9 : RowKit.Hid (Below w.heap.size w v9) := Lib.hid (gv9 ▸ (Bel_6.out.setCell (by show w.heap.size ≤ g7; exact LO_A_5.out) _))
  rw [gv9]
  clear gv9
  go_upto_region 6 with fail
  refine wp_region_lit ?_
  refine wl_load (some 31) rfl (by rfl) 29 (.tmp 3) rfl (g0) rfl 29 (opCells o) _ O_9.out Try.underlying29 rfl (by kernel_rfl) ?_
  simp only [Act.put, List.setIfInBounds_toArray, List.set_cons_zero, List.set_cons_succ]
  refine wl_new 9 rfl rfl rfl 29 (.tmp 31) rfl rfl #[.int .i64 0, .int .i64 0, .int .i64 0, .int .i64 0, .int .i64 0, .int .i64 0, .int .i64 0, .int .i64 0, .int .i64 0, .int .i64 0, .int .i64 0, .int .i64 0, .int .i64 0, .int .i64 0, .int .i64 0, .int .i64 0, .int .i64 0, .bool false, .string ⟨#[]⟩, .int .i64 0] ?_ ((opCells o).toArray) (by simp) rfl (by kernel_rfl) rfl (opCells_all _) ?_
  · go_simp; (try with_reducible rfl)
  simp only [Act.put, List.setIfInBounds_toArray, List.set_cons_zero, List.set_cons_succ]
  have NE_O_B_10 : RowKit.Hid (g0 ≠ v9.heap.size) := Lib.hid (by have := (O_9.out).lt; omega)
  have NE_A_B_10 : RowKit.Hid (g7 ≠ v9.heap.size) := Lib.hid (by have := (A_9.out).lt; omega)
  have LO_B_10 : RowKit.Hid (w.heap.size ≤ v9.heap.size) := Lib.hid (Bel_9.out).size
  have O_11 := Lib.hid ((O_9.out.al (.cells ((opCells o).toArray) 29)))
  have A_11 := Lib.hid ((A_9.out.al (.cells ((opCells o).toArray) 29)))
  have B_11 := Lib.hid ((show Whole (v9.alloc (.cells ((opCells o).toArray) 29)) (v9.heap.size) (29) (opCells o) from Whole.new2 (by first | rfl | simp)))
  have Bel_11 := Lib.hid (bel_al Bel_9.out (.cells ((opCells o).toArray) 29))
  obtain ⟨v11, gv11⟩ : ∃ x, (v9.alloc (.cells ((opCells o).toArray) 29)) = x := ⟨_, rfl⟩
  rw [gv11] at O_11 A_11 B_11 Bel_11 ⊢
  clear gv11
  obtain ⟨g12, gg12⟩ : ∃ x, v9.heap.size = x := ⟨_, rfl⟩
  rw [gg12] at B_11 LO_B_10 NE_O_B_10 NE_A_B_10
  rw [gg12]
  clear gg12
  have lw13 : (v11).cell? ⟨g12, 18, none⟩ = some (.string o.t) := B_11.out.cell (i := 18) rfl
  have fr18 := B_11.out.free 18
  go_upto_region 8 with fail
  clear lw13 fr18
  obtain ⟨v14, gv14⟩ : ∃ x, (v11.setCell ⟨g12, 18, none⟩ (.string t)) = x := ⟨_, rfl⟩
  have O_14 := Lib.hid (show Whole v14 g0 _ _ from gv14 ▸ (O_11.out.far (by show g0 ≠ g12; exact NE_O_B_10.out) _))
  have A_14 := Lib.hid (show Whole v14 g7 _ _ from gv14 ▸ (A_11.out.far (by show g7 ≠ g12; exact NE_A_B_10.out) _))
  have B_14 : RowKit.Hid (Whole v14 g12 29 (opCells (setT o t))) := Lib.hid (gv14 ▸ (B_11.out.set_ 18 _))
  have Bel_14 : RowKit.Hid (Below w.heap.size w v14) := Lib.hid (gv14 ▸ (Bel_11.out.setCell (by show w.heap.size ≤ g12; exact LO_B_10.out) _))
  rw [gv14]
  clear gv14
  go_upto_region 8 with fail
  refine wp_region_lit ?_
  refine wl_load (some 34) rfl (by rfl) 29 (.tmp 3) rfl (g0) rfl 29 (opCells o) _ O_14.out Try.underlying29 rfl (by kernel_rfl) ?_
  simp only [Act.put, List.setIfInBounds_toArray, List.set_cons_zero, List.set_cons_succ]
  refine wl_new 10 rfl rfl rfl 29 (.tmp 34) rfl rfl #[.int .i64 0, .int .i64 0, .int .i64 0, .int .i64 0, .int .i64 0, .int .i64 0, .int .i64 0, .int .i64 0, .int .i64 0, .int .i64 0, .int .i64 0, .int .i64 0, .int .i64 0, .int .i64 0, .int .i64 0, .int .i64 0, .int .i64 0, .bool false, .string ⟨#[]⟩, .int .i64 0] ?_ ((opCells o).toArray) (by simp) rfl (by kernel_rfl) rfl (opCells_all _) ?_
  · go_simp; (try with_reducible rfl)
  simp only [Act.put, List.setIfInBounds_toArray, List.set_cons_zero, List.set_cons_succ]
  have NE_O_C_15 : RowKit.Hid (g0 ≠ v14.heap.size) := Lib.hid (by have := (O_14.out).lt; omega)
  have NE_A_C_15 : RowKit.Hid (g7 ≠ v14.heap.size) := Lib.hid (by have := (A_14.out).lt; omega)
  have NE_B_C_15 : RowKit.Hid (g12 ≠ v14.heap.size) := Lib.hid (by have := (B_14.out).lt; omega)
  have LO_C_15 : RowKit.Hid (w.heap.size ≤ v14.heap.size) := Lib.hid (Bel_14.out).size
  have O_16 := Lib.hid ((O_14.out.al (.cells ((opCells o).toArray) 29)))
  have A_16 := Lib.hid ((A_14.out.al (.cells ((opCells o).toArray) 29)))
  have B_16 := Lib.hid ((B_14.out.al (.cells ((opCells o).toArray) 29)))
  have C_16 := Lib.hid ((show Whole (v14.alloc (.cells ((opCells o).toArray) 29)) (v14.heap.size) (29) (opCells o) from Whole.new2 (by first | rfl | simp)))
  have Bel_16 := Lib.hid (bel_al Bel_14.out (.cells ((opCells o).toArray) 29))
  obtain ⟨v16, gv16⟩ : ∃ x, (v14.alloc (.cells ((opCells o).toArray) 29)) = x := ⟨_, rfl⟩
  rw [gv16] at O_16 A_16 B_16 C_16 Bel_16 ⊢
  clear gv16
  obtain ⟨g17, gg17⟩ : ∃ x, v14.heap.size = x := ⟨_, rfl⟩
  rw [gg17] at C_16 LO_C_15 NE_O_C_15 NE_A_C_15 NE_B_C_15
  rw [gg17]
  clear gg17
  have lw18 : (v16).cell? ⟨g17, 3, none⟩ = some (.int .i64 o.s1) := C_16.out.cell (i := 3) rfl
  have lw19 : (v16).cell? ⟨g17, 4, none⟩ = some (.int .i64 o.n1) := C_16.out.cell (i := 4) rfl
  have fr3 := C_16.out.free 3
  have fr4 := C_16.out.free 4
  go_upto_region 10 with fail
  clear lw18 lw19 fr3 fr4
  obtain ⟨v20, gv20⟩ : ∃ x, ((v16.setCell ⟨g17, 3, none⟩ (.int .i64 1)).setCell ⟨g17, 4, none⟩ (.int .i64 1)) = x := ⟨_, rfl⟩
  have O_20 := Lib.hid (show Whole v20 g0 _ _ from gv20 ▸ ((O_16.out.far (by show g0 ≠ g17; exact NE_O_C_15.out) _).far (by show g0 ≠ g17; exact NE_O_C_15.out) _))
  have A_20 := Lib.hid (show Whole v20 g7 _ _ from gv20 ▸ ((A_16.out.far (by show g7 ≠ g17; exact NE_A_C_15.out) _).far (by show g7 ≠ g17; exact NE_A_C_15.out) _))
  have B_20 := Lib.hid (show Whole v20 g12 _ _ from gv20 ▸ ((B_16.out.far (by show g12 ≠ g17; exact NE_B_C_15.out) _).far (by show g12 ≠ g17; exact NE_B_C_15.out) _))
  have C_20 : RowKit.Hid (Whole v20 g17 29 (opCells (setN o))) := Lib.hid (gv20 ▸ ((C_16.out.set_ 3 _).set_ 4 _))
  have Bel_20 : RowKit.Hid (Below w.heap.size w v20) := Lib.hid (gv20 ▸ ((Bel_16.out.setCell (by show w.heap.size ≤ g17; exact LO_C_15.out) _).setCell (by show w.heap.size ≤ g17; exact LO_C_15.out) _))
  rw [gv20]
  clear gv20
  go_upto_region 10 with fail
  refine wp_region_lit ?_
  refine wl_load (some 37) rfl (by rfl) 29 (.tmp 3) rfl (g0) rfl 29 (opCells o) _ O_20.out Try.underlying29 rfl (by kernel_rfl) ?_
  simp only [Act.put, List.setIfInBounds_toArray, List.set_cons_zero, List.set_cons_succ]
  refine wl_new 11 rfl rfl rfl 29 (.tmp 37) rfl rfl #[.int .i64 0, .int .i64 0, .int .i64 0, .int .i64 0, .int .i64 0, .int .i64 0, .int .i64 0, .int .i64 0, .int .i64 0, .int .i64 0, .int .i64 0, .int .i64 0, .int .i64 0, .int .i64 0, .int .i64 0, .int .i64 0, .int .i64 0, .bool false, .string ⟨#[]⟩, .int .i64 0] ?_ ((opCells o).toArray) (by simp) rfl (by kernel_rfl) rfl (opCells_all _) ?_
  · go_simp; (try with_reducible rfl)
  simp only [Act.put, List.setIfInBounds_toArray, List.set_cons_zero, List.set_cons_succ]
  have NE_O_D_21 : RowKit.Hid (g0 ≠ v20.heap.size) := Lib.hid (by have := (O_20.out).lt; omega)
  have NE_A_D_21 : RowKit.Hid (g7 ≠ v20.heap.size) := Lib.hid (by have := (A_20.out).lt; omega)
  have NE_B_D_21 : RowKit.Hid (g12 ≠ v20.heap.size) := Lib.hid (by have := (B_20.out).lt; omega)
  have NE_C_D_21 : RowKit.Hid (g17 ≠ v20.heap.size) := Lib.hid (by have := (C_20.out).lt; omega)
  have LO_D_21 : RowKit.Hid (w.heap.size ≤ v20.heap.size) := Lib.hid (Bel_20.out).size
  have O_22 := Lib.hid ((O_20.out.al (.cells ((opCells o).toArray) 29)))
  have A_22 := Lib.hid ((A_20.out.al (.cells ((opCells o).toArray) 29)))
  have B_22 := Lib.hid ((B_20.out.al (.cells ((opCells o).toArray) 29)))
  have C_22 := Lib.hid ((C_20.out.al (.cells ((opCells o).toArray) 29)))
  have D_22 := Lib.hid ((show Whole (v20.alloc (.cells ((opCells o).toArray) 29)) (v20.heap.size) (29) (opCells o) from Whole.new2 (by first | rfl | simp)))
  have Bel_22 := Lib.hid (bel_al Bel_20.out (.cells ((opCells o).toArray) 29))
  obtain ⟨v22, gv22⟩ : ∃ x, (v20.alloc (.cells ((opCells o).toArray) 29)) = x := ⟨_, rfl⟩
  rw [gv22] at O_22 A_22 B_22 C_22 D_22 Bel_22 ⊢
  clear gv22
  obtain ⟨g23, gg23⟩ : ∃ x, v20.heap.size = x := ⟨_, rfl⟩
  rw [gg23] at D_22 LO_D_21 NE_O_D_21 NE_A_D_21 NE_B_D_21 NE_C_D_21
  rw [gg23]
  clear gg23
  have lw24 : (v22).cell? ⟨g23, 0, none⟩ = some (.int .i64 o.k) := D_22.out.cell (i := 0) rfl
  have fr0 := D_22.out.free 0
  have lw25 : (v22).cell? ⟨g0, 0, none⟩ = some (.int .i64 o.k) := O_22.out.cell (i := 0) rfl
  go_upto_region 12 with fail
  clear lw24 lw25 fr0
  obtain ⟨v26, gv26⟩ : ∃ x, (v22.setCell ⟨g23, 0, none⟩ (.int .i64 (o.k + 8))) = x := ⟨_, rfl⟩
  have O_26 := Lib.hid (show Whole v26 g0 _ _ from gv26 ▸ (O_22.out.far (by show g0 ≠ g23; exact NE_O_D_21.out) _))
  have A_26 := Lib.hid (show Whole v26 g7 _ _ from gv26 ▸ (A_22.out.far (by show g7 ≠ g23; exact NE_A_D_21.out) _))
  have B_26 := Lib.hid (show Whole v26 g12 _ _ from gv26 ▸ (B_22.out.far (by show g12 ≠ g23; exact NE_B_D_21.out) _))
  have C_26 := Lib.hid (show Whole v26 g17 _ _ from gv26 ▸ (C_22.out.far (by show g17 ≠ g23; exact NE_C_D_21.out) _))
  have D_26 : RowKit.Hid (Whole v26 g23 29 (opCells (setK o))) := Lib.hid (gv26 ▸ (D_22.out.set_ 0 _))
  have Bel_26 : RowKit.Hid (Below w.heap.size w v26) := Lib.hid (gv26 ▸ (Bel_22.out.setCell (by show w.heap.size ≤ g23; exact LO_D_21.out) _))
  rw [gv26]
  clear gv26
  have lw27 : (v26).cell? ⟨g0, 0, none⟩ = some (.int .i64 o.k) := O_26.out.cell (i := 0) rfl
  refine wp_region_lit ?_
  refine wl_read (v := ?_) (some 42) rfl (by rfl) ?_ ?_
  rotate_left
  · go_simp; (try with_reducible rfl)
  simp only [Act.put, List.setIfInBounds_toArray, List.set_cons_zero, List.set_cons_succ]
  refine wl_read (v := ?_) (some 43) rfl (by rfl) ?_ ?_
  rotate_left
  · go_simp; (try with_reducible rfl)
  simp only [Act.put, List.setIfInBounds_toArray, List.set_cons_zero, List.set_cons_succ]
  refine wl_read (v := ?_) (some 44) rfl (by rfl) ?_ ?_
  rotate_left
  · go_simp; (try with_reducible rfl)
  simp only [Act.put, List.setIfInBounds_toArray, List.set_cons_zero, List.set_cons_succ]
  refine wl_read (v := ?_) (some 45) rfl (by rfl) ?_ ?_
  rotate_left
  · go_simp; (try with_reducible rfl)
  simp only [Act.put, List.setIfInBounds_toArray, List.set_cons_zero, List.set_cons_succ]
  refine wl_read (v := ?_) (some 46) rfl (by rfl) ?_ ?_
  rotate_left
  · go_simp; (try with_reducible rfl)
  simp only [Act.put, List.setIfInBounds_toArray, List.set_cons_zero, List.set_cons_succ]
  refine wl_read (v := ?_) (some 47) rfl (by rfl) ?_ ?_
  rotate_left
  · go_simp; (try with_reducible rfl)
  simp only [Act.put, List.setIfInBounds_toArray, List.set_cons_zero, List.set_cons_succ]
  refine wl_read (v := ?_) (some 48) rfl (by rfl) ?_ ?_
  rotate_left
  · go_simp; (try with_reducible rfl)
  simp only [Act.put, List.setIfInBounds_toArray, List.set_cons_zero, List.set_cons_succ]
  refine wl_read (v := ?_) (some 49) rfl (by rfl) ?_ ?_
  rotate_left
  · go_simp; (try with_reducible rfl)
  simp only [Act.put, List.setIfInBounds_toArray, List.set_cons_zero, List.set_cons_succ]
  refine wl_read (v := ?_) (some 50) rfl (by rfl) ?_ ?_
  rotate_left
  · go_simp; (try with_reducible rfl)
  simp only [Act.put, List.setIfInBounds_toArray, List.set_cons_zero, List.set_cons_succ]
  refine wl_load (some 51) rfl (by rfl) 29 (.tmp 8) rfl (g7) rfl 29 (opCells (setM o n)) _ A_26.out Try.underlying29 rfl (by kernel_rfl) ?_
  simp only [Act.put, List.setIfInBounds_toArray, List.set_cons_zero, List.set_cons_succ]
  clear lw27
  go_wp2_with fail
  refine (HA.out _).mono ?_
  rintro e w28 ⟨rfl, hb28⟩
  have O_29 := Lib.hid (O_26.out.bl hb28)
  have A_29 := Lib.hid (A_26.out.bl hb28)
  have B_29 := Lib.hid (B_26.out.bl hb28)
  have C_29 := Lib.hid (C_26.out.bl hb28)
  have D_29 := Lib.hid (D_26.out.bl hb28)
  have Bel_29 := Lib.hid (bel_bl Bel_26.out hb28)
  clear hb28
  go_upto_region 13 with fail
  have lw30 : (w28).cell? ⟨g0, 0, none⟩ = some (.int .i64 o.k) := O_29.out.cell (i := 0) rfl
  refine wp_region_lit ?_
  refine wl_read (v := ?_) (some 55) rfl (by rfl) ?_ ?_
  rotate_left
  · go_simp; (try with_reducible rfl)
  simp only [Act.put, List.setIfInBounds_toArray, List.set_cons_zero, List.set_cons_succ]
  refine wl_read (v := ?_) (some 56) rfl (by rfl) ?_ ?_
  rotate_left
  · go_simp; (try with_reducible rfl)
  simp only [Act.put, List.setIfInBounds_toArray, List.set_cons_zero, List.set_cons_succ]
  refine wl_read (v := ?_) (some 57) rfl (by rfl) ?_ ?_
  rotate_left
  · go_simp; (try with_reducible rfl)
  simp only [Act.put, List.setIfInBounds_toArray, List.set_cons_zero, List.set_cons_succ]
  refine wl_read (v := ?_) (some 58) rfl (by rfl) ?_ ?_
  rotate_left
  · go_simp; (try with_reducible rfl)
  simp only [Act.put, List.setIfInBounds_toArray, List.set_cons_zero, List.set_cons_succ]
  refine wl_load (some 59) rfl (by rfl) 29 (.tmp 9) rfl (g12) rfl 29 (opCells (setT o t)) _ B_29.out Try.underlying29 rfl (by kernel_rfl) ?_
  simp only [Act.put, List.setIfInBounds_toArray, List.set_cons_zero, List.set_cons_succ]
  clear lw30
  go_wp2_with fail
  refine (HT.out _).mono ?_
  rintro e w31 ⟨rfl, hb31⟩
  have O_32 := Lib.hid (O_29.out.bl hb31)
  have A_32 := Lib.hid (A_29.out.bl hb31)
  have B_32 := Lib.hid (B_29.out.bl hb31)
  have C_32 := Lib.hid (C_29.out.bl hb31)
  have D_32 := Lib.hid (D_29.out.bl hb31)
  have Bel_32 := Lib.hid (bel_bl Bel_29.out hb31)
  clear hb31
  go_upto_region 14 with fail
  have lw33 : (w31).cell? ⟨g0, 0, none⟩ = some (.int .i64 o.k) := O_32.out.cell (i := 0) rfl
  refine wp_region_lit ?_
  refine wl_read (v := ?_) (some 63) rfl (by rfl) ?_ ?_
  rotate_left
  · go_simp; (try with_reducible rfl)
  simp only [Act.put, List.setIfInBounds_toArray, List.set_cons_zero, List.set_cons_succ]
  refine wl_read (v := ?_) (some 64) rfl (by rfl) ?_ ?_
  rotate_left
  · go_simp; (try with_reducible rfl)
  simp only [Act.put, List.setIfInBounds_toArray, List.set_cons_zero, List.set_cons_succ]
  refine wl_read (v := ?_) (some 65) rfl (by rfl) ?_ ?_
  rotate_left
  · go_simp; (try with_reducible rfl)
  simp only [Act.put, List.setIfInBounds_toArray, List.set_cons_zero, List.set_cons_succ]
  refine wl_read (v := ?_) (some 66) rfl (by rfl) ?_ ?_
  rotate_left
  · go_simp; (try with_reducible rfl)
  simp only [Act.put, List.setIfInBounds_toArray, List.set_cons_zero, List.set_cons_succ]
  refine wl_load (some 67) rfl (by rfl) 29 (.tmp 10) rfl (g17) rfl 29 (opCells (setN o)) _ C_32.out Try.underlying29 rfl (by kernel_rfl) ?_
  simp only [Act.put, List.setIfInBounds_toArray, List.set_cons_zero, List.set_cons_succ]
  clear lw33
  go_wp2_with fail
  refine (HN.out _).mono ?_
  rintro e w34 ⟨rfl, hb34⟩
  have O_35 := Lib.hid (O_32.out.bl hb34)
  have A_35 := Lib.hid (A_32.out.bl hb34)
  have B_35 := Lib.hid (B_32.out.bl hb34)
  have C_35 := Lib.hid (C_32.out.bl hb34)
  have D_35 := Lib.hid (D_32.out.bl hb34)
  have Bel_35 := Lib.hid (bel_bl Bel_32.out hb34)
  clear hb34
  go_upto_region 15 with fail
  refine wp_region_lit ?_
  refine wl_read (v := ?_) (some 71) rfl (by rfl) ?_ ?_
  rotate_left
  · go_simp; (try with_reducible rfl)
  simp only [Act.put, List.setIfInBounds_toArray, List.set_cons_zero, List.set_cons_succ]
  refine wl_read (v := ?_) (some 72) rfl (by rfl) ?_ ?_
  rotate_left
  · go_simp; (try with_reducible rfl)
  simp only [Act.put, List.setIfInBounds_toArray, List.set_cons_zero, List.set_cons_succ]
  refine wl_read (v := ?_) (some 73) rfl (by rfl) ?_ ?_
  rotate_left
  · go_simp; (try with_reducible rfl)
  simp only [Act.put, List.setIfInBounds_toArray, List.set_cons_zero, List.set_cons_succ]
  refine wl_read (v := ?_) (some 74) rfl (by rfl) ?_ ?_
  rotate_left
  · go_simp; (try with_reducible rfl)
  simp only [Act.put, List.setIfInBounds_toArray, List.set_cons_zero, List.set_cons_succ]
  refine wl_read (v := ?_) (some 75) rfl (by rfl) ?_ ?_
  rotate_left
  · go_simp; (try with_reducible rfl)
  simp only [Act.put, List.setIfInBounds_toArray, List.set_cons_zero, List.set_cons_succ]
  refine wl_read (v := ?_) (some 76) rfl (by rfl) ?_ ?_
  rotate_left
  · go_simp; (try with_reducible rfl)
  simp only [Act.put, List.setIfInBounds_toArray, List.set_cons_zero, List.set_cons_succ]
  refine wl_read (v := ?_) (some 77) rfl (by rfl) ?_ ?_
  rotate_left
  · go_simp; (try with_reducible rfl)
  simp only [Act.put, List.setIfInBounds_toArray, List.set_cons_zero, List.set_cons_succ]
  refine wl_read (v := ?_) (some 78) rfl (by rfl) ?_ ?_
  rotate_left
  · go_simp; (try with_reducible rfl)
  simp only [Act.put, List.setIfInBounds_toArray, List.set_cons_zero, List.set_cons_succ]
  refine wl_read (v := ?_) (some 79) rfl (by rfl) ?_ ?_
  rotate_left
  · go_simp; (try with_reducible rfl)
  simp only [Act.put, List.setIfInBounds_toArray, List.set_cons_zero, List.set_cons_succ]
  refine wl_read (v := ?_) (some 80) rfl (by rfl) ?_ ?_
  rotate_left
  · go_simp; (try with_reducible rfl)
  simp only [Act.put, List.setIfInBounds_toArray, List.set_cons_zero, List.set_cons_succ]
  refine wl_read (v := ?_) (some 81) rfl (by rfl) ?_ ?_
  rotate_left
  · go_simp; (try with_reducible rfl)
  simp only [Act.put, List.setIfInBounds_toArray, List.set_cons_zero, List.set_cons_succ]
  refine wl_load (some 82) rfl (by rfl) 29 (.tmp 11) rfl (g23) rfl 29 (opCells (setK o)) _ D_35.out Try.underlying29 rfl (by kernel_rfl) ?_
  simp only [Act.put, List.setIfInBounds_toArray, List.set_cons_zero, List.set_cons_succ]
  go_wp2_with fail
  refine (HK.out _).mono ?_
  rintro e w36 ⟨rfl, hb36⟩
  have O_37 := Lib.hid (O_35.out.bl hb36)
  have A_37 := Lib.hid (A_35.out.bl hb36)
  have B_37 := Lib.hid (B_35.out.bl hb36)
  have C_37 := Lib.hid (C_35.out.bl hb36)
  have D_37 := Lib.hid (D_35.out.bl hb36)
  have Bel_37 := Lib.hid (bel_bl Bel_35.out hb36)
  clear hb36
  go_wp2
  go_ret
  exact ⟨rfl, Bel_37.out⟩

theorem law_zero (o : OpT) (n : Int) (t : ByteArray) (w : World) : Calls Try.prog 5 #[.agg (opCells o).toArray, .int .i64 n, .string t] w fun e w' => e = .returned (.bool true) ∧ Below w.heap.size w w' := by
  by_cases hm : mayO o = 0
  case neg => exact oz_no o n t hm w
  by_cases hn : n ≤ 0
  · exact oz_neg o n t hm (decide_eq_true hn) w
  by_cases ht : t = ⟨#[]⟩
  · subst ht
    exact oz_str o n hm (decide_eq_false hn) w
  by_cases k5 : o.k = 5
  · exact oz_5 o n t hm (decide_eq_false hn) ht k5 w
  by_cases k7 : o.k = 7
  · exact oz_7 o n t hm (decide_eq_false hn) ht k7 w
  by_cases k8 : o.k = 8
  · exact oz_8 o n t hm (decide_eq_false hn) ht k8 w
  exact oz_0 o n t hm (decide_eq_false hn) ht k5 k7 k8 w
end Go.Proofs.Ytfbgbljljhgbjaa
