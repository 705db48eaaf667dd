/- The contract of the document's own rest. -/
import Derived.Test.YtfbgbljljhgbjaaOp8
import Derived.Deep.WholeRow
import Derived.Great.Walk
namespace Go.Proofs.Ytfbgbljljhgbjaa
open Go.RowKit Go.Great
set_option linter.unusedSimpArgs false
set_option linter.unusedVariables false

/-- An operation without what its kind names. -/
def restO (o : OpT) : OpT :=
  if o.k = 3 then ⟨0, 0, 0, o.s1, o.n1, o.s2, o.n2, 0, 0, 0, 0, 0, 0, 0, 0, 0, 0, o.e, o.t, o.m⟩
  else if o.k = 5 then ⟨0, 0, 0, 0, 0, 0, 0, o.a0, o.a1, o.a2, o.a3, o.a4, o.b0, o.b1, o.b2, o.b3, o.b4, o.e, o.t, 0⟩
  else if o.k = 6 then ⟨0, 0, 0, o.s1, o.n1, 0, 0, o.a0, o.a1, o.a2, o.a3, o.a4, o.b0, o.b1, o.b2, o.b3, o.b4, o.e, o.t, o.m⟩
  else if o.k = 7 then ⟨0, 0, 0, o.s1, o.n1, o.s2, o.n2, o.a0, o.a1, o.a2, o.a3, o.a4, o.b0, o.b1, o.b2, o.b3, o.b4, false, ⟨#[]⟩, o.m⟩
  else if o.k = 8 then ⟨0, 0, 0, o.s1, o.n1, o.s2, o.n2, o.a0, o.a1, o.a2, o.a3, o.a4, o.b0, o.b1, o.b2, o.b3, o.b4, false, o.t, 0⟩
  else ⟨0, 0, 0, o.s1, o.n1, o.s2, o.n2, o.a0, o.a1, o.a2, o.a3, o.a4, o.b0, o.b1, o.b2, o.b3, o.b4, o.e, o.t, o.m⟩

set_option maxRecDepth 100000 in
set_option maxHeartbeats 2000000 in
theorem rest_0 (o : OpT) (q3 : (o.k == 3) = false) (q5 : (o.k == 5) = false) (q6 : (o.k == 6) = false) (q7 : (o.k == 7) = false) (q8 : (o.k == 8) = false) (w : World) : Calls Try.prog 25 #[.agg (opCells o).toArray] w fun e w' => e = .returned (.agg (opCells ⟨0, 0, 0, o.s1, o.n1, o.s2, o.n2, o.a0, o.a1, o.a2, o.a3, o.a4, o.b0, o.b1, o.b2, o.b3, o.b4, o.e, o.t, o.m⟩).toArray) ∧ Below w.heap.size w w' := by
  go_enter Try.func25, Try.ntmps25
  go_upto_region 1 with fail
  obtain ⟨W1, gW1⟩ : ∃ x, (w.alloc (.cells (opCells o).toArray 29)).alloc (.cells #[.int .i64 0, .int .i64 0, .int .i64 0, .int .i64 0, .int .i64 0, .int .i64 0, .int .i64 0, .int .i64 0, .int .i64 0, .int .i64 0, .int .i64 0, .int .i64 0, .int .i64 0, .int .i64 0, .int .i64 0, .int .i64 0, .int .i64 0, .bool false, .string ⟨#[]⟩, .int .i64 0] 29) = x := ⟨_, rfl⟩
  have HO : RowKit.Hid (Whole W1 w.heap.size 29 (opCells o)) := Lib.hid (by rw [← gW1]; exact (Whole.new_ w _ _).alloc _)
  have HR : RowKit.Hid (Whole W1 (w.heap.size + 1) 29 [.int .i64 0, .int .i64 0, .int .i64 0, .int .i64 0, .int .i64 0, .int .i64 0, .int .i64 0, .int .i64 0, .int .i64 0, .int .i64 0, .int .i64 0, .int .i64 0, .int .i64 0, .int .i64 0, .int .i64 0, .int .i64 0, .int .i64 0, .bool false, .string ⟨#[]⟩, .int .i64 0]) := Lib.hid (by rw [← gW1]; exact Whole.new2 (cs := [.int .i64 0, .int .i64 0, .int .i64 0, .int .i64 0, .int .i64 0, .int .i64 0, .int .i64 0, .int .i64 0, .int .i64 0, .int .i64 0, .int .i64 0, .int .i64 0, .int .i64 0, .int .i64 0, .int .i64 0, .int .i64 0, .int .i64 0, .bool false, .string ⟨#[]⟩, .int .i64 0]) (by simp))
  have HB : RowKit.Hid (Below w.heap.size w W1) := Lib.hid (by rw [← gW1]; exact below2 _ _ _)
  rw [gW1]
  clear gW1
  obtain ⟨g0, gg0⟩ : ∃ x, w.heap.size = x := ⟨_, rfl⟩
  rw [gg0] at HO HR ⊢
  have HG0 : RowKit.Hid (w.heap.size ≤ g0) := Lib.hid (by omega)
  clear gg0
  have l0 : W1.cell? ⟨g0, 0, none⟩ = some (.int .i64 o.k) := HO.out.cell (i := 0) rfl
  have z0 := HO.out.free 0
  have l1 : W1.cell? ⟨g0, 1, none⟩ = some (.int .i64 o.s) := HO.out.cell (i := 1) rfl
  have z1 := HO.out.free 1
  have l2 : W1.cell? ⟨g0, 2, none⟩ = some (.int .i64 o.n) := HO.out.cell (i := 2) rfl
  have z2 := HO.out.free 2
  go_upto_region 19 with fail
  clear l0 z0 l1 z1 l2 z2
  obtain ⟨W2, gW2⟩ : ∃ x, ((((((W1).setCell ⟨g0, 0, none⟩ (.int .i64 0))).setCell ⟨g0, 1, none⟩ (.int .i64 0))).setCell ⟨g0, 2, none⟩ (.int .i64 0)) = x := ⟨_, rfl⟩
  have HO2 : RowKit.Hid (Whole W2 g0 29 (opCells ⟨0, 0, 0, o.s1, o.n1, o.s2, o.n2, o.a0, o.a1, o.a2, o.a3, o.a4, o.b0, o.b1, o.b2, o.b3, o.b4, o.e, o.t, o.m⟩)) := Lib.hid (gW2 ▸ (((HO.out.set_ 0 _).set_ 1 _).set_ 2 _))
  have HR2 : RowKit.Hid (Whole W2 (g0 + 1) 29 [.int .i64 0, .int .i64 0, .int .i64 0, .int .i64 0, .int .i64 0, .int .i64 0, .int .i64 0, .int .i64 0, .int .i64 0, .int .i64 0, .int .i64 0, .int .i64 0, .int .i64 0, .int .i64 0, .int .i64 0, .int .i64 0, .int .i64 0, .bool false, .string ⟨#[]⟩, .int .i64 0]) := Lib.hid (gW2 ▸ (((HR.out.far (by show g0 + 1 ≠ g0; omega) _).far (by show g0 + 1 ≠ g0; omega) _).far (by show g0 + 1 ≠ g0; omega) _))
  have HB2 : RowKit.Hid (Below w.heap.size w W2) := Lib.hid (gW2 ▸ (((HB.out.setCell (by show w.heap.size ≤ g0; exact HG0.out) _).setCell (by show w.heap.size ≤ g0; exact HG0.out) _).setCell (by show w.heap.size ≤ g0; exact HG0.out) _))
  rw [gW2]
  clear gW2
  refine wp_region_lit ?_
  refine wpList_load_row rfl 29 (.tmp 1) rfl g0 rfl 29 (opCells ⟨0, 0, 0, o.s1, o.n1, o.s2, o.n2, o.a0, o.a1, o.a2, o.a3, o.a4, o.b0, o.b1, o.b2, o.b3, o.b4, o.e, o.t, o.m⟩).toArray (0, 0) _ HO2.out Try.underlying29 rfl (by kernel_rfl) ?_
  simp only [Act.put, List.setIfInBounds_toArray, List.set_cons_zero, List.set_cons_succ]
  refine wpList_store_row rfl 29 (.tmp 2) (.tmp 33) rfl (g0 + 1) (opCells ⟨0, 0, 0, o.s1, o.n1, o.s2, o.n2, o.a0, o.a1, o.a2, o.a3, o.a4, o.b0, o.b1, o.b2, o.b3, o.b4, o.e, o.t, o.m⟩).toArray rfl rfl 29 #[.int .i64 0, .int .i64 0, .int .i64 0, .int .i64 0, .int .i64 0, .int .i64 0, .int .i64 0, .int .i64 0, .int .i64 0, .int .i64 0, .int .i64 0, .int .i64 0, .int .i64 0, .int .i64 0, .int .i64 0, .int .i64 0, .int .i64 0, .bool false, .string ⟨#[]⟩, .int .i64 0] HR2.out (by kernel_rfl) rfl (by simp [opCells, Value.oneCell']) ?_
  have HR3 : RowKit.Hid (Whole (W2.setRow (g0 + 1) (opCells ⟨0, 0, 0, o.s1, o.n1, o.s2, o.n2, o.a0, o.a1, o.a2, o.a3, o.a4, o.b0, o.b1, o.b2, o.b3, o.b4, o.e, o.t, o.m⟩).toArray) (g0 + 1) 29 (opCells ⟨0, 0, 0, o.s1, o.n1, o.s2, o.n2, o.a0, o.a1, o.a2, o.a3, o.a4, o.b0, o.b1, o.b2, o.b3, o.b4, o.e, o.t, o.m⟩)) := Lib.hid (setRow_heap W2 (g0 + 1) _ _ _ _ HR2.out)
  have HB3 : RowKit.Hid (Below w.heap.size w (W2.setRow (g0 + 1) (opCells ⟨0, 0, 0, o.s1, o.n1, o.s2, o.n2, o.a0, o.a1, o.a2, o.a3, o.a4, o.b0, o.b1, o.b2, o.b3, o.b4, o.e, o.t, o.m⟩).toArray)) := Lib.hid ⟨HB2.out.os, HB2.out.tape, HB2.out.output, (by have := HB2.out.size; simpa [World.setRow] using this), fun i hi => (setRow_other W2 (g0 + 1) i _ (by have := HG0.out; omega)).trans (HB2.out.block i hi)⟩
  obtain ⟨W3, gW3⟩ : ∃ x, W2.setRow (g0 + 1) (opCells ⟨0, 0, 0, o.s1, o.n1, o.s2, o.n2, o.a0, o.a1, o.a2, o.a3, o.a4, o.b0, o.b1, o.b2, o.b3, o.b4, o.e, o.t, o.m⟩).toArray = x := ⟨_, rfl⟩
  rw [gW3] at HR3 HB3 ⊢
  clear gW3
  go_wp2
  exact bodyPost_ret (v := .agg (opCells ⟨0, 0, 0, o.s1, o.n1, o.s2, o.n2, o.a0, o.a1, o.a2, o.a3, o.a4, o.b0, o.b1, o.b2, o.b3, o.b4, o.e, o.t, o.m⟩).toArray) (results_cell_row Try.results25 _ W3 (g0 + 1) 29 (opCells ⟨0, 0, 0, o.s1, o.n1, o.s2, o.n2, o.a0, o.a1, o.a2, o.a3, o.a4, o.b0, o.b1, o.b2, o.b3, o.b4, o.e, o.t, o.m⟩).toArray (0, 0) _ (by rfl) HR3.out Try.underlying29 rfl (by kernel_rfl)) rfl ⟨rfl, HB3.out⟩

set_option maxRecDepth 100000 in
set_option maxHeartbeats 2000000 in
theorem rest_3 (o : OpT) (hk : o.k = 3) (w : World) : Calls Try.prog 25 #[.agg (opCells o).toArray] w fun e w' => e = .returned (.agg (opCells ⟨0, 0, 0, o.s1, o.n1, o.s2, o.n2, 0, 0, 0, 0, 0, 0, 0, 0, 0, 0, o.e, o.t, o.m⟩).toArray) ∧ Below w.heap.size w w' := by
  obtain ⟨k, s, n, s1, n1, s2, n2, a0, a1, a2, a3, a4, b0, b1, b2, b3, b4, e, t, m⟩ := o
  obtain rfl : k = 3 := hk
  obtain ⟨o, go⟩ : ∃ o : OpT, o = ⟨3, s, n, s1, n1, s2, n2, a0, a1, a2, a3, a4, b0, b1, b2, b3, b4, e, t, m⟩ := ⟨_, rfl⟩
  have q : o.k = 3 := by rw [go]
  rw [show (⟨0, 0, 0, s1, n1, s2, n2, 0, 0, 0, 0, 0, 0, 0, 0, 0, 0, e, t, m⟩ : OpT) = ⟨0, 0, 0, o.s1, o.n1, o.s2, o.n2, 0, 0, 0, 0, 0, 0, 0, 0, 0, 0, o.e, o.t, o.m⟩ from by rw [go]]
  rw [← go]
  clear go
  go_enter Try.func25, Try.ntmps25
  go_upto_region 1 with fail
  obtain ⟨W1, gW1⟩ : ∃ x, (w.alloc (.cells (opCells o).toArray 29)).alloc (.cells #[.int .i64 0, .int .i64 0, .int .i64 0, .int .i64 0, .int .i64 0, .int .i64 0, .int .i64 0, .int .i64 0, .int .i64 0, .int .i64 0, .int .i64 0, .int .i64 0, .int .i64 0, .int .i64 0, .int .i64 0, .int .i64 0, .int .i64 0, .bool false, .string ⟨#[]⟩, .int .i64 0] 29) = x := ⟨_, rfl⟩
  have HO : RowKit.Hid (Whole W1 w.heap.size 29 (opCells o)) := Lib.hid (by rw [← gW1]; exact (Whole.new_ w _ _).alloc _)
  have HR : RowKit.Hid (Whole W1 (w.heap.size + 1) 29 [.int .i64 0, .int .i64 0, .int .i64 0, .int .i64 0, .int .i64 0, .int .i64 0, .int .i64 0, .int .i64 0, .int .i64 0, .int .i64 0, .int .i64 0, .int .i64 0, .int .i64 0, .int .i64 0, .int .i64 0, .int .i64 0, .int .i64 0, .bool false, .string ⟨#[]⟩, .int .i64 0]) := Lib.hid (by rw [← gW1]; exact Whole.new2 (cs := [.int .i64 0, .int .i64 0, .int .i64 0, .int .i64 0, .int .i64 0, .int .i64 0, .int .i64 0, .int .i64 0, .int .i64 0, .int .i64 0, .int .i64 0, .int .i64 0, .int .i64 0, .int .i64 0, .int .i64 0, .int .i64 0, .int .i64 0, .bool false, .string ⟨#[]⟩, .int .i64 0]) (by simp))
  have HB : RowKit.Hid (Below w.heap.size w W1) := Lib.hid (by rw [← gW1]; exact below2 _ _ _)
  rw [gW1]
  clear gW1
  obtain ⟨g0, gg0⟩ : ∃ x, w.heap.size = x := ⟨_, rfl⟩
  rw [gg0] at HO HR ⊢
  have HG0 : RowKit.Hid (w.heap.size ≤ g0) := Lib.hid (by omega)
  clear gg0
  have l7 : W1.cell? ⟨g0, 7, none⟩ = some (.int .i64 o.a0) := HO.out.cell (i := 7) rfl
  have z7 := HO.out.free 7
  have l8 : W1.cell? ⟨g0, 8, none⟩ = some (.int .i64 o.a1) := HO.out.cell (i := 8) rfl
  have z8 := HO.out.free 8
  have l9 : W1.cell? ⟨g0, 9, none⟩ = some (.int .i64 o.a2) := HO.out.cell (i := 9) rfl
  have z9 := HO.out.free 9
  have l10 : W1.cell? ⟨g0, 10, none⟩ = some (.int .i64 o.a3) := HO.out.cell (i := 10) rfl
  have z10 := HO.out.free 10
  have l11 : W1.cell? ⟨g0, 11, none⟩ = some (.int .i64 o.a4) := HO.out.cell (i := 11) rfl
  have z11 := HO.out.free 11
  have l12 : W1.cell? ⟨g0, 12, none⟩ = some (.int .i64 o.b0) := HO.out.cell (i := 12) rfl
  have z12 := HO.out.free 12
  have l13 : W1.cell? ⟨g0, 13, none⟩ = some (.int .i64 o.b1) := HO.out.cell (i := 13) rfl
  have z13 := HO.out.free 13
  have l14 : W1.cell? ⟨g0, 14, none⟩ = some (.int .i64 o.b2) := HO.out.cell (i := 14) rfl
  have z14 := HO.out.free 14
  have l15 : W1.cell? ⟨g0, 15, none⟩ = some (.int .i64 o.b3) := HO.out.cell (i := 15) rfl
  have z15 := HO.out.free 15
  have l16 : W1.cell? ⟨g0, 16, none⟩ = some (.int .i64 o.b4) := HO.out.cell (i := 16) rfl
  have z16 := HO.out.free 16
  have l0 : W1.cell? ⟨g0, 0, none⟩ = some (.int .i64 o.k) := HO.out.cell (i := 0) rfl
  have z0 := HO.out.free 0
  have l1 : W1.cell? ⟨g0, 1, none⟩ = some (.int .i64 o.s) := HO.out.cell (i := 1) rfl
  have z1 := HO.out.free 1
  have l2 : W1.cell? ⟨g0, 2, none⟩ = some (.int .i64 o.n) := HO.out.cell (i := 2) rfl
  have z2 := HO.out.free 2
  go_upto_region 19 with fail
  clear l7 z7 l8 z8 l9 z9 l10 z10 l11 z11 l12 z12 l13 z13 l14 z14 l15 z15 l16 z16 l0 z0 l1 z1 l2 z2
  obtain ⟨W2, gW2⟩ : ∃ x, ((((((((((((((((((((((((((W1).setCell ⟨g0, 7, none⟩ (.int .i64 0))).setCell ⟨g0, 8, none⟩ (.int .i64 0))).setCell ⟨g0, 9, none⟩ (.int .i64 0))).setCell ⟨g0, 10, none⟩ (.int .i64 0))).setCell ⟨g0, 11, none⟩ (.int .i64 0))).setCell ⟨g0, 12, none⟩ (.int .i64 0))).setCell ⟨g0, 13, none⟩ (.int .i64 0))).setCell ⟨g0, 14, none⟩ (.int .i64 0))).setCell ⟨g0, 15, none⟩ (.int .i64 0))).setCell ⟨g0, 16, none⟩ (.int .i64 0))).setCell ⟨g0, 0, none⟩ (.int .i64 0))).setCell ⟨g0, 1, none⟩ (.int .i64 0))).setCell ⟨g0, 2, none⟩ (.int .i64 0)) = x := ⟨_, rfl⟩
  have HO2 : RowKit.Hid (Whole W2 g0 29 (opCells ⟨0, 0, 0, o.s1, o.n1, o.s2, o.n2, 0, 0, 0, 0, 0, 0, 0, 0, 0, 0, o.e, o.t, o.m⟩)) := Lib.hid (gW2 ▸ (((((((((((((HO.out.set_ 7 _).set_ 8 _).set_ 9 _).set_ 10 _).set_ 11 _).set_ 12 _).set_ 13 _).set_ 14 _).set_ 15 _).set_ 16 _).set_ 0 _).set_ 1 _).set_ 2 _))
  have HR2 : RowKit.Hid (Whole W2 (g0 + 1) 29 [.int .i64 0, .int .i64 0, .int .i64 0, .int .i64 0, .int .i64 0, .int .i64 0, .int .i64 0, .int .i64 0, .int .i64 0, .int .i64 0, .int .i64 0, .int .i64 0, .int .i64 0, .int .i64 0, .int .i64 0, .int .i64 0, .int .i64 0, .bool false, .string ⟨#[]⟩, .int .i64 0]) := Lib.hid (gW2 ▸ (((((((((((((HR.out.far (by show g0 + 1 ≠ g0; omega) _).far (by show g0 + 1 ≠ g0; omega) _).far (by show g0 + 1 ≠ g0; omega) _).far (by show g0 + 1 ≠ g0; omega) _).far (by show g0 + 1 ≠ g0; omega) _).far (by show g0 + 1 ≠ g0; omega) _).far (by show g0 + 1 ≠ g0; omega) _).far (by show g0 + 1 ≠ g0; omega) _).far (by show g0 + 1 ≠ g0; omega) _).far (by show g0 + 1 ≠ g0; omega) _).far (by show g0 + 1 ≠ g0; omega) _).far (by show g0 + 1 ≠ g0; omega) _).far (by show g0 + 1 ≠ g0; omega) _))
  have HB2 : RowKit.Hid (Below w.heap.size w W2) := Lib.hid (gW2 ▸ (((((((((((((HB.out.setCell (by show w.heap.size ≤ g0; exact HG0.out) _).setCell (by show w.heap.size ≤ g0; exact HG0.out) _).setCell (by show w.heap.size ≤ g0; exact HG0.out) _).setCell (by show w.heap.size ≤ g0; exact HG0.out) _).setCell (by show w.heap.size ≤ g0; exact HG0.out) _).setCell (by show w.heap.size ≤ g0; exact HG0.out) _).setCell (by show w.heap.size ≤ g0; exact HG0.out) _).setCell (by show w.heap.size ≤ g0; exact HG0.out) _).setCell (by show w.heap.size ≤ g0; exact HG0.out) _).setCell (by show w.heap.size ≤ g0; exact HG0.out) _).setCell (by show w.heap.size ≤ g0; exact HG0.out) _).setCell (by show w.heap.size ≤ g0; exact HG0.out) _).setCell (by show w.heap.size ≤ g0; exact HG0.out) _))
  rw [gW2]
  clear gW2
  refine wp_region_lit ?_
  refine wpList_load_row rfl 29 (.tmp 1) rfl g0 rfl 29 (opCells ⟨0, 0, 0, o.s1, o.n1, o.s2, o.n2, 0, 0, 0, 0, 0, 0, 0, 0, 0, 0, o.e, o.t, o.m⟩).toArray (0, 0) _ HO2.out Try.underlying29 rfl (by kernel_rfl) ?_
  simp only [Act.put, List.setIfInBounds_toArray, List.set_cons_zero, List.set_cons_succ]
  refine wpList_store_row rfl 29 (.tmp 2) (.tmp 33) rfl (g0 + 1) (opCells ⟨0, 0, 0, o.s1, o.n1, o.s2, o.n2, 0, 0, 0, 0, 0, 0, 0, 0, 0, 0, o.e, o.t, o.m⟩).toArray rfl rfl 29 #[.int .i64 0, .int .i64 0, .int .i64 0, .int .i64 0, .int .i64 0, .int .i64 0, .int .i64 0, .int .i64 0, .int .i64 0, .int .i64 0, .int .i64 0, .int .i64 0, .int .i64 0, .int .i64 0, .int .i64 0, .int .i64 0, .int .i64 0, .bool false, .string ⟨#[]⟩, .int .i64 0] HR2.out (by kernel_rfl) rfl (by simp [opCells, Value.oneCell']) ?_
  have HR3 : RowKit.Hid (Whole (W2.setRow (g0 + 1) (opCells ⟨0, 0, 0, o.s1, o.n1, o.s2, o.n2, 0, 0, 0, 0, 0, 0, 0, 0, 0, 0, o.e, o.t, o.m⟩).toArray) (g0 + 1) 29 (opCells ⟨0, 0, 0, o.s1, o.n1, o.s2, o.n2, 0, 0, 0, 0, 0, 0, 0, 0, 0, 0, o.e, o.t, o.m⟩)) := Lib.hid (setRow_heap W2 (g0 + 1) _ _ _ _ HR2.out)
  have HB3 : RowKit.Hid (Below w.heap.size w (W2.setRow (g0 + 1) (opCells ⟨0, 0, 0, o.s1, o.n1, o.s2, o.n2, 0, 0, 0, 0, 0, 0, 0, 0, 0, 0, o.e, o.t, o.m⟩).toArray)) := Lib.hid ⟨HB2.out.os, HB2.out.tape, HB2.out.output, (by have := HB2.out.size; simpa [World.setRow] using this), fun i hi => (setRow_other W2 (g0 + 1) i _ (by have := HG0.out; omega)).trans (HB2.out.block i hi)⟩
  obtain ⟨W3, gW3⟩ : ∃ x, W2.setRow (g0 + 1) (opCells ⟨0, 0, 0, o.s1, o.n1, o.s2, o.n2, 0, 0, 0, 0, 0, 0, 0, 0, 0, 0, o.e, o.t, o.m⟩).toArray = x := ⟨_, rfl⟩
  rw [gW3] at HR3 HB3 ⊢
  clear gW3
  go_wp2
  exact bodyPost_ret (v := .agg (opCells ⟨0, 0, 0, o.s1, o.n1, o.s2, o.n2, 0, 0, 0, 0, 0, 0, 0, 0, 0, 0, o.e, o.t, o.m⟩).toArray) (results_cell_row Try.results25 _ W3 (g0 + 1) 29 (opCells ⟨0, 0, 0, o.s1, o.n1, o.s2, o.n2, 0, 0, 0, 0, 0, 0, 0, 0, 0, 0, o.e, o.t, o.m⟩).toArray (0, 0) _ (by rfl) HR3.out Try.underlying29 rfl (by kernel_rfl)) rfl ⟨rfl, HB3.out⟩

set_option maxRecDepth 100000 in
set_option maxHeartbeats 2000000 in
theorem rest_5 (o : OpT) (hk : o.k = 5) (w : World) : Calls Try.prog 25 #[.agg (opCells o).toArray] w fun e w' => e = .returned (.agg (opCells ⟨0, 0, 0, 0, 0, 0, 0, o.a0, o.a1, o.a2, o.a3, o.a4, o.b0, o.b1, o.b2, o.b3, o.b4, o.e, o.t, 0⟩).toArray) ∧ Below w.heap.size w w' := by
  obtain ⟨k, s, n, s1, n1, s2, n2, a0, a1, a2, a3, a4, b0, b1, b2, b3, b4, e, t, m⟩ := o
  obtain rfl : k = 5 := hk
  obtain ⟨o, go⟩ : ∃ o : OpT, o = ⟨5, s, n, s1, n1, s2, n2, a0, a1, a2, a3, a4, b0, b1, b2, b3, b4, e, t, m⟩ := ⟨_, rfl⟩
  have q : o.k = 5 := by rw [go]
  rw [show (⟨0, 0, 0, 0, 0, 0, 0, a0, a1, a2, a3, a4, b0, b1, b2, b3, b4, e, t, 0⟩ : OpT) = ⟨0, 0, 0, 0, 0, 0, 0, o.a0, o.a1, o.a2, o.a3, o.a4, o.b0, o.b1, o.b2, o.b3, o.b4, o.e, o.t, 0⟩ from by rw [go]]
  rw [← go]
  clear go
  go_enter Try.func25, Try.ntmps25
  go_upto_region 1 with fail
  obtain ⟨W1, gW1⟩ : ∃ x, (w.alloc (.cells (opCells o).toArray 29)).alloc (.cells #[.int .i64 0, .int .i64 0, .int .i64 0, .int .i64 0, .int .i64 0, .int .i64 0, .int .i64 0, .int .i64 0, .int .i64 0, .int .i64 0, .int .i64 0, .int .i64 0, .int .i64 0, .int .i64 0, .int .i64 0, .int .i64 0, .int .i64 0, .bool false, .string ⟨#[]⟩, .int .i64 0] 29) = x := ⟨_, rfl⟩
  have HO : RowKit.Hid (Whole W1 w.heap.size 29 (opCells o)) := Lib.hid (by rw [← gW1]; exact (Whole.new_ w _ _).alloc _)
  have HR : RowKit.Hid (Whole W1 (w.heap.size + 1) 29 [.int .i64 0, .int .i64 0, .int .i64 0, .int .i64 0, .int .i64 0, .int .i64 0, .int .i64 0, .int .i64 0, .int .i64 0, .int .i64 0, .int .i64 0, .int .i64 0, .int .i64 0, .int .i64 0, .int .i64 0, .int .i64 0, .int .i64 0, .bool false, .string ⟨#[]⟩, .int .i64 0]) := Lib.hid (by rw [← gW1]; exact Whole.new2 (cs := [.int .i64 0, .int .i64 0, .int .i64 0, .int .i64 0, .int .i64 0, .int .i64 0, .int .i64 0, .int .i64 0, .int .i64 0, .int .i64 0, .int .i64 0, .int .i64 0, .int .i64 0, .int .i64 0, .int .i64 0, .int .i64 0, .int .i64 0, .bool false, .string ⟨#[]⟩, .int .i64 0]) (by simp))
  have HB : RowKit.Hid (Below w.heap.size w W1) := Lib.hid (by rw [← gW1]; exact below2 _ _ _)
  rw [gW1]
  clear gW1
  obtain ⟨g0, gg0⟩ : ∃ x, w.heap.size = x := ⟨_, rfl⟩
  rw [gg0] at HO HR ⊢
  have HG0 : RowKit.Hid (w.heap.size ≤ g0) := Lib.hid (by omega)
  clear gg0
  have l3 : W1.cell? ⟨g0, 3, none⟩ = some (.int .i64 o.s1) := HO.out.cell (i := 3) rfl
  have z3 := HO.out.free 3
  have l4 : W1.cell? ⟨g0, 4, none⟩ = some (.int .i64 o.n1) := HO.out.cell (i := 4) rfl
  have z4 := HO.out.free 4
  have l5 : W1.cell? ⟨g0, 5, none⟩ = some (.int .i64 o.s2) := HO.out.cell (i := 5) rfl
  have z5 := HO.out.free 5
  have l6 : W1.cell? ⟨g0, 6, none⟩ = some (.int .i64 o.n2) := HO.out.cell (i := 6) rfl
  have z6 := HO.out.free 6
  have l19 : W1.cell? ⟨g0, 19, none⟩ = some (.int .i64 o.m) := HO.out.cell (i := 19) rfl
  have z19 := HO.out.free 19
  have l0 : W1.cell? ⟨g0, 0, none⟩ = some (.int .i64 o.k) := HO.out.cell (i := 0) rfl
  have z0 := HO.out.free 0
  have l1 : W1.cell? ⟨g0, 1, none⟩ = some (.int .i64 o.s) := HO.out.cell (i := 1) rfl
  have z1 := HO.out.free 1
  have l2 : W1.cell? ⟨g0, 2, none⟩ = some (.int .i64 o.n) := HO.out.cell (i := 2) rfl
  have z2 := HO.out.free 2
  go_upto_region 19 with fail
  clear l3 z3 l4 z4 l5 z5 l6 z6 l19 z19 l0 z0 l1 z1 l2 z2
  obtain ⟨W2, gW2⟩ : ∃ x, ((((((((((((((((W1).setCell ⟨g0, 3, none⟩ (.int .i64 0))).setCell ⟨g0, 4, none⟩ (.int .i64 0))).setCell ⟨g0, 5, none⟩ (.int .i64 0))).setCell ⟨g0, 6, none⟩ (.int .i64 0))).setCell ⟨g0, 19, none⟩ (.int .i64 0))).setCell ⟨g0, 0, none⟩ (.int .i64 0))).setCell ⟨g0, 1, none⟩ (.int .i64 0))).setCell ⟨g0, 2, none⟩ (.int .i64 0)) = x := ⟨_, rfl⟩
  have HO2 : RowKit.Hid (Whole W2 g0 29 (opCells ⟨0, 0, 0, 0, 0, 0, 0, o.a0, o.a1, o.a2, o.a3, o.a4, o.b0, o.b1, o.b2, o.b3, o.b4, o.e, o.t, 0⟩)) := Lib.hid (gW2 ▸ ((((((((HO.out.set_ 3 _).set_ 4 _).set_ 5 _).set_ 6 _).set_ 19 _).set_ 0 _).set_ 1 _).set_ 2 _))
  have HR2 : RowKit.Hid (Whole W2 (g0 + 1) 29 [.int .i64 0, .int .i64 0, .int .i64 0, .int .i64 0, .int .i64 0, .int .i64 0, .int .i64 0, .int .i64 0, .int .i64 0, .int .i64 0, .int .i64 0, .int .i64 0, .int .i64 0, .int .i64 0, .int .i64 0, .int .i64 0, .int .i64 0, .bool false, .string ⟨#[]⟩, .int .i64 0]) := Lib.hid (gW2 ▸ ((((((((HR.out.far (by show g0 + 1 ≠ g0; omega) _).far (by show g0 + 1 ≠ g0; omega) _).far (by show g0 + 1 ≠ g0; omega) _).far (by show g0 + 1 ≠ g0; omega) _).far (by show g0 + 1 ≠ g0; omega) _).far (by show g0 + 1 ≠ g0; omega) _).far (by show g0 + 1 ≠ g0; omega) _).far (by show g0 + 1 ≠ g0; omega) _))
  have HB2 : RowKit.Hid (Below w.heap.size w W2) := Lib.hid (gW2 ▸ ((((((((HB.out.setCell (by show w.heap.size ≤ g0; exact HG0.out) _).setCell (by show w.heap.size ≤ g0; exact HG0.out) _).setCell (by show w.heap.size ≤ g0; exact HG0.out) _).setCell (by show w.heap.size ≤ g0; exact HG0.out) _).setCell (by show w.heap.size ≤ g0; exact HG0.out) _).setCell (by show w.heap.size ≤ g0; exact HG0.out) _).setCell (by show w.heap.size ≤ g0; exact HG0.out) _).setCell (by show w.heap.size ≤ g0; exact HG0.out) _))
  rw [gW2]
  clear gW2
  refine wp_region_lit ?_
  refine wpList_load_row rfl 29 (.tmp 1) rfl g0 rfl 29 (opCells ⟨0, 0, 0, 0, 0, 0, 0, o.a0, o.a1, o.a2, o.a3, o.a4, o.b0, o.b1, o.b2, o.b3, o.b4, o.e, o.t, 0⟩).toArray (0, 0) _ HO2.out Try.underlying29 rfl (by kernel_rfl) ?_
  simp only [Act.put, List.setIfInBounds_toArray, List.set_cons_zero, List.set_cons_succ]
  refine wpList_store_row rfl 29 (.tmp 2) (.tmp 33) rfl (g0 + 1) (opCells ⟨0, 0, 0, 0, 0, 0, 0, o.a0, o.a1, o.a2, o.a3, o.a4, o.b0, o.b1, o.b2, o.b3, o.b4, o.e, o.t, 0⟩).toArray rfl rfl 29 #[.int .i64 0, .int .i64 0, .int .i64 0, .int .i64 0, .int .i64 0, .int .i64 0, .int .i64 0, .int .i64 0, .int .i64 0, .int .i64 0, .int .i64 0, .int .i64 0, .int .i64 0, .int .i64 0, .int .i64 0, .int .i64 0, .int .i64 0, .bool false, .string ⟨#[]⟩, .int .i64 0] HR2.out (by kernel_rfl) rfl (by simp [opCells, Value.oneCell']) ?_
  have HR3 : RowKit.Hid (Whole (W2.setRow (g0 + 1) (opCells ⟨0, 0, 0, 0, 0, 0, 0, o.a0, o.a1, o.a2, o.a3, o.a4, o.b0, o.b1, o.b2, o.b3, o.b4, o.e, o.t, 0⟩).toArray) (g0 + 1) 29 (opCells ⟨0, 0, 0, 0, 0, 0, 0, o.a0, o.a1, o.a2, o.a3, o.a4, o.b0, o.b1, o.b2, o.b3, o.b4, o.e, o.t, 0⟩)) := Lib.hid (setRow_heap W2 (g0 + 1) _ _ _ _ HR2.out)
  have HB3 : RowKit.Hid (Below w.heap.size w (W2.setRow (g0 + 1) (opCells ⟨0, 0, 0, 0, 0, 0, 0, o.a0, o.a1, o.a2, o.a3, o.a4, o.b0, o.b1, o.b2, o.b3, o.b4, o.e, o.t, 0⟩).toArray)) := Lib.hid ⟨HB2.out.os, HB2.out.tape, HB2.out.output, (by have := HB2.out.size; simpa [World.setRow] using this), fun i hi => (setRow_other W2 (g0 + 1) i _ (by have := HG0.out; omega)).trans (HB2.out.block i hi)⟩
  obtain ⟨W3, gW3⟩ : ∃ x, W2.setRow (g0 + 1) (opCells ⟨0, 0, 0, 0, 0, 0, 0, o.a0, o.a1, o.a2, o.a3, o.a4, o.b0, o.b1, o.b2, o.b3, o.b4, o.e, o.t, 0⟩).toArray = x := ⟨_, rfl⟩
  rw [gW3] at HR3 HB3 ⊢
  clear gW3
  go_wp2
  exact bodyPost_ret (v := .agg (opCells ⟨0, 0, 0, 0, 0, 0, 0, o.a0, o.a1, o.a2, o.a3, o.a4, o.b0, o.b1, o.b2, o.b3, o.b4, o.e, o.t, 0⟩).toArray) (results_cell_row Try.results25 _ W3 (g0 + 1) 29 (opCells ⟨0, 0, 0, 0, 0, 0, 0, o.a0, o.a1, o.a2, o.a3, o.a4, o.b0, o.b1, o.b2, o.b3, o.b4, o.e, o.t, 0⟩).toArray (0, 0) _ (by rfl) HR3.out Try.underlying29 rfl (by kernel_rfl)) rfl ⟨rfl, HB3.out⟩

set_option maxRecDepth 100000 in
set_option maxHeartbeats 2000000 in
theorem rest_6 (o : OpT) (hk : o.k = 6) (w : World) : Calls Try.prog 25 #[.agg (opCells o).toArray] w fun e w' => e = .returned (.agg (opCells ⟨0, 0, 0, o.s1, o.n1, 0, 0, o.a0, o.a1, o.a2, o.a3, o.a4, o.b0, o.b1, o.b2, o.b3, o.b4, o.e, o.t, o.m⟩).toArray) ∧ Below w.heap.size w w' := by
  obtain ⟨k, s, n, s1, n1, s2, n2, a0, a1, a2, a3, a4, b0, b1, b2, b3, b4, e, t, m⟩ := o
  obtain rfl : k = 6 := hk
  obtain ⟨o, go⟩ : ∃ o : OpT, o = ⟨6, s, n, s1, n1, s2, n2, a0, a1, a2, a3, a4, b0, b1, b2, b3, b4, e, t, m⟩ := ⟨_, rfl⟩
  have q : o.k = 6 := by rw [go]
  rw [show (⟨0, 0, 0, s1, n1, 0, 0, a0, a1, a2, a3, a4, b0, b1, b2, b3, b4, e, t, m⟩ : OpT) = ⟨0, 0, 0, o.s1, o.n1, 0, 0, o.a0, o.a1, o.a2, o.a3, o.a4, o.b0, o.b1, o.b2, o.b3, o.b4, o.e, o.t, o.m⟩ from by rw [go]]
  rw [← go]
  clear go
  go_enter Try.func25, Try.ntmps25
  go_upto_region 1 with fail
  obtain ⟨W1, gW1⟩ : ∃ x, (w.alloc (.cells (opCells o).toArray 29)).alloc (.cells #[.int .i64 0, .int .i64 0, .int .i64 0, .int .i64 0, .int .i64 0, .int .i64 0, .int .i64 0, .int .i64 0, .int .i64 0, .int .i64 0, .int .i64 0, .int .i64 0, .int .i64 0, .int .i64 0, .int .i64 0, .int .i64 0, .int .i64 0, .bool false, .string ⟨#[]⟩, .int .i64 0] 29) = x := ⟨_, rfl⟩
  have HO : RowKit.Hid (Whole W1 w.heap.size 29 (opCells o)) := Lib.hid (by rw [← gW1]; exact (Whole.new_ w _ _).alloc _)
  have HR : RowKit.Hid (Whole W1 (w.heap.size + 1) 29 [.int .i64 0, .int .i64 0, .int .i64 0, .int .i64 0, .int .i64 0, .int .i64 0, .int .i64 0, .int .i64 0, .int .i64 0, .int .i64 0, .int .i64 0, .int .i64 0, .int .i64 0, .int .i64 0, .int .i64 0, .int .i64 0, .int .i64 0, .bool false, .string ⟨#[]⟩, .int .i64 0]) := Lib.hid (by rw [← gW1]; exact Whole.new2 (cs := [.int .i64 0, .int .i64 0, .int .i64 0, .int .i64 0, .int .i64 0, .int .i64 0, .int .i64 0, .int .i64 0, .int .i64 0, .int .i64 0, .int .i64 0, .int .i64 0, .int .i64 0, .int .i64 0, .int .i64 0, .int .i64 0, .int .i64 0, .bool false, .string ⟨#[]⟩, .int .i64 0]) (by simp))
  have HB : RowKit.Hid (Below w.heap.size w W1) := Lib.hid (by rw [← gW1]; exact below2 _ _ _)
  rw [gW1]
  clear gW1
  obtain ⟨g0, gg0⟩ : ∃ x, w.heap.size = x := ⟨_, rfl⟩
  rw [gg0] at HO HR ⊢
  have HG0 : RowKit.Hid (w.heap.size ≤ g0) := Lib.hid (by omega)
  clear gg0
  have l5 : W1.cell? ⟨g0, 5, none⟩ = some (.int .i64 o.s2) := HO.out.cell (i := 5) rfl
  have z5 := HO.out.free 5
  have l6 : W1.cell? ⟨g0, 6, none⟩ = some (.int .i64 o.n2) := HO.out.cell (i := 6) rfl
  have z6 := HO.out.free 6
  have l0 : W1.cell? ⟨g0, 0, none⟩ = some (.int .i64 o.k) := HO.out.cell (i := 0) rfl
  have z0 := HO.out.free 0
  have l1 : W1.cell? ⟨g0, 1, none⟩ = some (.int .i64 o.s) := HO.out.cell (i := 1) rfl
  have z1 := HO.out.free 1
  have l2 : W1.cell? ⟨g0, 2, none⟩ = some (.int .i64 o.n) := HO.out.cell (i := 2) rfl
  have z2 := HO.out.free 2
  go_upto_region 19 with fail
  clear l5 z5 l6 z6 l0 z0 l1 z1 l2 z2
  obtain ⟨W2, gW2⟩ : ∃ x, ((((((((((W1).setCell ⟨g0, 5, none⟩ (.int .i64 0))).setCell ⟨g0, 6, none⟩ (.int .i64 0))).setCell ⟨g0, 0, none⟩ (.int .i64 0))).setCell ⟨g0, 1, none⟩ (.int .i64 0))).setCell ⟨g0, 2, none⟩ (.int .i64 0)) = x := ⟨_, rfl⟩
  have HO2 : RowKit.Hid (Whole W2 g0 29 (opCells ⟨0, 0, 0, o.s1, o.n1, 0, 0, o.a0, o.a1, o.a2, o.a3, o.a4, o.b0, o.b1, o.b2, o.b3, o.b4, o.e, o.t, o.m⟩)) := Lib.hid (gW2 ▸ (((((HO.out.set_ 5 _).set_ 6 _).set_ 0 _).set_ 1 _).set_ 2 _))
  have HR2 : RowKit.Hid (Whole W2 (g0 + 1) 29 [.int .i64 0, .int .i64 0, .int .i64 0, .int .i64 0, .int .i64 0, .int .i64 0, .int .i64 0, .int .i64 0, .int .i64 0, .int .i64 0, .int .i64 0, .int .i64 0, .int .i64 0, .int .i64 0, .int .i64 0, .int .i64 0, .int .i64 0, .bool false, .string ⟨#[]⟩, .int .i64 0]) := Lib.hid (gW2 ▸ (((((HR.out.far (by show g0 + 1 ≠ g0; omega) _).far (by show g0 + 1 ≠ g0; omega) _).far (by show g0 + 1 ≠ g0; omega) _).far (by show g0 + 1 ≠ g0; omega) _).far (by show g0 + 1 ≠ g0; omega) _))
  have HB2 : RowKit.Hid (Below w.heap.size w W2) := Lib.hid (gW2 ▸ (((((HB.out.setCell (by show w.heap.size ≤ g0; exact HG0.out) _).setCell (by show w.heap.size ≤ g0; exact HG0.out) _).setCell (by show w.heap.size ≤ g0; exact HG0.out) _).setCell (by show w.heap.size ≤ g0; exact HG0.out) _).setCell (by show w.heap.size ≤ g0; exact HG0.out) _))
  rw [gW2]
  clear gW2
  refine wp_region_lit ?_
  refine wpList_load_row rfl 29 (.tmp 1) rfl g0 rfl 29 (opCells ⟨0, 0, 0, o.s1, o.n1, 0, 0, o.a0, o.a1, o.a2, o.a3, o.a4, o.b0, o.b1, o.b2, o.b3, o.b4, o.e, o.t, o.m⟩).toArray (0, 0) _ HO2.out Try.underlying29 rfl (by kernel_rfl) ?_
  simp only [Act.put, List.setIfInBounds_toArray, List.set_cons_zero, List.set_cons_succ]
  refine wpList_store_row rfl 29 (.tmp 2) (.tmp 33) rfl (g0 + 1) (opCells ⟨0, 0, 0, o.s1, o.n1, 0, 0, o.a0, o.a1, o.a2, o.a3, o.a4, o.b0, o.b1, o.b2, o.b3, o.b4, o.e, o.t, o.m⟩).toArray rfl rfl 29 #[.int .i64 0, .int .i64 0, .int .i64 0, .int .i64 0, .int .i64 0, .int .i64 0, .int .i64 0, .int .i64 0, .int .i64 0, .int .i64 0, .int .i64 0, .int .i64 0, .int .i64 0, .int .i64 0, .int .i64 0, .int .i64 0, .int .i64 0, .bool false, .string ⟨#[]⟩, .int .i64 0] HR2.out (by kernel_rfl) rfl (by simp [opCells, Value.oneCell']) ?_
  have HR3 : RowKit.Hid (Whole (W2.setRow (g0 + 1) (opCells ⟨0, 0, 0, o.s1, o.n1, 0, 0, o.a0, o.a1, o.a2, o.a3, o.a4, o.b0, o.b1, o.b2, o.b3, o.b4, o.e, o.t, o.m⟩).toArray) (g0 + 1) 29 (opCells ⟨0, 0, 0, o.s1, o.n1, 0, 0, o.a0, o.a1, o.a2, o.a3, o.a4, o.b0, o.b1, o.b2, o.b3, o.b4, o.e, o.t, o.m⟩)) := Lib.hid (setRow_heap W2 (g0 + 1) _ _ _ _ HR2.out)
  have HB3 : RowKit.Hid (Below w.heap.size w (W2.setRow (g0 + 1) (opCells ⟨0, 0, 0, o.s1, o.n1, 0, 0, o.a0, o.a1, o.a2, o.a3, o.a4, o.b0, o.b1, o.b2, o.b3, o.b4, o.e, o.t, o.m⟩).toArray)) := Lib.hid ⟨HB2.out.os, HB2.out.tape, HB2.out.output, (by have := HB2.out.size; simpa [World.setRow] using this), fun i hi => (setRow_other W2 (g0 + 1) i _ (by have := HG0.out; omega)).trans (HB2.out.block i hi)⟩
  obtain ⟨W3, gW3⟩ : ∃ x, W2.setRow (g0 + 1) (opCells ⟨0, 0, 0, o.s1, o.n1, 0, 0, o.a0, o.a1, o.a2, o.a3, o.a4, o.b0, o.b1, o.b2, o.b3, o.b4, o.e, o.t, o.m⟩).toArray = x := ⟨_, rfl⟩
  rw [gW3] at HR3 HB3 ⊢
  clear gW3
  go_wp2
  exact bodyPost_ret (v := .agg (opCells ⟨0, 0, 0, o.s1, o.n1, 0, 0, o.a0, o.a1, o.a2, o.a3, o.a4, o.b0, o.b1, o.b2, o.b3, o.b4, o.e, o.t, o.m⟩).toArray) (results_cell_row Try.results25 _ W3 (g0 + 1) 29 (opCells ⟨0, 0, 0, o.s1, o.n1, 0, 0, o.a0, o.a1, o.a2, o.a3, o.a4, o.b0, o.b1, o.b2, o.b3, o.b4, o.e, o.t, o.m⟩).toArray (0, 0) _ (by rfl) HR3.out Try.underlying29 rfl (by kernel_rfl)) rfl ⟨rfl, HB3.out⟩

set_option maxRecDepth 100000 in
set_option maxHeartbeats 2000000 in
theorem rest_7 (o : OpT) (hk : o.k = 7) (w : World) : Calls Try.prog 25 #[.agg (opCells o).toArray] w fun e w' => e = .returned (.agg (opCells ⟨0, 0, 0, o.s1, o.n1, o.s2, o.n2, o.a0, o.a1, o.a2, o.a3, o.a4, o.b0, o.b1, o.b2, o.b3, o.b4, false, ⟨#[]⟩, o.m⟩).toArray) ∧ Below w.heap.size w w' := by
  obtain ⟨k, s, n, s1, n1, s2, n2, a0, a1, a2, a3, a4, b0, b1, b2, b3, b4, e, t, m⟩ := o
  obtain rfl : k = 7 := hk
  obtain ⟨o, go⟩ : ∃ o : OpT, o = ⟨7, s, n, s1, n1, s2, n2, a0, a1, a2, a3, a4, b0, b1, b2, b3, b4, e, t, m⟩ := ⟨_, rfl⟩
  have q : o.k = 7 := by rw [go]
  rw [show (⟨0, 0, 0, s1, n1, s2, n2, a0, a1, a2, a3, a4, b0, b1, b2, b3, b4, false, ⟨#[]⟩, m⟩ : OpT) = ⟨0, 0, 0, o.s1, o.n1, o.s2, o.n2, o.a0, o.a1, o.a2, o.a3, o.a4, o.b0, o.b1, o.b2, o.b3, o.b4, false, ⟨#[]⟩, o.m⟩ from by rw [go]]
  rw [← go]
  clear go
  go_enter Try.func25, Try.ntmps25
  go_upto_region 1 with fail
  obtain ⟨W1, gW1⟩ : ∃ x, (w.alloc (.cells (opCells o).toArray 29)).alloc (.cells #[.int .i64 0, .int .i64 0, .int .i64 0, .int .i64 0, .int .i64 0, .int .i64 0, .int .i64 0, .int .i64 0, .int .i64 0, .int .i64 0, .int .i64 0, .int .i64 0, .int .i64 0, .int .i64 0, .int .i64 0, .int .i64 0, .int .i64 0, .bool false, .string ⟨#[]⟩, .int .i64 0] 29) = x := ⟨_, rfl⟩
  have HO : RowKit.Hid (Whole W1 w.heap.size 29 (opCells o)) := Lib.hid (by rw [← gW1]; exact (Whole.new_ w _ _).alloc _)
  have HR : RowKit.Hid (Whole W1 (w.heap.size + 1) 29 [.int .i64 0, .int .i64 0, .int .i64 0, .int .i64 0, .int .i64 0, .int .i64 0, .int .i64 0, .int .i64 0, .int .i64 0, .int .i64 0, .int .i64 0, .int .i64 0, .int .i64 0, .int .i64 0, .int .i64 0, .int .i64 0, .int .i64 0, .bool false, .string ⟨#[]⟩, .int .i64 0]) := Lib.hid (by rw [← gW1]; exact Whole.new2 (cs := [.int .i64 0, .int .i64 0, .int .i64 0, .int .i64 0, .int .i64 0, .int .i64 0, .int .i64 0, .int .i64 0, .int .i64 0, .int .i64 0, .int .i64 0, .int .i64 0, .int .i64 0, .int .i64 0, .int .i64 0, .int .i64 0, .int .i64 0, .bool false, .string ⟨#[]⟩, .int .i64 0]) (by simp))
  have HB : RowKit.Hid (Below w.heap.size w W1) := Lib.hid (by rw [← gW1]; exact below2 _ _ _)
  rw [gW1]
  clear gW1
  obtain ⟨g0, gg0⟩ : ∃ x, w.heap.size = x := ⟨_, rfl⟩
  rw [gg0] at HO HR ⊢
  have HG0 : RowKit.Hid (w.heap.size ≤ g0) := Lib.hid (by omega)
  clear gg0
  have l17 : W1.cell? ⟨g0, 17, none⟩ = some (.bool o.e) := HO.out.cell (i := 17) rfl
  have z17 := HO.out.free 17
  have l18 : W1.cell? ⟨g0, 18, none⟩ = some (.string o.t) := HO.out.cell (i := 18) rfl
  have z18 := HO.out.free 18
  have l0 : W1.cell? ⟨g0, 0, none⟩ = some (.int .i64 o.k) := HO.out.cell (i := 0) rfl
  have z0 := HO.out.free 0
  have l1 : W1.cell? ⟨g0, 1, none⟩ = some (.int .i64 o.s) := HO.out.cell (i := 1) rfl
  have z1 := HO.out.free 1
  have l2 : W1.cell? ⟨g0, 2, none⟩ = some (.int .i64 o.n) := HO.out.cell (i := 2) rfl
  have z2 := HO.out.free 2
  go_upto_region 19 with fail
  clear l17 z17 l18 z18 l0 z0 l1 z1 l2 z2
  obtain ⟨W2, gW2⟩ : ∃ x, ((((((((((W1).setCell ⟨g0, 17, none⟩ (.bool false))).setCell ⟨g0, 18, none⟩ (.string ⟨#[]⟩))).setCell ⟨g0, 0, none⟩ (.int .i64 0))).setCell ⟨g0, 1, none⟩ (.int .i64 0))).setCell ⟨g0, 2, none⟩ (.int .i64 0)) = x := ⟨_, rfl⟩
  have HO2 : RowKit.Hid (Whole W2 g0 29 (opCells ⟨0, 0, 0, o.s1, o.n1, o.s2, o.n2, o.a0, o.a1, o.a2, o.a3, o.a4, o.b0, o.b1, o.b2, o.b3, o.b4, false, ⟨#[]⟩, o.m⟩)) := Lib.hid (gW2 ▸ (((((HO.out.set_ 17 _).set_ 18 _).set_ 0 _).set_ 1 _).set_ 2 _))
  have HR2 : RowKit.Hid (Whole W2 (g0 + 1) 29 [.int .i64 0, .int .i64 0, .int .i64 0, .int .i64 0, .int .i64 0, .int .i64 0, .int .i64 0, .int .i64 0, .int .i64 0, .int .i64 0, .int .i64 0, .int .i64 0, .int .i64 0, .int .i64 0, .int .i64 0, .int .i64 0, .int .i64 0, .bool false, .string ⟨#[]⟩, .int .i64 0]) := Lib.hid (gW2 ▸ (((((HR.out.far (by show g0 + 1 ≠ g0; omega) _).far (by show g0 + 1 ≠ g0; omega) _).far (by show g0 + 1 ≠ g0; omega) _).far (by show g0 + 1 ≠ g0; omega) _).far (by show g0 + 1 ≠ g0; omega) _))
  have HB2 : RowKit.Hid (Below w.heap.size w W2) := Lib.hid (gW2 ▸ (((((HB.out.setCell (by show w.heap.size ≤ g0; exact HG0.out) _).setCell (by show w.heap.size ≤ g0; exact HG0.out) _).setCell (by show w.heap.size ≤ g0; exact HG0.out) _).setCell (by show w.heap.size ≤ g0; exact HG0.out) _).setCell (by show w.heap.size ≤ g0; exact HG0.out) _))
  rw [gW2]
  clear gW2
  refine wp_region_lit ?_
  refine wpList_load_row rfl 29 (.tmp 1) rfl g0 rfl 29 (opCells ⟨0, 0, 0, o.s1, o.n1, o.s2, o.n2, o.a0, o.a1, o.a2, o.a3, o.a4, o.b0, o.b1, o.b2, o.b3, o.b4, false, ⟨#[]⟩, o.m⟩).toArray (0, 0) _ HO2.out Try.underlying29 rfl (by kernel_rfl) ?_
  simp only [Act.put, List.setIfInBounds_toArray, List.set_cons_zero, List.set_cons_succ]
  refine wpList_store_row rfl 29 (.tmp 2) (.tmp 33) rfl (g0 + 1) (opCells ⟨0, 0, 0, o.s1, o.n1, o.s2, o.n2, o.a0, o.a1, o.a2, o.a3, o.a4, o.b0, o.b1, o.b2, o.b3, o.b4, false, ⟨#[]⟩, o.m⟩).toArray rfl rfl 29 #[.int .i64 0, .int .i64 0, .int .i64 0, .int .i64 0, .int .i64 0, .int .i64 0, .int .i64 0, .int .i64 0, .int .i64 0, .int .i64 0, .int .i64 0, .int .i64 0, .int .i64 0, .int .i64 0, .int .i64 0, .int .i64 0, .int .i64 0, .bool false, .string ⟨#[]⟩, .int .i64 0] HR2.out (by kernel_rfl) rfl (by simp [opCells, Value.oneCell']) ?_
  have HR3 : RowKit.Hid (Whole (W2.setRow (g0 + 1) (opCells ⟨0, 0, 0, o.s1, o.n1, o.s2, o.n2, o.a0, o.a1, o.a2, o.a3, o.a4, o.b0, o.b1, o.b2, o.b3, o.b4, false, ⟨#[]⟩, o.m⟩).toArray) (g0 + 1) 29 (opCells ⟨0, 0, 0, o.s1, o.n1, o.s2, o.n2, o.a0, o.a1, o.a2, o.a3, o.a4, o.b0, o.b1, o.b2, o.b3, o.b4, false, ⟨#[]⟩, o.m⟩)) := Lib.hid (setRow_heap W2 (g0 + 1) _ _ _ _ HR2.out)
  have HB3 : RowKit.Hid (Below w.heap.size w (W2.setRow (g0 + 1) (opCells ⟨0, 0, 0, o.s1, o.n1, o.s2, o.n2, o.a0, o.a1, o.a2, o.a3, o.a4, o.b0, o.b1, o.b2, o.b3, o.b4, false, ⟨#[]⟩, o.m⟩).toArray)) := Lib.hid ⟨HB2.out.os, HB2.out.tape, HB2.out.output, (by have := HB2.out.size; simpa [World.setRow] using this), fun i hi => (setRow_other W2 (g0 + 1) i _ (by have := HG0.out; omega)).trans (HB2.out.block i hi)⟩
  obtain ⟨W3, gW3⟩ : ∃ x, W2.setRow (g0 + 1) (opCells ⟨0, 0, 0, o.s1, o.n1, o.s2, o.n2, o.a0, o.a1, o.a2, o.a3, o.a4, o.b0, o.b1, o.b2, o.b3, o.b4, false, ⟨#[]⟩, o.m⟩).toArray = x := ⟨_, rfl⟩
  rw [gW3] at HR3 HB3 ⊢
  clear gW3
  go_wp2
  exact bodyPost_ret (v := .agg (opCells ⟨0, 0, 0, o.s1, o.n1, o.s2, o.n2, o.a0, o.a1, o.a2, o.a3, o.a4, o.b0, o.b1, o.b2, o.b3, o.b4, false, ⟨#[]⟩, o.m⟩).toArray) (results_cell_row Try.results25 _ W3 (g0 + 1) 29 (opCells ⟨0, 0, 0, o.s1, o.n1, o.s2, o.n2, o.a0, o.a1, o.a2, o.a3, o.a4, o.b0, o.b1, o.b2, o.b3, o.b4, false, ⟨#[]⟩, o.m⟩).toArray (0, 0) _ (by rfl) HR3.out Try.underlying29 rfl (by kernel_rfl)) rfl ⟨rfl, HB3.out⟩

set_option maxRecDepth 100000 in
set_option maxHeartbeats 2000000 in
theorem rest_8 (o : OpT) (hk : o.k = 8) (w : World) : Calls Try.prog 25 #[.agg (opCells o).toArray] w fun e w' => e = .returned (.agg (opCells ⟨0, 0, 0, o.s1, o.n1, o.s2, o.n2, o.a0, o.a1, o.a2, o.a3, o.a4, o.b0, o.b1, o.b2, o.b3, o.b4, false, o.t, 0⟩).toArray) ∧ Below w.heap.size w w' := by
  obtain ⟨k, s, n, s1, n1, s2, n2, a0, a1, a2, a3, a4, b0, b1, b2, b3, b4, e, t, m⟩ := o
  obtain rfl : k = 8 := hk
  obtain ⟨o, go⟩ : ∃ o : OpT, o = ⟨8, s, n, s1, n1, s2, n2, a0, a1, a2, a3, a4, b0, b1, b2, b3, b4, e, t, m⟩ := ⟨_, rfl⟩
  have q : o.k = 8 := by rw [go]
  rw [show (⟨0, 0, 0, s1, n1, s2, n2, a0, a1, a2, a3, a4, b0, b1, b2, b3, b4, false, t, 0⟩ : OpT) = ⟨0, 0, 0, o.s1, o.n1, o.s2, o.n2, o.a0, o.a1, o.a2, o.a3, o.a4, o.b0, o.b1, o.b2, o.b3, o.b4, false, o.t, 0⟩ from by rw [go]]
  rw [← go]
  clear go
  go_enter Try.func25, Try.ntmps25
  go_upto_region 1 with fail
  obtain ⟨W1, gW1⟩ : ∃ x, (w.alloc (.cells (opCells o).toArray 29)).alloc (.cells #[.int .i64 0, .int .i64 0, .int .i64 0, .int .i64 0, .int .i64 0, .int .i64 0, .int .i64 0, .int .i64 0, .int .i64 0, .int .i64 0, .int .i64 0, .int .i64 0, .int .i64 0, .int .i64 0, .int .i64 0, .int .i64 0, .int .i64 0, .bool false, .string ⟨#[]⟩, .int .i64 0] 29) = x := ⟨_, rfl⟩
  have HO : RowKit.Hid (Whole W1 w.heap.size 29 (opCells o)) := Lib.hid (by rw [← gW1]; exact (Whole.new_ w _ _).alloc _)
  have HR : RowKit.Hid (Whole W1 (w.heap.size + 1) 29 [.int .i64 0, .int .i64 0, .int .i64 0, .int .i64 0, .int .i64 0, .int .i64 0, .int .i64 0, .int .i64 0, .int .i64 0, .int .i64 0, .int .i64 0, .int .i64 0, .int .i64 0, .int .i64 0, .int .i64 0, .int .i64 0, .int .i64 0, .bool false, .string ⟨#[]⟩, .int .i64 0]) := Lib.hid (by rw [← gW1]; exact Whole.new2 (cs := [.int .i64 0, .int .i64 0, .int .i64 0, .int .i64 0, .int .i64 0, .int .i64 0, .int .i64 0, .int .i64 0, .int .i64 0, .int .i64 0, .int .i64 0, .int .i64 0, .int .i64 0, .int .i64 0, .int .i64 0, .int .i64 0, .int .i64 0, .bool false, .string ⟨#[]⟩, .int .i64 0]) (by simp))
  have HB : RowKit.Hid (Below w.heap.size w W1) := Lib.hid (by rw [← gW1]; exact below2 _ _ _)
  rw [gW1]
  clear gW1
  obtain ⟨g0, gg0⟩ : ∃ x, w.heap.size = x := ⟨_, rfl⟩
  rw [gg0] at HO HR ⊢
  have HG0 : RowKit.Hid (w.heap.size ≤ g0) := Lib.hid (by omega)
  clear gg0
  have l17 : W1.cell? ⟨g0, 17, none⟩ = some (.bool o.e) := HO.out.cell (i := 17) rfl
  have z17 := HO.out.free 17
  have l19 : W1.cell? ⟨g0, 19, none⟩ = some (.int .i64 o.m) := HO.out.cell (i := 19) rfl
  have z19 := HO.out.free 19
  have l0 : W1.cell? ⟨g0, 0, none⟩ = some (.int .i64 o.k) := HO.out.cell (i := 0) rfl
  have z0 := HO.out.free 0
  have l1 : W1.cell? ⟨g0, 1, none⟩ = some (.int .i64 o.s) := HO.out.cell (i := 1) rfl
  have z1 := HO.out.free 1
  have l2 : W1.cell? ⟨g0, 2, none⟩ = some (.int .i64 o.n) := HO.out.cell (i := 2) rfl
  have z2 := HO.out.free 2
  go_upto_region 19 with fail
  clear l17 z17 l19 z19 l0 z0 l1 z1 l2 z2
  obtain ⟨W2, gW2⟩ : ∃ x, ((((((((((W1).setCell ⟨g0, 17, none⟩ (.bool false))).setCell ⟨g0, 19, none⟩ (.int .i64 0))).setCell ⟨g0, 0, none⟩ (.int .i64 0))).setCell ⟨g0, 1, none⟩ (.int .i64 0))).setCell ⟨g0, 2, none⟩ (.int .i64 0)) = x := ⟨_, rfl⟩
  have HO2 : RowKit.Hid (Whole W2 g0 29 (opCells ⟨0, 0, 0, o.s1, o.n1, o.s2, o.n2, o.a0, o.a1, o.a2, o.a3, o.a4, o.b0, o.b1, o.b2, o.b3, o.b4, false, o.t, 0⟩)) := Lib.hid (gW2 ▸ (((((HO.out.set_ 17 _).set_ 19 _).set_ 0 _).set_ 1 _).set_ 2 _))
  have HR2 : RowKit.Hid (Whole W2 (g0 + 1) 29 [.int .i64 0, .int .i64 0, .int .i64 0, .int .i64 0, .int .i64 0, .int .i64 0, .int .i64 0, .int .i64 0, .int .i64 0, .int .i64 0, .int .i64 0, .int .i64 0, .int .i64 0, .int .i64 0, .int .i64 0, .int .i64 0, .int .i64 0, .bool false, .string ⟨#[]⟩, .int .i64 0]) := Lib.hid (gW2 ▸ (((((HR.out.far (by show g0 + 1 ≠ g0; omega) _).far (by show g0 + 1 ≠ g0; omega) _).far (by show g0 + 1 ≠ g0; omega) _).far (by show g0 + 1 ≠ g0; omega) _).far (by show g0 + 1 ≠ g0; omega) _))
  have HB2 : RowKit.Hid (Below w.heap.size w W2) := Lib.hid (gW2 ▸ (((((HB.out.setCell (by show w.heap.size ≤ g0; exact HG0.out) _).setCell (by show w.heap.size ≤ g0; exact HG0.out) _).setCell (by show w.heap.size ≤ g0; exact HG0.out) _).setCell (by show w.heap.size ≤ g0; exact HG0.out) _).setCell (by show w.heap.size ≤ g0; exact HG0.out) _))
  rw [gW2]
  clear gW2
  refine wp_region_lit ?_
  refine wpList_load_row rfl 29 (.tmp 1) rfl g0 rfl 29 (opCells ⟨0, 0, 0, o.s1, o.n1, o.s2, o.n2, o.a0, o.a1, o.a2, o.a3, o.a4, o.b0, o.b1, o.b2, o.b3, o.b4, false, o.t, 0⟩).toArray (0, 0) _ HO2.out Try.underlying29 rfl (by kernel_rfl) ?_
  simp only [Act.put, List.setIfInBounds_toArray, List.set_cons_zero, List.set_cons_succ]
  refine wpList_store_row rfl 29 (.tmp 2) (.tmp 33) rfl (g0 + 1) (opCells ⟨0, 0, 0, o.s1, o.n1, o.s2, o.n2, o.a0, o.a1, o.a2, o.a3, o.a4, o.b0, o.b1, o.b2, o.b3, o.b4, false, o.t, 0⟩).toArray rfl rfl 29 #[.int .i64 0, .int .i64 0, .int .i64 0, .int .i64 0, .int .i64 0, .int .i64 0, .int .i64 0, .int .i64 0, .int .i64 0, .int .i64 0, .int .i64 0, .int .i64 0, .int .i64 0, .int .i64 0, .int .i64 0, .int .i64 0, .int .i64 0, .bool false, .string ⟨#[]⟩, .int .i64 0] HR2.out (by kernel_rfl) rfl (by simp [opCells, Value.oneCell']) ?_
  have HR3 : RowKit.Hid (Whole (W2.setRow (g0 + 1) (opCells ⟨0, 0, 0, o.s1, o.n1, o.s2, o.n2, o.a0, o.a1, o.a2, o.a3, o.a4, o.b0, o.b1, o.b2, o.b3, o.b4, false, o.t, 0⟩).toArray) (g0 + 1) 29 (opCells ⟨0, 0, 0, o.s1, o.n1, o.s2, o.n2, o.a0, o.a1, o.a2, o.a3, o.a4, o.b0, o.b1, o.b2, o.b3, o.b4, false, o.t, 0⟩)) := Lib.hid (setRow_heap W2 (g0 + 1) _ _ _ _ HR2.out)
  have HB3 : RowKit.Hid (Below w.heap.size w (W2.setRow (g0 + 1) (opCells ⟨0, 0, 0, o.s1, o.n1, o.s2, o.n2, o.a0, o.a1, o.a2, o.a3, o.a4, o.b0, o.b1, o.b2, o.b3, o.b4, false, o.t, 0⟩).toArray)) := Lib.hid ⟨HB2.out.os, HB2.out.tape, HB2.out.output, (by have := HB2.out.size; simpa [World.setRow] using this), fun i hi => (setRow_other W2 (g0 + 1) i _ (by have := HG0.out; omega)).trans (HB2.out.block i hi)⟩
  obtain ⟨W3, gW3⟩ : ∃ x, W2.setRow (g0 + 1) (opCells ⟨0, 0, 0, o.s1, o.n1, o.s2, o.n2, o.a0, o.a1, o.a2, o.a3, o.a4, o.b0, o.b1, o.b2, o.b3, o.b4, false, o.t, 0⟩).toArray = x := ⟨_, rfl⟩
  rw [gW3] at HR3 HB3 ⊢
  clear gW3
  go_wp2
  exact bodyPost_ret (v := .agg (opCells ⟨0, 0, 0, o.s1, o.n1, o.s2, o.n2, o.a0, o.a1, o.a2, o.a3, o.a4, o.b0, o.b1, o.b2, o.b3, o.b4, false, o.t, 0⟩).toArray) (results_cell_row Try.results25 _ W3 (g0 + 1) 29 (opCells ⟨0, 0, 0, o.s1, o.n1, o.s2, o.n2, o.a0, o.a1, o.a2, o.a3, o.a4, o.b0, o.b1, o.b2, o.b3, o.b4, false, o.t, 0⟩).toArray (0, 0) _ (by rfl) HR3.out Try.underlying29 rfl (by kernel_rfl)) rfl ⟨rfl, HB3.out⟩

theorem rest_any (o : OpT) : Pure 25 #[.agg (opCells o).toArray] (.agg (opCells (restO o)).toArray) := fun w => by
  unfold restO
  by_cases k3 : o.k = 3
  · rw [if_pos k3]
    exact rest_3 o k3 w
  have q3 : (o.k == 3) = false := by simpa using k3
  rw [if_neg k3]
  by_cases k5 : o.k = 5
  · rw [if_pos k5]
    exact rest_5 o k5 w
  have q5 : (o.k == 5) = false := by simpa using k5
  rw [if_neg k5]
  by_cases k6 : o.k = 6
  · rw [if_pos k6]
    exact rest_6 o k6 w
  have q6 : (o.k == 6) = false := by simpa using k6
  rw [if_neg k6]
  by_cases k7 : o.k = 7
  · rw [if_pos k7]
    exact rest_7 o k7 w
  have q7 : (o.k == 7) = false := by simpa using k7
  rw [if_neg k7]
  by_cases k8 : o.k = 8
  · rw [if_pos k8]
    exact rest_8 o k8 w
  have q8 : (o.k == 8) = false := by simpa using k8
  rw [if_neg k8]
  exact rest_0 o q3 q5 q6 q7 q8 w
end Go.Proofs.Ytfbgbljljhgbjaa
