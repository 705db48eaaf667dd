/- Several texts in one. -/
import Derived.Test.YtinfbaflkjghhaaSAA
import Derived.Test.YtinfbaflkjghhaaSAC
import Derived.Deep.WholeRow
import Derived.Great.Walk
/- The contract of the document's own rest. -/
set_option linter.unusedSimpArgs false
set_option linter.unusedVariables false
namespace Go.Proofs.Ytinfbaflkjghhaa
open Go.RowKit Go.Great
/-- An operation without what its kind names. -/
def restO (o : OpT) : OpT :=
  if o.k = 3 then ⟨0, 0, 0, o.s1, o.n1, o.s2, o.n2, 0, 0, 0, 0, 0, 0, 0, 0, 0, 0, o.e, o.t, o.m⟩
  else if o.k = 5 then ⟨0, 0, 0, 0, 0, 0, 0, o.a0, o.a1, o.a2, o.a3, o.a4, o.b0, o.b1, o.b2, o.b3, o.b4, o.e, o.t, 0⟩
  else if o.k = 6 then ⟨0, 0, 0, o.s1, o.n1, 0, 0, o.a0, o.a1, o.a2, o.a3, o.a4, o.b0, o.b1, o.b2, o.b3, o.b4, o.e, o.t, o.m⟩
  else if o.k = 7 then ⟨0, 0, 0, o.s1, o.n1, o.s2, o.n2, o.a0, o.a1, o.a2, o.a3, o.a4, o.b0, o.b1, o.b2, o.b3, o.b4, false, ⟨#[]⟩, o.m⟩
  else if o.k = 8 then ⟨0, 0, 0, o.s1, o.n1, o.s2, o.n2, o.a0, o.a1, o.a2, o.a3, o.a4, o.b0, o.b1, o.b2, o.b3, o.b4, false, o.t, 0⟩
  else ⟨0, 0, 0, o.s1, o.n1, o.s2, o.n2, o.a0, o.a1, o.a2, o.a3, o.a4, o.b0, o.b1, o.b2, o.b3, o.b4, o.e, o.t, o.m⟩
set_option maxRecDepth 100000 in
set_option maxHeartbeats 2000000 in
theorem rest_0 (o : OpT) (q3 : (o.k == 3) = false) (q5 : (o.k == 5) = false) (q6 : (o.k == 6) = false) (q7 : (o.k == 7) = false) (q8 : (o.k == 8) = false) (w : World) : Calls Try.prog 83 #[.agg (opCells o).toArray] w fun e w' => e = .returned (.agg (opCells ⟨0, 0, 0, o.s1, o.n1, o.s2, o.n2, o.a0, o.a1, o.a2, o.a3, o.a4, o.b0, o.b1, o.b2, o.b3, o.b4, o.e, o.t, o.m⟩).toArray) ∧ Below w.heap.size w w' := by
  go_enter Try.func83, Try.ntmps83
  go_upto_region 1 with fail
  obtain ⟨W1, gW1⟩ : ∃ x, (w.alloc (.cells (opCells o).toArray 53)).alloc (.cells #[.int .i64 0, .int .i64 0, .int .i64 0, .int .i64 0, .int .i64 0, .int .i64 0, .int .i64 0, .int .i64 0, .int .i64 0, .int .i64 0, .int .i64 0, .int .i64 0, .int .i64 0, .int .i64 0, .int .i64 0, .int .i64 0, .int .i64 0, .bool false, .string ⟨#[]⟩, .int .i64 0] 53) = x := ⟨_, rfl⟩
  have HO : RowKit.Hid (Whole W1 w.heap.size 53 (opCells o)) := Lib.hid (by rw [← gW1]; exact (Whole.new_ w _ _).alloc _)
  have HR : RowKit.Hid (Whole W1 (w.heap.size + 1) 53 [.int .i64 0, .int .i64 0, .int .i64 0, .int .i64 0, .int .i64 0, .int .i64 0, .int .i64 0, .int .i64 0, .int .i64 0, .int .i64 0, .int .i64 0, .int .i64 0, .int .i64 0, .int .i64 0, .int .i64 0, .int .i64 0, .int .i64 0, .bool false, .string ⟨#[]⟩, .int .i64 0]) := Lib.hid (by rw [← gW1]; exact Whole.new2 (cs := [.int .i64 0, .int .i64 0, .int .i64 0, .int .i64 0, .int .i64 0, .int .i64 0, .int .i64 0, .int .i64 0, .int .i64 0, .int .i64 0, .int .i64 0, .int .i64 0, .int .i64 0, .int .i64 0, .int .i64 0, .int .i64 0, .int .i64 0, .bool false, .string ⟨#[]⟩, .int .i64 0]) (by simp))
  have HB : RowKit.Hid (Below w.heap.size w W1) := Lib.hid (by rw [← gW1]; exact below2 _ _ _)
  rw [gW1]
  clear gW1
  obtain ⟨g0, gg0⟩ : ∃ x, w.heap.size = x := ⟨_, rfl⟩
  rw [gg0] at HO HR ⊢
  have HG0 : RowKit.Hid (w.heap.size ≤ g0) := Lib.hid (by omega)
  clear gg0
  have l0 : W1.cell? ⟨g0, 0, none⟩ = some (.int .i64 o.k) := HO.out.cell (i := 0) rfl
  have z0 := HO.out.free 0
  have l1 : W1.cell? ⟨g0, 1, none⟩ = some (.int .i64 o.s) := HO.out.cell (i := 1) rfl
  have z1 := HO.out.free 1
  have l2 : W1.cell? ⟨g0, 2, none⟩ = some (.int .i64 o.n) := HO.out.cell (i := 2) rfl
  have z2 := HO.out.free 2
  go_upto_region 19 with fail
  clear l0 z0 l1 z1 l2 z2
  obtain ⟨W2, gW2⟩ : ∃ x, ((((((W1).setCell ⟨g0, 0, none⟩ (.int .i64 0))).setCell ⟨g0, 1, none⟩ (.int .i64 0))).setCell ⟨g0, 2, none⟩ (.int .i64 0)) = x := ⟨_, rfl⟩
  have HO2 : RowKit.Hid (Whole W2 g0 53 (opCells ⟨0, 0, 0, o.s1, o.n1, o.s2, o.n2, o.a0, o.a1, o.a2, o.a3, o.a4, o.b0, o.b1, o.b2, o.b3, o.b4, o.e, o.t, o.m⟩)) := Lib.hid (gW2 ▸ (((HO.out.set_ 0 _).set_ 1 _).set_ 2 _))
  have HR2 : RowKit.Hid (Whole W2 (g0 + 1) 53 [.int .i64 0, .int .i64 0, .int .i64 0, .int .i64 0, .int .i64 0, .int .i64 0, .int .i64 0, .int .i64 0, .int .i64 0, .int .i64 0, .int .i64 0, .int .i64 0, .int .i64 0, .int .i64 0, .int .i64 0, .int .i64 0, .int .i64 0, .bool false, .string ⟨#[]⟩, .int .i64 0]) := Lib.hid (gW2 ▸ (((HR.out.far (by show g0 + 1 ≠ g0; omega) _).far (by show g0 + 1 ≠ g0; omega) _).far (by show g0 + 1 ≠ g0; omega) _))
  have HB2 : RowKit.Hid (Below w.heap.size w W2) := Lib.hid (gW2 ▸ (((HB.out.setCell (by show w.heap.size ≤ g0; exact HG0.out) _).setCell (by show w.heap.size ≤ g0; exact HG0.out) _).setCell (by show w.heap.size ≤ g0; exact HG0.out) _))
  rw [gW2]
  clear gW2
  refine wp_region_lit ?_
  refine wpList_load_row rfl 53 (.tmp 1) rfl g0 rfl 53 (opCells ⟨0, 0, 0, o.s1, o.n1, o.s2, o.n2, o.a0, o.a1, o.a2, o.a3, o.a4, o.b0, o.b1, o.b2, o.b3, o.b4, o.e, o.t, o.m⟩).toArray (0, 0) _ HO2.out Try.underlying53 rfl (by kernel_rfl) ?_
  simp only [Act.put, stA_, st0_, st1_]
  refine wpList_store_row rfl 53 (.tmp 2) (.tmp 33) rfl (g0 + 1) (opCells ⟨0, 0, 0, o.s1, o.n1, o.s2, o.n2, o.a0, o.a1, o.a2, o.a3, o.a4, o.b0, o.b1, o.b2, o.b3, o.b4, o.e, o.t, o.m⟩).toArray rfl rfl 53 #[.int .i64 0, .int .i64 0, .int .i64 0, .int .i64 0, .int .i64 0, .int .i64 0, .int .i64 0, .int .i64 0, .int .i64 0, .int .i64 0, .int .i64 0, .int .i64 0, .int .i64 0, .int .i64 0, .int .i64 0, .int .i64 0, .int .i64 0, .bool false, .string ⟨#[]⟩, .int .i64 0] HR2.out (by kernel_rfl) rfl (by simp [opCells, Value.oneCell']) ?_
  have HR3 : RowKit.Hid (Whole (W2.setRow (g0 + 1) (opCells ⟨0, 0, 0, o.s1, o.n1, o.s2, o.n2, o.a0, o.a1, o.a2, o.a3, o.a4, o.b0, o.b1, o.b2, o.b3, o.b4, o.e, o.t, o.m⟩).toArray) (g0 + 1) 53 (opCells ⟨0, 0, 0, o.s1, o.n1, o.s2, o.n2, o.a0, o.a1, o.a2, o.a3, o.a4, o.b0, o.b1, o.b2, o.b3, o.b4, o.e, o.t, o.m⟩)) := Lib.hid (setRow_heap W2 (g0 + 1) _ _ _ _ HR2.out)
  have HB3 : RowKit.Hid (Below w.heap.size w (W2.setRow (g0 + 1) (opCells ⟨0, 0, 0, o.s1, o.n1, o.s2, o.n2, o.a0, o.a1, o.a2, o.a3, o.a4, o.b0, o.b1, o.b2, o.b3, o.b4, o.e, o.t, o.m⟩).toArray)) := Lib.hid ⟨HB2.out.os, HB2.out.tape, HB2.out.output, (by have := HB2.out.size; simpa [World.setRow] using this), fun i hi => (setRow_other W2 (g0 + 1) i _ (by have := HG0.out; omega)).trans (HB2.out.block i hi)⟩
  obtain ⟨W3, gW3⟩ : ∃ x, W2.setRow (g0 + 1) (opCells ⟨0, 0, 0, o.s1, o.n1, o.s2, o.n2, o.a0, o.a1, o.a2, o.a3, o.a4, o.b0, o.b1, o.b2, o.b3, o.b4, o.e, o.t, o.m⟩).toArray = x := ⟨_, rfl⟩
  rw [gW3] at HR3 HB3 ⊢
  clear gW3
  go_wp2
  exact bodyPost_ret (v := .agg (opCells ⟨0, 0, 0, o.s1, o.n1, o.s2, o.n2, o.a0, o.a1, o.a2, o.a3, o.a4, o.b0, o.b1, o.b2, o.b3, o.b4, o.e, o.t, o.m⟩).toArray) (results_cell_row Try.results83 _ W3 (g0 + 1) 53 (opCells ⟨0, 0, 0, o.s1, o.n1, o.s2, o.n2, o.a0, o.a1, o.a2, o.a3, o.a4, o.b0, o.b1, o.b2, o.b3, o.b4, o.e, o.t, o.m⟩).toArray (0, 0) _ (by rfl) HR3.out Try.underlying53 rfl (by kernel_rfl)) rfl ⟨rfl, HB3.out⟩
set_option maxRecDepth 100000 in
set_option maxHeartbeats 2000000 in
theorem rest_3 (o : OpT) (hk : o.k = 3) (w : World) : Calls Try.prog 83 #[.agg (opCells o).toArray] w fun e w' => e = .returned (.agg (opCells ⟨0, 0, 0, o.s1, o.n1, o.s2, o.n2, 0, 0, 0, 0, 0, 0, 0, 0, 0, 0, o.e, o.t, o.m⟩).toArray) ∧ Below w.heap.size w w' := by
  obtain ⟨k, s, n, s1, n1, s2, n2, a0, a1, a2, a3, a4, b0, b1, b2, b3, b4, e, t, m⟩ := o
  obtain rfl : k = 3 := hk
  obtain ⟨o, go⟩ : ∃ o : OpT, o = ⟨3, s, n, s1, n1, s2, n2, a0, a1, a2, a3, a4, b0, b1, b2, b3, b4, e, t, m⟩ := ⟨_, rfl⟩
  have q : o.k = 3 := by rw [go]
  rw [show (⟨0, 0, 0, s1, n1, s2, n2, 0, 0, 0, 0, 0, 0, 0, 0, 0, 0, e, t, m⟩ : OpT) = ⟨0, 0, 0, o.s1, o.n1, o.s2, o.n2, 0, 0, 0, 0, 0, 0, 0, 0, 0, 0, o.e, o.t, o.m⟩ from by rw [go]]
  rw [← go]
  clear go
  go_enter Try.func83, Try.ntmps83
  go_upto_region 1 with fail
  obtain ⟨W1, gW1⟩ : ∃ x, (w.alloc (.cells (opCells o).toArray 53)).alloc (.cells #[.int .i64 0, .int .i64 0, .int .i64 0, .int .i64 0, .int .i64 0, .int .i64 0, .int .i64 0, .int .i64 0, .int .i64 0, .int .i64 0, .int .i64 0, .int .i64 0, .int .i64 0, .int .i64 0, .int .i64 0, .int .i64 0, .int .i64 0, .bool false, .string ⟨#[]⟩, .int .i64 0] 53) = x := ⟨_, rfl⟩
  have HO : RowKit.Hid (Whole W1 w.heap.size 53 (opCells o)) := Lib.hid (by rw [← gW1]; exact (Whole.new_ w _ _).alloc _)
  have HR : RowKit.Hid (Whole W1 (w.heap.size + 1) 53 [.int .i64 0, .int .i64 0, .int .i64 0, .int .i64 0, .int .i64 0, .int .i64 0, .int .i64 0, .int .i64 0, .int .i64 0, .int .i64 0, .int .i64 0, .int .i64 0, .int .i64 0, .int .i64 0, .int .i64 0, .int .i64 0, .int .i64 0, .bool false, .string ⟨#[]⟩, .int .i64 0]) := Lib.hid (by rw [← gW1]; exact Whole.new2 (cs := [.int .i64 0, .int .i64 0, .int .i64 0, .int .i64 0, .int .i64 0, .int .i64 0, .int .i64 0, .int .i64 0, .int .i64 0, .int .i64 0, .int .i64 0, .int .i64 0, .int .i64 0, .int .i64 0, .int .i64 0, .int .i64 0, .int .i64 0, .bool false, .string ⟨#[]⟩, .int .i64 0]) (by simp))
  have HB : RowKit.Hid (Below w.heap.size w W1) := Lib.hid (by rw [← gW1]; exact below2 _ _ _)
  rw [gW1]
  clear gW1
  obtain ⟨g0, gg0⟩ : ∃ x, w.heap.size = x := ⟨_, rfl⟩
  rw [gg0] at HO HR ⊢
  have HG0 : RowKit.Hid (w.heap.size ≤ g0) := Lib.hid (by omega)
  clear gg0
  have l7 : W1.cell? ⟨g0, 7, none⟩ = some (.int .i64 o.a0) := HO.out.cell (i := 7) rfl
  have z7 := HO.out.free 7
  have l8 : W1.cell? ⟨g0, 8, none⟩ = some (.int .i64 o.a1) := HO.out.cell (i := 8) rfl
  have z8 := HO.out.free 8
  have l9 : W1.cell? ⟨g0, 9, none⟩ = some (.int .i64 o.a2) := HO.out.cell (i := 9) rfl
  have z9 := HO.out.free 9
  have l10 : W1.cell? ⟨g0, 10, none⟩ = some (.int .i64 o.a3) := HO.out.cell (i := 10) rfl
  have z10 := HO.out.free 10
  have l11 : W1.cell? ⟨g0, 11, none⟩ = some (.int .i64 o.a4) := HO.out.cell (i := 11) rfl
  have z11 := HO.out.free 11
  have l12 : W1.cell? ⟨g0, 12, none⟩ = some (.int .i64 o.b0) := HO.out.cell (i := 12) rfl
  have z12 := HO.out.free 12
  have l13 : W1.cell? ⟨g0, 13, none⟩ = some (.int .i64 o.b1) := HO.out.cell (i := 13) rfl
  have z13 := HO.out.free 13
  have l14 : W1.cell? ⟨g0, 14, none⟩ = some (.int .i64 o.b2) := HO.out.cell (i := 14) rfl
  have z14 := HO.out.free 14
  have l15 : W1.cell? ⟨g0, 15, none⟩ = some (.int .i64 o.b3) := HO.out.cell (i := 15) rfl
  have z15 := HO.out.free 15
  have l16 : W1.cell? ⟨g0, 16, none⟩ = some (.int .i64 o.b4) := HO.out.cell (i := 16) rfl
  have z16 := HO.out.free 16
  have l0 : W1.cell? ⟨g0, 0, none⟩ = some (.int .i64 o.k) := HO.out.cell (i := 0) rfl
  have z0 := HO.out.free 0
  have l1 : W1.cell? ⟨g0, 1, none⟩ = some (.int .i64 o.s) := HO.out.cell (i := 1) rfl
  have z1 := HO.out.free 1
  have l2 : W1.cell? ⟨g0, 2, none⟩ = some (.int .i64 o.n) := HO.out.cell (i := 2) rfl
  have z2 := HO.out.free 2
  go_upto_region 19 with fail
  clear l7 z7 l8 z8 l9 z9 l10 z10 l11 z11 l12 z12 l13 z13 l14 z14 l15 z15 l16 z16 l0 z0 l1 z1 l2 z2
  obtain ⟨W2, gW2⟩ : ∃ x, ((((((((((((((((((((((((((W1).setCell ⟨g0, 7, none⟩ (.int .i64 0))).setCell ⟨g0, 8, none⟩ (.int .i64 0))).setCell ⟨g0, 9, none⟩ (.int .i64 0))).setCell ⟨g0, 10, none⟩ (.int .i64 0))).setCell ⟨g0, 11, none⟩ (.int .i64 0))).setCell ⟨g0, 12, none⟩ (.int .i64 0))).setCell ⟨g0, 13, none⟩ (.int .i64 0))).setCell ⟨g0, 14, none⟩ (.int .i64 0))).setCell ⟨g0, 15, none⟩ (.int .i64 0))).setCell ⟨g0, 16, none⟩ (.int .i64 0))).setCell ⟨g0, 0, none⟩ (.int .i64 0))).setCell ⟨g0, 1, none⟩ (.int .i64 0))).setCell ⟨g0, 2, none⟩ (.int .i64 0)) = x := ⟨_, rfl⟩
  have HO2 : RowKit.Hid (Whole W2 g0 53 (opCells ⟨0, 0, 0, o.s1, o.n1, o.s2, o.n2, 0, 0, 0, 0, 0, 0, 0, 0, 0, 0, o.e, o.t, o.m⟩)) := Lib.hid (gW2 ▸ (((((((((((((HO.out.set_ 7 _).set_ 8 _).set_ 9 _).set_ 10 _).set_ 11 _).set_ 12 _).set_ 13 _).set_ 14 _).set_ 15 _).set_ 16 _).set_ 0 _).set_ 1 _).set_ 2 _))
  have HR2 : RowKit.Hid (Whole W2 (g0 + 1) 53 [.int .i64 0, .int .i64 0, .int .i64 0, .int .i64 0, .int .i64 0, .int .i64 0, .int .i64 0, .int .i64 0, .int .i64 0, .int .i64 0, .int .i64 0, .int .i64 0, .int .i64 0, .int .i64 0, .int .i64 0, .int .i64 0, .int .i64 0, .bool false, .string ⟨#[]⟩, .int .i64 0]) := Lib.hid (gW2 ▸ (((((((((((((HR.out.far (by show g0 + 1 ≠ g0; omega) _).far (by show g0 + 1 ≠ g0; omega) _).far (by show g0 + 1 ≠ g0; omega) _).far (by show g0 + 1 ≠ g0; omega) _).far (by show g0 + 1 ≠ g0; omega) _).far (by show g0 + 1 ≠ g0; omega) _).far (by show g0 + 1 ≠ g0; omega) _).far (by show g0 + 1 ≠ g0; omega) _).far (by show g0 + 1 ≠ g0; omega) _).far (by show g0 + 1 ≠ g0; omega) _).far (by show g0 + 1 ≠ g0; omega) _).far (by show g0 + 1 ≠ g0; omega) _).far (by show g0 + 1 ≠ g0; omega) _))
  have HB2 : RowKit.Hid (Below w.heap.size w W2) := Lib.hid (gW2 ▸ (((((((((((((HB.out.setCell (by show w.heap.size ≤ g0; exact HG0.out) _).setCell (by show w.heap.size ≤ g0; exact HG0.out) _).setCell (by show w.heap.size ≤ g0; exact HG0.out) _).setCell (by show w.heap.size ≤ g0; exact HG0.out) _).setCell (by show w.heap.size ≤ g0; exact HG0.out) _).setCell (by show w.heap.size ≤ g0; exact HG0.out) _).setCell (by show w.heap.size ≤ g0; exact HG0.out) _).setCell (by show w.heap.size ≤ g0; exact HG0.out) _).setCell (by show w.heap.size ≤ g0; exact HG0.out) _).setCell (by show w.heap.size ≤ g0; exact HG0.out) _).setCell (by show w.heap.size ≤ g0; exact HG0.out) _).setCell (by show w.heap.size ≤ g0; exact HG0.out) _).setCell (by show w.heap.size ≤ g0; exact HG0.out) _))
  rw [gW2]
  clear gW2
  refine wp_region_lit ?_
  refine wpList_load_row rfl 53 (.tmp 1) rfl g0 rfl 53 (opCells ⟨0, 0, 0, o.s1, o.n1, o.s2, o.n2, 0, 0, 0, 0, 0, 0, 0, 0, 0, 0, o.e, o.t, o.m⟩).toArray (0, 0) _ HO2.out Try.underlying53 rfl (by kernel_rfl) ?_
  simp only [Act.put, stA_, st0_, st1_]
  refine wpList_store_row rfl 53 (.tmp 2) (.tmp 33) rfl (g0 + 1) (opCells ⟨0, 0, 0, o.s1, o.n1, o.s2, o.n2, 0, 0, 0, 0, 0, 0, 0, 0, 0, 0, o.e, o.t, o.m⟩).toArray rfl rfl 53 #[.int .i64 0, .int .i64 0, .int .i64 0, .int .i64 0, .int .i64 0, .int .i64 0, .int .i64 0, .int .i64 0, .int .i64 0, .int .i64 0, .int .i64 0, .int .i64 0, .int .i64 0, .int .i64 0, .int .i64 0, .int .i64 0, .int .i64 0, .bool false, .string ⟨#[]⟩, .int .i64 0] HR2.out (by kernel_rfl) rfl (by simp [opCells, Value.oneCell']) ?_
  have HR3 : RowKit.Hid (Whole (W2.setRow (g0 + 1) (opCells ⟨0, 0, 0, o.s1, o.n1, o.s2, o.n2, 0, 0, 0, 0, 0, 0, 0, 0, 0, 0, o.e, o.t, o.m⟩).toArray) (g0 + 1) 53 (opCells ⟨0, 0, 0, o.s1, o.n1, o.s2, o.n2, 0, 0, 0, 0, 0, 0, 0, 0, 0, 0, o.e, o.t, o.m⟩)) := Lib.hid (setRow_heap W2 (g0 + 1) _ _ _ _ HR2.out)
  have HB3 : RowKit.Hid (Below w.heap.size w (W2.setRow (g0 + 1) (opCells ⟨0, 0, 0, o.s1, o.n1, o.s2, o.n2, 0, 0, 0, 0, 0, 0, 0, 0, 0, 0, o.e, o.t, o.m⟩).toArray)) := Lib.hid ⟨HB2.out.os, HB2.out.tape, HB2.out.output, (by have := HB2.out.size; simpa [World.setRow] using this), fun i hi => (setRow_other W2 (g0 + 1) i _ (by have := HG0.out; omega)).trans (HB2.out.block i hi)⟩
  obtain ⟨W3, gW3⟩ : ∃ x, W2.setRow (g0 + 1) (opCells ⟨0, 0, 0, o.s1, o.n1, o.s2, o.n2, 0, 0, 0, 0, 0, 0, 0, 0, 0, 0, o.e, o.t, o.m⟩).toArray = x := ⟨_, rfl⟩
  rw [gW3] at HR3 HB3 ⊢
  clear gW3
  go_wp2
  exact bodyPost_ret (v := .agg (opCells ⟨0, 0, 0, o.s1, o.n1, o.s2, o.n2, 0, 0, 0, 0, 0, 0, 0, 0, 0, 0, o.e, o.t, o.m⟩).toArray) (results_cell_row Try.results83 _ W3 (g0 + 1) 53 (opCells ⟨0, 0, 0, o.s1, o.n1, o.s2, o.n2, 0, 0, 0, 0, 0, 0, 0, 0, 0, 0, o.e, o.t, o.m⟩).toArray (0, 0) _ (by rfl) HR3.out Try.underlying53 rfl (by kernel_rfl)) rfl ⟨rfl, HB3.out⟩
set_option maxRecDepth 100000 in
set_option maxHeartbeats 2000000 in
theorem rest_5 (o : OpT) (hk : o.k = 5) (w : World) : Calls Try.prog 83 #[.agg (opCells o).toArray] w fun e w' => e = .returned (.agg (opCells ⟨0, 0, 0, 0, 0, 0, 0, o.a0, o.a1, o.a2, o.a3, o.a4, o.b0, o.b1, o.b2, o.b3, o.b4, o.e, o.t, 0⟩).toArray) ∧ Below w.heap.size w w' := by
  obtain ⟨k, s, n, s1, n1, s2, n2, a0, a1, a2, a3, a4, b0, b1, b2, b3, b4, e, t, m⟩ := o
  obtain rfl : k = 5 := hk
  obtain ⟨o, go⟩ : ∃ o : OpT, o = ⟨5, s, n, s1, n1, s2, n2, a0, a1, a2, a3, a4, b0, b1, b2, b3, b4, e, t, m⟩ := ⟨_, rfl⟩
  have q : o.k = 5 := by rw [go]
  rw [show (⟨0, 0, 0, 0, 0, 0, 0, a0, a1, a2, a3, a4, b0, b1, b2, b3, b4, e, t, 0⟩ : OpT) = ⟨0, 0, 0, 0, 0, 0, 0, o.a0, o.a1, o.a2, o.a3, o.a4, o.b0, o.b1, o.b2, o.b3, o.b4, o.e, o.t, 0⟩ from by rw [go]]
  rw [← go]
  clear go
  go_enter Try.func83, Try.ntmps83
  go_upto_region 1 with fail
  obtain ⟨W1, gW1⟩ : ∃ x, (w.alloc (.cells (opCells o).toArray 53)).alloc (.cells #[.int .i64 0, .int .i64 0, .int .i64 0, .int .i64 0, .int .i64 0, .int .i64 0, .int .i64 0, .int .i64 0, .int .i64 0, .int .i64 0, .int .i64 0, .int .i64 0, .int .i64 0, .int .i64 0, .int .i64 0, .int .i64 0, .int .i64 0, .bool false, .string ⟨#[]⟩, .int .i64 0] 53) = x := ⟨_, rfl⟩
  have HO : RowKit.Hid (Whole W1 w.heap.size 53 (opCells o)) := Lib.hid (by rw [← gW1]; exact (Whole.new_ w _ _).alloc _)
  have HR : RowKit.Hid (Whole W1 (w.heap.size + 1) 53 [.int .i64 0, .int .i64 0, .int .i64 0, .int .i64 0, .int .i64 0, .int .i64 0, .int .i64 0, .int .i64 0, .int .i64 0, .int .i64 0, .int .i64 0, .int .i64 0, .int .i64 0, .int .i64 0, .int .i64 0, .int .i64 0, .int .i64 0, .bool false, .string ⟨#[]⟩, .int .i64 0]) := Lib.hid (by rw [← gW1]; exact Whole.new2 (cs := [.int .i64 0, .int .i64 0, .int .i64 0, .int .i64 0, .int .i64 0, .int .i64 0, .int .i64 0, .int .i64 0, .int .i64 0, .int .i64 0, .int .i64 0, .int .i64 0, .int .i64 0, .int .i64 0, .int .i64 0, .int .i64 0, .int .i64 0, .bool false, .string ⟨#[]⟩, .int .i64 0]) (by simp))
  have HB : RowKit.Hid (Below w.heap.size w W1) := Lib.hid (by rw [← gW1]; exact below2 _ _ _)
  rw [gW1]
  clear gW1
  obtain ⟨g0, gg0⟩ : ∃ x, w.heap.size = x := ⟨_, rfl⟩
  rw [gg0] at HO HR ⊢
  have HG0 : RowKit.Hid (w.heap.size ≤ g0) := Lib.hid (by omega)
  clear gg0
  have l3 : W1.cell? ⟨g0, 3, none⟩ = some (.int .i64 o.s1) := HO.out.cell (i := 3) rfl
  have z3 := HO.out.free 3
  have l4 : W1.cell? ⟨g0, 4, none⟩ = some (.int .i64 o.n1) := HO.out.cell (i := 4) rfl
  have z4 := HO.out.free 4
  have l5 : W1.cell? ⟨g0, 5, none⟩ = some (.int .i64 o.s2) := HO.out.cell (i := 5) rfl
  have z5 := HO.out.free 5
  have l6 : W1.cell? ⟨g0, 6, none⟩ = some (.int .i64 o.n2) := HO.out.cell (i := 6) rfl
  have z6 := HO.out.free 6
  have l19 : W1.cell? ⟨g0, 19, none⟩ = some (.int .i64 o.m) := HO.out.cell (i := 19) rfl
  have z19 := HO.out.free 19
  have l0 : W1.cell? ⟨g0, 0, none⟩ = some (.int .i64 o.k) := HO.out.cell (i := 0) rfl
  have z0 := HO.out.free 0
  have l1 : W1.cell? ⟨g0, 1, none⟩ = some (.int .i64 o.s) := HO.out.cell (i := 1) rfl
  have z1 := HO.out.free 1
  have l2 : W1.cell? ⟨g0, 2, none⟩ = some (.int .i64 o.n) := HO.out.cell (i := 2) rfl
  have z2 := HO.out.free 2
  go_upto_region 19 with fail
  clear l3 z3 l4 z4 l5 z5 l6 z6 l19 z19 l0 z0 l1 z1 l2 z2
  obtain ⟨W2, gW2⟩ : ∃ x, ((((((((((((((((W1).setCell ⟨g0, 3, none⟩ (.int .i64 0))).setCell ⟨g0, 4, none⟩ (.int .i64 0))).setCell ⟨g0, 5, none⟩ (.int .i64 0))).setCell ⟨g0, 6, none⟩ (.int .i64 0))).setCell ⟨g0, 19, none⟩ (.int .i64 0))).setCell ⟨g0, 0, none⟩ (.int .i64 0))).setCell ⟨g0, 1, none⟩ (.int .i64 0))).setCell ⟨g0, 2, none⟩ (.int .i64 0)) = x := ⟨_, rfl⟩
  have HO2 : RowKit.Hid (Whole W2 g0 53 (opCells ⟨0, 0, 0, 0, 0, 0, 0, o.a0, o.a1, o.a2, o.a3, o.a4, o.b0, o.b1, o.b2, o.b3, o.b4, o.e, o.t, 0⟩)) := Lib.hid (gW2 ▸ ((((((((HO.out.set_ 3 _).set_ 4 _).set_ 5 _).set_ 6 _).set_ 19 _).set_ 0 _).set_ 1 _).set_ 2 _))
  have HR2 : RowKit.Hid (Whole W2 (g0 + 1) 53 [.int .i64 0, .int .i64 0, .int .i64 0, .int .i64 0, .int .i64 0, .int .i64 0, .int .i64 0, .int .i64 0, .int .i64 0, .int .i64 0, .int .i64 0, .int .i64 0, .int .i64 0, .int .i64 0, .int .i64 0, .int .i64 0, .int .i64 0, .bool false, .string ⟨#[]⟩, .int .i64 0]) := Lib.hid (gW2 ▸ ((((((((HR.out.far (by show g0 + 1 ≠ g0; omega) _).far (by show g0 + 1 ≠ g0; omega) _).far (by show g0 + 1 ≠ g0; omega) _).far (by show g0 + 1 ≠ g0; omega) _).far (by show g0 + 1 ≠ g0; omega) _).far (by show g0 + 1 ≠ g0; omega) _).far (by show g0 + 1 ≠ g0; omega) _).far (by show g0 + 1 ≠ g0; omega) _))
  have HB2 : RowKit.Hid (Below w.heap.size w W2) := Lib.hid (gW2 ▸ ((((((((HB.out.setCell (by show w.heap.size ≤ g0; exact HG0.out) _).setCell (by show w.heap.size ≤ g0; exact HG0.out) _).setCell (by show w.heap.size ≤ g0; exact HG0.out) _).setCell (by show w.heap.size ≤ g0; exact HG0.out) _).setCell (by show w.heap.size ≤ g0; exact HG0.out) _).setCell (by show w.heap.size ≤ g0; exact HG0.out) _).setCell (by show w.heap.size ≤ g0; exact HG0.out) _).setCell (by show w.heap.size ≤ g0; exact HG0.out) _))
  rw [gW2]
  clear gW2
  refine wp_region_lit ?_
  refine wpList_load_row rfl 53 (.tmp 1) rfl g0 rfl 53 (opCells ⟨0, 0, 0, 0, 0, 0, 0, o.a0, o.a1, o.a2, o.a3, o.a4, o.b0, o.b1, o.b2, o.b3, o.b4, o.e, o.t, 0⟩).toArray (0, 0) _ HO2.out Try.underlying53 rfl (by kernel_rfl) ?_
  simp only [Act.put, stA_, st0_, st1_]
  refine wpList_store_row rfl 53 (.tmp 2) (.tmp 33) rfl (g0 + 1) (opCells ⟨0, 0, 0, 0, 0, 0, 0, o.a0, o.a1, o.a2, o.a3, o.a4, o.b0, o.b1, o.b2, o.b3, o.b4, o.e, o.t, 0⟩).toArray rfl rfl 53 #[.int .i64 0, .int .i64 0, .int .i64 0, .int .i64 0, .int .i64 0, .int .i64 0, .int .i64 0, .int .i64 0, .int .i64 0, .int .i64 0, .int .i64 0, .int .i64 0, .int .i64 0, .int .i64 0, .int .i64 0, .int .i64 0, .int .i64 0, .bool false, .string ⟨#[]⟩, .int .i64 0] HR2.out (by kernel_rfl) rfl (by simp [opCells, Value.oneCell']) ?_
  have HR3 : RowKit.Hid (Whole (W2.setRow (g0 + 1) (opCells ⟨0, 0, 0, 0, 0, 0, 0, o.a0, o.a1, o.a2, o.a3, o.a4, o.b0, o.b1, o.b2, o.b3, o.b4, o.e, o.t, 0⟩).toArray) (g0 + 1) 53 (opCells ⟨0, 0, 0, 0, 0, 0, 0, o.a0, o.a1, o.a2, o.a3, o.a4, o.b0, o.b1, o.b2, o.b3, o.b4, o.e, o.t, 0⟩)) := Lib.hid (setRow_heap W2 (g0 + 1) _ _ _ _ HR2.out)
  have HB3 : RowKit.Hid (Below w.heap.size w (W2.setRow (g0 + 1) (opCells ⟨0, 0, 0, 0, 0, 0, 0, o.a0, o.a1, o.a2, o.a3, o.a4, o.b0, o.b1, o.b2, o.b3, o.b4, o.e, o.t, 0⟩).toArray)) := Lib.hid ⟨HB2.out.os, HB2.out.tape, HB2.out.output, (by have := HB2.out.size; simpa [World.setRow] using this), fun i hi => (setRow_other W2 (g0 + 1) i _ (by have := HG0.out; omega)).trans (HB2.out.block i hi)⟩
  obtain ⟨W3, gW3⟩ : ∃ x, W2.setRow (g0 + 1) (opCells ⟨0, 0, 0, 0, 0, 0, 0, o.a0, o.a1, o.a2, o.a3, o.a4, o.b0, o.b1, o.b2, o.b3, o.b4, o.e, o.t, 0⟩).toArray = x := ⟨_, rfl⟩
  rw [gW3] at HR3 HB3 ⊢
  clear gW3
  go_wp2
  exact bodyPost_ret (v := .agg (opCells ⟨0, 0, 0, 0, 0, 0, 0, o.a0, o.a1, o.a2, o.a3, o.a4, o.b0, o.b1, o.b2, o.b3, o.b4, o.e, o.t, 0⟩).toArray) (results_cell_row Try.results83 _ W3 (g0 + 1) 53 (opCells ⟨0, 0, 0, 0, 0, 0, 0, o.a0, o.a1, o.a2, o.a3, o.a4, o.b0, o.b1, o.b2, o.b3, o.b4, o.e, o.t, 0⟩).toArray (0, 0) _ (by rfl) HR3.out Try.underlying53 rfl (by kernel_rfl)) rfl ⟨rfl, HB3.out⟩
set_option maxRecDepth 100000 in
set_option maxHeartbeats 2000000 in
theorem rest_6 (o : OpT) (hk : o.k = 6) (w : World) : Calls Try.prog 83 #[.agg (opCells o).toArray] w fun e w' => e = .returned (.agg (opCells ⟨0, 0, 0, o.s1, o.n1, 0, 0, o.a0, o.a1, o.a2, o.a3, o.a4, o.b0, o.b1, o.b2, o.b3, o.b4, o.e, o.t, o.m⟩).toArray) ∧ Below w.heap.size w w' := by
  obtain ⟨k, s, n, s1, n1, s2, n2, a0, a1, a2, a3, a4, b0, b1, b2, b3, b4, e, t, m⟩ := o
  obtain rfl : k = 6 := hk
  obtain ⟨o, go⟩ : ∃ o : OpT, o = ⟨6, s, n, s1, n1, s2, n2, a0, a1, a2, a3, a4, b0, b1, b2, b3, b4, e, t, m⟩ := ⟨_, rfl⟩
  have q : o.k = 6 := by rw [go]
  rw [show (⟨0, 0, 0, s1, n1, 0, 0, a0, a1, a2, a3, a4, b0, b1, b2, b3, b4, e, t, m⟩ : OpT) = ⟨0, 0, 0, o.s1, o.n1, 0, 0, o.a0, o.a1, o.a2, o.a3, o.a4, o.b0, o.b1, o.b2, o.b3, o.b4, o.e, o.t, o.m⟩ from by rw [go]]
  rw [← go]
  clear go
  go_enter Try.func83, Try.ntmps83
  go_upto_region 1 with fail
  obtain ⟨W1, gW1⟩ : ∃ x, (w.alloc (.cells (opCells o).toArray 53)).alloc (.cells #[.int .i64 0, .int .i64 0, .int .i64 0, .int .i64 0, .int .i64 0, .int .i64 0, .int .i64 0, .int .i64 0, .int .i64 0, .int .i64 0, .int .i64 0, .int .i64 0, .int .i64 0, .int .i64 0, .int .i64 0, .int .i64 0, .int .i64 0, .bool false, .string ⟨#[]⟩, .int .i64 0] 53) = x := ⟨_, rfl⟩
  have HO : RowKit.Hid (Whole W1 w.heap.size 53 (opCells o)) := Lib.hid (by rw [← gW1]; exact (Whole.new_ w _ _).alloc _)
  have HR : RowKit.Hid (Whole W1 (w.heap.size + 1) 53 [.int .i64 0, .int .i64 0, .int .i64 0, .int .i64 0, .int .i64 0, .int .i64 0, .int .i64 0, .int .i64 0, .int .i64 0, .int .i64 0, .int .i64 0, .int .i64 0, .int .i64 0, .int .i64 0, .int .i64 0, .int .i64 0, .int .i64 0, .bool false, .string ⟨#[]⟩, .int .i64 0]) := Lib.hid (by rw [← gW1]; exact Whole.new2 (cs := [.int .i64 0, .int .i64 0, .int .i64 0, .int .i64 0, .int .i64 0, .int .i64 0, .int .i64 0, .int .i64 0, .int .i64 0, .int .i64 0, .int .i64 0, .int .i64 0, .int .i64 0, .int .i64 0, .int .i64 0, .int .i64 0, .int .i64 0, .bool false, .string ⟨#[]⟩, .int .i64 0]) (by simp))
  have HB : RowKit.Hid (Below w.heap.size w W1) := Lib.hid (by rw [← gW1]; exact below2 _ _ _)
  rw [gW1]
  clear gW1
  obtain ⟨g0, gg0⟩ : ∃ x, w.heap.size = x := ⟨_, rfl⟩
  rw [gg0] at HO HR ⊢
  have HG0 : RowKit.Hid (w.heap.size ≤ g0) := Lib.hid (by omega)
  clear gg0
  have l5 : W1.cell? ⟨g0, 5, none⟩ = some (.int .i64 o.s2) := HO.out.cell (i := 5) rfl
  have z5 := HO.out.free 5
  have l6 : W1.cell? ⟨g0, 6, none⟩ = some (.int .i64 o.n2) := HO.out.cell (i := 6) rfl
  have z6 := HO.out.free 6
  have l0 : W1.cell? ⟨g0, 0, none⟩ = some (.int .i64 o.k) := HO.out.cell (i := 0) rfl
  have z0 := HO.out.free 0
  have l1 : W1.cell? ⟨g0, 1, none⟩ = some (.int .i64 o.s) := HO.out.cell (i := 1) rfl
  have z1 := HO.out.free 1
  have l2 : W1.cell? ⟨g0, 2, none⟩ = some (.int .i64 o.n) := HO.out.cell (i := 2) rfl
  have z2 := HO.out.free 2
  go_upto_region 19 with fail
  clear l5 z5 l6 z6 l0 z0 l1 z1 l2 z2
  obtain ⟨W2, gW2⟩ : ∃ x, ((((((((((W1).setCell ⟨g0, 5, none⟩ (.int .i64 0))).setCell ⟨g0, 6, none⟩ (.int .i64 0))).setCell ⟨g0, 0, none⟩ (.int .i64 0))).setCell ⟨g0, 1, none⟩ (.int .i64 0))).setCell ⟨g0, 2, none⟩ (.int .i64 0)) = x := ⟨_, rfl⟩
  have HO2 : RowKit.Hid (Whole W2 g0 53 (opCells ⟨0, 0, 0, o.s1, o.n1, 0, 0, o.a0, o.a1, o.a2, o.a3, o.a4, o.b0, o.b1, o.b2, o.b3, o.b4, o.e, o.t, o.m⟩)) := Lib.hid (gW2 ▸ (((((HO.out.set_ 5 _).set_ 6 _).set_ 0 _).set_ 1 _).set_ 2 _))
  have HR2 : RowKit.Hid (Whole W2 (g0 + 1) 53 [.int .i64 0, .int .i64 0, .int .i64 0, .int .i64 0, .int .i64 0, .int .i64 0, .int .i64 0, .int .i64 0, .int .i64 0, .int .i64 0, .int .i64 0, .int .i64 0, .int .i64 0, .int .i64 0, .int .i64 0, .int .i64 0, .int .i64 0, .bool false, .string ⟨#[]⟩, .int .i64 0]) := Lib.hid (gW2 ▸ (((((HR.out.far (by show g0 + 1 ≠ g0; omega) _).far (by show g0 + 1 ≠ g0; omega) _).far (by show g0 + 1 ≠ g0; omega) _).far (by show g0 + 1 ≠ g0; omega) _).far (by show g0 + 1 ≠ g0; omega) _))
  have HB2 : RowKit.Hid (Below w.heap.size w W2) := Lib.hid (gW2 ▸ (((((HB.out.setCell (by show w.heap.size ≤ g0; exact HG0.out) _).setCell (by show w.heap.size ≤ g0; exact HG0.out) _).setCell (by show w.heap.size ≤ g0; exact HG0.out) _).setCell (by show w.heap.size ≤ g0; exact HG0.out) _).setCell (by show w.heap.size ≤ g0; exact HG0.out) _))
  rw [gW2]
  clear gW2
  refine wp_region_lit ?_
  refine wpList_load_row rfl 53 (.tmp 1) rfl g0 rfl 53 (opCells ⟨0, 0, 0, o.s1, o.n1, 0, 0, o.a0, o.a1, o.a2, o.a3, o.a4, o.b0, o.b1, o.b2, o.b3, o.b4, o.e, o.t, o.m⟩).toArray (0, 0) _ HO2.out Try.underlying53 rfl (by kernel_rfl) ?_
  simp only [Act.put, stA_, st0_, st1_]
  refine wpList_store_row rfl 53 (.tmp 2) (.tmp 33) rfl (g0 + 1) (opCells ⟨0, 0, 0, o.s1, o.n1, 0, 0, o.a0, o.a1, o.a2, o.a3, o.a4, o.b0, o.b1, o.b2, o.b3, o.b4, o.e, o.t, o.m⟩).toArray rfl rfl 53 #[.int .i64 0, .int .i64 0, .int .i64 0, .int .i64 0, .int .i64 0, .int .i64 0, .int .i64 0, .int .i64 0, .int .i64 0, .int .i64 0, .int .i64 0, .int .i64 0, .int .i64 0, .int .i64 0, .int .i64 0, .int .i64 0, .int .i64 0, .bool false, .string ⟨#[]⟩, .int .i64 0] HR2.out (by kernel_rfl) rfl (by simp [opCells, Value.oneCell']) ?_
  have HR3 : RowKit.Hid (Whole (W2.setRow (g0 + 1) (opCells ⟨0, 0, 0, o.s1, o.n1, 0, 0, o.a0, o.a1, o.a2, o.a3, o.a4, o.b0, o.b1, o.b2, o.b3, o.b4, o.e, o.t, o.m⟩).toArray) (g0 + 1) 53 (opCells ⟨0, 0, 0, o.s1, o.n1, 0, 0, o.a0, o.a1, o.a2, o.a3, o.a4, o.b0, o.b1, o.b2, o.b3, o.b4, o.e, o.t, o.m⟩)) := Lib.hid (setRow_heap W2 (g0 + 1) _ _ _ _ HR2.out)
  have HB3 : RowKit.Hid (Below w.heap.size w (W2.setRow (g0 + 1) (opCells ⟨0, 0, 0, o.s1, o.n1, 0, 0, o.a0, o.a1, o.a2, o.a3, o.a4, o.b0, o.b1, o.b2, o.b3, o.b4, o.e, o.t, o.m⟩).toArray)) := Lib.hid ⟨HB2.out.os, HB2.out.tape, HB2.out.output, (by have := HB2.out.size; simpa [World.setRow] using this), fun i hi => (setRow_other W2 (g0 + 1) i _ (by have := HG0.out; omega)).trans (HB2.out.block i hi)⟩
  obtain ⟨W3, gW3⟩ : ∃ x, W2.setRow (g0 + 1) (opCells ⟨0, 0, 0, o.s1, o.n1, 0, 0, o.a0, o.a1, o.a2, o.a3, o.a4, o.b0, o.b1, o.b2, o.b3, o.b4, o.e, o.t, o.m⟩).toArray = x := ⟨_, rfl⟩
  rw [gW3] at HR3 HB3 ⊢
  clear gW3
  go_wp2
  exact bodyPost_ret (v := .agg (opCells ⟨0, 0, 0, o.s1, o.n1, 0, 0, o.a0, o.a1, o.a2, o.a3, o.a4, o.b0, o.b1, o.b2, o.b3, o.b4, o.e, o.t, o.m⟩).toArray) (results_cell_row Try.results83 _ W3 (g0 + 1) 53 (opCells ⟨0, 0, 0, o.s1, o.n1, 0, 0, o.a0, o.a1, o.a2, o.a3, o.a4, o.b0, o.b1, o.b2, o.b3, o.b4, o.e, o.t, o.m⟩).toArray (0, 0) _ (by rfl) HR3.out Try.underlying53 rfl (by kernel_rfl)) rfl ⟨rfl, HB3.out⟩
set_option maxRecDepth 100000 in
set_option maxHeartbeats 2000000 in
theorem rest_7 (o : OpT) (hk : o.k = 7) (w : World) : Calls Try.prog 83 #[.agg (opCells o).toArray] w fun e w' => e = .returned (.agg (opCells ⟨0, 0, 0, o.s1, o.n1, o.s2, o.n2, o.a0, o.a1, o.a2, o.a3, o.a4, o.b0, o.b1, o.b2, o.b3, o.b4, false, ⟨#[]⟩, o.m⟩).toArray) ∧ Below w.heap.size w w' := by
  obtain ⟨k, s, n, s1, n1, s2, n2, a0, a1, a2, a3, a4, b0, b1, b2, b3, b4, e, t, m⟩ := o
  obtain rfl : k = 7 := hk
  obtain ⟨o, go⟩ : ∃ o : OpT, o = ⟨7, s, n, s1, n1, s2, n2, a0, a1, a2, a3, a4, b0, b1, b2, b3, b4, e, t, m⟩ := ⟨_, rfl⟩
  have q : o.k = 7 := by rw [go]
  rw [show (⟨0, 0, 0, s1, n1, s2, n2, a0, a1, a2, a3, a4, b0, b1, b2, b3, b4, false, ⟨#[]⟩, m⟩ : OpT) = ⟨0, 0, 0, o.s1, o.n1, o.s2, o.n2, o.a0, o.a1, o.a2, o.a3, o.a4, o.b0, o.b1, o.b2, o.b3, o.b4, false, ⟨#[]⟩, o.m⟩ from by rw [go]]
  rw [← go]
  clear go
  go_enter Try.func83, Try.ntmps83
  go_upto_region 1 with fail
  obtain ⟨W1, gW1⟩ : ∃ x, (w.alloc (.cells (opCells o).toArray 53)).alloc (.cells #[.int .i64 0, .int .i64 0, .int .i64 0, .int .i64 0, .int .i64 0, .int .i64 0, .int .i64 0, .int .i64 0, .int .i64 0, .int .i64 0, .int .i64 0, .int .i64 0, .int .i64 0, .int .i64 0, .int .i64 0, .int .i64 0, .int .i64 0, .bool false, .string ⟨#[]⟩, .int .i64 0] 53) = x := ⟨_, rfl⟩
  have HO : RowKit.Hid (Whole W1 w.heap.size 53 (opCells o)) := Lib.hid (by rw [← gW1]; exact (Whole.new_ w _ _).alloc _)
  have HR : RowKit.Hid (Whole W1 (w.heap.size + 1) 53 [.int .i64 0, .int .i64 0, .int .i64 0, .int .i64 0, .int .i64 0, .int .i64 0, .int .i64 0, .int .i64 0, .int .i64 0, .int .i64 0, .int .i64 0, .int .i64 0, .int .i64 0, .int .i64 0, .int .i64 0, .int .i64 0, .int .i64 0, .bool false, .string ⟨#[]⟩, .int .i64 0]) := Lib.hid (by rw [← gW1]; exact Whole.new2 (cs := [.int .i64 0, .int .i64 0, .int .i64 0, .int .i64 0, .int .i64 0, .int .i64 0, .int .i64 0, .int .i64 0, .int .i64 0, .int .i64 0, .int .i64 0, .int .i64 0, .int .i64 0, .int .i64 0, .int .i64 0, .int .i64 0, .int .i64 0, .bool false, .string ⟨#[]⟩, .int .i64 0]) (by simp))
  have HB : RowKit.Hid (Below w.heap.size w W1) := Lib.hid (by rw [← gW1]; exact below2 _ _ _)
  rw [gW1]
  clear gW1
  obtain ⟨g0, gg0⟩ : ∃ x, w.heap.size = x := ⟨_, rfl⟩
  rw [gg0] at HO HR ⊢
  have HG0 : RowKit.Hid (w.heap.size ≤ g0) := Lib.hid (by omega)
  clear gg0
  have l17 : W1.cell? ⟨g0, 17, none⟩ = some (.bool o.e) := HO.out.cell (i := 17) rfl
  have z17 := HO.out.free 17
  have l18 : W1.cell? ⟨g0, 18, none⟩ = some (.string o.t) := HO.out.cell (i := 18) rfl
  have z18 := HO.out.free 18
  have l0 : W1.cell? ⟨g0, 0, none⟩ = some (.int .i64 o.k) := HO.out.cell (i := 0) rfl
  have z0 := HO.out.free 0
  have l1 : W1.cell? ⟨g0, 1, none⟩ = some (.int .i64 o.s) := HO.out.cell (i := 1) rfl
  have z1 := HO.out.free 1
  have l2 : W1.cell? ⟨g0, 2, none⟩ = some (.int .i64 o.n) := HO.out.cell (i := 2) rfl
  have z2 := HO.out.free 2
  go_upto_region 19 with fail
  clear l17 z17 l18 z18 l0 z0 l1 z1 l2 z2
  obtain ⟨W2, gW2⟩ : ∃ x, ((((((((((W1).setCell ⟨g0, 17, none⟩ (.bool false))).setCell ⟨g0, 18, none⟩ (.string ⟨#[]⟩))).setCell ⟨g0, 0, none⟩ (.int .i64 0))).setCell ⟨g0, 1, none⟩ (.int .i64 0))).setCell ⟨g0, 2, none⟩ (.int .i64 0)) = x := ⟨_, rfl⟩
  have HO2 : RowKit.Hid (Whole W2 g0 53 (opCells ⟨0, 0, 0, o.s1, o.n1, o.s2, o.n2, o.a0, o.a1, o.a2, o.a3, o.a4, o.b0, o.b1, o.b2, o.b3, o.b4, false, ⟨#[]⟩, o.m⟩)) := Lib.hid (gW2 ▸ (((((HO.out.set_ 17 _).set_ 18 _).set_ 0 _).set_ 1 _).set_ 2 _))
  have HR2 : RowKit.Hid (Whole W2 (g0 + 1) 53 [.int .i64 0, .int .i64 0, .int .i64 0, .int .i64 0, .int .i64 0, .int .i64 0, .int .i64 0, .int .i64 0, .int .i64 0, .int .i64 0, .int .i64 0, .int .i64 0, .int .i64 0, .int .i64 0, .int .i64 0, .int .i64 0, .int .i64 0, .bool false, .string ⟨#[]⟩, .int .i64 0]) := Lib.hid (gW2 ▸ (((((HR.out.far (by show g0 + 1 ≠ g0; omega) _).far (by show g0 + 1 ≠ g0; omega) _).far (by show g0 + 1 ≠ g0; omega) _).far (by show g0 + 1 ≠ g0; omega) _).far (by show g0 + 1 ≠ g0; omega) _))
  have HB2 : RowKit.Hid (Below w.heap.size w W2) := Lib.hid (gW2 ▸ (((((HB.out.setCell (by show w.heap.size ≤ g0; exact HG0.out) _).setCell (by show w.heap.size ≤ g0; exact HG0.out) _).setCell (by show w.heap.size ≤ g0; exact HG0.out) _).setCell (by show w.heap.size ≤ g0; exact HG0.out) _).setCell (by show w.heap.size ≤ g0; exact HG0.out) _))
  rw [gW2]
  clear gW2
  refine wp_region_lit ?_
  refine wpList_load_row rfl 53 (.tmp 1) rfl g0 rfl 53 (opCells ⟨0, 0, 0, o.s1, o.n1, o.s2, o.n2, o.a0, o.a1, o.a2, o.a3, o.a4, o.b0, o.b1, o.b2, o.b3, o.b4, false, ⟨#[]⟩, o.m⟩).toArray (0, 0) _ HO2.out Try.underlying53 rfl (by kernel_rfl) ?_
  simp only [Act.put, stA_, st0_, st1_]
  refine wpList_store_row rfl 53 (.tmp 2) (.tmp 33) rfl (g0 + 1) (opCells ⟨0, 0, 0, o.s1, o.n1, o.s2, o.n2, o.a0, o.a1, o.a2, o.a3, o.a4, o.b0, o.b1, o.b2, o.b3, o.b4, false, ⟨#[]⟩, o.m⟩).toArray rfl rfl 53 #[.int .i64 0, .int .i64 0, .int .i64 0, .int .i64 0, .int .i64 0, .int .i64 0, .int .i64 0, .int .i64 0, .int .i64 0, .int .i64 0, .int .i64 0, .int .i64 0, .int .i64 0, .int .i64 0, .int .i64 0, .int .i64 0, .int .i64 0, .bool false, .string ⟨#[]⟩, .int .i64 0] HR2.out (by kernel_rfl) rfl (by simp [opCells, Value.oneCell']) ?_
  have HR3 : RowKit.Hid (Whole (W2.setRow (g0 + 1) (opCells ⟨0, 0, 0, o.s1, o.n1, o.s2, o.n2, o.a0, o.a1, o.a2, o.a3, o.a4, o.b0, o.b1, o.b2, o.b3, o.b4, false, ⟨#[]⟩, o.m⟩).toArray) (g0 + 1) 53 (opCells ⟨0, 0, 0, o.s1, o.n1, o.s2, o.n2, o.a0, o.a1, o.a2, o.a3, o.a4, o.b0, o.b1, o.b2, o.b3, o.b4, false, ⟨#[]⟩, o.m⟩)) := Lib.hid (setRow_heap W2 (g0 + 1) _ _ _ _ HR2.out)
  have HB3 : RowKit.Hid (Below w.heap.size w (W2.setRow (g0 + 1) (opCells ⟨0, 0, 0, o.s1, o.n1, o.s2, o.n2, o.a0, o.a1, o.a2, o.a3, o.a4, o.b0, o.b1, o.b2, o.b3, o.b4, false, ⟨#[]⟩, o.m⟩).toArray)) := Lib.hid ⟨HB2.out.os, HB2.out.tape, HB2.out.output, (by have := HB2.out.size; simpa [World.setRow] using this), fun i hi => (setRow_other W2 (g0 + 1) i _ (by have := HG0.out; omega)).trans (HB2.out.block i hi)⟩
  obtain ⟨W3, gW3⟩ : ∃ x, W2.setRow (g0 + 1) (opCells ⟨0, 0, 0, o.s1, o.n1, o.s2, o.n2, o.a0, o.a1, o.a2, o.a3, o.a4, o.b0, o.b1, o.b2, o.b3, o.b4, false, ⟨#[]⟩, o.m⟩).toArray = x := ⟨_, rfl⟩
  rw [gW3] at HR3 HB3 ⊢
  clear gW3
  go_wp2
  exact bodyPost_ret (v := .agg (opCells ⟨0, 0, 0, o.s1, o.n1, o.s2, o.n2, o.a0, o.a1, o.a2, o.a3, o.a4, o.b0, o.b1, o.b2, o.b3, o.b4, false, ⟨#[]⟩, o.m⟩).toArray) (results_cell_row Try.results83 _ W3 (g0 + 1) 53 (opCells ⟨0, 0, 0, o.s1, o.n1, o.s2, o.n2, o.a0, o.a1, o.a2, o.a3, o.a4, o.b0, o.b1, o.b2, o.b3, o.b4, false, ⟨#[]⟩, o.m⟩).toArray (0, 0) _ (by rfl) HR3.out Try.underlying53 rfl (by kernel_rfl)) rfl ⟨rfl, HB3.out⟩
set_option maxRecDepth 100000 in
set_option maxHeartbeats 2000000 in
theorem rest_8 (o : OpT) (hk : o.k = 8) (w : World) : Calls Try.prog 83 #[.agg (opCells o).toArray] w fun e w' => e = .returned (.agg (opCells ⟨0, 0, 0, o.s1, o.n1, o.s2, o.n2, o.a0, o.a1, o.a2, o.a3, o.a4, o.b0, o.b1, o.b2, o.b3, o.b4, false, o.t, 0⟩).toArray) ∧ Below w.heap.size w w' := by
  obtain ⟨k, s, n, s1, n1, s2, n2, a0, a1, a2, a3, a4, b0, b1, b2, b3, b4, e, t, m⟩ := o
  obtain rfl : k = 8 := hk
  obtain ⟨o, go⟩ : ∃ o : OpT, o = ⟨8, s, n, s1, n1, s2, n2, a0, a1, a2, a3, a4, b0, b1, b2, b3, b4, e, t, m⟩ := ⟨_, rfl⟩
  have q : o.k = 8 := by rw [go]
  rw [show (⟨0, 0, 0, s1, n1, s2, n2, a0, a1, a2, a3, a4, b0, b1, b2, b3, b4, false, t, 0⟩ : OpT) = ⟨0, 0, 0, o.s1, o.n1, o.s2, o.n2, o.a0, o.a1, o.a2, o.a3, o.a4, o.b0, o.b1, o.b2, o.b3, o.b4, false, o.t, 0⟩ from by rw [go]]
  rw [← go]
  clear go
  go_enter Try.func83, Try.ntmps83
  go_upto_region 1 with fail
  obtain ⟨W1, gW1⟩ : ∃ x, (w.alloc (.cells (opCells o).toArray 53)).alloc (.cells #[.int .i64 0, .int .i64 0, .int .i64 0, .int .i64 0, .int .i64 0, .int .i64 0, .int .i64 0, .int .i64 0, .int .i64 0, .int .i64 0, .int .i64 0, .int .i64 0, .int .i64 0, .int .i64 0, .int .i64 0, .int .i64 0, .int .i64 0, .bool false, .string ⟨#[]⟩, .int .i64 0] 53) = x := ⟨_, rfl⟩
  have HO : RowKit.Hid (Whole W1 w.heap.size 53 (opCells o)) := Lib.hid (by rw [← gW1]; exact (Whole.new_ w _ _).alloc _)
  have HR : RowKit.Hid (Whole W1 (w.heap.size + 1) 53 [.int .i64 0, .int .i64 0, .int .i64 0, .int .i64 0, .int .i64 0, .int .i64 0, .int .i64 0, .int .i64 0, .int .i64 0, .int .i64 0, .int .i64 0, .int .i64 0, .int .i64 0, .int .i64 0, .int .i64 0, .int .i64 0, .int .i64 0, .bool false, .string ⟨#[]⟩, .int .i64 0]) := Lib.hid (by rw [← gW1]; exact Whole.new2 (cs := [.int .i64 0, .int .i64 0, .int .i64 0, .int .i64 0, .int .i64 0, .int .i64 0, .int .i64 0, .int .i64 0, .int .i64 0, .int .i64 0, .int .i64 0, .int .i64 0, .int .i64 0, .int .i64 0, .int .i64 0, .int .i64 0, .int .i64 0, .bool false, .string ⟨#[]⟩, .int .i64 0]) (by simp))
  have HB : RowKit.Hid (Below w.heap.size w W1) := Lib.hid (by rw [← gW1]; exact below2 _ _ _)
  rw [gW1]
  clear gW1
  obtain ⟨g0, gg0⟩ : ∃ x, w.heap.size = x := ⟨_, rfl⟩
  rw [gg0] at HO HR ⊢
  have HG0 : RowKit.Hid (w.heap.size ≤ g0) := Lib.hid (by omega)
  clear gg0
  have l17 : W1.cell? ⟨g0, 17, none⟩ = some (.bool o.e) := HO.out.cell (i := 17) rfl
  have z17 := HO.out.free 17
  have l19 : W1.cell? ⟨g0, 19, none⟩ = some (.int .i64 o.m) := HO.out.cell (i := 19) rfl
  have z19 := HO.out.free 19
  have l0 : W1.cell? ⟨g0, 0, none⟩ = some (.int .i64 o.k) := HO.out.cell (i := 0) rfl
  have z0 := HO.out.free 0
  have l1 : W1.cell? ⟨g0, 1, none⟩ = some (.int .i64 o.s) := HO.out.cell (i := 1) rfl
  have z1 := HO.out.free 1
  have l2 : W1.cell? ⟨g0, 2, none⟩ = some (.int .i64 o.n) := HO.out.cell (i := 2) rfl
  have z2 := HO.out.free 2
  go_upto_region 19 with fail
  clear l17 z17 l19 z19 l0 z0 l1 z1 l2 z2
  obtain ⟨W2, gW2⟩ : ∃ x, ((((((((((W1).setCell ⟨g0, 17, none⟩ (.bool false))).setCell ⟨g0, 19, none⟩ (.int .i64 0))).setCell ⟨g0, 0, none⟩ (.int .i64 0))).setCell ⟨g0, 1, none⟩ (.int .i64 0))).setCell ⟨g0, 2, none⟩ (.int .i64 0)) = x := ⟨_, rfl⟩
  have HO2 : RowKit.Hid (Whole W2 g0 53 (opCells ⟨0, 0, 0, o.s1, o.n1, o.s2, o.n2, o.a0, o.a1, o.a2, o.a3, o.a4, o.b0, o.b1, o.b2, o.b3, o.b4, false, o.t, 0⟩)) := Lib.hid (gW2 ▸ (((((HO.out.set_ 17 _).set_ 19 _).set_ 0 _).set_ 1 _).set_ 2 _))
  have HR2 : RowKit.Hid (Whole W2 (g0 + 1) 53 [.int .i64 0, .int .i64 0, .int .i64 0, .int .i64 0, .int .i64 0, .int .i64 0, .int .i64 0, .int .i64 0, .int .i64 0, .int .i64 0, .int .i64 0, .int .i64 0, .int .i64 0, .int .i64 0, .int .i64 0, .int .i64 0, .int .i64 0, .bool false, .string ⟨#[]⟩, .int .i64 0]) := Lib.hid (gW2 ▸ (((((HR.out.far (by show g0 + 1 ≠ g0; omega) _).far (by show g0 + 1 ≠ g0; omega) _).far (by show g0 + 1 ≠ g0; omega) _).far (by show g0 + 1 ≠ g0; omega) _).far (by show g0 + 1 ≠ g0; omega) _))
  have HB2 : RowKit.Hid (Below w.heap.size w W2) := Lib.hid (gW2 ▸ (((((HB.out.setCell (by show w.heap.size ≤ g0; exact HG0.out) _).setCell (by show w.heap.size ≤ g0; exact HG0.out) _).setCell (by show w.heap.size ≤ g0; exact HG0.out) _).setCell (by show w.heap.size ≤ g0; exact HG0.out) _).setCell (by show w.heap.size ≤ g0; exact HG0.out) _))
  rw [gW2]
  clear gW2
  refine wp_region_lit ?_
  refine wpList_load_row rfl 53 (.tmp 1) rfl g0 rfl 53 (opCells ⟨0, 0, 0, o.s1, o.n1, o.s2, o.n2, o.a0, o.a1, o.a2, o.a3, o.a4, o.b0, o.b1, o.b2, o.b3, o.b4, false, o.t, 0⟩).toArray (0, 0) _ HO2.out Try.underlying53 rfl (by kernel_rfl) ?_
  simp only [Act.put, stA_, st0_, st1_]
  refine wpList_store_row rfl 53 (.tmp 2) (.tmp 33) rfl (g0 + 1) (opCells ⟨0, 0, 0, o.s1, o.n1, o.s2, o.n2, o.a0, o.a1, o.a2, o.a3, o.a4, o.b0, o.b1, o.b2, o.b3, o.b4, false, o.t, 0⟩).toArray rfl rfl 53 #[.int .i64 0, .int .i64 0, .int .i64 0, .int .i64 0, .int .i64 0, .int .i64 0, .int .i64 0, .int .i64 0, .int .i64 0, .int .i64 0, .int .i64 0, .int .i64 0, .int .i64 0, .int .i64 0, .int .i64 0, .int .i64 0, .int .i64 0, .bool false, .string ⟨#[]⟩, .int .i64 0] HR2.out (by kernel_rfl) rfl (by simp [opCells, Value.oneCell']) ?_
  have HR3 : RowKit.Hid (Whole (W2.setRow (g0 + 1) (opCells ⟨0, 0, 0, o.s1, o.n1, o.s2, o.n2, o.a0, o.a1, o.a2, o.a3, o.a4, o.b0, o.b1, o.b2, o.b3, o.b4, false, o.t, 0⟩).toArray) (g0 + 1) 53 (opCells ⟨0, 0, 0, o.s1, o.n1, o.s2, o.n2, o.a0, o.a1, o.a2, o.a3, o.a4, o.b0, o.b1, o.b2, o.b3, o.b4, false, o.t, 0⟩)) := Lib.hid (setRow_heap W2 (g0 + 1) _ _ _ _ HR2.out)
  have HB3 : RowKit.Hid (Below w.heap.size w (W2.setRow (g0 + 1) (opCells ⟨0, 0, 0, o.s1, o.n1, o.s2, o.n2, o.a0, o.a1, o.a2, o.a3, o.a4, o.b0, o.b1, o.b2, o.b3, o.b4, false, o.t, 0⟩).toArray)) := Lib.hid ⟨HB2.out.os, HB2.out.tape, HB2.out.output, (by have := HB2.out.size; simpa [World.setRow] using this), fun i hi => (setRow_other W2 (g0 + 1) i _ (by have := HG0.out; omega)).trans (HB2.out.block i hi)⟩
  obtain ⟨W3, gW3⟩ : ∃ x, W2.setRow (g0 + 1) (opCells ⟨0, 0, 0, o.s1, o.n1, o.s2, o.n2, o.a0, o.a1, o.a2, o.a3, o.a4, o.b0, o.b1, o.b2, o.b3, o.b4, false, o.t, 0⟩).toArray = x := ⟨_, rfl⟩
  rw [gW3] at HR3 HB3 ⊢
  clear gW3
  go_wp2
  exact bodyPost_ret (v := .agg (opCells ⟨0, 0, 0, o.s1, o.n1, o.s2, o.n2, o.a0, o.a1, o.a2, o.a3, o.a4, o.b0, o.b1, o.b2, o.b3, o.b4, false, o.t, 0⟩).toArray) (results_cell_row Try.results83 _ W3 (g0 + 1) 53 (opCells ⟨0, 0, 0, o.s1, o.n1, o.s2, o.n2, o.a0, o.a1, o.a2, o.a3, o.a4, o.b0, o.b1, o.b2, o.b3, o.b4, false, o.t, 0⟩).toArray (0, 0) _ (by rfl) HR3.out Try.underlying53 rfl (by kernel_rfl)) rfl ⟨rfl, HB3.out⟩
theorem rest_any (o : OpT) : Pure 83 #[.agg (opCells o).toArray] (.agg (opCells (restO o)).toArray) := fun w => by
  unfold restO
  by_cases k3 : o.k = 3
  · rw [if_pos k3]
    exact rest_3 o k3 w
  have q3 : (o.k == 3) = false := by simpa using k3
  rw [if_neg k3]
  by_cases k5 : o.k = 5
  · rw [if_pos k5]
    exact rest_5 o k5 w
  have q5 : (o.k == 5) = false := by simpa using k5
  rw [if_neg k5]
  by_cases k6 : o.k = 6
  · rw [if_pos k6]
    exact rest_6 o k6 w
  have q6 : (o.k == 6) = false := by simpa using k6
  rw [if_neg k6]
  by_cases k7 : o.k = 7
  · rw [if_pos k7]
    exact rest_7 o k7 w
  have q7 : (o.k == 7) = false := by simpa using k7
  rw [if_neg k7]
  by_cases k8 : o.k = 8
  · rw [if_pos k8]
    exact rest_8 o k8 w
  have q8 : (o.k == 8) = false := by simpa using k8
  rw [if_neg k8]
  exact rest_0 o q3 q5 q6 q7 q8 w
end Go.Proofs.Ytinfbaflkjghhaa
/- The contract of the document's own MayDart. -/
namespace Go.Proofs.Ytinfbaflkjghhaa
open Go.RowKit
theorem rmaydart_may (s n c : Int) (w : World) (h : mayI s n = true) :
    Calls Try.prog 101 #[.agg #[.int .i64 s, .int .i64 n, .int .i64 c]] w fun e w' => e = .returned (.bool (decide (c = 0) || decide (c = 1))) ∧ Below w.heap.size w w' := by
  have hm := rmay_any s n
  rw [h] at hm
  have H := Lib.hid hm
  clear hm h
  by_cases c0 : c = 0
  · subst c0
    go_enter Try.func101, Try.ntmps101
    go_wp2_with (first | (go_at_call 82; refine (H.out _).mono ?_; rintro e w' ⟨rfl, hb⟩; obtain ⟨hc, hf⟩ := bcell hb))
    go_ret
    exact ⟨rfl, below_after1 hb⟩
  · have h0 : (c == 0) = false := by simpa using c0
    by_cases c1 : c = 1
    · subst c1
      go_enter Try.func101, Try.ntmps101
      go_wp2_with (first | (go_at_call 82; refine (H.out _).mono ?_; rintro e w' ⟨rfl, hb⟩; obtain ⟨hc, hf⟩ := bcell hb))
      go_ret
      exact ⟨rfl, below_after1 hb⟩
    · have h1 : (c == 1) = false := by simpa using c1
      have hr : (decide (c = 0) || decide (c = 1)) = false := by simp [c0, c1]
      rw [hr]
      clear hr
      go_enter Try.func101, Try.ntmps101
      go_wp2_with (first | (go_at_call 82; refine (H.out _).mono ?_; rintro e w' ⟨rfl, hb⟩; obtain ⟨hc, hf⟩ := bcell hb))
      go_ret
      exact ⟨rfl, below_after1 hb⟩
theorem rmaydart_not (s n c : Int) (w : World) (h : mayI s n = false) :
    Calls Try.prog 101 #[.agg #[.int .i64 s, .int .i64 n, .int .i64 c]] w fun e w' => e = .returned (.bool false) ∧ Below w.heap.size w w' := by
  have hm := rmay_any s n
  rw [h] at hm
  have H := Lib.hid hm
  clear hm h
  go_enter Try.func101, Try.ntmps101
  go_wp2_with (first | (go_at_call 82; refine (H.out _).mono ?_; rintro e w' ⟨rfl, hb⟩; obtain ⟨hc, hf⟩ := bcell hb))
  go_ret
  exact ⟨rfl, below_after1 hb⟩
theorem rmaydart_any (s n c : Int) : Pure 101 #[.agg #[.int .i64 s, .int .i64 n, .int .i64 c]] (.bool (mayD s n c)) := fun w => by
  unfold mayD
  cases h : mayI s n
  · exact rmaydart_not s n c w h
  · exact rmaydart_may s n c w h
end Go.Proofs.Ytinfbaflkjghhaa
/- The contracts of the document's own corner, MayAttr, May for operations. -/
namespace Go.Proofs.Ytinfbaflkjghhaa
open Go.RowKit
theorem rmayattr_any (n : Int) : Pure 85 #[.int .i64 n] (.bool (mayAt n)) := fun w => by
  unfold mayAt
  by_cases h1 : -1099511627776 ≤ n
  · by_cases h2 : n ≤ 1099511627776
    · rw [decide_eq_true ⟨h1, h2⟩]
      go_enter Try.func85, Try.ntmps85
      go_wp2
      go_ret
      exact ⟨rfl, Below.refl _ _⟩
    · rw [decide_eq_false (fun h => h2 h.2)]
      go_enter Try.func85, Try.ntmps85
      go_wp2
      go_ret
      exact ⟨rfl, Below.refl _ _⟩
  · rw [decide_eq_false (fun h => h1 h.1)]
    go_enter Try.func85, Try.ntmps85
    go_wp2
    go_ret
    exact ⟨rfl, Below.refl _ _⟩
theorem rcorner_any (a0 a1 a2 a3 a4 : Int) : Pure 84 #[.agg #[.int .i64 a0, .int .i64 a1, .int .i64 a2, .int .i64 a3, .int .i64 a4]] (.bool (mayC a0 a1 a2 a3 a4)) := fun w => by
  unfold mayC
  have hq := eq_dartz_run a2 a3 a4
  have HM := Lib.hid (rmay_any a0 a1)
  have HD := Lib.hid (rmaydart_any a2 a3 a4)
  by_cases hz : a2 = 0 ∧ a3 = 0 ∧ a4 = 0
  all_goals
    first | rw [decide_eq_true hz] at hq ⊢ | rw [decide_eq_false hz] at hq ⊢
    obtain ⟨V, gV⟩ : ∃ x, mayI a0 a1 = x := ⟨_, rfl⟩
    obtain ⟨D, gD⟩ : ∃ x, mayD a2 a3 a4 = x := ⟨_, rfl⟩
    rw [gV] at HM ⊢
    rw [gD] at HD ⊢
    clear gV gD hz
    cases V <;> cases D
    all_goals
      go_enter Try.func84, Try.ntmps84
      go_wp2_with (first
        | (go_at_call 82; refine (HM.out _).mono ?_; rintro e w' ⟨rfl, hb⟩; obtain ⟨hc, hf⟩ := bcell hb; have hz1 : w.heap.size < w'.heap.size := by have := hb.size; simp at this; omega)
        | (go_at_call 101; refine (HD.out _).mono ?_; rintro e w'' ⟨rfl, hb2⟩; obtain ⟨hc2, hf2⟩ := bcell hb2))
      go_ret
      exact ⟨by simp, (below_after1 hb).trans (hb2.mono (below_after1 hb).size)⟩
def zeroO : OpT := ⟨0, 0, 0, 0, 0, 0, 0, 0, 0, 0, 0, 0, 0, 0, 0, 0, 0, false, ⟨#[]⟩, 0⟩
theorem opCells_zero : (opCells zeroO).toArray = #[.int .i64 0, .int .i64 0, .int .i64 0, .int .i64 0, .int .i64 0, .int .i64 0, .int .i64 0, .int .i64 0, .int .i64 0, .int .i64 0, .int .i64 0, .int .i64 0, .int .i64 0, .int .i64 0, .int .i64 0, .int .i64 0, .int .i64 0, .bool false, .string ⟨#[]⟩, .int .i64 0] := rfl
set_option maxRecDepth 100000 in
set_option maxHeartbeats 2000000 in
theorem rm_lo (o : OpT) (h0 : decide (o.k < 1) = true) (w : World) : Calls Try.prog 67 #[.agg (opCells o).toArray] w fun e w' => e = .returned (.int .i64 1) ∧ Below w.heap.size w w' := by
  go_enter Try.func67, Try.ntmps67
  go_upto_region 1 with fail
  obtain ⟨W1, gW1⟩ : ∃ x, w.alloc (.cells (opCells o).toArray 53) = x := ⟨_, rfl⟩
  have HO : RowKit.Hid (Whole W1 w.heap.size 53 (opCells o)) := Lib.hid (by rw [← gW1]; exact Whole.new_ w _ _)
  have HB : RowKit.Hid (Below w.heap.size w W1) := Lib.hid (by rw [← gW1]; exact below1 _ _)
  rw [gW1]
  clear gW1
  obtain ⟨g0, gg0⟩ : ∃ x, w.heap.size = x := ⟨_, rfl⟩
  rw [gg0] at HO ⊢
  clear gg0
  have lw1 : W1.cell? ⟨g0, 1, none⟩ = some (.int .i64 o.s) := HO.out.cell (i := 1) rfl
  have lw2 : W1.cell? ⟨g0, 2, none⟩ = some (.int .i64 o.n) := HO.out.cell (i := 2) rfl
  go_wp2_with fail
  clear lw1 lw2
  refine (rmay_any o.s o.n _).mono ?_
  rintro e w3 ⟨rfl, hb3⟩
  have O_4 := Lib.hid (HO.out.bl hb3)
  have Bel_4 := Lib.hid (bel_bl HB.out hb3)
  clear hb3
  have lw5 : w3.cell? ⟨g0, 0, none⟩ = some (.int .i64 o.k) := O_4.out.cell (i := 0) rfl
  go_wp2
  go_ret
  exact ⟨rfl, Bel_4.out⟩
set_option maxRecDepth 100000 in
set_option maxHeartbeats 2000000 in
theorem rm_hi (o : OpT) (h0 : decide (o.k < 1) = false) (h9 : decide (8 < o.k) = true) (w : World) : Calls Try.prog 67 #[.agg (opCells o).toArray] w fun e w' => e = .returned (.int .i64 1) ∧ Below w.heap.size w w' := by
  go_enter Try.func67, Try.ntmps67
  go_upto_region 1 with fail
  obtain ⟨W1, gW1⟩ : ∃ x, w.alloc (.cells (opCells o).toArray 53) = x := ⟨_, rfl⟩
  have HO : RowKit.Hid (Whole W1 w.heap.size 53 (opCells o)) := Lib.hid (by rw [← gW1]; exact Whole.new_ w _ _)
  have HB : RowKit.Hid (Below w.heap.size w W1) := Lib.hid (by rw [← gW1]; exact below1 _ _)
  rw [gW1]
  clear gW1
  obtain ⟨g0, gg0⟩ : ∃ x, w.heap.size = x := ⟨_, rfl⟩
  rw [gg0] at HO ⊢
  clear gg0
  have lw1 : W1.cell? ⟨g0, 1, none⟩ = some (.int .i64 o.s) := HO.out.cell (i := 1) rfl
  have lw2 : W1.cell? ⟨g0, 2, none⟩ = some (.int .i64 o.n) := HO.out.cell (i := 2) rfl
  go_wp2_with fail
  clear lw1 lw2
  refine (rmay_any o.s o.n _).mono ?_
  rintro e w3 ⟨rfl, hb3⟩
  have O_4 := Lib.hid (HO.out.bl hb3)
  have Bel_4 := Lib.hid (bel_bl HB.out hb3)
  clear hb3
  have lw5 : w3.cell? ⟨g0, 0, none⟩ = some (.int .i64 o.k) := O_4.out.cell (i := 0) rfl
  go_wp2
  go_ret
  exact ⟨rfl, Bel_4.out⟩
set_option maxRecDepth 100000 in
set_option maxHeartbeats 2000000 in
theorem rm_id (o : OpT) (h0 : decide (o.k < 1) = false) (h9 : decide (8 < o.k) = false) (h1 : mayI o.s o.n = false) (w : World) : Calls Try.prog 67 #[.agg (opCells o).toArray] w fun e w' => e = .returned (.int .i64 1) ∧ Below w.heap.size w w' := by
  go_enter Try.func67, Try.ntmps67
  go_upto_region 1 with fail
  obtain ⟨W1, gW1⟩ : ∃ x, w.alloc (.cells (opCells o).toArray 53) = x := ⟨_, rfl⟩
  have HO : RowKit.Hid (Whole W1 w.heap.size 53 (opCells o)) := Lib.hid (by rw [← gW1]; exact Whole.new_ w _ _)
  have HB : RowKit.Hid (Below w.heap.size w W1) := Lib.hid (by rw [← gW1]; exact below1 _ _)
  rw [gW1]
  clear gW1
  obtain ⟨g0, gg0⟩ : ∃ x, w.heap.size = x := ⟨_, rfl⟩
  rw [gg0] at HO ⊢
  clear gg0
  have lw1 : W1.cell? ⟨g0, 1, none⟩ = some (.int .i64 o.s) := HO.out.cell (i := 1) rfl
  have lw2 : W1.cell? ⟨g0, 2, none⟩ = some (.int .i64 o.n) := HO.out.cell (i := 2) rfl
  go_wp2_with fail
  clear lw1 lw2
  refine (rmay_any o.s o.n _).mono ?_
  rintro e w3 ⟨rfl, hb3⟩
  have O_4 := Lib.hid (HO.out.bl hb3)
  have Bel_4 := Lib.hid (bel_bl HB.out hb3)
  clear hb3
  have lw5 : w3.cell? ⟨g0, 0, none⟩ = some (.int .i64 o.k) := O_4.out.cell (i := 0) rfl
  go_wp2
  go_ret
  exact ⟨rfl, Bel_4.out⟩
set_option maxRecDepth 100000 in
set_option maxHeartbeats 2000000 in
theorem rm_rest (o : OpT) (h0 : decide (o.k < 1) = false) (h9 : decide (8 < o.k) = false) (h1 : mayI o.s o.n = true) (h2 : ¬ restO o = zeroO) (w : World) : Calls Try.prog 67 #[.agg (opCells o).toArray] w fun e w' => e = .returned (.int .i64 1) ∧ Below w.heap.size w w' := by
  have he : Try.prog.eqGuardType Try.prog.depth 53 = false := by kernel_rfl
  have hq := neq_op_run (restO o) zeroO
  rw [opCells_zero, decide_eq_false h2] at hq
  clear h2
  go_enter Try.func67, Try.ntmps67
  go_upto_region 1 with fail
  obtain ⟨W1, gW1⟩ : ∃ x, w.alloc (.cells (opCells o).toArray 53) = x := ⟨_, rfl⟩
  have HO : RowKit.Hid (Whole W1 w.heap.size 53 (opCells o)) := Lib.hid (by rw [← gW1]; exact Whole.new_ w _ _)
  have HB : RowKit.Hid (Below w.heap.size w W1) := Lib.hid (by rw [← gW1]; exact below1 _ _)
  rw [gW1]
  clear gW1
  obtain ⟨g0, gg0⟩ : ∃ x, w.heap.size = x := ⟨_, rfl⟩
  rw [gg0] at HO ⊢
  clear gg0
  have lw1 : W1.cell? ⟨g0, 1, none⟩ = some (.int .i64 o.s) := HO.out.cell (i := 1) rfl
  have lw2 : W1.cell? ⟨g0, 2, none⟩ = some (.int .i64 o.n) := HO.out.cell (i := 2) rfl
  go_wp2_with fail
  clear lw1 lw2
  refine (rmay_any o.s o.n _).mono ?_
  rintro e w3 ⟨rfl, hb3⟩
  have O_4 := Lib.hid (HO.out.bl hb3)
  have Bel_4 := Lib.hid (bel_bl HB.out hb3)
  clear hb3
  have lw5 : w3.cell? ⟨g0, 0, none⟩ = some (.int .i64 o.k) := O_4.out.cell (i := 0) rfl
  go_upto_region 2 with fail
  refine wp_region_lit ?_
  refine wl_read (v := ?_) (some 12) rfl (by rfl) ?_ ?_
  rotate_left
  · go_simp; (try with_reducible rfl)
  simp only [Act.put, stA_, st0_, st1_]
  refine wl_read (v := ?_) (some 13) rfl (by rfl) ?_ ?_
  rotate_left
  · go_simp; (try with_reducible rfl)
  simp only [Act.put, stA_, st0_, st1_]
  refine wl_read (v := ?_) (some 14) rfl (by rfl) ?_ ?_
  rotate_left
  · go_simp; (try with_reducible rfl)
  simp only [Act.put, stA_, st0_, st1_]
  refine wl_read (v := ?_) (some 15) rfl (by rfl) ?_ ?_
  rotate_left
  · go_simp; (try with_reducible rfl)
  simp only [Act.put, stA_, st0_, st1_]
  refine wl_read (v := ?_) (some 16) rfl (by rfl) ?_ ?_
  rotate_left
  · go_simp; (try with_reducible rfl)
  simp only [Act.put, stA_, st0_, st1_]
  refine wl_read (v := ?_) (some 17) rfl (by rfl) ?_ ?_
  rotate_left
  · go_simp; (try with_reducible rfl)
  simp only [Act.put, stA_, st0_, st1_]
  refine wl_read (v := ?_) (some 18) rfl (by rfl) ?_ ?_
  rotate_left
  · go_simp; (try with_reducible rfl)
  simp only [Act.put, stA_, st0_, st1_]
  refine wl_read (v := ?_) (some 19) rfl (by rfl) ?_ ?_
  rotate_left
  · go_simp; (try with_reducible rfl)
  simp only [Act.put, stA_, st0_, st1_]
  refine wl_read (v := ?_) (some 20) rfl (by rfl) ?_ ?_
  rotate_left
  · go_simp; (try with_reducible rfl)
  simp only [Act.put, stA_, st0_, st1_]
  refine wl_read (v := ?_) (some 21) rfl (by rfl) ?_ ?_
  rotate_left
  · go_simp; (try with_reducible rfl)
  simp only [Act.put, stA_, st0_, st1_]
  refine wl_read (v := ?_) (some 22) rfl (by rfl) ?_ ?_
  rotate_left
  · go_simp; (try with_reducible rfl)
  simp only [Act.put, stA_, st0_, st1_]
  refine wl_read (v := ?_) (some 23) rfl (by rfl) ?_ ?_
  rotate_left
  · go_simp; (try with_reducible rfl)
  simp only [Act.put, stA_, st0_, st1_]
  refine wl_read (v := ?_) (some 24) rfl (by rfl) ?_ ?_
  rotate_left
  · go_simp; (try with_reducible rfl)
  simp only [Act.put, stA_, st0_, st1_]
  refine wl_load (some 25) rfl (by rfl) 53 (.tmp 1) rfl g0 rfl 53 (opCells o) _ O_4.out Try.underlying53 rfl (by kernel_rfl) ?_
  simp only [Act.put, stA_, st0_, st1_]
  go_wp2_with fail
  clear lw5
  refine (rest_any o _).mono ?_
  rintro e w6 ⟨rfl, hb6⟩
  have O_7 := Lib.hid (O_4.out.bl hb6)
  have Bel_7 := Lib.hid (bel_bl Bel_4.out hb6)
  clear hb6
  have lw8 : w6.cell? ⟨g0, 0, none⟩ = some (.int .i64 o.k) := O_7.out.cell (i := 0) rfl
  go_wp2
  go_ret
  exact ⟨rfl, Bel_7.out⟩
set_option maxRecDepth 100000 in
set_option maxHeartbeats 2000000 in
theorem rm_3n (o : OpT) (h0 : decide (o.k < 1) = false) (h9 : decide (8 < o.k) = false) (h1 : mayI o.s o.n = true) (h2 : restO o = zeroO) (hk : o.k = 3) (h3 : mayC o.a0 o.a1 o.a2 o.a3 o.a4 = false) (w : World) : Calls Try.prog 67 #[.agg (opCells o).toArray] w fun e w' => e = .returned (.int .i64 1) ∧ Below w.heap.size w w' := by
  have he : Try.prog.eqGuardType Try.prog.depth 53 = false := by kernel_rfl
  have hq := neq_op_run (restO o) zeroO
  rw [opCells_zero, decide_eq_true h2] at hq
  clear h2
  have q3 : (o.k == 3) = true := by rw [hk]; decide
  have q5 : (o.k == 5) = false := by rw [hk]; decide
  have q6 : (o.k == 6) = false := by rw [hk]; decide
  have q7 : (o.k == 7) = false := by rw [hk]; decide
  have q8 : (o.k == 8) = false := by rw [hk]; decide
  clear hk
  go_enter Try.func67, Try.ntmps67
  go_upto_region 1 with fail
  obtain ⟨W1, gW1⟩ : ∃ x, w.alloc (.cells (opCells o).toArray 53) = x := ⟨_, rfl⟩
  have HO : RowKit.Hid (Whole W1 w.heap.size 53 (opCells o)) := Lib.hid (by rw [← gW1]; exact Whole.new_ w _ _)
  have HB : RowKit.Hid (Below w.heap.size w W1) := Lib.hid (by rw [← gW1]; exact below1 _ _)
  rw [gW1]
  clear gW1
  obtain ⟨g0, gg0⟩ : ∃ x, w.heap.size = x := ⟨_, rfl⟩
  rw [gg0] at HO ⊢
  clear gg0
  have lw1 : W1.cell? ⟨g0, 1, none⟩ = some (.int .i64 o.s) := HO.out.cell (i := 1) rfl
  have lw2 : W1.cell? ⟨g0, 2, none⟩ = some (.int .i64 o.n) := HO.out.cell (i := 2) rfl
  go_wp2_with fail
  clear lw1 lw2
  refine (rmay_any o.s o.n _).mono ?_
  rintro e w3 ⟨rfl, hb3⟩
  have O_4 := Lib.hid (HO.out.bl hb3)
  have Bel_4 := Lib.hid (bel_bl HB.out hb3)
  clear hb3
  have lw5 : w3.cell? ⟨g0, 0, none⟩ = some (.int .i64 o.k) := O_4.out.cell (i := 0) rfl
  go_upto_region 2 with fail
  refine wp_region_lit ?_
  refine wl_read (v := ?_) (some 12) rfl (by rfl) ?_ ?_
  rotate_left
  · go_simp; (try with_reducible rfl)
  simp only [Act.put, stA_, st0_, st1_]
  refine wl_read (v := ?_) (some 13) rfl (by rfl) ?_ ?_
  rotate_left
  · go_simp; (try with_reducible rfl)
  simp only [Act.put, stA_, st0_, st1_]
  refine wl_read (v := ?_) (some 14) rfl (by rfl) ?_ ?_
  rotate_left
  · go_simp; (try with_reducible rfl)
  simp only [Act.put, stA_, st0_, st1_]
  refine wl_read (v := ?_) (some 15) rfl (by rfl) ?_ ?_
  rotate_left
  · go_simp; (try with_reducible rfl)
  simp only [Act.put, stA_, st0_, st1_]
  refine wl_read (v := ?_) (some 16) rfl (by rfl) ?_ ?_
  rotate_left
  · go_simp; (try with_reducible rfl)
  simp only [Act.put, stA_, st0_, st1_]
  refine wl_read (v := ?_) (some 17) rfl (by rfl) ?_ ?_
  rotate_left
  · go_simp; (try with_reducible rfl)
  simp only [Act.put, stA_, st0_, st1_]
  refine wl_read (v := ?_) (some 18) rfl (by rfl) ?_ ?_
  rotate_left
  · go_simp; (try with_reducible rfl)
  simp only [Act.put, stA_, st0_, st1_]
  refine wl_read (v := ?_) (some 19) rfl (by rfl) ?_ ?_
  rotate_left
  · go_simp; (try with_reducible rfl)
  simp only [Act.put, stA_, st0_, st1_]
  refine wl_read (v := ?_) (some 20) rfl (by rfl) ?_ ?_
  rotate_left
  · go_simp; (try with_reducible rfl)
  simp only [Act.put, stA_, st0_, st1_]
  refine wl_read (v := ?_) (some 21) rfl (by rfl) ?_ ?_
  rotate_left
  · go_simp; (try with_reducible rfl)
  simp only [Act.put, stA_, st0_, st1_]
  refine wl_read (v := ?_) (some 22) rfl (by rfl) ?_ ?_
  rotate_left
  · go_simp; (try with_reducible rfl)
  simp only [Act.put, stA_, st0_, st1_]
  refine wl_read (v := ?_) (some 23) rfl (by rfl) ?_ ?_
  rotate_left
  · go_simp; (try with_reducible rfl)
  simp only [Act.put, stA_, st0_, st1_]
  refine wl_read (v := ?_) (some 24) rfl (by rfl) ?_ ?_
  rotate_left
  · go_simp; (try with_reducible rfl)
  simp only [Act.put, stA_, st0_, st1_]
  refine wl_load (some 25) rfl (by rfl) 53 (.tmp 1) rfl g0 rfl 53 (opCells o) _ O_4.out Try.underlying53 rfl (by kernel_rfl) ?_
  simp only [Act.put, stA_, st0_, st1_]
  go_wp2_with fail
  clear lw5
  refine (rest_any o _).mono ?_
  rintro e w6 ⟨rfl, hb6⟩
  have O_7 := Lib.hid (O_4.out.bl hb6)
  have Bel_7 := Lib.hid (bel_bl Bel_4.out hb6)
  clear hb6
  have lw8 : w6.cell? ⟨g0, 0, none⟩ = some (.int .i64 o.k) := O_7.out.cell (i := 0) rfl
  have lw9 : w6.cell? ⟨g0, 7, none⟩ = some (.int .i64 o.a0) := O_7.out.cell (i := 7) rfl
  have lw10 : w6.cell? ⟨g0, 8, none⟩ = some (.int .i64 o.a1) := O_7.out.cell (i := 8) rfl
  have lw11 : w6.cell? ⟨g0, 9, none⟩ = some (.int .i64 o.a2) := O_7.out.cell (i := 9) rfl
  have lw12 : w6.cell? ⟨g0, 10, none⟩ = some (.int .i64 o.a3) := O_7.out.cell (i := 10) rfl
  have lw13 : w6.cell? ⟨g0, 11, none⟩ = some (.int .i64 o.a4) := O_7.out.cell (i := 11) rfl
  go_wp2_with fail
  clear lw8 lw9 lw10 lw11 lw12 lw13
  refine (rcorner_any o.a0 o.a1 o.a2 o.a3 o.a4 _).mono ?_
  rintro e w14 ⟨rfl, hb14⟩
  have O_15 := Lib.hid (O_7.out.bl hb14)
  have Bel_15 := Lib.hid (bel_bl Bel_7.out hb14)
  clear hb14
  have lw16 : w14.cell? ⟨g0, 0, none⟩ = some (.int .i64 o.k) := O_15.out.cell (i := 0) rfl
  have lw17 : w14.cell? ⟨g0, 12, none⟩ = some (.int .i64 o.b0) := O_15.out.cell (i := 12) rfl
  have lw18 : w14.cell? ⟨g0, 13, none⟩ = some (.int .i64 o.b1) := O_15.out.cell (i := 13) rfl
  have lw19 : w14.cell? ⟨g0, 14, none⟩ = some (.int .i64 o.b2) := O_15.out.cell (i := 14) rfl
  have lw20 : w14.cell? ⟨g0, 15, none⟩ = some (.int .i64 o.b3) := O_15.out.cell (i := 15) rfl
  have lw21 : w14.cell? ⟨g0, 16, none⟩ = some (.int .i64 o.b4) := O_15.out.cell (i := 16) rfl
  go_wp2_with fail
  clear lw16 lw17 lw18 lw19 lw20 lw21
  refine (rcorner_any o.b0 o.b1 o.b2 o.b3 o.b4 _).mono ?_
  rintro e w22 ⟨rfl, hb22⟩
  have O_23 := Lib.hid (O_15.out.bl hb22)
  have Bel_23 := Lib.hid (bel_bl Bel_15.out hb22)
  clear hb22
  have lw24 : w22.cell? ⟨g0, 0, none⟩ = some (.int .i64 o.k) := O_23.out.cell (i := 0) rfl
  go_wp2
  go_ret
  exact ⟨rfl, Bel_23.out⟩
set_option maxRecDepth 100000 in
set_option maxHeartbeats 2000000 in
theorem rm_3m (o : OpT) (h0 : decide (o.k < 1) = false) (h9 : decide (8 < o.k) = false) (h1 : mayI o.s o.n = true) (h2 : restO o = zeroO) (hk : o.k = 3) (h3 : mayC o.a0 o.a1 o.a2 o.a3 o.a4 = true) (h4 : mayC o.b0 o.b1 o.b2 o.b3 o.b4 = false) (w : World) : Calls Try.prog 67 #[.agg (opCells o).toArray] w fun e w' => e = .returned (.int .i64 1) ∧ Below w.heap.size w w' := by
  have he : Try.prog.eqGuardType Try.prog.depth 53 = false := by kernel_rfl
  have hq := neq_op_run (restO o) zeroO
  rw [opCells_zero, decide_eq_true h2] at hq
  clear h2
  have q3 : (o.k == 3) = true := by rw [hk]; decide
  have q5 : (o.k == 5) = false := by rw [hk]; decide
  have q6 : (o.k == 6) = false := by rw [hk]; decide
  have q7 : (o.k == 7) = false := by rw [hk]; decide
  have q8 : (o.k == 8) = false := by rw [hk]; decide
  clear hk
  go_enter Try.func67, Try.ntmps67
  go_upto_region 1 with fail
  obtain ⟨W1, gW1⟩ : ∃ x, w.alloc (.cells (opCells o).toArray 53) = x := ⟨_, rfl⟩
  have HO : RowKit.Hid (Whole W1 w.heap.size 53 (opCells o)) := Lib.hid (by rw [← gW1]; exact Whole.new_ w _ _)
  have HB : RowKit.Hid (Below w.heap.size w W1) := Lib.hid (by rw [← gW1]; exact below1 _ _)
  rw [gW1]
  clear gW1
  obtain ⟨g0, gg0⟩ : ∃ x, w.heap.size = x := ⟨_, rfl⟩
  rw [gg0] at HO ⊢
  clear gg0
  have lw1 : W1.cell? ⟨g0, 1, none⟩ = some (.int .i64 o.s) := HO.out.cell (i := 1) rfl
  have lw2 : W1.cell? ⟨g0, 2, none⟩ = some (.int .i64 o.n) := HO.out.cell (i := 2) rfl
  go_wp2_with fail
  clear lw1 lw2
  refine (rmay_any o.s o.n _).mono ?_
  rintro e w3 ⟨rfl, hb3⟩
  have O_4 := Lib.hid (HO.out.bl hb3)
  have Bel_4 := Lib.hid (bel_bl HB.out hb3)
  clear hb3
  have lw5 : w3.cell? ⟨g0, 0, none⟩ = some (.int .i64 o.k) := O_4.out.cell (i := 0) rfl
  go_upto_region 2 with fail
  refine wp_region_lit ?_
  refine wl_read (v := ?_) (some 12) rfl (by rfl) ?_ ?_
  rotate_left
  · go_simp; (try with_reducible rfl)
  simp only [Act.put, stA_, st0_, st1_]
  refine wl_read (v := ?_) (some 13) rfl (by rfl) ?_ ?_
  rotate_left
  · go_simp; (try with_reducible rfl)
  simp only [Act.put, stA_, st0_, st1_]
  refine wl_read (v := ?_) (some 14) rfl (by rfl) ?_ ?_
  rotate_left
  · go_simp; (try with_reducible rfl)
  simp only [Act.put, stA_, st0_, st1_]
  refine wl_read (v := ?_) (some 15) rfl (by rfl) ?_ ?_
  rotate_left
  · go_simp; (try with_reducible rfl)
  simp only [Act.put, stA_, st0_, st1_]
  refine wl_read (v := ?_) (some 16) rfl (by rfl) ?_ ?_
  rotate_left
  · go_simp; (try with_reducible rfl)
  simp only [Act.put, stA_, st0_, st1_]
  refine wl_read (v := ?_) (some 17) rfl (by rfl) ?_ ?_
  rotate_left
  · go_simp; (try with_reducible rfl)
  simp only [Act.put, stA_, st0_, st1_]
  refine wl_read (v := ?_) (some 18) rfl (by rfl) ?_ ?_
  rotate_left
  · go_simp; (try with_reducible rfl)
  simp only [Act.put, stA_, st0_, st1_]
  refine wl_read (v := ?_) (some 19) rfl (by rfl) ?_ ?_
  rotate_left
  · go_simp; (try with_reducible rfl)
  simp only [Act.put, stA_, st0_, st1_]
  refine wl_read (v := ?_) (some 20) rfl (by rfl) ?_ ?_
  rotate_left
  · go_simp; (try with_reducible rfl)
  simp only [Act.put, stA_, st0_, st1_]
  refine wl_read (v := ?_) (some 21) rfl (by rfl) ?_ ?_
  rotate_left
  · go_simp; (try with_reducible rfl)
  simp only [Act.put, stA_, st0_, st1_]
  refine wl_read (v := ?_) (some 22) rfl (by rfl) ?_ ?_
  rotate_left
  · go_simp; (try with_reducible rfl)
  simp only [Act.put, stA_, st0_, st1_]
  refine wl_read (v := ?_) (some 23) rfl (by rfl) ?_ ?_
  rotate_left
  · go_simp; (try with_reducible rfl)
  simp only [Act.put, stA_, st0_, st1_]
  refine wl_read (v := ?_) (some 24) rfl (by rfl) ?_ ?_
  rotate_left
  · go_simp; (try with_reducible rfl)
  simp only [Act.put, stA_, st0_, st1_]
  refine wl_load (some 25) rfl (by rfl) 53 (.tmp 1) rfl g0 rfl 53 (opCells o) _ O_4.out Try.underlying53 rfl (by kernel_rfl) ?_
  simp only [Act.put, stA_, st0_, st1_]
  go_wp2_with fail
  clear lw5
  refine (rest_any o _).mono ?_
  rintro e w6 ⟨rfl, hb6⟩
  have O_7 := Lib.hid (O_4.out.bl hb6)
  have Bel_7 := Lib.hid (bel_bl Bel_4.out hb6)
  clear hb6
  have lw8 : w6.cell? ⟨g0, 0, none⟩ = some (.int .i64 o.k) := O_7.out.cell (i := 0) rfl
  have lw9 : w6.cell? ⟨g0, 7, none⟩ = some (.int .i64 o.a0) := O_7.out.cell (i := 7) rfl
  have lw10 : w6.cell? ⟨g0, 8, none⟩ = some (.int .i64 o.a1) := O_7.out.cell (i := 8) rfl
  have lw11 : w6.cell? ⟨g0, 9, none⟩ = some (.int .i64 o.a2) := O_7.out.cell (i := 9) rfl
  have lw12 : w6.cell? ⟨g0, 10, none⟩ = some (.int .i64 o.a3) := O_7.out.cell (i := 10) rfl
  have lw13 : w6.cell? ⟨g0, 11, none⟩ = some (.int .i64 o.a4) := O_7.out.cell (i := 11) rfl
  go_wp2_with fail
  clear lw8 lw9 lw10 lw11 lw12 lw13
  refine (rcorner_any o.a0 o.a1 o.a2 o.a3 o.a4 _).mono ?_
  rintro e w14 ⟨rfl, hb14⟩
  have O_15 := Lib.hid (O_7.out.bl hb14)
  have Bel_15 := Lib.hid (bel_bl Bel_7.out hb14)
  clear hb14
  have lw16 : w14.cell? ⟨g0, 0, none⟩ = some (.int .i64 o.k) := O_15.out.cell (i := 0) rfl
  have lw17 : w14.cell? ⟨g0, 12, none⟩ = some (.int .i64 o.b0) := O_15.out.cell (i := 12) rfl
  have lw18 : w14.cell? ⟨g0, 13, none⟩ = some (.int .i64 o.b1) := O_15.out.cell (i := 13) rfl
  have lw19 : w14.cell? ⟨g0, 14, none⟩ = some (.int .i64 o.b2) := O_15.out.cell (i := 14) rfl
  have lw20 : w14.cell? ⟨g0, 15, none⟩ = some (.int .i64 o.b3) := O_15.out.cell (i := 15) rfl
  have lw21 : w14.cell? ⟨g0, 16, none⟩ = some (.int .i64 o.b4) := O_15.out.cell (i := 16) rfl
  go_wp2_with fail
  clear lw16 lw17 lw18 lw19 lw20 lw21
  refine (rcorner_any o.b0 o.b1 o.b2 o.b3 o.b4 _).mono ?_
  rintro e w22 ⟨rfl, hb22⟩
  have O_23 := Lib.hid (O_15.out.bl hb22)
  have Bel_23 := Lib.hid (bel_bl Bel_15.out hb22)
  clear hb22
  have lw24 : w22.cell? ⟨g0, 0, none⟩ = some (.int .i64 o.k) := O_23.out.cell (i := 0) rfl
  go_wp2
  go_ret
  exact ⟨rfl, Bel_23.out⟩
set_option maxRecDepth 100000 in
set_option maxHeartbeats 2000000 in
theorem rm_3y (o : OpT) (h0 : decide (o.k < 1) = false) (h9 : decide (8 < o.k) = false) (h1 : mayI o.s o.n = true) (h2 : restO o = zeroO) (hk : o.k = 3) (h3 : mayC o.a0 o.a1 o.a2 o.a3 o.a4 = true) (h4 : mayC o.b0 o.b1 o.b2 o.b3 o.b4 = true) (w : World) : Calls Try.prog 67 #[.agg (opCells o).toArray] w fun e w' => e = .returned (.int .i64 0) ∧ Below w.heap.size w w' := by
  have he : Try.prog.eqGuardType Try.prog.depth 53 = false := by kernel_rfl
  have hq := neq_op_run (restO o) zeroO
  rw [opCells_zero, decide_eq_true h2] at hq
  clear h2
  have q3 : (o.k == 3) = true := by rw [hk]; decide
  have q5 : (o.k == 5) = false := by rw [hk]; decide
  have q6 : (o.k == 6) = false := by rw [hk]; decide
  have q7 : (o.k == 7) = false := by rw [hk]; decide
  have q8 : (o.k == 8) = false := by rw [hk]; decide
  clear hk
  go_enter Try.func67, Try.ntmps67
  go_upto_region 1 with fail
  obtain ⟨W1, gW1⟩ : ∃ x, w.alloc (.cells (opCells o).toArray 53) = x := ⟨_, rfl⟩
  have HO : RowKit.Hid (Whole W1 w.heap.size 53 (opCells o)) := Lib.hid (by rw [← gW1]; exact Whole.new_ w _ _)
  have HB : RowKit.Hid (Below w.heap.size w W1) := Lib.hid (by rw [← gW1]; exact below1 _ _)
  rw [gW1]
  clear gW1
  obtain ⟨g0, gg0⟩ : ∃ x, w.heap.size = x := ⟨_, rfl⟩
  rw [gg0] at HO ⊢
  clear gg0
  have lw1 : W1.cell? ⟨g0, 1, none⟩ = some (.int .i64 o.s) := HO.out.cell (i := 1) rfl
  have lw2 : W1.cell? ⟨g0, 2, none⟩ = some (.int .i64 o.n) := HO.out.cell (i := 2) rfl
  go_wp2_with fail
  clear lw1 lw2
  refine (rmay_any o.s o.n _).mono ?_
  rintro e w3 ⟨rfl, hb3⟩
  have O_4 := Lib.hid (HO.out.bl hb3)
  have Bel_4 := Lib.hid (bel_bl HB.out hb3)
  clear hb3
  have lw5 : w3.cell? ⟨g0, 0, none⟩ = some (.int .i64 o.k) := O_4.out.cell (i := 0) rfl
  go_upto_region 2 with fail
  refine wp_region_lit ?_
  refine wl_read (v := ?_) (some 12) rfl (by rfl) ?_ ?_
  rotate_left
  · go_simp; (try with_reducible rfl)
  simp only [Act.put, stA_, st0_, st1_]
  refine wl_read (v := ?_) (some 13) rfl (by rfl) ?_ ?_
  rotate_left
  · go_simp; (try with_reducible rfl)
  simp only [Act.put, stA_, st0_, st1_]
  refine wl_read (v := ?_) (some 14) rfl (by rfl) ?_ ?_
  rotate_left
  · go_simp; (try with_reducible rfl)
  simp only [Act.put, stA_, st0_, st1_]
  refine wl_read (v := ?_) (some 15) rfl (by rfl) ?_ ?_
  rotate_left
  · go_simp; (try with_reducible rfl)
  simp only [Act.put, stA_, st0_, st1_]
  refine wl_read (v := ?_) (some 16) rfl (by rfl) ?_ ?_
  rotate_left
  · go_simp; (try with_reducible rfl)
  simp only [Act.put, stA_, st0_, st1_]
  refine wl_read (v := ?_) (some 17) rfl (by rfl) ?_ ?_
  rotate_left
  · go_simp; (try with_reducible rfl)
  simp only [Act.put, stA_, st0_, st1_]
  refine wl_read (v := ?_) (some 18) rfl (by rfl) ?_ ?_
  rotate_left
  · go_simp; (try with_reducible rfl)
  simp only [Act.put, stA_, st0_, st1_]
  refine wl_read (v := ?_) (some 19) rfl (by rfl) ?_ ?_
  rotate_left
  · go_simp; (try with_reducible rfl)
  simp only [Act.put, stA_, st0_, st1_]
  refine wl_read (v := ?_) (some 20) rfl (by rfl) ?_ ?_
  rotate_left
  · go_simp; (try with_reducible rfl)
  simp only [Act.put, stA_, st0_, st1_]
  refine wl_read (v := ?_) (some 21) rfl (by rfl) ?_ ?_
  rotate_left
  · go_simp; (try with_reducible rfl)
  simp only [Act.put, stA_, st0_, st1_]
  refine wl_read (v := ?_) (some 22) rfl (by rfl) ?_ ?_
  rotate_left
  · go_simp; (try with_reducible rfl)
  simp only [Act.put, stA_, st0_, st1_]
  refine wl_read (v := ?_) (some 23) rfl (by rfl) ?_ ?_
  rotate_left
  · go_simp; (try with_reducible rfl)
  simp only [Act.put, stA_, st0_, st1_]
  refine wl_read (v := ?_) (some 24) rfl (by rfl) ?_ ?_
  rotate_left
  · go_simp; (try with_reducible rfl)
  simp only [Act.put, stA_, st0_, st1_]
  refine wl_load (some 25) rfl (by rfl) 53 (.tmp 1) rfl g0 rfl 53 (opCells o) _ O_4.out Try.underlying53 rfl (by kernel_rfl) ?_
  simp only [Act.put, stA_, st0_, st1_]
  go_wp2_with fail
  clear lw5
  refine (rest_any o _).mono ?_
  rintro e w6 ⟨rfl, hb6⟩
  have O_7 := Lib.hid (O_4.out.bl hb6)
  have Bel_7 := Lib.hid (bel_bl Bel_4.out hb6)
  clear hb6
  have lw8 : w6.cell? ⟨g0, 0, none⟩ = some (.int .i64 o.k) := O_7.out.cell (i := 0) rfl
  have lw9 : w6.cell? ⟨g0, 7, none⟩ = some (.int .i64 o.a0) := O_7.out.cell (i := 7) rfl
  have lw10 : w6.cell? ⟨g0, 8, none⟩ = some (.int .i64 o.a1) := O_7.out.cell (i := 8) rfl
  have lw11 : w6.cell? ⟨g0, 9, none⟩ = some (.int .i64 o.a2) := O_7.out.cell (i := 9) rfl
  have lw12 : w6.cell? ⟨g0, 10, none⟩ = some (.int .i64 o.a3) := O_7.out.cell (i := 10) rfl
  have lw13 : w6.cell? ⟨g0, 11, none⟩ = some (.int .i64 o.a4) := O_7.out.cell (i := 11) rfl
  go_wp2_with fail
  clear lw8 lw9 lw10 lw11 lw12 lw13
  refine (rcorner_any o.a0 o.a1 o.a2 o.a3 o.a4 _).mono ?_
  rintro e w14 ⟨rfl, hb14⟩
  have O_15 := Lib.hid (O_7.out.bl hb14)
  have Bel_15 := Lib.hid (bel_bl Bel_7.out hb14)
  clear hb14
  have lw16 : w14.cell? ⟨g0, 0, none⟩ = some (.int .i64 o.k) := O_15.out.cell (i := 0) rfl
  have lw17 : w14.cell? ⟨g0, 12, none⟩ = some (.int .i64 o.b0) := O_15.out.cell (i := 12) rfl
  have lw18 : w14.cell? ⟨g0, 13, none⟩ = some (.int .i64 o.b1) := O_15.out.cell (i := 13) rfl
  have lw19 : w14.cell? ⟨g0, 14, none⟩ = some (.int .i64 o.b2) := O_15.out.cell (i := 14) rfl
  have lw20 : w14.cell? ⟨g0, 15, none⟩ = some (.int .i64 o.b3) := O_15.out.cell (i := 15) rfl
  have lw21 : w14.cell? ⟨g0, 16, none⟩ = some (.int .i64 o.b4) := O_15.out.cell (i := 16) rfl
  go_wp2_with fail
  clear lw16 lw17 lw18 lw19 lw20 lw21
  refine (rcorner_any o.b0 o.b1 o.b2 o.b3 o.b4 _).mono ?_
  rintro e w22 ⟨rfl, hb22⟩
  have O_23 := Lib.hid (O_15.out.bl hb22)
  have Bel_23 := Lib.hid (bel_bl Bel_15.out hb22)
  clear hb22
  have lw24 : w22.cell? ⟨g0, 0, none⟩ = some (.int .i64 o.k) := O_23.out.cell (i := 0) rfl
  go_wp2
  go_ret
  exact ⟨rfl, Bel_23.out⟩
set_option maxRecDepth 100000 in
set_option maxHeartbeats 2000000 in
theorem rm_5a (o : OpT) (h0 : decide (o.k < 1) = false) (h9 : decide (8 < o.k) = false) (h1 : mayI o.s o.n = true) (h2 : restO o = zeroO) (hk : o.k = 5) (h3 : mayI o.s1 o.n1 = false) (w : World) : Calls Try.prog 67 #[.agg (opCells o).toArray] w fun e w' => e = .returned (.int .i64 1) ∧ Below w.heap.size w w' := by
  have he : Try.prog.eqGuardType Try.prog.depth 53 = false := by kernel_rfl
  have hq := neq_op_run (restO o) zeroO
  rw [opCells_zero, decide_eq_true h2] at hq
  clear h2
  have q3 : (o.k == 3) = false := by rw [hk]; decide
  have q5 : (o.k == 5) = true := by rw [hk]; decide
  have q6 : (o.k == 6) = false := by rw [hk]; decide
  have q7 : (o.k == 7) = false := by rw [hk]; decide
  have q8 : (o.k == 8) = false := by rw [hk]; decide
  clear hk
  go_enter Try.func67, Try.ntmps67
  go_upto_region 1 with fail
  obtain ⟨W1, gW1⟩ : ∃ x, w.alloc (.cells (opCells o).toArray 53) = x := ⟨_, rfl⟩
  have HO : RowKit.Hid (Whole W1 w.heap.size 53 (opCells o)) := Lib.hid (by rw [← gW1]; exact Whole.new_ w _ _)
  have HB : RowKit.Hid (Below w.heap.size w W1) := Lib.hid (by rw [← gW1]; exact below1 _ _)
  rw [gW1]
  clear gW1
  obtain ⟨g0, gg0⟩ : ∃ x, w.heap.size = x := ⟨_, rfl⟩
  rw [gg0] at HO ⊢
  clear gg0
  have lw1 : W1.cell? ⟨g0, 1, none⟩ = some (.int .i64 o.s) := HO.out.cell (i := 1) rfl
  have lw2 : W1.cell? ⟨g0, 2, none⟩ = some (.int .i64 o.n) := HO.out.cell (i := 2) rfl
  go_wp2_with fail
  clear lw1 lw2
  refine (rmay_any o.s o.n _).mono ?_
  rintro e w3 ⟨rfl, hb3⟩
  have O_4 := Lib.hid (HO.out.bl hb3)
  have Bel_4 := Lib.hid (bel_bl HB.out hb3)
  clear hb3
  have lw5 : w3.cell? ⟨g0, 0, none⟩ = some (.int .i64 o.k) := O_4.out.cell (i := 0) rfl
  go_upto_region 2 with fail
  refine wp_region_lit ?_
  refine wl_read (v := ?_) (some 12) rfl (by rfl) ?_ ?_
  rotate_left
  · go_simp; (try with_reducible rfl)
  simp only [Act.put, stA_, st0_, st1_]
  refine wl_read (v := ?_) (some 13) rfl (by rfl) ?_ ?_
  rotate_left
  · go_simp; (try with_reducible rfl)
  simp only [Act.put, stA_, st0_, st1_]
  refine wl_read (v := ?_) (some 14) rfl (by rfl) ?_ ?_
  rotate_left
  · go_simp; (try with_reducible rfl)
  simp only [Act.put, stA_, st0_, st1_]
  refine wl_read (v := ?_) (some 15) rfl (by rfl) ?_ ?_
  rotate_left
  · go_simp; (try with_reducible rfl)
  simp only [Act.put, stA_, st0_, st1_]
  refine wl_read (v := ?_) (some 16) rfl (by rfl) ?_ ?_
  rotate_left
  · go_simp; (try with_reducible rfl)
  simp only [Act.put, stA_, st0_, st1_]
  refine wl_read (v := ?_) (some 17) rfl (by rfl) ?_ ?_
  rotate_left
  · go_simp; (try with_reducible rfl)
  simp only [Act.put, stA_, st0_, st1_]
  refine wl_read (v := ?_) (some 18) rfl (by rfl) ?_ ?_
  rotate_left
  · go_simp; (try with_reducible rfl)
  simp only [Act.put, stA_, st0_, st1_]
  refine wl_read (v := ?_) (some 19) rfl (by rfl) ?_ ?_
  rotate_left
  · go_simp; (try with_reducible rfl)
  simp only [Act.put, stA_, st0_, st1_]
  refine wl_read (v := ?_) (some 20) rfl (by rfl) ?_ ?_
  rotate_left
  · go_simp; (try with_reducible rfl)
  simp only [Act.put, stA_, st0_, st1_]
  refine wl_read (v := ?_) (some 21) rfl (by rfl) ?_ ?_
  rotate_left
  · go_simp; (try with_reducible rfl)
  simp only [Act.put, stA_, st0_, st1_]
  refine wl_read (v := ?_) (some 22) rfl (by rfl) ?_ ?_
  rotate_left
  · go_simp; (try with_reducible rfl)
  simp only [Act.put, stA_, st0_, st1_]
  refine wl_read (v := ?_) (some 23) rfl (by rfl) ?_ ?_
  rotate_left
  · go_simp; (try with_reducible rfl)
  simp only [Act.put, stA_, st0_, st1_]
  refine wl_read (v := ?_) (some 24) rfl (by rfl) ?_ ?_
  rotate_left
  · go_simp; (try with_reducible rfl)
  simp only [Act.put, stA_, st0_, st1_]
  refine wl_load (some 25) rfl (by rfl) 53 (.tmp 1) rfl g0 rfl 53 (opCells o) _ O_4.out Try.underlying53 rfl (by kernel_rfl) ?_
  simp only [Act.put, stA_, st0_, st1_]
  go_wp2_with fail
  clear lw5
  refine (rest_any o _).mono ?_
  rintro e w6 ⟨rfl, hb6⟩
  have O_7 := Lib.hid (O_4.out.bl hb6)
  have Bel_7 := Lib.hid (bel_bl Bel_4.out hb6)
  clear hb6
  have lw8 : w6.cell? ⟨g0, 0, none⟩ = some (.int .i64 o.k) := O_7.out.cell (i := 0) rfl
  have lw9 : w6.cell? ⟨g0, 3, none⟩ = some (.int .i64 o.s1) := O_7.out.cell (i := 3) rfl
  have lw10 : w6.cell? ⟨g0, 4, none⟩ = some (.int .i64 o.n1) := O_7.out.cell (i := 4) rfl
  go_wp2_with fail
  clear lw8 lw9 lw10
  refine (rmay_any o.s1 o.n1 _).mono ?_
  rintro e w11 ⟨rfl, hb11⟩
  have O_12 := Lib.hid (O_7.out.bl hb11)
  have Bel_12 := Lib.hid (bel_bl Bel_7.out hb11)
  clear hb11
  have lw13 : w11.cell? ⟨g0, 0, none⟩ = some (.int .i64 o.k) := O_12.out.cell (i := 0) rfl
  have lw14 : w11.cell? ⟨g0, 5, none⟩ = some (.int .i64 o.s2) := O_12.out.cell (i := 5) rfl
  have lw15 : w11.cell? ⟨g0, 6, none⟩ = some (.int .i64 o.n2) := O_12.out.cell (i := 6) rfl
  go_wp2_with fail
  clear lw13 lw14 lw15
  refine (rmay_any o.s2 o.n2 _).mono ?_
  rintro e w16 ⟨rfl, hb16⟩
  have O_17 := Lib.hid (O_12.out.bl hb16)
  have Bel_17 := Lib.hid (bel_bl Bel_12.out hb16)
  clear hb16
  have lw18 : w16.cell? ⟨g0, 0, none⟩ = some (.int .i64 o.k) := O_17.out.cell (i := 0) rfl
  have lw19 : w16.cell? ⟨g0, 19, none⟩ = some (.int .i64 o.m) := O_17.out.cell (i := 19) rfl
  go_wp2
  go_ret
  exact ⟨rfl, Bel_17.out⟩
set_option maxRecDepth 100000 in
set_option maxHeartbeats 2000000 in
theorem rm_5b (o : OpT) (h0 : decide (o.k < 1) = false) (h9 : decide (8 < o.k) = false) (h1 : mayI o.s o.n = true) (h2 : restO o = zeroO) (hk : o.k = 5) (h3 : mayI o.s1 o.n1 = true) (h4 : mayI o.s2 o.n2 = false) (w : World) : Calls Try.prog 67 #[.agg (opCells o).toArray] w fun e w' => e = .returned (.int .i64 1) ∧ Below w.heap.size w w' := by
  have he : Try.prog.eqGuardType Try.prog.depth 53 = false := by kernel_rfl
  have hq := neq_op_run (restO o) zeroO
  rw [opCells_zero, decide_eq_true h2] at hq
  clear h2
  have q3 : (o.k == 3) = false := by rw [hk]; decide
  have q5 : (o.k == 5) = true := by rw [hk]; decide
  have q6 : (o.k == 6) = false := by rw [hk]; decide
  have q7 : (o.k == 7) = false := by rw [hk]; decide
  have q8 : (o.k == 8) = false := by rw [hk]; decide
  clear hk
  go_enter Try.func67, Try.ntmps67
  go_upto_region 1 with fail
  obtain ⟨W1, gW1⟩ : ∃ x, w.alloc (.cells (opCells o).toArray 53) = x := ⟨_, rfl⟩
  have HO : RowKit.Hid (Whole W1 w.heap.size 53 (opCells o)) := Lib.hid (by rw [← gW1]; exact Whole.new_ w _ _)
  have HB : RowKit.Hid (Below w.heap.size w W1) := Lib.hid (by rw [← gW1]; exact below1 _ _)
  rw [gW1]
  clear gW1
  obtain ⟨g0, gg0⟩ : ∃ x, w.heap.size = x := ⟨_, rfl⟩
  rw [gg0] at HO ⊢
  clear gg0
  have lw1 : W1.cell? ⟨g0, 1, none⟩ = some (.int .i64 o.s) := HO.out.cell (i := 1) rfl
  have lw2 : W1.cell? ⟨g0, 2, none⟩ = some (.int .i64 o.n) := HO.out.cell (i := 2) rfl
  go_wp2_with fail
  clear lw1 lw2
  refine (rmay_any o.s o.n _).mono ?_
  rintro e w3 ⟨rfl, hb3⟩
  have O_4 := Lib.hid (HO.out.bl hb3)
  have Bel_4 := Lib.hid (bel_bl HB.out hb3)
  clear hb3
  have lw5 : w3.cell? ⟨g0, 0, none⟩ = some (.int .i64 o.k) := O_4.out.cell (i := 0) rfl
  go_upto_region 2 with fail
  refine wp_region_lit ?_
  refine wl_read (v := ?_) (some 12) rfl (by rfl) ?_ ?_
  rotate_left
  · go_simp; (try with_reducible rfl)
  simp only [Act.put, stA_, st0_, st1_]
  refine wl_read (v := ?_) (some 13) rfl (by rfl) ?_ ?_
  rotate_left
  · go_simp; (try with_reducible rfl)
  simp only [Act.put, stA_, st0_, st1_]
  refine wl_read (v := ?_) (some 14) rfl (by rfl) ?_ ?_
  rotate_left
  · go_simp; (try with_reducible rfl)
  simp only [Act.put, stA_, st0_, st1_]
  refine wl_read (v := ?_) (some 15) rfl (by rfl) ?_ ?_
  rotate_left
  · go_simp; (try with_reducible rfl)
  simp only [Act.put, stA_, st0_, st1_]
  refine wl_read (v := ?_) (some 16) rfl (by rfl) ?_ ?_
  rotate_left
  · go_simp; (try with_reducible rfl)
  simp only [Act.put, stA_, st0_, st1_]
  refine wl_read (v := ?_) (some 17) rfl (by rfl) ?_ ?_
  rotate_left
  · go_simp; (try with_reducible rfl)
  simp only [Act.put, stA_, st0_, st1_]
  refine wl_read (v := ?_) (some 18) rfl (by rfl) ?_ ?_
  rotate_left
  · go_simp; (try with_reducible rfl)
  simp only [Act.put, stA_, st0_, st1_]
  refine wl_read (v := ?_) (some 19) rfl (by rfl) ?_ ?_
  rotate_left
  · go_simp; (try with_reducible rfl)
  simp only [Act.put, stA_, st0_, st1_]
  refine wl_read (v := ?_) (some 20) rfl (by rfl) ?_ ?_
  rotate_left
  · go_simp; (try with_reducible rfl)
  simp only [Act.put, stA_, st0_, st1_]
  refine wl_read (v := ?_) (some 21) rfl (by rfl) ?_ ?_
  rotate_left
  · go_simp; (try with_reducible rfl)
  simp only [Act.put, stA_, st0_, st1_]
  refine wl_read (v := ?_) (some 22) rfl (by rfl) ?_ ?_
  rotate_left
  · go_simp; (try with_reducible rfl)
  simp only [Act.put, stA_, st0_, st1_]
  refine wl_read (v := ?_) (some 23) rfl (by rfl) ?_ ?_
  rotate_left
  · go_simp; (try with_reducible rfl)
  simp only [Act.put, stA_, st0_, st1_]
  refine wl_read (v := ?_) (some 24) rfl (by rfl) ?_ ?_
  rotate_left
  · go_simp; (try with_reducible rfl)
  simp only [Act.put, stA_, st0_, st1_]
  refine wl_load (some 25) rfl (by rfl) 53 (.tmp 1) rfl g0 rfl 53 (opCells o) _ O_4.out Try.underlying53 rfl (by kernel_rfl) ?_
  simp only [Act.put, stA_, st0_, st1_]
  go_wp2_with fail
  clear lw5
  refine (rest_any o _).mono ?_
  rintro e w6 ⟨rfl, hb6⟩
  have O_7 := Lib.hid (O_4.out.bl hb6)
  have Bel_7 := Lib.hid (bel_bl Bel_4.out hb6)
  clear hb6
  have lw8 : w6.cell? ⟨g0, 0, none⟩ = some (.int .i64 o.k) := O_7.out.cell (i := 0) rfl
  have lw9 : w6.cell? ⟨g0, 3, none⟩ = some (.int .i64 o.s1) := O_7.out.cell (i := 3) rfl
  have lw10 : w6.cell? ⟨g0, 4, none⟩ = some (.int .i64 o.n1) := O_7.out.cell (i := 4) rfl
  go_wp2_with fail
  clear lw8 lw9 lw10
  refine (rmay_any o.s1 o.n1 _).mono ?_
  rintro e w11 ⟨rfl, hb11⟩
  have O_12 := Lib.hid (O_7.out.bl hb11)
  have Bel_12 := Lib.hid (bel_bl Bel_7.out hb11)
  clear hb11
  have lw13 : w11.cell? ⟨g0, 0, none⟩ = some (.int .i64 o.k) := O_12.out.cell (i := 0) rfl
  have lw14 : w11.cell? ⟨g0, 5, none⟩ = some (.int .i64 o.s2) := O_12.out.cell (i := 5) rfl
  have lw15 : w11.cell? ⟨g0, 6, none⟩ = some (.int .i64 o.n2) := O_12.out.cell (i := 6) rfl
  go_wp2_with fail
  clear lw13 lw14 lw15
  refine (rmay_any o.s2 o.n2 _).mono ?_
  rintro e w16 ⟨rfl, hb16⟩
  have O_17 := Lib.hid (O_12.out.bl hb16)
  have Bel_17 := Lib.hid (bel_bl Bel_12.out hb16)
  clear hb16
  have lw18 : w16.cell? ⟨g0, 0, none⟩ = some (.int .i64 o.k) := O_17.out.cell (i := 0) rfl
  have lw19 : w16.cell? ⟨g0, 19, none⟩ = some (.int .i64 o.m) := O_17.out.cell (i := 19) rfl
  go_wp2
  go_ret
  exact ⟨rfl, Bel_17.out⟩
set_option maxRecDepth 100000 in
set_option maxHeartbeats 2000000 in
theorem rm_5c (o : OpT) (h0 : decide (o.k < 1) = false) (h9 : decide (8 < o.k) = false) (h1 : mayI o.s o.n = true) (h2 : restO o = zeroO) (hk : o.k = 5) (h3 : mayI o.s1 o.n1 = true) (h4 : mayI o.s2 o.n2 = true) (h5 : decide (o.m < 0) = true) (w : World) : Calls Try.prog 67 #[.agg (opCells o).toArray] w fun e w' => e = .returned (.int .i64 1) ∧ Below w.heap.size w w' := by
  have he : Try.prog.eqGuardType Try.prog.depth 53 = false := by kernel_rfl
  have hq := neq_op_run (restO o) zeroO
  rw [opCells_zero, decide_eq_true h2] at hq
  clear h2
  have q3 : (o.k == 3) = false := by rw [hk]; decide
  have q5 : (o.k == 5) = true := by rw [hk]; decide
  have q6 : (o.k == 6) = false := by rw [hk]; decide
  have q7 : (o.k == 7) = false := by rw [hk]; decide
  have q8 : (o.k == 8) = false := by rw [hk]; decide
  clear hk
  go_enter Try.func67, Try.ntmps67
  go_upto_region 1 with fail
  obtain ⟨W1, gW1⟩ : ∃ x, w.alloc (.cells (opCells o).toArray 53) = x := ⟨_, rfl⟩
  have HO : RowKit.Hid (Whole W1 w.heap.size 53 (opCells o)) := Lib.hid (by rw [← gW1]; exact Whole.new_ w _ _)
  have HB : RowKit.Hid (Below w.heap.size w W1) := Lib.hid (by rw [← gW1]; exact below1 _ _)
  rw [gW1]
  clear gW1
  obtain ⟨g0, gg0⟩ : ∃ x, w.heap.size = x := ⟨_, rfl⟩
  rw [gg0] at HO ⊢
  clear gg0
  have lw1 : W1.cell? ⟨g0, 1, none⟩ = some (.int .i64 o.s) := HO.out.cell (i := 1) rfl
  have lw2 : W1.cell? ⟨g0, 2, none⟩ = some (.int .i64 o.n) := HO.out.cell (i := 2) rfl
  go_wp2_with fail
  clear lw1 lw2
  refine (rmay_any o.s o.n _).mono ?_
  rintro e w3 ⟨rfl, hb3⟩
  have O_4 := Lib.hid (HO.out.bl hb3)
  have Bel_4 := Lib.hid (bel_bl HB.out hb3)
  clear hb3
  have lw5 : w3.cell? ⟨g0, 0, none⟩ = some (.int .i64 o.k) := O_4.out.cell (i := 0) rfl
  go_upto_region 2 with fail
  refine wp_region_lit ?_
  refine wl_read (v := ?_) (some 12) rfl (by rfl) ?_ ?_
  rotate_left
  · go_simp; (try with_reducible rfl)
  simp only [Act.put, stA_, st0_, st1_]
  refine wl_read (v := ?_) (some 13) rfl (by rfl) ?_ ?_
  rotate_left
  · go_simp; (try with_reducible rfl)
  simp only [Act.put, stA_, st0_, st1_]
  refine wl_read (v := ?_) (some 14) rfl (by rfl) ?_ ?_
  rotate_left
  · go_simp; (try with_reducible rfl)
  simp only [Act.put, stA_, st0_, st1_]
  refine wl_read (v := ?_) (some 15) rfl (by rfl) ?_ ?_
  rotate_left
  · go_simp; (try with_reducible rfl)
  simp only [Act.put, stA_, st0_, st1_]
  refine wl_read (v := ?_) (some 16) rfl (by rfl) ?_ ?_
  rotate_left
  · go_simp; (try with_reducible rfl)
  simp only [Act.put, stA_, st0_, st1_]
  refine wl_read (v := ?_) (some 17) rfl (by rfl) ?_ ?_
  rotate_left
  · go_simp; (try with_reducible rfl)
  simp only [Act.put, stA_, st0_, st1_]
  refine wl_read (v := ?_) (some 18) rfl (by rfl) ?_ ?_
  rotate_left
  · go_simp; (try with_reducible rfl)
  simp only [Act.put, stA_, st0_, st1_]
  refine wl_read (v := ?_) (some 19) rfl (by rfl) ?_ ?_
  rotate_left
  · go_simp; (try with_reducible rfl)
  simp only [Act.put, stA_, st0_, st1_]
  refine wl_read (v := ?_) (some 20) rfl (by rfl) ?_ ?_
  rotate_left
  · go_simp; (try with_reducible rfl)
  simp only [Act.put, stA_, st0_, st1_]
  refine wl_read (v := ?_) (some 21) rfl (by rfl) ?_ ?_
  rotate_left
  · go_simp; (try with_reducible rfl)
  simp only [Act.put, stA_, st0_, st1_]
  refine wl_read (v := ?_) (some 22) rfl (by rfl) ?_ ?_
  rotate_left
  · go_simp; (try with_reducible rfl)
  simp only [Act.put, stA_, st0_, st1_]
  refine wl_read (v := ?_) (some 23) rfl (by rfl) ?_ ?_
  rotate_left
  · go_simp; (try with_reducible rfl)
  simp only [Act.put, stA_, st0_, st1_]
  refine wl_read (v := ?_) (some 24) rfl (by rfl) ?_ ?_
  rotate_left
  · go_simp; (try with_reducible rfl)
  simp only [Act.put, stA_, st0_, st1_]
  refine wl_load (some 25) rfl (by rfl) 53 (.tmp 1) rfl g0 rfl 53 (opCells o) _ O_4.out Try.underlying53 rfl (by kernel_rfl) ?_
  simp only [Act.put, stA_, st0_, st1_]
  go_wp2_with fail
  clear lw5
  refine (rest_any o _).mono ?_
  rintro e w6 ⟨rfl, hb6⟩
  have O_7 := Lib.hid (O_4.out.bl hb6)
  have Bel_7 := Lib.hid (bel_bl Bel_4.out hb6)
  clear hb6
  have lw8 : w6.cell? ⟨g0, 0, none⟩ = some (.int .i64 o.k) := O_7.out.cell (i := 0) rfl
  have lw9 : w6.cell? ⟨g0, 3, none⟩ = some (.int .i64 o.s1) := O_7.out.cell (i := 3) rfl
  have lw10 : w6.cell? ⟨g0, 4, none⟩ = some (.int .i64 o.n1) := O_7.out.cell (i := 4) rfl
  go_wp2_with fail
  clear lw8 lw9 lw10
  refine (rmay_any o.s1 o.n1 _).mono ?_
  rintro e w11 ⟨rfl, hb11⟩
  have O_12 := Lib.hid (O_7.out.bl hb11)
  have Bel_12 := Lib.hid (bel_bl Bel_7.out hb11)
  clear hb11
  have lw13 : w11.cell? ⟨g0, 0, none⟩ = some (.int .i64 o.k) := O_12.out.cell (i := 0) rfl
  have lw14 : w11.cell? ⟨g0, 5, none⟩ = some (.int .i64 o.s2) := O_12.out.cell (i := 5) rfl
  have lw15 : w11.cell? ⟨g0, 6, none⟩ = some (.int .i64 o.n2) := O_12.out.cell (i := 6) rfl
  go_wp2_with fail
  clear lw13 lw14 lw15
  refine (rmay_any o.s2 o.n2 _).mono ?_
  rintro e w16 ⟨rfl, hb16⟩
  have O_17 := Lib.hid (O_12.out.bl hb16)
  have Bel_17 := Lib.hid (bel_bl Bel_12.out hb16)
  clear hb16
  have lw18 : w16.cell? ⟨g0, 0, none⟩ = some (.int .i64 o.k) := O_17.out.cell (i := 0) rfl
  have lw19 : w16.cell? ⟨g0, 19, none⟩ = some (.int .i64 o.m) := O_17.out.cell (i := 19) rfl
  go_wp2
  go_ret
  exact ⟨rfl, Bel_17.out⟩
set_option maxRecDepth 100000 in
set_option maxHeartbeats 2000000 in
theorem rm_5d (o : OpT) (h0 : decide (o.k < 1) = false) (h9 : decide (8 < o.k) = false) (h1 : mayI o.s o.n = true) (h2 : restO o = zeroO) (hk : o.k = 5) (h3 : mayI o.s1 o.n1 = true) (h4 : mayI o.s2 o.n2 = true) (h5 : decide (o.m < 0) = false) (h6 : decide (3 < o.m) = true) (w : World) : Calls Try.prog 67 #[.agg (opCells o).toArray] w fun e w' => e = .returned (.int .i64 1) ∧ Below w.heap.size w w' := by
  have he : Try.prog.eqGuardType Try.prog.depth 53 = false := by kernel_rfl
  have hq := neq_op_run (restO o) zeroO
  rw [opCells_zero, decide_eq_true h2] at hq
  clear h2
  have q3 : (o.k == 3) = false := by rw [hk]; decide
  have q5 : (o.k == 5) = true := by rw [hk]; decide
  have q6 : (o.k == 6) = false := by rw [hk]; decide
  have q7 : (o.k == 7) = false := by rw [hk]; decide
  have q8 : (o.k == 8) = false := by rw [hk]; decide
  clear hk
  go_enter Try.func67, Try.ntmps67
  go_upto_region 1 with fail
  obtain ⟨W1, gW1⟩ : ∃ x, w.alloc (.cells (opCells o).toArray 53) = x := ⟨_, rfl⟩
  have HO : RowKit.Hid (Whole W1 w.heap.size 53 (opCells o)) := Lib.hid (by rw [← gW1]; exact Whole.new_ w _ _)
  have HB : RowKit.Hid (Below w.heap.size w W1) := Lib.hid (by rw [← gW1]; exact below1 _ _)
  rw [gW1]
  clear gW1
  obtain ⟨g0, gg0⟩ : ∃ x, w.heap.size = x := ⟨_, rfl⟩
  rw [gg0] at HO ⊢
  clear gg0
  have lw1 : W1.cell? ⟨g0, 1, none⟩ = some (.int .i64 o.s) := HO.out.cell (i := 1) rfl
  have lw2 : W1.cell? ⟨g0, 2, none⟩ = some (.int .i64 o.n) := HO.out.cell (i := 2) rfl
  go_wp2_with fail
  clear lw1 lw2
  refine (rmay_any o.s o.n _).mono ?_
  rintro e w3 ⟨rfl, hb3⟩
  have O_4 := Lib.hid (HO.out.bl hb3)
  have Bel_4 := Lib.hid (bel_bl HB.out hb3)
  clear hb3
  have lw5 : w3.cell? ⟨g0, 0, none⟩ = some (.int .i64 o.k) := O_4.out.cell (i := 0) rfl
  go_upto_region 2 with fail
  refine wp_region_lit ?_
  refine wl_read (v := ?_) (some 12) rfl (by rfl) ?_ ?_
  rotate_left
  · go_simp; (try with_reducible rfl)
  simp only [Act.put, stA_, st0_, st1_]
  refine wl_read (v := ?_) (some 13) rfl (by rfl) ?_ ?_
  rotate_left
  · go_simp; (try with_reducible rfl)
  simp only [Act.put, stA_, st0_, st1_]
  refine wl_read (v := ?_) (some 14) rfl (by rfl) ?_ ?_
  rotate_left
  · go_simp; (try with_reducible rfl)
  simp only [Act.put, stA_, st0_, st1_]
  refine wl_read (v := ?_) (some 15) rfl (by rfl) ?_ ?_
  rotate_left
  · go_simp; (try with_reducible rfl)
  simp only [Act.put, stA_, st0_, st1_]
  refine wl_read (v := ?_) (some 16) rfl (by rfl) ?_ ?_
  rotate_left
  · go_simp; (try with_reducible rfl)
  simp only [Act.put, stA_, st0_, st1_]
  refine wl_read (v := ?_) (some 17) rfl (by rfl) ?_ ?_
  rotate_left
  · go_simp; (try with_reducible rfl)
  simp only [Act.put, stA_, st0_, st1_]
  refine wl_read (v := ?_) (some 18) rfl (by rfl) ?_ ?_
  rotate_left
  · go_simp; (try with_reducible rfl)
  simp only [Act.put, stA_, st0_, st1_]
  refine wl_read (v := ?_) (some 19) rfl (by rfl) ?_ ?_
  rotate_left
  · go_simp; (try with_reducible rfl)
  simp only [Act.put, stA_, st0_, st1_]
  refine wl_read (v := ?_) (some 20) rfl (by rfl) ?_ ?_
  rotate_left
  · go_simp; (try with_reducible rfl)
  simp only [Act.put, stA_, st0_, st1_]
  refine wl_read (v := ?_) (some 21) rfl (by rfl) ?_ ?_
  rotate_left
  · go_simp; (try with_reducible rfl)
  simp only [Act.put, stA_, st0_, st1_]
  refine wl_read (v := ?_) (some 22) rfl (by rfl) ?_ ?_
  rotate_left
  · go_simp; (try with_reducible rfl)
  simp only [Act.put, stA_, st0_, st1_]
  refine wl_read (v := ?_) (some 23) rfl (by rfl) ?_ ?_
  rotate_left
  · go_simp; (try with_reducible rfl)
  simp only [Act.put, stA_, st0_, st1_]
  refine wl_read (v := ?_) (some 24) rfl (by rfl) ?_ ?_
  rotate_left
  · go_simp; (try with_reducible rfl)
  simp only [Act.put, stA_, st0_, st1_]
  refine wl_load (some 25) rfl (by rfl) 53 (.tmp 1) rfl g0 rfl 53 (opCells o) _ O_4.out Try.underlying53 rfl (by kernel_rfl) ?_
  simp only [Act.put, stA_, st0_, st1_]
  go_wp2_with fail
  clear lw5
  refine (rest_any o _).mono ?_
  rintro e w6 ⟨rfl, hb6⟩
  have O_7 := Lib.hid (O_4.out.bl hb6)
  have Bel_7 := Lib.hid (bel_bl Bel_4.out hb6)
  clear hb6
  have lw8 : w6.cell? ⟨g0, 0, none⟩ = some (.int .i64 o.k) := O_7.out.cell (i := 0) rfl
  have lw9 : w6.cell? ⟨g0, 3, none⟩ = some (.int .i64 o.s1) := O_7.out.cell (i := 3) rfl
  have lw10 : w6.cell? ⟨g0, 4, none⟩ = some (.int .i64 o.n1) := O_7.out.cell (i := 4) rfl
  go_wp2_with fail
  clear lw8 lw9 lw10
  refine (rmay_any o.s1 o.n1 _).mono ?_
  rintro e w11 ⟨rfl, hb11⟩
  have O_12 := Lib.hid (O_7.out.bl hb11)
  have Bel_12 := Lib.hid (bel_bl Bel_7.out hb11)
  clear hb11
  have lw13 : w11.cell? ⟨g0, 0, none⟩ = some (.int .i64 o.k) := O_12.out.cell (i := 0) rfl
  have lw14 : w11.cell? ⟨g0, 5, none⟩ = some (.int .i64 o.s2) := O_12.out.cell (i := 5) rfl
  have lw15 : w11.cell? ⟨g0, 6, none⟩ = some (.int .i64 o.n2) := O_12.out.cell (i := 6) rfl
  go_wp2_with fail
  clear lw13 lw14 lw15
  refine (rmay_any o.s2 o.n2 _).mono ?_
  rintro e w16 ⟨rfl, hb16⟩
  have O_17 := Lib.hid (O_12.out.bl hb16)
  have Bel_17 := Lib.hid (bel_bl Bel_12.out hb16)
  clear hb16
  have lw18 : w16.cell? ⟨g0, 0, none⟩ = some (.int .i64 o.k) := O_17.out.cell (i := 0) rfl
  have lw19 : w16.cell? ⟨g0, 19, none⟩ = some (.int .i64 o.m) := O_17.out.cell (i := 19) rfl
  go_wp2
  go_ret
  exact ⟨rfl, Bel_17.out⟩
set_option maxRecDepth 100000 in
set_option maxHeartbeats 2000000 in
theorem rm_5y (o : OpT) (h0 : decide (o.k < 1) = false) (h9 : decide (8 < o.k) = false) (h1 : mayI o.s o.n = true) (h2 : restO o = zeroO) (hk : o.k = 5) (h3 : mayI o.s1 o.n1 = true) (h4 : mayI o.s2 o.n2 = true) (h5 : decide (o.m < 0) = false) (h6 : decide (3 < o.m) = false) (w : World) : Calls Try.prog 67 #[.agg (opCells o).toArray] w fun e w' => e = .returned (.int .i64 0) ∧ Below w.heap.size w w' := by
  have he : Try.prog.eqGuardType Try.prog.depth 53 = false := by kernel_rfl
  have hq := neq_op_run (restO o) zeroO
  rw [opCells_zero, decide_eq_true h2] at hq
  clear h2
  have q3 : (o.k == 3) = false := by rw [hk]; decide
  have q5 : (o.k == 5) = true := by rw [hk]; decide
  have q6 : (o.k == 6) = false := by rw [hk]; decide
  have q7 : (o.k == 7) = false := by rw [hk]; decide
  have q8 : (o.k == 8) = false := by rw [hk]; decide
  clear hk
  go_enter Try.func67, Try.ntmps67
  go_upto_region 1 with fail
  obtain ⟨W1, gW1⟩ : ∃ x, w.alloc (.cells (opCells o).toArray 53) = x := ⟨_, rfl⟩
  have HO : RowKit.Hid (Whole W1 w.heap.size 53 (opCells o)) := Lib.hid (by rw [← gW1]; exact Whole.new_ w _ _)
  have HB : RowKit.Hid (Below w.heap.size w W1) := Lib.hid (by rw [← gW1]; exact below1 _ _)
  rw [gW1]
  clear gW1
  obtain ⟨g0, gg0⟩ : ∃ x, w.heap.size = x := ⟨_, rfl⟩
  rw [gg0] at HO ⊢
  clear gg0
  have lw1 : W1.cell? ⟨g0, 1, none⟩ = some (.int .i64 o.s) := HO.out.cell (i := 1) rfl
  have lw2 : W1.cell? ⟨g0, 2, none⟩ = some (.int .i64 o.n) := HO.out.cell (i := 2) rfl
  go_wp2_with fail
  clear lw1 lw2
  refine (rmay_any o.s o.n _).mono ?_
  rintro e w3 ⟨rfl, hb3⟩
  have O_4 := Lib.hid (HO.out.bl hb3)
  have Bel_4 := Lib.hid (bel_bl HB.out hb3)
  clear hb3
  have lw5 : w3.cell? ⟨g0, 0, none⟩ = some (.int .i64 o.k) := O_4.out.cell (i := 0) rfl
  go_upto_region 2 with fail
  refine wp_region_lit ?_
  refine wl_read (v := ?_) (some 12) rfl (by rfl) ?_ ?_
  rotate_left
  · go_simp; (try with_reducible rfl)
  simp only [Act.put, stA_, st0_, st1_]
  refine wl_read (v := ?_) (some 13) rfl (by rfl) ?_ ?_
  rotate_left
  · go_simp; (try with_reducible rfl)
  simp only [Act.put, stA_, st0_, st1_]
  refine wl_read (v := ?_) (some 14) rfl (by rfl) ?_ ?_
  rotate_left
  · go_simp; (try with_reducible rfl)
  simp only [Act.put, stA_, st0_, st1_]
  refine wl_read (v := ?_) (some 15) rfl (by rfl) ?_ ?_
  rotate_left
  · go_simp; (try with_reducible rfl)
  simp only [Act.put, stA_, st0_, st1_]
  refine wl_read (v := ?_) (some 16) rfl (by rfl) ?_ ?_
  rotate_left
  · go_simp; (try with_reducible rfl)
  simp only [Act.put, stA_, st0_, st1_]
  refine wl_read (v := ?_) (some 17) rfl (by rfl) ?_ ?_
  rotate_left
  · go_simp; (try with_reducible rfl)
  simp only [Act.put, stA_, st0_, st1_]
  refine wl_read (v := ?_) (some 18) rfl (by rfl) ?_ ?_
  rotate_left
  · go_simp; (try with_reducible rfl)
  simp only [Act.put, stA_, st0_, st1_]
  refine wl_read (v := ?_) (some 19) rfl (by rfl) ?_ ?_
  rotate_left
  · go_simp; (try with_reducible rfl)
  simp only [Act.put, stA_, st0_, st1_]
  refine wl_read (v := ?_) (some 20) rfl (by rfl) ?_ ?_
  rotate_left
  · go_simp; (try with_reducible rfl)
  simp only [Act.put, stA_, st0_, st1_]
  refine wl_read (v := ?_) (some 21) rfl (by rfl) ?_ ?_
  rotate_left
  · go_simp; (try with_reducible rfl)
  simp only [Act.put, stA_, st0_, st1_]
  refine wl_read (v := ?_) (some 22) rfl (by rfl) ?_ ?_
  rotate_left
  · go_simp; (try with_reducible rfl)
  simp only [Act.put, stA_, st0_, st1_]
  refine wl_read (v := ?_) (some 23) rfl (by rfl) ?_ ?_
  rotate_left
  · go_simp; (try with_reducible rfl)
  simp only [Act.put, stA_, st0_, st1_]
  refine wl_read (v := ?_) (some 24) rfl (by rfl) ?_ ?_
  rotate_left
  · go_simp; (try with_reducible rfl)
  simp only [Act.put, stA_, st0_, st1_]
  refine wl_load (some 25) rfl (by rfl) 53 (.tmp 1) rfl g0 rfl 53 (opCells o) _ O_4.out Try.underlying53 rfl (by kernel_rfl) ?_
  simp only [Act.put, stA_, st0_, st1_]
  go_wp2_with fail
  clear lw5
  refine (rest_any o _).mono ?_
  rintro e w6 ⟨rfl, hb6⟩
  have O_7 := Lib.hid (O_4.out.bl hb6)
  have Bel_7 := Lib.hid (bel_bl Bel_4.out hb6)
  clear hb6
  have lw8 : w6.cell? ⟨g0, 0, none⟩ = some (.int .i64 o.k) := O_7.out.cell (i := 0) rfl
  have lw9 : w6.cell? ⟨g0, 3, none⟩ = some (.int .i64 o.s1) := O_7.out.cell (i := 3) rfl
  have lw10 : w6.cell? ⟨g0, 4, none⟩ = some (.int .i64 o.n1) := O_7.out.cell (i := 4) rfl
  go_wp2_with fail
  clear lw8 lw9 lw10
  refine (rmay_any o.s1 o.n1 _).mono ?_
  rintro e w11 ⟨rfl, hb11⟩
  have O_12 := Lib.hid (O_7.out.bl hb11)
  have Bel_12 := Lib.hid (bel_bl Bel_7.out hb11)
  clear hb11
  have lw13 : w11.cell? ⟨g0, 0, none⟩ = some (.int .i64 o.k) := O_12.out.cell (i := 0) rfl
  have lw14 : w11.cell? ⟨g0, 5, none⟩ = some (.int .i64 o.s2) := O_12.out.cell (i := 5) rfl
  have lw15 : w11.cell? ⟨g0, 6, none⟩ = some (.int .i64 o.n2) := O_12.out.cell (i := 6) rfl
  go_wp2_with fail
  clear lw13 lw14 lw15
  refine (rmay_any o.s2 o.n2 _).mono ?_
  rintro e w16 ⟨rfl, hb16⟩
  have O_17 := Lib.hid (O_12.out.bl hb16)
  have Bel_17 := Lib.hid (bel_bl Bel_12.out hb16)
  clear hb16
  have lw18 : w16.cell? ⟨g0, 0, none⟩ = some (.int .i64 o.k) := O_17.out.cell (i := 0) rfl
  have lw19 : w16.cell? ⟨g0, 19, none⟩ = some (.int .i64 o.m) := O_17.out.cell (i := 19) rfl
  go_wp2
  go_ret
  exact ⟨rfl, Bel_17.out⟩
set_option maxRecDepth 100000 in
set_option maxHeartbeats 2000000 in
theorem rm_6n (o : OpT) (h0 : decide (o.k < 1) = false) (h9 : decide (8 < o.k) = false) (h1 : mayI o.s o.n = true) (h2 : restO o = zeroO) (hk : o.k = 6) (h3 : mayI o.s2 o.n2 = false) (w : World) : Calls Try.prog 67 #[.agg (opCells o).toArray] w fun e w' => e = .returned (.int .i64 1) ∧ Below w.heap.size w w' := by
  have he : Try.prog.eqGuardType Try.prog.depth 53 = false := by kernel_rfl
  have hq := neq_op_run (restO o) zeroO
  rw [opCells_zero, decide_eq_true h2] at hq
  clear h2
  have q3 : (o.k == 3) = false := by rw [hk]; decide
  have q5 : (o.k == 5) = false := by rw [hk]; decide
  have q6 : (o.k == 6) = true := by rw [hk]; decide
  have q7 : (o.k == 7) = false := by rw [hk]; decide
  have q8 : (o.k == 8) = false := by rw [hk]; decide
  clear hk
  go_enter Try.func67, Try.ntmps67
  go_upto_region 1 with fail
  obtain ⟨W1, gW1⟩ : ∃ x, w.alloc (.cells (opCells o).toArray 53) = x := ⟨_, rfl⟩
  have HO : RowKit.Hid (Whole W1 w.heap.size 53 (opCells o)) := Lib.hid (by rw [← gW1]; exact Whole.new_ w _ _)
  have HB : RowKit.Hid (Below w.heap.size w W1) := Lib.hid (by rw [← gW1]; exact below1 _ _)
  rw [gW1]
  clear gW1
  obtain ⟨g0, gg0⟩ : ∃ x, w.heap.size = x := ⟨_, rfl⟩
  rw [gg0] at HO ⊢
  clear gg0
  have lw1 : W1.cell? ⟨g0, 1, none⟩ = some (.int .i64 o.s) := HO.out.cell (i := 1) rfl
  have lw2 : W1.cell? ⟨g0, 2, none⟩ = some (.int .i64 o.n) := HO.out.cell (i := 2) rfl
  go_wp2_with fail
  clear lw1 lw2
  refine (rmay_any o.s o.n _).mono ?_
  rintro e w3 ⟨rfl, hb3⟩
  have O_4 := Lib.hid (HO.out.bl hb3)
  have Bel_4 := Lib.hid (bel_bl HB.out hb3)
  clear hb3
  have lw5 : w3.cell? ⟨g0, 0, none⟩ = some (.int .i64 o.k) := O_4.out.cell (i := 0) rfl
  go_upto_region 2 with fail
  refine wp_region_lit ?_
  refine wl_read (v := ?_) (some 12) rfl (by rfl) ?_ ?_
  rotate_left
  · go_simp; (try with_reducible rfl)
  simp only [Act.put, stA_, st0_, st1_]
  refine wl_read (v := ?_) (some 13) rfl (by rfl) ?_ ?_
  rotate_left
  · go_simp; (try with_reducible rfl)
  simp only [Act.put, stA_, st0_, st1_]
  refine wl_read (v := ?_) (some 14) rfl (by rfl) ?_ ?_
  rotate_left
  · go_simp; (try with_reducible rfl)
  simp only [Act.put, stA_, st0_, st1_]
  refine wl_read (v := ?_) (some 15) rfl (by rfl) ?_ ?_
  rotate_left
  · go_simp; (try with_reducible rfl)
  simp only [Act.put, stA_, st0_, st1_]
  refine wl_read (v := ?_) (some 16) rfl (by rfl) ?_ ?_
  rotate_left
  · go_simp; (try with_reducible rfl)
  simp only [Act.put, stA_, st0_, st1_]
  refine wl_read (v := ?_) (some 17) rfl (by rfl) ?_ ?_
  rotate_left
  · go_simp; (try with_reducible rfl)
  simp only [Act.put, stA_, st0_, st1_]
  refine wl_read (v := ?_) (some 18) rfl (by rfl) ?_ ?_
  rotate_left
  · go_simp; (try with_reducible rfl)
  simp only [Act.put, stA_, st0_, st1_]
  refine wl_read (v := ?_) (some 19) rfl (by rfl) ?_ ?_
  rotate_left
  · go_simp; (try with_reducible rfl)
  simp only [Act.put, stA_, st0_, st1_]
  refine wl_read (v := ?_) (some 20) rfl (by rfl) ?_ ?_
  rotate_left
  · go_simp; (try with_reducible rfl)
  simp only [Act.put, stA_, st0_, st1_]
  refine wl_read (v := ?_) (some 21) rfl (by rfl) ?_ ?_
  rotate_left
  · go_simp; (try with_reducible rfl)
  simp only [Act.put, stA_, st0_, st1_]
  refine wl_read (v := ?_) (some 22) rfl (by rfl) ?_ ?_
  rotate_left
  · go_simp; (try with_reducible rfl)
  simp only [Act.put, stA_, st0_, st1_]
  refine wl_read (v := ?_) (some 23) rfl (by rfl) ?_ ?_
  rotate_left
  · go_simp; (try with_reducible rfl)
  simp only [Act.put, stA_, st0_, st1_]
  refine wl_read (v := ?_) (some 24) rfl (by rfl) ?_ ?_
  rotate_left
  · go_simp; (try with_reducible rfl)
  simp only [Act.put, stA_, st0_, st1_]
  refine wl_load (some 25) rfl (by rfl) 53 (.tmp 1) rfl g0 rfl 53 (opCells o) _ O_4.out Try.underlying53 rfl (by kernel_rfl) ?_
  simp only [Act.put, stA_, st0_, st1_]
  go_wp2_with fail
  clear lw5
  refine (rest_any o _).mono ?_
  rintro e w6 ⟨rfl, hb6⟩
  have O_7 := Lib.hid (O_4.out.bl hb6)
  have Bel_7 := Lib.hid (bel_bl Bel_4.out hb6)
  clear hb6
  have lw8 : w6.cell? ⟨g0, 0, none⟩ = some (.int .i64 o.k) := O_7.out.cell (i := 0) rfl
  have lw9 : w6.cell? ⟨g0, 5, none⟩ = some (.int .i64 o.s2) := O_7.out.cell (i := 5) rfl
  have lw10 : w6.cell? ⟨g0, 6, none⟩ = some (.int .i64 o.n2) := O_7.out.cell (i := 6) rfl
  go_wp2_with fail
  clear lw8 lw9 lw10
  refine (rmay_any o.s2 o.n2 _).mono ?_
  rintro e w11 ⟨rfl, hb11⟩
  have O_12 := Lib.hid (O_7.out.bl hb11)
  have Bel_12 := Lib.hid (bel_bl Bel_7.out hb11)
  clear hb11
  have lw13 : w11.cell? ⟨g0, 0, none⟩ = some (.int .i64 o.k) := O_12.out.cell (i := 0) rfl
  go_wp2
  go_ret
  exact ⟨rfl, Bel_12.out⟩
set_option maxRecDepth 100000 in
set_option maxHeartbeats 2000000 in
theorem rm_6y (o : OpT) (h0 : decide (o.k < 1) = false) (h9 : decide (8 < o.k) = false) (h1 : mayI o.s o.n = true) (h2 : restO o = zeroO) (hk : o.k = 6) (h3 : mayI o.s2 o.n2 = true) (w : World) : Calls Try.prog 67 #[.agg (opCells o).toArray] w fun e w' => e = .returned (.int .i64 0) ∧ Below w.heap.size w w' := by
  have he : Try.prog.eqGuardType Try.prog.depth 53 = false := by kernel_rfl
  have hq := neq_op_run (restO o) zeroO
  rw [opCells_zero, decide_eq_true h2] at hq
  clear h2
  have q3 : (o.k == 3) = false := by rw [hk]; decide
  have q5 : (o.k == 5) = false := by rw [hk]; decide
  have q6 : (o.k == 6) = true := by rw [hk]; decide
  have q7 : (o.k == 7) = false := by rw [hk]; decide
  have q8 : (o.k == 8) = false := by rw [hk]; decide
  clear hk
  go_enter Try.func67, Try.ntmps67
  go_upto_region 1 with fail
  obtain ⟨W1, gW1⟩ : ∃ x, w.alloc (.cells (opCells o).toArray 53) = x := ⟨_, rfl⟩
  have HO : RowKit.Hid (Whole W1 w.heap.size 53 (opCells o)) := Lib.hid (by rw [← gW1]; exact Whole.new_ w _ _)
  have HB : RowKit.Hid (Below w.heap.size w W1) := Lib.hid (by rw [← gW1]; exact below1 _ _)
  rw [gW1]
  clear gW1
  obtain ⟨g0, gg0⟩ : ∃ x, w.heap.size = x := ⟨_, rfl⟩
  rw [gg0] at HO ⊢
  clear gg0
  have lw1 : W1.cell? ⟨g0, 1, none⟩ = some (.int .i64 o.s) := HO.out.cell (i := 1) rfl
  have lw2 : W1.cell? ⟨g0, 2, none⟩ = some (.int .i64 o.n) := HO.out.cell (i := 2) rfl
  go_wp2_with fail
  clear lw1 lw2
  refine (rmay_any o.s o.n _).mono ?_
  rintro e w3 ⟨rfl, hb3⟩
  have O_4 := Lib.hid (HO.out.bl hb3)
  have Bel_4 := Lib.hid (bel_bl HB.out hb3)
  clear hb3
  have lw5 : w3.cell? ⟨g0, 0, none⟩ = some (.int .i64 o.k) := O_4.out.cell (i := 0) rfl
  go_upto_region 2 with fail
  refine wp_region_lit ?_
  refine wl_read (v := ?_) (some 12) rfl (by rfl) ?_ ?_
  rotate_left
  · go_simp; (try with_reducible rfl)
  simp only [Act.put, stA_, st0_, st1_]
  refine wl_read (v := ?_) (some 13) rfl (by rfl) ?_ ?_
  rotate_left
  · go_simp; (try with_reducible rfl)
  simp only [Act.put, stA_, st0_, st1_]
  refine wl_read (v := ?_) (some 14) rfl (by rfl) ?_ ?_
  rotate_left
  · go_simp; (try with_reducible rfl)
  simp only [Act.put, stA_, st0_, st1_]
  refine wl_read (v := ?_) (some 15) rfl (by rfl) ?_ ?_
  rotate_left
  · go_simp; (try with_reducible rfl)
  simp only [Act.put, stA_, st0_, st1_]
  refine wl_read (v := ?_) (some 16) rfl (by rfl) ?_ ?_
  rotate_left
  · go_simp; (try with_reducible rfl)
  simp only [Act.put, stA_, st0_, st1_]
  refine wl_read (v := ?_) (some 17) rfl (by rfl) ?_ ?_
  rotate_left
  · go_simp; (try with_reducible rfl)
  simp only [Act.put, stA_, st0_, st1_]
  refine wl_read (v := ?_) (some 18) rfl (by rfl) ?_ ?_
  rotate_left
  · go_simp; (try with_reducible rfl)
  simp only [Act.put, stA_, st0_, st1_]
  refine wl_read (v := ?_) (some 19) rfl (by rfl) ?_ ?_
  rotate_left
  · go_simp; (try with_reducible rfl)
  simp only [Act.put, stA_, st0_, st1_]
  refine wl_read (v := ?_) (some 20) rfl (by rfl) ?_ ?_
  rotate_left
  · go_simp; (try with_reducible rfl)
  simp only [Act.put, stA_, st0_, st1_]
  refine wl_read (v := ?_) (some 21) rfl (by rfl) ?_ ?_
  rotate_left
  · go_simp; (try with_reducible rfl)
  simp only [Act.put, stA_, st0_, st1_]
  refine wl_read (v := ?_) (some 22) rfl (by rfl) ?_ ?_
  rotate_left
  · go_simp; (try with_reducible rfl)
  simp only [Act.put, stA_, st0_, st1_]
  refine wl_read (v := ?_) (some 23) rfl (by rfl) ?_ ?_
  rotate_left
  · go_simp; (try with_reducible rfl)
  simp only [Act.put, stA_, st0_, st1_]
  refine wl_read (v := ?_) (some 24) rfl (by rfl) ?_ ?_
  rotate_left
  · go_simp; (try with_reducible rfl)
  simp only [Act.put, stA_, st0_, st1_]
  refine wl_load (some 25) rfl (by rfl) 53 (.tmp 1) rfl g0 rfl 53 (opCells o) _ O_4.out Try.underlying53 rfl (by kernel_rfl) ?_
  simp only [Act.put, stA_, st0_, st1_]
  go_wp2_with fail
  clear lw5
  refine (rest_any o _).mono ?_
  rintro e w6 ⟨rfl, hb6⟩
  have O_7 := Lib.hid (O_4.out.bl hb6)
  have Bel_7 := Lib.hid (bel_bl Bel_4.out hb6)
  clear hb6
  have lw8 : w6.cell? ⟨g0, 0, none⟩ = some (.int .i64 o.k) := O_7.out.cell (i := 0) rfl
  have lw9 : w6.cell? ⟨g0, 5, none⟩ = some (.int .i64 o.s2) := O_7.out.cell (i := 5) rfl
  have lw10 : w6.cell? ⟨g0, 6, none⟩ = some (.int .i64 o.n2) := O_7.out.cell (i := 6) rfl
  go_wp2_with fail
  clear lw8 lw9 lw10
  refine (rmay_any o.s2 o.n2 _).mono ?_
  rintro e w11 ⟨rfl, hb11⟩
  have O_12 := Lib.hid (O_7.out.bl hb11)
  have Bel_12 := Lib.hid (bel_bl Bel_7.out hb11)
  clear hb11
  have lw13 : w11.cell? ⟨g0, 0, none⟩ = some (.int .i64 o.k) := O_12.out.cell (i := 0) rfl
  go_wp2
  go_ret
  exact ⟨rfl, Bel_12.out⟩
set_option maxRecDepth 100000 in
set_option maxHeartbeats 2000000 in
theorem rm_8n (o : OpT) (h0 : decide (o.k < 1) = false) (h9 : decide (8 < o.k) = false) (h1 : mayI o.s o.n = true) (h2 : restO o = zeroO) (hk : o.k = 8) (h3 : mayAt o.m = false) (w : World) : Calls Try.prog 67 #[.agg (opCells o).toArray] w fun e w' => e = .returned (.int .i64 1) ∧ Below w.heap.size w w' := by
  have he : Try.prog.eqGuardType Try.prog.depth 53 = false := by kernel_rfl
  have hq := neq_op_run (restO o) zeroO
  rw [opCells_zero, decide_eq_true h2] at hq
  clear h2
  have q3 : (o.k == 3) = false := by rw [hk]; decide
  have q5 : (o.k == 5) = false := by rw [hk]; decide
  have q6 : (o.k == 6) = false := by rw [hk]; decide
  have q7 : (o.k == 7) = false := by rw [hk]; decide
  have q8 : (o.k == 8) = true := by rw [hk]; decide
  clear hk
  go_enter Try.func67, Try.ntmps67
  go_upto_region 1 with fail
  obtain ⟨W1, gW1⟩ : ∃ x, w.alloc (.cells (opCells o).toArray 53) = x := ⟨_, rfl⟩
  have HO : RowKit.Hid (Whole W1 w.heap.size 53 (opCells o)) := Lib.hid (by rw [← gW1]; exact Whole.new_ w _ _)
  have HB : RowKit.Hid (Below w.heap.size w W1) := Lib.hid (by rw [← gW1]; exact below1 _ _)
  rw [gW1]
  clear gW1
  obtain ⟨g0, gg0⟩ : ∃ x, w.heap.size = x := ⟨_, rfl⟩
  rw [gg0] at HO ⊢
  clear gg0
  have lw1 : W1.cell? ⟨g0, 1, none⟩ = some (.int .i64 o.s) := HO.out.cell (i := 1) rfl
  have lw2 : W1.cell? ⟨g0, 2, none⟩ = some (.int .i64 o.n) := HO.out.cell (i := 2) rfl
  go_wp2_with fail
  clear lw1 lw2
  refine (rmay_any o.s o.n _).mono ?_
  rintro e w3 ⟨rfl, hb3⟩
  have O_4 := Lib.hid (HO.out.bl hb3)
  have Bel_4 := Lib.hid (bel_bl HB.out hb3)
  clear hb3
  have lw5 : w3.cell? ⟨g0, 0, none⟩ = some (.int .i64 o.k) := O_4.out.cell (i := 0) rfl
  go_upto_region 2 with fail
  refine wp_region_lit ?_
  refine wl_read (v := ?_) (some 12) rfl (by rfl) ?_ ?_
  rotate_left
  · go_simp; (try with_reducible rfl)
  simp only [Act.put, stA_, st0_, st1_]
  refine wl_read (v := ?_) (some 13) rfl (by rfl) ?_ ?_
  rotate_left
  · go_simp; (try with_reducible rfl)
  simp only [Act.put, stA_, st0_, st1_]
  refine wl_read (v := ?_) (some 14) rfl (by rfl) ?_ ?_
  rotate_left
  · go_simp; (try with_reducible rfl)
  simp only [Act.put, stA_, st0_, st1_]
  refine wl_read (v := ?_) (some 15) rfl (by rfl) ?_ ?_
  rotate_left
  · go_simp; (try with_reducible rfl)
  simp only [Act.put, stA_, st0_, st1_]
  refine wl_read (v := ?_) (some 16) rfl (by rfl) ?_ ?_
  rotate_left
  · go_simp; (try with_reducible rfl)
  simp only [Act.put, stA_, st0_, st1_]
  refine wl_read (v := ?_) (some 17) rfl (by rfl) ?_ ?_
  rotate_left
  · go_simp; (try with_reducible rfl)
  simp only [Act.put, stA_, st0_, st1_]
  refine wl_read (v := ?_) (some 18) rfl (by rfl) ?_ ?_
  rotate_left
  · go_simp; (try with_reducible rfl)
  simp only [Act.put, stA_, st0_, st1_]
  refine wl_read (v := ?_) (some 19) rfl (by rfl) ?_ ?_
  rotate_left
  · go_simp; (try with_reducible rfl)
  simp only [Act.put, stA_, st0_, st1_]
  refine wl_read (v := ?_) (some 20) rfl (by rfl) ?_ ?_
  rotate_left
  · go_simp; (try with_reducible rfl)
  simp only [Act.put, stA_, st0_, st1_]
  refine wl_read (v := ?_) (some 21) rfl (by rfl) ?_ ?_
  rotate_left
  · go_simp; (try with_reducible rfl)
  simp only [Act.put, stA_, st0_, st1_]
  refine wl_read (v := ?_) (some 22) rfl (by rfl) ?_ ?_
  rotate_left
  · go_simp; (try with_reducible rfl)
  simp only [Act.put, stA_, st0_, st1_]
  refine wl_read (v := ?_) (some 23) rfl (by rfl) ?_ ?_
  rotate_left
  · go_simp; (try with_reducible rfl)
  simp only [Act.put, stA_, st0_, st1_]
  refine wl_read (v := ?_) (some 24) rfl (by rfl) ?_ ?_
  rotate_left
  · go_simp; (try with_reducible rfl)
  simp only [Act.put, stA_, st0_, st1_]
  refine wl_load (some 25) rfl (by rfl) 53 (.tmp 1) rfl g0 rfl 53 (opCells o) _ O_4.out Try.underlying53 rfl (by kernel_rfl) ?_
  simp only [Act.put, stA_, st0_, st1_]
  go_wp2_with fail
  clear lw5
  refine (rest_any o _).mono ?_
  rintro e w6 ⟨rfl, hb6⟩
  have O_7 := Lib.hid (O_4.out.bl hb6)
  have Bel_7 := Lib.hid (bel_bl Bel_4.out hb6)
  clear hb6
  have lw8 : w6.cell? ⟨g0, 0, none⟩ = some (.int .i64 o.k) := O_7.out.cell (i := 0) rfl
  have lw9 : w6.cell? ⟨g0, 19, none⟩ = some (.int .i64 o.m) := O_7.out.cell (i := 19) rfl
  go_wp2_with fail
  clear lw8 lw9
  refine (rmayattr_any o.m _).mono ?_
  rintro e w10 ⟨rfl, hb10⟩
  have O_11 := Lib.hid (O_7.out.bl hb10)
  have Bel_11 := Lib.hid (bel_bl Bel_7.out hb10)
  clear hb10
  have lw12 : w10.cell? ⟨g0, 0, none⟩ = some (.int .i64 o.k) := O_11.out.cell (i := 0) rfl
  go_wp2
  go_ret
  exact ⟨rfl, Bel_11.out⟩
set_option maxRecDepth 100000 in
set_option maxHeartbeats 2000000 in
theorem rm_8y (o : OpT) (h0 : decide (o.k < 1) = false) (h9 : decide (8 < o.k) = false) (h1 : mayI o.s o.n = true) (h2 : restO o = zeroO) (hk : o.k = 8) (h3 : mayAt o.m = true) (w : World) : Calls Try.prog 67 #[.agg (opCells o).toArray] w fun e w' => e = .returned (.int .i64 0) ∧ Below w.heap.size w w' := by
  have he : Try.prog.eqGuardType Try.prog.depth 53 = false := by kernel_rfl
  have hq := neq_op_run (restO o) zeroO
  rw [opCells_zero, decide_eq_true h2] at hq
  clear h2
  have q3 : (o.k == 3) = false := by rw [hk]; decide
  have q5 : (o.k == 5) = false := by rw [hk]; decide
  have q6 : (o.k == 6) = false := by rw [hk]; decide
  have q7 : (o.k == 7) = false := by rw [hk]; decide
  have q8 : (o.k == 8) = true := by rw [hk]; decide
  clear hk
  go_enter Try.func67, Try.ntmps67
  go_upto_region 1 with fail
  obtain ⟨W1, gW1⟩ : ∃ x, w.alloc (.cells (opCells o).toArray 53) = x := ⟨_, rfl⟩
  have HO : RowKit.Hid (Whole W1 w.heap.size 53 (opCells o)) := Lib.hid (by rw [← gW1]; exact Whole.new_ w _ _)
  have HB : RowKit.Hid (Below w.heap.size w W1) := Lib.hid (by rw [← gW1]; exact below1 _ _)
  rw [gW1]
  clear gW1
  obtain ⟨g0, gg0⟩ : ∃ x, w.heap.size = x := ⟨_, rfl⟩
  rw [gg0] at HO ⊢
  clear gg0
  have lw1 : W1.cell? ⟨g0, 1, none⟩ = some (.int .i64 o.s) := HO.out.cell (i := 1) rfl
  have lw2 : W1.cell? ⟨g0, 2, none⟩ = some (.int .i64 o.n) := HO.out.cell (i := 2) rfl
  go_wp2_with fail
  clear lw1 lw2
  refine (rmay_any o.s o.n _).mono ?_
  rintro e w3 ⟨rfl, hb3⟩
  have O_4 := Lib.hid (HO.out.bl hb3)
  have Bel_4 := Lib.hid (bel_bl HB.out hb3)
  clear hb3
  have lw5 : w3.cell? ⟨g0, 0, none⟩ = some (.int .i64 o.k) := O_4.out.cell (i := 0) rfl
  go_upto_region 2 with fail
  refine wp_region_lit ?_
  refine wl_read (v := ?_) (some 12) rfl (by rfl) ?_ ?_
  rotate_left
  · go_simp; (try with_reducible rfl)
  simp only [Act.put, stA_, st0_, st1_]
  refine wl_read (v := ?_) (some 13) rfl (by rfl) ?_ ?_
  rotate_left
  · go_simp; (try with_reducible rfl)
  simp only [Act.put, stA_, st0_, st1_]
  refine wl_read (v := ?_) (some 14) rfl (by rfl) ?_ ?_
  rotate_left
  · go_simp; (try with_reducible rfl)
  simp only [Act.put, stA_, st0_, st1_]
  refine wl_read (v := ?_) (some 15) rfl (by rfl) ?_ ?_
  rotate_left
  · go_simp; (try with_reducible rfl)
  simp only [Act.put, stA_, st0_, st1_]
  refine wl_read (v := ?_) (some 16) rfl (by rfl) ?_ ?_
  rotate_left
  · go_simp; (try with_reducible rfl)
  simp only [Act.put, stA_, st0_, st1_]
  refine wl_read (v := ?_) (some 17) rfl (by rfl) ?_ ?_
  rotate_left
  · go_simp; (try with_reducible rfl)
  simp only [Act.put, stA_, st0_, st1_]
  refine wl_read (v := ?_) (some 18) rfl (by rfl) ?_ ?_
  rotate_left
  · go_simp; (try with_reducible rfl)
  simp only [Act.put, stA_, st0_, st1_]
  refine wl_read (v := ?_) (some 19) rfl (by rfl) ?_ ?_
  rotate_left
  · go_simp; (try with_reducible rfl)
  simp only [Act.put, stA_, st0_, st1_]
  refine wl_read (v := ?_) (some 20) rfl (by rfl) ?_ ?_
  rotate_left
  · go_simp; (try with_reducible rfl)
  simp only [Act.put, stA_, st0_, st1_]
  refine wl_read (v := ?_) (some 21) rfl (by rfl) ?_ ?_
  rotate_left
  · go_simp; (try with_reducible rfl)
  simp only [Act.put, stA_, st0_, st1_]
  refine wl_read (v := ?_) (some 22) rfl (by rfl) ?_ ?_
  rotate_left
  · go_simp; (try with_reducible rfl)
  simp only [Act.put, stA_, st0_, st1_]
  refine wl_read (v := ?_) (some 23) rfl (by rfl) ?_ ?_
  rotate_left
  · go_simp; (try with_reducible rfl)
  simp only [Act.put, stA_, st0_, st1_]
  refine wl_read (v := ?_) (some 24) rfl (by rfl) ?_ ?_
  rotate_left
  · go_simp; (try with_reducible rfl)
  simp only [Act.put, stA_, st0_, st1_]
  refine wl_load (some 25) rfl (by rfl) 53 (.tmp 1) rfl g0 rfl 53 (opCells o) _ O_4.out Try.underlying53 rfl (by kernel_rfl) ?_
  simp only [Act.put, stA_, st0_, st1_]
  go_wp2_with fail
  clear lw5
  refine (rest_any o _).mono ?_
  rintro e w6 ⟨rfl, hb6⟩
  have O_7 := Lib.hid (O_4.out.bl hb6)
  have Bel_7 := Lib.hid (bel_bl Bel_4.out hb6)
  clear hb6
  have lw8 : w6.cell? ⟨g0, 0, none⟩ = some (.int .i64 o.k) := O_7.out.cell (i := 0) rfl
  have lw9 : w6.cell? ⟨g0, 19, none⟩ = some (.int .i64 o.m) := O_7.out.cell (i := 19) rfl
  go_wp2_with fail
  clear lw8 lw9
  refine (rmayattr_any o.m _).mono ?_
  rintro e w10 ⟨rfl, hb10⟩
  have O_11 := Lib.hid (O_7.out.bl hb10)
  have Bel_11 := Lib.hid (bel_bl Bel_7.out hb10)
  clear hb10
  have lw12 : w10.cell? ⟨g0, 0, none⟩ = some (.int .i64 o.k) := O_11.out.cell (i := 0) rfl
  go_wp2
  go_ret
  exact ⟨rfl, Bel_11.out⟩
set_option maxRecDepth 100000 in
set_option maxHeartbeats 2000000 in
theorem rm_7n (o : OpT) (h0 : decide (o.k < 1) = false) (h9 : decide (8 < o.k) = false) (h1 : mayI o.s o.n = true) (h2 : restO o = zeroO) (hk : o.k = 7) (ht : RowKit.Hid (o.t.size ≤ maxLen)) (h3 : mayL o.t = false) (w : World) : Calls Try.prog 67 #[.agg (opCells o).toArray] w fun e w' => e = .returned (.int .i64 4) ∧ Below w.heap.size w w' := by
  have he : Try.prog.eqGuardType Try.prog.depth 53 = false := by kernel_rfl
  have hq := neq_op_run (restO o) zeroO
  rw [opCells_zero, decide_eq_true h2] at hq
  clear h2
  have q3 : (o.k == 3) = false := by rw [hk]; decide
  have q5 : (o.k == 5) = false := by rw [hk]; decide
  have q6 : (o.k == 6) = false := by rw [hk]; decide
  have q7 : (o.k == 7) = true := by rw [hk]; decide
  have q8 : (o.k == 8) = false := by rw [hk]; decide
  clear hk
  go_enter Try.func67, Try.ntmps67
  go_upto_region 1 with fail
  obtain ⟨W1, gW1⟩ : ∃ x, w.alloc (.cells (opCells o).toArray 53) = x := ⟨_, rfl⟩
  have HO : RowKit.Hid (Whole W1 w.heap.size 53 (opCells o)) := Lib.hid (by rw [← gW1]; exact Whole.new_ w _ _)
  have HB : RowKit.Hid (Below w.heap.size w W1) := Lib.hid (by rw [← gW1]; exact below1 _ _)
  rw [gW1]
  clear gW1
  obtain ⟨g0, gg0⟩ : ∃ x, w.heap.size = x := ⟨_, rfl⟩
  rw [gg0] at HO ⊢
  clear gg0
  have lw1 : W1.cell? ⟨g0, 1, none⟩ = some (.int .i64 o.s) := HO.out.cell (i := 1) rfl
  have lw2 : W1.cell? ⟨g0, 2, none⟩ = some (.int .i64 o.n) := HO.out.cell (i := 2) rfl
  go_wp2_with fail
  clear lw1 lw2
  refine (rmay_any o.s o.n _).mono ?_
  rintro e w3 ⟨rfl, hb3⟩
  have O_4 := Lib.hid (HO.out.bl hb3)
  have Bel_4 := Lib.hid (bel_bl HB.out hb3)
  clear hb3
  have lw5 : w3.cell? ⟨g0, 0, none⟩ = some (.int .i64 o.k) := O_4.out.cell (i := 0) rfl
  go_upto_region 2 with fail
  refine wp_region_lit ?_
  refine wl_read (v := ?_) (some 12) rfl (by rfl) ?_ ?_
  rotate_left
  · go_simp; (try with_reducible rfl)
  simp only [Act.put, stA_, st0_, st1_]
  refine wl_read (v := ?_) (some 13) rfl (by rfl) ?_ ?_
  rotate_left
  · go_simp; (try with_reducible rfl)
  simp only [Act.put, stA_, st0_, st1_]
  refine wl_read (v := ?_) (some 14) rfl (by rfl) ?_ ?_
  rotate_left
  · go_simp; (try with_reducible rfl)
  simp only [Act.put, stA_, st0_, st1_]
  refine wl_read (v := ?_) (some 15) rfl (by rfl) ?_ ?_
  rotate_left
  · go_simp; (try with_reducible rfl)
  simp only [Act.put, stA_, st0_, st1_]
  refine wl_read (v := ?_) (some 16) rfl (by rfl) ?_ ?_
  rotate_left
  · go_simp; (try with_reducible rfl)
  simp only [Act.put, stA_, st0_, st1_]
  refine wl_read (v := ?_) (some 17) rfl (by rfl) ?_ ?_
  rotate_left
  · go_simp; (try with_reducible rfl)
  simp only [Act.put, stA_, st0_, st1_]
  refine wl_read (v := ?_) (some 18) rfl (by rfl) ?_ ?_
  rotate_left
  · go_simp; (try with_reducible rfl)
  simp only [Act.put, stA_, st0_, st1_]
  refine wl_read (v := ?_) (some 19) rfl (by rfl) ?_ ?_
  rotate_left
  · go_simp; (try with_reducible rfl)
  simp only [Act.put, stA_, st0_, st1_]
  refine wl_read (v := ?_) (some 20) rfl (by rfl) ?_ ?_
  rotate_left
  · go_simp; (try with_reducible rfl)
  simp only [Act.put, stA_, st0_, st1_]
  refine wl_read (v := ?_) (some 21) rfl (by rfl) ?_ ?_
  rotate_left
  · go_simp; (try with_reducible rfl)
  simp only [Act.put, stA_, st0_, st1_]
  refine wl_read (v := ?_) (some 22) rfl (by rfl) ?_ ?_
  rotate_left
  · go_simp; (try with_reducible rfl)
  simp only [Act.put, stA_, st0_, st1_]
  refine wl_read (v := ?_) (some 23) rfl (by rfl) ?_ ?_
  rotate_left
  · go_simp; (try with_reducible rfl)
  simp only [Act.put, stA_, st0_, st1_]
  refine wl_read (v := ?_) (some 24) rfl (by rfl) ?_ ?_
  rotate_left
  · go_simp; (try with_reducible rfl)
  simp only [Act.put, stA_, st0_, st1_]
  refine wl_load (some 25) rfl (by rfl) 53 (.tmp 1) rfl g0 rfl 53 (opCells o) _ O_4.out Try.underlying53 rfl (by kernel_rfl) ?_
  simp only [Act.put, stA_, st0_, st1_]
  go_wp2_with fail
  clear lw5
  refine (rest_any o _).mono ?_
  rintro e w6 ⟨rfl, hb6⟩
  have O_7 := Lib.hid (O_4.out.bl hb6)
  have Bel_7 := Lib.hid (bel_bl Bel_4.out hb6)
  clear hb6
  have lw8 : w6.cell? ⟨g0, 0, none⟩ = some (.int .i64 o.k) := O_7.out.cell (i := 0) rfl
  have lw9 : w6.cell? ⟨g0, 18, none⟩ = some (.string o.t) := O_7.out.cell (i := 18) rfl
  go_wp2_with fail
  clear lw8 lw9
  refine (rmaylabel_any o.t ht.out _).mono ?_
  rintro e w10 ⟨rfl, hb10⟩
  have O_11 := Lib.hid (O_7.out.bl hb10)
  have Bel_11 := Lib.hid (bel_bl Bel_7.out hb10)
  clear hb10
  have lw12 : w10.cell? ⟨g0, 0, none⟩ = some (.int .i64 o.k) := O_11.out.cell (i := 0) rfl
  go_wp2
  go_ret
  exact ⟨rfl, Bel_11.out⟩
set_option maxRecDepth 100000 in
set_option maxHeartbeats 2000000 in
theorem rm_7y (o : OpT) (h0 : decide (o.k < 1) = false) (h9 : decide (8 < o.k) = false) (h1 : mayI o.s o.n = true) (h2 : restO o = zeroO) (hk : o.k = 7) (ht : RowKit.Hid (o.t.size ≤ maxLen)) (h3 : mayL o.t = true) (w : World) : Calls Try.prog 67 #[.agg (opCells o).toArray] w fun e w' => e = .returned (.int .i64 0) ∧ Below w.heap.size w w' := by
  have he : Try.prog.eqGuardType Try.prog.depth 53 = false := by kernel_rfl
  have hq := neq_op_run (restO o) zeroO
  rw [opCells_zero, decide_eq_true h2] at hq
  clear h2
  have q3 : (o.k == 3) = false := by rw [hk]; decide
  have q5 : (o.k == 5) = false := by rw [hk]; decide
  have q6 : (o.k == 6) = false := by rw [hk]; decide
  have q7 : (o.k == 7) = true := by rw [hk]; decide
  have q8 : (o.k == 8) = false := by rw [hk]; decide
  clear hk
  go_enter Try.func67, Try.ntmps67
  go_upto_region 1 with fail
  obtain ⟨W1, gW1⟩ : ∃ x, w.alloc (.cells (opCells o).toArray 53) = x := ⟨_, rfl⟩
  have HO : RowKit.Hid (Whole W1 w.heap.size 53 (opCells o)) := Lib.hid (by rw [← gW1]; exact Whole.new_ w _ _)
  have HB : RowKit.Hid (Below w.heap.size w W1) := Lib.hid (by rw [← gW1]; exact below1 _ _)
  rw [gW1]
  clear gW1
  obtain ⟨g0, gg0⟩ : ∃ x, w.heap.size = x := ⟨_, rfl⟩
  rw [gg0] at HO ⊢
  clear gg0
  have lw1 : W1.cell? ⟨g0, 1, none⟩ = some (.int .i64 o.s) := HO.out.cell (i := 1) rfl
  have lw2 : W1.cell? ⟨g0, 2, none⟩ = some (.int .i64 o.n) := HO.out.cell (i := 2) rfl
  go_wp2_with fail
  clear lw1 lw2
  refine (rmay_any o.s o.n _).mono ?_
  rintro e w3 ⟨rfl, hb3⟩
  have O_4 := Lib.hid (HO.out.bl hb3)
  have Bel_4 := Lib.hid (bel_bl HB.out hb3)
  clear hb3
  have lw5 : w3.cell? ⟨g0, 0, none⟩ = some (.int .i64 o.k) := O_4.out.cell (i := 0) rfl
  go_upto_region 2 with fail
  refine wp_region_lit ?_
  refine wl_read (v := ?_) (some 12) rfl (by rfl) ?_ ?_
  rotate_left
  · go_simp; (try with_reducible rfl)
  simp only [Act.put, stA_, st0_, st1_]
  refine wl_read (v := ?_) (some 13) rfl (by rfl) ?_ ?_
  rotate_left
  · go_simp; (try with_reducible rfl)
  simp only [Act.put, stA_, st0_, st1_]
  refine wl_read (v := ?_) (some 14) rfl (by rfl) ?_ ?_
  rotate_left
  · go_simp; (try with_reducible rfl)
  simp only [Act.put, stA_, st0_, st1_]
  refine wl_read (v := ?_) (some 15) rfl (by rfl) ?_ ?_
  rotate_left
  · go_simp; (try with_reducible rfl)
  simp only [Act.put, stA_, st0_, st1_]
  refine wl_read (v := ?_) (some 16) rfl (by rfl) ?_ ?_
  rotate_left
  · go_simp; (try with_reducible rfl)
  simp only [Act.put, stA_, st0_, st1_]
  refine wl_read (v := ?_) (some 17) rfl (by rfl) ?_ ?_
  rotate_left
  · go_simp; (try with_reducible rfl)
  simp only [Act.put, stA_, st0_, st1_]
  refine wl_read (v := ?_) (some 18) rfl (by rfl) ?_ ?_
  rotate_left
  · go_simp; (try with_reducible rfl)
  simp only [Act.put, stA_, st0_, st1_]
  refine wl_read (v := ?_) (some 19) rfl (by rfl) ?_ ?_
  rotate_left
  · go_simp; (try with_reducible rfl)
  simp only [Act.put, stA_, st0_, st1_]
  refine wl_read (v := ?_) (some 20) rfl (by rfl) ?_ ?_
  rotate_left
  · go_simp; (try with_reducible rfl)
  simp only [Act.put, stA_, st0_, st1_]
  refine wl_read (v := ?_) (some 21) rfl (by rfl) ?_ ?_
  rotate_left
  · go_simp; (try with_reducible rfl)
  simp only [Act.put, stA_, st0_, st1_]
  refine wl_read (v := ?_) (some 22) rfl (by rfl) ?_ ?_
  rotate_left
  · go_simp; (try with_reducible rfl)
  simp only [Act.put, stA_, st0_, st1_]
  refine wl_read (v := ?_) (some 23) rfl (by rfl) ?_ ?_
  rotate_left
  · go_simp; (try with_reducible rfl)
  simp only [Act.put, stA_, st0_, st1_]
  refine wl_read (v := ?_) (some 24) rfl (by rfl) ?_ ?_
  rotate_left
  · go_simp; (try with_reducible rfl)
  simp only [Act.put, stA_, st0_, st1_]
  refine wl_load (some 25) rfl (by rfl) 53 (.tmp 1) rfl g0 rfl 53 (opCells o) _ O_4.out Try.underlying53 rfl (by kernel_rfl) ?_
  simp only [Act.put, stA_, st0_, st1_]
  go_wp2_with fail
  clear lw5
  refine (rest_any o _).mono ?_
  rintro e w6 ⟨rfl, hb6⟩
  have O_7 := Lib.hid (O_4.out.bl hb6)
  have Bel_7 := Lib.hid (bel_bl Bel_4.out hb6)
  clear hb6
  have lw8 : w6.cell? ⟨g0, 0, none⟩ = some (.int .i64 o.k) := O_7.out.cell (i := 0) rfl
  have lw9 : w6.cell? ⟨g0, 18, none⟩ = some (.string o.t) := O_7.out.cell (i := 18) rfl
  go_wp2_with fail
  clear lw8 lw9
  refine (rmaylabel_any o.t ht.out _).mono ?_
  rintro e w10 ⟨rfl, hb10⟩
  have O_11 := Lib.hid (O_7.out.bl hb10)
  have Bel_11 := Lib.hid (bel_bl Bel_7.out hb10)
  clear hb10
  have lw12 : w10.cell? ⟨g0, 0, none⟩ = some (.int .i64 o.k) := O_11.out.cell (i := 0) rfl
  go_wp2
  go_ret
  exact ⟨rfl, Bel_11.out⟩
set_option maxRecDepth 100000 in
set_option maxHeartbeats 2000000 in
theorem rm_0y (o : OpT) (h0 : decide (o.k < 1) = false) (h9 : decide (8 < o.k) = false) (h1 : mayI o.s o.n = true) (h2 : restO o = zeroO) (q3 : (o.k == 3) = false) (q5 : (o.k == 5) = false) (q6 : (o.k == 6) = false) (q7 : (o.k == 7) = false) (q8 : (o.k == 8) = false) (w : World) : Calls Try.prog 67 #[.agg (opCells o).toArray] w fun e w' => e = .returned (.int .i64 0) ∧ Below w.heap.size w w' := by
  have he : Try.prog.eqGuardType Try.prog.depth 53 = false := by kernel_rfl
  have hq := neq_op_run (restO o) zeroO
  rw [opCells_zero, decide_eq_true h2] at hq
  clear h2
  go_enter Try.func67, Try.ntmps67
  go_upto_region 1 with fail
  obtain ⟨W1, gW1⟩ : ∃ x, w.alloc (.cells (opCells o).toArray 53) = x := ⟨_, rfl⟩
  have HO : RowKit.Hid (Whole W1 w.heap.size 53 (opCells o)) := Lib.hid (by rw [← gW1]; exact Whole.new_ w _ _)
  have HB : RowKit.Hid (Below w.heap.size w W1) := Lib.hid (by rw [← gW1]; exact below1 _ _)
  rw [gW1]
  clear gW1
  obtain ⟨g0, gg0⟩ : ∃ x, w.heap.size = x := ⟨_, rfl⟩
  rw [gg0] at HO ⊢
  clear gg0
  have lw1 : W1.cell? ⟨g0, 1, none⟩ = some (.int .i64 o.s) := HO.out.cell (i := 1) rfl
  have lw2 : W1.cell? ⟨g0, 2, none⟩ = some (.int .i64 o.n) := HO.out.cell (i := 2) rfl
  go_wp2_with fail
  clear lw1 lw2
  refine (rmay_any o.s o.n _).mono ?_
  rintro e w3 ⟨rfl, hb3⟩
  have O_4 := Lib.hid (HO.out.bl hb3)
  have Bel_4 := Lib.hid (bel_bl HB.out hb3)
  clear hb3
  have lw5 : w3.cell? ⟨g0, 0, none⟩ = some (.int .i64 o.k) := O_4.out.cell (i := 0) rfl
  go_upto_region 2 with fail
  refine wp_region_lit ?_
  refine wl_read (v := ?_) (some 12) rfl (by rfl) ?_ ?_
  rotate_left
  · go_simp; (try with_reducible rfl)
  simp only [Act.put, stA_, st0_, st1_]
  refine wl_read (v := ?_) (some 13) rfl (by rfl) ?_ ?_
  rotate_left
  · go_simp; (try with_reducible rfl)
  simp only [Act.put, stA_, st0_, st1_]
  refine wl_read (v := ?_) (some 14) rfl (by rfl) ?_ ?_
  rotate_left
  · go_simp; (try with_reducible rfl)
  simp only [Act.put, stA_, st0_, st1_]
  refine wl_read (v := ?_) (some 15) rfl (by rfl) ?_ ?_
  rotate_left
  · go_simp; (try with_reducible rfl)
  simp only [Act.put, stA_, st0_, st1_]
  refine wl_read (v := ?_) (some 16) rfl (by rfl) ?_ ?_
  rotate_left
  · go_simp; (try with_reducible rfl)
  simp only [Act.put, stA_, st0_, st1_]
  refine wl_read (v := ?_) (some 17) rfl (by rfl) ?_ ?_
  rotate_left
  · go_simp; (try with_reducible rfl)
  simp only [Act.put, stA_, st0_, st1_]
  refine wl_read (v := ?_) (some 18) rfl (by rfl) ?_ ?_
  rotate_left
  · go_simp; (try with_reducible rfl)
  simp only [Act.put, stA_, st0_, st1_]
  refine wl_read (v := ?_) (some 19) rfl (by rfl) ?_ ?_
  rotate_left
  · go_simp; (try with_reducible rfl)
  simp only [Act.put, stA_, st0_, st1_]
  refine wl_read (v := ?_) (some 20) rfl (by rfl) ?_ ?_
  rotate_left
  · go_simp; (try with_reducible rfl)
  simp only [Act.put, stA_, st0_, st1_]
  refine wl_read (v := ?_) (some 21) rfl (by rfl) ?_ ?_
  rotate_left
  · go_simp; (try with_reducible rfl)
  simp only [Act.put, stA_, st0_, st1_]
  refine wl_read (v := ?_) (some 22) rfl (by rfl) ?_ ?_
  rotate_left
  · go_simp; (try with_reducible rfl)
  simp only [Act.put, stA_, st0_, st1_]
  refine wl_read (v := ?_) (some 23) rfl (by rfl) ?_ ?_
  rotate_left
  · go_simp; (try with_reducible rfl)
  simp only [Act.put, stA_, st0_, st1_]
  refine wl_read (v := ?_) (some 24) rfl (by rfl) ?_ ?_
  rotate_left
  · go_simp; (try with_reducible rfl)
  simp only [Act.put, stA_, st0_, st1_]
  refine wl_load (some 25) rfl (by rfl) 53 (.tmp 1) rfl g0 rfl 53 (opCells o) _ O_4.out Try.underlying53 rfl (by kernel_rfl) ?_
  simp only [Act.put, stA_, st0_, st1_]
  go_wp2_with fail
  clear lw5
  refine (rest_any o _).mono ?_
  rintro e w6 ⟨rfl, hb6⟩
  have O_7 := Lib.hid (O_4.out.bl hb6)
  have Bel_7 := Lib.hid (bel_bl Bel_4.out hb6)
  clear hb6
  have lw8 : w6.cell? ⟨g0, 0, none⟩ = some (.int .i64 o.k) := O_7.out.cell (i := 0) rfl
  go_wp2
  go_ret
  exact ⟨rfl, Bel_7.out⟩
end Go.Proofs.Ytinfbaflkjghhaa
/- The contract of the document's own May for operations, whole: it is the program's. -/
namespace Go.Proofs.Ytinfbaflkjghhaa
open Go.RowKit
theorem mayO_rest (o : OpT) (h1 : mayI o.s o.n = true) : mayO o = if restO o = zeroO then (if fitsO o = true then (if mayL o.t = true then 0 else 4) else 1) else 1 := by
  have key : (fitsO o = true ∧ o = onlyO o) ↔ (restO o = zeroO ∧ fitsO o = true) := by
    obtain ⟨k, s, n, s1, n1, s2, n2, a0, a1, a2, a3, a4, b0, b1, b2, b3, b4, e, t, m⟩ := o
    unfold onlyO restO zeroO
    by_cases k3 : k = 3
    · subst k3
      simp
      constructor
      · rintro ⟨h, h2⟩; simp_all
      · rintro ⟨h, h2⟩; simp_all
    by_cases k5 : k = 5
    · subst k5
      simp
      constructor
      · rintro ⟨h, h2⟩; simp_all
      · rintro ⟨h, h2⟩; simp_all
    by_cases k6 : k = 6
    · subst k6
      simp
      constructor
      · rintro ⟨h, h2⟩; simp_all
      · rintro ⟨h, h2⟩; simp_all
    by_cases k7 : k = 7
    · subst k7
      simp
      constructor
      · rintro ⟨h, h2⟩; simp_all
      · rintro ⟨h, h2⟩; simp_all
    by_cases k8 : k = 8
    · subst k8
      simp
      constructor
      · rintro ⟨h, h2⟩; simp_all
      · rintro ⟨h, h2⟩; simp_all
    simp only [k3, k5, k6, k7, k8, if_false]
    simp
    constructor
    · rintro ⟨h, h2⟩; simp_all
    · rintro ⟨h, h2⟩; simp_all
  unfold mayO
  by_cases hz : restO o = zeroO
  · rw [if_pos hz]
    by_cases hf : fitsO o = true
    · rw [if_pos hf, if_pos ⟨h1, key.2 ⟨hz, hf⟩⟩]
    · rw [if_neg hf, if_neg (fun h => hf h.2.1)]
  · rw [if_neg hz, if_neg (fun h => hz (key.1 h.2).1)]
theorem mayL_empty : mayL ⟨#[]⟩ = true := by decide
theorem rmayop_any (o : OpT) (ht : o.t.size ≤ maxLen) : Pure 67 #[.agg (opCells o).toArray] (.int .i64 (mayO o)) := fun w => by
  have fin : ∀ {b : Int}, (Calls Try.prog 67 #[.agg (opCells o).toArray] w fun e w' => e = .returned (.int .i64 b) ∧ Below w.heap.size w w') → mayO o = b → Calls Try.prog 67 #[.agg (opCells o).toArray] w fun e w' => e = .returned (.int .i64 (mayO o)) ∧ Below w.heap.size w w' := fun h e => e ▸ h
  by_cases h0 : o.k < 1
  · refine fin (rm_lo o (decide_eq_true h0) w) ?_
    unfold mayO fitsO
    rw [if_neg]
    rintro ⟨-, h, -⟩
    rw [if_neg (by omega), if_neg (by omega), if_neg (by omega), if_neg (by omega), if_neg (by omega)] at h
    cases h
  by_cases h9 : 8 < o.k
  · refine fin (rm_hi o (decide_eq_false h0) (decide_eq_true h9) w) ?_
    unfold mayO fitsO
    rw [if_neg]
    rintro ⟨-, h, -⟩
    rw [if_neg (by omega), if_neg (by omega), if_neg (by omega), if_neg (by omega), if_neg (by omega)] at h
    cases h
  by_cases h1 : mayI o.s o.n = true
  case neg =>
    refine fin (rm_id o (decide_eq_false h0) (decide_eq_false h9) (by simpa using h1) w) ?_
    unfold mayO
    rw [if_neg (fun h => h1 h.1)]
  have hm := mayO_rest o h1
  by_cases h2 : restO o = zeroO
  case neg =>
    refine fin (rm_rest o (decide_eq_false h0) (decide_eq_false h9) h1 h2 w) ?_
    rw [hm, if_neg h2]
  rw [if_pos h2] at hm
  have ht0 : o.k ≠ 7 → o.t = ⟨#[]⟩ := fun hk => by
    have := congrArg OpT.t h2
    unfold restO at this
    repeat' split at this
    all_goals first | exact this | (exfalso; omega)
  by_cases k3 : o.k = 3
  · have hf : fitsO o = (mayC o.a0 o.a1 o.a2 o.a3 o.a4 && mayC o.b0 o.b1 o.b2 o.b3 o.b4) := by
      unfold fitsO
      rw [if_neg (by omega), if_pos k3]
    rw [hf, ht0 (by omega), mayL_empty] at hm
    by_cases h3 : mayC o.a0 o.a1 o.a2 o.a3 o.a4 = true
    · by_cases h4 : mayC o.b0 o.b1 o.b2 o.b3 o.b4 = true
      · exact fin (rm_3y o (decide_eq_false h0) (decide_eq_false h9) h1 h2 k3 h3 h4 w) (by rw [hm, h3, h4]; rfl)
      · have h4' : mayC o.b0 o.b1 o.b2 o.b3 o.b4 = false := by simpa using h4
        exact fin (rm_3m o (decide_eq_false h0) (decide_eq_false h9) h1 h2 k3 h3 h4' w) (by rw [hm, h3, h4']; rfl)
    · have h3' : mayC o.a0 o.a1 o.a2 o.a3 o.a4 = false := by simpa using h3
      exact fin (rm_3n o (decide_eq_false h0) (decide_eq_false h9) h1 h2 k3 h3' w) (by rw [hm, h3']; rfl)
  by_cases k5 : o.k = 5
  · have hf : fitsO o = (mayI o.s1 o.n1 && mayI o.s2 o.n2 && decide (0 ≤ o.m ∧ o.m ≤ 3)) := by
      unfold fitsO
      rw [if_neg (by omega), if_neg k3, if_pos k5]
    rw [hf, ht0 (by omega), mayL_empty] at hm
    by_cases h3 : mayI o.s1 o.n1 = true
    case neg =>
      have h3' : mayI o.s1 o.n1 = false := by simpa using h3
      exact fin (rm_5a o (decide_eq_false h0) (decide_eq_false h9) h1 h2 k5 h3' w) (by rw [hm, h3']; rfl)
    by_cases h4 : mayI o.s2 o.n2 = true
    case neg =>
      have h4' : mayI o.s2 o.n2 = false := by simpa using h4
      exact fin (rm_5b o (decide_eq_false h0) (decide_eq_false h9) h1 h2 k5 h3 h4' w) (by rw [hm, h3, h4']; rfl)
    by_cases h5 : o.m < 0
    · exact fin (rm_5c o (decide_eq_false h0) (decide_eq_false h9) h1 h2 k5 h3 h4 (decide_eq_true h5) w) (by rw [hm, h3, h4, decide_eq_false (by omega)]; rfl)
    by_cases h6 : 3 < o.m
    · exact fin (rm_5d o (decide_eq_false h0) (decide_eq_false h9) h1 h2 k5 h3 h4 (decide_eq_false h5) (decide_eq_true h6) w) (by rw [hm, h3, h4, decide_eq_false (by omega)]; rfl)
    · exact fin (rm_5y o (decide_eq_false h0) (decide_eq_false h9) h1 h2 k5 h3 h4 (decide_eq_false h5) (decide_eq_false h6) w) (by rw [hm, h3, h4, decide_eq_true (by omega)]; rfl)
  by_cases k6 : o.k = 6
  · have hf : fitsO o = mayI o.s2 o.n2 := by
      unfold fitsO
      rw [if_neg (by omega), if_neg k3, if_neg k5, if_pos k6]
    rw [hf, ht0 (by omega), mayL_empty] at hm
    by_cases h3 : mayI o.s2 o.n2 = true
    · exact fin (rm_6y o (decide_eq_false h0) (decide_eq_false h9) h1 h2 k6 h3 w) (by rw [hm, h3]; rfl)
    · have h3' : mayI o.s2 o.n2 = false := by simpa using h3
      exact fin (rm_6n o (decide_eq_false h0) (decide_eq_false h9) h1 h2 k6 h3' w) (by rw [hm, h3']; rfl)
  by_cases k8 : o.k = 8
  · have hf : fitsO o = mayAt o.m := by
      unfold fitsO
      rw [if_neg (by omega), if_neg k3, if_neg k5, if_neg k6, if_pos k8]
    rw [hf, ht0 (by omega), mayL_empty] at hm
    by_cases h3 : mayAt o.m = true
    · exact fin (rm_8y o (decide_eq_false h0) (decide_eq_false h9) h1 h2 k8 h3 w) (by rw [hm, h3]; rfl)
    · have h3' : mayAt o.m = false := by simpa using h3
      exact fin (rm_8n o (decide_eq_false h0) (decide_eq_false h9) h1 h2 k8 h3' w) (by rw [hm, h3']; rfl)
  have hf : fitsO o = true := by
    unfold fitsO
    rw [if_pos (by omega)]
  rw [hf, if_pos rfl] at hm
  by_cases k7 : o.k = 7
  · by_cases h3 : mayL o.t = true
    · exact fin (rm_7y o (decide_eq_false h0) (decide_eq_false h9) h1 h2 k7 (Lib.hid ht) h3 w) (by rw [hm, h3]; rfl)
    · have h3' : mayL o.t = false := by simpa using h3
      exact fin (rm_7n o (decide_eq_false h0) (decide_eq_false h9) h1 h2 k7 (Lib.hid ht) h3' w) (by rw [hm, h3']; rfl)
  · rw [ht0 k7, mayL_empty] at hm
    exact fin (rm_0y o (decide_eq_false h0) (decide_eq_false h9) h1 h2 (by simpa using k3) (by simpa using k5) (by simpa using k6) (by simpa using k7) (by simpa using k8) w) (by rw [hm]; rfl)
end Go.Proofs.Ytinfbaflkjghhaa
