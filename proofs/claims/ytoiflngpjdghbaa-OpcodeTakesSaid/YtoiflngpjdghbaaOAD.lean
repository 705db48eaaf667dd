/- Several texts in one. -/
import Derived.Test.YtoiflngpjdghbaaOAC
import Derived.Test.YtoiflngpjdghbaaOAA
import Derived.Deep.WholeRow
import Derived.Great.Walk
import Derived.Test.YtoiflngpjdghbaaOAB

/- The contract of op.only. -/
namespace Go.Proofs.Ytoiflngpjdghbaa
open Go.RowKit Go.Great
set_option linter.unusedSimpArgs false
set_option linter.unusedVariables false

def onlyO (o : OpT) : OpT :=
  if o.k = 3 then ⟨o.k, o.s, o.n, 0, 0, 0, 0, o.a0, o.a1, o.a2, o.a3, o.a4, o.b0, o.b1, o.b2, o.b3, o.b4, false, ⟨#[]⟩, 0⟩
  else if o.k = 5 then ⟨o.k, o.s, o.n, o.s1, o.n1, o.s2, o.n2, 0, 0, 0, 0, 0, 0, 0, 0, 0, 0, false, ⟨#[]⟩, o.m⟩
  else if o.k = 6 then ⟨o.k, o.s, o.n, 0, 0, o.s2, o.n2, 0, 0, 0, 0, 0, 0, 0, 0, 0, 0, false, ⟨#[]⟩, 0⟩
  else if o.k = 7 then ⟨o.k, o.s, o.n, 0, 0, 0, 0, 0, 0, 0, 0, 0, 0, 0, 0, 0, 0, o.e, o.t, 0⟩
  else if o.k = 8 then ⟨o.k, o.s, o.n, 0, 0, 0, 0, 0, 0, 0, 0, 0, 0, 0, 0, 0, 0, o.e, ⟨#[]⟩, o.m⟩
  else ⟨o.k, o.s, o.n, 0, 0, 0, 0, 0, 0, 0, 0, 0, 0, 0, 0, 0, 0, false, ⟨#[]⟩, 0⟩

set_option maxRecDepth 100000 in
set_option maxHeartbeats 2000000 in
theorem only_0 (k s n s1 n1 s2 n2 a0 a1 a2 a3 a4 b0 b1 b2 b3 b4 : Int) (e : Bool) (t : ByteArray) (m : Int) (q3 : (k == 3) = false) (q5 : (k == 5) = false) (q6 : (k == 6) = false) (q7 : (k == 7) = false) (q8 : (k == 8) = false) : Pure 47 #[.agg #[.int .i64 k, .int .i64 s, .int .i64 n, .int .i64 s1, .int .i64 n1, .int .i64 s2, .int .i64 n2, .int .i64 a0, .int .i64 a1, .int .i64 a2, .int .i64 a3, .int .i64 a4, .int .i64 b0, .int .i64 b1, .int .i64 b2, .int .i64 b3, .int .i64 b4, .bool e, .string t, .int .i64 m]] (.agg #[.int .i64 k, .int .i64 s, .int .i64 n, .int .i64 0, .int .i64 0, .int .i64 0, .int .i64 0, .int .i64 0, .int .i64 0, .int .i64 0, .int .i64 0, .int .i64 0, .int .i64 0, .int .i64 0, .int .i64 0, .int .i64 0, .int .i64 0, .bool false, .string ⟨#[]⟩, .int .i64 0]) := fun w => by
  go_enter Try.func47, Try.ntmps47
  go_upto_region 1 with fail
  obtain ⟨W1, gW1⟩ : ∃ x, (w.alloc (.cells #[.int .i64 k, .int .i64 s, .int .i64 n, .int .i64 s1, .int .i64 n1, .int .i64 s2, .int .i64 n2, .int .i64 a0, .int .i64 a1, .int .i64 a2, .int .i64 a3, .int .i64 a4, .int .i64 b0, .int .i64 b1, .int .i64 b2, .int .i64 b3, .int .i64 b4, .bool e, .string t, .int .i64 m] 48)).alloc (.cells #[.int .i64 0, .int .i64 0, .int .i64 0, .int .i64 0, .int .i64 0, .int .i64 0, .int .i64 0, .int .i64 0, .int .i64 0, .int .i64 0, .int .i64 0, .int .i64 0, .int .i64 0, .int .i64 0, .int .i64 0, .int .i64 0, .int .i64 0, .bool false, .string ⟨#[]⟩, .int .i64 0] 48) = x := ⟨_, rfl⟩
  have hO : Whole W1 w.heap.size 48 [.int .i64 k, .int .i64 s, .int .i64 n, .int .i64 s1, .int .i64 n1, .int .i64 s2, .int .i64 n2, .int .i64 a0, .int .i64 a1, .int .i64 a2, .int .i64 a3, .int .i64 a4, .int .i64 b0, .int .i64 b1, .int .i64 b2, .int .i64 b3, .int .i64 b4, .bool e, .string t, .int .i64 m] := by rw [← gW1]; exact (Whole.new_ w _ [.int .i64 k, .int .i64 s, .int .i64 n, .int .i64 s1, .int .i64 n1, .int .i64 s2, .int .i64 n2, .int .i64 a0, .int .i64 a1, .int .i64 a2, .int .i64 a3, .int .i64 a4, .int .i64 b0, .int .i64 b1, .int .i64 b2, .int .i64 b3, .int .i64 b4, .bool e, .string t, .int .i64 m]).alloc _
  have hR : Whole W1 (w.heap.size + 1) 48 [.int .i64 0, .int .i64 0, .int .i64 0, .int .i64 0, .int .i64 0, .int .i64 0, .int .i64 0, .int .i64 0, .int .i64 0, .int .i64 0, .int .i64 0, .int .i64 0, .int .i64 0, .int .i64 0, .int .i64 0, .int .i64 0, .int .i64 0, .bool false, .string ⟨#[]⟩, .int .i64 0] := by rw [← gW1]; exact Whole.new2 (cs := [.int .i64 0, .int .i64 0, .int .i64 0, .int .i64 0, .int .i64 0, .int .i64 0, .int .i64 0, .int .i64 0, .int .i64 0, .int .i64 0, .int .i64 0, .int .i64 0, .int .i64 0, .int .i64 0, .int .i64 0, .int .i64 0, .int .i64 0, .bool false, .string ⟨#[]⟩, .int .i64 0]) (by simp)
  have hB : Below w.heap.size w W1 := by rw [← gW1]; exact below2 _ _ _
  rw [gW1]
  clear gW1
  have HO := Lib.hid hO
  have HR := Lib.hid hR
  have HB := Lib.hid hB
  have l0 := hO.cell (i := 0) rfl
  have l1 := hO.cell (i := 1) rfl
  have l2 := hO.cell (i := 2) rfl
  clear hO hR hB
  obtain ⟨g0, gg0⟩ : ∃ x, w.heap.size = x := ⟨_, rfl⟩
  rw [gg0] at HO HR l0 l1 l2 ⊢
  have HG0 : RowKit.Hid (w.heap.size ≤ g0) := Lib.hid (by omega)
  clear gg0
  refine wp_region_lit ?_
  refine wpList_readTo rfl (some 4) rfl ?_ ?_ ?_
  rotate_left
  · go_simp; exact rfl
  simp only [Act.put, List.setIfInBounds_toArray, List.set_cons_zero, List.set_cons_succ]
  refine wpList_readTo rfl (some 5) rfl ?_ ?_ ?_
  rotate_left
  · go_simp; exact rfl
  simp only [Act.put, List.setIfInBounds_toArray, List.set_cons_zero, List.set_cons_succ]
  refine wpList_readTo rfl (some 6) rfl ?_ ?_ ?_
  rotate_left
  · go_simp; exact rfl
  simp only [Act.put, List.setIfInBounds_toArray, List.set_cons_zero, List.set_cons_succ]
  refine wpList_readTo rfl (some 7) rfl ?_ ?_ ?_
  rotate_left
  · go_simp; exact rfl
  simp only [Act.put, List.setIfInBounds_toArray, List.set_cons_zero, List.set_cons_succ]
  refine wpList_readTo rfl (some 8) rfl ?_ ?_ ?_
  rotate_left
  · go_simp; exact rfl
  simp only [Act.put, List.setIfInBounds_toArray, List.set_cons_zero, List.set_cons_succ]
  refine wpList_allocTo rfl (some 3) rfl ?_ (.cells #[.int .i64 0, .int .i64 0, .int .i64 0, .int .i64 0, .int .i64 0, .int .i64 0, .int .i64 0, .int .i64 0, .int .i64 0, .int .i64 0, .int .i64 0, .int .i64 0, .int .i64 0, .int .i64 0, .int .i64 0, .int .i64 0, .int .i64 0, .bool false, .string ⟨#[]⟩, .int .i64 0] 48) ?_ ?_
  rotate_left
  · go_simp; exact rfl
  simp only [Act.put, List.setIfInBounds_toArray, List.set_cons_zero, List.set_cons_succ]
  refine wpList_store_row rfl 48 (.tmp 3) (.tmp 8) rfl W1.heap.size #[.int .i64 k, .int .i64 s, .int .i64 n, .int .i64 0, .int .i64 0, .int .i64 0, .int .i64 0, .int .i64 0, .int .i64 0, .int .i64 0, .int .i64 0, .int .i64 0, .int .i64 0, .int .i64 0, .int .i64 0, .int .i64 0, .int .i64 0, .bool false, .string ⟨#[]⟩, .int .i64 0] rfl rfl 48 #[.int .i64 0, .int .i64 0, .int .i64 0, .int .i64 0, .int .i64 0, .int .i64 0, .int .i64 0, .int .i64 0, .int .i64 0, .int .i64 0, .int .i64 0, .int .i64 0, .int .i64 0, .int .i64 0, .int .i64 0, .int .i64 0, .int .i64 0, .bool false, .string ⟨#[]⟩, .int .i64 0] (heap_alloc_last _ _) (by kernel_rfl) rfl (by simp [Value.oneCell']) ?_
  rw [World.setRow_alloc_new]
  obtain ⟨W2, gW2⟩ : ∃ x, W1.alloc (.cells #[.int .i64 k, .int .i64 s, .int .i64 n, .int .i64 0, .int .i64 0, .int .i64 0, .int .i64 0, .int .i64 0, .int .i64 0, .int .i64 0, .int .i64 0, .int .i64 0, .int .i64 0, .int .i64 0, .int .i64 0, .int .i64 0, .int .i64 0, .bool false, .string ⟨#[]⟩, .int .i64 0] 48) = x := ⟨_, rfl⟩
  obtain ⟨g2, gg2⟩ : ∃ x, W1.heap.size = x := ⟨_, rfl⟩
  have HN : RowKit.Hid (Whole W2 g2 48 [.int .i64 k, .int .i64 s, .int .i64 n, .int .i64 0, .int .i64 0, .int .i64 0, .int .i64 0, .int .i64 0, .int .i64 0, .int .i64 0, .int .i64 0, .int .i64 0, .int .i64 0, .int .i64 0, .int .i64 0, .int .i64 0, .int .i64 0, .bool false, .string ⟨#[]⟩, .int .i64 0]) := Lib.hid (by rw [← gW2, ← gg2]; exact Whole.new_ W1 _ [.int .i64 k, .int .i64 s, .int .i64 n, .int .i64 0, .int .i64 0, .int .i64 0, .int .i64 0, .int .i64 0, .int .i64 0, .int .i64 0, .int .i64 0, .int .i64 0, .int .i64 0, .int .i64 0, .int .i64 0, .int .i64 0, .int .i64 0, .bool false, .string ⟨#[]⟩, .int .i64 0])
  have HO2 := Lib.hid (show Whole W2 g0 _ _ from gW2 ▸ HO.out.alloc _)
  have HR2 := Lib.hid (show Whole W2 (g0 + 1) _ _ from gW2 ▸ HR.out.alloc _)
  have HB2 := Lib.hid (show Below w.heap.size w W2 from gW2 ▸ HB.out.alloc HB.out.size _)
  have l0 := HO2.out.cell (i := 0) rfl
  rw [gW2, gg2]
  clear gW2 gg2
  go_upto_region 13 with fail
  refine wp_region_lit ?_
  refine wpList_load_row rfl 48 (.tmp 3) rfl g2 rfl 48 #[.int .i64 k, .int .i64 s, .int .i64 n, .int .i64 0, .int .i64 0, .int .i64 0, .int .i64 0, .int .i64 0, .int .i64 0, .int .i64 0, .int .i64 0, .int .i64 0, .int .i64 0, .int .i64 0, .int .i64 0, .int .i64 0, .int .i64 0, .bool false, .string ⟨#[]⟩, .int .i64 0] (0, 0) _ HN.out Try.underlying48 rfl (by kernel_rfl) ?_
  simp only [Act.put, List.setIfInBounds_toArray, List.set_cons_zero, List.set_cons_succ]
  refine wpList_store_row rfl 48 (.tmp 2) (.tmp 51) rfl (g0 + 1) #[.int .i64 k, .int .i64 s, .int .i64 n, .int .i64 0, .int .i64 0, .int .i64 0, .int .i64 0, .int .i64 0, .int .i64 0, .int .i64 0, .int .i64 0, .int .i64 0, .int .i64 0, .int .i64 0, .int .i64 0, .int .i64 0, .int .i64 0, .bool false, .string ⟨#[]⟩, .int .i64 0] rfl rfl 48 #[.int .i64 0, .int .i64 0, .int .i64 0, .int .i64 0, .int .i64 0, .int .i64 0, .int .i64 0, .int .i64 0, .int .i64 0, .int .i64 0, .int .i64 0, .int .i64 0, .int .i64 0, .int .i64 0, .int .i64 0, .int .i64 0, .int .i64 0, .bool false, .string ⟨#[]⟩, .int .i64 0] HR2.out (by kernel_rfl) rfl (by simp [Value.oneCell']) ?_
  have HR3 : RowKit.Hid (Whole (W2.setRow (g0 + 1) #[.int .i64 k, .int .i64 s, .int .i64 n, .int .i64 0, .int .i64 0, .int .i64 0, .int .i64 0, .int .i64 0, .int .i64 0, .int .i64 0, .int .i64 0, .int .i64 0, .int .i64 0, .int .i64 0, .int .i64 0, .int .i64 0, .int .i64 0, .bool false, .string ⟨#[]⟩, .int .i64 0]) (g0 + 1) 48 [.int .i64 k, .int .i64 s, .int .i64 n, .int .i64 0, .int .i64 0, .int .i64 0, .int .i64 0, .int .i64 0, .int .i64 0, .int .i64 0, .int .i64 0, .int .i64 0, .int .i64 0, .int .i64 0, .int .i64 0, .int .i64 0, .int .i64 0, .bool false, .string ⟨#[]⟩, .int .i64 0]) := Lib.hid (setRow_heap W2 (g0 + 1) _ _ _ _ HR2.out)
  have HB3 : RowKit.Hid (Below w.heap.size w (W2.setRow (g0 + 1) #[.int .i64 k, .int .i64 s, .int .i64 n, .int .i64 0, .int .i64 0, .int .i64 0, .int .i64 0, .int .i64 0, .int .i64 0, .int .i64 0, .int .i64 0, .int .i64 0, .int .i64 0, .int .i64 0, .int .i64 0, .int .i64 0, .int .i64 0, .bool false, .string ⟨#[]⟩, .int .i64 0])) := Lib.hid ⟨HB2.out.os, HB2.out.tape, HB2.out.output, (by have := HB2.out.size; simpa [World.setRow] using this), fun i hi => (setRow_other W2 (g0 + 1) i _ (by have := HG0.out; omega)).trans (HB2.out.block i hi)⟩
  obtain ⟨W3, gW3⟩ : ∃ x, W2.setRow (g0 + 1) #[.int .i64 k, .int .i64 s, .int .i64 n, .int .i64 0, .int .i64 0, .int .i64 0, .int .i64 0, .int .i64 0, .int .i64 0, .int .i64 0, .int .i64 0, .int .i64 0, .int .i64 0, .int .i64 0, .int .i64 0, .int .i64 0, .int .i64 0, .bool false, .string ⟨#[]⟩, .int .i64 0] = x := ⟨_, rfl⟩
  rw [gW3] at HR3 HB3 ⊢
  clear gW3
  go_wp2
  exact bodyPost_ret (v := .agg #[.int .i64 k, .int .i64 s, .int .i64 n, .int .i64 0, .int .i64 0, .int .i64 0, .int .i64 0, .int .i64 0, .int .i64 0, .int .i64 0, .int .i64 0, .int .i64 0, .int .i64 0, .int .i64 0, .int .i64 0, .int .i64 0, .int .i64 0, .bool false, .string ⟨#[]⟩, .int .i64 0]) (results_cell_row Try.results47 _ W3 (g0 + 1) 48 #[.int .i64 k, .int .i64 s, .int .i64 n, .int .i64 0, .int .i64 0, .int .i64 0, .int .i64 0, .int .i64 0, .int .i64 0, .int .i64 0, .int .i64 0, .int .i64 0, .int .i64 0, .int .i64 0, .int .i64 0, .int .i64 0, .int .i64 0, .bool false, .string ⟨#[]⟩, .int .i64 0] (0, 0) _ (by rfl) HR3.out Try.underlying48 rfl (by kernel_rfl)) rfl ⟨rfl, HB3.out⟩

set_option maxRecDepth 100000 in
set_option maxHeartbeats 2000000 in
theorem only_6 (s n s1 n1 s2 n2 a0 a1 a2 a3 a4 b0 b1 b2 b3 b4 : Int) (e : Bool) (t : ByteArray) (m : Int) : Pure 47 #[.agg #[.int .i64 6, .int .i64 s, .int .i64 n, .int .i64 s1, .int .i64 n1, .int .i64 s2, .int .i64 n2, .int .i64 a0, .int .i64 a1, .int .i64 a2, .int .i64 a3, .int .i64 a4, .int .i64 b0, .int .i64 b1, .int .i64 b2, .int .i64 b3, .int .i64 b4, .bool e, .string t, .int .i64 m]] (.agg #[.int .i64 6, .int .i64 s, .int .i64 n, .int .i64 0, .int .i64 0, .int .i64 s2, .int .i64 n2, .int .i64 0, .int .i64 0, .int .i64 0, .int .i64 0, .int .i64 0, .int .i64 0, .int .i64 0, .int .i64 0, .int .i64 0, .int .i64 0, .bool false, .string ⟨#[]⟩, .int .i64 0]) := fun w => by
  go_enter Try.func47, Try.ntmps47
  go_upto_region 1 with fail
  obtain ⟨W1, gW1⟩ : ∃ x, (w.alloc (.cells #[.int .i64 6, .int .i64 s, .int .i64 n, .int .i64 s1, .int .i64 n1, .int .i64 s2, .int .i64 n2, .int .i64 a0, .int .i64 a1, .int .i64 a2, .int .i64 a3, .int .i64 a4, .int .i64 b0, .int .i64 b1, .int .i64 b2, .int .i64 b3, .int .i64 b4, .bool e, .string t, .int .i64 m] 48)).alloc (.cells #[.int .i64 0, .int .i64 0, .int .i64 0, .int .i64 0, .int .i64 0, .int .i64 0, .int .i64 0, .int .i64 0, .int .i64 0, .int .i64 0, .int .i64 0, .int .i64 0, .int .i64 0, .int .i64 0, .int .i64 0, .int .i64 0, .int .i64 0, .bool false, .string ⟨#[]⟩, .int .i64 0] 48) = x := ⟨_, rfl⟩
  have hO : Whole W1 w.heap.size 48 [.int .i64 6, .int .i64 s, .int .i64 n, .int .i64 s1, .int .i64 n1, .int .i64 s2, .int .i64 n2, .int .i64 a0, .int .i64 a1, .int .i64 a2, .int .i64 a3, .int .i64 a4, .int .i64 b0, .int .i64 b1, .int .i64 b2, .int .i64 b3, .int .i64 b4, .bool e, .string t, .int .i64 m] := by rw [← gW1]; exact (Whole.new_ w _ [.int .i64 6, .int .i64 s, .int .i64 n, .int .i64 s1, .int .i64 n1, .int .i64 s2, .int .i64 n2, .int .i64 a0, .int .i64 a1, .int .i64 a2, .int .i64 a3, .int .i64 a4, .int .i64 b0, .int .i64 b1, .int .i64 b2, .int .i64 b3, .int .i64 b4, .bool e, .string t, .int .i64 m]).alloc _
  have hR : Whole W1 (w.heap.size + 1) 48 [.int .i64 0, .int .i64 0, .int .i64 0, .int .i64 0, .int .i64 0, .int .i64 0, .int .i64 0, .int .i64 0, .int .i64 0, .int .i64 0, .int .i64 0, .int .i64 0, .int .i64 0, .int .i64 0, .int .i64 0, .int .i64 0, .int .i64 0, .bool false, .string ⟨#[]⟩, .int .i64 0] := by rw [← gW1]; exact Whole.new2 (cs := [.int .i64 0, .int .i64 0, .int .i64 0, .int .i64 0, .int .i64 0, .int .i64 0, .int .i64 0, .int .i64 0, .int .i64 0, .int .i64 0, .int .i64 0, .int .i64 0, .int .i64 0, .int .i64 0, .int .i64 0, .int .i64 0, .int .i64 0, .bool false, .string ⟨#[]⟩, .int .i64 0]) (by simp)
  have hB : Below w.heap.size w W1 := by rw [← gW1]; exact below2 _ _ _
  rw [gW1]
  clear gW1
  have HO := Lib.hid hO
  have HR := Lib.hid hR
  have HB := Lib.hid hB
  have l0 := hO.cell (i := 0) rfl
  have l1 := hO.cell (i := 1) rfl
  have l2 := hO.cell (i := 2) rfl
  clear hO hR hB
  obtain ⟨g0, gg0⟩ : ∃ x, w.heap.size = x := ⟨_, rfl⟩
  rw [gg0] at HO HR l0 l1 l2 ⊢
  have HG0 : RowKit.Hid (w.heap.size ≤ g0) := Lib.hid (by omega)
  clear gg0
  refine wp_region_lit ?_
  refine wpList_readTo rfl (some 4) rfl ?_ ?_ ?_
  rotate_left
  · go_simp; exact rfl
  simp only [Act.put, List.setIfInBounds_toArray, List.set_cons_zero, List.set_cons_succ]
  refine wpList_readTo rfl (some 5) rfl ?_ ?_ ?_
  rotate_left
  · go_simp; exact rfl
  simp only [Act.put, List.setIfInBounds_toArray, List.set_cons_zero, List.set_cons_succ]
  refine wpList_readTo rfl (some 6) rfl ?_ ?_ ?_
  rotate_left
  · go_simp; exact rfl
  simp only [Act.put, List.setIfInBounds_toArray, List.set_cons_zero, List.set_cons_succ]
  refine wpList_readTo rfl (some 7) rfl ?_ ?_ ?_
  rotate_left
  · go_simp; exact rfl
  simp only [Act.put, List.setIfInBounds_toArray, List.set_cons_zero, List.set_cons_succ]
  refine wpList_readTo rfl (some 8) rfl ?_ ?_ ?_
  rotate_left
  · go_simp; exact rfl
  simp only [Act.put, List.setIfInBounds_toArray, List.set_cons_zero, List.set_cons_succ]
  refine wpList_allocTo rfl (some 3) rfl ?_ (.cells #[.int .i64 0, .int .i64 0, .int .i64 0, .int .i64 0, .int .i64 0, .int .i64 0, .int .i64 0, .int .i64 0, .int .i64 0, .int .i64 0, .int .i64 0, .int .i64 0, .int .i64 0, .int .i64 0, .int .i64 0, .int .i64 0, .int .i64 0, .bool false, .string ⟨#[]⟩, .int .i64 0] 48) ?_ ?_
  rotate_left
  · go_simp; exact rfl
  simp only [Act.put, List.setIfInBounds_toArray, List.set_cons_zero, List.set_cons_succ]
  refine wpList_store_row rfl 48 (.tmp 3) (.tmp 8) rfl W1.heap.size #[.int .i64 6, .int .i64 s, .int .i64 n, .int .i64 0, .int .i64 0, .int .i64 0, .int .i64 0, .int .i64 0, .int .i64 0, .int .i64 0, .int .i64 0, .int .i64 0, .int .i64 0, .int .i64 0, .int .i64 0, .int .i64 0, .int .i64 0, .bool false, .string ⟨#[]⟩, .int .i64 0] rfl rfl 48 #[.int .i64 0, .int .i64 0, .int .i64 0, .int .i64 0, .int .i64 0, .int .i64 0, .int .i64 0, .int .i64 0, .int .i64 0, .int .i64 0, .int .i64 0, .int .i64 0, .int .i64 0, .int .i64 0, .int .i64 0, .int .i64 0, .int .i64 0, .bool false, .string ⟨#[]⟩, .int .i64 0] (heap_alloc_last _ _) (by kernel_rfl) rfl (by simp [Value.oneCell']) ?_
  rw [World.setRow_alloc_new]
  obtain ⟨W2, gW2⟩ : ∃ x, W1.alloc (.cells #[.int .i64 6, .int .i64 s, .int .i64 n, .int .i64 0, .int .i64 0, .int .i64 0, .int .i64 0, .int .i64 0, .int .i64 0, .int .i64 0, .int .i64 0, .int .i64 0, .int .i64 0, .int .i64 0, .int .i64 0, .int .i64 0, .int .i64 0, .bool false, .string ⟨#[]⟩, .int .i64 0] 48) = x := ⟨_, rfl⟩
  obtain ⟨g2, gg2⟩ : ∃ x, W1.heap.size = x := ⟨_, rfl⟩
  have HN : RowKit.Hid (Whole W2 g2 48 [.int .i64 6, .int .i64 s, .int .i64 n, .int .i64 0, .int .i64 0, .int .i64 0, .int .i64 0, .int .i64 0, .int .i64 0, .int .i64 0, .int .i64 0, .int .i64 0, .int .i64 0, .int .i64 0, .int .i64 0, .int .i64 0, .int .i64 0, .bool false, .string ⟨#[]⟩, .int .i64 0]) := Lib.hid (by rw [← gW2, ← gg2]; exact Whole.new_ W1 _ [.int .i64 6, .int .i64 s, .int .i64 n, .int .i64 0, .int .i64 0, .int .i64 0, .int .i64 0, .int .i64 0, .int .i64 0, .int .i64 0, .int .i64 0, .int .i64 0, .int .i64 0, .int .i64 0, .int .i64 0, .int .i64 0, .int .i64 0, .bool false, .string ⟨#[]⟩, .int .i64 0])
  have HO2 := Lib.hid (show Whole W2 g0 _ _ from gW2 ▸ HO.out.alloc _)
  have HR2 := Lib.hid (show Whole W2 (g0 + 1) _ _ from gW2 ▸ HR.out.alloc _)
  have HB2 := Lib.hid (show Below w.heap.size w W2 from gW2 ▸ HB.out.alloc HB.out.size _)
  have l0 := HO2.out.cell (i := 0) rfl
  have HNE : RowKit.Hid (g0 + 1 ≠ g2) := Lib.hid (by have := HR.out.lt; omega)
  have HG2 : RowKit.Hid (w.heap.size ≤ g2) := Lib.hid (by have := HB.out.size; omega)
  rw [gW2, gg2]
  clear gW2 gg2
  have m5 := HO2.out.cell (i := 5) rfl
  have y5 := HN.out.cell (i := 5) rfl
  have z5 := HN.out.free 5
  have m6 := HO2.out.cell (i := 6) rfl
  have y6 := HN.out.cell (i := 6) rfl
  have z6 := HN.out.free 6
  go_upto_region 13 with fail
  clear m5 m6 y5 y6 z5 z6
  obtain ⟨W2', gW2'⟩ : ∃ x, (W2.setCell ⟨g2, 5, none⟩ (.int .i64 s2)).setCell ⟨g2, 6, none⟩ (.int .i64 n2) = x := ⟨_, rfl⟩
  have HN' : RowKit.Hid (Whole W2' g2 48 [.int .i64 6, .int .i64 s, .int .i64 n, .int .i64 0, .int .i64 0, .int .i64 s2, .int .i64 n2, .int .i64 0, .int .i64 0, .int .i64 0, .int .i64 0, .int .i64 0, .int .i64 0, .int .i64 0, .int .i64 0, .int .i64 0, .int .i64 0, .bool false, .string ⟨#[]⟩, .int .i64 0]) := Lib.hid (gW2' ▸ (HN.out.set_ 5 _).set_ 6 _)
  have HR2' : RowKit.Hid (Whole W2' (g0 + 1) 48 [.int .i64 0, .int .i64 0, .int .i64 0, .int .i64 0, .int .i64 0, .int .i64 0, .int .i64 0, .int .i64 0, .int .i64 0, .int .i64 0, .int .i64 0, .int .i64 0, .int .i64 0, .int .i64 0, .int .i64 0, .int .i64 0, .int .i64 0, .bool false, .string ⟨#[]⟩, .int .i64 0]) := Lib.hid (gW2' ▸ (HR2.out.far (by show g0 + 1 ≠ g2; exact HNE.out) _).far (by show g0 + 1 ≠ g2; exact HNE.out) _)
  have HB2' : RowKit.Hid (Below w.heap.size w W2') := Lib.hid (gW2' ▸ (HB2.out.setCell (by show w.heap.size ≤ g2; exact HG2.out) _).setCell (by show w.heap.size ≤ g2; exact HG2.out) _)
  rw [gW2']
  clear gW2'
  refine wp_region_lit ?_
  refine wpList_load_row rfl 48 (.tmp 3) rfl g2 rfl 48 #[.int .i64 6, .int .i64 s, .int .i64 n, .int .i64 0, .int .i64 0, .int .i64 s2, .int .i64 n2, .int .i64 0, .int .i64 0, .int .i64 0, .int .i64 0, .int .i64 0, .int .i64 0, .int .i64 0, .int .i64 0, .int .i64 0, .int .i64 0, .bool false, .string ⟨#[]⟩, .int .i64 0] (0, 0) _ HN'.out Try.underlying48 rfl (by kernel_rfl) ?_
  simp only [Act.put, List.setIfInBounds_toArray, List.set_cons_zero, List.set_cons_succ]
  refine wpList_store_row rfl 48 (.tmp 2) (.tmp 51) rfl (g0 + 1) #[.int .i64 6, .int .i64 s, .int .i64 n, .int .i64 0, .int .i64 0, .int .i64 s2, .int .i64 n2, .int .i64 0, .int .i64 0, .int .i64 0, .int .i64 0, .int .i64 0, .int .i64 0, .int .i64 0, .int .i64 0, .int .i64 0, .int .i64 0, .bool false, .string ⟨#[]⟩, .int .i64 0] rfl rfl 48 #[.int .i64 0, .int .i64 0, .int .i64 0, .int .i64 0, .int .i64 0, .int .i64 0, .int .i64 0, .int .i64 0, .int .i64 0, .int .i64 0, .int .i64 0, .int .i64 0, .int .i64 0, .int .i64 0, .int .i64 0, .int .i64 0, .int .i64 0, .bool false, .string ⟨#[]⟩, .int .i64 0] HR2'.out (by kernel_rfl) rfl (by simp [Value.oneCell']) ?_
  have HR3 : RowKit.Hid (Whole (W2'.setRow (g0 + 1) #[.int .i64 6, .int .i64 s, .int .i64 n, .int .i64 0, .int .i64 0, .int .i64 s2, .int .i64 n2, .int .i64 0, .int .i64 0, .int .i64 0, .int .i64 0, .int .i64 0, .int .i64 0, .int .i64 0, .int .i64 0, .int .i64 0, .int .i64 0, .bool false, .string ⟨#[]⟩, .int .i64 0]) (g0 + 1) 48 [.int .i64 6, .int .i64 s, .int .i64 n, .int .i64 0, .int .i64 0, .int .i64 s2, .int .i64 n2, .int .i64 0, .int .i64 0, .int .i64 0, .int .i64 0, .int .i64 0, .int .i64 0, .int .i64 0, .int .i64 0, .int .i64 0, .int .i64 0, .bool false, .string ⟨#[]⟩, .int .i64 0]) := Lib.hid (setRow_heap W2' (g0 + 1) _ _ _ _ HR2'.out)
  have HB3 : RowKit.Hid (Below w.heap.size w (W2'.setRow (g0 + 1) #[.int .i64 6, .int .i64 s, .int .i64 n, .int .i64 0, .int .i64 0, .int .i64 s2, .int .i64 n2, .int .i64 0, .int .i64 0, .int .i64 0, .int .i64 0, .int .i64 0, .int .i64 0, .int .i64 0, .int .i64 0, .int .i64 0, .int .i64 0, .bool false, .string ⟨#[]⟩, .int .i64 0])) := Lib.hid ⟨HB2'.out.os, HB2'.out.tape, HB2'.out.output, (by have := HB2'.out.size; simpa [World.setRow] using this), fun i hi => (setRow_other W2' (g0 + 1) i _ (by have := HG0.out; omega)).trans (HB2'.out.block i hi)⟩
  obtain ⟨W3, gW3⟩ : ∃ x, W2'.setRow (g0 + 1) #[.int .i64 6, .int .i64 s, .int .i64 n, .int .i64 0, .int .i64 0, .int .i64 s2, .int .i64 n2, .int .i64 0, .int .i64 0, .int .i64 0, .int .i64 0, .int .i64 0, .int .i64 0, .int .i64 0, .int .i64 0, .int .i64 0, .int .i64 0, .bool false, .string ⟨#[]⟩, .int .i64 0] = x := ⟨_, rfl⟩
  rw [gW3] at HR3 HB3 ⊢
  clear gW3
  go_wp2
  exact bodyPost_ret (v := .agg #[.int .i64 6, .int .i64 s, .int .i64 n, .int .i64 0, .int .i64 0, .int .i64 s2, .int .i64 n2, .int .i64 0, .int .i64 0, .int .i64 0, .int .i64 0, .int .i64 0, .int .i64 0, .int .i64 0, .int .i64 0, .int .i64 0, .int .i64 0, .bool false, .string ⟨#[]⟩, .int .i64 0]) (results_cell_row Try.results47 _ W3 (g0 + 1) 48 #[.int .i64 6, .int .i64 s, .int .i64 n, .int .i64 0, .int .i64 0, .int .i64 s2, .int .i64 n2, .int .i64 0, .int .i64 0, .int .i64 0, .int .i64 0, .int .i64 0, .int .i64 0, .int .i64 0, .int .i64 0, .int .i64 0, .int .i64 0, .bool false, .string ⟨#[]⟩, .int .i64 0] (0, 0) _ (by rfl) HR3.out Try.underlying48 rfl (by kernel_rfl)) rfl ⟨rfl, HB3.out⟩

set_option maxRecDepth 100000 in
set_option maxHeartbeats 2000000 in
theorem only_3 (s n s1 n1 s2 n2 a0 a1 a2 a3 a4 b0 b1 b2 b3 b4 : Int) (e : Bool) (t : ByteArray) (m : Int) : Pure 47 #[.agg #[.int .i64 3, .int .i64 s, .int .i64 n, .int .i64 s1, .int .i64 n1, .int .i64 s2, .int .i64 n2, .int .i64 a0, .int .i64 a1, .int .i64 a2, .int .i64 a3, .int .i64 a4, .int .i64 b0, .int .i64 b1, .int .i64 b2, .int .i64 b3, .int .i64 b4, .bool e, .string t, .int .i64 m]] (.agg #[.int .i64 3, .int .i64 s, .int .i64 n, .int .i64 0, .int .i64 0, .int .i64 0, .int .i64 0, .int .i64 a0, .int .i64 a1, .int .i64 a2, .int .i64 a3, .int .i64 a4, .int .i64 b0, .int .i64 b1, .int .i64 b2, .int .i64 b3, .int .i64 b4, .bool false, .string ⟨#[]⟩, .int .i64 0]) := fun w => by
  go_enter Try.func47, Try.ntmps47
  go_upto_region 1 with fail
  obtain ⟨W1, gW1⟩ : ∃ x, (w.alloc (.cells #[.int .i64 3, .int .i64 s, .int .i64 n, .int .i64 s1, .int .i64 n1, .int .i64 s2, .int .i64 n2, .int .i64 a0, .int .i64 a1, .int .i64 a2, .int .i64 a3, .int .i64 a4, .int .i64 b0, .int .i64 b1, .int .i64 b2, .int .i64 b3, .int .i64 b4, .bool e, .string t, .int .i64 m] 48)).alloc (.cells #[.int .i64 0, .int .i64 0, .int .i64 0, .int .i64 0, .int .i64 0, .int .i64 0, .int .i64 0, .int .i64 0, .int .i64 0, .int .i64 0, .int .i64 0, .int .i64 0, .int .i64 0, .int .i64 0, .int .i64 0, .int .i64 0, .int .i64 0, .bool false, .string ⟨#[]⟩, .int .i64 0] 48) = x := ⟨_, rfl⟩
  have hO : Whole W1 w.heap.size 48 [.int .i64 3, .int .i64 s, .int .i64 n, .int .i64 s1, .int .i64 n1, .int .i64 s2, .int .i64 n2, .int .i64 a0, .int .i64 a1, .int .i64 a2, .int .i64 a3, .int .i64 a4, .int .i64 b0, .int .i64 b1, .int .i64 b2, .int .i64 b3, .int .i64 b4, .bool e, .string t, .int .i64 m] := by rw [← gW1]; exact (Whole.new_ w _ [.int .i64 3, .int .i64 s, .int .i64 n, .int .i64 s1, .int .i64 n1, .int .i64 s2, .int .i64 n2, .int .i64 a0, .int .i64 a1, .int .i64 a2, .int .i64 a3, .int .i64 a4, .int .i64 b0, .int .i64 b1, .int .i64 b2, .int .i64 b3, .int .i64 b4, .bool e, .string t, .int .i64 m]).alloc _
  have hR : Whole W1 (w.heap.size + 1) 48 [.int .i64 0, .int .i64 0, .int .i64 0, .int .i64 0, .int .i64 0, .int .i64 0, .int .i64 0, .int .i64 0, .int .i64 0, .int .i64 0, .int .i64 0, .int .i64 0, .int .i64 0, .int .i64 0, .int .i64 0, .int .i64 0, .int .i64 0, .bool false, .string ⟨#[]⟩, .int .i64 0] := by rw [← gW1]; exact Whole.new2 (cs := [.int .i64 0, .int .i64 0, .int .i64 0, .int .i64 0, .int .i64 0, .int .i64 0, .int .i64 0, .int .i64 0, .int .i64 0, .int .i64 0, .int .i64 0, .int .i64 0, .int .i64 0, .int .i64 0, .int .i64 0, .int .i64 0, .int .i64 0, .bool false, .string ⟨#[]⟩, .int .i64 0]) (by simp)
  have hB : Below w.heap.size w W1 := by rw [← gW1]; exact below2 _ _ _
  rw [gW1]
  clear gW1
  have HO := Lib.hid hO
  have HR := Lib.hid hR
  have HB := Lib.hid hB
  have l0 := hO.cell (i := 0) rfl
  have l1 := hO.cell (i := 1) rfl
  have l2 := hO.cell (i := 2) rfl
  clear hO hR hB
  obtain ⟨g0, gg0⟩ : ∃ x, w.heap.size = x := ⟨_, rfl⟩
  rw [gg0] at HO HR l0 l1 l2 ⊢
  have HG0 : RowKit.Hid (w.heap.size ≤ g0) := Lib.hid (by omega)
  clear gg0
  refine wp_region_lit ?_
  refine wpList_readTo rfl (some 4) rfl ?_ ?_ ?_
  rotate_left
  · go_simp; exact rfl
  simp only [Act.put, List.setIfInBounds_toArray, List.set_cons_zero, List.set_cons_succ]
  refine wpList_readTo rfl (some 5) rfl ?_ ?_ ?_
  rotate_left
  · go_simp; exact rfl
  simp only [Act.put, List.setIfInBounds_toArray, List.set_cons_zero, List.set_cons_succ]
  refine wpList_readTo rfl (some 6) rfl ?_ ?_ ?_
  rotate_left
  · go_simp; exact rfl
  simp only [Act.put, List.setIfInBounds_toArray, List.set_cons_zero, List.set_cons_succ]
  refine wpList_readTo rfl (some 7) rfl ?_ ?_ ?_
  rotate_left
  · go_simp; exact rfl
  simp only [Act.put, List.setIfInBounds_toArray, List.set_cons_zero, List.set_cons_succ]
  refine wpList_readTo rfl (some 8) rfl ?_ ?_ ?_
  rotate_left
  · go_simp; exact rfl
  simp only [Act.put, List.setIfInBounds_toArray, List.set_cons_zero, List.set_cons_succ]
  refine wpList_allocTo rfl (some 3) rfl ?_ (.cells #[.int .i64 0, .int .i64 0, .int .i64 0, .int .i64 0, .int .i64 0, .int .i64 0, .int .i64 0, .int .i64 0, .int .i64 0, .int .i64 0, .int .i64 0, .int .i64 0, .int .i64 0, .int .i64 0, .int .i64 0, .int .i64 0, .int .i64 0, .bool false, .string ⟨#[]⟩, .int .i64 0] 48) ?_ ?_
  rotate_left
  · go_simp; exact rfl
  simp only [Act.put, List.setIfInBounds_toArray, List.set_cons_zero, List.set_cons_succ]
  refine wpList_store_row rfl 48 (.tmp 3) (.tmp 8) rfl W1.heap.size #[.int .i64 3, .int .i64 s, .int .i64 n, .int .i64 0, .int .i64 0, .int .i64 0, .int .i64 0, .int .i64 0, .int .i64 0, .int .i64 0, .int .i64 0, .int .i64 0, .int .i64 0, .int .i64 0, .int .i64 0, .int .i64 0, .int .i64 0, .bool false, .string ⟨#[]⟩, .int .i64 0] rfl rfl 48 #[.int .i64 0, .int .i64 0, .int .i64 0, .int .i64 0, .int .i64 0, .int .i64 0, .int .i64 0, .int .i64 0, .int .i64 0, .int .i64 0, .int .i64 0, .int .i64 0, .int .i64 0, .int .i64 0, .int .i64 0, .int .i64 0, .int .i64 0, .bool false, .string ⟨#[]⟩, .int .i64 0] (heap_alloc_last _ _) (by kernel_rfl) rfl (by simp [Value.oneCell']) ?_
  rw [World.setRow_alloc_new]
  obtain ⟨W2, gW2⟩ : ∃ x, W1.alloc (.cells #[.int .i64 3, .int .i64 s, .int .i64 n, .int .i64 0, .int .i64 0, .int .i64 0, .int .i64 0, .int .i64 0, .int .i64 0, .int .i64 0, .int .i64 0, .int .i64 0, .int .i64 0, .int .i64 0, .int .i64 0, .int .i64 0, .int .i64 0, .bool false, .string ⟨#[]⟩, .int .i64 0] 48) = x := ⟨_, rfl⟩
  obtain ⟨g2, gg2⟩ : ∃ x, W1.heap.size = x := ⟨_, rfl⟩
  have HN : RowKit.Hid (Whole W2 g2 48 [.int .i64 3, .int .i64 s, .int .i64 n, .int .i64 0, .int .i64 0, .int .i64 0, .int .i64 0, .int .i64 0, .int .i64 0, .int .i64 0, .int .i64 0, .int .i64 0, .int .i64 0, .int .i64 0, .int .i64 0, .int .i64 0, .int .i64 0, .bool false, .string ⟨#[]⟩, .int .i64 0]) := Lib.hid (by rw [← gW2, ← gg2]; exact Whole.new_ W1 _ [.int .i64 3, .int .i64 s, .int .i64 n, .int .i64 0, .int .i64 0, .int .i64 0, .int .i64 0, .int .i64 0, .int .i64 0, .int .i64 0, .int .i64 0, .int .i64 0, .int .i64 0, .int .i64 0, .int .i64 0, .int .i64 0, .int .i64 0, .bool false, .string ⟨#[]⟩, .int .i64 0])
  have HO2 := Lib.hid (show Whole W2 g0 _ _ from gW2 ▸ HO.out.alloc _)
  have HR2 := Lib.hid (show Whole W2 (g0 + 1) _ _ from gW2 ▸ HR.out.alloc _)
  have HB2 := Lib.hid (show Below w.heap.size w W2 from gW2 ▸ HB.out.alloc HB.out.size _)
  have l0 := HO2.out.cell (i := 0) rfl
  have HNE : RowKit.Hid (g0 + 1 ≠ g2) := Lib.hid (by have := HR.out.lt; omega)
  have HOE : RowKit.Hid (¬ g0 = g2) := Lib.hid (by have := HR.out.lt; omega)
  have HG2 : RowKit.Hid (w.heap.size ≤ g2) := Lib.hid (by have := HB.out.size; omega)
  rw [gW2, gg2]
  clear gW2 gg2
  go_upto_region 4 with fail
  have f7 : ∀ w', Kept (fun i => i = g2) W2.drew w' → w'.cell? ⟨g0, 7, none⟩ = some (.int .i64 a0) := fun w' h => h.cell (HO2.out.drew.cell (i := 7) rfl) (fun e => absurd (show g0 = g2 from e) HOE.out)
  have f8 : ∀ w', Kept (fun i => i = g2) W2.drew w' → w'.cell? ⟨g0, 8, none⟩ = some (.int .i64 a1) := fun w' h => h.cell (HO2.out.drew.cell (i := 8) rfl) (fun e => absurd (show g0 = g2 from e) HOE.out)
  have f9 : ∀ w', Kept (fun i => i = g2) W2.drew w' → w'.cell? ⟨g0, 9, none⟩ = some (.int .i64 a2) := fun w' h => h.cell (HO2.out.drew.cell (i := 9) rfl) (fun e => absurd (show g0 = g2 from e) HOE.out)
  have f10 : ∀ w', Kept (fun i => i = g2) W2.drew w' → w'.cell? ⟨g0, 10, none⟩ = some (.int .i64 a3) := fun w' h => h.cell (HO2.out.drew.cell (i := 10) rfl) (fun e => absurd (show g0 = g2 from e) HOE.out)
  have f11 : ∀ w', Kept (fun i => i = g2) W2.drew w' → w'.cell? ⟨g0, 11, none⟩ = some (.int .i64 a4) := fun w' h => h.cell (HO2.out.drew.cell (i := 11) rfl) (fun e => absurd (show g0 = g2 from e) HOE.out)
  have f12 : ∀ w', Kept (fun i => i = g2) W2.drew w' → w'.cell? ⟨g0, 12, none⟩ = some (.int .i64 b0) := fun w' h => h.cell (HO2.out.drew.cell (i := 12) rfl) (fun e => absurd (show g0 = g2 from e) HOE.out)
  have f13 : ∀ w', Kept (fun i => i = g2) W2.drew w' → w'.cell? ⟨g0, 13, none⟩ = some (.int .i64 b1) := fun w' h => h.cell (HO2.out.drew.cell (i := 13) rfl) (fun e => absurd (show g0 = g2 from e) HOE.out)
  have f14 : ∀ w', Kept (fun i => i = g2) W2.drew w' → w'.cell? ⟨g0, 14, none⟩ = some (.int .i64 b2) := fun w' h => h.cell (HO2.out.drew.cell (i := 14) rfl) (fun e => absurd (show g0 = g2 from e) HOE.out)
  have f15 : ∀ w', Kept (fun i => i = g2) W2.drew w' → w'.cell? ⟨g0, 15, none⟩ = some (.int .i64 b3) := fun w' h => h.cell (HO2.out.drew.cell (i := 15) rfl) (fun e => absurd (show g0 = g2 from e) HOE.out)
  have f16 : ∀ w', Kept (fun i => i = g2) W2.drew w' → w'.cell? ⟨g0, 16, none⟩ = some (.int .i64 b4) := fun w' h => h.cell (HO2.out.drew.cell (i := 16) rfl) (fun e => absurd (show g0 = g2 from e) HOE.out)
  have HNs : RowKit.Hid (Whole W2.drew g2 _ _) := Lib.hid HN.out.drew
  have HRs : RowKit.Hid (Whole W2.drew (g0 + 1) _ _) := Lib.hid HR2.out.drew
  have HBs : RowKit.Hid (Below w.heap.size w W2.drew) := Lib.hid HB2.out.drew
  refine wp_region_reg (fun i => i = g2) (by kernel_rfl) ?_
  apply wpR_next 0 (some 13)
  · simp only [List.getElem?_toArray, List.getElem?_cons_succ, List.getElem?_cons_zero]; exact rfl
  · rfl
  · kernel_rfl
  · kernel_rfl
  · kernel_rfl
  · exact fun _ _ _ _ h => h
  apply Exists.intro
  apply And.intro
  · apply yr_run; rfl; intro w' hw'; go_simp; (try with_reducible rfl)
  try simp only [Act.put, List.setIfInBounds_toArray, List.set_cons_zero, List.set_cons_succ]
  apply wpR_next 1 (some 14)
  · simp only [List.getElem?_toArray, List.getElem?_cons_succ, List.getElem?_cons_zero]; exact rfl
  · rfl
  · kernel_rfl
  · kernel_rfl
  · kernel_rfl
  · exact fun _ _ _ _ h => h
  apply Exists.intro
  apply And.intro
  · apply yr_run; rfl; intro w' hw'; go_simp; (try with_reducible rfl)
  try simp only [Act.put, List.setIfInBounds_toArray, List.set_cons_zero, List.set_cons_succ]
  apply wpR_next 2 (some 15)
  · simp only [List.getElem?_toArray, List.getElem?_cons_succ, List.getElem?_cons_zero]; exact rfl
  · rfl
  · kernel_rfl
  · kernel_rfl
  · kernel_rfl
  · exact fun _ _ _ _ h => h
  apply Exists.intro
  apply And.intro
  · apply yr_run; rfl; intro w' hw'; go_simp; (try with_reducible rfl)
  try simp only [Act.put, List.setIfInBounds_toArray, List.set_cons_zero, List.set_cons_succ]
  apply wpR_next 3 (some 16)
  · simp only [List.getElem?_toArray, List.getElem?_cons_succ, List.getElem?_cons_zero]; exact rfl
  · rfl
  · kernel_rfl
  · kernel_rfl
  · kernel_rfl
  · exact fun _ _ _ _ h => h
  apply Exists.intro
  apply And.intro
  · apply yr_run; rfl; intro w' hw'; go_simp; (try with_reducible rfl)
  try simp only [Act.put, List.setIfInBounds_toArray, List.set_cons_zero, List.set_cons_succ]
  apply wpR_next 4 (some 17)
  · simp only [List.getElem?_toArray, List.getElem?_cons_succ, List.getElem?_cons_zero]; exact rfl
  · rfl
  · kernel_rfl
  · kernel_rfl
  · kernel_rfl
  · exact fun _ _ _ _ h => h
  apply Exists.intro
  apply And.intro
  · apply yr_run; rfl; intro w' hw'; go_simp; (try with_reducible rfl)
  try simp only [Act.put, List.setIfInBounds_toArray, List.set_cons_zero, List.set_cons_succ]
  apply wpR_store 5
  · simp only [List.getElem?_toArray, List.getElem?_cons_succ, List.getElem?_cons_zero]; exact rfl
  · rfl
  · kernel_rfl
  · rfl
  intro w' hw'
  have HNx := Lib.hid (HNs.out.below hw')
  have HRx := Lib.hid (HRs.out.below hw')
  have HBx := Lib.hid (HBs.out.trans (hw'.mono HBs.out.size))
  have y7 := HNx.out.cell (i := 7) rfl
  have z7 := HNx.out.free 7
  have y8 := HNx.out.cell (i := 8) rfl
  have z8 := HNx.out.free 8
  have y9 := HNx.out.cell (i := 9) rfl
  have z9 := HNx.out.free 9
  have y10 := HNx.out.cell (i := 10) rfl
  have z10 := HNx.out.free 10
  have y11 := HNx.out.cell (i := 11) rfl
  have z11 := HNx.out.free 11
  apply Exists.intro
  apply And.intro
  · go_simp; exact rfl
  apply And.intro
  · exact ((((((Kept.refl (fun i => i = g2) _).setCell (.inl (show g2 = g2 from rfl)) _).setCell (.inl (show g2 = g2 from rfl)) _).setCell (.inl (show g2 = g2 from rfl)) _).setCell (.inl (show g2 = g2 from rfl)) _).setCell (.inl (show g2 = g2 from rfl)) _)
  obtain ⟨V0, gV0⟩ : ∃ x, (((((w').setCell ⟨g2, 7, none⟩ (.int .i64 a0)).setCell ⟨g2, 8, none⟩ (.int .i64 a1)).setCell ⟨g2, 9, none⟩ (.int .i64 a2)).setCell ⟨g2, 10, none⟩ (.int .i64 a3)).setCell ⟨g2, 11, none⟩ (.int .i64 a4) = x := ⟨_, rfl⟩
  have HN0 := Lib.hid (show Whole V0 g2 _ _ from gV0 ▸ (((((HNx.out.set_ 7 _).set_ 8 _).set_ 9 _).set_ 10 _).set_ 11 _))
  have HR0 := Lib.hid (show Whole V0 (g0 + 1) _ _ from gV0 ▸ (((((HRx.out.far (by show g0 + 1 ≠ g2; exact HNE.out) _).far (by show g0 + 1 ≠ g2; exact HNE.out) _).far (by show g0 + 1 ≠ g2; exact HNE.out) _).far (by show g0 + 1 ≠ g2; exact HNE.out) _).far (by show g0 + 1 ≠ g2; exact HNE.out) _))
  have HB0 := Lib.hid (show Below w.heap.size w V0 from gV0 ▸ (((((HBx.out.setCell (by show w.heap.size ≤ g2; exact HG2.out) _).setCell (by show w.heap.size ≤ g2; exact HG2.out) _).setCell (by show w.heap.size ≤ g2; exact HG2.out) _).setCell (by show w.heap.size ≤ g2; exact HG2.out) _).setCell (by show w.heap.size ≤ g2; exact HG2.out) _))
  rw [gV0]
  clear gV0 hw' HNx HRx HBx y7 z7 y8 z8 y9 z9 y10 z10 y11 z11
  try simp only [Act.put, List.setIfInBounds_toArray, List.set_cons_zero, List.set_cons_succ]
  apply wpR_next 6 (some 18)
  · simp only [List.getElem?_toArray, List.getElem?_cons_succ, List.getElem?_cons_zero]; exact rfl
  · rfl
  · kernel_rfl
  · kernel_rfl
  · kernel_rfl
  · exact fun _ _ _ _ h => h
  apply Exists.intro
  apply And.intro
  · apply yr_run; rfl; intro w' hw'; go_simp; (try with_reducible rfl)
  try simp only [Act.put, List.setIfInBounds_toArray, List.set_cons_zero, List.set_cons_succ]
  apply wpR_store 7
  · simp only [List.getElem?_toArray, List.getElem?_cons_succ, List.getElem?_cons_zero]; exact rfl
  · rfl
  · kernel_rfl
  · rfl
  intro w' hw'
  have HNx := Lib.hid (HN0.out.below hw')
  have HRx := Lib.hid (HR0.out.below hw')
  have HBx := Lib.hid (HB0.out.trans (hw'.mono HB0.out.size))
  have y12 := HNx.out.cell (i := 12) rfl
  have z12 := HNx.out.free 12
  have y13 := HNx.out.cell (i := 13) rfl
  have z13 := HNx.out.free 13
  have y14 := HNx.out.cell (i := 14) rfl
  have z14 := HNx.out.free 14
  have y15 := HNx.out.cell (i := 15) rfl
  have z15 := HNx.out.free 15
  have y16 := HNx.out.cell (i := 16) rfl
  have z16 := HNx.out.free 16
  apply Exists.intro
  apply And.intro
  · go_simp; exact rfl
  apply And.intro
  · exact ((((((Kept.refl (fun i => i = g2) _).setCell (.inl (show g2 = g2 from rfl)) _).setCell (.inl (show g2 = g2 from rfl)) _).setCell (.inl (show g2 = g2 from rfl)) _).setCell (.inl (show g2 = g2 from rfl)) _).setCell (.inl (show g2 = g2 from rfl)) _)
  obtain ⟨V1, gV1⟩ : ∃ x, (((((w').setCell ⟨g2, 12, none⟩ (.int .i64 b0)).setCell ⟨g2, 13, none⟩ (.int .i64 b1)).setCell ⟨g2, 14, none⟩ (.int .i64 b2)).setCell ⟨g2, 15, none⟩ (.int .i64 b3)).setCell ⟨g2, 16, none⟩ (.int .i64 b4) = x := ⟨_, rfl⟩
  have HN1 := Lib.hid (show Whole V1 g2 _ _ from gV1 ▸ (((((HNx.out.set_ 12 _).set_ 13 _).set_ 14 _).set_ 15 _).set_ 16 _))
  have HR1 := Lib.hid (show Whole V1 (g0 + 1) _ _ from gV1 ▸ (((((HRx.out.far (by show g0 + 1 ≠ g2; exact HNE.out) _).far (by show g0 + 1 ≠ g2; exact HNE.out) _).far (by show g0 + 1 ≠ g2; exact HNE.out) _).far (by show g0 + 1 ≠ g2; exact HNE.out) _).far (by show g0 + 1 ≠ g2; exact HNE.out) _))
  have HB1 := Lib.hid (show Below w.heap.size w V1 from gV1 ▸ (((((HBx.out.setCell (by show w.heap.size ≤ g2; exact HG2.out) _).setCell (by show w.heap.size ≤ g2; exact HG2.out) _).setCell (by show w.heap.size ≤ g2; exact HG2.out) _).setCell (by show w.heap.size ≤ g2; exact HG2.out) _).setCell (by show w.heap.size ≤ g2; exact HG2.out) _))
  rw [gV1]
  clear gV1 hw' HNx HRx HBx y12 z12 y13 z13 y14 z14 y15 z15 y16 z16
  try simp only [Act.put, List.setIfInBounds_toArray, List.set_cons_zero, List.set_cons_succ]
  refine wpR_done (by kernel_rfl) ?_ _
  intro W2' hw'
  have HN' := Lib.hid (HN1.out.below hw')
  have HR2' := Lib.hid (HR1.out.below hw')
  have HB2' := Lib.hid (HB1.out.trans (hw'.mono HB1.out.size))
  clear hw'
  go_upto_region 13 with fail
  refine wp_region_lit ?_
  refine wpList_load_row rfl 48 (.tmp 3) rfl g2 rfl 48 #[.int .i64 3, .int .i64 s, .int .i64 n, .int .i64 0, .int .i64 0, .int .i64 0, .int .i64 0, .int .i64 a0, .int .i64 a1, .int .i64 a2, .int .i64 a3, .int .i64 a4, .int .i64 b0, .int .i64 b1, .int .i64 b2, .int .i64 b3, .int .i64 b4, .bool false, .string ⟨#[]⟩, .int .i64 0] (0, 0) _ HN'.out Try.underlying48 rfl (by kernel_rfl) ?_
  simp only [Act.put, List.setIfInBounds_toArray, List.set_cons_zero, List.set_cons_succ]
  refine wpList_store_row rfl 48 (.tmp 2) (.tmp 51) rfl (g0 + 1) #[.int .i64 3, .int .i64 s, .int .i64 n, .int .i64 0, .int .i64 0, .int .i64 0, .int .i64 0, .int .i64 a0, .int .i64 a1, .int .i64 a2, .int .i64 a3, .int .i64 a4, .int .i64 b0, .int .i64 b1, .int .i64 b2, .int .i64 b3, .int .i64 b4, .bool false, .string ⟨#[]⟩, .int .i64 0] rfl rfl 48 #[.int .i64 0, .int .i64 0, .int .i64 0, .int .i64 0, .int .i64 0, .int .i64 0, .int .i64 0, .int .i64 0, .int .i64 0, .int .i64 0, .int .i64 0, .int .i64 0, .int .i64 0, .int .i64 0, .int .i64 0, .int .i64 0, .int .i64 0, .bool false, .string ⟨#[]⟩, .int .i64 0] HR2'.out (by kernel_rfl) rfl (by simp [Value.oneCell']) ?_
  have HR3 : RowKit.Hid (Whole (W2'.setRow (g0 + 1) #[.int .i64 3, .int .i64 s, .int .i64 n, .int .i64 0, .int .i64 0, .int .i64 0, .int .i64 0, .int .i64 a0, .int .i64 a1, .int .i64 a2, .int .i64 a3, .int .i64 a4, .int .i64 b0, .int .i64 b1, .int .i64 b2, .int .i64 b3, .int .i64 b4, .bool false, .string ⟨#[]⟩, .int .i64 0]) (g0 + 1) 48 [.int .i64 3, .int .i64 s, .int .i64 n, .int .i64 0, .int .i64 0, .int .i64 0, .int .i64 0, .int .i64 a0, .int .i64 a1, .int .i64 a2, .int .i64 a3, .int .i64 a4, .int .i64 b0, .int .i64 b1, .int .i64 b2, .int .i64 b3, .int .i64 b4, .bool false, .string ⟨#[]⟩, .int .i64 0]) := Lib.hid (setRow_heap W2' (g0 + 1) _ _ _ _ HR2'.out)
  have HB3 : RowKit.Hid (Below w.heap.size w (W2'.setRow (g0 + 1) #[.int .i64 3, .int .i64 s, .int .i64 n, .int .i64 0, .int .i64 0, .int .i64 0, .int .i64 0, .int .i64 a0, .int .i64 a1, .int .i64 a2, .int .i64 a3, .int .i64 a4, .int .i64 b0, .int .i64 b1, .int .i64 b2, .int .i64 b3, .int .i64 b4, .bool false, .string ⟨#[]⟩, .int .i64 0])) := Lib.hid ⟨HB2'.out.os, HB2'.out.tape, HB2'.out.output, (by have := HB2'.out.size; simpa [World.setRow] using this), fun i hi => (setRow_other W2' (g0 + 1) i _ (by have := HG0.out; omega)).trans (HB2'.out.block i hi)⟩
  obtain ⟨W3, gW3⟩ : ∃ x, W2'.setRow (g0 + 1) #[.int .i64 3, .int .i64 s, .int .i64 n, .int .i64 0, .int .i64 0, .int .i64 0, .int .i64 0, .int .i64 a0, .int .i64 a1, .int .i64 a2, .int .i64 a3, .int .i64 a4, .int .i64 b0, .int .i64 b1, .int .i64 b2, .int .i64 b3, .int .i64 b4, .bool false, .string ⟨#[]⟩, .int .i64 0] = x := ⟨_, rfl⟩
  rw [gW3] at HR3 HB3 ⊢
  clear gW3
  go_wp2
  exact bodyPost_ret (v := .agg #[.int .i64 3, .int .i64 s, .int .i64 n, .int .i64 0, .int .i64 0, .int .i64 0, .int .i64 0, .int .i64 a0, .int .i64 a1, .int .i64 a2, .int .i64 a3, .int .i64 a4, .int .i64 b0, .int .i64 b1, .int .i64 b2, .int .i64 b3, .int .i64 b4, .bool false, .string ⟨#[]⟩, .int .i64 0]) (results_cell_row Try.results47 _ W3 (g0 + 1) 48 #[.int .i64 3, .int .i64 s, .int .i64 n, .int .i64 0, .int .i64 0, .int .i64 0, .int .i64 0, .int .i64 a0, .int .i64 a1, .int .i64 a2, .int .i64 a3, .int .i64 a4, .int .i64 b0, .int .i64 b1, .int .i64 b2, .int .i64 b3, .int .i64 b4, .bool false, .string ⟨#[]⟩, .int .i64 0] (0, 0) _ (by rfl) HR3.out Try.underlying48 rfl (by kernel_rfl)) rfl ⟨rfl, HB3.out⟩

set_option maxRecDepth 100000 in
set_option maxHeartbeats 2000000 in
theorem only_5 (s n s1 n1 s2 n2 a0 a1 a2 a3 a4 b0 b1 b2 b3 b4 : Int) (e : Bool) (t : ByteArray) (m : Int) : Pure 47 #[.agg #[.int .i64 5, .int .i64 s, .int .i64 n, .int .i64 s1, .int .i64 n1, .int .i64 s2, .int .i64 n2, .int .i64 a0, .int .i64 a1, .int .i64 a2, .int .i64 a3, .int .i64 a4, .int .i64 b0, .int .i64 b1, .int .i64 b2, .int .i64 b3, .int .i64 b4, .bool e, .string t, .int .i64 m]] (.agg #[.int .i64 5, .int .i64 s, .int .i64 n, .int .i64 s1, .int .i64 n1, .int .i64 s2, .int .i64 n2, .int .i64 0, .int .i64 0, .int .i64 0, .int .i64 0, .int .i64 0, .int .i64 0, .int .i64 0, .int .i64 0, .int .i64 0, .int .i64 0, .bool false, .string ⟨#[]⟩, .int .i64 m]) := fun w => by
  go_enter Try.func47, Try.ntmps47
  go_upto_region 1 with fail
  obtain ⟨W1, gW1⟩ : ∃ x, (w.alloc (.cells #[.int .i64 5, .int .i64 s, .int .i64 n, .int .i64 s1, .int .i64 n1, .int .i64 s2, .int .i64 n2, .int .i64 a0, .int .i64 a1, .int .i64 a2, .int .i64 a3, .int .i64 a4, .int .i64 b0, .int .i64 b1, .int .i64 b2, .int .i64 b3, .int .i64 b4, .bool e, .string t, .int .i64 m] 48)).alloc (.cells #[.int .i64 0, .int .i64 0, .int .i64 0, .int .i64 0, .int .i64 0, .int .i64 0, .int .i64 0, .int .i64 0, .int .i64 0, .int .i64 0, .int .i64 0, .int .i64 0, .int .i64 0, .int .i64 0, .int .i64 0, .int .i64 0, .int .i64 0, .bool false, .string ⟨#[]⟩, .int .i64 0] 48) = x := ⟨_, rfl⟩
  have hO : Whole W1 w.heap.size 48 [.int .i64 5, .int .i64 s, .int .i64 n, .int .i64 s1, .int .i64 n1, .int .i64 s2, .int .i64 n2, .int .i64 a0, .int .i64 a1, .int .i64 a2, .int .i64 a3, .int .i64 a4, .int .i64 b0, .int .i64 b1, .int .i64 b2, .int .i64 b3, .int .i64 b4, .bool e, .string t, .int .i64 m] := by rw [← gW1]; exact (Whole.new_ w _ [.int .i64 5, .int .i64 s, .int .i64 n, .int .i64 s1, .int .i64 n1, .int .i64 s2, .int .i64 n2, .int .i64 a0, .int .i64 a1, .int .i64 a2, .int .i64 a3, .int .i64 a4, .int .i64 b0, .int .i64 b1, .int .i64 b2, .int .i64 b3, .int .i64 b4, .bool e, .string t, .int .i64 m]).alloc _
  have hR : Whole W1 (w.heap.size + 1) 48 [.int .i64 0, .int .i64 0, .int .i64 0, .int .i64 0, .int .i64 0, .int .i64 0, .int .i64 0, .int .i64 0, .int .i64 0, .int .i64 0, .int .i64 0, .int .i64 0, .int .i64 0, .int .i64 0, .int .i64 0, .int .i64 0, .int .i64 0, .bool false, .string ⟨#[]⟩, .int .i64 0] := by rw [← gW1]; exact Whole.new2 (cs := [.int .i64 0, .int .i64 0, .int .i64 0, .int .i64 0, .int .i64 0, .int .i64 0, .int .i64 0, .int .i64 0, .int .i64 0, .int .i64 0, .int .i64 0, .int .i64 0, .int .i64 0, .int .i64 0, .int .i64 0, .int .i64 0, .int .i64 0, .bool false, .string ⟨#[]⟩, .int .i64 0]) (by simp)
  have hB : Below w.heap.size w W1 := by rw [← gW1]; exact below2 _ _ _
  rw [gW1]
  clear gW1
  have HO := Lib.hid hO
  have HR := Lib.hid hR
  have HB := Lib.hid hB
  have l0 := hO.cell (i := 0) rfl
  have l1 := hO.cell (i := 1) rfl
  have l2 := hO.cell (i := 2) rfl
  clear hO hR hB
  obtain ⟨g0, gg0⟩ : ∃ x, w.heap.size = x := ⟨_, rfl⟩
  rw [gg0] at HO HR l0 l1 l2 ⊢
  have HG0 : RowKit.Hid (w.heap.size ≤ g0) := Lib.hid (by omega)
  clear gg0
  refine wp_region_lit ?_
  refine wpList_readTo rfl (some 4) rfl ?_ ?_ ?_
  rotate_left
  · go_simp; exact rfl
  simp only [Act.put, List.setIfInBounds_toArray, List.set_cons_zero, List.set_cons_succ]
  refine wpList_readTo rfl (some 5) rfl ?_ ?_ ?_
  rotate_left
  · go_simp; exact rfl
  simp only [Act.put, List.setIfInBounds_toArray, List.set_cons_zero, List.set_cons_succ]
  refine wpList_readTo rfl (some 6) rfl ?_ ?_ ?_
  rotate_left
  · go_simp; exact rfl
  simp only [Act.put, List.setIfInBounds_toArray, List.set_cons_zero, List.set_cons_succ]
  refine wpList_readTo rfl (some 7) rfl ?_ ?_ ?_
  rotate_left
  · go_simp; exact rfl
  simp only [Act.put, List.setIfInBounds_toArray, List.set_cons_zero, List.set_cons_succ]
  refine wpList_readTo rfl (some 8) rfl ?_ ?_ ?_
  rotate_left
  · go_simp; exact rfl
  simp only [Act.put, List.setIfInBounds_toArray, List.set_cons_zero, List.set_cons_succ]
  refine wpList_allocTo rfl (some 3) rfl ?_ (.cells #[.int .i64 0, .int .i64 0, .int .i64 0, .int .i64 0, .int .i64 0, .int .i64 0, .int .i64 0, .int .i64 0, .int .i64 0, .int .i64 0, .int .i64 0, .int .i64 0, .int .i64 0, .int .i64 0, .int .i64 0, .int .i64 0, .int .i64 0, .bool false, .string ⟨#[]⟩, .int .i64 0] 48) ?_ ?_
  rotate_left
  · go_simp; exact rfl
  simp only [Act.put, List.setIfInBounds_toArray, List.set_cons_zero, List.set_cons_succ]
  refine wpList_store_row rfl 48 (.tmp 3) (.tmp 8) rfl W1.heap.size #[.int .i64 5, .int .i64 s, .int .i64 n, .int .i64 0, .int .i64 0, .int .i64 0, .int .i64 0, .int .i64 0, .int .i64 0, .int .i64 0, .int .i64 0, .int .i64 0, .int .i64 0, .int .i64 0, .int .i64 0, .int .i64 0, .int .i64 0, .bool false, .string ⟨#[]⟩, .int .i64 0] rfl rfl 48 #[.int .i64 0, .int .i64 0, .int .i64 0, .int .i64 0, .int .i64 0, .int .i64 0, .int .i64 0, .int .i64 0, .int .i64 0, .int .i64 0, .int .i64 0, .int .i64 0, .int .i64 0, .int .i64 0, .int .i64 0, .int .i64 0, .int .i64 0, .bool false, .string ⟨#[]⟩, .int .i64 0] (heap_alloc_last _ _) (by kernel_rfl) rfl (by simp [Value.oneCell']) ?_
  rw [World.setRow_alloc_new]
  obtain ⟨W2, gW2⟩ : ∃ x, W1.alloc (.cells #[.int .i64 5, .int .i64 s, .int .i64 n, .int .i64 0, .int .i64 0, .int .i64 0, .int .i64 0, .int .i64 0, .int .i64 0, .int .i64 0, .int .i64 0, .int .i64 0, .int .i64 0, .int .i64 0, .int .i64 0, .int .i64 0, .int .i64 0, .bool false, .string ⟨#[]⟩, .int .i64 0] 48) = x := ⟨_, rfl⟩
  obtain ⟨g2, gg2⟩ : ∃ x, W1.heap.size = x := ⟨_, rfl⟩
  have HN : RowKit.Hid (Whole W2 g2 48 [.int .i64 5, .int .i64 s, .int .i64 n, .int .i64 0, .int .i64 0, .int .i64 0, .int .i64 0, .int .i64 0, .int .i64 0, .int .i64 0, .int .i64 0, .int .i64 0, .int .i64 0, .int .i64 0, .int .i64 0, .int .i64 0, .int .i64 0, .bool false, .string ⟨#[]⟩, .int .i64 0]) := Lib.hid (by rw [← gW2, ← gg2]; exact Whole.new_ W1 _ [.int .i64 5, .int .i64 s, .int .i64 n, .int .i64 0, .int .i64 0, .int .i64 0, .int .i64 0, .int .i64 0, .int .i64 0, .int .i64 0, .int .i64 0, .int .i64 0, .int .i64 0, .int .i64 0, .int .i64 0, .int .i64 0, .int .i64 0, .bool false, .string ⟨#[]⟩, .int .i64 0])
  have HO2 := Lib.hid (show Whole W2 g0 _ _ from gW2 ▸ HO.out.alloc _)
  have HR2 := Lib.hid (show Whole W2 (g0 + 1) _ _ from gW2 ▸ HR.out.alloc _)
  have HB2 := Lib.hid (show Below w.heap.size w W2 from gW2 ▸ HB.out.alloc HB.out.size _)
  have l0 := HO2.out.cell (i := 0) rfl
  have HNE : RowKit.Hid (g0 + 1 ≠ g2) := Lib.hid (by have := HR.out.lt; omega)
  have HOE : RowKit.Hid (¬ g0 = g2) := Lib.hid (by have := HR.out.lt; omega)
  have HG2 : RowKit.Hid (w.heap.size ≤ g2) := Lib.hid (by have := HB.out.size; omega)
  rw [gW2, gg2]
  clear gW2 gg2
  go_upto_region 6 with fail
  have f3 : ∀ w', Kept (fun i => i = g2) W2.drew w' → w'.cell? ⟨g0, 3, none⟩ = some (.int .i64 s1) := fun w' h => h.cell (HO2.out.drew.cell (i := 3) rfl) (fun e => absurd (show g0 = g2 from e) HOE.out)
  have f4 : ∀ w', Kept (fun i => i = g2) W2.drew w' → w'.cell? ⟨g0, 4, none⟩ = some (.int .i64 n1) := fun w' h => h.cell (HO2.out.drew.cell (i := 4) rfl) (fun e => absurd (show g0 = g2 from e) HOE.out)
  have f5 : ∀ w', Kept (fun i => i = g2) W2.drew w' → w'.cell? ⟨g0, 5, none⟩ = some (.int .i64 s2) := fun w' h => h.cell (HO2.out.drew.cell (i := 5) rfl) (fun e => absurd (show g0 = g2 from e) HOE.out)
  have f6 : ∀ w', Kept (fun i => i = g2) W2.drew w' → w'.cell? ⟨g0, 6, none⟩ = some (.int .i64 n2) := fun w' h => h.cell (HO2.out.drew.cell (i := 6) rfl) (fun e => absurd (show g0 = g2 from e) HOE.out)
  have f19 : ∀ w', Kept (fun i => i = g2) W2.drew w' → w'.cell? ⟨g0, 19, none⟩ = some (.int .i64 m) := fun w' h => h.cell (HO2.out.drew.cell (i := 19) rfl) (fun e => absurd (show g0 = g2 from e) HOE.out)
  have HNs : RowKit.Hid (Whole W2.drew g2 _ _) := Lib.hid HN.out.drew
  have HRs : RowKit.Hid (Whole W2.drew (g0 + 1) _ _) := Lib.hid HR2.out.drew
  have HBs : RowKit.Hid (Below w.heap.size w W2.drew) := Lib.hid HB2.out.drew
  refine wp_region_reg (fun i => i = g2) (by kernel_rfl) ?_
  apply wpR_next 0 (some 21)
  · simp only [List.getElem?_toArray, List.getElem?_cons_succ, List.getElem?_cons_zero]; exact rfl
  · rfl
  · kernel_rfl
  · kernel_rfl
  · kernel_rfl
  · exact fun _ _ _ _ h => h
  apply Exists.intro
  apply And.intro
  · apply yr_run; rfl; intro w' hw'; go_simp; (try with_reducible rfl)
  try simp only [Act.put, List.setIfInBounds_toArray, List.set_cons_zero, List.set_cons_succ]
  apply wpR_next 1 (some 22)
  · simp only [List.getElem?_toArray, List.getElem?_cons_succ, List.getElem?_cons_zero]; exact rfl
  · rfl
  · kernel_rfl
  · kernel_rfl
  · kernel_rfl
  · exact fun _ _ _ _ h => h
  apply Exists.intro
  apply And.intro
  · apply yr_run; rfl; intro w' hw'; go_simp; (try with_reducible rfl)
  try simp only [Act.put, List.setIfInBounds_toArray, List.set_cons_zero, List.set_cons_succ]
  apply wpR_next 2 (some 23)
  · simp only [List.getElem?_toArray, List.getElem?_cons_succ, List.getElem?_cons_zero]; exact rfl
  · rfl
  · kernel_rfl
  · kernel_rfl
  · kernel_rfl
  · exact fun _ _ _ _ h => h
  apply Exists.intro
  apply And.intro
  · apply yr_run; rfl; intro w' hw'; go_simp; (try with_reducible rfl)
  try simp only [Act.put, List.setIfInBounds_toArray, List.set_cons_zero, List.set_cons_succ]
  apply wpR_next 3 (some 24)
  · simp only [List.getElem?_toArray, List.getElem?_cons_succ, List.getElem?_cons_zero]; exact rfl
  · rfl
  · kernel_rfl
  · kernel_rfl
  · kernel_rfl
  · exact fun _ _ _ _ h => h
  apply Exists.intro
  apply And.intro
  · apply yr_run; rfl; intro w' hw'; go_simp; (try with_reducible rfl)
  try simp only [Act.put, List.setIfInBounds_toArray, List.set_cons_zero, List.set_cons_succ]
  apply wpR_next 4 (some 25)
  · simp only [List.getElem?_toArray, List.getElem?_cons_succ, List.getElem?_cons_zero]; exact rfl
  · rfl
  · kernel_rfl
  · kernel_rfl
  · kernel_rfl
  · exact fun _ _ _ _ h => h
  apply Exists.intro
  apply And.intro
  · apply yr_run; rfl; intro w' hw'; go_simp; (try with_reducible rfl)
  try simp only [Act.put, List.setIfInBounds_toArray, List.set_cons_zero, List.set_cons_succ]
  apply wpR_next 5 (some 26)
  · simp only [List.getElem?_toArray, List.getElem?_cons_succ, List.getElem?_cons_zero]; exact rfl
  · rfl
  · kernel_rfl
  · kernel_rfl
  · kernel_rfl
  · exact fun _ _ _ _ h => h
  apply Exists.intro
  apply And.intro
  · apply yr_run; rfl; intro w' hw'; go_simp; (try with_reducible rfl)
  try simp only [Act.put, List.setIfInBounds_toArray, List.set_cons_zero, List.set_cons_succ]
  apply wpR_next 6 (some 27)
  · simp only [List.getElem?_toArray, List.getElem?_cons_succ, List.getElem?_cons_zero]; exact rfl
  · rfl
  · kernel_rfl
  · kernel_rfl
  · kernel_rfl
  · exact fun _ _ _ _ h => h
  apply Exists.intro
  apply And.intro
  · apply yr_run; rfl; intro w' hw'; go_simp; (try with_reducible rfl)
  try simp only [Act.put, List.setIfInBounds_toArray, List.set_cons_zero, List.set_cons_succ]
  apply wpR_store 7
  · simp only [List.getElem?_toArray, List.getElem?_cons_succ, List.getElem?_cons_zero]; exact rfl
  · rfl
  · kernel_rfl
  · rfl
  intro w' hw'
  have HNx := Lib.hid (HNs.out.below hw')
  have HRx := Lib.hid (HRs.out.below hw')
  have HBx := Lib.hid (HBs.out.trans (hw'.mono HBs.out.size))
  have y3 := HNx.out.cell (i := 3) rfl
  have z3 := HNx.out.free 3
  have y4 := HNx.out.cell (i := 4) rfl
  have z4 := HNx.out.free 4
  apply Exists.intro
  apply And.intro
  · go_simp; exact rfl
  apply And.intro
  · exact (((Kept.refl (fun i => i = g2) _).setCell (.inl (show g2 = g2 from rfl)) _).setCell (.inl (show g2 = g2 from rfl)) _)
  obtain ⟨V0, gV0⟩ : ∃ x, ((w').setCell ⟨g2, 3, none⟩ (.int .i64 s1)).setCell ⟨g2, 4, none⟩ (.int .i64 n1) = x := ⟨_, rfl⟩
  have HN0 := Lib.hid (show Whole V0 g2 _ _ from gV0 ▸ ((HNx.out.set_ 3 _).set_ 4 _))
  have HR0 := Lib.hid (show Whole V0 (g0 + 1) _ _ from gV0 ▸ ((HRx.out.far (by show g0 + 1 ≠ g2; exact HNE.out) _).far (by show g0 + 1 ≠ g2; exact HNE.out) _))
  have HB0 := Lib.hid (show Below w.heap.size w V0 from gV0 ▸ ((HBx.out.setCell (by show w.heap.size ≤ g2; exact HG2.out) _).setCell (by show w.heap.size ≤ g2; exact HG2.out) _))
  rw [gV0]
  clear gV0 hw' HNx HRx HBx y3 z3 y4 z4
  try simp only [Act.put, List.setIfInBounds_toArray, List.set_cons_zero, List.set_cons_succ]
  apply wpR_next 8 (some 28)
  · simp only [List.getElem?_toArray, List.getElem?_cons_succ, List.getElem?_cons_zero]; exact rfl
  · rfl
  · kernel_rfl
  · kernel_rfl
  · kernel_rfl
  · exact fun _ _ _ _ h => h
  apply Exists.intro
  apply And.intro
  · apply yr_run; rfl; intro w' hw'; go_simp; (try with_reducible rfl)
  try simp only [Act.put, List.setIfInBounds_toArray, List.set_cons_zero, List.set_cons_succ]
  apply wpR_store 9
  · simp only [List.getElem?_toArray, List.getElem?_cons_succ, List.getElem?_cons_zero]; exact rfl
  · rfl
  · kernel_rfl
  · rfl
  intro w' hw'
  have HNx := Lib.hid (HN0.out.below hw')
  have HRx := Lib.hid (HR0.out.below hw')
  have HBx := Lib.hid (HB0.out.trans (hw'.mono HB0.out.size))
  have y5 := HNx.out.cell (i := 5) rfl
  have z5 := HNx.out.free 5
  have y6 := HNx.out.cell (i := 6) rfl
  have z6 := HNx.out.free 6
  apply Exists.intro
  apply And.intro
  · go_simp; exact rfl
  apply And.intro
  · exact (((Kept.refl (fun i => i = g2) _).setCell (.inl (show g2 = g2 from rfl)) _).setCell (.inl (show g2 = g2 from rfl)) _)
  obtain ⟨V1, gV1⟩ : ∃ x, ((w').setCell ⟨g2, 5, none⟩ (.int .i64 s2)).setCell ⟨g2, 6, none⟩ (.int .i64 n2) = x := ⟨_, rfl⟩
  have HN1 := Lib.hid (show Whole V1 g2 _ _ from gV1 ▸ ((HNx.out.set_ 5 _).set_ 6 _))
  have HR1 := Lib.hid (show Whole V1 (g0 + 1) _ _ from gV1 ▸ ((HRx.out.far (by show g0 + 1 ≠ g2; exact HNE.out) _).far (by show g0 + 1 ≠ g2; exact HNE.out) _))
  have HB1 := Lib.hid (show Below w.heap.size w V1 from gV1 ▸ ((HBx.out.setCell (by show w.heap.size ≤ g2; exact HG2.out) _).setCell (by show w.heap.size ≤ g2; exact HG2.out) _))
  rw [gV1]
  clear gV1 hw' HNx HRx HBx y5 z5 y6 z6
  try simp only [Act.put, List.setIfInBounds_toArray, List.set_cons_zero, List.set_cons_succ]
  apply wpR_next 10 (some 29)
  · simp only [List.getElem?_toArray, List.getElem?_cons_succ, List.getElem?_cons_zero]; exact rfl
  · rfl
  · kernel_rfl
  · kernel_rfl
  · kernel_rfl
  · exact fun _ _ _ _ h => h
  apply Exists.intro
  apply And.intro
  · apply yr_run; rfl; intro w' hw'; go_simp; (try with_reducible rfl)
  try simp only [Act.put, List.setIfInBounds_toArray, List.set_cons_zero, List.set_cons_succ]
  apply wpR_store 11
  · simp only [List.getElem?_toArray, List.getElem?_cons_succ, List.getElem?_cons_zero]; exact rfl
  · rfl
  · kernel_rfl
  · rfl
  intro w' hw'
  have HNx := Lib.hid (HN1.out.below hw')
  have HRx := Lib.hid (HR1.out.below hw')
  have HBx := Lib.hid (HB1.out.trans (hw'.mono HB1.out.size))
  have y19 := HNx.out.cell (i := 19) rfl
  have z19 := HNx.out.free 19
  apply Exists.intro
  apply And.intro
  · go_simp; exact rfl
  apply And.intro
  · exact ((Kept.refl (fun i => i = g2) _).setCell (.inl (show g2 = g2 from rfl)) _)
  obtain ⟨V2, gV2⟩ : ∃ x, (w').setCell ⟨g2, 19, none⟩ (.int .i64 m) = x := ⟨_, rfl⟩
  have HN2 := Lib.hid (show Whole V2 g2 _ _ from gV2 ▸ (HNx.out.set_ 19 _))
  have HR2 := Lib.hid (show Whole V2 (g0 + 1) _ _ from gV2 ▸ (HRx.out.far (by show g0 + 1 ≠ g2; exact HNE.out) _))
  have HB2 := Lib.hid (show Below w.heap.size w V2 from gV2 ▸ (HBx.out.setCell (by show w.heap.size ≤ g2; exact HG2.out) _))
  rw [gV2]
  clear gV2 hw' HNx HRx HBx y19 z19
  try simp only [Act.put, List.setIfInBounds_toArray, List.set_cons_zero, List.set_cons_succ]
  refine wpR_done (by kernel_rfl) ?_ _
  intro W2' hw'
  have HN' := Lib.hid (HN2.out.below hw')
  have HR2' := Lib.hid (HR2.out.below hw')
  have HB2' := Lib.hid (HB2.out.trans (hw'.mono HB2.out.size))
  clear hw'
  go_upto_region 13 with fail
  refine wp_region_lit ?_
  refine wpList_load_row rfl 48 (.tmp 3) rfl g2 rfl 48 #[.int .i64 5, .int .i64 s, .int .i64 n, .int .i64 s1, .int .i64 n1, .int .i64 s2, .int .i64 n2, .int .i64 0, .int .i64 0, .int .i64 0, .int .i64 0, .int .i64 0, .int .i64 0, .int .i64 0, .int .i64 0, .int .i64 0, .int .i64 0, .bool false, .string ⟨#[]⟩, .int .i64 m] (0, 0) _ HN'.out Try.underlying48 rfl (by kernel_rfl) ?_
  simp only [Act.put, List.setIfInBounds_toArray, List.set_cons_zero, List.set_cons_succ]
  refine wpList_store_row rfl 48 (.tmp 2) (.tmp 51) rfl (g0 + 1) #[.int .i64 5, .int .i64 s, .int .i64 n, .int .i64 s1, .int .i64 n1, .int .i64 s2, .int .i64 n2, .int .i64 0, .int .i64 0, .int .i64 0, .int .i64 0, .int .i64 0, .int .i64 0, .int .i64 0, .int .i64 0, .int .i64 0, .int .i64 0, .bool false, .string ⟨#[]⟩, .int .i64 m] rfl rfl 48 #[.int .i64 0, .int .i64 0, .int .i64 0, .int .i64 0, .int .i64 0, .int .i64 0, .int .i64 0, .int .i64 0, .int .i64 0, .int .i64 0, .int .i64 0, .int .i64 0, .int .i64 0, .int .i64 0, .int .i64 0, .int .i64 0, .int .i64 0, .bool false, .string ⟨#[]⟩, .int .i64 0] HR2'.out (by kernel_rfl) rfl (by simp [Value.oneCell']) ?_
  have HR3 : RowKit.Hid (Whole (W2'.setRow (g0 + 1) #[.int .i64 5, .int .i64 s, .int .i64 n, .int .i64 s1, .int .i64 n1, .int .i64 s2, .int .i64 n2, .int .i64 0, .int .i64 0, .int .i64 0, .int .i64 0, .int .i64 0, .int .i64 0, .int .i64 0, .int .i64 0, .int .i64 0, .int .i64 0, .bool false, .string ⟨#[]⟩, .int .i64 m]) (g0 + 1) 48 [.int .i64 5, .int .i64 s, .int .i64 n, .int .i64 s1, .int .i64 n1, .int .i64 s2, .int .i64 n2, .int .i64 0, .int .i64 0, .int .i64 0, .int .i64 0, .int .i64 0, .int .i64 0, .int .i64 0, .int .i64 0, .int .i64 0, .int .i64 0, .bool false, .string ⟨#[]⟩, .int .i64 m]) := Lib.hid (setRow_heap W2' (g0 + 1) _ _ _ _ HR2'.out)
  have HB3 : RowKit.Hid (Below w.heap.size w (W2'.setRow (g0 + 1) #[.int .i64 5, .int .i64 s, .int .i64 n, .int .i64 s1, .int .i64 n1, .int .i64 s2, .int .i64 n2, .int .i64 0, .int .i64 0, .int .i64 0, .int .i64 0, .int .i64 0, .int .i64 0, .int .i64 0, .int .i64 0, .int .i64 0, .int .i64 0, .bool false, .string ⟨#[]⟩, .int .i64 m])) := Lib.hid ⟨HB2'.out.os, HB2'.out.tape, HB2'.out.output, (by have := HB2'.out.size; simpa [World.setRow] using this), fun i hi => (setRow_other W2' (g0 + 1) i _ (by have := HG0.out; omega)).trans (HB2'.out.block i hi)⟩
  obtain ⟨W3, gW3⟩ : ∃ x, W2'.setRow (g0 + 1) #[.int .i64 5, .int .i64 s, .int .i64 n, .int .i64 s1, .int .i64 n1, .int .i64 s2, .int .i64 n2, .int .i64 0, .int .i64 0, .int .i64 0, .int .i64 0, .int .i64 0, .int .i64 0, .int .i64 0, .int .i64 0, .int .i64 0, .int .i64 0, .bool false, .string ⟨#[]⟩, .int .i64 m] = x := ⟨_, rfl⟩
  rw [gW3] at HR3 HB3 ⊢
  clear gW3
  go_wp2
  exact bodyPost_ret (v := .agg #[.int .i64 5, .int .i64 s, .int .i64 n, .int .i64 s1, .int .i64 n1, .int .i64 s2, .int .i64 n2, .int .i64 0, .int .i64 0, .int .i64 0, .int .i64 0, .int .i64 0, .int .i64 0, .int .i64 0, .int .i64 0, .int .i64 0, .int .i64 0, .bool false, .string ⟨#[]⟩, .int .i64 m]) (results_cell_row Try.results47 _ W3 (g0 + 1) 48 #[.int .i64 5, .int .i64 s, .int .i64 n, .int .i64 s1, .int .i64 n1, .int .i64 s2, .int .i64 n2, .int .i64 0, .int .i64 0, .int .i64 0, .int .i64 0, .int .i64 0, .int .i64 0, .int .i64 0, .int .i64 0, .int .i64 0, .int .i64 0, .bool false, .string ⟨#[]⟩, .int .i64 m] (0, 0) _ (by rfl) HR3.out Try.underlying48 rfl (by kernel_rfl)) rfl ⟨rfl, HB3.out⟩

set_option maxRecDepth 100000 in
set_option maxHeartbeats 2000000 in
theorem only_7 (s n s1 n1 s2 n2 a0 a1 a2 a3 a4 b0 b1 b2 b3 b4 : Int) (e : Bool) (t : ByteArray) (m : Int) : Pure 47 #[.agg #[.int .i64 7, .int .i64 s, .int .i64 n, .int .i64 s1, .int .i64 n1, .int .i64 s2, .int .i64 n2, .int .i64 a0, .int .i64 a1, .int .i64 a2, .int .i64 a3, .int .i64 a4, .int .i64 b0, .int .i64 b1, .int .i64 b2, .int .i64 b3, .int .i64 b4, .bool e, .string t, .int .i64 m]] (.agg #[.int .i64 7, .int .i64 s, .int .i64 n, .int .i64 0, .int .i64 0, .int .i64 0, .int .i64 0, .int .i64 0, .int .i64 0, .int .i64 0, .int .i64 0, .int .i64 0, .int .i64 0, .int .i64 0, .int .i64 0, .int .i64 0, .int .i64 0, .bool e, .string t, .int .i64 0]) := fun w => by
  go_enter Try.func47, Try.ntmps47
  go_upto_region 1 with fail
  obtain ⟨W1, gW1⟩ : ∃ x, (w.alloc (.cells #[.int .i64 7, .int .i64 s, .int .i64 n, .int .i64 s1, .int .i64 n1, .int .i64 s2, .int .i64 n2, .int .i64 a0, .int .i64 a1, .int .i64 a2, .int .i64 a3, .int .i64 a4, .int .i64 b0, .int .i64 b1, .int .i64 b2, .int .i64 b3, .int .i64 b4, .bool e, .string t, .int .i64 m] 48)).alloc (.cells #[.int .i64 0, .int .i64 0, .int .i64 0, .int .i64 0, .int .i64 0, .int .i64 0, .int .i64 0, .int .i64 0, .int .i64 0, .int .i64 0, .int .i64 0, .int .i64 0, .int .i64 0, .int .i64 0, .int .i64 0, .int .i64 0, .int .i64 0, .bool false, .string ⟨#[]⟩, .int .i64 0] 48) = x := ⟨_, rfl⟩
  have hO : Whole W1 w.heap.size 48 [.int .i64 7, .int .i64 s, .int .i64 n, .int .i64 s1, .int .i64 n1, .int .i64 s2, .int .i64 n2, .int .i64 a0, .int .i64 a1, .int .i64 a2, .int .i64 a3, .int .i64 a4, .int .i64 b0, .int .i64 b1, .int .i64 b2, .int .i64 b3, .int .i64 b4, .bool e, .string t, .int .i64 m] := by rw [← gW1]; exact (Whole.new_ w _ [.int .i64 7, .int .i64 s, .int .i64 n, .int .i64 s1, .int .i64 n1, .int .i64 s2, .int .i64 n2, .int .i64 a0, .int .i64 a1, .int .i64 a2, .int .i64 a3, .int .i64 a4, .int .i64 b0, .int .i64 b1, .int .i64 b2, .int .i64 b3, .int .i64 b4, .bool e, .string t, .int .i64 m]).alloc _
  have hR : Whole W1 (w.heap.size + 1) 48 [.int .i64 0, .int .i64 0, .int .i64 0, .int .i64 0, .int .i64 0, .int .i64 0, .int .i64 0, .int .i64 0, .int .i64 0, .int .i64 0, .int .i64 0, .int .i64 0, .int .i64 0, .int .i64 0, .int .i64 0, .int .i64 0, .int .i64 0, .bool false, .string ⟨#[]⟩, .int .i64 0] := by rw [← gW1]; exact Whole.new2 (cs := [.int .i64 0, .int .i64 0, .int .i64 0, .int .i64 0, .int .i64 0, .int .i64 0, .int .i64 0, .int .i64 0, .int .i64 0, .int .i64 0, .int .i64 0, .int .i64 0, .int .i64 0, .int .i64 0, .int .i64 0, .int .i64 0, .int .i64 0, .bool false, .string ⟨#[]⟩, .int .i64 0]) (by simp)
  have hB : Below w.heap.size w W1 := by rw [← gW1]; exact below2 _ _ _
  rw [gW1]
  clear gW1
  have HO := Lib.hid hO
  have HR := Lib.hid hR
  have HB := Lib.hid hB
  have l0 := hO.cell (i := 0) rfl
  have l1 := hO.cell (i := 1) rfl
  have l2 := hO.cell (i := 2) rfl
  clear hO hR hB
  obtain ⟨g0, gg0⟩ : ∃ x, w.heap.size = x := ⟨_, rfl⟩
  rw [gg0] at HO HR l0 l1 l2 ⊢
  have HG0 : RowKit.Hid (w.heap.size ≤ g0) := Lib.hid (by omega)
  clear gg0
  refine wp_region_lit ?_
  refine wpList_readTo rfl (some 4) rfl ?_ ?_ ?_
  rotate_left
  · go_simp; exact rfl
  simp only [Act.put, List.setIfInBounds_toArray, List.set_cons_zero, List.set_cons_succ]
  refine wpList_readTo rfl (some 5) rfl ?_ ?_ ?_
  rotate_left
  · go_simp; exact rfl
  simp only [Act.put, List.setIfInBounds_toArray, List.set_cons_zero, List.set_cons_succ]
  refine wpList_readTo rfl (some 6) rfl ?_ ?_ ?_
  rotate_left
  · go_simp; exact rfl
  simp only [Act.put, List.setIfInBounds_toArray, List.set_cons_zero, List.set_cons_succ]
  refine wpList_readTo rfl (some 7) rfl ?_ ?_ ?_
  rotate_left
  · go_simp; exact rfl
  simp only [Act.put, List.setIfInBounds_toArray, List.set_cons_zero, List.set_cons_succ]
  refine wpList_readTo rfl (some 8) rfl ?_ ?_ ?_
  rotate_left
  · go_simp; exact rfl
  simp only [Act.put, List.setIfInBounds_toArray, List.set_cons_zero, List.set_cons_succ]
  refine wpList_allocTo rfl (some 3) rfl ?_ (.cells #[.int .i64 0, .int .i64 0, .int .i64 0, .int .i64 0, .int .i64 0, .int .i64 0, .int .i64 0, .int .i64 0, .int .i64 0, .int .i64 0, .int .i64 0, .int .i64 0, .int .i64 0, .int .i64 0, .int .i64 0, .int .i64 0, .int .i64 0, .bool false, .string ⟨#[]⟩, .int .i64 0] 48) ?_ ?_
  rotate_left
  · go_simp; exact rfl
  simp only [Act.put, List.setIfInBounds_toArray, List.set_cons_zero, List.set_cons_succ]
  refine wpList_store_row rfl 48 (.tmp 3) (.tmp 8) rfl W1.heap.size #[.int .i64 7, .int .i64 s, .int .i64 n, .int .i64 0, .int .i64 0, .int .i64 0, .int .i64 0, .int .i64 0, .int .i64 0, .int .i64 0, .int .i64 0, .int .i64 0, .int .i64 0, .int .i64 0, .int .i64 0, .int .i64 0, .int .i64 0, .bool false, .string ⟨#[]⟩, .int .i64 0] rfl rfl 48 #[.int .i64 0, .int .i64 0, .int .i64 0, .int .i64 0, .int .i64 0, .int .i64 0, .int .i64 0, .int .i64 0, .int .i64 0, .int .i64 0, .int .i64 0, .int .i64 0, .int .i64 0, .int .i64 0, .int .i64 0, .int .i64 0, .int .i64 0, .bool false, .string ⟨#[]⟩, .int .i64 0] (heap_alloc_last _ _) (by kernel_rfl) rfl (by simp [Value.oneCell']) ?_
  rw [World.setRow_alloc_new]
  obtain ⟨W2, gW2⟩ : ∃ x, W1.alloc (.cells #[.int .i64 7, .int .i64 s, .int .i64 n, .int .i64 0, .int .i64 0, .int .i64 0, .int .i64 0, .int .i64 0, .int .i64 0, .int .i64 0, .int .i64 0, .int .i64 0, .int .i64 0, .int .i64 0, .int .i64 0, .int .i64 0, .int .i64 0, .bool false, .string ⟨#[]⟩, .int .i64 0] 48) = x := ⟨_, rfl⟩
  obtain ⟨g2, gg2⟩ : ∃ x, W1.heap.size = x := ⟨_, rfl⟩
  have HN : RowKit.Hid (Whole W2 g2 48 [.int .i64 7, .int .i64 s, .int .i64 n, .int .i64 0, .int .i64 0, .int .i64 0, .int .i64 0, .int .i64 0, .int .i64 0, .int .i64 0, .int .i64 0, .int .i64 0, .int .i64 0, .int .i64 0, .int .i64 0, .int .i64 0, .int .i64 0, .bool false, .string ⟨#[]⟩, .int .i64 0]) := Lib.hid (by rw [← gW2, ← gg2]; exact Whole.new_ W1 _ [.int .i64 7, .int .i64 s, .int .i64 n, .int .i64 0, .int .i64 0, .int .i64 0, .int .i64 0, .int .i64 0, .int .i64 0, .int .i64 0, .int .i64 0, .int .i64 0, .int .i64 0, .int .i64 0, .int .i64 0, .int .i64 0, .int .i64 0, .bool false, .string ⟨#[]⟩, .int .i64 0])
  have HO2 := Lib.hid (show Whole W2 g0 _ _ from gW2 ▸ HO.out.alloc _)
  have HR2 := Lib.hid (show Whole W2 (g0 + 1) _ _ from gW2 ▸ HR.out.alloc _)
  have HB2 := Lib.hid (show Below w.heap.size w W2 from gW2 ▸ HB.out.alloc HB.out.size _)
  have l0 := HO2.out.cell (i := 0) rfl
  have HNE : RowKit.Hid (g0 + 1 ≠ g2) := Lib.hid (by have := HR.out.lt; omega)
  have HOE : RowKit.Hid (¬ g0 = g2) := Lib.hid (by have := HR.out.lt; omega)
  have HG2 : RowKit.Hid (w.heap.size ≤ g2) := Lib.hid (by have := HB.out.size; omega)
  rw [gW2, gg2]
  clear gW2 gg2
  go_upto_region 10 with fail
  have f17 : ∀ w', Kept (fun i => i = g2) W2.drew w' → w'.cell? ⟨g0, 17, none⟩ = some (.bool e) := fun w' h => h.cell (HO2.out.drew.cell (i := 17) rfl) (fun e => absurd (show g0 = g2 from e) HOE.out)
  have f18 : ∀ w', Kept (fun i => i = g2) W2.drew w' → w'.cell? ⟨g0, 18, none⟩ = some (.string t) := fun w' h => h.cell (HO2.out.drew.cell (i := 18) rfl) (fun e => absurd (show g0 = g2 from e) HOE.out)
  have HNs : RowKit.Hid (Whole W2.drew g2 _ _) := Lib.hid HN.out.drew
  have HRs : RowKit.Hid (Whole W2.drew (g0 + 1) _ _) := Lib.hid HR2.out.drew
  have HBs : RowKit.Hid (Below w.heap.size w W2.drew) := Lib.hid HB2.out.drew
  refine wp_region_reg (fun i => i = g2) (by kernel_rfl) ?_
  apply wpR_next 0 (some 37)
  · simp only [List.getElem?_toArray, List.getElem?_cons_succ, List.getElem?_cons_zero]; exact rfl
  · rfl
  · kernel_rfl
  · kernel_rfl
  · kernel_rfl
  · exact fun _ _ _ _ h => h
  apply Exists.intro
  apply And.intro
  · apply yr_run; rfl; intro w' hw'; go_simp; (try with_reducible rfl)
  try simp only [Act.put, List.setIfInBounds_toArray, List.set_cons_zero, List.set_cons_succ]
  apply wpR_next 1 (some 38)
  · simp only [List.getElem?_toArray, List.getElem?_cons_succ, List.getElem?_cons_zero]; exact rfl
  · rfl
  · kernel_rfl
  · kernel_rfl
  · kernel_rfl
  · exact fun _ _ _ _ h => h
  apply Exists.intro
  apply And.intro
  · apply yr_run; rfl; intro w' hw'; go_simp; (try with_reducible rfl)
  try simp only [Act.put, List.setIfInBounds_toArray, List.set_cons_zero, List.set_cons_succ]
  apply wpR_next 2 (some 39)
  · simp only [List.getElem?_toArray, List.getElem?_cons_succ, List.getElem?_cons_zero]; exact rfl
  · rfl
  · kernel_rfl
  · kernel_rfl
  · kernel_rfl
  · exact fun _ _ _ _ h => h
  apply Exists.intro
  apply And.intro
  · apply yr_run; rfl; intro w' hw'; go_simp; (try with_reducible rfl)
  try simp only [Act.put, List.setIfInBounds_toArray, List.set_cons_zero, List.set_cons_succ]
  apply wpR_next 3 (some 40)
  · simp only [List.getElem?_toArray, List.getElem?_cons_succ, List.getElem?_cons_zero]; exact rfl
  · rfl
  · kernel_rfl
  · kernel_rfl
  · kernel_rfl
  · exact fun _ _ _ _ h => h
  apply Exists.intro
  apply And.intro
  · apply yr_run; rfl; intro w' hw'; go_simp; (try with_reducible rfl)
  try simp only [Act.put, List.setIfInBounds_toArray, List.set_cons_zero, List.set_cons_succ]
  apply wpR_next 4 (some 41)
  · simp only [List.getElem?_toArray, List.getElem?_cons_succ, List.getElem?_cons_zero]; exact rfl
  · rfl
  · kernel_rfl
  · kernel_rfl
  · kernel_rfl
  · exact fun _ _ _ _ h => h
  apply Exists.intro
  apply And.intro
  · apply yr_run; rfl; intro w' hw'; go_simp; (try with_reducible rfl)
  try simp only [Act.put, List.setIfInBounds_toArray, List.set_cons_zero, List.set_cons_succ]
  apply wpR_store 5
  · simp only [List.getElem?_toArray, List.getElem?_cons_succ, List.getElem?_cons_zero]; exact rfl
  · rfl
  · kernel_rfl
  · rfl
  intro w' hw'
  have HNx := Lib.hid (HNs.out.below hw')
  have HRx := Lib.hid (HRs.out.below hw')
  have HBx := Lib.hid (HBs.out.trans (hw'.mono HBs.out.size))
  have y17 := HNx.out.cell (i := 17) rfl
  have z17 := HNx.out.free 17
  apply Exists.intro
  apply And.intro
  · go_simp; exact rfl
  apply And.intro
  · exact ((Kept.refl (fun i => i = g2) _).setCell (.inl (show g2 = g2 from rfl)) _)
  obtain ⟨V0, gV0⟩ : ∃ x, (w').setCell ⟨g2, 17, none⟩ (.bool e) = x := ⟨_, rfl⟩
  have HN0 := Lib.hid (show Whole V0 g2 _ _ from gV0 ▸ (HNx.out.set_ 17 _))
  have HR0 := Lib.hid (show Whole V0 (g0 + 1) _ _ from gV0 ▸ (HRx.out.far (by show g0 + 1 ≠ g2; exact HNE.out) _))
  have HB0 := Lib.hid (show Below w.heap.size w V0 from gV0 ▸ (HBx.out.setCell (by show w.heap.size ≤ g2; exact HG2.out) _))
  rw [gV0]
  clear gV0 hw' HNx HRx HBx y17 z17
  try simp only [Act.put, List.setIfInBounds_toArray, List.set_cons_zero, List.set_cons_succ]
  apply wpR_next 6 (some 42)
  · simp only [List.getElem?_toArray, List.getElem?_cons_succ, List.getElem?_cons_zero]; exact rfl
  · rfl
  · kernel_rfl
  · kernel_rfl
  · kernel_rfl
  · exact fun _ _ _ _ h => h
  apply Exists.intro
  apply And.intro
  · apply yr_run; rfl; intro w' hw'; go_simp; (try with_reducible rfl)
  try simp only [Act.put, List.setIfInBounds_toArray, List.set_cons_zero, List.set_cons_succ]
  apply wpR_store 7
  · simp only [List.getElem?_toArray, List.getElem?_cons_succ, List.getElem?_cons_zero]; exact rfl
  · rfl
  · kernel_rfl
  · rfl
  intro w' hw'
  have HNx := Lib.hid (HN0.out.below hw')
  have HRx := Lib.hid (HR0.out.below hw')
  have HBx := Lib.hid (HB0.out.trans (hw'.mono HB0.out.size))
  have y18 := HNx.out.cell (i := 18) rfl
  have z18 := HNx.out.free 18
  apply Exists.intro
  apply And.intro
  · go_simp; exact rfl
  apply And.intro
  · exact ((Kept.refl (fun i => i = g2) _).setCell (.inl (show g2 = g2 from rfl)) _)
  obtain ⟨V1, gV1⟩ : ∃ x, (w').setCell ⟨g2, 18, none⟩ (.string t) = x := ⟨_, rfl⟩
  have HN1 := Lib.hid (show Whole V1 g2 _ _ from gV1 ▸ (HNx.out.set_ 18 _))
  have HR1 := Lib.hid (show Whole V1 (g0 + 1) _ _ from gV1 ▸ (HRx.out.far (by show g0 + 1 ≠ g2; exact HNE.out) _))
  have HB1 := Lib.hid (show Below w.heap.size w V1 from gV1 ▸ (HBx.out.setCell (by show w.heap.size ≤ g2; exact HG2.out) _))
  rw [gV1]
  clear gV1 hw' HNx HRx HBx y18 z18
  try simp only [Act.put, List.setIfInBounds_toArray, List.set_cons_zero, List.set_cons_succ]
  refine wpR_done (by kernel_rfl) ?_ _
  intro W2' hw'
  have HN' := Lib.hid (HN1.out.below hw')
  have HR2' := Lib.hid (HR1.out.below hw')
  have HB2' := Lib.hid (HB1.out.trans (hw'.mono HB1.out.size))
  clear hw'
  go_upto_region 13 with fail
  refine wp_region_lit ?_
  refine wpList_load_row rfl 48 (.tmp 3) rfl g2 rfl 48 #[.int .i64 7, .int .i64 s, .int .i64 n, .int .i64 0, .int .i64 0, .int .i64 0, .int .i64 0, .int .i64 0, .int .i64 0, .int .i64 0, .int .i64 0, .int .i64 0, .int .i64 0, .int .i64 0, .int .i64 0, .int .i64 0, .int .i64 0, .bool e, .string t, .int .i64 0] (0, 0) _ HN'.out Try.underlying48 rfl (by kernel_rfl) ?_
  simp only [Act.put, List.setIfInBounds_toArray, List.set_cons_zero, List.set_cons_succ]
  refine wpList_store_row rfl 48 (.tmp 2) (.tmp 51) rfl (g0 + 1) #[.int .i64 7, .int .i64 s, .int .i64 n, .int .i64 0, .int .i64 0, .int .i64 0, .int .i64 0, .int .i64 0, .int .i64 0, .int .i64 0, .int .i64 0, .int .i64 0, .int .i64 0, .int .i64 0, .int .i64 0, .int .i64 0, .int .i64 0, .bool e, .string t, .int .i64 0] rfl rfl 48 #[.int .i64 0, .int .i64 0, .int .i64 0, .int .i64 0, .int .i64 0, .int .i64 0, .int .i64 0, .int .i64 0, .int .i64 0, .int .i64 0, .int .i64 0, .int .i64 0, .int .i64 0, .int .i64 0, .int .i64 0, .int .i64 0, .int .i64 0, .bool false, .string ⟨#[]⟩, .int .i64 0] HR2'.out (by kernel_rfl) rfl (by simp [Value.oneCell']) ?_
  have HR3 : RowKit.Hid (Whole (W2'.setRow (g0 + 1) #[.int .i64 7, .int .i64 s, .int .i64 n, .int .i64 0, .int .i64 0, .int .i64 0, .int .i64 0, .int .i64 0, .int .i64 0, .int .i64 0, .int .i64 0, .int .i64 0, .int .i64 0, .int .i64 0, .int .i64 0, .int .i64 0, .int .i64 0, .bool e, .string t, .int .i64 0]) (g0 + 1) 48 [.int .i64 7, .int .i64 s, .int .i64 n, .int .i64 0, .int .i64 0, .int .i64 0, .int .i64 0, .int .i64 0, .int .i64 0, .int .i64 0, .int .i64 0, .int .i64 0, .int .i64 0, .int .i64 0, .int .i64 0, .int .i64 0, .int .i64 0, .bool e, .string t, .int .i64 0]) := Lib.hid (setRow_heap W2' (g0 + 1) _ _ _ _ HR2'.out)
  have HB3 : RowKit.Hid (Below w.heap.size w (W2'.setRow (g0 + 1) #[.int .i64 7, .int .i64 s, .int .i64 n, .int .i64 0, .int .i64 0, .int .i64 0, .int .i64 0, .int .i64 0, .int .i64 0, .int .i64 0, .int .i64 0, .int .i64 0, .int .i64 0, .int .i64 0, .int .i64 0, .int .i64 0, .int .i64 0, .bool e, .string t, .int .i64 0])) := Lib.hid ⟨HB2'.out.os, HB2'.out.tape, HB2'.out.output, (by have := HB2'.out.size; simpa [World.setRow] using this), fun i hi => (setRow_other W2' (g0 + 1) i _ (by have := HG0.out; omega)).trans (HB2'.out.block i hi)⟩
  obtain ⟨W3, gW3⟩ : ∃ x, W2'.setRow (g0 + 1) #[.int .i64 7, .int .i64 s, .int .i64 n, .int .i64 0, .int .i64 0, .int .i64 0, .int .i64 0, .int .i64 0, .int .i64 0, .int .i64 0, .int .i64 0, .int .i64 0, .int .i64 0, .int .i64 0, .int .i64 0, .int .i64 0, .int .i64 0, .bool e, .string t, .int .i64 0] = x := ⟨_, rfl⟩
  rw [gW3] at HR3 HB3 ⊢
  clear gW3
  go_wp2
  exact bodyPost_ret (v := .agg #[.int .i64 7, .int .i64 s, .int .i64 n, .int .i64 0, .int .i64 0, .int .i64 0, .int .i64 0, .int .i64 0, .int .i64 0, .int .i64 0, .int .i64 0, .int .i64 0, .int .i64 0, .int .i64 0, .int .i64 0, .int .i64 0, .int .i64 0, .bool e, .string t, .int .i64 0]) (results_cell_row Try.results47 _ W3 (g0 + 1) 48 #[.int .i64 7, .int .i64 s, .int .i64 n, .int .i64 0, .int .i64 0, .int .i64 0, .int .i64 0, .int .i64 0, .int .i64 0, .int .i64 0, .int .i64 0, .int .i64 0, .int .i64 0, .int .i64 0, .int .i64 0, .int .i64 0, .int .i64 0, .bool e, .string t, .int .i64 0] (0, 0) _ (by rfl) HR3.out Try.underlying48 rfl (by kernel_rfl)) rfl ⟨rfl, HB3.out⟩

set_option maxRecDepth 100000 in
set_option maxHeartbeats 2000000 in
theorem only_8 (s n s1 n1 s2 n2 a0 a1 a2 a3 a4 b0 b1 b2 b3 b4 : Int) (e : Bool) (t : ByteArray) (m : Int) : Pure 47 #[.agg #[.int .i64 8, .int .i64 s, .int .i64 n, .int .i64 s1, .int .i64 n1, .int .i64 s2, .int .i64 n2, .int .i64 a0, .int .i64 a1, .int .i64 a2, .int .i64 a3, .int .i64 a4, .int .i64 b0, .int .i64 b1, .int .i64 b2, .int .i64 b3, .int .i64 b4, .bool e, .string t, .int .i64 m]] (.agg #[.int .i64 8, .int .i64 s, .int .i64 n, .int .i64 0, .int .i64 0, .int .i64 0, .int .i64 0, .int .i64 0, .int .i64 0, .int .i64 0, .int .i64 0, .int .i64 0, .int .i64 0, .int .i64 0, .int .i64 0, .int .i64 0, .int .i64 0, .bool e, .string ⟨#[]⟩, .int .i64 m]) := fun w => by
  go_enter Try.func47, Try.ntmps47
  go_upto_region 1 with fail
  obtain ⟨W1, gW1⟩ : ∃ x, (w.alloc (.cells #[.int .i64 8, .int .i64 s, .int .i64 n, .int .i64 s1, .int .i64 n1, .int .i64 s2, .int .i64 n2, .int .i64 a0, .int .i64 a1, .int .i64 a2, .int .i64 a3, .int .i64 a4, .int .i64 b0, .int .i64 b1, .int .i64 b2, .int .i64 b3, .int .i64 b4, .bool e, .string t, .int .i64 m] 48)).alloc (.cells #[.int .i64 0, .int .i64 0, .int .i64 0, .int .i64 0, .int .i64 0, .int .i64 0, .int .i64 0, .int .i64 0, .int .i64 0, .int .i64 0, .int .i64 0, .int .i64 0, .int .i64 0, .int .i64 0, .int .i64 0, .int .i64 0, .int .i64 0, .bool false, .string ⟨#[]⟩, .int .i64 0] 48) = x := ⟨_, rfl⟩
  have hO : Whole W1 w.heap.size 48 [.int .i64 8, .int .i64 s, .int .i64 n, .int .i64 s1, .int .i64 n1, .int .i64 s2, .int .i64 n2, .int .i64 a0, .int .i64 a1, .int .i64 a2, .int .i64 a3, .int .i64 a4, .int .i64 b0, .int .i64 b1, .int .i64 b2, .int .i64 b3, .int .i64 b4, .bool e, .string t, .int .i64 m] := by rw [← gW1]; exact (Whole.new_ w _ [.int .i64 8, .int .i64 s, .int .i64 n, .int .i64 s1, .int .i64 n1, .int .i64 s2, .int .i64 n2, .int .i64 a0, .int .i64 a1, .int .i64 a2, .int .i64 a3, .int .i64 a4, .int .i64 b0, .int .i64 b1, .int .i64 b2, .int .i64 b3, .int .i64 b4, .bool e, .string t, .int .i64 m]).alloc _
  have hR : Whole W1 (w.heap.size + 1) 48 [.int .i64 0, .int .i64 0, .int .i64 0, .int .i64 0, .int .i64 0, .int .i64 0, .int .i64 0, .int .i64 0, .int .i64 0, .int .i64 0, .int .i64 0, .int .i64 0, .int .i64 0, .int .i64 0, .int .i64 0, .int .i64 0, .int .i64 0, .bool false, .string ⟨#[]⟩, .int .i64 0] := by rw [← gW1]; exact Whole.new2 (cs := [.int .i64 0, .int .i64 0, .int .i64 0, .int .i64 0, .int .i64 0, .int .i64 0, .int .i64 0, .int .i64 0, .int .i64 0, .int .i64 0, .int .i64 0, .int .i64 0, .int .i64 0, .int .i64 0, .int .i64 0, .int .i64 0, .int .i64 0, .bool false, .string ⟨#[]⟩, .int .i64 0]) (by simp)
  have hB : Below w.heap.size w W1 := by rw [← gW1]; exact below2 _ _ _
  rw [gW1]
  clear gW1
  have HO := Lib.hid hO
  have HR := Lib.hid hR
  have HB := Lib.hid hB
  have l0 := hO.cell (i := 0) rfl
  have l1 := hO.cell (i := 1) rfl
  have l2 := hO.cell (i := 2) rfl
  clear hO hR hB
  obtain ⟨g0, gg0⟩ : ∃ x, w.heap.size = x := ⟨_, rfl⟩
  rw [gg0] at HO HR l0 l1 l2 ⊢
  have HG0 : RowKit.Hid (w.heap.size ≤ g0) := Lib.hid (by omega)
  clear gg0
  refine wp_region_lit ?_
  refine wpList_readTo rfl (some 4) rfl ?_ ?_ ?_
  rotate_left
  · go_simp; exact rfl
  simp only [Act.put, List.setIfInBounds_toArray, List.set_cons_zero, List.set_cons_succ]
  refine wpList_readTo rfl (some 5) rfl ?_ ?_ ?_
  rotate_left
  · go_simp; exact rfl
  simp only [Act.put, List.setIfInBounds_toArray, List.set_cons_zero, List.set_cons_succ]
  refine wpList_readTo rfl (some 6) rfl ?_ ?_ ?_
  rotate_left
  · go_simp; exact rfl
  simp only [Act.put, List.setIfInBounds_toArray, List.set_cons_zero, List.set_cons_succ]
  refine wpList_readTo rfl (some 7) rfl ?_ ?_ ?_
  rotate_left
  · go_simp; exact rfl
  simp only [Act.put, List.setIfInBounds_toArray, List.set_cons_zero, List.set_cons_succ]
  refine wpList_readTo rfl (some 8) rfl ?_ ?_ ?_
  rotate_left
  · go_simp; exact rfl
  simp only [Act.put, List.setIfInBounds_toArray, List.set_cons_zero, List.set_cons_succ]
  refine wpList_allocTo rfl (some 3) rfl ?_ (.cells #[.int .i64 0, .int .i64 0, .int .i64 0, .int .i64 0, .int .i64 0, .int .i64 0, .int .i64 0, .int .i64 0, .int .i64 0, .int .i64 0, .int .i64 0, .int .i64 0, .int .i64 0, .int .i64 0, .int .i64 0, .int .i64 0, .int .i64 0, .bool false, .string ⟨#[]⟩, .int .i64 0] 48) ?_ ?_
  rotate_left
  · go_simp; exact rfl
  simp only [Act.put, List.setIfInBounds_toArray, List.set_cons_zero, List.set_cons_succ]
  refine wpList_store_row rfl 48 (.tmp 3) (.tmp 8) rfl W1.heap.size #[.int .i64 8, .int .i64 s, .int .i64 n, .int .i64 0, .int .i64 0, .int .i64 0, .int .i64 0, .int .i64 0, .int .i64 0, .int .i64 0, .int .i64 0, .int .i64 0, .int .i64 0, .int .i64 0, .int .i64 0, .int .i64 0, .int .i64 0, .bool false, .string ⟨#[]⟩, .int .i64 0] rfl rfl 48 #[.int .i64 0, .int .i64 0, .int .i64 0, .int .i64 0, .int .i64 0, .int .i64 0, .int .i64 0, .int .i64 0, .int .i64 0, .int .i64 0, .int .i64 0, .int .i64 0, .int .i64 0, .int .i64 0, .int .i64 0, .int .i64 0, .int .i64 0, .bool false, .string ⟨#[]⟩, .int .i64 0] (heap_alloc_last _ _) (by kernel_rfl) rfl (by simp [Value.oneCell']) ?_
  rw [World.setRow_alloc_new]
  obtain ⟨W2, gW2⟩ : ∃ x, W1.alloc (.cells #[.int .i64 8, .int .i64 s, .int .i64 n, .int .i64 0, .int .i64 0, .int .i64 0, .int .i64 0, .int .i64 0, .int .i64 0, .int .i64 0, .int .i64 0, .int .i64 0, .int .i64 0, .int .i64 0, .int .i64 0, .int .i64 0, .int .i64 0, .bool false, .string ⟨#[]⟩, .int .i64 0] 48) = x := ⟨_, rfl⟩
  obtain ⟨g2, gg2⟩ : ∃ x, W1.heap.size = x := ⟨_, rfl⟩
  have HN : RowKit.Hid (Whole W2 g2 48 [.int .i64 8, .int .i64 s, .int .i64 n, .int .i64 0, .int .i64 0, .int .i64 0, .int .i64 0, .int .i64 0, .int .i64 0, .int .i64 0, .int .i64 0, .int .i64 0, .int .i64 0, .int .i64 0, .int .i64 0, .int .i64 0, .int .i64 0, .bool false, .string ⟨#[]⟩, .int .i64 0]) := Lib.hid (by rw [← gW2, ← gg2]; exact Whole.new_ W1 _ [.int .i64 8, .int .i64 s, .int .i64 n, .int .i64 0, .int .i64 0, .int .i64 0, .int .i64 0, .int .i64 0, .int .i64 0, .int .i64 0, .int .i64 0, .int .i64 0, .int .i64 0, .int .i64 0, .int .i64 0, .int .i64 0, .int .i64 0, .bool false, .string ⟨#[]⟩, .int .i64 0])
  have HO2 := Lib.hid (show Whole W2 g0 _ _ from gW2 ▸ HO.out.alloc _)
  have HR2 := Lib.hid (show Whole W2 (g0 + 1) _ _ from gW2 ▸ HR.out.alloc _)
  have HB2 := Lib.hid (show Below w.heap.size w W2 from gW2 ▸ HB.out.alloc HB.out.size _)
  have l0 := HO2.out.cell (i := 0) rfl
  have HNE : RowKit.Hid (g0 + 1 ≠ g2) := Lib.hid (by have := HR.out.lt; omega)
  have HOE : RowKit.Hid (¬ g0 = g2) := Lib.hid (by have := HR.out.lt; omega)
  have HG2 : RowKit.Hid (w.heap.size ≤ g2) := Lib.hid (by have := HB.out.size; omega)
  rw [gW2, gg2]
  clear gW2 gg2
  go_upto_region 12 with fail
  have f17 : ∀ w', Kept (fun i => i = g2) W2.drew w' → w'.cell? ⟨g0, 17, none⟩ = some (.bool e) := fun w' h => h.cell (HO2.out.drew.cell (i := 17) rfl) (fun e => absurd (show g0 = g2 from e) HOE.out)
  have f19 : ∀ w', Kept (fun i => i = g2) W2.drew w' → w'.cell? ⟨g0, 19, none⟩ = some (.int .i64 m) := fun w' h => h.cell (HO2.out.drew.cell (i := 19) rfl) (fun e => absurd (show g0 = g2 from e) HOE.out)
  have HNs : RowKit.Hid (Whole W2.drew g2 _ _) := Lib.hid HN.out.drew
  have HRs : RowKit.Hid (Whole W2.drew (g0 + 1) _ _) := Lib.hid HR2.out.drew
  have HBs : RowKit.Hid (Below w.heap.size w W2.drew) := Lib.hid HB2.out.drew
  refine wp_region_reg (fun i => i = g2) (by kernel_rfl) ?_
  apply wpR_next 0 (some 45)
  · simp only [List.getElem?_toArray, List.getElem?_cons_succ, List.getElem?_cons_zero]; exact rfl
  · rfl
  · kernel_rfl
  · kernel_rfl
  · kernel_rfl
  · exact fun _ _ _ _ h => h
  apply Exists.intro
  apply And.intro
  · apply yr_run; rfl; intro w' hw'; go_simp; (try with_reducible rfl)
  try simp only [Act.put, List.setIfInBounds_toArray, List.set_cons_zero, List.set_cons_succ]
  apply wpR_next 1 (some 46)
  · simp only [List.getElem?_toArray, List.getElem?_cons_succ, List.getElem?_cons_zero]; exact rfl
  · rfl
  · kernel_rfl
  · kernel_rfl
  · kernel_rfl
  · exact fun _ _ _ _ h => h
  apply Exists.intro
  apply And.intro
  · apply yr_run; rfl; intro w' hw'; go_simp; (try with_reducible rfl)
  try simp only [Act.put, List.setIfInBounds_toArray, List.set_cons_zero, List.set_cons_succ]
  apply wpR_next 2 (some 47)
  · simp only [List.getElem?_toArray, List.getElem?_cons_succ, List.getElem?_cons_zero]; exact rfl
  · rfl
  · kernel_rfl
  · kernel_rfl
  · kernel_rfl
  · exact fun _ _ _ _ h => h
  apply Exists.intro
  apply And.intro
  · apply yr_run; rfl; intro w' hw'; go_simp; (try with_reducible rfl)
  try simp only [Act.put, List.setIfInBounds_toArray, List.set_cons_zero, List.set_cons_succ]
  apply wpR_next 3 (some 48)
  · simp only [List.getElem?_toArray, List.getElem?_cons_succ, List.getElem?_cons_zero]; exact rfl
  · rfl
  · kernel_rfl
  · kernel_rfl
  · kernel_rfl
  · exact fun _ _ _ _ h => h
  apply Exists.intro
  apply And.intro
  · apply yr_run; rfl; intro w' hw'; go_simp; (try with_reducible rfl)
  try simp only [Act.put, List.setIfInBounds_toArray, List.set_cons_zero, List.set_cons_succ]
  apply wpR_next 4 (some 49)
  · simp only [List.getElem?_toArray, List.getElem?_cons_succ, List.getElem?_cons_zero]; exact rfl
  · rfl
  · kernel_rfl
  · kernel_rfl
  · kernel_rfl
  · exact fun _ _ _ _ h => h
  apply Exists.intro
  apply And.intro
  · apply yr_run; rfl; intro w' hw'; go_simp; (try with_reducible rfl)
  try simp only [Act.put, List.setIfInBounds_toArray, List.set_cons_zero, List.set_cons_succ]
  apply wpR_store 5
  · simp only [List.getElem?_toArray, List.getElem?_cons_succ, List.getElem?_cons_zero]; exact rfl
  · rfl
  · kernel_rfl
  · rfl
  intro w' hw'
  have HNx := Lib.hid (HNs.out.below hw')
  have HRx := Lib.hid (HRs.out.below hw')
  have HBx := Lib.hid (HBs.out.trans (hw'.mono HBs.out.size))
  have y17 := HNx.out.cell (i := 17) rfl
  have z17 := HNx.out.free 17
  apply Exists.intro
  apply And.intro
  · go_simp; exact rfl
  apply And.intro
  · exact ((Kept.refl (fun i => i = g2) _).setCell (.inl (show g2 = g2 from rfl)) _)
  obtain ⟨V0, gV0⟩ : ∃ x, (w').setCell ⟨g2, 17, none⟩ (.bool e) = x := ⟨_, rfl⟩
  have HN0 := Lib.hid (show Whole V0 g2 _ _ from gV0 ▸ (HNx.out.set_ 17 _))
  have HR0 := Lib.hid (show Whole V0 (g0 + 1) _ _ from gV0 ▸ (HRx.out.far (by show g0 + 1 ≠ g2; exact HNE.out) _))
  have HB0 := Lib.hid (show Below w.heap.size w V0 from gV0 ▸ (HBx.out.setCell (by show w.heap.size ≤ g2; exact HG2.out) _))
  rw [gV0]
  clear gV0 hw' HNx HRx HBx y17 z17
  try simp only [Act.put, List.setIfInBounds_toArray, List.set_cons_zero, List.set_cons_succ]
  apply wpR_next 6 (some 50)
  · simp only [List.getElem?_toArray, List.getElem?_cons_succ, List.getElem?_cons_zero]; exact rfl
  · rfl
  · kernel_rfl
  · kernel_rfl
  · kernel_rfl
  · exact fun _ _ _ _ h => h
  apply Exists.intro
  apply And.intro
  · apply yr_run; rfl; intro w' hw'; go_simp; (try with_reducible rfl)
  try simp only [Act.put, List.setIfInBounds_toArray, List.set_cons_zero, List.set_cons_succ]
  apply wpR_store 7
  · simp only [List.getElem?_toArray, List.getElem?_cons_succ, List.getElem?_cons_zero]; exact rfl
  · rfl
  · kernel_rfl
  · rfl
  intro w' hw'
  have HNx := Lib.hid (HN0.out.below hw')
  have HRx := Lib.hid (HR0.out.below hw')
  have HBx := Lib.hid (HB0.out.trans (hw'.mono HB0.out.size))
  have y19 := HNx.out.cell (i := 19) rfl
  have z19 := HNx.out.free 19
  apply Exists.intro
  apply And.intro
  · go_simp; exact rfl
  apply And.intro
  · exact ((Kept.refl (fun i => i = g2) _).setCell (.inl (show g2 = g2 from rfl)) _)
  obtain ⟨V1, gV1⟩ : ∃ x, (w').setCell ⟨g2, 19, none⟩ (.int .i64 m) = x := ⟨_, rfl⟩
  have HN1 := Lib.hid (show Whole V1 g2 _ _ from gV1 ▸ (HNx.out.set_ 19 _))
  have HR1 := Lib.hid (show Whole V1 (g0 + 1) _ _ from gV1 ▸ (HRx.out.far (by show g0 + 1 ≠ g2; exact HNE.out) _))
  have HB1 := Lib.hid (show Below w.heap.size w V1 from gV1 ▸ (HBx.out.setCell (by show w.heap.size ≤ g2; exact HG2.out) _))
  rw [gV1]
  clear gV1 hw' HNx HRx HBx y19 z19
  try simp only [Act.put, List.setIfInBounds_toArray, List.set_cons_zero, List.set_cons_succ]
  refine wpR_done (by kernel_rfl) ?_ _
  intro W2' hw'
  have HN' := Lib.hid (HN1.out.below hw')
  have HR2' := Lib.hid (HR1.out.below hw')
  have HB2' := Lib.hid (HB1.out.trans (hw'.mono HB1.out.size))
  clear hw'
  go_upto_region 13 with fail
  refine wp_region_lit ?_
  refine wpList_load_row rfl 48 (.tmp 3) rfl g2 rfl 48 #[.int .i64 8, .int .i64 s, .int .i64 n, .int .i64 0, .int .i64 0, .int .i64 0, .int .i64 0, .int .i64 0, .int .i64 0, .int .i64 0, .int .i64 0, .int .i64 0, .int .i64 0, .int .i64 0, .int .i64 0, .int .i64 0, .int .i64 0, .bool e, .string ⟨#[]⟩, .int .i64 m] (0, 0) _ HN'.out Try.underlying48 rfl (by kernel_rfl) ?_
  simp only [Act.put, List.setIfInBounds_toArray, List.set_cons_zero, List.set_cons_succ]
  refine wpList_store_row rfl 48 (.tmp 2) (.tmp 51) rfl (g0 + 1) #[.int .i64 8, .int .i64 s, .int .i64 n, .int .i64 0, .int .i64 0, .int .i64 0, .int .i64 0, .int .i64 0, .int .i64 0, .int .i64 0, .int .i64 0, .int .i64 0, .int .i64 0, .int .i64 0, .int .i64 0, .int .i64 0, .int .i64 0, .bool e, .string ⟨#[]⟩, .int .i64 m] rfl rfl 48 #[.int .i64 0, .int .i64 0, .int .i64 0, .int .i64 0, .int .i64 0, .int .i64 0, .int .i64 0, .int .i64 0, .int .i64 0, .int .i64 0, .int .i64 0, .int .i64 0, .int .i64 0, .int .i64 0, .int .i64 0, .int .i64 0, .int .i64 0, .bool false, .string ⟨#[]⟩, .int .i64 0] HR2'.out (by kernel_rfl) rfl (by simp [Value.oneCell']) ?_
  have HR3 : RowKit.Hid (Whole (W2'.setRow (g0 + 1) #[.int .i64 8, .int .i64 s, .int .i64 n, .int .i64 0, .int .i64 0, .int .i64 0, .int .i64 0, .int .i64 0, .int .i64 0, .int .i64 0, .int .i64 0, .int .i64 0, .int .i64 0, .int .i64 0, .int .i64 0, .int .i64 0, .int .i64 0, .bool e, .string ⟨#[]⟩, .int .i64 m]) (g0 + 1) 48 [.int .i64 8, .int .i64 s, .int .i64 n, .int .i64 0, .int .i64 0, .int .i64 0, .int .i64 0, .int .i64 0, .int .i64 0, .int .i64 0, .int .i64 0, .int .i64 0, .int .i64 0, .int .i64 0, .int .i64 0, .int .i64 0, .int .i64 0, .bool e, .string ⟨#[]⟩, .int .i64 m]) := Lib.hid (setRow_heap W2' (g0 + 1) _ _ _ _ HR2'.out)
  have HB3 : RowKit.Hid (Below w.heap.size w (W2'.setRow (g0 + 1) #[.int .i64 8, .int .i64 s, .int .i64 n, .int .i64 0, .int .i64 0, .int .i64 0, .int .i64 0, .int .i64 0, .int .i64 0, .int .i64 0, .int .i64 0, .int .i64 0, .int .i64 0, .int .i64 0, .int .i64 0, .int .i64 0, .int .i64 0, .bool e, .string ⟨#[]⟩, .int .i64 m])) := Lib.hid ⟨HB2'.out.os, HB2'.out.tape, HB2'.out.output, (by have := HB2'.out.size; simpa [World.setRow] using this), fun i hi => (setRow_other W2' (g0 + 1) i _ (by have := HG0.out; omega)).trans (HB2'.out.block i hi)⟩
  obtain ⟨W3, gW3⟩ : ∃ x, W2'.setRow (g0 + 1) #[.int .i64 8, .int .i64 s, .int .i64 n, .int .i64 0, .int .i64 0, .int .i64 0, .int .i64 0, .int .i64 0, .int .i64 0, .int .i64 0, .int .i64 0, .int .i64 0, .int .i64 0, .int .i64 0, .int .i64 0, .int .i64 0, .int .i64 0, .bool e, .string ⟨#[]⟩, .int .i64 m] = x := ⟨_, rfl⟩
  rw [gW3] at HR3 HB3 ⊢
  clear gW3
  go_wp2
  exact bodyPost_ret (v := .agg #[.int .i64 8, .int .i64 s, .int .i64 n, .int .i64 0, .int .i64 0, .int .i64 0, .int .i64 0, .int .i64 0, .int .i64 0, .int .i64 0, .int .i64 0, .int .i64 0, .int .i64 0, .int .i64 0, .int .i64 0, .int .i64 0, .int .i64 0, .bool e, .string ⟨#[]⟩, .int .i64 m]) (results_cell_row Try.results47 _ W3 (g0 + 1) 48 #[.int .i64 8, .int .i64 s, .int .i64 n, .int .i64 0, .int .i64 0, .int .i64 0, .int .i64 0, .int .i64 0, .int .i64 0, .int .i64 0, .int .i64 0, .int .i64 0, .int .i64 0, .int .i64 0, .int .i64 0, .int .i64 0, .int .i64 0, .bool e, .string ⟨#[]⟩, .int .i64 m] (0, 0) _ (by rfl) HR3.out Try.underlying48 rfl (by kernel_rfl)) rfl ⟨rfl, HB3.out⟩

end Go.Proofs.Ytoiflngpjdghbaa

/- The contract of op.only, for any operation. -/
namespace Go.Proofs.Ytoiflngpjdghbaa
open Go.RowKit

theorem only_at (k s n s1 n1 s2 n2 a0 a1 a2 a3 a4 b0 b1 b2 b3 b4 : Int) (e : Bool) (t : ByteArray) (m : Int) : Pure 47 #[.agg #[.int .i64 k, .int .i64 s, .int .i64 n, .int .i64 s1, .int .i64 n1, .int .i64 s2, .int .i64 n2, .int .i64 a0, .int .i64 a1, .int .i64 a2, .int .i64 a3, .int .i64 a4, .int .i64 b0, .int .i64 b1, .int .i64 b2, .int .i64 b3, .int .i64 b4, .bool e, .string t, .int .i64 m]] (.agg (opCells (onlyO ⟨k, s, n, s1, n1, s2, n2, a0, a1, a2, a3, a4, b0, b1, b2, b3, b4, e, t, m⟩)).toArray) := by
  unfold onlyO
  simp only
  by_cases k3 : k = 3
  · subst k3
    rw [if_pos rfl]
    exact only_3 s n s1 n1 s2 n2 a0 a1 a2 a3 a4 b0 b1 b2 b3 b4 e t m
  have q3 : (k == 3) = false := by simpa using k3
  rw [if_neg k3]
  by_cases k5 : k = 5
  · subst k5
    rw [if_pos rfl]
    exact only_5 s n s1 n1 s2 n2 a0 a1 a2 a3 a4 b0 b1 b2 b3 b4 e t m
  have q5 : (k == 5) = false := by simpa using k5
  rw [if_neg k5]
  by_cases k6 : k = 6
  · subst k6
    rw [if_pos rfl]
    exact only_6 s n s1 n1 s2 n2 a0 a1 a2 a3 a4 b0 b1 b2 b3 b4 e t m
  have q6 : (k == 6) = false := by simpa using k6
  rw [if_neg k6]
  by_cases k7 : k = 7
  · subst k7
    rw [if_pos rfl]
    exact only_7 s n s1 n1 s2 n2 a0 a1 a2 a3 a4 b0 b1 b2 b3 b4 e t m
  have q7 : (k == 7) = false := by simpa using k7
  rw [if_neg k7]
  by_cases k8 : k = 8
  · subst k8
    rw [if_pos rfl]
    exact only_8 s n s1 n1 s2 n2 a0 a1 a2 a3 a4 b0 b1 b2 b3 b4 e t m
  have q8 : (k == 8) = false := by simpa using k8
  rw [if_neg k8]
  exact only_0 k s n s1 n1 s2 n2 a0 a1 a2 a3 a4 b0 b1 b2 b3 b4 e t m q3 q5 q6 q7 q8
end Go.Proofs.Ytoiflngpjdghbaa

/- Two operations compared. -/
namespace Go.Proofs.Ytoiflngpjdghbaa
open Go.RowKit
theorem bytes_inj {t t' : ByteArray} (h : t.toList = t'.toList) : t = t' := by
  rw [ByteArray.toList_eq, ByteArray.toList_eq] at h
  exact ByteArray.ext (Array.toList_inj.1 h)
theorem neq_op_run (o o' : OpT) (W : World) : (binOp .neq 48 (.agg (opCells o).toArray) (.agg (opCells o').toArray)).run Try.prog W = .ok (.bool (!decide (o = o'))) W := by
  obtain ⟨k, s, n, s1, n1, s2, n2, a0, a1, a2, a3, a4, b0, b1, b2, b3, b4, e, t, m⟩ := o
  obtain ⟨k', s', n', s1', n1', s2', n2', a0', a1', a2', a3', a4', b0', b1', b2', b3', b4', e', t', m'⟩ := o'
  simp only [opCells, OpT.mk.injEq]
  simp [go_sem]
  by_cases hk : k = k'
  case neg => simp [hk]
  rw [if_pos hk]
  by_cases hs : s = s'
  case neg => simp [hs]
  rw [if_pos hs]
  by_cases hn : n = n'
  case neg => simp [hn]
  rw [if_pos hn]
  by_cases hs1 : s1 = s1'
  case neg => simp [hs1]
  rw [if_pos hs1]
  by_cases hn1 : n1 = n1'
  case neg => simp [hn1]
  rw [if_pos hn1]
  by_cases hs2 : s2 = s2'
  case neg => simp [hs2]
  rw [if_pos hs2]
  by_cases hn2 : n2 = n2'
  case neg => simp [hn2]
  rw [if_pos hn2]
  by_cases ha0 : a0 = a0'
  case neg => simp [ha0]
  rw [if_pos ha0]
  by_cases ha1 : a1 = a1'
  case neg => simp [ha1]
  rw [if_pos ha1]
  by_cases ha2 : a2 = a2'
  case neg => simp [ha2]
  rw [if_pos ha2]
  by_cases ha3 : a3 = a3'
  case neg => simp [ha3]
  rw [if_pos ha3]
  by_cases ha4 : a4 = a4'
  case neg => simp [ha4]
  rw [if_pos ha4]
  by_cases hb0 : b0 = b0'
  case neg => simp [hb0]
  rw [if_pos hb0]
  by_cases hb1 : b1 = b1'
  case neg => simp [hb1]
  rw [if_pos hb1]
  by_cases hb2 : b2 = b2'
  case neg => simp [hb2]
  rw [if_pos hb2]
  by_cases hb3 : b3 = b3'
  case neg => simp [hb3]
  rw [if_pos hb3]
  by_cases hb4 : b4 = b4'
  case neg => simp [hb4]
  rw [if_pos hb4]
  by_cases he : e = e'
  case neg => simp [he]
  rw [if_pos he]
  by_cases ht : t = t'
  · subst ht
    by_cases hm : m = m' <;> simp_all
  · have ht' : ¬ t.toList = t'.toList := fun q => ht (bytes_inj q)
    rw [if_neg ht']
    simp [ht]
end Go.Proofs.Ytoiflngpjdghbaa

/- Out of XPk22 -/
namespace Go.Proofs.Ytoiflngpjdghbaa
open Go.RowKit
set_option linter.unusedSimpArgs false
set_option linter.unusedVariables false

theorem bequal_any (A A' : Option Addr) (n c n' c' : Nat) (P Q : List Nat) (w : World) (h : RdS w w.heap.size 1 A n c (rowsV f8 P)) (h' : RdS w w.heap.size 1 A' n' c' (rowsV f8 Q)) :
    Calls Try.prog 29 #[.slice A n c, .slice A' n' c'] w fun e w' => e = .returned (.bool ((txt P).toList == (txt Q).toList)) ∧ w = w' := by
  have hc1 := conv_txt h
  have hc2 := conv_txt h'
  clear h h'
  go_enter Try.func29, Try.ntmps29
  go_wp2
  go_ret
  exact ⟨rfl, rfl⟩
theorem byte_get {L : List Nat} (h : ∀ b ∈ L, b < 256) (j : Nat) : L.getD j 0 < 256 := by
  rw [List.getD_eq_getElem?_getD]
  cases hq : L[j]? with
  | none => show 0 < 256; omega
  | some b => exact h b (List.mem_of_getElem? hq)
theorem txt_size (L : List Nat) : (txt L).size = L.length := by
  have h : (txt L).toList.length = L.length := by rw [txt_list, List.length_map]
  rw [ByteArray.toList_eq] at h
  simpa using h
end Go.Proofs.Ytoiflngpjdghbaa

/- The contract of op.May. -/
namespace Go.Proofs.Ytoiflngpjdghbaa
open Go.RowKit
set_option linter.unusedSimpArgs false
set_option linter.unusedVariables false

/-- What is wrong with an operation. -/
def mayO (o : OpT) : Int := if mayI o.s o.n = true ∧ fitsO o = true ∧ o = onlyO o then (if mayL o.t = true then 0 else 4) else 1
theorem fits_op (o : OpT) : Pure 46 #[.agg (opCells o).toArray] (.bool (fitsO o)) := fun w => fits_at o.k o.s o.n o.s1 o.n1 o.s2 o.n2 o.a0 o.a1 o.a2 o.a3 o.a4 o.b0 o.b1 o.b2 o.b3 o.b4 o.e o.t o.m w
theorem only_op (o : OpT) : Pure 47 #[.agg (opCells o).toArray] (.agg (opCells (onlyO o)).toArray) := fun w => only_at o.k o.s o.n o.s1 o.n1 o.s2 o.n2 o.a0 o.a1 o.a2 o.a3 o.a4 o.b0 o.b1 o.b2 o.b3 o.b4 o.e o.t o.m w
theorem opCells_len (o : OpT) : (opCells o).length = 20 := rfl

set_option maxRecDepth 100000 in
set_option maxHeartbeats 2000000 in
theorem may_a (o : OpT) (h1 : mayI o.s o.n = false) (w : World) : Calls Try.prog 32 #[.agg (opCells o).toArray] w fun e w' => e = .returned (.int .i64 1) ∧ Below w.heap.size w w' := by
  have hm := may_any o.s o.n
  rw [h1] at hm
  have HM := Lib.hid hm
  clear hm h1
  go_enter Try.func32, Try.ntmps32
  go_upto_region 1 with fail
  obtain ⟨W1, gW1⟩ : ∃ x, w.alloc (.cells (opCells o).toArray 48) = x := ⟨_, rfl⟩
  have HO : RowKit.Hid (Whole W1 w.heap.size 48 (opCells o)) := Lib.hid (by rw [← gW1]; exact Whole.new_ w _ _)
  have HB : RowKit.Hid (Below w.heap.size w W1) := Lib.hid (by rw [← gW1]; exact below1 _ _)
  rw [gW1]
  clear gW1
  obtain ⟨g0, gg0⟩ : ∃ x, w.heap.size = x := ⟨_, rfl⟩
  rw [gg0] at HO ⊢
  clear gg0
  have ld1 : ∀ w', Kept Nil_ W1.drew w' → w'.cell? ⟨g0, 1, none⟩ = some (.int .i64 o.s) := fun w' h => h.nil_cell (HO.out.drew.cell (i := 1) rfl)
  have ld2 : ∀ w', Kept Nil_ W1.drew w' → w'.cell? ⟨g0, 2, none⟩ = some (.int .i64 o.n) := fun w' h => h.nil_cell (HO.out.drew.cell (i := 2) rfl)
  refine wp_region_reg (Nil_) (by kernel_rfl) ?_
  apply wpR_next 0 (some 3)
  · simp only [List.getElem?_toArray, List.getElem?_cons_succ, List.getElem?_cons_zero]; exact rfl
  · rfl
  · kernel_rfl
  · kernel_rfl
  · kernel_rfl
  · exact fun _ _ _ _ h => h
  apply Exists.intro
  apply And.intro
  · apply yr_run; rfl; intro w' hw'; go_simp; (try with_reducible rfl)
  simp only [Act.put, List.setIfInBounds_toArray, List.set_cons_zero, List.set_cons_succ]
  apply wpR_next 1 (some 4)
  · simp only [List.getElem?_toArray, List.getElem?_cons_succ, List.getElem?_cons_zero]; exact rfl
  · rfl
  · kernel_rfl
  · kernel_rfl
  · kernel_rfl
  · exact fun _ _ _ _ h => h
  apply Exists.intro
  apply And.intro
  · apply yr_run; rfl; intro w' hw'; go_simp; (try with_reducible rfl)
  simp only [Act.put, List.setIfInBounds_toArray, List.set_cons_zero, List.set_cons_succ]
  apply wpR_next 2 (some 5)
  · simp only [List.getElem?_toArray, List.getElem?_cons_succ, List.getElem?_cons_zero]; exact rfl
  · rfl
  · kernel_rfl
  · kernel_rfl
  · kernel_rfl
  · exact fun _ _ _ _ h => h
  apply Exists.intro
  apply And.intro
  · apply yr_call; rfl; rotate_left; intro w' hw'; exact HM.out w'; intro w'; go_simp
  simp only [Act.put, List.setIfInBounds_toArray, List.set_cons_zero, List.set_cons_succ]
  apply wpR_next 3 (some 6)
  · simp only [List.getElem?_toArray, List.getElem?_cons_succ, List.getElem?_cons_zero]; exact rfl
  · rfl
  · kernel_rfl
  · kernel_rfl
  · kernel_rfl
  · exact fun _ _ _ _ h => h
  apply Exists.intro
  apply And.intro
  · apply yr_run; rfl; intro w' hw'; go_simp; (try with_reducible rfl)
  simp only [Act.put, List.setIfInBounds_toArray, List.set_cons_zero, List.set_cons_succ]
  apply wpR_next 4 (some 7)
  · simp only [List.getElem?_toArray, List.getElem?_cons_succ, List.getElem?_cons_zero]; exact rfl
  · rfl
  · kernel_rfl
  · kernel_rfl
  · kernel_rfl
  · exact fun _ _ _ _ h => h
  apply Exists.intro
  apply And.intro
  · apply yr_run; rfl; intro w' hw'; go_simp; (try with_reducible rfl)
  simp only [Act.put, List.setIfInBounds_toArray, List.set_cons_zero, List.set_cons_succ]
  apply wpR_next 5 (some 8)
  · simp only [List.getElem?_toArray, List.getElem?_cons_succ, List.getElem?_cons_zero]; exact rfl
  · rfl
  · kernel_rfl
  · kernel_rfl
  · kernel_rfl
  · exact fun _ _ _ _ h => h
  apply Exists.intro
  apply And.intro
  · exact yr_skip (by rfl)
  simp only [Act.put, List.setIfInBounds_toArray, List.set_cons_zero, List.set_cons_succ]
  apply wpR_next 6 (some 9)
  · simp only [List.getElem?_toArray, List.getElem?_cons_succ, List.getElem?_cons_zero]; exact rfl
  · rfl
  · kernel_rfl
  · kernel_rfl
  · kernel_rfl
  · exact fun _ _ _ _ h => h
  apply Exists.intro
  apply And.intro
  · exact yr_skip (by rfl)
  simp only [Act.put, List.setIfInBounds_toArray, List.set_cons_zero, List.set_cons_succ]
  apply wpR_next 7 (some 10)
  · simp only [List.getElem?_toArray, List.getElem?_cons_succ, List.getElem?_cons_zero]; exact rfl
  · rfl
  · kernel_rfl
  · kernel_rfl
  · kernel_rfl
  · exact fun _ _ _ _ h => h
  apply Exists.intro
  apply And.intro
  · exact yr_skip (by rfl)
  simp only [Act.put, List.setIfInBounds_toArray, List.set_cons_zero, List.set_cons_succ]
  apply wpR_next 8 (some 11)
  · simp only [List.getElem?_toArray, List.getElem?_cons_succ, List.getElem?_cons_zero]; exact rfl
  · rfl
  · kernel_rfl
  · kernel_rfl
  · kernel_rfl
  · exact fun _ _ _ _ h => h
  apply Exists.intro
  apply And.intro
  · apply yr_run; rfl; intro w' hw'; go_simp; (try with_reducible rfl)
  simp only [Act.put, List.setIfInBounds_toArray, List.set_cons_zero, List.set_cons_succ]
  apply wpR_next 9 (some 12)
  · simp only [List.getElem?_toArray, List.getElem?_cons_succ, List.getElem?_cons_zero]; exact rfl
  · rfl
  · kernel_rfl
  · kernel_rfl
  · kernel_rfl
  · exact fun _ _ _ _ h => h
  apply Exists.intro
  apply And.intro
  · apply yr_run; rfl; intro w' hw'; go_simp; (try with_reducible rfl)
  simp only [Act.put, List.setIfInBounds_toArray, List.set_cons_zero, List.set_cons_succ]
  apply wpR_next 10 (some 13)
  · simp only [List.getElem?_toArray, List.getElem?_cons_succ, List.getElem?_cons_zero]; exact rfl
  · rfl
  · kernel_rfl
  · kernel_rfl
  · kernel_rfl
  · exact fun _ _ _ _ h => h
  apply Exists.intro
  apply And.intro
  · exact yr_skip (by rfl)
  simp only [Act.put, List.setIfInBounds_toArray, List.set_cons_zero, List.set_cons_succ]
  apply wpR_next 11 (some 14)
  · simp only [List.getElem?_toArray, List.getElem?_cons_succ, List.getElem?_cons_zero]; exact rfl
  · rfl
  · kernel_rfl
  · kernel_rfl
  · kernel_rfl
  · exact fun _ _ _ _ h => h
  apply Exists.intro
  apply And.intro
  · exact yr_skip (by rfl)
  simp only [Act.put, List.setIfInBounds_toArray, List.set_cons_zero, List.set_cons_succ]
  apply wpR_next 12 (some 15)
  · simp only [List.getElem?_toArray, List.getElem?_cons_succ, List.getElem?_cons_zero]; exact rfl
  · rfl
  · kernel_rfl
  · kernel_rfl
  · kernel_rfl
  · exact fun _ _ _ _ h => h
  apply Exists.intro
  apply And.intro
  · exact yr_skip (by rfl)
  simp only [Act.put, List.setIfInBounds_toArray, List.set_cons_zero, List.set_cons_succ]
  apply wpR_next 13 (some 16)
  · simp only [List.getElem?_toArray, List.getElem?_cons_succ, List.getElem?_cons_zero]; exact rfl
  · rfl
  · kernel_rfl
  · kernel_rfl
  · kernel_rfl
  · exact fun _ _ _ _ h => h
  apply Exists.intro
  apply And.intro
  · exact yr_skip (by rfl)
  simp only [Act.put, List.setIfInBounds_toArray, List.set_cons_zero, List.set_cons_succ]
  apply wpR_next 14 (some 17)
  · simp only [List.getElem?_toArray, List.getElem?_cons_succ, List.getElem?_cons_zero]; exact rfl
  · rfl
  · kernel_rfl
  · kernel_rfl
  · kernel_rfl
  · exact fun _ _ _ _ h => h
  apply Exists.intro
  apply And.intro
  · apply yr_run; rfl; intro w' hw'; go_simp; (try with_reducible rfl)
  simp only [Act.put, List.setIfInBounds_toArray, List.set_cons_zero, List.set_cons_succ]
  refine wpR_done (by kernel_rfl) ?_ _
  intro W2 hw2
  have HB2 : RowKit.Hid (Below w.heap.size w W2) := Lib.hid (HB.out.drew.trans (hw2.mono HB.out.drew.size))
  clear hw2 ld1 ld2
  go_wp2
  go_ret
  exact ⟨rfl, HB2.out⟩

set_option maxRecDepth 100000 in
set_option maxHeartbeats 2000000 in
theorem may_b (o : OpT) (h1 : mayI o.s o.n = true) (h2 : fitsO o = false) (w : World) : Calls Try.prog 32 #[.agg (opCells o).toArray] w fun e w' => e = .returned (.int .i64 1) ∧ Below w.heap.size w w' := by
  have hm := may_any o.s o.n
  rw [h1] at hm
  have HM := Lib.hid hm
  have hf := fits_op o
  rw [h2] at hf
  have HF := Lib.hid hf
  clear hm h1 hf h2
  go_enter Try.func32, Try.ntmps32
  go_upto_region 1 with fail
  obtain ⟨W1, gW1⟩ : ∃ x, w.alloc (.cells (opCells o).toArray 48) = x := ⟨_, rfl⟩
  have HO : RowKit.Hid (Whole W1 w.heap.size 48 (opCells o)) := Lib.hid (by rw [← gW1]; exact Whole.new_ w _ _)
  have HB : RowKit.Hid (Below w.heap.size w W1) := Lib.hid (by rw [← gW1]; exact below1 _ _)
  rw [gW1]
  clear gW1
  obtain ⟨g0, gg0⟩ : ∃ x, w.heap.size = x := ⟨_, rfl⟩
  rw [gg0] at HO ⊢
  clear gg0
  have ld1 : ∀ w', Kept Nil_ W1.drew w' → w'.cell? ⟨g0, 1, none⟩ = some (.int .i64 o.s) := fun w' h => h.nil_cell (HO.out.drew.cell (i := 1) rfl)
  have ld2 : ∀ w', Kept Nil_ W1.drew w' → w'.cell? ⟨g0, 2, none⟩ = some (.int .i64 o.n) := fun w' h => h.nil_cell (HO.out.drew.cell (i := 2) rfl)
  refine wp_region_reg (Nil_) (by kernel_rfl) ?_
  apply wpR_next 0 (some 3)
  · simp only [List.getElem?_toArray, List.getElem?_cons_succ, List.getElem?_cons_zero]; exact rfl
  · rfl
  · kernel_rfl
  · kernel_rfl
  · kernel_rfl
  · exact fun _ _ _ _ h => h
  apply Exists.intro
  apply And.intro
  · apply yr_run; rfl; intro w' hw'; go_simp; (try with_reducible rfl)
  simp only [Act.put, List.setIfInBounds_toArray, List.set_cons_zero, List.set_cons_succ]
  apply wpR_next 1 (some 4)
  · simp only [List.getElem?_toArray, List.getElem?_cons_succ, List.getElem?_cons_zero]; exact rfl
  · rfl
  · kernel_rfl
  · kernel_rfl
  · kernel_rfl
  · exact fun _ _ _ _ h => h
  apply Exists.intro
  apply And.intro
  · apply yr_run; rfl; intro w' hw'; go_simp; (try with_reducible rfl)
  simp only [Act.put, List.setIfInBounds_toArray, List.set_cons_zero, List.set_cons_succ]
  apply wpR_next 2 (some 5)
  · simp only [List.getElem?_toArray, List.getElem?_cons_succ, List.getElem?_cons_zero]; exact rfl
  · rfl
  · kernel_rfl
  · kernel_rfl
  · kernel_rfl
  · exact fun _ _ _ _ h => h
  apply Exists.intro
  apply And.intro
  · apply yr_call; rfl; rotate_left; intro w' hw'; exact HM.out w'; intro w'; go_simp
  simp only [Act.put, List.setIfInBounds_toArray, List.set_cons_zero, List.set_cons_succ]
  apply wpR_next 3 (some 6)
  · simp only [List.getElem?_toArray, List.getElem?_cons_succ, List.getElem?_cons_zero]; exact rfl
  · rfl
  · kernel_rfl
  · kernel_rfl
  · kernel_rfl
  · exact fun _ _ _ _ h => h
  apply Exists.intro
  apply And.intro
  · apply yr_run; rfl; intro w' hw'; go_simp; (try with_reducible rfl)
  simp only [Act.put, List.setIfInBounds_toArray, List.set_cons_zero, List.set_cons_succ]
  apply wpR_next 4 (some 7)
  · simp only [List.getElem?_toArray, List.getElem?_cons_succ, List.getElem?_cons_zero]; exact rfl
  · rfl
  · kernel_rfl
  · kernel_rfl
  · kernel_rfl
  · exact fun _ _ _ _ h => h
  apply Exists.intro
  apply And.intro
  · apply yr_run; rfl; intro w' hw'; go_simp; (try with_reducible rfl)
  simp only [Act.put, List.setIfInBounds_toArray, List.set_cons_zero, List.set_cons_succ]
  apply wpR_next 5 (some 8)
  · simp only [List.getElem?_toArray, List.getElem?_cons_succ, List.getElem?_cons_zero]; exact rfl
  · rfl
  · kernel_rfl
  · kernel_rfl
  · kernel_rfl
  · exact fun _ _ _ _ h => h
  apply Exists.intro
  apply And.intro
  · exact yr_load (by rfl) 48 (.tmp 1) rfl g0 rfl 48 (opCells o) _ (fun w' h => h.whole HO.out.drew (fun h => h)) Try.underlying48 rfl (by kernel_rfl)
  simp only [Act.put, List.setIfInBounds_toArray, List.set_cons_zero, List.set_cons_succ]
  apply wpR_next 6 (some 9)
  · simp only [List.getElem?_toArray, List.getElem?_cons_succ, List.getElem?_cons_zero]; exact rfl
  · rfl
  · kernel_rfl
  · kernel_rfl
  · kernel_rfl
  · exact fun _ _ _ _ h => h
  apply Exists.intro
  apply And.intro
  · apply yr_call; rfl; rotate_left; intro w' hw'; exact HF.out w'; intro w'; go_simp
  simp only [Act.put, List.setIfInBounds_toArray, List.set_cons_zero, List.set_cons_succ]
  apply wpR_next 7 (some 10)
  · simp only [List.getElem?_toArray, List.getElem?_cons_succ, List.getElem?_cons_zero]; exact rfl
  · rfl
  · kernel_rfl
  · kernel_rfl
  · kernel_rfl
  · exact fun _ _ _ _ h => h
  apply Exists.intro
  apply And.intro
  · apply yr_run; rfl; intro w' hw'; go_simp; (try with_reducible rfl)
  simp only [Act.put, List.setIfInBounds_toArray, List.set_cons_zero, List.set_cons_succ]
  apply wpR_next 8 (some 11)
  · simp only [List.getElem?_toArray, List.getElem?_cons_succ, List.getElem?_cons_zero]; exact rfl
  · rfl
  · kernel_rfl
  · kernel_rfl
  · kernel_rfl
  · exact fun _ _ _ _ h => h
  apply Exists.intro
  apply And.intro
  · apply yr_run; rfl; intro w' hw'; go_simp; (try with_reducible rfl)
  simp only [Act.put, List.setIfInBounds_toArray, List.set_cons_zero, List.set_cons_succ]
  apply wpR_next 9 (some 12)
  · simp only [List.getElem?_toArray, List.getElem?_cons_succ, List.getElem?_cons_zero]; exact rfl
  · rfl
  · kernel_rfl
  · kernel_rfl
  · kernel_rfl
  · exact fun _ _ _ _ h => h
  apply Exists.intro
  apply And.intro
  · apply yr_run; rfl; intro w' hw'; go_simp; (try with_reducible rfl)
  simp only [Act.put, List.setIfInBounds_toArray, List.set_cons_zero, List.set_cons_succ]
  apply wpR_next 10 (some 13)
  · simp only [List.getElem?_toArray, List.getElem?_cons_succ, List.getElem?_cons_zero]; exact rfl
  · rfl
  · kernel_rfl
  · kernel_rfl
  · kernel_rfl
  · exact fun _ _ _ _ h => h
  apply Exists.intro
  apply And.intro
  · exact yr_skip (by rfl)
  simp only [Act.put, List.setIfInBounds_toArray, List.set_cons_zero, List.set_cons_succ]
  apply wpR_next 11 (some 14)
  · simp only [List.getElem?_toArray, List.getElem?_cons_succ, List.getElem?_cons_zero]; exact rfl
  · rfl
  · kernel_rfl
  · kernel_rfl
  · kernel_rfl
  · exact fun _ _ _ _ h => h
  apply Exists.intro
  apply And.intro
  · exact yr_skip (by rfl)
  simp only [Act.put, List.setIfInBounds_toArray, List.set_cons_zero, List.set_cons_succ]
  apply wpR_next 12 (some 15)
  · simp only [List.getElem?_toArray, List.getElem?_cons_succ, List.getElem?_cons_zero]; exact rfl
  · rfl
  · kernel_rfl
  · kernel_rfl
  · kernel_rfl
  · exact fun _ _ _ _ h => h
  apply Exists.intro
  apply And.intro
  · exact yr_skip (by rfl)
  simp only [Act.put, List.setIfInBounds_toArray, List.set_cons_zero, List.set_cons_succ]
  apply wpR_next 13 (some 16)
  · simp only [List.getElem?_toArray, List.getElem?_cons_succ, List.getElem?_cons_zero]; exact rfl
  · rfl
  · kernel_rfl
  · kernel_rfl
  · kernel_rfl
  · exact fun _ _ _ _ h => h
  apply Exists.intro
  apply And.intro
  · exact yr_skip (by rfl)
  simp only [Act.put, List.setIfInBounds_toArray, List.set_cons_zero, List.set_cons_succ]
  apply wpR_next 14 (some 17)
  · simp only [List.getElem?_toArray, List.getElem?_cons_succ, List.getElem?_cons_zero]; exact rfl
  · rfl
  · kernel_rfl
  · kernel_rfl
  · kernel_rfl
  · exact fun _ _ _ _ h => h
  apply Exists.intro
  apply And.intro
  · apply yr_run; rfl; intro w' hw'; go_simp; (try with_reducible rfl)
  simp only [Act.put, List.setIfInBounds_toArray, List.set_cons_zero, List.set_cons_succ]
  refine wpR_done (by kernel_rfl) ?_ _
  intro W2 hw2
  have HB2 : RowKit.Hid (Below w.heap.size w W2) := Lib.hid (HB.out.drew.trans (hw2.mono HB.out.drew.size))
  clear hw2 ld1 ld2
  go_wp2
  go_ret
  exact ⟨rfl, HB2.out⟩

set_option maxRecDepth 100000 in
set_option maxHeartbeats 2000000 in
theorem may_c (o : OpT) (h1 : mayI o.s o.n = true) (h2 : fitsO o = true) (h3 : ¬ o = onlyO o) (w : World) : Calls Try.prog 32 #[.agg (opCells o).toArray] w fun e w' => e = .returned (.int .i64 1) ∧ Below w.heap.size w w' := by
  have hm := may_any o.s o.n
  rw [h1] at hm
  have HM := Lib.hid hm
  have hf := fits_op o
  rw [h2] at hf
  have HF := Lib.hid hf
  have HN := Lib.hid (only_op o)
  have hq := fun W => neq_op_run o (onlyO o) W
  rw [decide_eq_false h3] at hq
  have HQ := Lib.hid hq
  clear hm h1 hf h2 hq h3
  go_enter Try.func32, Try.ntmps32
  go_upto_region 1 with fail
  obtain ⟨W1, gW1⟩ : ∃ x, w.alloc (.cells (opCells o).toArray 48) = x := ⟨_, rfl⟩
  have HO : RowKit.Hid (Whole W1 w.heap.size 48 (opCells o)) := Lib.hid (by rw [← gW1]; exact Whole.new_ w _ _)
  have HB : RowKit.Hid (Below w.heap.size w W1) := Lib.hid (by rw [← gW1]; exact below1 _ _)
  rw [gW1]
  clear gW1
  obtain ⟨g0, gg0⟩ : ∃ x, w.heap.size = x := ⟨_, rfl⟩
  rw [gg0] at HO ⊢
  clear gg0
  have ld1 : ∀ w', Kept Nil_ W1.drew w' → w'.cell? ⟨g0, 1, none⟩ = some (.int .i64 o.s) := fun w' h => h.nil_cell (HO.out.drew.cell (i := 1) rfl)
  have ld2 : ∀ w', Kept Nil_ W1.drew w' → w'.cell? ⟨g0, 2, none⟩ = some (.int .i64 o.n) := fun w' h => h.nil_cell (HO.out.drew.cell (i := 2) rfl)
  refine wp_region_reg (Nil_) (by kernel_rfl) ?_
  apply wpR_next 0 (some 3)
  · simp only [List.getElem?_toArray, List.getElem?_cons_succ, List.getElem?_cons_zero]; exact rfl
  · rfl
  · kernel_rfl
  · kernel_rfl
  · kernel_rfl
  · exact fun _ _ _ _ h => h
  apply Exists.intro
  apply And.intro
  · apply yr_run; rfl; intro w' hw'; go_simp; (try with_reducible rfl)
  simp only [Act.put, List.setIfInBounds_toArray, List.set_cons_zero, List.set_cons_succ]
  apply wpR_next 1 (some 4)
  · simp only [List.getElem?_toArray, List.getElem?_cons_succ, List.getElem?_cons_zero]; exact rfl
  · rfl
  · kernel_rfl
  · kernel_rfl
  · kernel_rfl
  · exact fun _ _ _ _ h => h
  apply Exists.intro
  apply And.intro
  · apply yr_run; rfl; intro w' hw'; go_simp; (try with_reducible rfl)
  simp only [Act.put, List.setIfInBounds_toArray, List.set_cons_zero, List.set_cons_succ]
  apply wpR_next 2 (some 5)
  · simp only [List.getElem?_toArray, List.getElem?_cons_succ, List.getElem?_cons_zero]; exact rfl
  · rfl
  · kernel_rfl
  · kernel_rfl
  · kernel_rfl
  · exact fun _ _ _ _ h => h
  apply Exists.intro
  apply And.intro
  · apply yr_call; rfl; rotate_left; intro w' hw'; exact HM.out w'; intro w'; go_simp
  simp only [Act.put, List.setIfInBounds_toArray, List.set_cons_zero, List.set_cons_succ]
  apply wpR_next 3 (some 6)
  · simp only [List.getElem?_toArray, List.getElem?_cons_succ, List.getElem?_cons_zero]; exact rfl
  · rfl
  · kernel_rfl
  · kernel_rfl
  · kernel_rfl
  · exact fun _ _ _ _ h => h
  apply Exists.intro
  apply And.intro
  · apply yr_run; rfl; intro w' hw'; go_simp; (try with_reducible rfl)
  simp only [Act.put, List.setIfInBounds_toArray, List.set_cons_zero, List.set_cons_succ]
  apply wpR_next 4 (some 7)
  · simp only [List.getElem?_toArray, List.getElem?_cons_succ, List.getElem?_cons_zero]; exact rfl
  · rfl
  · kernel_rfl
  · kernel_rfl
  · kernel_rfl
  · exact fun _ _ _ _ h => h
  apply Exists.intro
  apply And.intro
  · apply yr_run; rfl; intro w' hw'; go_simp; (try with_reducible rfl)
  simp only [Act.put, List.setIfInBounds_toArray, List.set_cons_zero, List.set_cons_succ]
  apply wpR_next 5 (some 8)
  · simp only [List.getElem?_toArray, List.getElem?_cons_succ, List.getElem?_cons_zero]; exact rfl
  · rfl
  · kernel_rfl
  · kernel_rfl
  · kernel_rfl
  · exact fun _ _ _ _ h => h
  apply Exists.intro
  apply And.intro
  · exact yr_load (by rfl) 48 (.tmp 1) rfl g0 rfl 48 (opCells o) _ (fun w' h => h.whole HO.out.drew (fun h => h)) Try.underlying48 rfl (by kernel_rfl)
  simp only [Act.put, List.setIfInBounds_toArray, List.set_cons_zero, List.set_cons_succ]
  apply wpR_next 6 (some 9)
  · simp only [List.getElem?_toArray, List.getElem?_cons_succ, List.getElem?_cons_zero]; exact rfl
  · rfl
  · kernel_rfl
  · kernel_rfl
  · kernel_rfl
  · exact fun _ _ _ _ h => h
  apply Exists.intro
  apply And.intro
  · apply yr_call; rfl; rotate_left; intro w' hw'; exact HF.out w'; intro w'; go_simp
  simp only [Act.put, List.setIfInBounds_toArray, List.set_cons_zero, List.set_cons_succ]
  apply wpR_next 7 (some 10)
  · simp only [List.getElem?_toArray, List.getElem?_cons_succ, List.getElem?_cons_zero]; exact rfl
  · rfl
  · kernel_rfl
  · kernel_rfl
  · kernel_rfl
  · exact fun _ _ _ _ h => h
  apply Exists.intro
  apply And.intro
  · apply yr_run; rfl; intro w' hw'; go_simp; (try with_reducible rfl)
  simp only [Act.put, List.setIfInBounds_toArray, List.set_cons_zero, List.set_cons_succ]
  apply wpR_next 8 (some 11)
  · simp only [List.getElem?_toArray, List.getElem?_cons_succ, List.getElem?_cons_zero]; exact rfl
  · rfl
  · kernel_rfl
  · kernel_rfl
  · kernel_rfl
  · exact fun _ _ _ _ h => h
  apply Exists.intro
  apply And.intro
  · apply yr_run; rfl; intro w' hw'; go_simp; (try with_reducible rfl)
  simp only [Act.put, List.setIfInBounds_toArray, List.set_cons_zero, List.set_cons_succ]
  apply wpR_next 9 (some 12)
  · simp only [List.getElem?_toArray, List.getElem?_cons_succ, List.getElem?_cons_zero]; exact rfl
  · rfl
  · kernel_rfl
  · kernel_rfl
  · kernel_rfl
  · exact fun _ _ _ _ h => h
  apply Exists.intro
  apply And.intro
  · apply yr_run; rfl; intro w' hw'; go_simp; (try with_reducible rfl)
  simp only [Act.put, List.setIfInBounds_toArray, List.set_cons_zero, List.set_cons_succ]
  apply wpR_next 10 (some 13)
  · simp only [List.getElem?_toArray, List.getElem?_cons_succ, List.getElem?_cons_zero]; exact rfl
  · rfl
  · kernel_rfl
  · kernel_rfl
  · kernel_rfl
  · exact fun _ _ _ _ h => h
  apply Exists.intro
  apply And.intro
  · exact yr_load (by rfl) 48 (.tmp 1) rfl g0 rfl 48 (opCells o) _ (fun w' h => h.whole HO.out.drew (fun h => h)) Try.underlying48 rfl (by kernel_rfl)
  simp only [Act.put, List.setIfInBounds_toArray, List.set_cons_zero, List.set_cons_succ]
  apply wpR_next 11 (some 14)
  · simp only [List.getElem?_toArray, List.getElem?_cons_succ, List.getElem?_cons_zero]; exact rfl
  · rfl
  · kernel_rfl
  · kernel_rfl
  · kernel_rfl
  · exact fun _ _ _ _ h => h
  apply Exists.intro
  apply And.intro
  · exact yr_load (by rfl) 48 (.tmp 1) rfl g0 rfl 48 (opCells o) _ (fun w' h => h.whole HO.out.drew (fun h => h)) Try.underlying48 rfl (by kernel_rfl)
  simp only [Act.put, List.setIfInBounds_toArray, List.set_cons_zero, List.set_cons_succ]
  apply wpR_next 12 (some 15)
  · simp only [List.getElem?_toArray, List.getElem?_cons_succ, List.getElem?_cons_zero]; exact rfl
  · rfl
  · kernel_rfl
  · kernel_rfl
  · kernel_rfl
  · exact fun _ _ _ _ h => h
  apply Exists.intro
  apply And.intro
  · apply yr_call; rfl; rotate_left; intro w' hw'; exact HN.out w'; intro w'; go_simp
  simp only [Act.put, List.setIfInBounds_toArray, List.set_cons_zero, List.set_cons_succ]
  apply wpR_next 13 (some 16)
  · simp only [List.getElem?_toArray, List.getElem?_cons_succ, List.getElem?_cons_zero]; exact rfl
  · rfl
  · kernel_rfl
  · kernel_rfl
  · kernel_rfl
  · exact fun _ _ _ _ h => h
  apply Exists.intro
  apply And.intro
  · exact yr_run (by rfl) (fun w' _ => exec_binop_agg .neq 48 (.tmp 13) (.tmp 15) 48 rfl rfl rfl (by kernel_rfl) (HQ.out w'))
  simp only [Act.put, List.setIfInBounds_toArray, List.set_cons_zero, List.set_cons_succ]
  apply wpR_next 14 (some 17)
  · simp only [List.getElem?_toArray, List.getElem?_cons_succ, List.getElem?_cons_zero]; exact rfl
  · rfl
  · kernel_rfl
  · kernel_rfl
  · kernel_rfl
  · exact fun _ _ _ _ h => h
  apply Exists.intro
  apply And.intro
  · apply yr_run; rfl; intro w' hw'; go_simp; (try with_reducible rfl)
  simp only [Act.put, List.setIfInBounds_toArray, List.set_cons_zero, List.set_cons_succ]
  refine wpR_done (by kernel_rfl) ?_ _
  intro W2 hw2
  have HB2 : RowKit.Hid (Below w.heap.size w W2) := Lib.hid (HB.out.drew.trans (hw2.mono HB.out.drew.size))
  clear hw2 ld1 ld2
  go_wp2
  go_ret
  exact ⟨rfl, HB2.out⟩

set_option maxRecDepth 100000 in
set_option maxHeartbeats 2000000 in
theorem may_d (o : OpT) (h1 : mayI o.s o.n = true) (h2 : fitsO o = true) (h3 : o = onlyO o) (h4 : mayL o.t = false) (w : World) : Calls Try.prog 32 #[.agg (opCells o).toArray] w fun e w' => e = .returned (.int .i64 4) ∧ Below w.heap.size w w' := by
  have hm := may_any o.s o.n
  rw [h1] at hm
  have HM := Lib.hid hm
  have hf := fits_op o
  rw [h2] at hf
  have HF := Lib.hid hf
  have HN := Lib.hid (only_op o)
  have hq := fun W => neq_op_run o (onlyO o) W
  rw [decide_eq_true h3] at hq
  have HQ := Lib.hid hq
  clear hm h1 hf h2 hq h3
  have hl := maylabel_any o.t
  rw [h4] at hl
  have HL := Lib.hid hl
  clear hl h4
  go_enter Try.func32, Try.ntmps32
  go_upto_region 1 with fail
  obtain ⟨W1, gW1⟩ : ∃ x, w.alloc (.cells (opCells o).toArray 48) = x := ⟨_, rfl⟩
  have HO : RowKit.Hid (Whole W1 w.heap.size 48 (opCells o)) := Lib.hid (by rw [← gW1]; exact Whole.new_ w _ _)
  have HB : RowKit.Hid (Below w.heap.size w W1) := Lib.hid (by rw [← gW1]; exact below1 _ _)
  rw [gW1]
  clear gW1
  obtain ⟨g0, gg0⟩ : ∃ x, w.heap.size = x := ⟨_, rfl⟩
  rw [gg0] at HO ⊢
  clear gg0
  have ld1 : ∀ w', Kept Nil_ W1.drew w' → w'.cell? ⟨g0, 1, none⟩ = some (.int .i64 o.s) := fun w' h => h.nil_cell (HO.out.drew.cell (i := 1) rfl)
  have ld2 : ∀ w', Kept Nil_ W1.drew w' → w'.cell? ⟨g0, 2, none⟩ = some (.int .i64 o.n) := fun w' h => h.nil_cell (HO.out.drew.cell (i := 2) rfl)
  refine wp_region_reg (Nil_) (by kernel_rfl) ?_
  apply wpR_next 0 (some 3)
  · simp only [List.getElem?_toArray, List.getElem?_cons_succ, List.getElem?_cons_zero]; exact rfl
  · rfl
  · kernel_rfl
  · kernel_rfl
  · kernel_rfl
  · exact fun _ _ _ _ h => h
  apply Exists.intro
  apply And.intro
  · apply yr_run; rfl; intro w' hw'; go_simp; (try with_reducible rfl)
  simp only [Act.put, List.setIfInBounds_toArray, List.set_cons_zero, List.set_cons_succ]
  apply wpR_next 1 (some 4)
  · simp only [List.getElem?_toArray, List.getElem?_cons_succ, List.getElem?_cons_zero]; exact rfl
  · rfl
  · kernel_rfl
  · kernel_rfl
  · kernel_rfl
  · exact fun _ _ _ _ h => h
  apply Exists.intro
  apply And.intro
  · apply yr_run; rfl; intro w' hw'; go_simp; (try with_reducible rfl)
  simp only [Act.put, List.setIfInBounds_toArray, List.set_cons_zero, List.set_cons_succ]
  apply wpR_next 2 (some 5)
  · simp only [List.getElem?_toArray, List.getElem?_cons_succ, List.getElem?_cons_zero]; exact rfl
  · rfl
  · kernel_rfl
  · kernel_rfl
  · kernel_rfl
  · exact fun _ _ _ _ h => h
  apply Exists.intro
  apply And.intro
  · apply yr_call; rfl; rotate_left; intro w' hw'; exact HM.out w'; intro w'; go_simp
  simp only [Act.put, List.setIfInBounds_toArray, List.set_cons_zero, List.set_cons_succ]
  apply wpR_next 3 (some 6)
  · simp only [List.getElem?_toArray, List.getElem?_cons_succ, List.getElem?_cons_zero]; exact rfl
  · rfl
  · kernel_rfl
  · kernel_rfl
  · kernel_rfl
  · exact fun _ _ _ _ h => h
  apply Exists.intro
  apply And.intro
  · apply yr_run; rfl; intro w' hw'; go_simp; (try with_reducible rfl)
  simp only [Act.put, List.setIfInBounds_toArray, List.set_cons_zero, List.set_cons_succ]
  apply wpR_next 4 (some 7)
  · simp only [List.getElem?_toArray, List.getElem?_cons_succ, List.getElem?_cons_zero]; exact rfl
  · rfl
  · kernel_rfl
  · kernel_rfl
  · kernel_rfl
  · exact fun _ _ _ _ h => h
  apply Exists.intro
  apply And.intro
  · apply yr_run; rfl; intro w' hw'; go_simp; (try with_reducible rfl)
  simp only [Act.put, List.setIfInBounds_toArray, List.set_cons_zero, List.set_cons_succ]
  apply wpR_next 5 (some 8)
  · simp only [List.getElem?_toArray, List.getElem?_cons_succ, List.getElem?_cons_zero]; exact rfl
  · rfl
  · kernel_rfl
  · kernel_rfl
  · kernel_rfl
  · exact fun _ _ _ _ h => h
  apply Exists.intro
  apply And.intro
  · exact yr_load (by rfl) 48 (.tmp 1) rfl g0 rfl 48 (opCells o) _ (fun w' h => h.whole HO.out.drew (fun h => h)) Try.underlying48 rfl (by kernel_rfl)
  simp only [Act.put, List.setIfInBounds_toArray, List.set_cons_zero, List.set_cons_succ]
  apply wpR_next 6 (some 9)
  · simp only [List.getElem?_toArray, List.getElem?_cons_succ, List.getElem?_cons_zero]; exact rfl
  · rfl
  · kernel_rfl
  · kernel_rfl
  · kernel_rfl
  · exact fun _ _ _ _ h => h
  apply Exists.intro
  apply And.intro
  · apply yr_call; rfl; rotate_left; intro w' hw'; exact HF.out w'; intro w'; go_simp
  simp only [Act.put, List.setIfInBounds_toArray, List.set_cons_zero, List.set_cons_succ]
  apply wpR_next 7 (some 10)
  · simp only [List.getElem?_toArray, List.getElem?_cons_succ, List.getElem?_cons_zero]; exact rfl
  · rfl
  · kernel_rfl
  · kernel_rfl
  · kernel_rfl
  · exact fun _ _ _ _ h => h
  apply Exists.intro
  apply And.intro
  · apply yr_run; rfl; intro w' hw'; go_simp; (try with_reducible rfl)
  simp only [Act.put, List.setIfInBounds_toArray, List.set_cons_zero, List.set_cons_succ]
  apply wpR_next 8 (some 11)
  · simp only [List.getElem?_toArray, List.getElem?_cons_succ, List.getElem?_cons_zero]; exact rfl
  · rfl
  · kernel_rfl
  · kernel_rfl
  · kernel_rfl
  · exact fun _ _ _ _ h => h
  apply Exists.intro
  apply And.intro
  · apply yr_run; rfl; intro w' hw'; go_simp; (try with_reducible rfl)
  simp only [Act.put, List.setIfInBounds_toArray, List.set_cons_zero, List.set_cons_succ]
  apply wpR_next 9 (some 12)
  · simp only [List.getElem?_toArray, List.getElem?_cons_succ, List.getElem?_cons_zero]; exact rfl
  · rfl
  · kernel_rfl
  · kernel_rfl
  · kernel_rfl
  · exact fun _ _ _ _ h => h
  apply Exists.intro
  apply And.intro
  · apply yr_run; rfl; intro w' hw'; go_simp; (try with_reducible rfl)
  simp only [Act.put, List.setIfInBounds_toArray, List.set_cons_zero, List.set_cons_succ]
  apply wpR_next 10 (some 13)
  · simp only [List.getElem?_toArray, List.getElem?_cons_succ, List.getElem?_cons_zero]; exact rfl
  · rfl
  · kernel_rfl
  · kernel_rfl
  · kernel_rfl
  · exact fun _ _ _ _ h => h
  apply Exists.intro
  apply And.intro
  · exact yr_load (by rfl) 48 (.tmp 1) rfl g0 rfl 48 (opCells o) _ (fun w' h => h.whole HO.out.drew (fun h => h)) Try.underlying48 rfl (by kernel_rfl)
  simp only [Act.put, List.setIfInBounds_toArray, List.set_cons_zero, List.set_cons_succ]
  apply wpR_next 11 (some 14)
  · simp only [List.getElem?_toArray, List.getElem?_cons_succ, List.getElem?_cons_zero]; exact rfl
  · rfl
  · kernel_rfl
  · kernel_rfl
  · kernel_rfl
  · exact fun _ _ _ _ h => h
  apply Exists.intro
  apply And.intro
  · exact yr_load (by rfl) 48 (.tmp 1) rfl g0 rfl 48 (opCells o) _ (fun w' h => h.whole HO.out.drew (fun h => h)) Try.underlying48 rfl (by kernel_rfl)
  simp only [Act.put, List.setIfInBounds_toArray, List.set_cons_zero, List.set_cons_succ]
  apply wpR_next 12 (some 15)
  · simp only [List.getElem?_toArray, List.getElem?_cons_succ, List.getElem?_cons_zero]; exact rfl
  · rfl
  · kernel_rfl
  · kernel_rfl
  · kernel_rfl
  · exact fun _ _ _ _ h => h
  apply Exists.intro
  apply And.intro
  · apply yr_call; rfl; rotate_left; intro w' hw'; exact HN.out w'; intro w'; go_simp
  simp only [Act.put, List.setIfInBounds_toArray, List.set_cons_zero, List.set_cons_succ]
  apply wpR_next 13 (some 16)
  · simp only [List.getElem?_toArray, List.getElem?_cons_succ, List.getElem?_cons_zero]; exact rfl
  · rfl
  · kernel_rfl
  · kernel_rfl
  · kernel_rfl
  · exact fun _ _ _ _ h => h
  apply Exists.intro
  apply And.intro
  · exact yr_run (by rfl) (fun w' _ => exec_binop_agg .neq 48 (.tmp 13) (.tmp 15) 48 rfl rfl rfl (by kernel_rfl) (HQ.out w'))
  simp only [Act.put, List.setIfInBounds_toArray, List.set_cons_zero, List.set_cons_succ]
  apply wpR_next 14 (some 17)
  · simp only [List.getElem?_toArray, List.getElem?_cons_succ, List.getElem?_cons_zero]; exact rfl
  · rfl
  · kernel_rfl
  · kernel_rfl
  · kernel_rfl
  · exact fun _ _ _ _ h => h
  apply Exists.intro
  apply And.intro
  · apply yr_run; rfl; intro w' hw'; go_simp; (try with_reducible rfl)
  simp only [Act.put, List.setIfInBounds_toArray, List.set_cons_zero, List.set_cons_succ]
  refine wpR_done (by kernel_rfl) ?_ _
  intro W2 hw2
  have HB2 : RowKit.Hid (Below w.heap.size w W2) := Lib.hid (HB.out.drew.trans (hw2.mono HB.out.drew.size))
  have HO2 : RowKit.Hid (Whole W2 g0 48 (opCells o)) := Lib.hid (HO.out.drew.below hw2)
  have l18 := HO2.out.cell (i := 18) rfl
  clear hw2 ld1 ld2
  go_wp2_with (first | (go_at_call 48; refine (HL.out _).mono ?_; rintro e w3 ⟨rfl, hb3⟩))
  go_ret
  exact ⟨rfl, HB2.out.trans (hb3.mono HB2.out.size)⟩

set_option maxRecDepth 100000 in
set_option maxHeartbeats 2000000 in
theorem may_e (o : OpT) (h1 : mayI o.s o.n = true) (h2 : fitsO o = true) (h3 : o = onlyO o) (h4 : mayL o.t = true) (w : World) : Calls Try.prog 32 #[.agg (opCells o).toArray] w fun e w' => e = .returned (.int .i64 0) ∧ Below w.heap.size w w' := by
  have hm := may_any o.s o.n
  rw [h1] at hm
  have HM := Lib.hid hm
  have hf := fits_op o
  rw [h2] at hf
  have HF := Lib.hid hf
  have HN := Lib.hid (only_op o)
  have hq := fun W => neq_op_run o (onlyO o) W
  rw [decide_eq_true h3] at hq
  have HQ := Lib.hid hq
  clear hm h1 hf h2 hq h3
  have hl := maylabel_any o.t
  rw [h4] at hl
  have HL := Lib.hid hl
  clear hl h4
  go_enter Try.func32, Try.ntmps32
  go_upto_region 1 with fail
  obtain ⟨W1, gW1⟩ : ∃ x, w.alloc (.cells (opCells o).toArray 48) = x := ⟨_, rfl⟩
  have HO : RowKit.Hid (Whole W1 w.heap.size 48 (opCells o)) := Lib.hid (by rw [← gW1]; exact Whole.new_ w _ _)
  have HB : RowKit.Hid (Below w.heap.size w W1) := Lib.hid (by rw [← gW1]; exact below1 _ _)
  rw [gW1]
  clear gW1
  obtain ⟨g0, gg0⟩ : ∃ x, w.heap.size = x := ⟨_, rfl⟩
  rw [gg0] at HO ⊢
  clear gg0
  have ld1 : ∀ w', Kept Nil_ W1.drew w' → w'.cell? ⟨g0, 1, none⟩ = some (.int .i64 o.s) := fun w' h => h.nil_cell (HO.out.drew.cell (i := 1) rfl)
  have ld2 : ∀ w', Kept Nil_ W1.drew w' → w'.cell? ⟨g0, 2, none⟩ = some (.int .i64 o.n) := fun w' h => h.nil_cell (HO.out.drew.cell (i := 2) rfl)
  refine wp_region_reg (Nil_) (by kernel_rfl) ?_
  apply wpR_next 0 (some 3)
  · simp only [List.getElem?_toArray, List.getElem?_cons_succ, List.getElem?_cons_zero]; exact rfl
  · rfl
  · kernel_rfl
  · kernel_rfl
  · kernel_rfl
  · exact fun _ _ _ _ h => h
  apply Exists.intro
  apply And.intro
  · apply yr_run; rfl; intro w' hw'; go_simp; (try with_reducible rfl)
  simp only [Act.put, List.setIfInBounds_toArray, List.set_cons_zero, List.set_cons_succ]
  apply wpR_next 1 (some 4)
  · simp only [List.getElem?_toArray, List.getElem?_cons_succ, List.getElem?_cons_zero]; exact rfl
  · rfl
  · kernel_rfl
  · kernel_rfl
  · kernel_rfl
  · exact fun _ _ _ _ h => h
  apply Exists.intro
  apply And.intro
  · apply yr_run; rfl; intro w' hw'; go_simp; (try with_reducible rfl)
  simp only [Act.put, List.setIfInBounds_toArray, List.set_cons_zero, List.set_cons_succ]
  apply wpR_next 2 (some 5)
  · simp only [List.getElem?_toArray, List.getElem?_cons_succ, List.getElem?_cons_zero]; exact rfl
  · rfl
  · kernel_rfl
  · kernel_rfl
  · kernel_rfl
  · exact fun _ _ _ _ h => h
  apply Exists.intro
  apply And.intro
  · apply yr_call; rfl; rotate_left; intro w' hw'; exact HM.out w'; intro w'; go_simp
  simp only [Act.put, List.setIfInBounds_toArray, List.set_cons_zero, List.set_cons_succ]
  apply wpR_next 3 (some 6)
  · simp only [List.getElem?_toArray, List.getElem?_cons_succ, List.getElem?_cons_zero]; exact rfl
  · rfl
  · kernel_rfl
  · kernel_rfl
  · kernel_rfl
  · exact fun _ _ _ _ h => h
  apply Exists.intro
  apply And.intro
  · apply yr_run; rfl; intro w' hw'; go_simp; (try with_reducible rfl)
  simp only [Act.put, List.setIfInBounds_toArray, List.set_cons_zero, List.set_cons_succ]
  apply wpR_next 4 (some 7)
  · simp only [List.getElem?_toArray, List.getElem?_cons_succ, List.getElem?_cons_zero]; exact rfl
  · rfl
  · kernel_rfl
  · kernel_rfl
  · kernel_rfl
  · exact fun _ _ _ _ h => h
  apply Exists.intro
  apply And.intro
  · apply yr_run; rfl; intro w' hw'; go_simp; (try with_reducible rfl)
  simp only [Act.put, List.setIfInBounds_toArray, List.set_cons_zero, List.set_cons_succ]
  apply wpR_next 5 (some 8)
  · simp only [List.getElem?_toArray, List.getElem?_cons_succ, List.getElem?_cons_zero]; exact rfl
  · rfl
  · kernel_rfl
  · kernel_rfl
  · kernel_rfl
  · exact fun _ _ _ _ h => h
  apply Exists.intro
  apply And.intro
  · exact yr_load (by rfl) 48 (.tmp 1) rfl g0 rfl 48 (opCells o) _ (fun w' h => h.whole HO.out.drew (fun h => h)) Try.underlying48 rfl (by kernel_rfl)
  simp only [Act.put, List.setIfInBounds_toArray, List.set_cons_zero, List.set_cons_succ]
  apply wpR_next 6 (some 9)
  · simp only [List.getElem?_toArray, List.getElem?_cons_succ, List.getElem?_cons_zero]; exact rfl
  · rfl
  · kernel_rfl
  · kernel_rfl
  · kernel_rfl
  · exact fun _ _ _ _ h => h
  apply Exists.intro
  apply And.intro
  · apply yr_call; rfl; rotate_left; intro w' hw'; exact HF.out w'; intro w'; go_simp
  simp only [Act.put, List.setIfInBounds_toArray, List.set_cons_zero, List.set_cons_succ]
  apply wpR_next 7 (some 10)
  · simp only [List.getElem?_toArray, List.getElem?_cons_succ, List.getElem?_cons_zero]; exact rfl
  · rfl
  · kernel_rfl
  · kernel_rfl
  · kernel_rfl
  · exact fun _ _ _ _ h => h
  apply Exists.intro
  apply And.intro
  · apply yr_run; rfl; intro w' hw'; go_simp; (try with_reducible rfl)
  simp only [Act.put, List.setIfInBounds_toArray, List.set_cons_zero, List.set_cons_succ]
  apply wpR_next 8 (some 11)
  · simp only [List.getElem?_toArray, List.getElem?_cons_succ, List.getElem?_cons_zero]; exact rfl
  · rfl
  · kernel_rfl
  · kernel_rfl
  · kernel_rfl
  · exact fun _ _ _ _ h => h
  apply Exists.intro
  apply And.intro
  · apply yr_run; rfl; intro w' hw'; go_simp; (try with_reducible rfl)
  simp only [Act.put, List.setIfInBounds_toArray, List.set_cons_zero, List.set_cons_succ]
  apply wpR_next 9 (some 12)
  · simp only [List.getElem?_toArray, List.getElem?_cons_succ, List.getElem?_cons_zero]; exact rfl
  · rfl
  · kernel_rfl
  · kernel_rfl
  · kernel_rfl
  · exact fun _ _ _ _ h => h
  apply Exists.intro
  apply And.intro
  · apply yr_run; rfl; intro w' hw'; go_simp; (try with_reducible rfl)
  simp only [Act.put, List.setIfInBounds_toArray, List.set_cons_zero, List.set_cons_succ]
  apply wpR_next 10 (some 13)
  · simp only [List.getElem?_toArray, List.getElem?_cons_succ, List.getElem?_cons_zero]; exact rfl
  · rfl
  · kernel_rfl
  · kernel_rfl
  · kernel_rfl
  · exact fun _ _ _ _ h => h
  apply Exists.intro
  apply And.intro
  · exact yr_load (by rfl) 48 (.tmp 1) rfl g0 rfl 48 (opCells o) _ (fun w' h => h.whole HO.out.drew (fun h => h)) Try.underlying48 rfl (by kernel_rfl)
  simp only [Act.put, List.setIfInBounds_toArray, List.set_cons_zero, List.set_cons_succ]
  apply wpR_next 11 (some 14)
  · simp only [List.getElem?_toArray, List.getElem?_cons_succ, List.getElem?_cons_zero]; exact rfl
  · rfl
  · kernel_rfl
  · kernel_rfl
  · kernel_rfl
  · exact fun _ _ _ _ h => h
  apply Exists.intro
  apply And.intro
  · exact yr_load (by rfl) 48 (.tmp 1) rfl g0 rfl 48 (opCells o) _ (fun w' h => h.whole HO.out.drew (fun h => h)) Try.underlying48 rfl (by kernel_rfl)
  simp only [Act.put, List.setIfInBounds_toArray, List.set_cons_zero, List.set_cons_succ]
  apply wpR_next 12 (some 15)
  · simp only [List.getElem?_toArray, List.getElem?_cons_succ, List.getElem?_cons_zero]; exact rfl
  · rfl
  · kernel_rfl
  · kernel_rfl
  · kernel_rfl
  · exact fun _ _ _ _ h => h
  apply Exists.intro
  apply And.intro
  · apply yr_call; rfl; rotate_left; intro w' hw'; exact HN.out w'; intro w'; go_simp
  simp only [Act.put, List.setIfInBounds_toArray, List.set_cons_zero, List.set_cons_succ]
  apply wpR_next 13 (some 16)
  · simp only [List.getElem?_toArray, List.getElem?_cons_succ, List.getElem?_cons_zero]; exact rfl
  · rfl
  · kernel_rfl
  · kernel_rfl
  · kernel_rfl
  · exact fun _ _ _ _ h => h
  apply Exists.intro
  apply And.intro
  · exact yr_run (by rfl) (fun w' _ => exec_binop_agg .neq 48 (.tmp 13) (.tmp 15) 48 rfl rfl rfl (by kernel_rfl) (HQ.out w'))
  simp only [Act.put, List.setIfInBounds_toArray, List.set_cons_zero, List.set_cons_succ]
  apply wpR_next 14 (some 17)
  · simp only [List.getElem?_toArray, List.getElem?_cons_succ, List.getElem?_cons_zero]; exact rfl
  · rfl
  · kernel_rfl
  · kernel_rfl
  · kernel_rfl
  · exact fun _ _ _ _ h => h
  apply Exists.intro
  apply And.intro
  · apply yr_run; rfl; intro w' hw'; go_simp; (try with_reducible rfl)
  simp only [Act.put, List.setIfInBounds_toArray, List.set_cons_zero, List.set_cons_succ]
  refine wpR_done (by kernel_rfl) ?_ _
  intro W2 hw2
  have HB2 : RowKit.Hid (Below w.heap.size w W2) := Lib.hid (HB.out.drew.trans (hw2.mono HB.out.drew.size))
  have HO2 : RowKit.Hid (Whole W2 g0 48 (opCells o)) := Lib.hid (HO.out.drew.below hw2)
  have l18 := HO2.out.cell (i := 18) rfl
  clear hw2 ld1 ld2
  go_wp2_with (first | (go_at_call 48; refine (HL.out _).mono ?_; rintro e w3 ⟨rfl, hb3⟩))
  go_ret
  exact ⟨rfl, HB2.out.trans (hb3.mono HB2.out.size)⟩

theorem mayop_any (o : OpT) : Pure 32 #[.agg (opCells o).toArray] (.int .i64 (mayO o)) := fun w => by
  unfold mayO
  by_cases h1 : mayI o.s o.n = true
  case neg =>
    rw [if_neg (fun h => h1 h.1)]
    exact may_a o (by simpa using h1) w
  by_cases h2 : fitsO o = true
  case neg =>
    rw [if_neg (fun h => h2 h.2.1)]
    exact may_b o h1 (by simpa using h2) w
  by_cases h3 : o = onlyO o
  case neg =>
    rw [if_neg (fun h => h3 h.2.2)]
    exact may_c o h1 h2 h3 w
  rw [if_pos ⟨h1, h2, h3⟩]
  by_cases h4 : mayL o.t = true
  · rw [if_pos h4]
    exact may_e o h1 h2 h3 h4 w
  · rw [if_neg h4]
    exact may_d o h1 h2 h3 (by simpa using h4) w
end Go.Proofs.Ytoiflngpjdghbaa
