/- slices.Clone of vertices, edges, darts; cloneVertex. -/
import Derived.Test.YtdhglhcpgmfpoaaDg10
namespace Go.Proofs.Ytdhglhcpgmfpoaa
open Go.RowKit
set_option linter.unusedSimpArgs false
set_option linter.unusedVariables false

theorem info_dartD : (Try.prog.info? 36).map (fun i => (i.zero, i.size, i.bytes)) = some (some (.agg #[.int .i64 0, .int .i64 0, .int .i64 0]), 3, 24) := by kernel_rfl
set_option maxRecDepth 100000 in
theorem cloneVs (A : Option Addr) (n c : Nat) (xs : List Value) (w : World) (h : RdS w w.heap.size 5 A n c xs) (h1 : ∀ u ∈ xs, u.oneCell' = true) (hn : n ≤ 1000000) :
    Calls Try.prog 54 #[.slice A n c] w fun e w' => ∃ A' c', e = .returned (.slice A' n c') ∧ Ow w w.heap.size 39 5 (.slice A' n c') n xs w' := by
  obtain ⟨i0, hi, hz0, hz1, hz2⟩ := info_partsD info_vertex
  cases A with
  | none =>
    obtain ⟨rfl, rfl⟩ := h.none_ rfl
    have hnil : xs = [] := List.eq_nil_of_length_eq_zero (by simpa using h.len)
    subst hnil
    have hnil : ∀ w', (binOp .eql 22 (.slice none 0 0) (.slice none 0 0)).run Try.prog w' = .ok (.bool true) w' := fun w' => Lib.run_eql_slice_nil w' _ _ _ _ _ _ _ Try.underlying22
    clear h h1
    go_enter Try.func54, Try.ntmps54
    go_wp2
    go_ret
    exact ⟨_, _, rfl, Ow.nil_ (Below.refl _ _) (Nat.le_refl _) (Nat.le_refl _)⟩
  | some a =>
    have H := Lib.hid (h.al (.cells #[] 39))
    have HO : RowKit.Hid (Ow w w.heap.size 39 5 (.slice (some ⟨w.heap.size, 0, none⟩) 0 0) 0 [] (w.alloc (.cells #[] 39))) := Lib.hid (Ow.new_ (cs := #[]) (Below.refl _ _) (Nat.le_refl _) (Nat.le_refl _) (Nat.zero_le _) rfl)
    have hnil : ∀ w', (binOp .eql 22 (.slice (some a) n c) (.slice none 0 0)).run Try.prog w' = .ok (.bool false) w' := fun w' => Lib.run_eql_slice_nil w' _ _ _ _ _ _ _ Try.underlying22
    clear h
    go_enter Try.func54, Try.ntmps54
    go_wp2_with (first
      | (at_builtin
         refine wpList_push2 rfl (.tmp 5) (.tmp 6) _ rfl _ 39 i0 _ 5 64 Try.underlying22 hi hz0 hz1 hz2 rfl (by decide) _ _ _ rfl (by exact HO.out) _ (some a) n c xs rfl (by exact H.out) h1 (by unfold maxLen; omega) (by omega) ?_
         intro v1 w1 how1 hb1 hgr
         rw [Nat.zero_add, List.nil_append] at how1
         obtain ⟨Aq, cq, rfl, -⟩ := how1.rds
         have HO1 := Lib.hid how1
         clear how1 hb1 hgr))
    go_ret
    exact ⟨_, _, rfl, HO1.out⟩
set_option maxRecDepth 100000 in
theorem cloneEs (A : Option Addr) (n c : Nat) (xs : List Value) (w : World) (h : RdS w w.heap.size 4 A n c xs) (h1 : ∀ u ∈ xs, u.oneCell' = true) (hn : n ≤ 1000000) :
    Calls Try.prog 55 #[.slice A n c] w fun e w' => ∃ A' c', e = .returned (.slice A' n c') ∧ Ow w w.heap.size 43 4 (.slice A' n c') n xs w' := by
  obtain ⟨i0, hi, hz0, hz1, hz2⟩ := info_partsD info_edge
  cases A with
  | none =>
    obtain ⟨rfl, rfl⟩ := h.none_ rfl
    have hnil : xs = [] := List.eq_nil_of_length_eq_zero (by simpa using h.len)
    subst hnil
    have hnil : ∀ w', (binOp .eql 23 (.slice none 0 0) (.slice none 0 0)).run Try.prog w' = .ok (.bool true) w' := fun w' => Lib.run_eql_slice_nil w' _ _ _ _ _ _ _ Try.underlying23
    clear h h1
    go_enter Try.func55, Try.ntmps55
    go_wp2
    go_ret
    exact ⟨_, _, rfl, Ow.nil_ (Below.refl _ _) (Nat.le_refl _) (Nat.le_refl _)⟩
  | some a =>
    have H := Lib.hid (h.al (.cells #[] 43))
    have HO : RowKit.Hid (Ow w w.heap.size 43 4 (.slice (some ⟨w.heap.size, 0, none⟩) 0 0) 0 [] (w.alloc (.cells #[] 43))) := Lib.hid (Ow.new_ (cs := #[]) (Below.refl _ _) (Nat.le_refl _) (Nat.le_refl _) (Nat.zero_le _) rfl)
    have hnil : ∀ w', (binOp .eql 23 (.slice (some a) n c) (.slice none 0 0)).run Try.prog w' = .ok (.bool false) w' := fun w' => Lib.run_eql_slice_nil w' _ _ _ _ _ _ _ Try.underlying23
    clear h
    go_enter Try.func55, Try.ntmps55
    go_wp2_with (first
      | (at_builtin
         refine wpList_push2 rfl (.tmp 5) (.tmp 6) _ rfl _ 43 i0 _ 4 40 Try.underlying23 hi hz0 hz1 hz2 rfl (by decide) _ _ _ rfl (by exact HO.out) _ (some a) n c xs rfl (by exact H.out) h1 (by unfold maxLen; omega) (by omega) ?_
         intro v1 w1 how1 hb1 hgr
         rw [Nat.zero_add, List.nil_append] at how1
         obtain ⟨Aq, cq, rfl, -⟩ := how1.rds
         have HO1 := Lib.hid how1
         clear how1 hb1 hgr))
    go_ret
    exact ⟨_, _, rfl, HO1.out⟩
set_option maxRecDepth 100000 in
theorem cloneDs (A : Option Addr) (n c : Nat) (xs : List Value) (w : World) (h : RdS w w.heap.size 3 A n c xs) (h1 : ∀ u ∈ xs, u.oneCell' = true) (hn : n ≤ 1000000) :
    Calls Try.prog 71 #[.slice A n c] w fun e w' => ∃ A' c', e = .returned (.slice A' n c') ∧ Ow w w.heap.size 36 3 (.slice A' n c') n xs w' := by
  obtain ⟨i0, hi, hz0, hz1, hz2⟩ := info_partsD info_dartD
  cases A with
  | none =>
    obtain ⟨rfl, rfl⟩ := h.none_ rfl
    have hnil : xs = [] := List.eq_nil_of_length_eq_zero (by simpa using h.len)
    subst hnil
    have hnil : ∀ w', (binOp .eql 37 (.slice none 0 0) (.slice none 0 0)).run Try.prog w' = .ok (.bool true) w' := fun w' => Lib.run_eql_slice_nil w' _ _ _ _ _ _ _ Try.underlying37
    clear h h1
    go_enter Try.func71, Try.ntmps71
    go_wp2
    go_ret
    exact ⟨_, _, rfl, Ow.nil_ (Below.refl _ _) (Nat.le_refl _) (Nat.le_refl _)⟩
  | some a =>
    have H := Lib.hid (h.al (.cells #[] 36))
    have HO : RowKit.Hid (Ow w w.heap.size 36 3 (.slice (some ⟨w.heap.size, 0, none⟩) 0 0) 0 [] (w.alloc (.cells #[] 36))) := Lib.hid (Ow.new_ (cs := #[]) (Below.refl _ _) (Nat.le_refl _) (Nat.le_refl _) (Nat.zero_le _) rfl)
    have hnil : ∀ w', (binOp .eql 37 (.slice (some a) n c) (.slice none 0 0)).run Try.prog w' = .ok (.bool false) w' := fun w' => Lib.run_eql_slice_nil w' _ _ _ _ _ _ _ Try.underlying37
    clear h
    go_enter Try.func71, Try.ntmps71
    go_wp2_with (first
      | (at_builtin
         refine wpList_push2 rfl (.tmp 5) (.tmp 6) _ rfl _ 36 i0 _ 3 24 Try.underlying37 hi hz0 hz1 hz2 rfl (by decide) _ _ _ rfl (by exact HO.out) _ (some a) n c xs rfl (by exact H.out) h1 (by unfold maxLen; omega) (by omega) ?_
         intro v1 w1 how1 hb1 hgr
         rw [Nat.zero_add, List.nil_append] at how1
         obtain ⟨Aq, cq, rfl, -⟩ := how1.rds
         have HO1 := Lib.hid how1
         clear how1 hb1 hgr))
    go_ret
    exact ⟨_, _, rfl, HO1.out⟩
theorem own_lo' {w : World} {B B' n : Nat} {e : TypeId} {size : Nat} {v : Value} {xs : List Value} (h : w.ownsRow B e size v n xs) (hB : B' ≤ B) : w.ownsRow B' e size v n xs := by
  refine ⟨h.1, ?_⟩
  rcases h.2 with h | ⟨g, cap, cur, h1, h2, h3⟩
  · exact .inl h
  · exact .inr ⟨g, cap, cur, h1, Nat.le_trans hB h2, h3⟩
theorem dartsV_one' (l : List D) : ∀ u ∈ dartsV l, u.oneCell' = true := by
  rw [dartsV_rows]
  exact rowsV_one dC (by simp [dC, Value.oneCell']) l
set_option maxRecDepth 100000 in
/-- A vertex with a ring of its own. -/
theorem cloneV (v : VC) (w : World) (h : RgOk w v.2.1) (hn : v.2.1.2.1 ≤ 1000000) :
    Calls Try.prog 49 #[.agg (vC v).toArray] w fun e w' => ∃ A' c', e = .returned (.agg (vC (v.1, (A', v.2.1.2.1, c', v.2.1.2.2.2), v.2.2)).toArray) ∧ Ow w w.heap.size 36 3 (.slice A' v.2.1.2.1 c') v.2.1.2.1 (dartsV v.2.1.2.2.2) w' := by
  obtain ⟨⟨i1, i2⟩, ⟨rA, rn, rc, rL⟩, lb, at_⟩ := v
  have hr : RdS w w.heap.size 3 rA rn rc (dartsV rL) := h.2
  replace hn : rn ≤ 1000000 := hn
  show Calls Try.prog 49 #[.agg #[.int .i64 i1, .int .i64 i2, .slice rA rn rc, .string lb, .int .i64 at_]] w fun e w' => ∃ A' c', e = .returned (.agg #[.int .i64 i1, .int .i64 i2, .slice A' rn c', .string lb, .int .i64 at_]) ∧ Ow w w.heap.size 36 3 (.slice A' rn c') rn (dartsV rL) w'
  have hz : Try.prog.info? 39 = Try.prog.info? 39 := rfl
  have HR := Lib.hid ((hr.al (.cells #[.int .i64 i1, .int .i64 i2, .slice rA rn rc, .string lb, .int .i64 at_] 39)).al (.cells #[.int .i64 0, .int .i64 0, .slice none 0 0, .string { data := #[] }, .int .i64 0] 39))
  have HW := Lib.hid ((Whole.new_ w 39 [.int .i64 i1, .int .i64 i2, .slice rA rn rc, .string lb, .int .i64 at_]).alloc (.cells #[.int .i64 0, .int .i64 0, .slice none 0 0, .string { data := #[] }, .int .i64 0] 39))
  have HY : RowKit.Hid (Whole _ (w.heap.size + 1) 39 [.int .i64 0, .int .i64 0, .slice none 0 0, .string { data := #[] }, .int .i64 0]) := Lib.hid (Whole.new2 (w := w.alloc (.cells #[.int .i64 i1, .int .i64 i2, .slice rA rn rc, .string lb, .int .i64 at_] 39)) (by simp))
  have HB := Lib.hid (below2 w (.cells #[.int .i64 i1, .int .i64 i2, .slice rA rn rc, .string lb, .int .i64 at_] 39) (.cells #[.int .i64 0, .int .i64 0, .slice none 0 0, .string { data := #[] }, .int .i64 0] 39))
  clear h hr hz
  go_enter Try.func49, Try.ntmps49
  go_wp2_with fail
  refine (cloneDs rA rn rc (dartsV rL) _ HR.out (dartsV_one' rL) hn).mono ?_
  rintro e w3 ⟨A', c', rfl, ho⟩
  have hsz : w.heap.size + 1 < ((w.alloc (.cells #[.int .i64 i1, .int .i64 i2, .slice rA rn rc, .string lb, .int .i64 at_] 39)).alloc (.cells #[.int .i64 0, .int .i64 0, .slice none 0 0, .string { data := #[] }, .int .i64 0] 39)).heap.size := by simp
  have hn0 := ho.low_ne (g := w.heap.size) (by omega)
  have hn1 := ho.low_ne (g := w.heap.size + 1) hsz
  have hx := HW.out.below ho.below
  have hy := HY.out.below ho.below
  have hO : Ow w w.heap.size 36 3 (.slice A' rn c') rn (dartsV rL) w3 := ⟨own_lo' ho.own (by omega), HB.out.trans (ho.below.mono HB.out.size), Nat.le_refl _, Nat.le_trans (by omega) ho.hi⟩
  have hf1 := ((((((hO.set_far (i := 2) hn0 (Nat.le_refl _) (.slice A' rn c')).set_far (i := 0) hn1 (by omega) (.int .i64 i1)).set_far (i := 1) hn1 (by omega) (.int .i64 i2)).set_far (i := 2) hn1 (by omega) (.slice A' rn c')).set_far (i := 3) hn1 (by omega) (.string lb)).set_far (i := 4) hn1 (by omega) (.int .i64 at_))
  have hf2 := (((((hy.set_far' (i := 2) (h := w.heap.size) (by omega) (.slice A' rn c')).set_ 0 (.int .i64 i1)).set_ 1 (.int .i64 i2)).set_ 2 (.slice A' rn c')).set_ 3 (.string lb)).set_ 4 (.int .i64 at_)
  have HF1 := Lib.hid hf1
  have HF2 := Lib.hid hf2
  have x0 := hx.cell (i := 0) rfl
  have x1 := hx.cell (i := 1) rfl
  have x2 := hx.cell (i := 2) rfl
  have x3 := hx.cell (i := 3) rfl
  have x4 := hx.cell (i := 4) rfl
  have f2 := hx.free 2
  have y0 := hy.cell (i := 0) rfl
  have y1 := hy.cell (i := 1) rfl
  have y2 := hy.cell (i := 2) rfl
  have y3 := hy.cell (i := 3) rfl
  have y4 := hy.cell (i := 4) rfl
  have e0 := hy.free 0
  have e1 := hy.free 1
  have e2 := hy.free 2
  have e3 := hy.free 3
  have e4 := hy.free 4
  clear ho hx hy hO hf1 hf2 hn0 hn1 hsz HW HY HB HR
  go_wp2
  exact ret_whole rfl (w.heap.size + 1) rfl HF2.out Try.underlying39 rfl (by kernel_rfl) rfl ⟨A', c', rfl, HF1.out⟩
end Go.Proofs.Ytdhglhcpgmfpoaa
