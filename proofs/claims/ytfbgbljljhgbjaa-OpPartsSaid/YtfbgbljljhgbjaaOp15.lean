/- The laws' few, and the document's examples, for operations. -/
import Derived.Test.YtfbgbljljhgbjaaOp14
namespace Go.Proofs.Ytfbgbljljhgbjaa
open Go.RowKit
set_option linter.unusedSimpArgs false
set_option linter.unusedVariables false

theorem few_any (A : Option Addr) (n c : Nat) (L : List OpT) (w : World) (h : RdS w w.heap.size 20 A n c (rowsV opCells L)) (hn : n ≤ maxLen) :
    Calls Try.prog 10 #[.agg #[.slice A n c]] w fun e w' => e = .returned (.agg #[.slice A (L.take 10).length c]) ∧ Below w.heap.size w w' := by
  have hl := h.rlen opCells_len' (by decide)
  unfold maxLen at hn
  by_cases h10 : 10 < n
  · obtain ⟨b, off, rfl, hbB, hpl⟩ := h.place opCells_len' (by decide) (by omega)
    have hle := h.le
    have hm : (L.take 10).length = 10 := by rw [List.length_take]; omega
    rw [hm]
    have q : decide ((10 : Int) < (n : Int)) = true := decide_eq_true (by omega)
    clear hm hl h hpl hbB
    go_enter Try.func10, Try.ntmps10
    go_wp2
    refine bodyPost_ret (v := .agg #[.slice (some ⟨b, off, none⟩) 10 c]) (by simp [results, Try.results10, go_sem]) rfl ⟨rfl, ?_⟩
    first | exact below2 _ _ _ | exact (below2 _ _ _).setCell (show w.heap.size ≤ w.heap.size + 1 by omega) _ | trace_state
  · have hm : (L.take 10).length = n := by rw [List.length_take]; omega
    rw [hm]
    have q : decide ((10 : Int) < (n : Int)) = false := decide_eq_false (by omega)
    clear hm hl h
    go_enter Try.func10, Try.ntmps10
    go_wp2
    refine bodyPost_ret (v := .agg #[.slice A n c]) (by simp [results, Try.results10, go_sem]) rfl ⟨rfl, ?_⟩
    first | exact below2 _ _ _ | exact (below2 _ _ _).setCell (show w.heap.size ≤ w.heap.size + 1 by omega) _ | trace_state
theorem RdS.fewer {w : World} {B n c : Nat} {A : Option Addr} {L : List OpT} (h : RdS w B 20 A n c (rowsV opCells L)) (k : Nat) : RdS w B 20 A (L.take k).length c (rowsV opCells (L.take k)) := by
  have hl := h.rlen opCells_len' (by decide)
  have hm : (L.take k).length ≤ n := by rw [List.length_take]; omega
  have := h.take_ (L.take k).length hm
  rw [← rowsV_take opCells opCells_len'] at this
  have e : L.take (L.take k).length = L.take k := by
    rw [List.length_take]
    rcases Nat.le_total k L.length with h | h
    · rw [Nat.min_eq_left h]
    · rw [Nat.min_eq_right h, List.take_length, List.take_of_length_le h]
  rwa [e] at this

def exO : OpT := ⟨1, 1, 1, 0, 0, 0, 0, 0, 0, 0, 0, 0, 0, 0, 0, 0, 0, false, ⟨#[]⟩, 0⟩
def exO3 : OpT := ⟨1, 1, 1, 0, 0, 0, 0, 0, 0, 0, 0, 0, 0, 0, 0, 0, 0, false, ⟨#[]⟩, 3⟩
theorem exO_may : mayO exO = 0 := by decide
theorem exO3_may : mayO exO3 = 1 := by decide

set_option maxRecDepth 100000 in
set_option maxHeartbeats 4000000 in
theorem shown9 : Pure 9 #[] (.bool true) := fun w => by
  have h1 := mayop_any exO
  rw [exO_may] at h1
  have h3 := mayop_any exO3
  rw [exO3_may] at h3
  have H1 := Lib.hid h1
  have H3 := Lib.hid h3
  clear h1 h3
  go_enter Try.func9, Try.ntmps9
  go_upto_region 1 with fail
  refine wp_region_lit ?_
  refine wl_read (v := ?_) (some 3) rfl (by rfl) ?_ ?_
  rotate_left
  · go_simp; (try with_reducible rfl)
  simp only [Act.put, List.setIfInBounds_toArray, List.set_cons_zero, List.set_cons_succ]
  refine wl_read (v := ?_) (some 4) rfl (by rfl) ?_ ?_
  rotate_left
  · go_simp; (try with_reducible rfl)
  simp only [Act.put, List.setIfInBounds_toArray, List.set_cons_zero, List.set_cons_succ]
  refine wl_new 1 rfl rfl rfl 29 (.tmp 4) rfl rfl #[.int .i64 0, .int .i64 0, .int .i64 0, .int .i64 0, .int .i64 0, .int .i64 0, .int .i64 0, .int .i64 0, .int .i64 0, .int .i64 0, .int .i64 0, .int .i64 0, .int .i64 0, .int .i64 0, .int .i64 0, .int .i64 0, .int .i64 0, .bool false, .string ⟨#[]⟩, .int .i64 0] ?_ ((opCells exO).toArray) (by simp) rfl (by kernel_rfl) rfl (opCells_all _) ?_
  · go_simp; (try with_reducible rfl)
  simp only [Act.put, List.setIfInBounds_toArray, List.set_cons_zero, List.set_cons_succ]
  have O_1 := Lib.hid ((show Whole (w.alloc (.cells ((opCells exO).toArray) 29)) (w.heap.size) (29) (opCells exO) from Whole.new2 (by first | rfl | simp)))
  have Bel_1 := Lib.hid (bel_al (Below.refl _ w) (.cells ((opCells exO).toArray) 29))
  obtain ⟨v1, gv1⟩ : ∃ x, (w.alloc (.cells ((opCells exO).toArray) 29)) = x := ⟨_, rfl⟩
  rw [gv1] at O_1 Bel_1 ⊢
  clear gv1
  obtain ⟨g2, gg2⟩ : ∃ x, w.heap.size = x := ⟨_, rfl⟩
  have HGx : w.heap.size ≤ g2 := by omega
  rw [gg2] at O_1 ⊢
  clear gg2
  have HG : RowKit.Hid (w.heap.size ≤ g2) := Lib.hid HGx
  go_upto_region 2 with fail
  refine wp_region_lit ?_
  refine wl_load (some 5) rfl (by rfl) 29 (.tmp 1) rfl (g2) rfl 29 (opCells exO) _ O_1.out Try.underlying29 rfl (by kernel_rfl) ?_
  simp only [Act.put, List.setIfInBounds_toArray, List.set_cons_zero, List.set_cons_succ]
  go_wp2_with fail
  refine (H1.out _).mono ?_
  rintro e w3 ⟨rfl, hb3⟩
  have O_4 := Lib.hid (O_1.out.bl hb3)
  have Bel_4 := Lib.hid (bel_bl Bel_1.out hb3)
  clear hb3
  have lw5 : (w3).cell? ⟨g2, 19, none⟩ = some (.int .i64 0) := O_4.out.cell (i := 19) rfl
  have fr := O_4.out.free 19
  go_upto_region 4 with fail
  clear fr
  obtain ⟨V, gV⟩ : ∃ x, w3.setCell ⟨g2, 19, none⟩ (.int .i64 3) = x := ⟨_, rfl⟩
  have HOV : RowKit.Hid (Whole V g2 29 (opCells exO3)) := Lib.hid (gV ▸ (O_4.out.set_ 19 _))
  have HBV : RowKit.Hid (Below w.heap.size w V) := Lib.hid (gV ▸ (Bel_4.out.setCell HG.out _))
  rw [gV]
  clear gV
  refine wp_region_lit ?_
  refine wl_read (v := ?_) (some 8) rfl (by rfl) ?_ ?_
  rotate_left
  · go_simp; (try with_reducible rfl)
  simp only [Act.put, List.setIfInBounds_toArray, List.set_cons_zero, List.set_cons_succ]
  refine wl_read (v := ?_) (some 9) rfl (by rfl) ?_ ?_
  rotate_left
  · go_simp; (try with_reducible rfl)
  simp only [Act.put, List.setIfInBounds_toArray, List.set_cons_zero, List.set_cons_succ]
  refine wl_read (v := ?_) (some 10) rfl (by rfl) ?_ ?_
  rotate_left
  · go_simp; (try with_reducible rfl)
  simp only [Act.put, List.setIfInBounds_toArray, List.set_cons_zero, List.set_cons_succ]
  refine wl_load (some 11) rfl (by rfl) 29 (.tmp 1) rfl (g2) rfl 29 (opCells exO3) _ HOV.out Try.underlying29 rfl (by kernel_rfl) ?_
  simp only [Act.put, List.setIfInBounds_toArray, List.set_cons_zero, List.set_cons_succ]
  go_wp2_with fail
  refine (H3.out _).mono ?_
  rintro e w6 ⟨rfl, hb6⟩
  have O_7 := Lib.hid (HOV.out.bl hb6)
  have Bel_7 := Lib.hid (bel_bl HBV.out hb6)
  clear hb6
  go_wp2
  go_ret
  exact ⟨rfl, Bel_7.out⟩
end Go.Proofs.Ytfbgbljljhgbjaa
