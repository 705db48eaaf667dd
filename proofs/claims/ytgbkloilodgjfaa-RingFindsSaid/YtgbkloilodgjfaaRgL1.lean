/- RingFinds' walk. -/
import Derived.Test.YtgbkloilodgjfaaRgJ
import Derived.Test.YtgbkloilodgjfaaCh
namespace Go.Proofs.Ytgbkloilodgjfaa
open Go.RowKit
set_option linter.unusedSimpArgs false
set_option linter.unusedVariables false

set_option maxRecDepth 100000 in
set_option maxHeartbeats 4000000 in
theorem law_rfinds (A : Option Addr) (n c : Nat) (L0 : List D) (d : D) (w : World) (h : RdS w w.heap.size 3 A n c (dartsV L0)) (hn : n ≤ maxLen) :
    Calls Try.prog 7 #[.slice A n c, .agg #[.int .i64 d.1, .int .i64 d.2.1, .int .i64 d.2.2]] w fun e w' => e = .returned (.bool true) ∧ Below w.heap.size w w' := by
  have R0 := Lib.hid h
  obtain ⟨hl40, hnd⟩ := onceD_len L0
  obtain ⟨L, gL⟩ : ∃ v, onceD L0 = v := ⟨_, rfl⟩
  have HO := Lib.hid (fun W h => once_any A n c L0 W h (by unfold maxLen at hn; omega))
  rw [gL] at HO hl40
  obtain ⟨x, gx⟩ : ∃ v, nextD L d = v := ⟨_, rfl⟩
  obtain ⟨y, gy⟩ : ∃ v, prevD L d = v := ⟨_, rfl⟩
  obtain ⟨ok, gok⟩ : ∃ v, decide (d ∈ L) = v := ⟨_, rfl⟩
  have HN := Lib.hid (fun A1 c1 W h => rnext_any A1 L.length c1 L d W h (by omega))
  have HNf := Lib.hid (fun A1 c1 W h => rfnext_any A1 L.length c1 L d W h (by omega))
  have HP := Lib.hid (fun A1 c1 W h => rprev_any A1 L.length c1 L d W h (by omega))
  have HPf := Lib.hid (fun A1 c1 W h => rfprev_any A1 L.length c1 L d W h (by omega))
  have HT := Lib.hid (fun A1 c1 W h => turn_any A1 L.length c1 L W h (by omega))
  have HTf := Lib.hid (fun A1 c1 W h => rfturn_any A1 L.length c1 L W h (by omega))
  have HI := Lib.hid (fun A1 c1 W h => rindex_any A1 L.length c1 L d W h (by omega))
  have HIf := Lib.hid (fun A1 c1 W h => rfindex_any A1 L.length c1 L d W h (by omega))
  have HDn := Lib.hid (fun A1 A2 c1 c2 W h1 h2 => rdarts_any A1 A2 (turnD L).length (turnD L).length c1 c2 (turnD L) (turnD L) W h1 h2 (by rw [turnD_length]; omega))
  rw [gx, gok] at HN HNf
  rw [gy, gok] at HP HPf
  rw [show decide (turnD L = turnD L) = true from decide_eq_true rfl] at HDn
  obtain ⟨T, gT⟩ : ∃ v, turnD L = v := ⟨_, rfl⟩
  rw [gT] at HT HTf HDn
  obtain ⟨ix, gix⟩ : ∃ v, idxD L d = v := ⟨_, rfl⟩
  rw [gix] at HI HIf
  have hq := fun W => eq_dart_run x x W
  have hq2 := fun W => eq_dart_run y y W
  rw [show decide (x = x) = true from decide_eq_true rfl] at hq
  rw [show decide (y = y) = true from decide_eq_true rfl] at hq2
  clear h hn gL gx gy gok gT gix hnd
  go_enter Try.func7, Try.ntmps7
  have gb : w.heap.size = w.heap.size := rfl
  clear gb
  go_wp2_with fail
  refine (rg_shown _).mono ?_
  rintro e w1 ⟨rfl, hb1⟩
  have R0_2 := Lib.hid ((R0.out.al (.cells #[.int .i64 d.1, .int .i64 d.2.1, .int .i64 d.2.2] 46)).bl hb1)
  have Qd_2 := Lib.hid ((Whole.new2 (w := w) (g := w.heap.size) (t := 46) (cs := dartsV [d]) (by first | rfl | simp)).bl hb1)
  have Bel_2 := Lib.hid (bel_bl (bel_al (Below.refl _ w) (.cells #[.int .i64 d.1, .int .i64 d.2.1, .int .i64 d.2.2] 46)) hb1)
  clear hb1
  go_wp2_with fail
  refine (HO.out _ R0_2.out).mono ?_
  rintro e w3 ⟨A1, c1, rfl, hr1, hb3⟩
  have R0_4 := Lib.hid (R0_2.out.bl hb3)
  have Qd_4 := Lib.hid (Qd_2.out.bl hb3)
  have Bel_4 := Lib.hid (bel_bl Bel_2.out hb3)
  clear hb3
  have R1_4 := Lib.hid hr1
  clear hr1
  have lw6 : (w3).cell? ⟨w.heap.size, 0, none⟩ = some (.int .i64 d.1) := Qd_4.out.cell (i := 0) rfl
  have lw7 : (w3).cell? ⟨w.heap.size, 1, none⟩ = some (.int .i64 d.2.1) := Qd_4.out.cell (i := 1) rfl
  have lw8 : (w3).cell? ⟨w.heap.size, 2, none⟩ = some (.int .i64 d.2.2) := Qd_4.out.cell (i := 2) rfl
  go_wp2_with fail
  clear lw6 lw7 lw8
  refine (HN.out _ _ _ R1_4.out).mono ?_
  rintro e w5 ⟨rfl, hb5⟩
  have Qd_9 := Lib.hid (Qd_4.out.bl hb5)
  have R1_9 := Lib.hid (R1_4.out.bl hb5)
  have Bel_9 := Lib.hid (bel_bl Bel_4.out hb5)
  clear hb5
  have lw11 : ((w5.alloc (.cells #[.int .i64 x.1, .int .i64 x.2.1, .int .i64 x.2.2] 46))).cell? ⟨w.heap.size, 0, none⟩ = some (.int .i64 d.1) := (Qd_9.out.al (.cells #[.int .i64 x.1, .int .i64 x.2.1, .int .i64 x.2.2] 46)).cell (i := 0) rfl
  have lw12 : ((w5.alloc (.cells #[.int .i64 x.1, .int .i64 x.2.1, .int .i64 x.2.2] 46))).cell? ⟨w.heap.size, 1, none⟩ = some (.int .i64 d.2.1) := (Qd_9.out.al (.cells #[.int .i64 x.1, .int .i64 x.2.1, .int .i64 x.2.2] 46)).cell (i := 1) rfl
  have lw13 : ((w5.alloc (.cells #[.int .i64 x.1, .int .i64 x.2.1, .int .i64 x.2.2] 46))).cell? ⟨w.heap.size, 2, none⟩ = some (.int .i64 d.2.2) := (Qd_9.out.al (.cells #[.int .i64 x.1, .int .i64 x.2.1, .int .i64 x.2.2] 46)).cell (i := 2) rfl
  go_wp2_with fail
  clear lw11 lw12 lw13
  refine (HNf.out _ _ _ (R1_9.out.al (.cells #[.int .i64 x.1, .int .i64 x.2.1, .int .i64 x.2.2] 46))).mono ?_
  rintro e w10 ⟨rfl, hb10⟩
  have Qd_14 := Lib.hid ((Qd_9.out.al (.cells #[.int .i64 x.1, .int .i64 x.2.1, .int .i64 x.2.2] 46)).bl hb10)
  have R1_14 := Lib.hid ((R1_9.out.al (.cells #[.int .i64 x.1, .int .i64 x.2.1, .int .i64 x.2.2] 46)).bl hb10)
  have Qa_14 := Lib.hid ((Whole.new2 (w := w5) (g := w5.heap.size) (t := 46) (cs := dartsV [x]) (by first | rfl | simp)).bl hb10)
  have Bel_14 := Lib.hid (bel_bl (bel_al Bel_9.out (.cells #[.int .i64 x.1, .int .i64 x.2.1, .int .i64 x.2.2] 46)) hb10)
  clear hb10
  have lw16 : ((w10.alloc (.cells #[.int .i64 x.1, .int .i64 x.2.1, .int .i64 x.2.2] 46))).cell? ⟨w.heap.size, 0, none⟩ = some (.int .i64 d.1) := (Qd_14.out.al (.cells #[.int .i64 x.1, .int .i64 x.2.1, .int .i64 x.2.2] 46)).cell (i := 0) rfl
  have lw17 : ((w10.alloc (.cells #[.int .i64 x.1, .int .i64 x.2.1, .int .i64 x.2.2] 46))).cell? ⟨w.heap.size, 1, none⟩ = some (.int .i64 d.2.1) := (Qd_14.out.al (.cells #[.int .i64 x.1, .int .i64 x.2.1, .int .i64 x.2.2] 46)).cell (i := 1) rfl
  have lw18 : ((w10.alloc (.cells #[.int .i64 x.1, .int .i64 x.2.1, .int .i64 x.2.2] 46))).cell? ⟨w.heap.size, 2, none⟩ = some (.int .i64 d.2.2) := (Qd_14.out.al (.cells #[.int .i64 x.1, .int .i64 x.2.1, .int .i64 x.2.2] 46)).cell (i := 2) rfl
  go_wp2_with fail
  clear lw16 lw17 lw18
  refine (HP.out _ _ _ (R1_14.out.al (.cells #[.int .i64 x.1, .int .i64 x.2.1, .int .i64 x.2.2] 46))).mono ?_
  rintro e w15 ⟨rfl, hb15⟩
  have Qd_19 := Lib.hid ((Qd_14.out.al (.cells #[.int .i64 x.1, .int .i64 x.2.1, .int .i64 x.2.2] 46)).bl hb15)
  have R1_19 := Lib.hid ((R1_14.out.al (.cells #[.int .i64 x.1, .int .i64 x.2.1, .int .i64 x.2.2] 46)).bl hb15)
  have Qa_19 := Lib.hid ((Qa_14.out.al (.cells #[.int .i64 x.1, .int .i64 x.2.1, .int .i64 x.2.2] 46)).bl hb15)
  have Qb_19 := Lib.hid ((Whole.new2 (w := w10) (g := w10.heap.size) (t := 46) (cs := dartsV [x]) (by first | rfl | simp)).bl hb15)
  have Bel_19 := Lib.hid (bel_bl (bel_al Bel_14.out (.cells #[.int .i64 x.1, .int .i64 x.2.1, .int .i64 x.2.2] 46)) hb15)
  clear hb15
  have lw21 : ((w15.alloc (.cells #[.int .i64 y.1, .int .i64 y.2.1, .int .i64 y.2.2] 46))).cell? ⟨w.heap.size, 0, none⟩ = some (.int .i64 d.1) := (Qd_19.out.al (.cells #[.int .i64 y.1, .int .i64 y.2.1, .int .i64 y.2.2] 46)).cell (i := 0) rfl
  have lw22 : ((w15.alloc (.cells #[.int .i64 y.1, .int .i64 y.2.1, .int .i64 y.2.2] 46))).cell? ⟨w.heap.size, 1, none⟩ = some (.int .i64 d.2.1) := (Qd_19.out.al (.cells #[.int .i64 y.1, .int .i64 y.2.1, .int .i64 y.2.2] 46)).cell (i := 1) rfl
  have lw23 : ((w15.alloc (.cells #[.int .i64 y.1, .int .i64 y.2.1, .int .i64 y.2.2] 46))).cell? ⟨w.heap.size, 2, none⟩ = some (.int .i64 d.2.2) := (Qd_19.out.al (.cells #[.int .i64 y.1, .int .i64 y.2.1, .int .i64 y.2.2] 46)).cell (i := 2) rfl
  go_wp2_with fail
  clear lw21 lw22 lw23
  refine (HPf.out _ _ _ (R1_19.out.al (.cells #[.int .i64 y.1, .int .i64 y.2.1, .int .i64 y.2.2] 46))).mono ?_
  rintro e w20 ⟨rfl, hb20⟩
  have Qd_24 := Lib.hid ((Qd_19.out.al (.cells #[.int .i64 y.1, .int .i64 y.2.1, .int .i64 y.2.2] 46)).bl hb20)
  have R1_24 := Lib.hid ((R1_19.out.al (.cells #[.int .i64 y.1, .int .i64 y.2.1, .int .i64 y.2.2] 46)).bl hb20)
  have Qa_24 := Lib.hid ((Qa_19.out.al (.cells #[.int .i64 y.1, .int .i64 y.2.1, .int .i64 y.2.2] 46)).bl hb20)
  have Qb_24 := Lib.hid ((Qb_19.out.al (.cells #[.int .i64 y.1, .int .i64 y.2.1, .int .i64 y.2.2] 46)).bl hb20)
  have Qc_24 := Lib.hid ((Whole.new2 (w := w15) (g := w15.heap.size) (t := 46) (cs := dartsV [y]) (by first | rfl | simp)).bl hb20)
  have Bel_24 := Lib.hid (bel_bl (bel_al Bel_19.out (.cells #[.int .i64 y.1, .int .i64 y.2.1, .int .i64 y.2.2] 46)) hb20)
  clear hb20
  go_wp2_with fail
  refine (HT.out _ _ _ (R1_24.out.al (.cells #[.int .i64 y.1, .int .i64 y.2.1, .int .i64 y.2.2] 46))).mono ?_
  rintro e w25 ⟨A2, c2, rfl, hr2, hb25⟩
  have Qd_26 := Lib.hid ((Qd_24.out.al (.cells #[.int .i64 y.1, .int .i64 y.2.1, .int .i64 y.2.2] 46)).bl hb25)
  have R1_26 := Lib.hid ((R1_24.out.al (.cells #[.int .i64 y.1, .int .i64 y.2.1, .int .i64 y.2.2] 46)).bl hb25)
  have Qa_26 := Lib.hid ((Qa_24.out.al (.cells #[.int .i64 y.1, .int .i64 y.2.1, .int .i64 y.2.2] 46)).bl hb25)
  have Qb_26 := Lib.hid ((Qb_24.out.al (.cells #[.int .i64 y.1, .int .i64 y.2.1, .int .i64 y.2.2] 46)).bl hb25)
  have Qc_26 := Lib.hid ((Qc_24.out.al (.cells #[.int .i64 y.1, .int .i64 y.2.1, .int .i64 y.2.2] 46)).bl hb25)
  have Qe_26 := Lib.hid ((Whole.new2 (w := w20) (g := w20.heap.size) (t := 46) (cs := dartsV [y]) (by first | rfl | simp)).bl hb25)
  have Bel_26 := Lib.hid (bel_bl (bel_al Bel_24.out (.cells #[.int .i64 y.1, .int .i64 y.2.1, .int .i64 y.2.2] 46)) hb25)
  clear hb25
  have R2_26 := Lib.hid hr2
  clear hr2
  go_wp2_with fail
  refine (HTf.out _ _ _ R1_26.out).mono ?_
  rintro e w27 ⟨A3, c3, rfl, hr3, hb27⟩
  have Qd_28 := Lib.hid (Qd_26.out.bl hb27)
  have R1_28 := Lib.hid (R1_26.out.bl hb27)
  have Qa_28 := Lib.hid (Qa_26.out.bl hb27)
  have Qb_28 := Lib.hid (Qb_26.out.bl hb27)
  have Qc_28 := Lib.hid (Qc_26.out.bl hb27)
  have Qe_28 := Lib.hid (Qe_26.out.bl hb27)
  have R2_28 := Lib.hid (R2_26.out.bl hb27)
  have Bel_28 := Lib.hid (bel_bl Bel_26.out hb27)
  clear hb27
  have R3_28 := Lib.hid hr3
  clear hr3
  go_wp2_with fail
  refine (HDn.out _ _ _ _ _ R2_28.out R3_28.out).mono ?_
  rintro e w29 ⟨rfl, hb29⟩
  have Qd_30 := Lib.hid (Qd_28.out.bl hb29)
  have R1_30 := Lib.hid (R1_28.out.bl hb29)
  have Qa_30 := Lib.hid (Qa_28.out.bl hb29)
  have Qb_30 := Lib.hid (Qb_28.out.bl hb29)
  have Qc_30 := Lib.hid (Qc_28.out.bl hb29)
  have Qe_30 := Lib.hid (Qe_28.out.bl hb29)
  have R2_30 := Lib.hid (R2_28.out.bl hb29)
  have R3_30 := Lib.hid (R3_28.out.bl hb29)
  have Bel_30 := Lib.hid (bel_bl Bel_28.out hb29)
  clear hb29
  go_upto_region 8 with fail
  have Qd_31 := Lib.hid (Qd_30.out.dr)
  have R1_31 := Lib.hid (R1_30.out.dr)
  have Qa_31 := Lib.hid (Qa_30.out.dr)
  have Qb_31 := Lib.hid (Qb_30.out.dr)
  have Qc_31 := Lib.hid (Qc_30.out.dr)
  have Qe_31 := Lib.hid (Qe_30.out.dr)
  have Bel_31 := Lib.hid (bel_dr Bel_30.out)
  have ld32 : ∀ w', Kept Nil_ w29.drew w' → w'.cell? ⟨w.heap.size, 0, none⟩ = some (.int .i64 d.1) := fun w' h => h.nil_cell (Qd_31.out.cell (i := 0) rfl)
  have ld33 : ∀ w', Kept Nil_ w29.drew w' → w'.cell? ⟨w.heap.size, 1, none⟩ = some (.int .i64 d.2.1) := fun w' h => h.nil_cell (Qd_31.out.cell (i := 1) rfl)
  have ld34 : ∀ w', Kept Nil_ w29.drew w' → w'.cell? ⟨w.heap.size, 2, none⟩ = some (.int .i64 d.2.2) := fun w' h => h.nil_cell (Qd_31.out.cell (i := 2) rfl)
  have ld35 : ∀ w', Kept Nil_ w29.drew w' → w'.cell? ⟨w5.heap.size, 0, none⟩ = some (.int .i64 x.1) := fun w' h => h.nil_cell (Qa_31.out.cell (i := 0) rfl)
  have ld36 : ∀ w', Kept Nil_ w29.drew w' → w'.cell? ⟨w5.heap.size, 1, none⟩ = some (.int .i64 x.2.1) := fun w' h => h.nil_cell (Qa_31.out.cell (i := 1) rfl)
  have ld37 : ∀ w', Kept Nil_ w29.drew w' → w'.cell? ⟨w5.heap.size, 2, none⟩ = some (.int .i64 x.2.2) := fun w' h => h.nil_cell (Qa_31.out.cell (i := 2) rfl)
  have ld38 : ∀ w', Kept Nil_ w29.drew w' → w'.cell? ⟨w10.heap.size, 0, none⟩ = some (.int .i64 x.1) := fun w' h => h.nil_cell (Qb_31.out.cell (i := 0) rfl)
  have ld39 : ∀ w', Kept Nil_ w29.drew w' → w'.cell? ⟨w10.heap.size, 1, none⟩ = some (.int .i64 x.2.1) := fun w' h => h.nil_cell (Qb_31.out.cell (i := 1) rfl)
  have ld40 : ∀ w', Kept Nil_ w29.drew w' → w'.cell? ⟨w10.heap.size, 2, none⟩ = some (.int .i64 x.2.2) := fun w' h => h.nil_cell (Qb_31.out.cell (i := 2) rfl)
  have ld41 : ∀ w', Kept Nil_ w29.drew w' → w'.cell? ⟨w15.heap.size, 0, none⟩ = some (.int .i64 y.1) := fun w' h => h.nil_cell (Qc_31.out.cell (i := 0) rfl)
  have ld42 : ∀ w', Kept Nil_ w29.drew w' → w'.cell? ⟨w15.heap.size, 1, none⟩ = some (.int .i64 y.2.1) := fun w' h => h.nil_cell (Qc_31.out.cell (i := 1) rfl)
  have ld43 : ∀ w', Kept Nil_ w29.drew w' → w'.cell? ⟨w15.heap.size, 2, none⟩ = some (.int .i64 y.2.2) := fun w' h => h.nil_cell (Qc_31.out.cell (i := 2) rfl)
  have ld44 : ∀ w', Kept Nil_ w29.drew w' → w'.cell? ⟨w20.heap.size, 0, none⟩ = some (.int .i64 y.1) := fun w' h => h.nil_cell (Qe_31.out.cell (i := 0) rfl)
  have ld45 : ∀ w', Kept Nil_ w29.drew w' → w'.cell? ⟨w20.heap.size, 1, none⟩ = some (.int .i64 y.2.1) := fun w' h => h.nil_cell (Qe_31.out.cell (i := 1) rfl)
  have ld46 : ∀ w', Kept Nil_ w29.drew w' → w'.cell? ⟨w20.heap.size, 2, none⟩ = some (.int .i64 y.2.2) := fun w' h => h.nil_cell (Qe_31.out.cell (i := 2) rfl)
  refine wp_region_reg Nil_ (by kernel_rfl) ?_
  apply wpR_next 0 (some 47)
  · simp only [List.getElem?_toArray, List.getElem?_cons_succ, List.getElem?_cons_zero]; exact rfl
  · rfl
  · kernel_rfl
  · kernel_rfl
  · kernel_rfl
  · exact fun _ _ _ _ h => h
  apply Exists.intro
  apply And.intro
  · apply yr_run; rfl; intro w' hw'; go_simp; (try with_reducible rfl)
  simp only [Act.put, List.setIfInBounds_toArray, List.set_cons_zero, List.set_cons_succ]
  apply wpR_next 1 (some 48)
  · simp only [List.getElem?_toArray, List.getElem?_cons_succ, List.getElem?_cons_zero]; exact rfl
  · rfl
  · kernel_rfl
  · kernel_rfl
  · kernel_rfl
  · exact fun _ _ _ _ h => h
  apply Exists.intro
  apply And.intro
  · apply yr_run; rfl; intro w' hw'; go_simp; (try with_reducible rfl)
  simp only [Act.put, List.setIfInBounds_toArray, List.set_cons_zero, List.set_cons_succ]
  apply wpR_next 2 (some 49)
  · simp only [List.getElem?_toArray, List.getElem?_cons_succ, List.getElem?_cons_zero]; exact rfl
  · rfl
  · kernel_rfl
  · kernel_rfl
  · kernel_rfl
  · exact fun _ _ _ _ h => h
  apply Exists.intro
  apply And.intro
  · apply yr_run; rfl; intro w' hw'; go_simp; (try with_reducible rfl)
  simp only [Act.put, List.setIfInBounds_toArray, List.set_cons_zero, List.set_cons_succ]
  apply wpR_next 3 (some 50)
  · simp only [List.getElem?_toArray, List.getElem?_cons_succ, List.getElem?_cons_zero]; exact rfl
  · rfl
  · kernel_rfl
  · kernel_rfl
  · kernel_rfl
  · exact fun _ _ _ _ h => h
  apply Exists.intro
  apply And.intro
  · apply yr_run; rfl; intro w' hw'; go_simp; (try with_reducible rfl)
  simp only [Act.put, List.setIfInBounds_toArray, List.set_cons_zero, List.set_cons_succ]
  apply wpR_next 4 (some 51)
  · simp only [List.getElem?_toArray, List.getElem?_cons_succ, List.getElem?_cons_zero]; exact rfl
  · rfl
  · kernel_rfl
  · kernel_rfl
  · kernel_rfl
  · exact fun _ _ _ _ h => h
  apply Exists.intro
  apply And.intro
  · apply yr_run; rfl; intro w' hw'; go_simp; (try with_reducible rfl)
  simp only [Act.put, List.setIfInBounds_toArray, List.set_cons_zero, List.set_cons_succ]
  apply wpR_next 5 (some 52)
  · simp only [List.getElem?_toArray, List.getElem?_cons_succ, List.getElem?_cons_zero]; exact rfl
  · rfl
  · kernel_rfl
  · kernel_rfl
  · kernel_rfl
  · exact fun _ _ _ _ h => h
  apply Exists.intro
  apply And.intro
  · apply yr_run; rfl; intro w' hw'; go_simp; (try with_reducible rfl)
  simp only [Act.put, List.setIfInBounds_toArray, List.set_cons_zero, List.set_cons_succ]
  apply wpR_next 6 (some 53)
  · simp only [List.getElem?_toArray, List.getElem?_cons_succ, List.getElem?_cons_zero]; exact rfl
  · rfl
  · kernel_rfl
  · kernel_rfl
  · kernel_rfl
  · exact fun _ _ _ _ h => h
  apply Exists.intro
  apply And.intro
  · apply yr_run; rfl; intro w' hw'; go_simp; (try with_reducible rfl)
  simp only [Act.put, List.setIfInBounds_toArray, List.set_cons_zero, List.set_cons_succ]
  apply wpR_next 8 (some 55)
  · simp only [List.getElem?_toArray, List.getElem?_cons_succ, List.getElem?_cons_zero]; exact rfl
  · rfl
  · kernel_rfl
  · kernel_rfl
  · kernel_rfl
  · exact fun _ _ _ _ h => h
  apply Exists.intro
  apply And.intro
  · apply yr_run; rfl; intro w' hw'; go_simp; (try with_reducible rfl)
  simp only [Act.put, List.setIfInBounds_toArray, List.set_cons_zero, List.set_cons_succ]
  apply wpR_next 9 (some 56)
  · simp only [List.getElem?_toArray, List.getElem?_cons_succ, List.getElem?_cons_zero]; exact rfl
  · rfl
  · kernel_rfl
  · kernel_rfl
  · kernel_rfl
  · exact fun _ _ _ _ h => h
  apply Exists.intro
  apply And.intro
  · apply yr_run; rfl; intro w' hw'; go_simp; (try with_reducible rfl)
  simp only [Act.put, List.setIfInBounds_toArray, List.set_cons_zero, List.set_cons_succ]
  apply wpR_call 7 (some 54)
  · simp only [List.getElem?_toArray, List.getElem?_cons_succ, List.getElem?_cons_zero]; exact rfl
  · rfl
  · kernel_rfl
  · rfl
  · intro w'; go_simp; first | done | exact ⟨rfl, rfl⟩ | with_reducible rfl
  intro w' hw'
  refine (HI.out _ _ _ (R1_31.out.bl hw')).mono ?_
  rintro e w47 ⟨rfl, hb47⟩
  have Qd_47 := Lib.hid ((Qd_31.out.bl hw').bl hb47)
  have R1_47 := Lib.hid ((R1_31.out.bl hw').bl hb47)
  have Qa_47 := Lib.hid ((Qa_31.out.bl hw').bl hb47)
  have Qb_47 := Lib.hid ((Qb_31.out.bl hw').bl hb47)
  have Qc_47 := Lib.hid ((Qc_31.out.bl hw').bl hb47)
  have Qe_47 := Lib.hid ((Qe_31.out.bl hw').bl hb47)
  have Bel_47 := Lib.hid (bel_bl (bel_bl Bel_31.out hw') hb47)
  have ld48 := fun w'' (h : Kept Nil_ w47 w'') => ld32 w'' ((Kept.of_ext hw').trans ((Kept.of_below hb47).trans h))
  have ld49 := fun w'' (h : Kept Nil_ w47 w'') => ld33 w'' ((Kept.of_ext hw').trans ((Kept.of_below hb47).trans h))
  have ld50 := fun w'' (h : Kept Nil_ w47 w'') => ld34 w'' ((Kept.of_ext hw').trans ((Kept.of_below hb47).trans h))
  have ld51 := fun w'' (h : Kept Nil_ w47 w'') => ld35 w'' ((Kept.of_ext hw').trans ((Kept.of_below hb47).trans h))
  have ld52 := fun w'' (h : Kept Nil_ w47 w'') => ld36 w'' ((Kept.of_ext hw').trans ((Kept.of_below hb47).trans h))
  have ld53 := fun w'' (h : Kept Nil_ w47 w'') => ld37 w'' ((Kept.of_ext hw').trans ((Kept.of_below hb47).trans h))
  have ld54 := fun w'' (h : Kept Nil_ w47 w'') => ld38 w'' ((Kept.of_ext hw').trans ((Kept.of_below hb47).trans h))
  have ld55 := fun w'' (h : Kept Nil_ w47 w'') => ld39 w'' ((Kept.of_ext hw').trans ((Kept.of_below hb47).trans h))
  have ld56 := fun w'' (h : Kept Nil_ w47 w'') => ld40 w'' ((Kept.of_ext hw').trans ((Kept.of_below hb47).trans h))
  have ld57 := fun w'' (h : Kept Nil_ w47 w'') => ld41 w'' ((Kept.of_ext hw').trans ((Kept.of_below hb47).trans h))
  have ld58 := fun w'' (h : Kept Nil_ w47 w'') => ld42 w'' ((Kept.of_ext hw').trans ((Kept.of_below hb47).trans h))
  have ld59 := fun w'' (h : Kept Nil_ w47 w'') => ld43 w'' ((Kept.of_ext hw').trans ((Kept.of_below hb47).trans h))
  have ld60 := fun w'' (h : Kept Nil_ w47 w'') => ld44 w'' ((Kept.of_ext hw').trans ((Kept.of_below hb47).trans h))
  have ld61 := fun w'' (h : Kept Nil_ w47 w'') => ld45 w'' ((Kept.of_ext hw').trans ((Kept.of_below hb47).trans h))
  have ld62 := fun w'' (h : Kept Nil_ w47 w'') => ld46 w'' ((Kept.of_ext hw').trans ((Kept.of_below hb47).trans h))
  refine ⟨_, rfl, Kept.of_below hb47, ?_⟩
  clear hw' hb47
  simp only [Act.put, List.setIfInBounds_toArray, List.set_cons_zero, List.set_cons_succ]
  apply wpR_call 10 (some 57)
  · simp only [List.getElem?_toArray, List.getElem?_cons_succ, List.getElem?_cons_zero]; exact rfl
  · rfl
  · kernel_rfl
  · rfl
  · intro w'; go_simp; first | done | exact ⟨rfl, rfl⟩ | with_reducible rfl
  intro w' hw'
  refine (HIf.out _ _ _ (R1_47.out.bl hw')).mono ?_
  rintro e w63 ⟨rfl, hb63⟩
  have Qd_63 := Lib.hid ((Qd_47.out.bl hw').bl hb63)
  have R1_63 := Lib.hid ((R1_47.out.bl hw').bl hb63)
  have Qa_63 := Lib.hid ((Qa_47.out.bl hw').bl hb63)
  have Qb_63 := Lib.hid ((Qb_47.out.bl hw').bl hb63)
  have Qc_63 := Lib.hid ((Qc_47.out.bl hw').bl hb63)
  have Qe_63 := Lib.hid ((Qe_47.out.bl hw').bl hb63)
  have Bel_63 := Lib.hid (bel_bl (bel_bl Bel_47.out hw') hb63)
  have ld64 := fun w'' (h : Kept Nil_ w63 w'') => ld48 w'' ((Kept.of_ext hw').trans ((Kept.of_below hb63).trans h))
  have ld65 := fun w'' (h : Kept Nil_ w63 w'') => ld49 w'' ((Kept.of_ext hw').trans ((Kept.of_below hb63).trans h))
  have ld66 := fun w'' (h : Kept Nil_ w63 w'') => ld50 w'' ((Kept.of_ext hw').trans ((Kept.of_below hb63).trans h))
  have ld67 := fun w'' (h : Kept Nil_ w63 w'') => ld51 w'' ((Kept.of_ext hw').trans ((Kept.of_below hb63).trans h))
  have ld68 := fun w'' (h : Kept Nil_ w63 w'') => ld52 w'' ((Kept.of_ext hw').trans ((Kept.of_below hb63).trans h))
  have ld69 := fun w'' (h : Kept Nil_ w63 w'') => ld53 w'' ((Kept.of_ext hw').trans ((Kept.of_below hb63).trans h))
  have ld70 := fun w'' (h : Kept Nil_ w63 w'') => ld54 w'' ((Kept.of_ext hw').trans ((Kept.of_below hb63).trans h))
  have ld71 := fun w'' (h : Kept Nil_ w63 w'') => ld55 w'' ((Kept.of_ext hw').trans ((Kept.of_below hb63).trans h))
  have ld72 := fun w'' (h : Kept Nil_ w63 w'') => ld56 w'' ((Kept.of_ext hw').trans ((Kept.of_below hb63).trans h))
  have ld73 := fun w'' (h : Kept Nil_ w63 w'') => ld57 w'' ((Kept.of_ext hw').trans ((Kept.of_below hb63).trans h))
  have ld74 := fun w'' (h : Kept Nil_ w63 w'') => ld58 w'' ((Kept.of_ext hw').trans ((Kept.of_below hb63).trans h))
  have ld75 := fun w'' (h : Kept Nil_ w63 w'') => ld59 w'' ((Kept.of_ext hw').trans ((Kept.of_below hb63).trans h))
  have ld76 := fun w'' (h : Kept Nil_ w63 w'') => ld60 w'' ((Kept.of_ext hw').trans ((Kept.of_below hb63).trans h))
  have ld77 := fun w'' (h : Kept Nil_ w63 w'') => ld61 w'' ((Kept.of_ext hw').trans ((Kept.of_below hb63).trans h))
  have ld78 := fun w'' (h : Kept Nil_ w63 w'') => ld62 w'' ((Kept.of_ext hw').trans ((Kept.of_below hb63).trans h))
  refine ⟨_, rfl, Kept.of_below hb63, ?_⟩
  clear hw' hb63
  simp only [Act.put, List.setIfInBounds_toArray, List.set_cons_zero, List.set_cons_succ]
  apply wpR_next 11 (some 58)
  · simp only [List.getElem?_toArray, List.getElem?_cons_succ, List.getElem?_cons_zero]; exact rfl
  · rfl
  · kernel_rfl
  · kernel_rfl
  · kernel_rfl
  · exact fun _ _ _ _ h => h
  apply Exists.intro
  apply And.intro
  · apply yr_run; rfl; intro w' hw'; go_simp; (try with_reducible rfl)
  simp only [Act.put, List.setIfInBounds_toArray, List.set_cons_zero, List.set_cons_succ]
  apply wpR_next 12 (some 59)
  · simp only [List.getElem?_toArray, List.getElem?_cons_succ, List.getElem?_cons_zero]; exact rfl
  · rfl
  · kernel_rfl
  · kernel_rfl
  · kernel_rfl
  · exact fun _ _ _ _ h => h
  apply Exists.intro
  apply And.intro
  · apply yr_run; rfl; intro w' hw'; go_simp; (try with_reducible rfl)
  simp only [Act.put, List.setIfInBounds_toArray, List.set_cons_zero, List.set_cons_succ]
  apply wpR_next 13 (some 60)
  · simp only [List.getElem?_toArray, List.getElem?_cons_succ, List.getElem?_cons_zero]; exact rfl
  · rfl
  · kernel_rfl
  · kernel_rfl
  · kernel_rfl
  · exact fun _ _ _ _ h => h
  apply Exists.intro
  apply And.intro
  · apply yr_run; rfl; intro w' hw'; go_simp; (try with_reducible rfl)
  simp only [Act.put, List.setIfInBounds_toArray, List.set_cons_zero, List.set_cons_succ]
  apply wpR_next 14 (some 61)
  · simp only [List.getElem?_toArray, List.getElem?_cons_succ, List.getElem?_cons_zero]; exact rfl
  · rfl
  · kernel_rfl
  · kernel_rfl
  · kernel_rfl
  · exact fun _ _ _ _ h => h
  apply Exists.intro
  apply And.intro
  · apply yr_run; rfl; intro w' hw'; go_simp; (try with_reducible rfl)
  simp only [Act.put, List.setIfInBounds_toArray, List.set_cons_zero, List.set_cons_succ]
  apply wpR_next 15 (some 62)
  · simp only [List.getElem?_toArray, List.getElem?_cons_succ, List.getElem?_cons_zero]; exact rfl
  · rfl
  · kernel_rfl
  · kernel_rfl
  · kernel_rfl
  · exact fun _ _ _ _ h => h
  apply Exists.intro
  apply And.intro
  · apply yr_run; rfl; intro w' hw'; go_simp; (try with_reducible rfl)
  simp only [Act.put, List.setIfInBounds_toArray, List.set_cons_zero, List.set_cons_succ]
  apply wpR_next 16 (some 63)
  · simp only [List.getElem?_toArray, List.getElem?_cons_succ, List.getElem?_cons_zero]; exact rfl
  · rfl
  · kernel_rfl
  · kernel_rfl
  · kernel_rfl
  · exact fun _ _ _ _ h => h
  apply Exists.intro
  apply And.intro
  · apply yr_run; rfl; intro w' hw'; go_simp; (try with_reducible rfl)
  simp only [Act.put, List.setIfInBounds_toArray, List.set_cons_zero, List.set_cons_succ]
  apply wpR_next 17 (some 64)
  · simp only [List.getElem?_toArray, List.getElem?_cons_succ, List.getElem?_cons_zero]; exact rfl
  · rfl
  · kernel_rfl
  · kernel_rfl
  · kernel_rfl
  · exact fun _ _ _ _ h => h
  apply Exists.intro
  apply And.intro
  · apply yr_run; rfl; intro w' hw'; go_simp; (try with_reducible rfl)
  simp only [Act.put, List.setIfInBounds_toArray, List.set_cons_zero, List.set_cons_succ]
  apply wpR_next 18 (some 65)
  · simp only [List.getElem?_toArray, List.getElem?_cons_succ, List.getElem?_cons_zero]; exact rfl
  · rfl
  · kernel_rfl
  · kernel_rfl
  · kernel_rfl
  · exact fun _ _ _ _ h => h
  apply Exists.intro
  apply And.intro
  · apply yr_run; rfl; intro w' hw'; go_simp; (try with_reducible rfl)
  simp only [Act.put, List.setIfInBounds_toArray, List.set_cons_zero, List.set_cons_succ]
  apply wpR_next 19 (some 66)
  · simp only [List.getElem?_toArray, List.getElem?_cons_succ, List.getElem?_cons_zero]; exact rfl
  · rfl
  · kernel_rfl
  · kernel_rfl
  · kernel_rfl
  · exact fun _ _ _ _ h => h
  apply Exists.intro
  apply And.intro
  · apply yr_run; rfl; intro w' hw'; go_simp; (try with_reducible rfl)
  simp only [Act.put, List.setIfInBounds_toArray, List.set_cons_zero, List.set_cons_succ]
  apply wpR_next 20 (some 67)
  · simp only [List.getElem?_toArray, List.getElem?_cons_succ, List.getElem?_cons_zero]; exact rfl
  · rfl
  · kernel_rfl
  · kernel_rfl
  · kernel_rfl
  · exact fun _ _ _ _ h => h
  apply Exists.intro
  apply And.intro
  · apply yr_run; rfl; intro w' hw'; go_simp; (try with_reducible rfl)
  simp only [Act.put, List.setIfInBounds_toArray, List.set_cons_zero, List.set_cons_succ]
  apply wpR_next 21 (some 68)
  · simp only [List.getElem?_toArray, List.getElem?_cons_succ, List.getElem?_cons_zero]; exact rfl
  · rfl
  · kernel_rfl
  · kernel_rfl
  · kernel_rfl
  · exact fun _ _ _ _ h => h
  apply Exists.intro
  apply And.intro
  · apply yr_run; rfl; intro w' hw'; go_simp; (try with_reducible rfl)
  simp only [Act.put, List.setIfInBounds_toArray, List.set_cons_zero, List.set_cons_succ]
  apply wpR_next 22 (some 69)
  · simp only [List.getElem?_toArray, List.getElem?_cons_succ, List.getElem?_cons_zero]; exact rfl
  · rfl
  · kernel_rfl
  · kernel_rfl
  · kernel_rfl
  · exact fun _ _ _ _ h => h
  apply Exists.intro
  apply And.intro
  · apply yr_run; rfl; intro w' hw'; go_simp; (try with_reducible rfl)
  simp only [Act.put, List.setIfInBounds_toArray, List.set_cons_zero, List.set_cons_succ]
  apply wpR_next 23 (some 70)
  · simp only [List.getElem?_toArray, List.getElem?_cons_succ, List.getElem?_cons_zero]; exact rfl
  · rfl
  · kernel_rfl
  · kernel_rfl
  · kernel_rfl
  · exact fun _ _ _ _ h => h
  apply Exists.intro
  apply And.intro
  · apply yr_run; rfl; intro w' hw'; go_simp; (try with_reducible rfl)
  simp only [Act.put, List.setIfInBounds_toArray, List.set_cons_zero, List.set_cons_succ]
  apply wpR_next 24 (some 71)
  · simp only [List.getElem?_toArray, List.getElem?_cons_succ, List.getElem?_cons_zero]; exact rfl
  · rfl
  · kernel_rfl
  · kernel_rfl
  · kernel_rfl
  · exact fun _ _ _ _ h => h
  apply Exists.intro
  apply And.intro
  · apply yr_run; rfl; intro w' hw'; go_simp; (try with_reducible rfl)
  simp only [Act.put, List.setIfInBounds_toArray, List.set_cons_zero, List.set_cons_succ]
  apply wpR_next 25 (some 72)
  · simp only [List.getElem?_toArray, List.getElem?_cons_succ, List.getElem?_cons_zero]; exact rfl
  · rfl
  · kernel_rfl
  · kernel_rfl
  · kernel_rfl
  · exact fun _ _ _ _ h => h
  apply Exists.intro
  apply And.intro
  · apply yr_run; rfl; intro w' hw'; go_simp; (try with_reducible rfl)
  simp only [Act.put, List.setIfInBounds_toArray, List.set_cons_zero, List.set_cons_succ]
  apply wpR_next 26 (some 73)
  · simp only [List.getElem?_toArray, List.getElem?_cons_succ, List.getElem?_cons_zero]; exact rfl
  · rfl
  · kernel_rfl
  · kernel_rfl
  · kernel_rfl
  · exact fun _ _ _ _ h => h
  apply Exists.intro
  apply And.intro
  · apply yr_run; rfl; intro w' hw'; go_simp; (try with_reducible rfl)
  simp only [Act.put, List.setIfInBounds_toArray, List.set_cons_zero, List.set_cons_succ]
  apply wpR_next 27 (some 74)
  · simp only [List.getElem?_toArray, List.getElem?_cons_succ, List.getElem?_cons_zero]; exact rfl
  · rfl
  · kernel_rfl
  · kernel_rfl
  · kernel_rfl
  · exact fun _ _ _ _ h => h
  apply Exists.intro
  apply And.intro
  · apply yr_run; rfl; intro w' hw'; go_simp; (try with_reducible rfl)
  simp only [Act.put, List.setIfInBounds_toArray, List.set_cons_zero, List.set_cons_succ]
  apply wpR_next 28 (some 75)
  · simp only [List.getElem?_toArray, List.getElem?_cons_succ, List.getElem?_cons_zero]; exact rfl
  · rfl
  · kernel_rfl
  · kernel_rfl
  · kernel_rfl
  · exact fun _ _ _ _ h => h
  apply Exists.intro
  apply And.intro
  · apply yr_run; rfl; intro w' hw'; go_simp; (try with_reducible rfl)
  simp only [Act.put, List.setIfInBounds_toArray, List.set_cons_zero, List.set_cons_succ]
  apply wpR_next 29 (some 76)
  · simp only [List.getElem?_toArray, List.getElem?_cons_succ, List.getElem?_cons_zero]; exact rfl
  · rfl
  · kernel_rfl
  · kernel_rfl
  · kernel_rfl
  · exact fun _ _ _ _ h => h
  apply Exists.intro
  apply And.intro
  · apply yr_run; rfl; intro w' hw'; go_simp; (try with_reducible rfl)
  simp only [Act.put, List.setIfInBounds_toArray, List.set_cons_zero, List.set_cons_succ]
  apply wpR_next 30 (some 77)
  · simp only [List.getElem?_toArray, List.getElem?_cons_succ, List.getElem?_cons_zero]; exact rfl
  · rfl
  · kernel_rfl
  · kernel_rfl
  · kernel_rfl
  · exact fun _ _ _ _ h => h
  apply Exists.intro
  apply And.intro
  · apply yr_run; rfl; intro w' hw'; go_simp; (try with_reducible rfl)
  simp only [Act.put, List.setIfInBounds_toArray, List.set_cons_zero, List.set_cons_succ]
  apply wpR_next 31 (some 78)
  · simp only [List.getElem?_toArray, List.getElem?_cons_succ, List.getElem?_cons_zero]; exact rfl
  · rfl
  · kernel_rfl
  · kernel_rfl
  · kernel_rfl
  · exact fun _ _ _ _ h => h
  apply Exists.intro
  apply And.intro
  · apply yr_run; rfl; intro w' hw'; go_simp; (try with_reducible rfl)
  simp only [Act.put, List.setIfInBounds_toArray, List.set_cons_zero, List.set_cons_succ]
  apply wpR_next 32 (some 79)
  · simp only [List.getElem?_toArray, List.getElem?_cons_succ, List.getElem?_cons_zero]; exact rfl
  · rfl
  · kernel_rfl
  · kernel_rfl
  · kernel_rfl
  · exact fun _ _ _ _ h => h
  apply Exists.intro
  apply And.intro
  · apply yr_run; rfl; intro w' hw'; go_simp; (try with_reducible rfl)
  simp only [Act.put, List.setIfInBounds_toArray, List.set_cons_zero, List.set_cons_succ]
  apply wpR_next 33 (some 4)
  · simp only [List.getElem?_toArray, List.getElem?_cons_succ, List.getElem?_cons_zero]; exact rfl
  · rfl
  · kernel_rfl
  · kernel_rfl
  · kernel_rfl
  · exact fun _ _ _ _ h => h
  apply Exists.intro
  apply And.intro
  · apply yr_run; rfl; intro w' hw'; go_simp; (try with_reducible rfl)
  simp only [Act.put, List.setIfInBounds_toArray, List.set_cons_zero, List.set_cons_succ]
  refine wpR_done (by kernel_rfl) ?_ _
  intro w79 hw'
  have Qd_80 := Lib.hid (Qd_63.out.bl hw')
  have R1_80 := Lib.hid (R1_63.out.bl hw')
  have Qa_80 := Lib.hid (Qa_63.out.bl hw')
  have Qb_80 := Lib.hid (Qb_63.out.bl hw')
  have Qc_80 := Lib.hid (Qc_63.out.bl hw')
  have Qe_80 := Lib.hid (Qe_63.out.bl hw')
  have Bel_80 := Lib.hid (bel_bl Bel_63.out hw')
  clear hw'
  go_wp2
  go_ret
  exact ⟨rfl, Bel_80.out⟩
end Go.Proofs.Ytgbkloilodgjfaa
