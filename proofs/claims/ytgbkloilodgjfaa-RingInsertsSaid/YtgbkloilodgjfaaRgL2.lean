/- RingChanges' walk. -/
import Derived.Test.YtgbkloilodgjfaaRgJ
import Derived.Test.YtgbkloilodgjfaaCh
namespace Go.Proofs.Ytgbkloilodgjfaa
open Go.RowKit
set_option linter.unusedSimpArgs false
set_option linter.unusedVariables false

theorem filD_remR {L : List D} (h : L.Nodup) (d : D) : filD L d = remR L d := by
  unfold filD remR
  rw [← List.eraseIdx_eq_take_drop_succ]
  by_cases hm : d ∈ L
  · rw [if_pos hm, ← List.erase_eq_eraseIdx_of_idxOf rfl, h.erase_eq_filter]
    congr 1
    funext x
    by_cases e : x = d
    · subst e
      simp
    · rw [decide_eq_true e, bne_iff_ne.2 e]
  · rw [if_neg hm]
    exact List.filter_eq_self.2 fun x hx => by
      simp only [ne_eq, decide_not, Bool.not_eq_true', decide_eq_false_iff_not]
      exact fun e => hm (e ▸ hx)

theorem insR_len (L : List D) (a d : D) : (insR L a d).length ≤ L.length + 1 := by
  unfold insR
  split
  · omega
  · simp only [List.length_append, List.length_cons, List.length_take, List.length_drop]; omega
theorem remR_len (L : List D) (d : D) : (remR L d).length ≤ L.length := by
  unfold remR
  split
  · simp only [List.length_append, List.length_take, List.length_drop]; omega
  · omega
theorem swpR_len (L : List D) (a d : D) : (swpR L a d).length ≤ L.length + 1 := by
  unfold swpR
  split
  · simp only [List.length_append, List.length_cons, List.length_take, List.length_drop]; omega
  · omega

set_option maxRecDepth 100000 in
set_option maxHeartbeats 4000000 in
theorem law_rchanges (A A' : Option Addr) (n c n' c' : Nat) (L0 M0 : List D) (d e : D) (w : World) (h : RdS w w.heap.size 3 A n c (dartsV L0)) (h' : RdS w w.heap.size 3 A' n' c' (dartsV M0)) (hn : n ≤ maxLen) (hn' : n' ≤ maxLen) :
    Calls Try.prog 8 #[.slice A n c, .slice A' n' c', .agg #[.int .i64 d.1, .int .i64 d.2.1, .int .i64 d.2.2, .int .i64 e.1, .int .i64 e.2.1, .int .i64 e.2.2]] w fun e w' => e = .returned (.bool true) ∧ Below w.heap.size w w' := by
  have R0 := Lib.hid h
  have S0 := Lib.hid h'
  obtain ⟨hl40, hnd⟩ := onceD_len L0
  obtain ⟨hm40, hmd⟩ := onceD_len M0
  have hfr := filD_remR hnd d
  have li := insR_len (onceD L0) d e
  have lr := remR_len (onceD L0) d
  have ls := swpR_len (onceD L0) d e
  obtain ⟨L, gL⟩ : ∃ v, onceD L0 = v := ⟨_, rfl⟩
  obtain ⟨M, gM⟩ : ∃ v, onceD M0 = v := ⟨_, rfl⟩
  have HO := Lib.hid (fun W h => once_any A n c L0 W h (by unfold maxLen at hn; omega))
  have HO' := Lib.hid (fun W h => once_any A' n' c' M0 W h (by unfold maxLen at hn'; omega))
  rw [gL] at HO hl40 hfr li lr ls
  rw [gM] at HO' hm40
  have HI := Lib.hid (fun A1 c1 W h => rinsert_any A1 L.length c1 L d e W h (by omega))
  have HIf := Lib.hid (fun A1 c1 W h => rfinsert_any A1 L.length c1 L d e W h (by omega))
  have HR := Lib.hid (fun A1 c1 W h => rremove_any A1 L.length c1 L d W h (by omega))
  have HRf := Lib.hid (fun A1 c1 W h => rfremove_any A1 L.length c1 L d W h (by omega))
  have HW := Lib.hid (fun A1 c1 W h => rswap_any A1 L.length c1 L d e W h (by omega))
  have HWf := Lib.hid (fun A1 c1 W h => rfswap_any A1 L.length c1 L d e W h (by omega))
  have HS := Lib.hid (fun A1 A2 c1 c2 W h1 h2 => same_any A1 A2 L.length M.length c1 c2 L M W h1 h2 (by omega) (by omega))
  have HSf := Lib.hid (fun A1 A2 c1 c2 W h1 h2 => rfsame_any A1 A2 L.length M.length c1 c2 L M W h1 h2 (by omega) (by omega))
  have HD1 := Lib.hid (fun A1 A2 c1 c2 W h1 h2 => rdarts_any A1 A2 (turnD (insR L d e)).length (turnD (insR L d e)).length c1 c2 (turnD (insR L d e)) (turnD (insR L d e)) W h1 h2 (by rw [turnD_length]; omega))
  have HD2 := Lib.hid (fun A1 A2 c1 c2 W h1 h2 => rdarts_any A1 A2 (turnD (remR L d)).length (turnD (remR L d)).length c1 c2 (turnD (remR L d)) (turnD (remR L d)) W h1 h2 (by rw [turnD_length]; omega))
  have HD3 := Lib.hid (fun A1 A2 c1 c2 W h1 h2 => rdarts_any A1 A2 (turnD (swpR L d e)).length (turnD (swpR L d e)).length c1 c2 (turnD (swpR L d e)) (turnD (swpR L d e)) W h1 h2 (by rw [turnD_length]; omega))
  rw [hfr] at HRf
  obtain ⟨T1, gT1⟩ : ∃ v, turnD (insR L d e) = v := ⟨_, rfl⟩
  obtain ⟨T2, gT2⟩ : ∃ v, turnD (remR L d) = v := ⟨_, rfl⟩
  obtain ⟨T3, gT3⟩ : ∃ v, turnD (swpR L d e) = v := ⟨_, rfl⟩
  obtain ⟨sm, gsm⟩ : ∃ v, decide (turnD L = turnD M) = v := ⟨_, rfl⟩
  rw [gT1] at HI HIf HD1
  rw [gT2] at HR HRf HD2
  rw [gT3] at HW HWf HD3
  rw [gsm] at HS HSf
  rw [decide_eq_true (rfl : T1 = T1)] at HD1
  rw [decide_eq_true (rfl : T2 = T2)] at HD2
  rw [decide_eq_true (rfl : T3 = T3)] at HD3
  clear h h' hn hn' gL gM gT1 gT2 gT3 gsm hnd hmd hfr li lr ls
  go_enter Try.func8, Try.ntmps8
  go_wp2_with fail
  refine (rg_shown _).mono ?_
  rintro e w1 ⟨rfl, hb1⟩
  have R0_2 := Lib.hid ((R0.out.al (.cells #[.int .i64 d.1, .int .i64 d.2.1, .int .i64 d.2.2, .int .i64 e.1, .int .i64 e.2.1, .int .i64 e.2.2] 53)).bl hb1)
  have S0_2 := Lib.hid ((S0.out.al (.cells #[.int .i64 d.1, .int .i64 d.2.1, .int .i64 d.2.2, .int .i64 e.1, .int .i64 e.2.1, .int .i64 e.2.2] 53)).bl hb1)
  have Qd_2 := Lib.hid ((Whole.new2 (w := w) (g := w.heap.size) (t := 53) (cs := dartsV [d, e]) (by first | rfl | simp)).bl hb1)
  have Bel_2 := Lib.hid (bel_bl (bel_al (Below.refl _ w) (.cells #[.int .i64 d.1, .int .i64 d.2.1, .int .i64 d.2.2, .int .i64 e.1, .int .i64 e.2.1, .int .i64 e.2.2] 53)) hb1)
  clear hb1
  go_wp2_with fail
  refine (HO.out _ R0_2.out).mono ?_
  rintro e w3 ⟨A1, c1, rfl, hr1, hb3⟩
  have R0_4 := Lib.hid (R0_2.out.bl hb3)
  have S0_4 := Lib.hid (S0_2.out.bl hb3)
  have Qd_4 := Lib.hid (Qd_2.out.bl hb3)
  have Bel_4 := Lib.hid (bel_bl Bel_2.out hb3)
  clear hb3
  have R1_4 := Lib.hid hr1
  clear hr1
  go_wp2_with fail
  refine (HO'.out _ S0_4.out).mono ?_
  rintro e w5 ⟨A2, c2, rfl, hs1, hb5⟩
  have S0_6 := Lib.hid (S0_4.out.bl hb5)
  have Qd_6 := Lib.hid (Qd_4.out.bl hb5)
  have R1_6 := Lib.hid (R1_4.out.bl hb5)
  have Bel_6 := Lib.hid (bel_bl Bel_4.out hb5)
  clear hb5
  have S1_6 := Lib.hid hs1
  clear hs1
  go_upto_region 4 with fail
  have Qd_7 := Lib.hid (Qd_6.out.dr)
  have R1_7 := Lib.hid (R1_6.out.dr)
  have S1_7 := Lib.hid (S1_6.out.dr)
  have Bel_7 := Lib.hid (bel_dr Bel_6.out)
  have ld8 : ∀ w', Kept Nil_ w5.drew w' → w'.cell? ⟨w.heap.size, 0, none⟩ = some (.int .i64 d.1) := fun w' h => h.nil_cell (Qd_7.out.cell (i := 0) rfl)
  have ld9 : ∀ w', Kept Nil_ w5.drew w' → w'.cell? ⟨w.heap.size, 1, none⟩ = some (.int .i64 d.2.1) := fun w' h => h.nil_cell (Qd_7.out.cell (i := 1) rfl)
  have ld10 : ∀ w', Kept Nil_ w5.drew w' → w'.cell? ⟨w.heap.size, 2, none⟩ = some (.int .i64 d.2.2) := fun w' h => h.nil_cell (Qd_7.out.cell (i := 2) rfl)
  have ld11 : ∀ w', Kept Nil_ w5.drew w' → w'.cell? ⟨w.heap.size, 3, none⟩ = some (.int .i64 e.1) := fun w' h => h.nil_cell (Qd_7.out.cell (i := 3) rfl)
  have ld12 : ∀ w', Kept Nil_ w5.drew w' → w'.cell? ⟨w.heap.size, 4, none⟩ = some (.int .i64 e.2.1) := fun w' h => h.nil_cell (Qd_7.out.cell (i := 4) rfl)
  have ld13 : ∀ w', Kept Nil_ w5.drew w' → w'.cell? ⟨w.heap.size, 5, none⟩ = some (.int .i64 e.2.2) := fun w' h => h.nil_cell (Qd_7.out.cell (i := 5) rfl)
  refine wp_region_reg Nil_ (by kernel_rfl) ?_
  apply wpR_next 0 (some 16)
  · simp only [List.getElem?_toArray, List.getElem?_cons_succ, List.getElem?_cons_zero]; exact rfl
  · rfl
  · kernel_rfl
  · kernel_rfl
  · kernel_rfl
  · exact fun _ _ _ _ h => h
  apply Exists.intro
  apply And.intro
  · apply yr_run; rfl; intro w' hw'; go_simp; (try with_reducible rfl)
  simp only [Act.put, List.setIfInBounds_toArray, List.set_cons_zero, List.set_cons_succ]
  apply wpR_next 1 (some 17)
  · simp only [List.getElem?_toArray, List.getElem?_cons_succ, List.getElem?_cons_zero]; exact rfl
  · rfl
  · kernel_rfl
  · kernel_rfl
  · kernel_rfl
  · exact fun _ _ _ _ h => h
  apply Exists.intro
  apply And.intro
  · apply yr_run; rfl; intro w' hw'; go_simp; (try with_reducible rfl)
  simp only [Act.put, List.setIfInBounds_toArray, List.set_cons_zero, List.set_cons_succ]
  apply wpR_next 2 (some 18)
  · simp only [List.getElem?_toArray, List.getElem?_cons_succ, List.getElem?_cons_zero]; exact rfl
  · rfl
  · kernel_rfl
  · kernel_rfl
  · kernel_rfl
  · exact fun _ _ _ _ h => h
  apply Exists.intro
  apply And.intro
  · apply yr_run; rfl; intro w' hw'; go_simp; (try with_reducible rfl)
  simp only [Act.put, List.setIfInBounds_toArray, List.set_cons_zero, List.set_cons_succ]
  apply wpR_next 3 (some 19)
  · simp only [List.getElem?_toArray, List.getElem?_cons_succ, List.getElem?_cons_zero]; exact rfl
  · rfl
  · kernel_rfl
  · kernel_rfl
  · kernel_rfl
  · exact fun _ _ _ _ h => h
  apply Exists.intro
  apply And.intro
  · apply yr_run; rfl; intro w' hw'; go_simp; (try with_reducible rfl)
  simp only [Act.put, List.setIfInBounds_toArray, List.set_cons_zero, List.set_cons_succ]
  apply wpR_next 4 (some 20)
  · simp only [List.getElem?_toArray, List.getElem?_cons_succ, List.getElem?_cons_zero]; exact rfl
  · rfl
  · kernel_rfl
  · kernel_rfl
  · kernel_rfl
  · exact fun _ _ _ _ h => h
  apply Exists.intro
  apply And.intro
  · apply yr_run; rfl; intro w' hw'; go_simp; (try with_reducible rfl)
  simp only [Act.put, List.setIfInBounds_toArray, List.set_cons_zero, List.set_cons_succ]
  apply wpR_next 6 (some 22)
  · simp only [List.getElem?_toArray, List.getElem?_cons_succ, List.getElem?_cons_zero]; exact rfl
  · rfl
  · kernel_rfl
  · kernel_rfl
  · kernel_rfl
  · exact fun _ _ _ _ h => h
  apply Exists.intro
  apply And.intro
  · apply yr_run; rfl; intro w' hw'; go_simp; (try with_reducible rfl)
  simp only [Act.put, List.setIfInBounds_toArray, List.set_cons_zero, List.set_cons_succ]
  apply wpR_next 7 (some 23)
  · simp only [List.getElem?_toArray, List.getElem?_cons_succ, List.getElem?_cons_zero]; exact rfl
  · rfl
  · kernel_rfl
  · kernel_rfl
  · kernel_rfl
  · exact fun _ _ _ _ h => h
  apply Exists.intro
  apply And.intro
  · apply yr_run; rfl; intro w' hw'; go_simp; (try with_reducible rfl)
  simp only [Act.put, List.setIfInBounds_toArray, List.set_cons_zero, List.set_cons_succ]
  apply wpR_next 8 (some 24)
  · simp only [List.getElem?_toArray, List.getElem?_cons_succ, List.getElem?_cons_zero]; exact rfl
  · rfl
  · kernel_rfl
  · kernel_rfl
  · kernel_rfl
  · exact fun _ _ _ _ h => h
  apply Exists.intro
  apply And.intro
  · apply yr_run; rfl; intro w' hw'; go_simp; (try with_reducible rfl)
  simp only [Act.put, List.setIfInBounds_toArray, List.set_cons_zero, List.set_cons_succ]
  apply wpR_next 9 (some 25)
  · simp only [List.getElem?_toArray, List.getElem?_cons_succ, List.getElem?_cons_zero]; exact rfl
  · rfl
  · kernel_rfl
  · kernel_rfl
  · kernel_rfl
  · exact fun _ _ _ _ h => h
  apply Exists.intro
  apply And.intro
  · apply yr_run; rfl; intro w' hw'; go_simp; (try with_reducible rfl)
  simp only [Act.put, List.setIfInBounds_toArray, List.set_cons_zero, List.set_cons_succ]
  apply wpR_next 10 (some 26)
  · simp only [List.getElem?_toArray, List.getElem?_cons_succ, List.getElem?_cons_zero]; exact rfl
  · rfl
  · kernel_rfl
  · kernel_rfl
  · kernel_rfl
  · exact fun _ _ _ _ h => h
  apply Exists.intro
  apply And.intro
  · apply yr_run; rfl; intro w' hw'; go_simp; (try with_reducible rfl)
  simp only [Act.put, List.setIfInBounds_toArray, List.set_cons_zero, List.set_cons_succ]
  apply wpR_call 5 (some 21)
  · simp only [List.getElem?_toArray, List.getElem?_cons_succ, List.getElem?_cons_zero]; exact rfl
  · rfl
  · kernel_rfl
  · rfl
  · intro w'; go_simp; first | done | exact ⟨rfl, rfl⟩ | with_reducible rfl
  intro w' hw'
  refine (HI.out _ _ _ (R1_7.out.bl hw')).mono ?_
  rintro e w14 ⟨A10, c10, rfl, hx, hb14⟩
  have Qd_14 := Lib.hid ((Qd_7.out.bl hw').bl hb14)
  have R1_14 := Lib.hid ((R1_7.out.bl hw').bl hb14)
  have S1_14 := Lib.hid ((S1_7.out.bl hw').bl hb14)
  have Bel_14 := Lib.hid (bel_bl (bel_bl Bel_7.out hw') hb14)
  have ld15 := fun w'' (h : Kept Nil_ w14 w'') => ld8 w'' ((Kept.of_ext hw').trans ((Kept.of_below hb14).trans h))
  have ld16 := fun w'' (h : Kept Nil_ w14 w'') => ld9 w'' ((Kept.of_ext hw').trans ((Kept.of_below hb14).trans h))
  have ld17 := fun w'' (h : Kept Nil_ w14 w'') => ld10 w'' ((Kept.of_ext hw').trans ((Kept.of_below hb14).trans h))
  have ld18 := fun w'' (h : Kept Nil_ w14 w'') => ld11 w'' ((Kept.of_ext hw').trans ((Kept.of_below hb14).trans h))
  have ld19 := fun w'' (h : Kept Nil_ w14 w'') => ld12 w'' ((Kept.of_ext hw').trans ((Kept.of_below hb14).trans h))
  have ld20 := fun w'' (h : Kept Nil_ w14 w'') => ld13 w'' ((Kept.of_ext hw').trans ((Kept.of_below hb14).trans h))
  refine ⟨_, rfl, Kept.of_below hb14, ?_⟩
  clear hw' hb14
  have X_14 := Lib.hid hx
  clear hx
  simp only [Act.put, List.setIfInBounds_toArray, List.set_cons_zero, List.set_cons_succ]
  apply wpR_call 11 (some 27)
  · simp only [List.getElem?_toArray, List.getElem?_cons_succ, List.getElem?_cons_zero]; exact rfl
  · rfl
  · kernel_rfl
  · rfl
  · intro w'; go_simp; first | done | exact ⟨rfl, rfl⟩ | with_reducible rfl
  intro w' hw'
  refine (HIf.out _ _ _ (R1_14.out.bl hw')).mono ?_
  rintro e w21 ⟨A11, c11, rfl, hy, hb21⟩
  have Qd_21 := Lib.hid ((Qd_14.out.bl hw').bl hb21)
  have R1_21 := Lib.hid ((R1_14.out.bl hw').bl hb21)
  have S1_21 := Lib.hid ((S1_14.out.bl hw').bl hb21)
  have X_21 := Lib.hid ((X_14.out.bl hw').bl hb21)
  have Bel_21 := Lib.hid (bel_bl (bel_bl Bel_14.out hw') hb21)
  have ld22 := fun w'' (h : Kept Nil_ w21 w'') => ld15 w'' ((Kept.of_ext hw').trans ((Kept.of_below hb21).trans h))
  have ld23 := fun w'' (h : Kept Nil_ w21 w'') => ld16 w'' ((Kept.of_ext hw').trans ((Kept.of_below hb21).trans h))
  have ld24 := fun w'' (h : Kept Nil_ w21 w'') => ld17 w'' ((Kept.of_ext hw').trans ((Kept.of_below hb21).trans h))
  have ld25 := fun w'' (h : Kept Nil_ w21 w'') => ld18 w'' ((Kept.of_ext hw').trans ((Kept.of_below hb21).trans h))
  have ld26 := fun w'' (h : Kept Nil_ w21 w'') => ld19 w'' ((Kept.of_ext hw').trans ((Kept.of_below hb21).trans h))
  have ld27 := fun w'' (h : Kept Nil_ w21 w'') => ld20 w'' ((Kept.of_ext hw').trans ((Kept.of_below hb21).trans h))
  refine ⟨_, rfl, Kept.of_below hb21, ?_⟩
  clear hw' hb21
  have Y_21 := Lib.hid hy
  clear hy
  simp only [Act.put, List.setIfInBounds_toArray, List.set_cons_zero, List.set_cons_succ]
  apply wpR_call 12 (some 28)
  · simp only [List.getElem?_toArray, List.getElem?_cons_succ, List.getElem?_cons_zero]; exact rfl
  · rfl
  · kernel_rfl
  · rfl
  · intro w'; go_simp; first | done | exact ⟨rfl, rfl⟩ | with_reducible rfl
  intro w' hw'
  refine (HD1.out _ _ _ _ _ (X_21.out.bl hw') (Y_21.out.bl hw')).mono ?_
  rintro e w28 ⟨rfl, hb28⟩
  have Qd_28 := Lib.hid ((Qd_21.out.bl hw').bl hb28)
  have R1_28 := Lib.hid ((R1_21.out.bl hw').bl hb28)
  have S1_28 := Lib.hid ((S1_21.out.bl hw').bl hb28)
  have X_28 := Lib.hid ((X_21.out.bl hw').bl hb28)
  have Y_28 := Lib.hid ((Y_21.out.bl hw').bl hb28)
  have Bel_28 := Lib.hid (bel_bl (bel_bl Bel_21.out hw') hb28)
  have ld29 := fun w'' (h : Kept Nil_ w28 w'') => ld22 w'' ((Kept.of_ext hw').trans ((Kept.of_below hb28).trans h))
  have ld30 := fun w'' (h : Kept Nil_ w28 w'') => ld23 w'' ((Kept.of_ext hw').trans ((Kept.of_below hb28).trans h))
  have ld31 := fun w'' (h : Kept Nil_ w28 w'') => ld24 w'' ((Kept.of_ext hw').trans ((Kept.of_below hb28).trans h))
  have ld32 := fun w'' (h : Kept Nil_ w28 w'') => ld25 w'' ((Kept.of_ext hw').trans ((Kept.of_below hb28).trans h))
  have ld33 := fun w'' (h : Kept Nil_ w28 w'') => ld26 w'' ((Kept.of_ext hw').trans ((Kept.of_below hb28).trans h))
  have ld34 := fun w'' (h : Kept Nil_ w28 w'') => ld27 w'' ((Kept.of_ext hw').trans ((Kept.of_below hb28).trans h))
  refine ⟨_, rfl, Kept.of_below hb28, ?_⟩
  clear hw' hb28
  simp only [Act.put, List.setIfInBounds_toArray, List.set_cons_zero, List.set_cons_succ]
  apply wpR_next 13 (some 8)
  · simp only [List.getElem?_toArray, List.getElem?_cons_succ, List.getElem?_cons_zero]; exact rfl
  · rfl
  · kernel_rfl
  · kernel_rfl
  · kernel_rfl
  · exact fun _ _ _ _ h => h
  apply Exists.intro
  apply And.intro
  · apply yr_run; rfl; intro w' hw'; go_simp; (try with_reducible rfl)
  simp only [Act.put, List.setIfInBounds_toArray, List.set_cons_zero, List.set_cons_succ]
  refine wpR_done (by kernel_rfl) ?_ _
  intro w35 hw'
  have Qd_36 := Lib.hid (Qd_28.out.bl hw')
  have R1_36 := Lib.hid (R1_28.out.bl hw')
  have S1_36 := Lib.hid (S1_28.out.bl hw')
  have X_36 := Lib.hid (X_28.out.bl hw')
  have Y_36 := Lib.hid (Y_28.out.bl hw')
  have Bel_36 := Lib.hid (bel_bl Bel_28.out hw')
  clear hw'
  go_upto_region 5 with fail
  have Qd_37 := Lib.hid (Qd_36.out.dr)
  have R1_37 := Lib.hid (R1_36.out.dr)
  have S1_37 := Lib.hid (S1_36.out.dr)
  have Bel_37 := Lib.hid (bel_dr Bel_36.out)
  have ld38 : ∀ w', Kept Nil_ w35.drew w' → w'.cell? ⟨w.heap.size, 0, none⟩ = some (.int .i64 d.1) := fun w' h => h.nil_cell (Qd_37.out.cell (i := 0) rfl)
  have ld39 : ∀ w', Kept Nil_ w35.drew w' → w'.cell? ⟨w.heap.size, 1, none⟩ = some (.int .i64 d.2.1) := fun w' h => h.nil_cell (Qd_37.out.cell (i := 1) rfl)
  have ld40 : ∀ w', Kept Nil_ w35.drew w' → w'.cell? ⟨w.heap.size, 2, none⟩ = some (.int .i64 d.2.2) := fun w' h => h.nil_cell (Qd_37.out.cell (i := 2) rfl)
  have ld41 : ∀ w', Kept Nil_ w35.drew w' → w'.cell? ⟨w.heap.size, 3, none⟩ = some (.int .i64 e.1) := fun w' h => h.nil_cell (Qd_37.out.cell (i := 3) rfl)
  have ld42 : ∀ w', Kept Nil_ w35.drew w' → w'.cell? ⟨w.heap.size, 4, none⟩ = some (.int .i64 e.2.1) := fun w' h => h.nil_cell (Qd_37.out.cell (i := 4) rfl)
  have ld43 : ∀ w', Kept Nil_ w35.drew w' → w'.cell? ⟨w.heap.size, 5, none⟩ = some (.int .i64 e.2.2) := fun w' h => h.nil_cell (Qd_37.out.cell (i := 5) rfl)
  refine wp_region_reg Nil_ (by kernel_rfl) ?_
  apply wpR_next 0 (some 29)
  · simp only [List.getElem?_toArray, List.getElem?_cons_succ, List.getElem?_cons_zero]; exact rfl
  · rfl
  · kernel_rfl
  · kernel_rfl
  · kernel_rfl
  · exact fun _ _ _ _ h => h
  apply Exists.intro
  apply And.intro
  · apply yr_run; rfl; intro w' hw'; go_simp; (try with_reducible rfl)
  simp only [Act.put, List.setIfInBounds_toArray, List.set_cons_zero, List.set_cons_succ]
  apply wpR_next 1 (some 30)
  · simp only [List.getElem?_toArray, List.getElem?_cons_succ, List.getElem?_cons_zero]; exact rfl
  · rfl
  · kernel_rfl
  · kernel_rfl
  · kernel_rfl
  · exact fun _ _ _ _ h => h
  apply Exists.intro
  apply And.intro
  · apply yr_run; rfl; intro w' hw'; go_simp; (try with_reducible rfl)
  simp only [Act.put, List.setIfInBounds_toArray, List.set_cons_zero, List.set_cons_succ]
  apply wpR_next 2 (some 31)
  · simp only [List.getElem?_toArray, List.getElem?_cons_succ, List.getElem?_cons_zero]; exact rfl
  · rfl
  · kernel_rfl
  · kernel_rfl
  · kernel_rfl
  · exact fun _ _ _ _ h => h
  apply Exists.intro
  apply And.intro
  · apply yr_run; rfl; intro w' hw'; go_simp; (try with_reducible rfl)
  simp only [Act.put, List.setIfInBounds_toArray, List.set_cons_zero, List.set_cons_succ]
  apply wpR_next 4 (some 33)
  · simp only [List.getElem?_toArray, List.getElem?_cons_succ, List.getElem?_cons_zero]; exact rfl
  · rfl
  · kernel_rfl
  · kernel_rfl
  · kernel_rfl
  · exact fun _ _ _ _ h => h
  apply Exists.intro
  apply And.intro
  · apply yr_run; rfl; intro w' hw'; go_simp; (try with_reducible rfl)
  simp only [Act.put, List.setIfInBounds_toArray, List.set_cons_zero, List.set_cons_succ]
  apply wpR_next 5 (some 34)
  · simp only [List.getElem?_toArray, List.getElem?_cons_succ, List.getElem?_cons_zero]; exact rfl
  · rfl
  · kernel_rfl
  · kernel_rfl
  · kernel_rfl
  · exact fun _ _ _ _ h => h
  apply Exists.intro
  apply And.intro
  · apply yr_run; rfl; intro w' hw'; go_simp; (try with_reducible rfl)
  simp only [Act.put, List.setIfInBounds_toArray, List.set_cons_zero, List.set_cons_succ]
  apply wpR_next 6 (some 35)
  · simp only [List.getElem?_toArray, List.getElem?_cons_succ, List.getElem?_cons_zero]; exact rfl
  · rfl
  · kernel_rfl
  · kernel_rfl
  · kernel_rfl
  · exact fun _ _ _ _ h => h
  apply Exists.intro
  apply And.intro
  · apply yr_run; rfl; intro w' hw'; go_simp; (try with_reducible rfl)
  simp only [Act.put, List.setIfInBounds_toArray, List.set_cons_zero, List.set_cons_succ]
  apply wpR_call 3 (some 32)
  · simp only [List.getElem?_toArray, List.getElem?_cons_succ, List.getElem?_cons_zero]; exact rfl
  · rfl
  · kernel_rfl
  · rfl
  · intro w'; go_simp; first | done | exact ⟨rfl, rfl⟩ | with_reducible rfl
  intro w' hw'
  refine (HR.out _ _ _ (R1_37.out.bl hw')).mono ?_
  rintro e w44 ⟨A20, c20, rfl, hx, hb44⟩
  have Qd_44 := Lib.hid ((Qd_37.out.bl hw').bl hb44)
  have R1_44 := Lib.hid ((R1_37.out.bl hw').bl hb44)
  have S1_44 := Lib.hid ((S1_37.out.bl hw').bl hb44)
  have Bel_44 := Lib.hid (bel_bl (bel_bl Bel_37.out hw') hb44)
  have ld45 := fun w'' (h : Kept Nil_ w44 w'') => ld38 w'' ((Kept.of_ext hw').trans ((Kept.of_below hb44).trans h))
  have ld46 := fun w'' (h : Kept Nil_ w44 w'') => ld39 w'' ((Kept.of_ext hw').trans ((Kept.of_below hb44).trans h))
  have ld47 := fun w'' (h : Kept Nil_ w44 w'') => ld40 w'' ((Kept.of_ext hw').trans ((Kept.of_below hb44).trans h))
  have ld48 := fun w'' (h : Kept Nil_ w44 w'') => ld41 w'' ((Kept.of_ext hw').trans ((Kept.of_below hb44).trans h))
  have ld49 := fun w'' (h : Kept Nil_ w44 w'') => ld42 w'' ((Kept.of_ext hw').trans ((Kept.of_below hb44).trans h))
  have ld50 := fun w'' (h : Kept Nil_ w44 w'') => ld43 w'' ((Kept.of_ext hw').trans ((Kept.of_below hb44).trans h))
  refine ⟨_, rfl, Kept.of_below hb44, ?_⟩
  clear hw' hb44
  have X_44 := Lib.hid hx
  clear hx
  simp only [Act.put, List.setIfInBounds_toArray, List.set_cons_zero, List.set_cons_succ]
  apply wpR_call 7 (some 36)
  · simp only [List.getElem?_toArray, List.getElem?_cons_succ, List.getElem?_cons_zero]; exact rfl
  · rfl
  · kernel_rfl
  · rfl
  · intro w'; go_simp; first | done | exact ⟨rfl, rfl⟩ | with_reducible rfl
  intro w' hw'
  refine (HRf.out _ _ _ (R1_44.out.bl hw')).mono ?_
  rintro e w51 ⟨A21, c21, rfl, hy, hb51⟩
  have Qd_51 := Lib.hid ((Qd_44.out.bl hw').bl hb51)
  have R1_51 := Lib.hid ((R1_44.out.bl hw').bl hb51)
  have S1_51 := Lib.hid ((S1_44.out.bl hw').bl hb51)
  have X_51 := Lib.hid ((X_44.out.bl hw').bl hb51)
  have Bel_51 := Lib.hid (bel_bl (bel_bl Bel_44.out hw') hb51)
  have ld52 := fun w'' (h : Kept Nil_ w51 w'') => ld45 w'' ((Kept.of_ext hw').trans ((Kept.of_below hb51).trans h))
  have ld53 := fun w'' (h : Kept Nil_ w51 w'') => ld46 w'' ((Kept.of_ext hw').trans ((Kept.of_below hb51).trans h))
  have ld54 := fun w'' (h : Kept Nil_ w51 w'') => ld47 w'' ((Kept.of_ext hw').trans ((Kept.of_below hb51).trans h))
  have ld55 := fun w'' (h : Kept Nil_ w51 w'') => ld48 w'' ((Kept.of_ext hw').trans ((Kept.of_below hb51).trans h))
  have ld56 := fun w'' (h : Kept Nil_ w51 w'') => ld49 w'' ((Kept.of_ext hw').trans ((Kept.of_below hb51).trans h))
  have ld57 := fun w'' (h : Kept Nil_ w51 w'') => ld50 w'' ((Kept.of_ext hw').trans ((Kept.of_below hb51).trans h))
  refine ⟨_, rfl, Kept.of_below hb51, ?_⟩
  clear hw' hb51
  have Y_51 := Lib.hid hy
  clear hy
  simp only [Act.put, List.setIfInBounds_toArray, List.set_cons_zero, List.set_cons_succ]
  apply wpR_call 8 (some 37)
  · simp only [List.getElem?_toArray, List.getElem?_cons_succ, List.getElem?_cons_zero]; exact rfl
  · rfl
  · kernel_rfl
  · rfl
  · intro w'; go_simp; first | done | exact ⟨rfl, rfl⟩ | with_reducible rfl
  intro w' hw'
  refine (HD2.out _ _ _ _ _ (X_51.out.bl hw') (Y_51.out.bl hw')).mono ?_
  rintro e w58 ⟨rfl, hb58⟩
  have Qd_58 := Lib.hid ((Qd_51.out.bl hw').bl hb58)
  have R1_58 := Lib.hid ((R1_51.out.bl hw').bl hb58)
  have S1_58 := Lib.hid ((S1_51.out.bl hw').bl hb58)
  have X_58 := Lib.hid ((X_51.out.bl hw').bl hb58)
  have Y_58 := Lib.hid ((Y_51.out.bl hw').bl hb58)
  have Bel_58 := Lib.hid (bel_bl (bel_bl Bel_51.out hw') hb58)
  have ld59 := fun w'' (h : Kept Nil_ w58 w'') => ld52 w'' ((Kept.of_ext hw').trans ((Kept.of_below hb58).trans h))
  have ld60 := fun w'' (h : Kept Nil_ w58 w'') => ld53 w'' ((Kept.of_ext hw').trans ((Kept.of_below hb58).trans h))
  have ld61 := fun w'' (h : Kept Nil_ w58 w'') => ld54 w'' ((Kept.of_ext hw').trans ((Kept.of_below hb58).trans h))
  have ld62 := fun w'' (h : Kept Nil_ w58 w'') => ld55 w'' ((Kept.of_ext hw').trans ((Kept.of_below hb58).trans h))
  have ld63 := fun w'' (h : Kept Nil_ w58 w'') => ld56 w'' ((Kept.of_ext hw').trans ((Kept.of_below hb58).trans h))
  have ld64 := fun w'' (h : Kept Nil_ w58 w'') => ld57 w'' ((Kept.of_ext hw').trans ((Kept.of_below hb58).trans h))
  refine ⟨_, rfl, Kept.of_below hb58, ?_⟩
  clear hw' hb58
  simp only [Act.put, List.setIfInBounds_toArray, List.set_cons_zero, List.set_cons_succ]
  apply wpR_next 9 (some 9)
  · simp only [List.getElem?_toArray, List.getElem?_cons_succ, List.getElem?_cons_zero]; exact rfl
  · rfl
  · kernel_rfl
  · kernel_rfl
  · kernel_rfl
  · exact fun _ _ _ _ h => h
  apply Exists.intro
  apply And.intro
  · apply yr_run; rfl; intro w' hw'; go_simp; (try with_reducible rfl)
  simp only [Act.put, List.setIfInBounds_toArray, List.set_cons_zero, List.set_cons_succ]
  refine wpR_done (by kernel_rfl) ?_ _
  intro w65 hw'
  have Qd_66 := Lib.hid (Qd_58.out.bl hw')
  have R1_66 := Lib.hid (R1_58.out.bl hw')
  have S1_66 := Lib.hid (S1_58.out.bl hw')
  have X_66 := Lib.hid (X_58.out.bl hw')
  have Y_66 := Lib.hid (Y_58.out.bl hw')
  have Bel_66 := Lib.hid (bel_bl Bel_58.out hw')
  clear hw'
  go_upto_region 6 with fail
  have Qd_67 := Lib.hid (Qd_66.out.dr)
  have R1_67 := Lib.hid (R1_66.out.dr)
  have S1_67 := Lib.hid (S1_66.out.dr)
  have Bel_67 := Lib.hid (bel_dr Bel_66.out)
  have ld68 : ∀ w', Kept Nil_ w65.drew w' → w'.cell? ⟨w.heap.size, 0, none⟩ = some (.int .i64 d.1) := fun w' h => h.nil_cell (Qd_67.out.cell (i := 0) rfl)
  have ld69 : ∀ w', Kept Nil_ w65.drew w' → w'.cell? ⟨w.heap.size, 1, none⟩ = some (.int .i64 d.2.1) := fun w' h => h.nil_cell (Qd_67.out.cell (i := 1) rfl)
  have ld70 : ∀ w', Kept Nil_ w65.drew w' → w'.cell? ⟨w.heap.size, 2, none⟩ = some (.int .i64 d.2.2) := fun w' h => h.nil_cell (Qd_67.out.cell (i := 2) rfl)
  have ld71 : ∀ w', Kept Nil_ w65.drew w' → w'.cell? ⟨w.heap.size, 3, none⟩ = some (.int .i64 e.1) := fun w' h => h.nil_cell (Qd_67.out.cell (i := 3) rfl)
  have ld72 : ∀ w', Kept Nil_ w65.drew w' → w'.cell? ⟨w.heap.size, 4, none⟩ = some (.int .i64 e.2.1) := fun w' h => h.nil_cell (Qd_67.out.cell (i := 4) rfl)
  have ld73 : ∀ w', Kept Nil_ w65.drew w' → w'.cell? ⟨w.heap.size, 5, none⟩ = some (.int .i64 e.2.2) := fun w' h => h.nil_cell (Qd_67.out.cell (i := 5) rfl)
  refine wp_region_reg Nil_ (by kernel_rfl) ?_
  apply wpR_next 0 (some 38)
  · simp only [List.getElem?_toArray, List.getElem?_cons_succ, List.getElem?_cons_zero]; exact rfl
  · rfl
  · kernel_rfl
  · kernel_rfl
  · kernel_rfl
  · exact fun _ _ _ _ h => h
  apply Exists.intro
  apply And.intro
  · apply yr_run; rfl; intro w' hw'; go_simp; (try with_reducible rfl)
  simp only [Act.put, List.setIfInBounds_toArray, List.set_cons_zero, List.set_cons_succ]
  apply wpR_next 1 (some 39)
  · simp only [List.getElem?_toArray, List.getElem?_cons_succ, List.getElem?_cons_zero]; exact rfl
  · rfl
  · kernel_rfl
  · kernel_rfl
  · kernel_rfl
  · exact fun _ _ _ _ h => h
  apply Exists.intro
  apply And.intro
  · apply yr_run; rfl; intro w' hw'; go_simp; (try with_reducible rfl)
  simp only [Act.put, List.setIfInBounds_toArray, List.set_cons_zero, List.set_cons_succ]
  apply wpR_next 2 (some 40)
  · simp only [List.getElem?_toArray, List.getElem?_cons_succ, List.getElem?_cons_zero]; exact rfl
  · rfl
  · kernel_rfl
  · kernel_rfl
  · kernel_rfl
  · exact fun _ _ _ _ h => h
  apply Exists.intro
  apply And.intro
  · apply yr_run; rfl; intro w' hw'; go_simp; (try with_reducible rfl)
  simp only [Act.put, List.setIfInBounds_toArray, List.set_cons_zero, List.set_cons_succ]
  apply wpR_next 3 (some 41)
  · simp only [List.getElem?_toArray, List.getElem?_cons_succ, List.getElem?_cons_zero]; exact rfl
  · rfl
  · kernel_rfl
  · kernel_rfl
  · kernel_rfl
  · exact fun _ _ _ _ h => h
  apply Exists.intro
  apply And.intro
  · apply yr_run; rfl; intro w' hw'; go_simp; (try with_reducible rfl)
  simp only [Act.put, List.setIfInBounds_toArray, List.set_cons_zero, List.set_cons_succ]
  apply wpR_next 4 (some 42)
  · simp only [List.getElem?_toArray, List.getElem?_cons_succ, List.getElem?_cons_zero]; exact rfl
  · rfl
  · kernel_rfl
  · kernel_rfl
  · kernel_rfl
  · exact fun _ _ _ _ h => h
  apply Exists.intro
  apply And.intro
  · apply yr_run; rfl; intro w' hw'; go_simp; (try with_reducible rfl)
  simp only [Act.put, List.setIfInBounds_toArray, List.set_cons_zero, List.set_cons_succ]
  apply wpR_next 6 (some 44)
  · simp only [List.getElem?_toArray, List.getElem?_cons_succ, List.getElem?_cons_zero]; exact rfl
  · rfl
  · kernel_rfl
  · kernel_rfl
  · kernel_rfl
  · exact fun _ _ _ _ h => h
  apply Exists.intro
  apply And.intro
  · apply yr_run; rfl; intro w' hw'; go_simp; (try with_reducible rfl)
  simp only [Act.put, List.setIfInBounds_toArray, List.set_cons_zero, List.set_cons_succ]
  apply wpR_next 7 (some 45)
  · simp only [List.getElem?_toArray, List.getElem?_cons_succ, List.getElem?_cons_zero]; exact rfl
  · rfl
  · kernel_rfl
  · kernel_rfl
  · kernel_rfl
  · exact fun _ _ _ _ h => h
  apply Exists.intro
  apply And.intro
  · apply yr_run; rfl; intro w' hw'; go_simp; (try with_reducible rfl)
  simp only [Act.put, List.setIfInBounds_toArray, List.set_cons_zero, List.set_cons_succ]
  apply wpR_next 8 (some 46)
  · simp only [List.getElem?_toArray, List.getElem?_cons_succ, List.getElem?_cons_zero]; exact rfl
  · rfl
  · kernel_rfl
  · kernel_rfl
  · kernel_rfl
  · exact fun _ _ _ _ h => h
  apply Exists.intro
  apply And.intro
  · apply yr_run; rfl; intro w' hw'; go_simp; (try with_reducible rfl)
  simp only [Act.put, List.setIfInBounds_toArray, List.set_cons_zero, List.set_cons_succ]
  apply wpR_next 9 (some 47)
  · simp only [List.getElem?_toArray, List.getElem?_cons_succ, List.getElem?_cons_zero]; exact rfl
  · rfl
  · kernel_rfl
  · kernel_rfl
  · kernel_rfl
  · exact fun _ _ _ _ h => h
  apply Exists.intro
  apply And.intro
  · apply yr_run; rfl; intro w' hw'; go_simp; (try with_reducible rfl)
  simp only [Act.put, List.setIfInBounds_toArray, List.set_cons_zero, List.set_cons_succ]
  apply wpR_next 10 (some 48)
  · simp only [List.getElem?_toArray, List.getElem?_cons_succ, List.getElem?_cons_zero]; exact rfl
  · rfl
  · kernel_rfl
  · kernel_rfl
  · kernel_rfl
  · exact fun _ _ _ _ h => h
  apply Exists.intro
  apply And.intro
  · apply yr_run; rfl; intro w' hw'; go_simp; (try with_reducible rfl)
  simp only [Act.put, List.setIfInBounds_toArray, List.set_cons_zero, List.set_cons_succ]
  apply wpR_call 5 (some 43)
  · simp only [List.getElem?_toArray, List.getElem?_cons_succ, List.getElem?_cons_zero]; exact rfl
  · rfl
  · kernel_rfl
  · rfl
  · intro w'; go_simp; first | done | exact ⟨rfl, rfl⟩ | with_reducible rfl
  intro w' hw'
  refine (HW.out _ _ _ (R1_67.out.bl hw')).mono ?_
  rintro e w74 ⟨A30, c30, rfl, hx, hb74⟩
  have Qd_74 := Lib.hid ((Qd_67.out.bl hw').bl hb74)
  have R1_74 := Lib.hid ((R1_67.out.bl hw').bl hb74)
  have S1_74 := Lib.hid ((S1_67.out.bl hw').bl hb74)
  have Bel_74 := Lib.hid (bel_bl (bel_bl Bel_67.out hw') hb74)
  have ld75 := fun w'' (h : Kept Nil_ w74 w'') => ld68 w'' ((Kept.of_ext hw').trans ((Kept.of_below hb74).trans h))
  have ld76 := fun w'' (h : Kept Nil_ w74 w'') => ld69 w'' ((Kept.of_ext hw').trans ((Kept.of_below hb74).trans h))
  have ld77 := fun w'' (h : Kept Nil_ w74 w'') => ld70 w'' ((Kept.of_ext hw').trans ((Kept.of_below hb74).trans h))
  have ld78 := fun w'' (h : Kept Nil_ w74 w'') => ld71 w'' ((Kept.of_ext hw').trans ((Kept.of_below hb74).trans h))
  have ld79 := fun w'' (h : Kept Nil_ w74 w'') => ld72 w'' ((Kept.of_ext hw').trans ((Kept.of_below hb74).trans h))
  have ld80 := fun w'' (h : Kept Nil_ w74 w'') => ld73 w'' ((Kept.of_ext hw').trans ((Kept.of_below hb74).trans h))
  refine ⟨_, rfl, Kept.of_below hb74, ?_⟩
  clear hw' hb74
  have X_74 := Lib.hid hx
  clear hx
  simp only [Act.put, List.setIfInBounds_toArray, List.set_cons_zero, List.set_cons_succ]
  apply wpR_call 11 (some 49)
  · simp only [List.getElem?_toArray, List.getElem?_cons_succ, List.getElem?_cons_zero]; exact rfl
  · rfl
  · kernel_rfl
  · rfl
  · intro w'; go_simp; first | done | exact ⟨rfl, rfl⟩ | with_reducible rfl
  intro w' hw'
  refine (HWf.out _ _ _ (R1_74.out.bl hw')).mono ?_
  rintro e w81 ⟨A31, c31, rfl, hy, hb81⟩
  have Qd_81 := Lib.hid ((Qd_74.out.bl hw').bl hb81)
  have R1_81 := Lib.hid ((R1_74.out.bl hw').bl hb81)
  have S1_81 := Lib.hid ((S1_74.out.bl hw').bl hb81)
  have X_81 := Lib.hid ((X_74.out.bl hw').bl hb81)
  have Bel_81 := Lib.hid (bel_bl (bel_bl Bel_74.out hw') hb81)
  have ld82 := fun w'' (h : Kept Nil_ w81 w'') => ld75 w'' ((Kept.of_ext hw').trans ((Kept.of_below hb81).trans h))
  have ld83 := fun w'' (h : Kept Nil_ w81 w'') => ld76 w'' ((Kept.of_ext hw').trans ((Kept.of_below hb81).trans h))
  have ld84 := fun w'' (h : Kept Nil_ w81 w'') => ld77 w'' ((Kept.of_ext hw').trans ((Kept.of_below hb81).trans h))
  have ld85 := fun w'' (h : Kept Nil_ w81 w'') => ld78 w'' ((Kept.of_ext hw').trans ((Kept.of_below hb81).trans h))
  have ld86 := fun w'' (h : Kept Nil_ w81 w'') => ld79 w'' ((Kept.of_ext hw').trans ((Kept.of_below hb81).trans h))
  have ld87 := fun w'' (h : Kept Nil_ w81 w'') => ld80 w'' ((Kept.of_ext hw').trans ((Kept.of_below hb81).trans h))
  refine ⟨_, rfl, Kept.of_below hb81, ?_⟩
  clear hw' hb81
  have Y_81 := Lib.hid hy
  clear hy
  simp only [Act.put, List.setIfInBounds_toArray, List.set_cons_zero, List.set_cons_succ]
  apply wpR_call 12 (some 50)
  · simp only [List.getElem?_toArray, List.getElem?_cons_succ, List.getElem?_cons_zero]; exact rfl
  · rfl
  · kernel_rfl
  · rfl
  · intro w'; go_simp; first | done | exact ⟨rfl, rfl⟩ | with_reducible rfl
  intro w' hw'
  refine (HD3.out _ _ _ _ _ (X_81.out.bl hw') (Y_81.out.bl hw')).mono ?_
  rintro e w88 ⟨rfl, hb88⟩
  have Qd_88 := Lib.hid ((Qd_81.out.bl hw').bl hb88)
  have R1_88 := Lib.hid ((R1_81.out.bl hw').bl hb88)
  have S1_88 := Lib.hid ((S1_81.out.bl hw').bl hb88)
  have X_88 := Lib.hid ((X_81.out.bl hw').bl hb88)
  have Y_88 := Lib.hid ((Y_81.out.bl hw').bl hb88)
  have Bel_88 := Lib.hid (bel_bl (bel_bl Bel_81.out hw') hb88)
  have ld89 := fun w'' (h : Kept Nil_ w88 w'') => ld82 w'' ((Kept.of_ext hw').trans ((Kept.of_below hb88).trans h))
  have ld90 := fun w'' (h : Kept Nil_ w88 w'') => ld83 w'' ((Kept.of_ext hw').trans ((Kept.of_below hb88).trans h))
  have ld91 := fun w'' (h : Kept Nil_ w88 w'') => ld84 w'' ((Kept.of_ext hw').trans ((Kept.of_below hb88).trans h))
  have ld92 := fun w'' (h : Kept Nil_ w88 w'') => ld85 w'' ((Kept.of_ext hw').trans ((Kept.of_below hb88).trans h))
  have ld93 := fun w'' (h : Kept Nil_ w88 w'') => ld86 w'' ((Kept.of_ext hw').trans ((Kept.of_below hb88).trans h))
  have ld94 := fun w'' (h : Kept Nil_ w88 w'') => ld87 w'' ((Kept.of_ext hw').trans ((Kept.of_below hb88).trans h))
  refine ⟨_, rfl, Kept.of_below hb88, ?_⟩
  clear hw' hb88
  simp only [Act.put, List.setIfInBounds_toArray, List.set_cons_zero, List.set_cons_succ]
  apply wpR_next 13 (some 10)
  · simp only [List.getElem?_toArray, List.getElem?_cons_succ, List.getElem?_cons_zero]; exact rfl
  · rfl
  · kernel_rfl
  · kernel_rfl
  · kernel_rfl
  · exact fun _ _ _ _ h => h
  apply Exists.intro
  apply And.intro
  · apply yr_run; rfl; intro w' hw'; go_simp; (try with_reducible rfl)
  simp only [Act.put, List.setIfInBounds_toArray, List.set_cons_zero, List.set_cons_succ]
  refine wpR_done (by kernel_rfl) ?_ _
  intro w95 hw'
  have Qd_96 := Lib.hid (Qd_88.out.bl hw')
  have R1_96 := Lib.hid (R1_88.out.bl hw')
  have S1_96 := Lib.hid (S1_88.out.bl hw')
  have X_96 := Lib.hid (X_88.out.bl hw')
  have Y_96 := Lib.hid (Y_88.out.bl hw')
  have Bel_96 := Lib.hid (bel_bl Bel_88.out hw')
  clear hw'
  go_wp2_with fail
  refine (HS.out _ _ _ _ _ R1_96.out S1_96.out).mono ?_
  rintro e w97 ⟨rfl, hb97⟩
  have Qd_98 := Lib.hid (Qd_96.out.bl hb97)
  have R1_98 := Lib.hid (R1_96.out.bl hb97)
  have S1_98 := Lib.hid (S1_96.out.bl hb97)
  have Bel_98 := Lib.hid (bel_bl Bel_96.out hb97)
  clear hb97
  go_wp2_with fail
  refine (HSf.out _ _ _ _ _ R1_98.out S1_98.out).mono ?_
  rintro e w99 ⟨rfl, hb99⟩
  have Qd_100 := Lib.hid (Qd_98.out.bl hb99)
  have R1_100 := Lib.hid (R1_98.out.bl hb99)
  have S1_100 := Lib.hid (S1_98.out.bl hb99)
  have Bel_100 := Lib.hid (bel_bl Bel_98.out hb99)
  clear hb99
  go_wp2
  go_ret
  exact ⟨by simp, Bel_100.out⟩
end Go.Proofs.Ytgbkloilodgjfaa
