/- RingBack's walk. -/
import Derived.Test.YtgbkloilodgjfaaRgM
import Derived.Test.YtgbkloilodgjfaaRgJ
import Derived.Test.YtgbkloilodgjfaaCh
import Derived.Test.YtgbkloilodgjfaaOw2
namespace Go.Proofs.Ytgbkloilodgjfaa
open Go.RowKit
set_option linter.unusedSimpArgs false
set_option linter.unusedVariables false

set_option maxRecDepth 100000 in
set_option maxHeartbeats 4000000 in
theorem law_rback_e (A : Option Addr) (n c k : Nat) (t0 : Int) (L0 L : List D) (d e z : D) (w : World) (h : RdS w w.heap.size 3 A n c (dartsV L0)) (hn : n ≤ maxLen) (gL : onceD L0 = L)
    (hk : k < L.length) (gz : L.getD k (0, 0, 0) = z) (hat : (¬ 0 < t0 ∧ k = 0) ∨ ∃ a : Nat, t0 = (a : Int) ∧ 0 < (a : Int) ∧ (a : Int) % (L.length : Int) = (k : Int)) (hw : e ∈ L) (hd : ¬ d ∈ L) :
    Calls Try.prog 9 #[.slice A n c, .agg #[.int .i64 d.1, .int .i64 d.2.1, .int .i64 d.2.2, .int .i64 e.1, .int .i64 e.2.1, .int .i64 e.2.2], .int .i64 t0] w fun e w' => e = .returned (.bool true) ∧ Below w.heap.size w w' := by
  obtain ⟨i0, hi, hz0, hz1, hz2⟩ := info_parts info_dart
  have R0 := Lib.hid h
  obtain ⟨hl40, hnd⟩ := onceD_len L0
  rw [gL] at hl40 hnd
  have HAT := Lib.hid hat
  have hzL : z ∈ L := gz ▸ getD_mem hk
  have li := insR_len L d e
  have lr := remR_len (turnD (insR L d e)) e
  rw [turnD_length] at lr
  have ls := swpR_len L z e
  have lb := swpR_len (turnD (swpR L z e)) e z
  rw [turnD_length] at lb
  have lq := remR_len L d
  have hx2 := next_prev hnd hk
  rw [gz] at hx2
  have hm := turn_rot_at hnd k
  have hbb := rem_facts hnd d

  obtain ⟨n1, gn⟩ : ∃ v, L.length = v := ⟨_, rfl⟩
  have hne : ((n1 : Int) == 0) = false := by rw [← gn]; simp; rintro rfl; simp at hk
  have hne' : ¬ ((n1 : Int) = 0) := by rw [← gn]; omega
  have hne2 : ¬ (n1 = 0) := by omega
  rw [gn] at HAT
  have GZ := Lib.hid gz
  have HO : RowKit.Hid (∀ W, RdS W W.heap.size 3 A n c (dartsV L0) → Calls Try.prog 25 #[.slice A n c] W (GivesN W n1 L)) := Lib.hid (fun W h => givesN (gL ▸ once_any A n c L0 W h (by unfold maxLen at hn; omega)) gn)
  obtain ⟨TN, gTN⟩ : ∃ v, turnD (insR L d e) = v := ⟨_, rfl⟩
  obtain ⟨nN, gnN⟩ : ∃ v, TN.length = v := ⟨_, rfl⟩
  have HI := Lib.hid (fun A1 c1 W h => givesN (gTN ▸ rinsert_any A1 n1 c1 L d e W h (by omega)) gnN)
  have HX := Lib.hid (fun A1 c1 W h => rindex_any A1 n1 c1 L e W h (by omega))
  obtain ⟨x1, gx1⟩ : ∃ v, prevD TN e = v := ⟨_, rfl⟩
  obtain ⟨ok1, gok1⟩ : ∃ v, decide (e ∈ TN) = v := ⟨_, rfl⟩
  have hnN : nN ≤ 41 := by rw [← gnN, ← gTN, turnD_length]; omega
  have HP := Lib.hid (fun A1 c1 W h => rprev_any A1 nN c1 TN e W h (by omega))
  rw [gx1, gok1] at HP
  obtain ⟨TR, gTR⟩ : ∃ v, turnD (remR TN e) = v := ⟨_, rfl⟩
  obtain ⟨nR, gnR⟩ : ∃ v, TR.length = v := ⟨_, rfl⟩
  have hnR : nR ≤ 41 := by rw [← gnR, ← gTR, turnD_length, ← gTN]; omega
  have HR := Lib.hid (fun A1 c1 W h => givesN (gTR ▸ rremove_any A1 nN c1 TN e W h (by omega)) gnR)
  have HS1 := Lib.hid (fun A1 A2 c1 c2 W h1 h2 => same_any A1 A2 nR n1 c1 c2 TR L W h1 h2 (by omega) (by omega))
  have HXd := Lib.hid (fun A1 c1 W h => rindex_any A1 n1 c1 L d W h (by omega))
  obtain ⟨TS, gTS⟩ : ∃ v, turnD (swpR L z e) = v := ⟨_, rfl⟩
  obtain ⟨nS, gnS⟩ : ∃ v, TS.length = v := ⟨_, rfl⟩
  have hnS : nS ≤ 41 := by rw [← gnS, ← gTS, turnD_length]; omega
  have HW := Lib.hid (fun A1 c1 W h => givesN (gTS ▸ rswap_any A1 n1 c1 L z e W h (by omega)) gnS)
  obtain ⟨TB, gTB⟩ : ∃ v, turnD (swpR TS e z) = v := ⟨_, rfl⟩
  obtain ⟨nB, gnB⟩ : ∃ v, TB.length = v := ⟨_, rfl⟩
  have hnB : nB ≤ 42 := by rw [← gnB, ← gTB, turnD_length, ← gTS]; omega
  have HB := Lib.hid (fun A1 c1 W h => givesN (gTB ▸ rswap_any A1 nS c1 TS e z W h (by omega)) gnB)
  have HS2 := Lib.hid (fun A1 A2 c1 c2 W h1 h2 => same_any A1 A2 nB n1 c1 c2 TB L W h1 h2 (by omega) (by omega))
  have HXs := Lib.hid (fun A1 c1 W h => rindex_any A1 nS c1 TS z W h (by omega))
  obtain ⟨x2, gx2⟩ : ∃ v, nextD L z = v := ⟨_, rfl⟩
  obtain ⟨ok2, gok2⟩ : ∃ v, decide (z ∈ L) = v := ⟨_, rfl⟩
  obtain ⟨ok3, gok3⟩ : ∃ v, decide (x2 ∈ L) = v := ⟨_, rfl⟩
  have HN := Lib.hid (fun A1 c1 W h => rnext_any A1 n1 c1 L z W h (by omega))
  rw [gx2, gok2] at HN
  rw [gx2] at hx2
  have HV := Lib.hid (fun A1 c1 W h => rprev_any A1 n1 c1 L x2 W h (by omega))
  rw [hx2, gok3] at HV
  obtain ⟨M, gM⟩ : ∃ v, L.drop k ++ L.take k = v := ⟨_, rfl⟩
  have hMl : M.length = n1 := by rw [← gM]; simp; omega
  rw [gM] at hm
  have HSm := Lib.hid (fun A1 A2 c1 c2 W h1 h2 => same_any A1 A2 n1 n1 c1 c2 L M W h1 h2 (by omega) (by omega))
  rw [hm, decide_eq_true (rfl : turnD L = turnD L)] at HSm
  obtain ⟨TQ, gTQ⟩ : ∃ v, turnD (remR L d) = v := ⟨_, rfl⟩
  obtain ⟨nQ, gnQ⟩ : ∃ v, TQ.length = v := ⟨_, rfl⟩
  have hnQ : nQ ≤ 41 := by rw [← gnQ, ← gTQ, turnD_length]; omega
  have HQ := Lib.hid (fun A1 c1 W h => givesN (gTQ ▸ rremove_any A1 n1 c1 L d W h (by omega)) gnQ)
  have HS3 := Lib.hid (fun A1 A2 c1 c2 W h1 h2 => same_any A1 A2 nQ n1 c1 c2 TQ L W h1 h2 (by omega) (by omega))
  rw [gTQ] at hbb
  rw [hbb] at HS3
  rw [(idxD_mem hw).1] at HX
  obtain ⟨je, gje⟩ : ∃ v, L.idxOf e = v := ⟨_, rfl⟩
  rw [gje] at HX
  rw [idxD_no hd] at HXd
  rw [decide_eq_true hd] at HS3
  have hq := fun W => eq_dart_run z z W
  have hqd := fun W => eq_dart_run d d W
  rw [show decide (z = z) = true from decide_eq_true rfl] at hq
  rw [show decide (d = d) = true from decide_eq_true rfl] at hqd
  rw [gn] at hk
  have hkn : k ≤ n1 := by omega
  have hl40' : n1 ≤ 40 := by omega
  have HM := Lib.hid gM
  clear h hn gL gn gTN gnN gTR gnR gTS gnS gTB gnB gTQ gnQ gx1 gok1 gx2 gok2 gok3 hx2 hm hbb hat hzL li lr ls lb lq gz hnd hl40 hMl gM hw hd gje 
  go_enter Try.func9, Try.ntmps9
  go_wp2_with fail
  refine (rg_shown _).mono ?_
  rintro e w1 ⟨rfl, hb1⟩
  have R0_2 := Lib.hid ((R0.out.al (.cells #[.int .i64 d.1, .int .i64 d.2.1, .int .i64 d.2.2, .int .i64 e.1, .int .i64 e.2.1, .int .i64 e.2.2] 53)).bl hb1)
  have Qd_2 := Lib.hid ((show Whole (w.alloc (.cells #[.int .i64 d.1, .int .i64 d.2.1, .int .i64 d.2.2, .int .i64 e.1, .int .i64 e.2.1, .int .i64 e.2.2] 53)) (w.heap.size) (53) (dartsV [d, e]) from Whole.new2 (by first | rfl | simp)).bl hb1)
  have Bel_2 := Lib.hid (bel_bl (bel_al (Below.refl _ w) (.cells #[.int .i64 d.1, .int .i64 d.2.1, .int .i64 d.2.2, .int .i64 e.1, .int .i64 e.2.1, .int .i64 e.2.2] 53)) hb1)
  clear hb1
  go_wp2_with fail
  refine (HO.out _ R0_2.out).mono ?_
  rintro e w3 ⟨A1, c1, rfl, hr1, hb3⟩
  have R0_4 := Lib.hid (R0_2.out.bl hb3)
  have Qd_4 := Lib.hid (Qd_2.out.bl hb3)
  have Bel_4 := Lib.hid (bel_bl Bel_2.out hb3)
  clear hb3
  have R1_4 := Lib.hid hr1
  clear hr1
  obtain ⟨b, off, rfl, _, _⟩ := R1_4.out.darts (by omega)
  go_upto_if 35 with fail
  go_cut [8] (fun v x => v = .int .i64 (k : Int) ∧ x = w3)
  case first =>
    rcases HAT.out with ⟨h0, rfl⟩ | ⟨a, rfl, h0, hm⟩
    · go_wp2
      go_meet
      exact ⟨rfl, rfl⟩
    · go_wp2
      go_meet
      exact ⟨by rw [hm], rfl⟩
  case rest =>
  obtain ⟨rfl, hcw⟩ := hcut
  replace hcw := hcw.symm
  subst hcw
  obtain ⟨X1, hs1, hx1⟩ := sl_l (some ⟨b, off, none⟩) n1 c1 k hkn R1_4.out.le
  obtain ⟨X2, hs2, hx2⟩ := sl_h (some ⟨b, off, none⟩) n1 c1 k hkn R1_4.out.le
  have RX1 := Lib.hid (fun W B => hx1 W B L)
  have RX2 := Lib.hid (fun W B => hx2 W B L)
  clear hx1 hx2
  go_upto_region 8 with fail
  have Qd_5 := Lib.hid (Qd_4.out.dr)
  have R1_5 := Lib.hid (R1_4.out.dr)
  have Bel_5 := Lib.hid (bel_dr Bel_4.out)
  refine wp_region_reg (From_ w3.drew.heap.size) (by kernel_rfl) ?_
  obtain ⟨y, gy⟩ : ∃ y, w3.drew = y := ⟨_, rfl⟩
  rw [gy] at Qd_5 R1_5 Bel_5 ⊢
  clear gy
  apply wpR_next 1 (some 41)
  · simp only [List.getElem?_toArray, List.getElem?_cons_succ, List.getElem?_cons_zero]; exact rfl
  · rfl
  · kernel_rfl
  · kernel_rfl
  · kernel_rfl
  · exact fun _ _ _ _ h => h
  apply Exists.intro
  apply And.intro
  · apply yr_run; rfl; intro w' hw'; go_simp; (try with_reducible rfl)
  simp only [Act.put, List.setIfInBounds_toArray, List.set_cons_zero, List.set_cons_succ]
  apply wpR_next 2 (some 42)
  · simp only [List.getElem?_toArray, List.getElem?_cons_succ, List.getElem?_cons_zero]; exact rfl
  · rfl
  · kernel_rfl
  · kernel_rfl
  · kernel_rfl
  · exact fun _ _ _ _ h => h
  apply Exists.intro
  apply And.intro
  · apply yr_run; rfl; intro w' hw'; go_simp; (try with_reducible rfl)
  simp only [Act.put, List.setIfInBounds_toArray, List.set_cons_zero, List.set_cons_succ]
  apply wpR_next 3 (some 43)
  · simp only [List.getElem?_toArray, List.getElem?_cons_succ, List.getElem?_cons_zero]; exact rfl
  · rfl
  · kernel_rfl
  · kernel_rfl
  · kernel_rfl
  · exact fun _ _ _ _ h => h
  apply Exists.intro
  apply And.intro
  · apply yr_run; rfl; intro w' hw'; go_simp; (try with_reducible rfl)
  simp only [Act.put, List.setIfInBounds_toArray, List.set_cons_zero, List.set_cons_succ]
  apply wpR_next 5 (some 45)
  · simp only [List.getElem?_toArray, List.getElem?_cons_succ, List.getElem?_cons_zero]; exact rfl
  · rfl
  · kernel_rfl
  · kernel_rfl
  · kernel_rfl
  · exact fun _ _ _ _ h => h
  apply Exists.intro
  apply And.intro
  · apply yr_run; rfl; intro w' hw'; go_simp; (try with_reducible rfl)
  simp only [Act.put, List.setIfInBounds_toArray, List.set_cons_zero, List.set_cons_succ]
  apply wpR_next 6 (some 46)
  · simp only [List.getElem?_toArray, List.getElem?_cons_succ, List.getElem?_cons_zero]; exact rfl
  · rfl
  · kernel_rfl
  · kernel_rfl
  · kernel_rfl
  · exact fun _ _ _ _ h => h
  apply Exists.intro
  apply And.intro
  · apply yr_run; rfl; intro w' hw'; go_simp; (try with_reducible rfl)
  simp only [Act.put, List.setIfInBounds_toArray, List.set_cons_zero, List.set_cons_succ]
  apply wpR_next 7 (some 47)
  · simp only [List.getElem?_toArray, List.getElem?_cons_succ, List.getElem?_cons_zero]; exact rfl
  · rfl
  · kernel_rfl
  · kernel_rfl
  · kernel_rfl
  · exact fun _ _ _ _ h => h
  apply Exists.intro
  apply And.intro
  · apply yr_run; rfl; intro w' hw'; go_simp; (try with_reducible rfl)
  simp only [Act.put, List.setIfInBounds_toArray, List.set_cons_zero, List.set_cons_succ]
  apply wpR_run 0 (some 40)
  · simp only [List.getElem?_toArray, List.getElem?_cons_succ, List.getElem?_cons_zero]; exact rfl
  · rfl
  · kernel_rfl
  · rfl
  intro w' hw'
  apply Exists.intro
  apply Exists.intro
  apply And.intro
  · go_simp; exact ⟨rfl, rfl⟩
  apply And.intro
  · exact Kept.of_below (below1 _ _)
  have HO0 : RowKit.Hid (Ow y y.heap.size 46 3 (.slice (some ⟨w'.heap.size, 0, none⟩) 0 0) 0 [] (w'.alloc (.cells #[] 46))) := Lib.hid (Ow.new_ (cs := #[]) hw' (Nat.le_refl _) hw'.size (Nat.zero_le _) rfl)
  obtain ⟨v1, gv1⟩ : ∃ x, w'.alloc (.cells #[] 46) = x := ⟨_, rfl⟩
  obtain ⟨g1, gg1⟩ : ∃ x, w'.heap.size = x := ⟨_, rfl⟩
  rw [gv1, gg1] at HO0
  rw [gv1, gg1]
  clear gv1 gg1 hw'
  simp only [Act.put, List.setIfInBounds_toArray, List.set_cons_zero, List.set_cons_succ]
  apply wpR_run 4 (some 44)
  · simp only [List.getElem?_toArray, List.getElem?_cons_succ, List.getElem?_cons_zero]; exact rfl
  · rfl
  · kernel_rfl
  · rfl
  intro w' hw'
  obtain ⟨vaHO1, waHO1, hrun, hOA, hbA⟩ := Ow.app (P := Try.prog) 42 42 46 i0 _ 3 24 y.heap.size Try.underlying42 hi hz0 hz1 hz2 rfl (by decide) _ _ _ (HO0.out.up hw') _ _ _ _ _ (RX1.out _ _ (R1_5.out.up (HO0.out.up hw').below (HO0.out.up hw').below.size)) (dartsV_one _) (by unfold maxLen; omega) (by omega)
  have HO1 := Lib.hid hOA
  refine ⟨_, waHO1, exec_append rfl rfl rfl hrun, Kept.of_from hbA, ?_⟩
  clear hrun hOA hbA hw'
  simp only [Act.put, List.setIfInBounds_toArray, List.set_cons_zero, List.set_cons_succ]
  apply wpR_run 8 (some 48)
  · simp only [List.getElem?_toArray, List.getElem?_cons_succ, List.getElem?_cons_zero]; exact rfl
  · rfl
  · kernel_rfl
  · rfl
  intro w' hw'
  obtain ⟨vaHO2, waHO2, hrun, hOA, hbA⟩ := Ow.app (P := Try.prog) 42 42 46 i0 _ 3 24 y.heap.size Try.underlying42 hi hz0 hz1 hz2 rfl (by decide) _ _ _ (HO1.out.up hw') _ _ _ _ _ (RX2.out _ _ (R1_5.out.up (HO1.out.up hw').below (HO1.out.up hw').below.size)) (dartsV_one _) (by unfold maxLen; omega) (by omega)
  have HO2 := Lib.hid hOA
  refine ⟨_, waHO2, exec_append rfl rfl rfl hrun, Kept.of_from hbA, ?_⟩
  clear hrun hOA hbA hw'
  simp only [Act.put, List.setIfInBounds_toArray, List.set_cons_zero, List.set_cons_succ]
  apply wpR_next 9 (some 9)
  · simp only [List.getElem?_toArray, List.getElem?_cons_succ, List.getElem?_cons_zero]; exact rfl
  · rfl
  · kernel_rfl
  · kernel_rfl
  · kernel_rfl
  · exact fun _ _ _ _ h => h
  apply Exists.intro
  apply And.intro
  · apply yr_run; rfl; intro w' hw'; go_simp; (try with_reducible rfl)
  simp only [Act.put, List.setIfInBounds_toArray, List.set_cons_zero, List.set_cons_succ]
  refine wpR_done (by kernel_rfl) ?_ _
  intro w9 hw'
  have HO3 := Lib.hid (HO2.out.up hw')
  clear HO0 HO1 HO2 hw'
  have hb9 := HO3.out.below
  obtain ⟨A2, c2, hv2, hr2⟩ := HO3.out.rds
  rw [List.nil_append, ← dartsV_app, HM.out] at hr2
  rw [show 0 + (n1 - k) + k = n1 by omega] at hr2 hv2
  subst hv2
  have Qd_6 := Lib.hid (Qd_5.out.bl hb9)
  have R1_6 := Lib.hid (R1_5.out.bl hb9)
  have Bel_6 := Lib.hid (bel_bl Bel_5.out hb9)
  clear hb9 HO3
  have R2_7 := Lib.hid (hr2)
  clear hr2
  have lw9 : (w9).cell? ⟨w.heap.size, 0, none⟩ = some (.int .i64 d.1) := Qd_6.out.cell (i := 0) rfl
  have lw10 : (w9).cell? ⟨w.heap.size, 1, none⟩ = some (.int .i64 d.2.1) := Qd_6.out.cell (i := 1) rfl
  have lw11 : (w9).cell? ⟨w.heap.size, 2, none⟩ = some (.int .i64 d.2.2) := Qd_6.out.cell (i := 2) rfl
  have lw12 : (w9).cell? ⟨w.heap.size, 3, none⟩ = some (.int .i64 e.1) := Qd_6.out.cell (i := 3) rfl
  have lw13 : (w9).cell? ⟨w.heap.size, 4, none⟩ = some (.int .i64 e.2.1) := Qd_6.out.cell (i := 4) rfl
  have lw14 : (w9).cell? ⟨w.heap.size, 5, none⟩ = some (.int .i64 e.2.2) := Qd_6.out.cell (i := 5) rfl
  go_wp2_with fail
  clear lw9 lw10 lw11 lw12 lw13 lw14
  refine (HI.out _ _ _ R1_6.out).mono ?_
  rintro e w8 ⟨A3, c3, rfl, hr3, hb8⟩
  have Qd_15 := Lib.hid (Qd_6.out.bl hb8)
  have R1_15 := Lib.hid (R1_6.out.bl hb8)
  have R2_15 := Lib.hid (R2_7.out.bl hb8)
  have Bel_15 := Lib.hid (bel_bl Bel_6.out hb8)
  clear hb8
  have RN_15 := Lib.hid hr3
  clear hr3
  have lw17 : (w8).cell? ⟨w.heap.size, 3, none⟩ = some (.int .i64 e.1) := Qd_15.out.cell (i := 3) rfl
  have lw18 : (w8).cell? ⟨w.heap.size, 4, none⟩ = some (.int .i64 e.2.1) := Qd_15.out.cell (i := 4) rfl
  have lw19 : (w8).cell? ⟨w.heap.size, 5, none⟩ = some (.int .i64 e.2.2) := Qd_15.out.cell (i := 5) rfl
  go_wp2_with fail
  clear lw17 lw18 lw19
  refine (HX.out _ _ _ R1_15.out).mono ?_
  rintro e w16 ⟨rfl, hb16⟩
  have Qd_20 := Lib.hid (Qd_15.out.bl hb16)
  have R1_20 := Lib.hid (R1_15.out.bl hb16)
  have R2_20 := Lib.hid (R2_15.out.bl hb16)
  have RN_20 := Lib.hid (RN_15.out.bl hb16)
  have Bel_20 := Lib.hid (bel_bl Bel_15.out hb16)
  clear hb16
  have lw22 : (w16).cell? ⟨w.heap.size, 3, none⟩ = some (.int .i64 e.1) := Qd_20.out.cell (i := 3) rfl
  have lw23 : (w16).cell? ⟨w.heap.size, 4, none⟩ = some (.int .i64 e.2.1) := Qd_20.out.cell (i := 4) rfl
  have lw24 : (w16).cell? ⟨w.heap.size, 5, none⟩ = some (.int .i64 e.2.2) := Qd_20.out.cell (i := 5) rfl
  go_wp2_with fail
  clear lw22 lw23 lw24
  refine (HP.out _ _ _ RN_20.out).mono ?_
  rintro e w21 ⟨rfl, hb21⟩
  have Qd_25 := Lib.hid (Qd_20.out.bl hb21)
  have R1_25 := Lib.hid (R1_20.out.bl hb21)
  have R2_25 := Lib.hid (R2_20.out.bl hb21)
  have RN_25 := Lib.hid (RN_20.out.bl hb21)
  have Bel_25 := Lib.hid (bel_bl Bel_20.out hb21)
  clear hb21
  go_upto_region 13 with fail
  have Qd_26 := Lib.hid ((Qd_25.out.al (.cells #[.int .i64 x1.1, .int .i64 x1.2.1, .int .i64 x1.2.2] 46)))
  have R1_26 := Lib.hid ((R1_25.out.al (.cells #[.int .i64 x1.1, .int .i64 x1.2.1, .int .i64 x1.2.2] 46)))
  have R2_26 := Lib.hid ((R2_25.out.al (.cells #[.int .i64 x1.1, .int .i64 x1.2.1, .int .i64 x1.2.2] 46)))
  have RN_26 := Lib.hid ((RN_25.out.al (.cells #[.int .i64 x1.1, .int .i64 x1.2.1, .int .i64 x1.2.2] 46)))
  have Qp_26 := Lib.hid ((show Whole (w21.alloc (.cells #[.int .i64 x1.1, .int .i64 x1.2.1, .int .i64 x1.2.2] 46)) (w21.heap.size) (46) (dartsV [x1]) from Whole.new2 (by first | rfl | simp)))
  have Bel_26 := Lib.hid (bel_al Bel_25.out (.cells #[.int .i64 x1.1, .int .i64 x1.2.1, .int .i64 x1.2.2] 46))
  obtain ⟨v26, gv26⟩ : ∃ x, (w21.alloc (.cells #[.int .i64 x1.1, .int .i64 x1.2.1, .int .i64 x1.2.2] 46)) = x := ⟨_, rfl⟩
  rw [gv26] at Qd_26 R1_26 R2_26 RN_26 Qp_26 Bel_26 ⊢
  clear gv26
  have Qd_27 := Lib.hid (Qd_26.out.dr)
  have R1_27 := Lib.hid (R1_26.out.dr)
  have R2_27 := Lib.hid (R2_26.out.dr)
  have RN_27 := Lib.hid (RN_26.out.dr)
  have Qp_27 := Lib.hid (Qp_26.out.dr)
  have Bel_27 := Lib.hid (bel_dr Bel_26.out)
  have ld28 : ∀ w', Kept Nil_ v26.drew w' → w'.cell? ⟨b, off + k * 3, none⟩ = some (.int .i64 z.1) := fun w' h => h.nil_cell ((R1_27.out.dat hk GZ.out).1)
  have ld29 : ∀ w', Kept Nil_ v26.drew w' → w'.cell? ⟨b, off + k * 3 + 1, none⟩ = some (.int .i64 z.2.1) := fun w' h => h.nil_cell ((R1_27.out.dat hk GZ.out).2.1)
  have ld30 : ∀ w', Kept Nil_ v26.drew w' → w'.cell? ⟨b, off + k * 3 + 2, none⟩ = some (.int .i64 z.2.2) := fun w' h => h.nil_cell ((R1_27.out.dat hk GZ.out).2.2)
  have ld31 : ∀ w', Kept Nil_ v26.drew w' → w'.cell? ⟨w.heap.size, 3, none⟩ = some (.int .i64 e.1) := fun w' h => h.nil_cell (Qd_27.out.cell (i := 3) rfl)
  have ld32 : ∀ w', Kept Nil_ v26.drew w' → w'.cell? ⟨w.heap.size, 4, none⟩ = some (.int .i64 e.2.1) := fun w' h => h.nil_cell (Qd_27.out.cell (i := 4) rfl)
  have ld33 : ∀ w', Kept Nil_ v26.drew w' → w'.cell? ⟨w.heap.size, 5, none⟩ = some (.int .i64 e.2.2) := fun w' h => h.nil_cell (Qd_27.out.cell (i := 5) rfl)
  refine wp_region_reg Nil_ (by kernel_rfl) ?_
  apply wpR_next 0 (some 97)
  · simp only [List.getElem?_toArray, List.getElem?_cons_succ, List.getElem?_cons_zero]; exact rfl
  · rfl
  · kernel_rfl
  · kernel_rfl
  · kernel_rfl
  · exact fun _ _ _ _ h => h
  apply Exists.intro
  apply And.intro
  · apply yr_run; rfl; intro w' hw'; go_simp; (try with_reducible rfl)
  simp only [Act.put, List.setIfInBounds_toArray, List.set_cons_zero, List.set_cons_succ]
  apply wpR_next 1 (some 98)
  · simp only [List.getElem?_toArray, List.getElem?_cons_succ, List.getElem?_cons_zero]; exact rfl
  · rfl
  · kernel_rfl
  · kernel_rfl
  · kernel_rfl
  · exact fun _ _ _ _ h => h
  apply Exists.intro
  apply And.intro
  · apply yr_run; rfl; intro w' hw'; go_simp; (try with_reducible rfl)
  simp only [Act.put, List.setIfInBounds_toArray, List.set_cons_zero, List.set_cons_succ]
  apply wpR_next 2 (some 99)
  · simp only [List.getElem?_toArray, List.getElem?_cons_succ, List.getElem?_cons_zero]; exact rfl
  · rfl
  · kernel_rfl
  · kernel_rfl
  · kernel_rfl
  · exact fun _ _ _ _ h => h
  apply Exists.intro
  apply And.intro
  · apply yr_run; rfl; intro w' hw'; go_simp; (try with_reducible rfl)
  simp only [Act.put, List.setIfInBounds_toArray, List.set_cons_zero, List.set_cons_succ]
  apply wpR_next 3 (some 100)
  · simp only [List.getElem?_toArray, List.getElem?_cons_succ, List.getElem?_cons_zero]; exact rfl
  · rfl
  · kernel_rfl
  · kernel_rfl
  · kernel_rfl
  · exact fun _ _ _ _ h => h
  apply Exists.intro
  apply And.intro
  · apply yr_run; rfl; intro w' hw'; go_simp; (try with_reducible rfl)
  simp only [Act.put, List.setIfInBounds_toArray, List.set_cons_zero, List.set_cons_succ]
  apply wpR_next 4 (some 101)
  · simp only [List.getElem?_toArray, List.getElem?_cons_succ, List.getElem?_cons_zero]; exact rfl
  · rfl
  · kernel_rfl
  · kernel_rfl
  · kernel_rfl
  · exact fun _ _ _ _ h => h
  apply Exists.intro
  apply And.intro
  · apply yr_run; rfl; intro w' hw'; go_simp; (try with_reducible rfl)
  simp only [Act.put, List.setIfInBounds_toArray, List.set_cons_zero, List.set_cons_succ]
  apply wpR_next 5 (some 102)
  · simp only [List.getElem?_toArray, List.getElem?_cons_succ, List.getElem?_cons_zero]; exact rfl
  · rfl
  · kernel_rfl
  · kernel_rfl
  · kernel_rfl
  · exact fun _ _ _ _ h => h
  apply Exists.intro
  apply And.intro
  · apply yr_run; rfl; intro w' hw'; go_simp; (try with_reducible rfl)
  simp only [Act.put, List.setIfInBounds_toArray, List.set_cons_zero, List.set_cons_succ]
  apply wpR_next 6 (some 103)
  · simp only [List.getElem?_toArray, List.getElem?_cons_succ, List.getElem?_cons_zero]; exact rfl
  · rfl
  · kernel_rfl
  · kernel_rfl
  · kernel_rfl
  · exact fun _ _ _ _ h => h
  apply Exists.intro
  apply And.intro
  · apply yr_run; rfl; intro w' hw'; go_simp; (try with_reducible rfl)
  simp only [Act.put, List.setIfInBounds_toArray, List.set_cons_zero, List.set_cons_succ]
  apply wpR_call 7 (some 104)
  · simp only [List.getElem?_toArray, List.getElem?_cons_succ, List.getElem?_cons_zero]; exact rfl
  · rfl
  · kernel_rfl
  · rfl
  · intro w'; go_simp; first | done | exact ⟨rfl, rfl⟩ | with_reducible rfl
  intro w' hw'
  refine (HW.out _ _ _ (R1_27.out.bl hw')).mono ?_
  rintro e w34 ⟨A5, c5, rfl, hr5, hb34⟩
  have Qd_34 := Lib.hid ((Qd_27.out.bl hw').bl hb34)
  have R1_34 := Lib.hid ((R1_27.out.bl hw').bl hb34)
  have R2_34 := Lib.hid ((R2_27.out.bl hw').bl hb34)
  have RN_34 := Lib.hid ((RN_27.out.bl hw').bl hb34)
  have Qp_34 := Lib.hid ((Qp_27.out.bl hw').bl hb34)
  have Bel_34 := Lib.hid (bel_bl (bel_bl Bel_27.out hw') hb34)
  have ld35 := fun w'' (h : Kept Nil_ w34 w'') => ld28 w'' ((Kept.of_ext hw').trans ((Kept.of_below hb34).trans h))
  have ld36 := fun w'' (h : Kept Nil_ w34 w'') => ld29 w'' ((Kept.of_ext hw').trans ((Kept.of_below hb34).trans h))
  have ld37 := fun w'' (h : Kept Nil_ w34 w'') => ld30 w'' ((Kept.of_ext hw').trans ((Kept.of_below hb34).trans h))
  have ld38 := fun w'' (h : Kept Nil_ w34 w'') => ld31 w'' ((Kept.of_ext hw').trans ((Kept.of_below hb34).trans h))
  have ld39 := fun w'' (h : Kept Nil_ w34 w'') => ld32 w'' ((Kept.of_ext hw').trans ((Kept.of_below hb34).trans h))
  have ld40 := fun w'' (h : Kept Nil_ w34 w'') => ld33 w'' ((Kept.of_ext hw').trans ((Kept.of_below hb34).trans h))
  refine ⟨_, rfl, Kept.of_below hb34, ?_⟩
  clear hw' hb34
  have RS_34 := Lib.hid hr5
  clear hr5
  simp only [Act.put, List.setIfInBounds_toArray, List.set_cons_zero, List.set_cons_succ]
  apply wpR_next 8 (some 15)
  · simp only [List.getElem?_toArray, List.getElem?_cons_succ, List.getElem?_cons_zero]; exact rfl
  · rfl
  · kernel_rfl
  · kernel_rfl
  · kernel_rfl
  · exact fun _ _ _ _ h => h
  apply Exists.intro
  apply And.intro
  · apply yr_run; rfl; intro w' hw'; go_simp; (try with_reducible rfl)
  simp only [Act.put, List.setIfInBounds_toArray, List.set_cons_zero, List.set_cons_succ]
  refine wpR_done (by kernel_rfl) ?_ _
  intro w41 hw'
  have Qd_42 := Lib.hid (Qd_34.out.bl hw')
  have R1_42 := Lib.hid (R1_34.out.bl hw')
  have R2_42 := Lib.hid (R2_34.out.bl hw')
  have RN_42 := Lib.hid (RN_34.out.bl hw')
  have Qp_42 := Lib.hid (Qp_34.out.bl hw')
  have RS_42 := Lib.hid (RS_34.out.bl hw')
  have Bel_42 := Lib.hid (bel_bl Bel_34.out hw')
  clear hw'
  go_upto_region 14 with fail
  have Qd_43 := Lib.hid (Qd_42.out.dr)
  have R1_43 := Lib.hid (R1_42.out.dr)
  have R2_43 := Lib.hid (R2_42.out.dr)
  have RN_43 := Lib.hid (RN_42.out.dr)
  have Qp_43 := Lib.hid (Qp_42.out.dr)
  have RS_43 := Lib.hid (RS_42.out.dr)
  have Bel_43 := Lib.hid (bel_dr Bel_42.out)
  have ld44 : ∀ w', Kept Nil_ w41.drew w' → w'.cell? ⟨b, off + k * 3, none⟩ = some (.int .i64 z.1) := fun w' h => h.nil_cell ((R1_43.out.dat hk GZ.out).1)
  have ld45 : ∀ w', Kept Nil_ w41.drew w' → w'.cell? ⟨b, off + k * 3 + 1, none⟩ = some (.int .i64 z.2.1) := fun w' h => h.nil_cell ((R1_43.out.dat hk GZ.out).2.1)
  have ld46 : ∀ w', Kept Nil_ w41.drew w' → w'.cell? ⟨b, off + k * 3 + 2, none⟩ = some (.int .i64 z.2.2) := fun w' h => h.nil_cell ((R1_43.out.dat hk GZ.out).2.2)
  have ld47 : ∀ w', Kept Nil_ w41.drew w' → w'.cell? ⟨w.heap.size, 3, none⟩ = some (.int .i64 e.1) := fun w' h => h.nil_cell (Qd_43.out.cell (i := 3) rfl)
  have ld48 : ∀ w', Kept Nil_ w41.drew w' → w'.cell? ⟨w.heap.size, 4, none⟩ = some (.int .i64 e.2.1) := fun w' h => h.nil_cell (Qd_43.out.cell (i := 4) rfl)
  have ld49 : ∀ w', Kept Nil_ w41.drew w' → w'.cell? ⟨w.heap.size, 5, none⟩ = some (.int .i64 e.2.2) := fun w' h => h.nil_cell (Qd_43.out.cell (i := 5) rfl)
  refine wp_region_reg Nil_ (by kernel_rfl) ?_
  apply wpR_next 0 (some 105)
  · simp only [List.getElem?_toArray, List.getElem?_cons_succ, List.getElem?_cons_zero]; exact rfl
  · rfl
  · kernel_rfl
  · kernel_rfl
  · kernel_rfl
  · exact fun _ _ _ _ h => h
  apply Exists.intro
  apply And.intro
  · apply yr_run; rfl; intro w' hw'; go_simp; (try with_reducible rfl)
  simp only [Act.put, List.setIfInBounds_toArray, List.set_cons_zero, List.set_cons_succ]
  apply wpR_next 1 (some 106)
  · simp only [List.getElem?_toArray, List.getElem?_cons_succ, List.getElem?_cons_zero]; exact rfl
  · rfl
  · kernel_rfl
  · kernel_rfl
  · kernel_rfl
  · exact fun _ _ _ _ h => h
  apply Exists.intro
  apply And.intro
  · apply yr_run; rfl; intro w' hw'; go_simp; (try with_reducible rfl)
  simp only [Act.put, List.setIfInBounds_toArray, List.set_cons_zero, List.set_cons_succ]
  apply wpR_next 2 (some 107)
  · simp only [List.getElem?_toArray, List.getElem?_cons_succ, List.getElem?_cons_zero]; exact rfl
  · rfl
  · kernel_rfl
  · kernel_rfl
  · kernel_rfl
  · exact fun _ _ _ _ h => h
  apply Exists.intro
  apply And.intro
  · exact yr_skip (by rfl)
  simp only [Act.put, List.setIfInBounds_toArray, List.set_cons_zero, List.set_cons_succ]
  apply wpR_next 3 (some 108)
  · simp only [List.getElem?_toArray, List.getElem?_cons_succ, List.getElem?_cons_zero]; exact rfl
  · rfl
  · kernel_rfl
  · kernel_rfl
  · kernel_rfl
  · exact fun _ _ _ _ h => h
  apply Exists.intro
  apply And.intro
  · exact yr_skip (by rfl)
  simp only [Act.put, List.setIfInBounds_toArray, List.set_cons_zero, List.set_cons_succ]
  apply wpR_next 4 (some 109)
  · simp only [List.getElem?_toArray, List.getElem?_cons_succ, List.getElem?_cons_zero]; exact rfl
  · rfl
  · kernel_rfl
  · kernel_rfl
  · kernel_rfl
  · exact fun _ _ _ _ h => h
  apply Exists.intro
  apply And.intro
  · exact yr_skip (by rfl)
  simp only [Act.put, List.setIfInBounds_toArray, List.set_cons_zero, List.set_cons_succ]
  apply wpR_next 5 (some 110)
  · simp only [List.getElem?_toArray, List.getElem?_cons_succ, List.getElem?_cons_zero]; exact rfl
  · rfl
  · kernel_rfl
  · kernel_rfl
  · kernel_rfl
  · exact fun _ _ _ _ h => h
  apply Exists.intro
  apply And.intro
  · exact yr_skip (by rfl)
  simp only [Act.put, List.setIfInBounds_toArray, List.set_cons_zero, List.set_cons_succ]
  apply wpR_next 6 (some 111)
  · simp only [List.getElem?_toArray, List.getElem?_cons_succ, List.getElem?_cons_zero]; exact rfl
  · rfl
  · kernel_rfl
  · kernel_rfl
  · kernel_rfl
  · exact fun _ _ _ _ h => h
  apply Exists.intro
  apply And.intro
  · exact yr_skip (by rfl)
  simp only [Act.put, List.setIfInBounds_toArray, List.set_cons_zero, List.set_cons_succ]
  apply wpR_next 7 (some 112)
  · simp only [List.getElem?_toArray, List.getElem?_cons_succ, List.getElem?_cons_zero]; exact rfl
  · rfl
  · kernel_rfl
  · kernel_rfl
  · kernel_rfl
  · exact fun _ _ _ _ h => h
  apply Exists.intro
  apply And.intro
  · exact yr_skip (by rfl)
  simp only [Act.put, List.setIfInBounds_toArray, List.set_cons_zero, List.set_cons_succ]
  apply wpR_next 8 (some 113)
  · simp only [List.getElem?_toArray, List.getElem?_cons_succ, List.getElem?_cons_zero]; exact rfl
  · rfl
  · kernel_rfl
  · kernel_rfl
  · kernel_rfl
  · exact fun _ _ _ _ h => h
  apply Exists.intro
  apply And.intro
  · exact yr_skip (by rfl)
  simp only [Act.put, List.setIfInBounds_toArray, List.set_cons_zero, List.set_cons_succ]
  apply wpR_next 9 (some 114)
  · simp only [List.getElem?_toArray, List.getElem?_cons_succ, List.getElem?_cons_zero]; exact rfl
  · rfl
  · kernel_rfl
  · kernel_rfl
  · kernel_rfl
  · exact fun _ _ _ _ h => h
  apply Exists.intro
  apply And.intro
  · exact yr_skip (by rfl)
  simp only [Act.put, List.setIfInBounds_toArray, List.set_cons_zero, List.set_cons_succ]
  apply wpR_next 10 (some 115)
  · simp only [List.getElem?_toArray, List.getElem?_cons_succ, List.getElem?_cons_zero]; exact rfl
  · rfl
  · kernel_rfl
  · kernel_rfl
  · kernel_rfl
  · exact fun _ _ _ _ h => h
  apply Exists.intro
  apply And.intro
  · exact yr_skip (by rfl)
  simp only [Act.put, List.setIfInBounds_toArray, List.set_cons_zero, List.set_cons_succ]
  apply wpR_next 11 (some 116)
  · simp only [List.getElem?_toArray, List.getElem?_cons_succ, List.getElem?_cons_zero]; exact rfl
  · rfl
  · kernel_rfl
  · kernel_rfl
  · kernel_rfl
  · exact fun _ _ _ _ h => h
  apply Exists.intro
  apply And.intro
  · exact yr_skip (by rfl)
  simp only [Act.put, List.setIfInBounds_toArray, List.set_cons_zero, List.set_cons_succ]
  apply wpR_next 12 (some 117)
  · simp only [List.getElem?_toArray, List.getElem?_cons_succ, List.getElem?_cons_zero]; exact rfl
  · rfl
  · kernel_rfl
  · kernel_rfl
  · kernel_rfl
  · exact fun _ _ _ _ h => h
  apply Exists.intro
  apply And.intro
  · exact yr_skip (by rfl)
  simp only [Act.put, List.setIfInBounds_toArray, List.set_cons_zero, List.set_cons_succ]
  apply wpR_next 13 (some 118)
  · simp only [List.getElem?_toArray, List.getElem?_cons_succ, List.getElem?_cons_zero]; exact rfl
  · rfl
  · kernel_rfl
  · kernel_rfl
  · kernel_rfl
  · exact fun _ _ _ _ h => h
  apply Exists.intro
  apply And.intro
  · exact yr_skip (by rfl)
  simp only [Act.put, List.setIfInBounds_toArray, List.set_cons_zero, List.set_cons_succ]
  apply wpR_next 14 (some 119)
  · simp only [List.getElem?_toArray, List.getElem?_cons_succ, List.getElem?_cons_zero]; exact rfl
  · rfl
  · kernel_rfl
  · kernel_rfl
  · kernel_rfl
  · exact fun _ _ _ _ h => h
  apply Exists.intro
  apply And.intro
  · exact yr_skip (by rfl)
  simp only [Act.put, List.setIfInBounds_toArray, List.set_cons_zero, List.set_cons_succ]
  apply wpR_next 15 (some 120)
  · simp only [List.getElem?_toArray, List.getElem?_cons_succ, List.getElem?_cons_zero]; exact rfl
  · rfl
  · kernel_rfl
  · kernel_rfl
  · kernel_rfl
  · exact fun _ _ _ _ h => h
  apply Exists.intro
  apply And.intro
  · exact yr_skip (by rfl)
  simp only [Act.put, List.setIfInBounds_toArray, List.set_cons_zero, List.set_cons_succ]
  apply wpR_next 16 (some 121)
  · simp only [List.getElem?_toArray, List.getElem?_cons_succ, List.getElem?_cons_zero]; exact rfl
  · rfl
  · kernel_rfl
  · kernel_rfl
  · kernel_rfl
  · exact fun _ _ _ _ h => h
  apply Exists.intro
  apply And.intro
  · exact yr_skip (by rfl)
  simp only [Act.put, List.setIfInBounds_toArray, List.set_cons_zero, List.set_cons_succ]
  apply wpR_next 17 (some 122)
  · simp only [List.getElem?_toArray, List.getElem?_cons_succ, List.getElem?_cons_zero]; exact rfl
  · rfl
  · kernel_rfl
  · kernel_rfl
  · kernel_rfl
  · exact fun _ _ _ _ h => h
  apply Exists.intro
  apply And.intro
  · exact yr_skip (by rfl)
  simp only [Act.put, List.setIfInBounds_toArray, List.set_cons_zero, List.set_cons_succ]
  apply wpR_next 18 (some 123)
  · simp only [List.getElem?_toArray, List.getElem?_cons_succ, List.getElem?_cons_zero]; exact rfl
  · rfl
  · kernel_rfl
  · kernel_rfl
  · kernel_rfl
  · exact fun _ _ _ _ h => h
  apply Exists.intro
  apply And.intro
  · exact yr_skip (by rfl)
  simp only [Act.put, List.setIfInBounds_toArray, List.set_cons_zero, List.set_cons_succ]
  apply wpR_next 19 (some 124)
  · simp only [List.getElem?_toArray, List.getElem?_cons_succ, List.getElem?_cons_zero]; exact rfl
  · rfl
  · kernel_rfl
  · kernel_rfl
  · kernel_rfl
  · exact fun _ _ _ _ h => h
  apply Exists.intro
  apply And.intro
  · exact yr_skip (by rfl)
  simp only [Act.put, List.setIfInBounds_toArray, List.set_cons_zero, List.set_cons_succ]
  apply wpR_next 20 (some 125)
  · simp only [List.getElem?_toArray, List.getElem?_cons_succ, List.getElem?_cons_zero]; exact rfl
  · rfl
  · kernel_rfl
  · kernel_rfl
  · kernel_rfl
  · exact fun _ _ _ _ h => h
  apply Exists.intro
  apply And.intro
  · exact yr_skip (by rfl)
  simp only [Act.put, List.setIfInBounds_toArray, List.set_cons_zero, List.set_cons_succ]
  apply wpR_next 21 (some 126)
  · simp only [List.getElem?_toArray, List.getElem?_cons_succ, List.getElem?_cons_zero]; exact rfl
  · rfl
  · kernel_rfl
  · kernel_rfl
  · kernel_rfl
  · exact fun _ _ _ _ h => h
  apply Exists.intro
  apply And.intro
  · apply yr_run; rfl; intro w' hw'; go_simp; (try with_reducible rfl)
  simp only [Act.put, List.setIfInBounds_toArray, List.set_cons_zero, List.set_cons_succ]
  apply wpR_next 22 (some 16)
  · simp only [List.getElem?_toArray, List.getElem?_cons_succ, List.getElem?_cons_zero]; exact rfl
  · rfl
  · kernel_rfl
  · kernel_rfl
  · kernel_rfl
  · exact fun _ _ _ _ h => h
  apply Exists.intro
  apply And.intro
  · apply yr_run; rfl; intro w' hw'; go_simp; (try with_reducible rfl)
  simp only [Act.put, List.setIfInBounds_toArray, List.set_cons_zero, List.set_cons_succ]
  refine wpR_done (by kernel_rfl) ?_ _
  intro w50 hw'
  have Qd_51 := Lib.hid (Qd_43.out.bl hw')
  have R1_51 := Lib.hid (R1_43.out.bl hw')
  have R2_51 := Lib.hid (R2_43.out.bl hw')
  have RN_51 := Lib.hid (RN_43.out.bl hw')
  have Qp_51 := Lib.hid (Qp_43.out.bl hw')
  have RS_51 := Lib.hid (RS_43.out.bl hw')
  have Bel_51 := Lib.hid (bel_bl Bel_43.out hw')
  clear hw'
  have lw53 : (w50).cell? ⟨b, off + k * 3, none⟩ = some (.int .i64 z.1) := (R1_51.out.dat hk GZ.out).1
  have lw54 : (w50).cell? ⟨b, off + k * 3 + 1, none⟩ = some (.int .i64 z.2.1) := (R1_51.out.dat hk GZ.out).2.1
  have lw55 : (w50).cell? ⟨b, off + k * 3 + 2, none⟩ = some (.int .i64 z.2.2) := (R1_51.out.dat hk GZ.out).2.2
  go_wp2_with fail
  clear lw53 lw54 lw55
  refine (HN.out _ _ _ R1_51.out).mono ?_
  rintro e w52 ⟨rfl, hb52⟩
  have Qd_56 := Lib.hid (Qd_51.out.bl hb52)
  have R1_56 := Lib.hid (R1_51.out.bl hb52)
  have R2_56 := Lib.hid (R2_51.out.bl hb52)
  have RN_56 := Lib.hid (RN_51.out.bl hb52)
  have Qp_56 := Lib.hid (Qp_51.out.bl hb52)
  have RS_56 := Lib.hid (RS_51.out.bl hb52)
  have Bel_56 := Lib.hid (bel_bl Bel_51.out hb52)
  clear hb52
  have lw58 : ((w52.alloc (.cells #[.int .i64 x2.1, .int .i64 x2.2.1, .int .i64 x2.2.2] 46))).cell? ⟨w52.heap.size, 0, none⟩ = some (.int .i64 x2.1) := (show Whole (w52.alloc (.cells #[.int .i64 x2.1, .int .i64 x2.2.1, .int .i64 x2.2.2] 46)) (w52.heap.size) (46) (dartsV [x2]) from Whole.new2 (by first | rfl | simp)).cell (i := 0) rfl
  have lw59 : ((w52.alloc (.cells #[.int .i64 x2.1, .int .i64 x2.2.1, .int .i64 x2.2.2] 46))).cell? ⟨w52.heap.size, 1, none⟩ = some (.int .i64 x2.2.1) := (show Whole (w52.alloc (.cells #[.int .i64 x2.1, .int .i64 x2.2.1, .int .i64 x2.2.2] 46)) (w52.heap.size) (46) (dartsV [x2]) from Whole.new2 (by first | rfl | simp)).cell (i := 1) rfl
  have lw60 : ((w52.alloc (.cells #[.int .i64 x2.1, .int .i64 x2.2.1, .int .i64 x2.2.2] 46))).cell? ⟨w52.heap.size, 2, none⟩ = some (.int .i64 x2.2.2) := (show Whole (w52.alloc (.cells #[.int .i64 x2.1, .int .i64 x2.2.1, .int .i64 x2.2.2] 46)) (w52.heap.size) (46) (dartsV [x2]) from Whole.new2 (by first | rfl | simp)).cell (i := 2) rfl
  go_wp2_with fail
  clear lw58 lw59 lw60
  refine (HV.out _ _ _ (R1_56.out.al (.cells #[.int .i64 x2.1, .int .i64 x2.2.1, .int .i64 x2.2.2] 46))).mono ?_
  rintro e w57 ⟨rfl, hb57⟩
  have Qd_61 := Lib.hid ((Qd_56.out.al (.cells #[.int .i64 x2.1, .int .i64 x2.2.1, .int .i64 x2.2.2] 46)).bl hb57)
  have R1_61 := Lib.hid ((R1_56.out.al (.cells #[.int .i64 x2.1, .int .i64 x2.2.1, .int .i64 x2.2.2] 46)).bl hb57)
  have R2_61 := Lib.hid ((R2_56.out.al (.cells #[.int .i64 x2.1, .int .i64 x2.2.1, .int .i64 x2.2.2] 46)).bl hb57)
  have RN_61 := Lib.hid ((RN_56.out.al (.cells #[.int .i64 x2.1, .int .i64 x2.2.1, .int .i64 x2.2.2] 46)).bl hb57)
  have Qp_61 := Lib.hid ((Qp_56.out.al (.cells #[.int .i64 x2.1, .int .i64 x2.2.1, .int .i64 x2.2.2] 46)).bl hb57)
  have RS_61 := Lib.hid ((RS_56.out.al (.cells #[.int .i64 x2.1, .int .i64 x2.2.1, .int .i64 x2.2.2] 46)).bl hb57)
  have Qx_61 := Lib.hid ((show Whole (w52.alloc (.cells #[.int .i64 x2.1, .int .i64 x2.2.1, .int .i64 x2.2.2] 46)) (w52.heap.size) (46) (dartsV [x2]) from Whole.new2 (by first | rfl | simp)).bl hb57)
  have Bel_61 := Lib.hid (bel_bl (bel_al Bel_56.out (.cells #[.int .i64 x2.1, .int .i64 x2.2.1, .int .i64 x2.2.2] 46)) hb57)
  clear hb57
  go_upto_region 17 with fail
  have Qd_62 := Lib.hid ((Qd_61.out.al (.cells #[.int .i64 z.1, .int .i64 z.2.1, .int .i64 z.2.2] 46)))
  have R1_62 := Lib.hid ((R1_61.out.al (.cells #[.int .i64 z.1, .int .i64 z.2.1, .int .i64 z.2.2] 46)))
  have R2_62 := Lib.hid ((R2_61.out.al (.cells #[.int .i64 z.1, .int .i64 z.2.1, .int .i64 z.2.2] 46)))
  have RN_62 := Lib.hid ((RN_61.out.al (.cells #[.int .i64 z.1, .int .i64 z.2.1, .int .i64 z.2.2] 46)))
  have Qp_62 := Lib.hid ((Qp_61.out.al (.cells #[.int .i64 z.1, .int .i64 z.2.1, .int .i64 z.2.2] 46)))
  have RS_62 := Lib.hid ((RS_61.out.al (.cells #[.int .i64 z.1, .int .i64 z.2.1, .int .i64 z.2.2] 46)))
  have Qx_62 := Lib.hid ((Qx_61.out.al (.cells #[.int .i64 z.1, .int .i64 z.2.1, .int .i64 z.2.2] 46)))
  have Qy_62 := Lib.hid ((show Whole (w57.alloc (.cells #[.int .i64 z.1, .int .i64 z.2.1, .int .i64 z.2.2] 46)) (w57.heap.size) (46) (dartsV [z]) from Whole.new2 (by first | rfl | simp)))
  have Bel_62 := Lib.hid (bel_al Bel_61.out (.cells #[.int .i64 z.1, .int .i64 z.2.1, .int .i64 z.2.2] 46))
  obtain ⟨v62, gv62⟩ : ∃ x, (w57.alloc (.cells #[.int .i64 z.1, .int .i64 z.2.1, .int .i64 z.2.2] 46)) = x := ⟨_, rfl⟩
  rw [gv62] at Qd_62 R1_62 R2_62 RN_62 Qp_62 RS_62 Qx_62 Qy_62 Bel_62 ⊢
  clear gv62
  have Qd_63 := Lib.hid (Qd_62.out.dr)
  have R1_63 := Lib.hid (R1_62.out.dr)
  have R2_63 := Lib.hid (R2_62.out.dr)
  have RN_63 := Lib.hid (RN_62.out.dr)
  have Qp_63 := Lib.hid (Qp_62.out.dr)
  have RS_63 := Lib.hid (RS_62.out.dr)
  have Qx_63 := Lib.hid (Qx_62.out.dr)
  have Qy_63 := Lib.hid (Qy_62.out.dr)
  have Bel_63 := Lib.hid (bel_dr Bel_62.out)
  have ld64 : ∀ w', Kept Nil_ v62.drew w' → w'.cell? ⟨b, off + k * 3, none⟩ = some (.int .i64 z.1) := fun w' h => h.nil_cell ((R1_63.out.dat hk GZ.out).1)
  have ld65 : ∀ w', Kept Nil_ v62.drew w' → w'.cell? ⟨b, off + k * 3 + 1, none⟩ = some (.int .i64 z.2.1) := fun w' h => h.nil_cell ((R1_63.out.dat hk GZ.out).2.1)
  have ld66 : ∀ w', Kept Nil_ v62.drew w' → w'.cell? ⟨b, off + k * 3 + 2, none⟩ = some (.int .i64 z.2.2) := fun w' h => h.nil_cell ((R1_63.out.dat hk GZ.out).2.2)
  have ld67 : ∀ w', Kept Nil_ v62.drew w' → w'.cell? ⟨w.heap.size, 0, none⟩ = some (.int .i64 d.1) := fun w' h => h.nil_cell (Qd_63.out.cell (i := 0) rfl)
  have ld68 : ∀ w', Kept Nil_ v62.drew w' → w'.cell? ⟨w.heap.size, 1, none⟩ = some (.int .i64 d.2.1) := fun w' h => h.nil_cell (Qd_63.out.cell (i := 1) rfl)
  have ld69 : ∀ w', Kept Nil_ v62.drew w' → w'.cell? ⟨w.heap.size, 2, none⟩ = some (.int .i64 d.2.2) := fun w' h => h.nil_cell (Qd_63.out.cell (i := 2) rfl)
  have ld70 : ∀ w', Kept Nil_ v62.drew w' → w'.cell? ⟨w57.heap.size, 0, none⟩ = some (.int .i64 z.1) := fun w' h => h.nil_cell (Qy_63.out.cell (i := 0) rfl)
  have ld71 : ∀ w', Kept Nil_ v62.drew w' → w'.cell? ⟨w57.heap.size, 1, none⟩ = some (.int .i64 z.2.1) := fun w' h => h.nil_cell (Qy_63.out.cell (i := 1) rfl)
  have ld72 : ∀ w', Kept Nil_ v62.drew w' → w'.cell? ⟨w57.heap.size, 2, none⟩ = some (.int .i64 z.2.2) := fun w' h => h.nil_cell (Qy_63.out.cell (i := 2) rfl)
  refine wp_region_reg Nil_ (by kernel_rfl) ?_
  apply wpR_next 0 (some 142)
  · simp only [List.getElem?_toArray, List.getElem?_cons_succ, List.getElem?_cons_zero]; exact rfl
  · rfl
  · kernel_rfl
  · kernel_rfl
  · kernel_rfl
  · exact fun _ _ _ _ h => h
  apply Exists.intro
  apply And.intro
  · apply yr_run; rfl; intro w' hw'; go_simp; (try with_reducible rfl)
  simp only [Act.put, List.setIfInBounds_toArray, List.set_cons_zero, List.set_cons_succ]
  apply wpR_next 1 (some 143)
  · simp only [List.getElem?_toArray, List.getElem?_cons_succ, List.getElem?_cons_zero]; exact rfl
  · rfl
  · kernel_rfl
  · kernel_rfl
  · kernel_rfl
  · exact fun _ _ _ _ h => h
  apply Exists.intro
  apply And.intro
  · apply yr_run; rfl; intro w' hw'; go_simp; (try with_reducible rfl)
  simp only [Act.put, List.setIfInBounds_toArray, List.set_cons_zero, List.set_cons_succ]
  apply wpR_next 2 (some 144)
  · simp only [List.getElem?_toArray, List.getElem?_cons_succ, List.getElem?_cons_zero]; exact rfl
  · rfl
  · kernel_rfl
  · kernel_rfl
  · kernel_rfl
  · exact fun _ _ _ _ h => h
  apply Exists.intro
  apply And.intro
  · apply yr_run; rfl; intro w' hw'; go_simp; (try with_reducible rfl)
  simp only [Act.put, List.setIfInBounds_toArray, List.set_cons_zero, List.set_cons_succ]
  apply wpR_next 3 (some 145)
  · simp only [List.getElem?_toArray, List.getElem?_cons_succ, List.getElem?_cons_zero]; exact rfl
  · rfl
  · kernel_rfl
  · kernel_rfl
  · kernel_rfl
  · exact fun _ _ _ _ h => h
  apply Exists.intro
  apply And.intro
  · apply yr_run; rfl; intro w' hw'; go_simp; (try with_reducible rfl)
  simp only [Act.put, List.setIfInBounds_toArray, List.set_cons_zero, List.set_cons_succ]
  apply wpR_call 4 (some 146)
  · simp only [List.getElem?_toArray, List.getElem?_cons_succ, List.getElem?_cons_zero]; exact rfl
  · rfl
  · kernel_rfl
  · rfl
  · intro w'; go_simp; first | done | exact ⟨rfl, rfl⟩ | with_reducible rfl
  intro w' hw'
  refine (HSm.out _ _ _ _ _ (R1_63.out.bl hw') (R2_63.out.bl hw')).mono ?_
  rintro e w73 ⟨rfl, hb73⟩
  have Qd_73 := Lib.hid ((Qd_63.out.bl hw').bl hb73)
  have R1_73 := Lib.hid ((R1_63.out.bl hw').bl hb73)
  have R2_73 := Lib.hid ((R2_63.out.bl hw').bl hb73)
  have RN_73 := Lib.hid ((RN_63.out.bl hw').bl hb73)
  have Qp_73 := Lib.hid ((Qp_63.out.bl hw').bl hb73)
  have RS_73 := Lib.hid ((RS_63.out.bl hw').bl hb73)
  have Qx_73 := Lib.hid ((Qx_63.out.bl hw').bl hb73)
  have Qy_73 := Lib.hid ((Qy_63.out.bl hw').bl hb73)
  have Bel_73 := Lib.hid (bel_bl (bel_bl Bel_63.out hw') hb73)
  have ld74 := fun w'' (h : Kept Nil_ w73 w'') => ld64 w'' ((Kept.of_ext hw').trans ((Kept.of_below hb73).trans h))
  have ld75 := fun w'' (h : Kept Nil_ w73 w'') => ld65 w'' ((Kept.of_ext hw').trans ((Kept.of_below hb73).trans h))
  have ld76 := fun w'' (h : Kept Nil_ w73 w'') => ld66 w'' ((Kept.of_ext hw').trans ((Kept.of_below hb73).trans h))
  have ld77 := fun w'' (h : Kept Nil_ w73 w'') => ld67 w'' ((Kept.of_ext hw').trans ((Kept.of_below hb73).trans h))
  have ld78 := fun w'' (h : Kept Nil_ w73 w'') => ld68 w'' ((Kept.of_ext hw').trans ((Kept.of_below hb73).trans h))
  have ld79 := fun w'' (h : Kept Nil_ w73 w'') => ld69 w'' ((Kept.of_ext hw').trans ((Kept.of_below hb73).trans h))
  have ld80 := fun w'' (h : Kept Nil_ w73 w'') => ld70 w'' ((Kept.of_ext hw').trans ((Kept.of_below hb73).trans h))
  have ld81 := fun w'' (h : Kept Nil_ w73 w'') => ld71 w'' ((Kept.of_ext hw').trans ((Kept.of_below hb73).trans h))
  have ld82 := fun w'' (h : Kept Nil_ w73 w'') => ld72 w'' ((Kept.of_ext hw').trans ((Kept.of_below hb73).trans h))
  refine ⟨_, rfl, Kept.of_below hb73, ?_⟩
  clear hw' hb73
  simp only [Act.put, List.setIfInBounds_toArray, List.set_cons_zero, List.set_cons_succ]
  apply wpR_next 5 (some 147)
  · simp only [List.getElem?_toArray, List.getElem?_cons_succ, List.getElem?_cons_zero]; exact rfl
  · rfl
  · kernel_rfl
  · kernel_rfl
  · kernel_rfl
  · exact fun _ _ _ _ h => h
  apply Exists.intro
  apply And.intro
  · apply yr_run; rfl; intro w' hw'; go_simp; (try with_reducible rfl)
  simp only [Act.put, List.setIfInBounds_toArray, List.set_cons_zero, List.set_cons_succ]
  apply wpR_next 6 (some 148)
  · simp only [List.getElem?_toArray, List.getElem?_cons_succ, List.getElem?_cons_zero]; exact rfl
  · rfl
  · kernel_rfl
  · kernel_rfl
  · kernel_rfl
  · exact fun _ _ _ _ h => h
  apply Exists.intro
  apply And.intro
  · apply yr_run; rfl; intro w' hw'; go_simp; (try with_reducible rfl)
  simp only [Act.put, List.setIfInBounds_toArray, List.set_cons_zero, List.set_cons_succ]
  apply wpR_next 7 (some 149)
  · simp only [List.getElem?_toArray, List.getElem?_cons_succ, List.getElem?_cons_zero]; exact rfl
  · rfl
  · kernel_rfl
  · kernel_rfl
  · kernel_rfl
  · exact fun _ _ _ _ h => h
  apply Exists.intro
  apply And.intro
  · apply yr_run; rfl; intro w' hw'; go_simp; (try with_reducible rfl)
  simp only [Act.put, List.setIfInBounds_toArray, List.set_cons_zero, List.set_cons_succ]
  apply wpR_next 8 (some 150)
  · simp only [List.getElem?_toArray, List.getElem?_cons_succ, List.getElem?_cons_zero]; exact rfl
  · rfl
  · kernel_rfl
  · kernel_rfl
  · kernel_rfl
  · exact fun _ _ _ _ h => h
  apply Exists.intro
  apply And.intro
  · apply yr_run; rfl; intro w' hw'; go_simp; (try with_reducible rfl)
  simp only [Act.put, List.setIfInBounds_toArray, List.set_cons_zero, List.set_cons_succ]
  apply wpR_next 9 (some 151)
  · simp only [List.getElem?_toArray, List.getElem?_cons_succ, List.getElem?_cons_zero]; exact rfl
  · rfl
  · kernel_rfl
  · kernel_rfl
  · kernel_rfl
  · exact fun _ _ _ _ h => h
  apply Exists.intro
  apply And.intro
  · apply yr_run; rfl; intro w' hw'; go_simp; (try with_reducible rfl)
  simp only [Act.put, List.setIfInBounds_toArray, List.set_cons_zero, List.set_cons_succ]
  apply wpR_next 10 (some 152)
  · simp only [List.getElem?_toArray, List.getElem?_cons_succ, List.getElem?_cons_zero]; exact rfl
  · rfl
  · kernel_rfl
  · kernel_rfl
  · kernel_rfl
  · exact fun _ _ _ _ h => h
  apply Exists.intro
  apply And.intro
  · apply yr_run; rfl; intro w' hw'; go_simp; (try with_reducible rfl)
  simp only [Act.put, List.setIfInBounds_toArray, List.set_cons_zero, List.set_cons_succ]
  apply wpR_next 11 (some 153)
  · simp only [List.getElem?_toArray, List.getElem?_cons_succ, List.getElem?_cons_zero]; exact rfl
  · rfl
  · kernel_rfl
  · kernel_rfl
  · kernel_rfl
  · exact fun _ _ _ _ h => h
  apply Exists.intro
  apply And.intro
  · apply yr_run; rfl; intro w' hw'; go_simp; (try with_reducible rfl)
  simp only [Act.put, List.setIfInBounds_toArray, List.set_cons_zero, List.set_cons_succ]
  apply wpR_next 12 (some 154)
  · simp only [List.getElem?_toArray, List.getElem?_cons_succ, List.getElem?_cons_zero]; exact rfl
  · rfl
  · kernel_rfl
  · kernel_rfl
  · kernel_rfl
  · exact fun _ _ _ _ h => h
  apply Exists.intro
  apply And.intro
  · apply yr_run; rfl; intro w' hw'; go_simp; (try with_reducible rfl)
  simp only [Act.put, List.setIfInBounds_toArray, List.set_cons_zero, List.set_cons_succ]
  apply wpR_next 13 (some 155)
  · simp only [List.getElem?_toArray, List.getElem?_cons_succ, List.getElem?_cons_zero]; exact rfl
  · rfl
  · kernel_rfl
  · kernel_rfl
  · kernel_rfl
  · exact fun _ _ _ _ h => h
  apply Exists.intro
  apply And.intro
  · apply yr_run; rfl; intro w' hw'; go_simp; (try with_reducible rfl)
  simp only [Act.put, List.setIfInBounds_toArray, List.set_cons_zero, List.set_cons_succ]
  apply wpR_next 14 (some 156)
  · simp only [List.getElem?_toArray, List.getElem?_cons_succ, List.getElem?_cons_zero]; exact rfl
  · rfl
  · kernel_rfl
  · kernel_rfl
  · kernel_rfl
  · exact fun _ _ _ _ h => h
  apply Exists.intro
  apply And.intro
  · apply yr_run; rfl; intro w' hw'; go_simp; (try with_reducible rfl)
  simp only [Act.put, List.setIfInBounds_toArray, List.set_cons_zero, List.set_cons_succ]
  apply wpR_next 15 (some 157)
  · simp only [List.getElem?_toArray, List.getElem?_cons_succ, List.getElem?_cons_zero]; exact rfl
  · rfl
  · kernel_rfl
  · kernel_rfl
  · kernel_rfl
  · exact fun _ _ _ _ h => h
  apply Exists.intro
  apply And.intro
  · apply yr_run; rfl; intro w' hw'; go_simp; (try with_reducible rfl)
  simp only [Act.put, List.setIfInBounds_toArray, List.set_cons_zero, List.set_cons_succ]
  apply wpR_next 16 (some 158)
  · simp only [List.getElem?_toArray, List.getElem?_cons_succ, List.getElem?_cons_zero]; exact rfl
  · rfl
  · kernel_rfl
  · kernel_rfl
  · kernel_rfl
  · exact fun _ _ _ _ h => h
  apply Exists.intro
  apply And.intro
  · apply yr_run; rfl; intro w' hw'; go_simp; (try with_reducible rfl)
  simp only [Act.put, List.setIfInBounds_toArray, List.set_cons_zero, List.set_cons_succ]
  apply wpR_next 17 (some 159)
  · simp only [List.getElem?_toArray, List.getElem?_cons_succ, List.getElem?_cons_zero]; exact rfl
  · rfl
  · kernel_rfl
  · kernel_rfl
  · kernel_rfl
  · exact fun _ _ _ _ h => h
  apply Exists.intro
  apply And.intro
  · apply yr_run; rfl; intro w' hw'; go_simp; (try with_reducible rfl)
  simp only [Act.put, List.setIfInBounds_toArray, List.set_cons_zero, List.set_cons_succ]
  apply wpR_next 18 (some 160)
  · simp only [List.getElem?_toArray, List.getElem?_cons_succ, List.getElem?_cons_zero]; exact rfl
  · rfl
  · kernel_rfl
  · kernel_rfl
  · kernel_rfl
  · exact fun _ _ _ _ h => h
  apply Exists.intro
  apply And.intro
  · apply yr_run; rfl; intro w' hw'; go_simp; (try with_reducible rfl)
  simp only [Act.put, List.setIfInBounds_toArray, List.set_cons_zero, List.set_cons_succ]
  apply wpR_next 19 (some 161)
  · simp only [List.getElem?_toArray, List.getElem?_cons_succ, List.getElem?_cons_zero]; exact rfl
  · rfl
  · kernel_rfl
  · kernel_rfl
  · kernel_rfl
  · exact fun _ _ _ _ h => h
  apply Exists.intro
  apply And.intro
  · apply yr_run; rfl; intro w' hw'; go_simp; (try with_reducible rfl)
  simp only [Act.put, List.setIfInBounds_toArray, List.set_cons_zero, List.set_cons_succ]
  apply wpR_next 20 (some 162)
  · simp only [List.getElem?_toArray, List.getElem?_cons_succ, List.getElem?_cons_zero]; exact rfl
  · rfl
  · kernel_rfl
  · kernel_rfl
  · kernel_rfl
  · exact fun _ _ _ _ h => h
  apply Exists.intro
  apply And.intro
  · apply yr_run; rfl; intro w' hw'; go_simp; (try with_reducible rfl)
  simp only [Act.put, List.setIfInBounds_toArray, List.set_cons_zero, List.set_cons_succ]
  apply wpR_next 21 (some 163)
  · simp only [List.getElem?_toArray, List.getElem?_cons_succ, List.getElem?_cons_zero]; exact rfl
  · rfl
  · kernel_rfl
  · kernel_rfl
  · kernel_rfl
  · exact fun _ _ _ _ h => h
  apply Exists.intro
  apply And.intro
  · apply yr_run; rfl; intro w' hw'; go_simp; (try with_reducible rfl)
  simp only [Act.put, List.setIfInBounds_toArray, List.set_cons_zero, List.set_cons_succ]
  apply wpR_next 22 (some 164)
  · simp only [List.getElem?_toArray, List.getElem?_cons_succ, List.getElem?_cons_zero]; exact rfl
  · rfl
  · kernel_rfl
  · kernel_rfl
  · kernel_rfl
  · exact fun _ _ _ _ h => h
  apply Exists.intro
  apply And.intro
  · apply yr_run; rfl; intro w' hw'; go_simp; (try with_reducible rfl)
  simp only [Act.put, List.setIfInBounds_toArray, List.set_cons_zero, List.set_cons_succ]
  apply wpR_next 23 (some 165)
  · simp only [List.getElem?_toArray, List.getElem?_cons_succ, List.getElem?_cons_zero]; exact rfl
  · rfl
  · kernel_rfl
  · kernel_rfl
  · kernel_rfl
  · exact fun _ _ _ _ h => h
  apply Exists.intro
  apply And.intro
  · apply yr_run; rfl; intro w' hw'; go_simp; (try with_reducible rfl)
  simp only [Act.put, List.setIfInBounds_toArray, List.set_cons_zero, List.set_cons_succ]
  apply wpR_next 25 (some 167)
  · simp only [List.getElem?_toArray, List.getElem?_cons_succ, List.getElem?_cons_zero]; exact rfl
  · rfl
  · kernel_rfl
  · kernel_rfl
  · kernel_rfl
  · exact fun _ _ _ _ h => h
  apply Exists.intro
  apply And.intro
  · apply yr_run; rfl; intro w' hw'; go_simp; (try with_reducible rfl)
  simp only [Act.put, List.setIfInBounds_toArray, List.set_cons_zero, List.set_cons_succ]
  apply wpR_next 27 (some 169)
  · simp only [List.getElem?_toArray, List.getElem?_cons_succ, List.getElem?_cons_zero]; exact rfl
  · rfl
  · kernel_rfl
  · kernel_rfl
  · kernel_rfl
  · exact fun _ _ _ _ h => h
  apply Exists.intro
  apply And.intro
  · apply yr_run; rfl; intro w' hw'; go_simp; (try with_reducible rfl)
  simp only [Act.put, List.setIfInBounds_toArray, List.set_cons_zero, List.set_cons_succ]
  apply wpR_next 28 (some 170)
  · simp only [List.getElem?_toArray, List.getElem?_cons_succ, List.getElem?_cons_zero]; exact rfl
  · rfl
  · kernel_rfl
  · kernel_rfl
  · kernel_rfl
  · exact fun _ _ _ _ h => h
  apply Exists.intro
  apply And.intro
  · apply yr_run; rfl; intro w' hw'; go_simp; (try with_reducible rfl)
  simp only [Act.put, List.setIfInBounds_toArray, List.set_cons_zero, List.set_cons_succ]
  apply wpR_next 29 (some 171)
  · simp only [List.getElem?_toArray, List.getElem?_cons_succ, List.getElem?_cons_zero]; exact rfl
  · rfl
  · kernel_rfl
  · kernel_rfl
  · kernel_rfl
  · exact fun _ _ _ _ h => h
  apply Exists.intro
  apply And.intro
  · apply yr_run; rfl; intro w' hw'; go_simp; (try with_reducible rfl)
  simp only [Act.put, List.setIfInBounds_toArray, List.set_cons_zero, List.set_cons_succ]
  apply wpR_call 24 (some 166)
  · simp only [List.getElem?_toArray, List.getElem?_cons_succ, List.getElem?_cons_zero]; exact rfl
  · rfl
  · kernel_rfl
  · rfl
  · intro w'; go_simp; first | done | exact ⟨rfl, rfl⟩ | with_reducible rfl
  intro w' hw'
  refine (HQ.out _ _ _ (R1_73.out.bl hw')).mono ?_
  rintro e w83 ⟨A7, c7, rfl, hr7, hb83⟩
  have Qd_83 := Lib.hid ((Qd_73.out.bl hw').bl hb83)
  have R1_83 := Lib.hid ((R1_73.out.bl hw').bl hb83)
  have R2_83 := Lib.hid ((R2_73.out.bl hw').bl hb83)
  have RN_83 := Lib.hid ((RN_73.out.bl hw').bl hb83)
  have Qp_83 := Lib.hid ((Qp_73.out.bl hw').bl hb83)
  have RS_83 := Lib.hid ((RS_73.out.bl hw').bl hb83)
  have Qx_83 := Lib.hid ((Qx_73.out.bl hw').bl hb83)
  have Qy_83 := Lib.hid ((Qy_73.out.bl hw').bl hb83)
  have Bel_83 := Lib.hid (bel_bl (bel_bl Bel_73.out hw') hb83)
  have ld84 := fun w'' (h : Kept Nil_ w83 w'') => ld74 w'' ((Kept.of_ext hw').trans ((Kept.of_below hb83).trans h))
  have ld85 := fun w'' (h : Kept Nil_ w83 w'') => ld75 w'' ((Kept.of_ext hw').trans ((Kept.of_below hb83).trans h))
  have ld86 := fun w'' (h : Kept Nil_ w83 w'') => ld76 w'' ((Kept.of_ext hw').trans ((Kept.of_below hb83).trans h))
  have ld87 := fun w'' (h : Kept Nil_ w83 w'') => ld77 w'' ((Kept.of_ext hw').trans ((Kept.of_below hb83).trans h))
  have ld88 := fun w'' (h : Kept Nil_ w83 w'') => ld78 w'' ((Kept.of_ext hw').trans ((Kept.of_below hb83).trans h))
  have ld89 := fun w'' (h : Kept Nil_ w83 w'') => ld79 w'' ((Kept.of_ext hw').trans ((Kept.of_below hb83).trans h))
  have ld90 := fun w'' (h : Kept Nil_ w83 w'') => ld80 w'' ((Kept.of_ext hw').trans ((Kept.of_below hb83).trans h))
  have ld91 := fun w'' (h : Kept Nil_ w83 w'') => ld81 w'' ((Kept.of_ext hw').trans ((Kept.of_below hb83).trans h))
  have ld92 := fun w'' (h : Kept Nil_ w83 w'') => ld82 w'' ((Kept.of_ext hw').trans ((Kept.of_below hb83).trans h))
  refine ⟨_, rfl, Kept.of_below hb83, ?_⟩
  clear hw' hb83
  have RQ_83 := Lib.hid hr7
  clear hr7
  simp only [Act.put, List.setIfInBounds_toArray, List.set_cons_zero, List.set_cons_succ]
  apply wpR_call 26 (some 168)
  · simp only [List.getElem?_toArray, List.getElem?_cons_succ, List.getElem?_cons_zero]; exact rfl
  · rfl
  · kernel_rfl
  · rfl
  · intro w'; go_simp; first | done | exact ⟨rfl, rfl⟩ | with_reducible rfl
  intro w' hw'
  refine (HS3.out _ _ _ _ _ (RQ_83.out.bl hw') (R1_83.out.bl hw')).mono ?_
  rintro e w93 ⟨rfl, hb93⟩
  have Qd_93 := Lib.hid ((Qd_83.out.bl hw').bl hb93)
  have R1_93 := Lib.hid ((R1_83.out.bl hw').bl hb93)
  have R2_93 := Lib.hid ((R2_83.out.bl hw').bl hb93)
  have RN_93 := Lib.hid ((RN_83.out.bl hw').bl hb93)
  have Qp_93 := Lib.hid ((Qp_83.out.bl hw').bl hb93)
  have RS_93 := Lib.hid ((RS_83.out.bl hw').bl hb93)
  have Qx_93 := Lib.hid ((Qx_83.out.bl hw').bl hb93)
  have Qy_93 := Lib.hid ((Qy_83.out.bl hw').bl hb93)
  have RQ_93 := Lib.hid ((RQ_83.out.bl hw').bl hb93)
  have Bel_93 := Lib.hid (bel_bl (bel_bl Bel_83.out hw') hb93)
  have ld94 := fun w'' (h : Kept Nil_ w93 w'') => ld84 w'' ((Kept.of_ext hw').trans ((Kept.of_below hb93).trans h))
  have ld95 := fun w'' (h : Kept Nil_ w93 w'') => ld85 w'' ((Kept.of_ext hw').trans ((Kept.of_below hb93).trans h))
  have ld96 := fun w'' (h : Kept Nil_ w93 w'') => ld86 w'' ((Kept.of_ext hw').trans ((Kept.of_below hb93).trans h))
  have ld97 := fun w'' (h : Kept Nil_ w93 w'') => ld87 w'' ((Kept.of_ext hw').trans ((Kept.of_below hb93).trans h))
  have ld98 := fun w'' (h : Kept Nil_ w93 w'') => ld88 w'' ((Kept.of_ext hw').trans ((Kept.of_below hb93).trans h))
  have ld99 := fun w'' (h : Kept Nil_ w93 w'') => ld89 w'' ((Kept.of_ext hw').trans ((Kept.of_below hb93).trans h))
  have ld100 := fun w'' (h : Kept Nil_ w93 w'') => ld90 w'' ((Kept.of_ext hw').trans ((Kept.of_below hb93).trans h))
  have ld101 := fun w'' (h : Kept Nil_ w93 w'') => ld91 w'' ((Kept.of_ext hw').trans ((Kept.of_below hb93).trans h))
  have ld102 := fun w'' (h : Kept Nil_ w93 w'') => ld92 w'' ((Kept.of_ext hw').trans ((Kept.of_below hb93).trans h))
  refine ⟨_, rfl, Kept.of_below hb93, ?_⟩
  clear hw' hb93
  simp only [Act.put, List.setIfInBounds_toArray, List.set_cons_zero, List.set_cons_succ]
  apply wpR_call 30 (some 172)
  · simp only [List.getElem?_toArray, List.getElem?_cons_succ, List.getElem?_cons_zero]; exact rfl
  · rfl
  · kernel_rfl
  · rfl
  · intro w'; go_simp; first | done | exact ⟨rfl, rfl⟩ | with_reducible rfl
  intro w' hw'
  refine (HXd.out _ _ _ (R1_93.out.bl hw')).mono ?_
  rintro e w103 ⟨rfl, hb103⟩
  have Qd_103 := Lib.hid ((Qd_93.out.bl hw').bl hb103)
  have R1_103 := Lib.hid ((R1_93.out.bl hw').bl hb103)
  have R2_103 := Lib.hid ((R2_93.out.bl hw').bl hb103)
  have RN_103 := Lib.hid ((RN_93.out.bl hw').bl hb103)
  have Qp_103 := Lib.hid ((Qp_93.out.bl hw').bl hb103)
  have RS_103 := Lib.hid ((RS_93.out.bl hw').bl hb103)
  have Qx_103 := Lib.hid ((Qx_93.out.bl hw').bl hb103)
  have Qy_103 := Lib.hid ((Qy_93.out.bl hw').bl hb103)
  have RQ_103 := Lib.hid ((RQ_93.out.bl hw').bl hb103)
  have Bel_103 := Lib.hid (bel_bl (bel_bl Bel_93.out hw') hb103)
  have ld104 := fun w'' (h : Kept Nil_ w103 w'') => ld94 w'' ((Kept.of_ext hw').trans ((Kept.of_below hb103).trans h))
  have ld105 := fun w'' (h : Kept Nil_ w103 w'') => ld95 w'' ((Kept.of_ext hw').trans ((Kept.of_below hb103).trans h))
  have ld106 := fun w'' (h : Kept Nil_ w103 w'') => ld96 w'' ((Kept.of_ext hw').trans ((Kept.of_below hb103).trans h))
  have ld107 := fun w'' (h : Kept Nil_ w103 w'') => ld97 w'' ((Kept.of_ext hw').trans ((Kept.of_below hb103).trans h))
  have ld108 := fun w'' (h : Kept Nil_ w103 w'') => ld98 w'' ((Kept.of_ext hw').trans ((Kept.of_below hb103).trans h))
  have ld109 := fun w'' (h : Kept Nil_ w103 w'') => ld99 w'' ((Kept.of_ext hw').trans ((Kept.of_below hb103).trans h))
  have ld110 := fun w'' (h : Kept Nil_ w103 w'') => ld100 w'' ((Kept.of_ext hw').trans ((Kept.of_below hb103).trans h))
  have ld111 := fun w'' (h : Kept Nil_ w103 w'') => ld101 w'' ((Kept.of_ext hw').trans ((Kept.of_below hb103).trans h))
  have ld112 := fun w'' (h : Kept Nil_ w103 w'') => ld102 w'' ((Kept.of_ext hw').trans ((Kept.of_below hb103).trans h))
  refine ⟨_, rfl, Kept.of_below hb103, ?_⟩
  clear hw' hb103
  simp only [Act.put, List.setIfInBounds_toArray, List.set_cons_zero, List.set_cons_succ]
  apply wpR_next 31 (some 173)
  · simp only [List.getElem?_toArray, List.getElem?_cons_succ, List.getElem?_cons_zero]; exact rfl
  · rfl
  · kernel_rfl
  · kernel_rfl
  · kernel_rfl
  · exact fun _ _ _ _ h => h
  apply Exists.intro
  apply And.intro
  · apply yr_run; rfl; intro w' hw'; go_simp; (try with_reducible rfl)
  simp only [Act.put, List.setIfInBounds_toArray, List.set_cons_zero, List.set_cons_succ]
  apply wpR_next 32 (some 174)
  · simp only [List.getElem?_toArray, List.getElem?_cons_succ, List.getElem?_cons_zero]; exact rfl
  · rfl
  · kernel_rfl
  · kernel_rfl
  · kernel_rfl
  · exact fun _ _ _ _ h => h
  apply Exists.intro
  apply And.intro
  · apply yr_run; rfl; intro w' hw'; go_simp; (try with_reducible rfl)
  simp only [Act.put, List.setIfInBounds_toArray, List.set_cons_zero, List.set_cons_succ]
  apply wpR_next 33 (some 175)
  · simp only [List.getElem?_toArray, List.getElem?_cons_succ, List.getElem?_cons_zero]; exact rfl
  · rfl
  · kernel_rfl
  · kernel_rfl
  · kernel_rfl
  · exact fun _ _ _ _ h => h
  apply Exists.intro
  apply And.intro
  · apply yr_run; rfl; intro w' hw'; go_simp; (try with_reducible rfl)
  simp only [Act.put, List.setIfInBounds_toArray, List.set_cons_zero, List.set_cons_succ]
  apply wpR_next 34 (some 6)
  · simp only [List.getElem?_toArray, List.getElem?_cons_succ, List.getElem?_cons_zero]; exact rfl
  · rfl
  · kernel_rfl
  · kernel_rfl
  · kernel_rfl
  · exact fun _ _ _ _ h => h
  apply Exists.intro
  apply And.intro
  · apply yr_run; rfl; intro w' hw'; go_simp; (try with_reducible rfl)
  simp only [Act.put, List.setIfInBounds_toArray, List.set_cons_zero, List.set_cons_succ]
  refine wpR_done (by kernel_rfl) ?_ _
  intro w113 hw'
  have Qd_114 := Lib.hid (Qd_103.out.bl hw')
  have R1_114 := Lib.hid (R1_103.out.bl hw')
  have R2_114 := Lib.hid (R2_103.out.bl hw')
  have RN_114 := Lib.hid (RN_103.out.bl hw')
  have Qp_114 := Lib.hid (Qp_103.out.bl hw')
  have RS_114 := Lib.hid (RS_103.out.bl hw')
  have Qx_114 := Lib.hid (Qx_103.out.bl hw')
  have Qy_114 := Lib.hid (Qy_103.out.bl hw')
  have RQ_114 := Lib.hid (RQ_103.out.bl hw')
  have Bel_114 := Lib.hid (bel_bl Bel_103.out hw')
  clear hw'
  go_wp2
  go_ret
  exact ⟨by simp, Bel_114.out⟩
end Go.Proofs.Ytgbkloilodgjfaa
