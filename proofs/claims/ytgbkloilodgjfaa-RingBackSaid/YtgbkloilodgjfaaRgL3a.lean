/- RingBack's walk. -/
import Derived.Test.YtgbkloilodgjfaaRgM
import Derived.Test.YtgbkloilodgjfaaRgJ
import Derived.Test.YtgbkloilodgjfaaCh
import Derived.Test.YtgbkloilodgjfaaOw2
namespace Go.Proofs.Ytgbkloilodgjfaa
open Go.RowKit
set_option linter.unusedSimpArgs false
set_option linter.unusedVariables false

set_option maxRecDepth 100000 in
set_option maxHeartbeats 4000000 in
theorem law_rback_a (A : Option Addr) (n c k : Nat) (t0 : Int) (L0 L : List D) (d e z : D) (w : World) (h : RdS w w.heap.size 3 A n c (dartsV L0)) (hn : n ≤ maxLen) (gL : onceD L0 = L)
    (hk : k < L.length) (gz : L.getD k (0, 0, 0) = z) (hat : (¬ 0 < t0 ∧ k = 0) ∨ ∃ a : Nat, t0 = (a : Int) ∧ 0 < (a : Int) ∧ (a : Int) % (L.length : Int) = (k : Int)) (hw : ¬ e ∈ L) (hd : d ∈ L) :
    Calls Try.prog 9 #[.slice A n c, .agg #[.int .i64 d.1, .int .i64 d.2.1, .int .i64 d.2.2, .int .i64 e.1, .int .i64 e.2.1, .int .i64 e.2.2], .int .i64 t0] w fun e w' => e = .returned (.bool true) ∧ Below w.heap.size w w' := by
  obtain ⟨i0, hi, hz0, hz1, hz2⟩ := info_parts info_dart
  have R0 := Lib.hid h
  obtain ⟨hl40, hnd⟩ := onceD_len L0
  rw [gL] at hl40 hnd
  have HAT := Lib.hid hat
  have hzL : z ∈ L := gz ▸ getD_mem hk
  have li := insR_len L d e
  have lr := remR_len (turnD (insR L d e)) e
  rw [turnD_length] at lr
  have ls := swpR_len L z e
  have lb := swpR_len (turnD (swpR L z e)) e z
  rw [turnD_length] at lb
  have lq := remR_len L d
  have hx2 := next_prev hnd hk
  rw [gz] at hx2
  have hm := turn_rot_at hnd k
  have hbb := rem_facts hnd d
  obtain ⟨f1, f2, f3⟩ := ins_facts hnd d (by omega) hw
  obtain ⟨f4, f5⟩ := swp_back hnd hzL hw
  obtain ⟨n1, gn⟩ : ∃ v, L.length = v := ⟨_, rfl⟩
  have hne : ((n1 : Int) == 0) = false := by rw [← gn]; simp; rintro rfl; simp at hk
  have hne' : ¬ ((n1 : Int) = 0) := by rw [← gn]; omega
  have hne2 : ¬ (n1 = 0) := by omega
  rw [gn] at HAT
  have GZ := Lib.hid gz
  have HO : RowKit.Hid (∀ W, RdS W W.heap.size 3 A n c (dartsV L0) → Calls Try.prog 25 #[.slice A n c] W (GivesN W n1 L)) := Lib.hid (fun W h => givesN (gL ▸ once_any A n c L0 W h (by unfold maxLen at hn; omega)) gn)
  obtain ⟨TN, gTN⟩ : ∃ v, turnD (insR L d e) = v := ⟨_, rfl⟩
  obtain ⟨nN, gnN⟩ : ∃ v, TN.length = v := ⟨_, rfl⟩
  have HI := Lib.hid (fun A1 c1 W h => givesN (gTN ▸ rinsert_any A1 n1 c1 L d e W h (by omega)) gnN)
  have HX := Lib.hid (fun A1 c1 W h => rindex_any A1 n1 c1 L e W h (by omega))
  obtain ⟨x1, gx1⟩ : ∃ v, prevD TN e = v := ⟨_, rfl⟩
  obtain ⟨ok1, gok1⟩ : ∃ v, decide (e ∈ TN) = v := ⟨_, rfl⟩
  have hnN : nN ≤ 41 := by rw [← gnN, ← gTN, turnD_length]; omega
  have HP := Lib.hid (fun A1 c1 W h => rprev_any A1 nN c1 TN e W h (by omega))
  rw [gx1, gok1] at HP
  obtain ⟨TR, gTR⟩ : ∃ v, turnD (remR TN e) = v := ⟨_, rfl⟩
  obtain ⟨nR, gnR⟩ : ∃ v, TR.length = v := ⟨_, rfl⟩
  have hnR : nR ≤ 41 := by rw [← gnR, ← gTR, turnD_length, ← gTN]; omega
  have HR := Lib.hid (fun A1 c1 W h => givesN (gTR ▸ rremove_any A1 nN c1 TN e W h (by omega)) gnR)
  have HS1 := Lib.hid (fun A1 A2 c1 c2 W h1 h2 => same_any A1 A2 nR n1 c1 c2 TR L W h1 h2 (by omega) (by omega))
  have HXd := Lib.hid (fun A1 c1 W h => rindex_any A1 n1 c1 L d W h (by omega))
  obtain ⟨TS, gTS⟩ : ∃ v, turnD (swpR L z e) = v := ⟨_, rfl⟩
  obtain ⟨nS, gnS⟩ : ∃ v, TS.length = v := ⟨_, rfl⟩
  have hnS : nS ≤ 41 := by rw [← gnS, ← gTS, turnD_length]; omega
  have HW := Lib.hid (fun A1 c1 W h => givesN (gTS ▸ rswap_any A1 n1 c1 L z e W h (by omega)) gnS)
  obtain ⟨TB, gTB⟩ : ∃ v, turnD (swpR TS e z) = v := ⟨_, rfl⟩
  obtain ⟨nB, gnB⟩ : ∃ v, TB.length = v := ⟨_, rfl⟩
  have hnB : nB ≤ 42 := by rw [← gnB, ← gTB, turnD_length, ← gTS]; omega
  have HB := Lib.hid (fun A1 c1 W h => givesN (gTB ▸ rswap_any A1 nS c1 TS e z W h (by omega)) gnB)
  have HS2 := Lib.hid (fun A1 A2 c1 c2 W h1 h2 => same_any A1 A2 nB n1 c1 c2 TB L W h1 h2 (by omega) (by omega))
  have HXs := Lib.hid (fun A1 c1 W h => rindex_any A1 nS c1 TS z W h (by omega))
  obtain ⟨x2, gx2⟩ : ∃ v, nextD L z = v := ⟨_, rfl⟩
  obtain ⟨ok2, gok2⟩ : ∃ v, decide (z ∈ L) = v := ⟨_, rfl⟩
  obtain ⟨ok3, gok3⟩ : ∃ v, decide (x2 ∈ L) = v := ⟨_, rfl⟩
  have HN := Lib.hid (fun A1 c1 W h => rnext_any A1 n1 c1 L z W h (by omega))
  rw [gx2, gok2] at HN
  rw [gx2] at hx2
  have HV := Lib.hid (fun A1 c1 W h => rprev_any A1 n1 c1 L x2 W h (by omega))
  rw [hx2, gok3] at HV
  obtain ⟨M, gM⟩ : ∃ v, L.drop k ++ L.take k = v := ⟨_, rfl⟩
  have hMl : M.length = n1 := by rw [← gM]; simp; omega
  rw [gM] at hm
  have HSm := Lib.hid (fun A1 A2 c1 c2 W h1 h2 => same_any A1 A2 n1 n1 c1 c2 L M W h1 h2 (by omega) (by omega))
  rw [hm, decide_eq_true (rfl : turnD L = turnD L)] at HSm
  obtain ⟨TQ, gTQ⟩ : ∃ v, turnD (remR L d) = v := ⟨_, rfl⟩
  obtain ⟨nQ, gnQ⟩ : ∃ v, TQ.length = v := ⟨_, rfl⟩
  have hnQ : nQ ≤ 41 := by rw [← gnQ, ← gTQ, turnD_length]; omega
  have HQ := Lib.hid (fun A1 c1 W h => givesN (gTQ ▸ rremove_any A1 n1 c1 L d W h (by omega)) gnQ)
  have HS3 := Lib.hid (fun A1 A2 c1 c2 W h1 h2 => same_any A1 A2 nQ n1 c1 c2 TQ L W h1 h2 (by omega) (by omega))
  rw [gTQ] at hbb
  rw [hbb] at HS3
  rw [gTN, gTR] at f1
  rw [f1, decide_eq_true (rfl : turnD L = turnD L)] at HS1
  rw [gTN, gnN, gn] at f2
  rw [idxD_no hw] at HX
  rw [gTS] at f4 f5
  rw [gTB] at f4
  have f4' : turnD TB = turnD L := by rw [f4, turn_turn hnd]
  rw [f4', decide_eq_true (rfl : turnD L = turnD L)] at HS2
  rw [idxD_no f5] at HXs
  have hadd : (n1 : Int) + 1 = (nN : Int) := by omega
  rw [gTN, gx1] at f3
  have f6 := (f3 hd).symm
  subst f6
  rw [(idxD_mem hd).1] at HXd
  obtain ⟨jd, gjd⟩ : ∃ v, L.idxOf d = v := ⟨_, rfl⟩
  rw [gjd] at HXd
  rw [show decide (¬ d ∈ L) = false from decide_eq_false (fun q => q hd)] at HS3
  have hq := fun W => eq_dart_run z z W
  have hqd := fun W => eq_dart_run d d W
  rw [show decide (z = z) = true from decide_eq_true rfl] at hq
  rw [show decide (d = d) = true from decide_eq_true rfl] at hqd
  rw [gn] at hk
  have hkn : k ≤ n1 := by omega
  have hl40' : n1 ≤ 40 := by omega
  have HM := Lib.hid gM
  clear h hn gL gn gTN gnN gTR gnR gTS gnS gTB gnB gTQ gnQ gx1 gok1 gx2 gok2 gok3 hx2 hm hbb hat hzL li lr ls lb lq gz hnd hl40 hMl gM hw hd f1 f2 f3 f4 f4' f5 gjd 
  go_enter Try.func9, Try.ntmps9
  go_wp2_with fail
  refine (rg_shown _).mono ?_
  rintro e w1 ⟨rfl, hb1⟩
  have R0_2 := Lib.hid ((R0.out.al (.cells #[.int .i64 d.1, .int .i64 d.2.1, .int .i64 d.2.2, .int .i64 e.1, .int .i64 e.2.1, .int .i64 e.2.2] 53)).bl hb1)
  have Qd_2 := Lib.hid ((show Whole (w.alloc (.cells #[.int .i64 d.1, .int .i64 d.2.1, .int .i64 d.2.2, .int .i64 e.1, .int .i64 e.2.1, .int .i64 e.2.2] 53)) (w.heap.size) (53) (dartsV [d, e]) from Whole.new2 (by first | rfl | simp)).bl hb1)
  have Bel_2 := Lib.hid (bel_bl (bel_al (Below.refl _ w) (.cells #[.int .i64 d.1, .int .i64 d.2.1, .int .i64 d.2.2, .int .i64 e.1, .int .i64 e.2.1, .int .i64 e.2.2] 53)) hb1)
  clear hb1
  go_wp2_with fail
  refine (HO.out _ R0_2.out).mono ?_
  rintro e w3 ⟨A1, c1, rfl, hr1, hb3⟩
  have R0_4 := Lib.hid (R0_2.out.bl hb3)
  have Qd_4 := Lib.hid (Qd_2.out.bl hb3)
  have Bel_4 := Lib.hid (bel_bl Bel_2.out hb3)
  clear hb3
  have R1_4 := Lib.hid hr1
  clear hr1
  obtain ⟨b, off, rfl, _, _⟩ := R1_4.out.darts (by omega)
  go_upto_if 35 with fail
  go_cut [8] (fun v x => v = .int .i64 (k : Int) ∧ x = w3)
  case first =>
    rcases HAT.out with ⟨h0, rfl⟩ | ⟨a, rfl, h0, hm⟩
    · go_wp2
      go_meet
      exact ⟨rfl, rfl⟩
    · go_wp2
      go_meet
      exact ⟨by rw [hm], rfl⟩
  case rest =>
  obtain ⟨rfl, hcw⟩ := hcut
  replace hcw := hcw.symm
  subst hcw
  obtain ⟨X1, hs1, hx1⟩ := sl_l (some ⟨b, off, none⟩) n1 c1 k hkn R1_4.out.le
  obtain ⟨X2, hs2, hx2⟩ := sl_h (some ⟨b, off, none⟩) n1 c1 k hkn R1_4.out.le
  have RX1 := Lib.hid (fun W B => hx1 W B L)
  have RX2 := Lib.hid (fun W B => hx2 W B L)
  clear hx1 hx2
  go_upto_region 8 with fail
  have Qd_5 := Lib.hid (Qd_4.out.dr)
  have R1_5 := Lib.hid (R1_4.out.dr)
  have Bel_5 := Lib.hid (bel_dr Bel_4.out)
  refine wp_region_reg (From_ w3.drew.heap.size) (by kernel_rfl) ?_
  obtain ⟨y, gy⟩ : ∃ y, w3.drew = y := ⟨_, rfl⟩
  rw [gy] at Qd_5 R1_5 Bel_5 ⊢
  clear gy
  apply wpR_next 1 (some 41)
  · simp only [List.getElem?_toArray, List.getElem?_cons_succ, List.getElem?_cons_zero]; exact rfl
  · rfl
  · kernel_rfl
  · kernel_rfl
  · kernel_rfl
  · exact fun _ _ _ _ h => h
  apply Exists.intro
  apply And.intro
  · apply yr_run; rfl; intro w' hw'; go_simp; (try with_reducible rfl)
  simp only [Act.put, List.setIfInBounds_toArray, List.set_cons_zero, List.set_cons_succ]
  apply wpR_next 2 (some 42)
  · simp only [List.getElem?_toArray, List.getElem?_cons_succ, List.getElem?_cons_zero]; exact rfl
  · rfl
  · kernel_rfl
  · kernel_rfl
  · kernel_rfl
  · exact fun _ _ _ _ h => h
  apply Exists.intro
  apply And.intro
  · apply yr_run; rfl; intro w' hw'; go_simp; (try with_reducible rfl)
  simp only [Act.put, List.setIfInBounds_toArray, List.set_cons_zero, List.set_cons_succ]
  apply wpR_next 3 (some 43)
  · simp only [List.getElem?_toArray, List.getElem?_cons_succ, List.getElem?_cons_zero]; exact rfl
  · rfl
  · kernel_rfl
  · kernel_rfl
  · kernel_rfl
  · exact fun _ _ _ _ h => h
  apply Exists.intro
  apply And.intro
  · apply yr_run; rfl; intro w' hw'; go_simp; (try with_reducible rfl)
  simp only [Act.put, List.setIfInBounds_toArray, List.set_cons_zero, List.set_cons_succ]
  apply wpR_next 5 (some 45)
  · simp only [List.getElem?_toArray, List.getElem?_cons_succ, List.getElem?_cons_zero]; exact rfl
  · rfl
  · kernel_rfl
  · kernel_rfl
  · kernel_rfl
  · exact fun _ _ _ _ h => h
  apply Exists.intro
  apply And.intro
  · apply yr_run; rfl; intro w' hw'; go_simp; (try with_reducible rfl)
  simp only [Act.put, List.setIfInBounds_toArray, List.set_cons_zero, List.set_cons_succ]
  apply wpR_next 6 (some 46)
  · simp only [List.getElem?_toArray, List.getElem?_cons_succ, List.getElem?_cons_zero]; exact rfl
  · rfl
  · kernel_rfl
  · kernel_rfl
  · kernel_rfl
  · exact fun _ _ _ _ h => h
  apply Exists.intro
  apply And.intro
  · apply yr_run; rfl; intro w' hw'; go_simp; (try with_reducible rfl)
  simp only [Act.put, List.setIfInBounds_toArray, List.set_cons_zero, List.set_cons_succ]
  apply wpR_next 7 (some 47)
  · simp only [List.getElem?_toArray, List.getElem?_cons_succ, List.getElem?_cons_zero]; exact rfl
  · rfl
  · kernel_rfl
  · kernel_rfl
  · kernel_rfl
  · exact fun _ _ _ _ h => h
  apply Exists.intro
  apply And.intro
  · apply yr_run; rfl; intro w' hw'; go_simp; (try with_reducible rfl)
  simp only [Act.put, List.setIfInBounds_toArray, List.set_cons_zero, List.set_cons_succ]
  apply wpR_run 0 (some 40)
  · simp only [List.getElem?_toArray, List.getElem?_cons_succ, List.getElem?_cons_zero]; exact rfl
  · rfl
  · kernel_rfl
  · rfl
  intro w' hw'
  apply Exists.intro
  apply Exists.intro
  apply And.intro
  · go_simp; exact ⟨rfl, rfl⟩
  apply And.intro
  · exact Kept.of_below (below1 _ _)
  have HO0 : RowKit.Hid (Ow y y.heap.size 46 3 (.slice (some ⟨w'.heap.size, 0, none⟩) 0 0) 0 [] (w'.alloc (.cells #[] 46))) := Lib.hid (Ow.new_ (cs := #[]) hw' (Nat.le_refl _) hw'.size (Nat.zero_le _) rfl)
  obtain ⟨v1, gv1⟩ : ∃ x, w'.alloc (.cells #[] 46) = x := ⟨_, rfl⟩
  obtain ⟨g1, gg1⟩ : ∃ x, w'.heap.size = x := ⟨_, rfl⟩
  rw [gv1, gg1] at HO0
  rw [gv1, gg1]
  clear gv1 gg1 hw'
  simp only [Act.put, List.setIfInBounds_toArray, List.set_cons_zero, List.set_cons_succ]
  apply wpR_run 4 (some 44)
  · simp only [List.getElem?_toArray, List.getElem?_cons_succ, List.getElem?_cons_zero]; exact rfl
  · rfl
  · kernel_rfl
  · rfl
  intro w' hw'
  obtain ⟨vaHO1, waHO1, hrun, hOA, hbA⟩ := Ow.app (P := Try.prog) 42 42 46 i0 _ 3 24 y.heap.size Try.underlying42 hi hz0 hz1 hz2 rfl (by decide) _ _ _ (HO0.out.up hw') _ _ _ _ _ (RX1.out _ _ (R1_5.out.up (HO0.out.up hw').below (HO0.out.up hw').below.size)) (dartsV_one _) (by unfold maxLen; omega) (by omega)
  have HO1 := Lib.hid hOA
  refine ⟨_, waHO1, exec_append rfl rfl rfl hrun, Kept.of_from hbA, ?_⟩
  clear hrun hOA hbA hw'
  simp only [Act.put, List.setIfInBounds_toArray, List.set_cons_zero, List.set_cons_succ]
  apply wpR_run 8 (some 48)
  · simp only [List.getElem?_toArray, List.getElem?_cons_succ, List.getElem?_cons_zero]; exact rfl
  · rfl
  · kernel_rfl
  · rfl
  intro w' hw'
  obtain ⟨vaHO2, waHO2, hrun, hOA, hbA⟩ := Ow.app (P := Try.prog) 42 42 46 i0 _ 3 24 y.heap.size Try.underlying42 hi hz0 hz1 hz2 rfl (by decide) _ _ _ (HO1.out.up hw') _ _ _ _ _ (RX2.out _ _ (R1_5.out.up (HO1.out.up hw').below (HO1.out.up hw').below.size)) (dartsV_one _) (by unfold maxLen; omega) (by omega)
  have HO2 := Lib.hid hOA
  refine ⟨_, waHO2, exec_append rfl rfl rfl hrun, Kept.of_from hbA, ?_⟩
  clear hrun hOA hbA hw'
  simp only [Act.put, List.setIfInBounds_toArray, List.set_cons_zero, List.set_cons_succ]
  apply wpR_next 9 (some 9)
  · simp only [List.getElem?_toArray, List.getElem?_cons_succ, List.getElem?_cons_zero]; exact rfl
  · rfl
  · kernel_rfl
  · kernel_rfl
  · kernel_rfl
  · exact fun _ _ _ _ h => h
  apply Exists.intro
  apply And.intro
  · apply yr_run; rfl; intro w' hw'; go_simp; (try with_reducible rfl)
  simp only [Act.put, List.setIfInBounds_toArray, List.set_cons_zero, List.set_cons_succ]
  refine wpR_done (by kernel_rfl) ?_ _
  intro w9 hw'
  have HO3 := Lib.hid (HO2.out.up hw')
  clear HO0 HO1 HO2 hw'
  have hb9 := HO3.out.below
  obtain ⟨A2, c2, hv2, hr2⟩ := HO3.out.rds
  rw [List.nil_append, ← dartsV_app, HM.out] at hr2
  rw [show 0 + (n1 - k) + k = n1 by omega] at hr2 hv2
  subst hv2
  have Qd_6 := Lib.hid (Qd_5.out.bl hb9)
  have R1_6 := Lib.hid (R1_5.out.bl hb9)
  have Bel_6 := Lib.hid (bel_bl Bel_5.out hb9)
  clear hb9 HO3
  have R2_7 := Lib.hid (hr2)
  clear hr2
  have lw9 : (w9).cell? ⟨w.heap.size, 0, none⟩ = some (.int .i64 d.1) := Qd_6.out.cell (i := 0) rfl
  have lw10 : (w9).cell? ⟨w.heap.size, 1, none⟩ = some (.int .i64 d.2.1) := Qd_6.out.cell (i := 1) rfl
  have lw11 : (w9).cell? ⟨w.heap.size, 2, none⟩ = some (.int .i64 d.2.2) := Qd_6.out.cell (i := 2) rfl
  have lw12 : (w9).cell? ⟨w.heap.size, 3, none⟩ = some (.int .i64 e.1) := Qd_6.out.cell (i := 3) rfl
  have lw13 : (w9).cell? ⟨w.heap.size, 4, none⟩ = some (.int .i64 e.2.1) := Qd_6.out.cell (i := 4) rfl
  have lw14 : (w9).cell? ⟨w.heap.size, 5, none⟩ = some (.int .i64 e.2.2) := Qd_6.out.cell (i := 5) rfl
  go_wp2_with fail
  clear lw9 lw10 lw11 lw12 lw13 lw14
  refine (HI.out _ _ _ R1_6.out).mono ?_
  rintro e w8 ⟨A3, c3, rfl, hr3, hb8⟩
  have Qd_15 := Lib.hid (Qd_6.out.bl hb8)
  have R1_15 := Lib.hid (R1_6.out.bl hb8)
  have R2_15 := Lib.hid (R2_7.out.bl hb8)
  have Bel_15 := Lib.hid (bel_bl Bel_6.out hb8)
  clear hb8
  have RN_15 := Lib.hid hr3
  clear hr3
  have lw17 : (w8).cell? ⟨w.heap.size, 3, none⟩ = some (.int .i64 e.1) := Qd_15.out.cell (i := 3) rfl
  have lw18 : (w8).cell? ⟨w.heap.size, 4, none⟩ = some (.int .i64 e.2.1) := Qd_15.out.cell (i := 4) rfl
  have lw19 : (w8).cell? ⟨w.heap.size, 5, none⟩ = some (.int .i64 e.2.2) := Qd_15.out.cell (i := 5) rfl
  go_wp2_with fail
  clear lw17 lw18 lw19
  refine (HX.out _ _ _ R1_15.out).mono ?_
  rintro e w16 ⟨rfl, hb16⟩
  have Qd_20 := Lib.hid (Qd_15.out.bl hb16)
  have R1_20 := Lib.hid (R1_15.out.bl hb16)
  have R2_20 := Lib.hid (R2_15.out.bl hb16)
  have RN_20 := Lib.hid (RN_15.out.bl hb16)
  have Bel_20 := Lib.hid (bel_bl Bel_15.out hb16)
  clear hb16
  have lw22 : (w16).cell? ⟨w.heap.size, 3, none⟩ = some (.int .i64 e.1) := Qd_20.out.cell (i := 3) rfl
  have lw23 : (w16).cell? ⟨w.heap.size, 4, none⟩ = some (.int .i64 e.2.1) := Qd_20.out.cell (i := 4) rfl
  have lw24 : (w16).cell? ⟨w.heap.size, 5, none⟩ = some (.int .i64 e.2.2) := Qd_20.out.cell (i := 5) rfl
  go_wp2_with fail
  clear lw22 lw23 lw24
  refine (HP.out _ _ _ RN_20.out).mono ?_
  rintro e w21 ⟨rfl, hb21⟩
  have Qd_25 := Lib.hid (Qd_20.out.bl hb21)
  have R1_25 := Lib.hid (R1_20.out.bl hb21)
  have R2_25 := Lib.hid (R2_20.out.bl hb21)
  have RN_25 := Lib.hid (RN_20.out.bl hb21)
  have Bel_25 := Lib.hid (bel_bl Bel_20.out hb21)
  clear hb21
  have lw27 : ((w21.alloc (.cells #[.int .i64 d.1, .int .i64 d.2.1, .int .i64 d.2.2] 46))).cell? ⟨w.heap.size, 3, none⟩ = some (.int .i64 e.1) := (Qd_25.out.al (.cells #[.int .i64 d.1, .int .i64 d.2.1, .int .i64 d.2.2] 46)).cell (i := 3) rfl
  have lw28 : ((w21.alloc (.cells #[.int .i64 d.1, .int .i64 d.2.1, .int .i64 d.2.2] 46))).cell? ⟨w.heap.size, 4, none⟩ = some (.int .i64 e.2.1) := (Qd_25.out.al (.cells #[.int .i64 d.1, .int .i64 d.2.1, .int .i64 d.2.2] 46)).cell (i := 4) rfl
  have lw29 : ((w21.alloc (.cells #[.int .i64 d.1, .int .i64 d.2.1, .int .i64 d.2.2] 46))).cell? ⟨w.heap.size, 5, none⟩ = some (.int .i64 e.2.2) := (Qd_25.out.al (.cells #[.int .i64 d.1, .int .i64 d.2.1, .int .i64 d.2.2] 46)).cell (i := 5) rfl
  go_wp2_with fail
  clear lw27 lw28 lw29
  refine (HR.out _ _ _ (RN_25.out.al (.cells #[.int .i64 d.1, .int .i64 d.2.1, .int .i64 d.2.2] 46))).mono ?_
  rintro e w26 ⟨A4, c4, rfl, hr4, hb26⟩
  have Qd_30 := Lib.hid ((Qd_25.out.al (.cells #[.int .i64 d.1, .int .i64 d.2.1, .int .i64 d.2.2] 46)).bl hb26)
  have R1_30 := Lib.hid ((R1_25.out.al (.cells #[.int .i64 d.1, .int .i64 d.2.1, .int .i64 d.2.2] 46)).bl hb26)
  have R2_30 := Lib.hid ((R2_25.out.al (.cells #[.int .i64 d.1, .int .i64 d.2.1, .int .i64 d.2.2] 46)).bl hb26)
  have RN_30 := Lib.hid ((RN_25.out.al (.cells #[.int .i64 d.1, .int .i64 d.2.1, .int .i64 d.2.2] 46)).bl hb26)
  have Qp_30 := Lib.hid ((show Whole (w21.alloc (.cells #[.int .i64 d.1, .int .i64 d.2.1, .int .i64 d.2.2] 46)) (w21.heap.size) (46) (dartsV [d]) from Whole.new2 (by first | rfl | simp)).bl hb26)
  have Bel_30 := Lib.hid (bel_bl (bel_al Bel_25.out (.cells #[.int .i64 d.1, .int .i64 d.2.1, .int .i64 d.2.2] 46)) hb26)
  clear hb26
  have RR_30 := Lib.hid hr4
  clear hr4
  go_wp2_with fail
  refine (HS1.out _ _ _ _ _ RR_30.out R1_30.out).mono ?_
  rintro e w31 ⟨rfl, hb31⟩
  have Qd_32 := Lib.hid (Qd_30.out.bl hb31)
  have R1_32 := Lib.hid (R1_30.out.bl hb31)
  have R2_32 := Lib.hid (R2_30.out.bl hb31)
  have RN_32 := Lib.hid (RN_30.out.bl hb31)
  have Qp_32 := Lib.hid (Qp_30.out.bl hb31)
  have RR_32 := Lib.hid (RR_30.out.bl hb31)
  have Bel_32 := Lib.hid (bel_bl Bel_30.out hb31)
  clear hb31
  have lw34 : (w31).cell? ⟨w.heap.size, 0, none⟩ = some (.int .i64 d.1) := Qd_32.out.cell (i := 0) rfl
  have lw35 : (w31).cell? ⟨w.heap.size, 1, none⟩ = some (.int .i64 d.2.1) := Qd_32.out.cell (i := 1) rfl
  have lw36 : (w31).cell? ⟨w.heap.size, 2, none⟩ = some (.int .i64 d.2.2) := Qd_32.out.cell (i := 2) rfl
  go_wp2_with fail
  clear lw34 lw35 lw36
  refine (HXd.out _ _ _ R1_32.out).mono ?_
  rintro e w33 ⟨rfl, hb33⟩
  have Qd_37 := Lib.hid (Qd_32.out.bl hb33)
  have R1_37 := Lib.hid (R1_32.out.bl hb33)
  have R2_37 := Lib.hid (R2_32.out.bl hb33)
  have Qp_37 := Lib.hid (Qp_32.out.bl hb33)
  have Bel_37 := Lib.hid (bel_bl Bel_32.out hb33)
  clear hb33
  have lw38 : (w33).cell? ⟨w21.heap.size, 0, none⟩ = some (.int .i64 d.1) := Qp_37.out.cell (i := 0) rfl
  have lw39 : (w33).cell? ⟨w21.heap.size, 1, none⟩ = some (.int .i64 d.2.1) := Qp_37.out.cell (i := 1) rfl
  have lw40 : (w33).cell? ⟨w21.heap.size, 2, none⟩ = some (.int .i64 d.2.2) := Qp_37.out.cell (i := 2) rfl
  have lw41 : (w33).cell? ⟨w.heap.size, 0, none⟩ = some (.int .i64 d.1) := Qd_37.out.cell (i := 0) rfl
  have lw42 : (w33).cell? ⟨w.heap.size, 1, none⟩ = some (.int .i64 d.2.1) := Qd_37.out.cell (i := 1) rfl
  have lw43 : (w33).cell? ⟨w.heap.size, 2, none⟩ = some (.int .i64 d.2.2) := Qd_37.out.cell (i := 2) rfl
  go_upto_region 13 with fail
  clear lw38 lw39 lw40 lw41 lw42 lw43
  have Qd_44 := Lib.hid (Qd_37.out.dr)
  have R1_44 := Lib.hid (R1_37.out.dr)
  have R2_44 := Lib.hid (R2_37.out.dr)
  have Qp_44 := Lib.hid (Qp_37.out.dr)
  have Bel_44 := Lib.hid (bel_dr Bel_37.out)
  have ld45 : ∀ w', Kept Nil_ w33.drew w' → w'.cell? ⟨b, off + k * 3, none⟩ = some (.int .i64 z.1) := fun w' h => h.nil_cell ((R1_44.out.dat hk GZ.out).1)
  have ld46 : ∀ w', Kept Nil_ w33.drew w' → w'.cell? ⟨b, off + k * 3 + 1, none⟩ = some (.int .i64 z.2.1) := fun w' h => h.nil_cell ((R1_44.out.dat hk GZ.out).2.1)
  have ld47 : ∀ w', Kept Nil_ w33.drew w' → w'.cell? ⟨b, off + k * 3 + 2, none⟩ = some (.int .i64 z.2.2) := fun w' h => h.nil_cell ((R1_44.out.dat hk GZ.out).2.2)
  have ld48 : ∀ w', Kept Nil_ w33.drew w' → w'.cell? ⟨w.heap.size, 3, none⟩ = some (.int .i64 e.1) := fun w' h => h.nil_cell (Qd_44.out.cell (i := 3) rfl)
  have ld49 : ∀ w', Kept Nil_ w33.drew w' → w'.cell? ⟨w.heap.size, 4, none⟩ = some (.int .i64 e.2.1) := fun w' h => h.nil_cell (Qd_44.out.cell (i := 4) rfl)
  have ld50 : ∀ w', Kept Nil_ w33.drew w' → w'.cell? ⟨w.heap.size, 5, none⟩ = some (.int .i64 e.2.2) := fun w' h => h.nil_cell (Qd_44.out.cell (i := 5) rfl)
  refine wp_region_reg Nil_ (by kernel_rfl) ?_
  apply wpR_next 0 (some 97)
  · simp only [List.getElem?_toArray, List.getElem?_cons_succ, List.getElem?_cons_zero]; exact rfl
  · rfl
  · kernel_rfl
  · kernel_rfl
  · kernel_rfl
  · exact fun _ _ _ _ h => h
  apply Exists.intro
  apply And.intro
  · apply yr_run; rfl; intro w' hw'; go_simp; (try with_reducible rfl)
  simp only [Act.put, List.setIfInBounds_toArray, List.set_cons_zero, List.set_cons_succ]
  apply wpR_next 1 (some 98)
  · simp only [List.getElem?_toArray, List.getElem?_cons_succ, List.getElem?_cons_zero]; exact rfl
  · rfl
  · kernel_rfl
  · kernel_rfl
  · kernel_rfl
  · exact fun _ _ _ _ h => h
  apply Exists.intro
  apply And.intro
  · apply yr_run; rfl; intro w' hw'; go_simp; (try with_reducible rfl)
  simp only [Act.put, List.setIfInBounds_toArray, List.set_cons_zero, List.set_cons_succ]
  apply wpR_next 2 (some 99)
  · simp only [List.getElem?_toArray, List.getElem?_cons_succ, List.getElem?_cons_zero]; exact rfl
  · rfl
  · kernel_rfl
  · kernel_rfl
  · kernel_rfl
  · exact fun _ _ _ _ h => h
  apply Exists.intro
  apply And.intro
  · apply yr_run; rfl; intro w' hw'; go_simp; (try with_reducible rfl)
  simp only [Act.put, List.setIfInBounds_toArray, List.set_cons_zero, List.set_cons_succ]
  apply wpR_next 3 (some 100)
  · simp only [List.getElem?_toArray, List.getElem?_cons_succ, List.getElem?_cons_zero]; exact rfl
  · rfl
  · kernel_rfl
  · kernel_rfl
  · kernel_rfl
  · exact fun _ _ _ _ h => h
  apply Exists.intro
  apply And.intro
  · apply yr_run; rfl; intro w' hw'; go_simp; (try with_reducible rfl)
  simp only [Act.put, List.setIfInBounds_toArray, List.set_cons_zero, List.set_cons_succ]
  apply wpR_next 4 (some 101)
  · simp only [List.getElem?_toArray, List.getElem?_cons_succ, List.getElem?_cons_zero]; exact rfl
  · rfl
  · kernel_rfl
  · kernel_rfl
  · kernel_rfl
  · exact fun _ _ _ _ h => h
  apply Exists.intro
  apply And.intro
  · apply yr_run; rfl; intro w' hw'; go_simp; (try with_reducible rfl)
  simp only [Act.put, List.setIfInBounds_toArray, List.set_cons_zero, List.set_cons_succ]
  apply wpR_next 5 (some 102)
  · simp only [List.getElem?_toArray, List.getElem?_cons_succ, List.getElem?_cons_zero]; exact rfl
  · rfl
  · kernel_rfl
  · kernel_rfl
  · kernel_rfl
  · exact fun _ _ _ _ h => h
  apply Exists.intro
  apply And.intro
  · apply yr_run; rfl; intro w' hw'; go_simp; (try with_reducible rfl)
  simp only [Act.put, List.setIfInBounds_toArray, List.set_cons_zero, List.set_cons_succ]
  apply wpR_next 6 (some 103)
  · simp only [List.getElem?_toArray, List.getElem?_cons_succ, List.getElem?_cons_zero]; exact rfl
  · rfl
  · kernel_rfl
  · kernel_rfl
  · kernel_rfl
  · exact fun _ _ _ _ h => h
  apply Exists.intro
  apply And.intro
  · apply yr_run; rfl; intro w' hw'; go_simp; (try with_reducible rfl)
  simp only [Act.put, List.setIfInBounds_toArray, List.set_cons_zero, List.set_cons_succ]
  apply wpR_call 7 (some 104)
  · simp only [List.getElem?_toArray, List.getElem?_cons_succ, List.getElem?_cons_zero]; exact rfl
  · rfl
  · kernel_rfl
  · rfl
  · intro w'; go_simp; first | done | exact ⟨rfl, rfl⟩ | with_reducible rfl
  intro w' hw'
  refine (HW.out _ _ _ (R1_44.out.bl hw')).mono ?_
  rintro e w51 ⟨A5, c5, rfl, hr5, hb51⟩
  have Qd_51 := Lib.hid ((Qd_44.out.bl hw').bl hb51)
  have R1_51 := Lib.hid ((R1_44.out.bl hw').bl hb51)
  have R2_51 := Lib.hid ((R2_44.out.bl hw').bl hb51)
  have Qp_51 := Lib.hid ((Qp_44.out.bl hw').bl hb51)
  have Bel_51 := Lib.hid (bel_bl (bel_bl Bel_44.out hw') hb51)
  have ld52 := fun w'' (h : Kept Nil_ w51 w'') => ld45 w'' ((Kept.of_ext hw').trans ((Kept.of_below hb51).trans h))
  have ld53 := fun w'' (h : Kept Nil_ w51 w'') => ld46 w'' ((Kept.of_ext hw').trans ((Kept.of_below hb51).trans h))
  have ld54 := fun w'' (h : Kept Nil_ w51 w'') => ld47 w'' ((Kept.of_ext hw').trans ((Kept.of_below hb51).trans h))
  have ld55 := fun w'' (h : Kept Nil_ w51 w'') => ld48 w'' ((Kept.of_ext hw').trans ((Kept.of_below hb51).trans h))
  have ld56 := fun w'' (h : Kept Nil_ w51 w'') => ld49 w'' ((Kept.of_ext hw').trans ((Kept.of_below hb51).trans h))
  have ld57 := fun w'' (h : Kept Nil_ w51 w'') => ld50 w'' ((Kept.of_ext hw').trans ((Kept.of_below hb51).trans h))
  refine ⟨_, rfl, Kept.of_below hb51, ?_⟩
  clear hw' hb51
  have RS_51 := Lib.hid hr5
  clear hr5
  simp only [Act.put, List.setIfInBounds_toArray, List.set_cons_zero, List.set_cons_succ]
  apply wpR_next 8 (some 15)
  · simp only [List.getElem?_toArray, List.getElem?_cons_succ, List.getElem?_cons_zero]; exact rfl
  · rfl
  · kernel_rfl
  · kernel_rfl
  · kernel_rfl
  · exact fun _ _ _ _ h => h
  apply Exists.intro
  apply And.intro
  · apply yr_run; rfl; intro w' hw'; go_simp; (try with_reducible rfl)
  simp only [Act.put, List.setIfInBounds_toArray, List.set_cons_zero, List.set_cons_succ]
  refine wpR_done (by kernel_rfl) ?_ _
  intro w58 hw'
  have Qd_59 := Lib.hid (Qd_51.out.bl hw')
  have R1_59 := Lib.hid (R1_51.out.bl hw')
  have R2_59 := Lib.hid (R2_51.out.bl hw')
  have Qp_59 := Lib.hid (Qp_51.out.bl hw')
  have RS_59 := Lib.hid (RS_51.out.bl hw')
  have Bel_59 := Lib.hid (bel_bl Bel_51.out hw')
  clear hw'
  go_upto_region 14 with fail
  have Qd_60 := Lib.hid (Qd_59.out.dr)
  have R1_60 := Lib.hid (R1_59.out.dr)
  have R2_60 := Lib.hid (R2_59.out.dr)
  have Qp_60 := Lib.hid (Qp_59.out.dr)
  have RS_60 := Lib.hid (RS_59.out.dr)
  have Bel_60 := Lib.hid (bel_dr Bel_59.out)
  have ld61 : ∀ w', Kept Nil_ w58.drew w' → w'.cell? ⟨b, off + k * 3, none⟩ = some (.int .i64 z.1) := fun w' h => h.nil_cell ((R1_60.out.dat hk GZ.out).1)
  have ld62 : ∀ w', Kept Nil_ w58.drew w' → w'.cell? ⟨b, off + k * 3 + 1, none⟩ = some (.int .i64 z.2.1) := fun w' h => h.nil_cell ((R1_60.out.dat hk GZ.out).2.1)
  have ld63 : ∀ w', Kept Nil_ w58.drew w' → w'.cell? ⟨b, off + k * 3 + 2, none⟩ = some (.int .i64 z.2.2) := fun w' h => h.nil_cell ((R1_60.out.dat hk GZ.out).2.2)
  have ld64 : ∀ w', Kept Nil_ w58.drew w' → w'.cell? ⟨w.heap.size, 3, none⟩ = some (.int .i64 e.1) := fun w' h => h.nil_cell (Qd_60.out.cell (i := 3) rfl)
  have ld65 : ∀ w', Kept Nil_ w58.drew w' → w'.cell? ⟨w.heap.size, 4, none⟩ = some (.int .i64 e.2.1) := fun w' h => h.nil_cell (Qd_60.out.cell (i := 4) rfl)
  have ld66 : ∀ w', Kept Nil_ w58.drew w' → w'.cell? ⟨w.heap.size, 5, none⟩ = some (.int .i64 e.2.2) := fun w' h => h.nil_cell (Qd_60.out.cell (i := 5) rfl)
  refine wp_region_reg Nil_ (by kernel_rfl) ?_
  apply wpR_next 0 (some 105)
  · simp only [List.getElem?_toArray, List.getElem?_cons_succ, List.getElem?_cons_zero]; exact rfl
  · rfl
  · kernel_rfl
  · kernel_rfl
  · kernel_rfl
  · exact fun _ _ _ _ h => h
  apply Exists.intro
  apply And.intro
  · apply yr_run; rfl; intro w' hw'; go_simp; (try with_reducible rfl)
  simp only [Act.put, List.setIfInBounds_toArray, List.set_cons_zero, List.set_cons_succ]
  apply wpR_next 1 (some 106)
  · simp only [List.getElem?_toArray, List.getElem?_cons_succ, List.getElem?_cons_zero]; exact rfl
  · rfl
  · kernel_rfl
  · kernel_rfl
  · kernel_rfl
  · exact fun _ _ _ _ h => h
  apply Exists.intro
  apply And.intro
  · apply yr_run; rfl; intro w' hw'; go_simp; (try with_reducible rfl)
  simp only [Act.put, List.setIfInBounds_toArray, List.set_cons_zero, List.set_cons_succ]
  apply wpR_next 2 (some 107)
  · simp only [List.getElem?_toArray, List.getElem?_cons_succ, List.getElem?_cons_zero]; exact rfl
  · rfl
  · kernel_rfl
  · kernel_rfl
  · kernel_rfl
  · exact fun _ _ _ _ h => h
  apply Exists.intro
  apply And.intro
  · apply yr_run; rfl; intro w' hw'; go_simp; (try with_reducible rfl)
  simp only [Act.put, List.setIfInBounds_toArray, List.set_cons_zero, List.set_cons_succ]
  apply wpR_next 3 (some 108)
  · simp only [List.getElem?_toArray, List.getElem?_cons_succ, List.getElem?_cons_zero]; exact rfl
  · rfl
  · kernel_rfl
  · kernel_rfl
  · kernel_rfl
  · exact fun _ _ _ _ h => h
  apply Exists.intro
  apply And.intro
  · apply yr_run; rfl; intro w' hw'; go_simp; (try with_reducible rfl)
  simp only [Act.put, List.setIfInBounds_toArray, List.set_cons_zero, List.set_cons_succ]
  apply wpR_next 4 (some 109)
  · simp only [List.getElem?_toArray, List.getElem?_cons_succ, List.getElem?_cons_zero]; exact rfl
  · rfl
  · kernel_rfl
  · kernel_rfl
  · kernel_rfl
  · exact fun _ _ _ _ h => h
  apply Exists.intro
  apply And.intro
  · apply yr_run; rfl; intro w' hw'; go_simp; (try with_reducible rfl)
  simp only [Act.put, List.setIfInBounds_toArray, List.set_cons_zero, List.set_cons_succ]
  apply wpR_next 5 (some 110)
  · simp only [List.getElem?_toArray, List.getElem?_cons_succ, List.getElem?_cons_zero]; exact rfl
  · rfl
  · kernel_rfl
  · kernel_rfl
  · kernel_rfl
  · exact fun _ _ _ _ h => h
  apply Exists.intro
  apply And.intro
  · apply yr_run; rfl; intro w' hw'; go_simp; (try with_reducible rfl)
  simp only [Act.put, List.setIfInBounds_toArray, List.set_cons_zero, List.set_cons_succ]
  apply wpR_next 6 (some 111)
  · simp only [List.getElem?_toArray, List.getElem?_cons_succ, List.getElem?_cons_zero]; exact rfl
  · rfl
  · kernel_rfl
  · kernel_rfl
  · kernel_rfl
  · exact fun _ _ _ _ h => h
  apply Exists.intro
  apply And.intro
  · apply yr_run; rfl; intro w' hw'; go_simp; (try with_reducible rfl)
  simp only [Act.put, List.setIfInBounds_toArray, List.set_cons_zero, List.set_cons_succ]
  apply wpR_next 7 (some 112)
  · simp only [List.getElem?_toArray, List.getElem?_cons_succ, List.getElem?_cons_zero]; exact rfl
  · rfl
  · kernel_rfl
  · kernel_rfl
  · kernel_rfl
  · exact fun _ _ _ _ h => h
  apply Exists.intro
  apply And.intro
  · apply yr_run; rfl; intro w' hw'; go_simp; (try with_reducible rfl)
  simp only [Act.put, List.setIfInBounds_toArray, List.set_cons_zero, List.set_cons_succ]
  apply wpR_next 8 (some 113)
  · simp only [List.getElem?_toArray, List.getElem?_cons_succ, List.getElem?_cons_zero]; exact rfl
  · rfl
  · kernel_rfl
  · kernel_rfl
  · kernel_rfl
  · exact fun _ _ _ _ h => h
  apply Exists.intro
  apply And.intro
  · apply yr_run; rfl; intro w' hw'; go_simp; (try with_reducible rfl)
  simp only [Act.put, List.setIfInBounds_toArray, List.set_cons_zero, List.set_cons_succ]
  apply wpR_next 10 (some 115)
  · simp only [List.getElem?_toArray, List.getElem?_cons_succ, List.getElem?_cons_zero]; exact rfl
  · rfl
  · kernel_rfl
  · kernel_rfl
  · kernel_rfl
  · exact fun _ _ _ _ h => h
  apply Exists.intro
  apply And.intro
  · apply yr_run; rfl; intro w' hw'; go_simp; (try with_reducible rfl)
  simp only [Act.put, List.setIfInBounds_toArray, List.set_cons_zero, List.set_cons_succ]
  apply wpR_call 9 (some 114)
  · simp only [List.getElem?_toArray, List.getElem?_cons_succ, List.getElem?_cons_zero]; exact rfl
  · rfl
  · kernel_rfl
  · rfl
  · intro w'; go_simp; first | done | exact ⟨rfl, rfl⟩ | with_reducible rfl
  intro w' hw'
  refine (HB.out _ _ _ (RS_60.out.bl hw')).mono ?_
  rintro e w67 ⟨A6, c6, rfl, hr6, hb67⟩
  have Qd_67 := Lib.hid ((Qd_60.out.bl hw').bl hb67)
  have R1_67 := Lib.hid ((R1_60.out.bl hw').bl hb67)
  have R2_67 := Lib.hid ((R2_60.out.bl hw').bl hb67)
  have Qp_67 := Lib.hid ((Qp_60.out.bl hw').bl hb67)
  have RS_67 := Lib.hid ((RS_60.out.bl hw').bl hb67)
  have Bel_67 := Lib.hid (bel_bl (bel_bl Bel_60.out hw') hb67)
  have ld68 := fun w'' (h : Kept Nil_ w67 w'') => ld61 w'' ((Kept.of_ext hw').trans ((Kept.of_below hb67).trans h))
  have ld69 := fun w'' (h : Kept Nil_ w67 w'') => ld62 w'' ((Kept.of_ext hw').trans ((Kept.of_below hb67).trans h))
  have ld70 := fun w'' (h : Kept Nil_ w67 w'') => ld63 w'' ((Kept.of_ext hw').trans ((Kept.of_below hb67).trans h))
  have ld71 := fun w'' (h : Kept Nil_ w67 w'') => ld64 w'' ((Kept.of_ext hw').trans ((Kept.of_below hb67).trans h))
  have ld72 := fun w'' (h : Kept Nil_ w67 w'') => ld65 w'' ((Kept.of_ext hw').trans ((Kept.of_below hb67).trans h))
  have ld73 := fun w'' (h : Kept Nil_ w67 w'') => ld66 w'' ((Kept.of_ext hw').trans ((Kept.of_below hb67).trans h))
  refine ⟨_, rfl, Kept.of_below hb67, ?_⟩
  clear hw' hb67
  have RB_67 := Lib.hid hr6
  clear hr6
  simp only [Act.put, List.setIfInBounds_toArray, List.set_cons_zero, List.set_cons_succ]
  apply wpR_call 11 (some 116)
  · simp only [List.getElem?_toArray, List.getElem?_cons_succ, List.getElem?_cons_zero]; exact rfl
  · rfl
  · kernel_rfl
  · rfl
  · intro w'; go_simp; first | done | exact ⟨rfl, rfl⟩ | with_reducible rfl
  intro w' hw'
  refine (HS2.out _ _ _ _ _ (RB_67.out.bl hw') (R1_67.out.bl hw')).mono ?_
  rintro e w74 ⟨rfl, hb74⟩
  have Qd_74 := Lib.hid ((Qd_67.out.bl hw').bl hb74)
  have R1_74 := Lib.hid ((R1_67.out.bl hw').bl hb74)
  have R2_74 := Lib.hid ((R2_67.out.bl hw').bl hb74)
  have Qp_74 := Lib.hid ((Qp_67.out.bl hw').bl hb74)
  have RS_74 := Lib.hid ((RS_67.out.bl hw').bl hb74)
  have RB_74 := Lib.hid ((RB_67.out.bl hw').bl hb74)
  have Bel_74 := Lib.hid (bel_bl (bel_bl Bel_67.out hw') hb74)
  have ld75 := fun w'' (h : Kept Nil_ w74 w'') => ld68 w'' ((Kept.of_ext hw').trans ((Kept.of_below hb74).trans h))
  have ld76 := fun w'' (h : Kept Nil_ w74 w'') => ld69 w'' ((Kept.of_ext hw').trans ((Kept.of_below hb74).trans h))
  have ld77 := fun w'' (h : Kept Nil_ w74 w'') => ld70 w'' ((Kept.of_ext hw').trans ((Kept.of_below hb74).trans h))
  have ld78 := fun w'' (h : Kept Nil_ w74 w'') => ld71 w'' ((Kept.of_ext hw').trans ((Kept.of_below hb74).trans h))
  have ld79 := fun w'' (h : Kept Nil_ w74 w'') => ld72 w'' ((Kept.of_ext hw').trans ((Kept.of_below hb74).trans h))
  have ld80 := fun w'' (h : Kept Nil_ w74 w'') => ld73 w'' ((Kept.of_ext hw').trans ((Kept.of_below hb74).trans h))
  refine ⟨_, rfl, Kept.of_below hb74, ?_⟩
  clear hw' hb74
  simp only [Act.put, List.setIfInBounds_toArray, List.set_cons_zero, List.set_cons_succ]
  apply wpR_next 12 (some 117)
  · simp only [List.getElem?_toArray, List.getElem?_cons_succ, List.getElem?_cons_zero]; exact rfl
  · rfl
  · kernel_rfl
  · kernel_rfl
  · kernel_rfl
  · exact fun _ _ _ _ h => h
  apply Exists.intro
  apply And.intro
  · apply yr_run; rfl; intro w' hw'; go_simp; (try with_reducible rfl)
  simp only [Act.put, List.setIfInBounds_toArray, List.set_cons_zero, List.set_cons_succ]
  apply wpR_next 13 (some 118)
  · simp only [List.getElem?_toArray, List.getElem?_cons_succ, List.getElem?_cons_zero]; exact rfl
  · rfl
  · kernel_rfl
  · kernel_rfl
  · kernel_rfl
  · exact fun _ _ _ _ h => h
  apply Exists.intro
  apply And.intro
  · apply yr_run; rfl; intro w' hw'; go_simp; (try with_reducible rfl)
  simp only [Act.put, List.setIfInBounds_toArray, List.set_cons_zero, List.set_cons_succ]
  apply wpR_next 14 (some 119)
  · simp only [List.getElem?_toArray, List.getElem?_cons_succ, List.getElem?_cons_zero]; exact rfl
  · rfl
  · kernel_rfl
  · kernel_rfl
  · kernel_rfl
  · exact fun _ _ _ _ h => h
  apply Exists.intro
  apply And.intro
  · apply yr_run; rfl; intro w' hw'; go_simp; (try with_reducible rfl)
  simp only [Act.put, List.setIfInBounds_toArray, List.set_cons_zero, List.set_cons_succ]
  apply wpR_next 15 (some 120)
  · simp only [List.getElem?_toArray, List.getElem?_cons_succ, List.getElem?_cons_zero]; exact rfl
  · rfl
  · kernel_rfl
  · kernel_rfl
  · kernel_rfl
  · exact fun _ _ _ _ h => h
  apply Exists.intro
  apply And.intro
  · apply yr_run; rfl; intro w' hw'; go_simp; (try with_reducible rfl)
  simp only [Act.put, List.setIfInBounds_toArray, List.set_cons_zero, List.set_cons_succ]
  apply wpR_next 16 (some 121)
  · simp only [List.getElem?_toArray, List.getElem?_cons_succ, List.getElem?_cons_zero]; exact rfl
  · rfl
  · kernel_rfl
  · kernel_rfl
  · kernel_rfl
  · exact fun _ _ _ _ h => h
  apply Exists.intro
  apply And.intro
  · apply yr_run; rfl; intro w' hw'; go_simp; (try with_reducible rfl)
  simp only [Act.put, List.setIfInBounds_toArray, List.set_cons_zero, List.set_cons_succ]
  apply wpR_next 17 (some 122)
  · simp only [List.getElem?_toArray, List.getElem?_cons_succ, List.getElem?_cons_zero]; exact rfl
  · rfl
  · kernel_rfl
  · kernel_rfl
  · kernel_rfl
  · exact fun _ _ _ _ h => h
  apply Exists.intro
  apply And.intro
  · apply yr_run; rfl; intro w' hw'; go_simp; (try with_reducible rfl)
  simp only [Act.put, List.setIfInBounds_toArray, List.set_cons_zero, List.set_cons_succ]
  apply wpR_call 18 (some 123)
  · simp only [List.getElem?_toArray, List.getElem?_cons_succ, List.getElem?_cons_zero]; exact rfl
  · rfl
  · kernel_rfl
  · rfl
  · intro w'; go_simp; first | done | exact ⟨rfl, rfl⟩ | with_reducible rfl
  intro w' hw'
  refine (HXs.out _ _ _ (RS_74.out.bl hw')).mono ?_
  rintro e w81 ⟨rfl, hb81⟩
  have Qd_81 := Lib.hid ((Qd_74.out.bl hw').bl hb81)
  have R1_81 := Lib.hid ((R1_74.out.bl hw').bl hb81)
  have R2_81 := Lib.hid ((R2_74.out.bl hw').bl hb81)
  have Qp_81 := Lib.hid ((Qp_74.out.bl hw').bl hb81)
  have RS_81 := Lib.hid ((RS_74.out.bl hw').bl hb81)
  have RB_81 := Lib.hid ((RB_74.out.bl hw').bl hb81)
  have Bel_81 := Lib.hid (bel_bl (bel_bl Bel_74.out hw') hb81)
  have ld82 := fun w'' (h : Kept Nil_ w81 w'') => ld75 w'' ((Kept.of_ext hw').trans ((Kept.of_below hb81).trans h))
  have ld83 := fun w'' (h : Kept Nil_ w81 w'') => ld76 w'' ((Kept.of_ext hw').trans ((Kept.of_below hb81).trans h))
  have ld84 := fun w'' (h : Kept Nil_ w81 w'') => ld77 w'' ((Kept.of_ext hw').trans ((Kept.of_below hb81).trans h))
  have ld85 := fun w'' (h : Kept Nil_ w81 w'') => ld78 w'' ((Kept.of_ext hw').trans ((Kept.of_below hb81).trans h))
  have ld86 := fun w'' (h : Kept Nil_ w81 w'') => ld79 w'' ((Kept.of_ext hw').trans ((Kept.of_below hb81).trans h))
  have ld87 := fun w'' (h : Kept Nil_ w81 w'') => ld80 w'' ((Kept.of_ext hw').trans ((Kept.of_below hb81).trans h))
  refine ⟨_, rfl, Kept.of_below hb81, ?_⟩
  clear hw' hb81
  simp only [Act.put, List.setIfInBounds_toArray, List.set_cons_zero, List.set_cons_succ]
  apply wpR_next 19 (some 124)
  · simp only [List.getElem?_toArray, List.getElem?_cons_succ, List.getElem?_cons_zero]; exact rfl
  · rfl
  · kernel_rfl
  · kernel_rfl
  · kernel_rfl
  · exact fun _ _ _ _ h => h
  apply Exists.intro
  apply And.intro
  · apply yr_run; rfl; intro w' hw'; go_simp; (try with_reducible rfl)
  simp only [Act.put, List.setIfInBounds_toArray, List.set_cons_zero, List.set_cons_succ]
  apply wpR_next 20 (some 125)
  · simp only [List.getElem?_toArray, List.getElem?_cons_succ, List.getElem?_cons_zero]; exact rfl
  · rfl
  · kernel_rfl
  · kernel_rfl
  · kernel_rfl
  · exact fun _ _ _ _ h => h
  apply Exists.intro
  apply And.intro
  · apply yr_run; rfl; intro w' hw'; go_simp; (try with_reducible rfl)
  simp only [Act.put, List.setIfInBounds_toArray, List.set_cons_zero, List.set_cons_succ]
  apply wpR_next 21 (some 126)
  · simp only [List.getElem?_toArray, List.getElem?_cons_succ, List.getElem?_cons_zero]; exact rfl
  · rfl
  · kernel_rfl
  · kernel_rfl
  · kernel_rfl
  · exact fun _ _ _ _ h => h
  apply Exists.intro
  apply And.intro
  · apply yr_run; rfl; intro w' hw'; go_simp; (try with_reducible rfl)
  simp only [Act.put, List.setIfInBounds_toArray, List.set_cons_zero, List.set_cons_succ]
  apply wpR_next 22 (some 16)
  · simp only [List.getElem?_toArray, List.getElem?_cons_succ, List.getElem?_cons_zero]; exact rfl
  · rfl
  · kernel_rfl
  · kernel_rfl
  · kernel_rfl
  · exact fun _ _ _ _ h => h
  apply Exists.intro
  apply And.intro
  · apply yr_run; rfl; intro w' hw'; go_simp; (try with_reducible rfl)
  simp only [Act.put, List.setIfInBounds_toArray, List.set_cons_zero, List.set_cons_succ]
  refine wpR_done (by kernel_rfl) ?_ _
  intro w88 hw'
  have Qd_89 := Lib.hid (Qd_81.out.bl hw')
  have R1_89 := Lib.hid (R1_81.out.bl hw')
  have R2_89 := Lib.hid (R2_81.out.bl hw')
  have Qp_89 := Lib.hid (Qp_81.out.bl hw')
  have RS_89 := Lib.hid (RS_81.out.bl hw')
  have RB_89 := Lib.hid (RB_81.out.bl hw')
  have Bel_89 := Lib.hid (bel_bl Bel_81.out hw')
  clear hw'
  have lw91 : (w88).cell? ⟨b, off + k * 3, none⟩ = some (.int .i64 z.1) := (R1_89.out.dat hk GZ.out).1
  have lw92 : (w88).cell? ⟨b, off + k * 3 + 1, none⟩ = some (.int .i64 z.2.1) := (R1_89.out.dat hk GZ.out).2.1
  have lw93 : (w88).cell? ⟨b, off + k * 3 + 2, none⟩ = some (.int .i64 z.2.2) := (R1_89.out.dat hk GZ.out).2.2
  go_wp2_with fail
  clear lw91 lw92 lw93
  refine (HN.out _ _ _ R1_89.out).mono ?_
  rintro e w90 ⟨rfl, hb90⟩
  have Qd_94 := Lib.hid (Qd_89.out.bl hb90)
  have R1_94 := Lib.hid (R1_89.out.bl hb90)
  have R2_94 := Lib.hid (R2_89.out.bl hb90)
  have Qp_94 := Lib.hid (Qp_89.out.bl hb90)
  have RS_94 := Lib.hid (RS_89.out.bl hb90)
  have RB_94 := Lib.hid (RB_89.out.bl hb90)
  have Bel_94 := Lib.hid (bel_bl Bel_89.out hb90)
  clear hb90
  have lw96 : ((w90.alloc (.cells #[.int .i64 x2.1, .int .i64 x2.2.1, .int .i64 x2.2.2] 46))).cell? ⟨w90.heap.size, 0, none⟩ = some (.int .i64 x2.1) := (show Whole (w90.alloc (.cells #[.int .i64 x2.1, .int .i64 x2.2.1, .int .i64 x2.2.2] 46)) (w90.heap.size) (46) (dartsV [x2]) from Whole.new2 (by first | rfl | simp)).cell (i := 0) rfl
  have lw97 : ((w90.alloc (.cells #[.int .i64 x2.1, .int .i64 x2.2.1, .int .i64 x2.2.2] 46))).cell? ⟨w90.heap.size, 1, none⟩ = some (.int .i64 x2.2.1) := (show Whole (w90.alloc (.cells #[.int .i64 x2.1, .int .i64 x2.2.1, .int .i64 x2.2.2] 46)) (w90.heap.size) (46) (dartsV [x2]) from Whole.new2 (by first | rfl | simp)).cell (i := 1) rfl
  have lw98 : ((w90.alloc (.cells #[.int .i64 x2.1, .int .i64 x2.2.1, .int .i64 x2.2.2] 46))).cell? ⟨w90.heap.size, 2, none⟩ = some (.int .i64 x2.2.2) := (show Whole (w90.alloc (.cells #[.int .i64 x2.1, .int .i64 x2.2.1, .int .i64 x2.2.2] 46)) (w90.heap.size) (46) (dartsV [x2]) from Whole.new2 (by first | rfl | simp)).cell (i := 2) rfl
  go_wp2_with fail
  clear lw96 lw97 lw98
  refine (HV.out _ _ _ (R1_94.out.al (.cells #[.int .i64 x2.1, .int .i64 x2.2.1, .int .i64 x2.2.2] 46))).mono ?_
  rintro e w95 ⟨rfl, hb95⟩
  have Qd_99 := Lib.hid ((Qd_94.out.al (.cells #[.int .i64 x2.1, .int .i64 x2.2.1, .int .i64 x2.2.2] 46)).bl hb95)
  have R1_99 := Lib.hid ((R1_94.out.al (.cells #[.int .i64 x2.1, .int .i64 x2.2.1, .int .i64 x2.2.2] 46)).bl hb95)
  have R2_99 := Lib.hid ((R2_94.out.al (.cells #[.int .i64 x2.1, .int .i64 x2.2.1, .int .i64 x2.2.2] 46)).bl hb95)
  have Qp_99 := Lib.hid ((Qp_94.out.al (.cells #[.int .i64 x2.1, .int .i64 x2.2.1, .int .i64 x2.2.2] 46)).bl hb95)
  have RS_99 := Lib.hid ((RS_94.out.al (.cells #[.int .i64 x2.1, .int .i64 x2.2.1, .int .i64 x2.2.2] 46)).bl hb95)
  have RB_99 := Lib.hid ((RB_94.out.al (.cells #[.int .i64 x2.1, .int .i64 x2.2.1, .int .i64 x2.2.2] 46)).bl hb95)
  have Qx_99 := Lib.hid ((show Whole (w90.alloc (.cells #[.int .i64 x2.1, .int .i64 x2.2.1, .int .i64 x2.2.2] 46)) (w90.heap.size) (46) (dartsV [x2]) from Whole.new2 (by first | rfl | simp)).bl hb95)
  have Bel_99 := Lib.hid (bel_bl (bel_al Bel_94.out (.cells #[.int .i64 x2.1, .int .i64 x2.2.1, .int .i64 x2.2.2] 46)) hb95)
  clear hb95
  go_upto_region 17 with fail
  have Qd_100 := Lib.hid ((Qd_99.out.al (.cells #[.int .i64 z.1, .int .i64 z.2.1, .int .i64 z.2.2] 46)))
  have R1_100 := Lib.hid ((R1_99.out.al (.cells #[.int .i64 z.1, .int .i64 z.2.1, .int .i64 z.2.2] 46)))
  have R2_100 := Lib.hid ((R2_99.out.al (.cells #[.int .i64 z.1, .int .i64 z.2.1, .int .i64 z.2.2] 46)))
  have Qp_100 := Lib.hid ((Qp_99.out.al (.cells #[.int .i64 z.1, .int .i64 z.2.1, .int .i64 z.2.2] 46)))
  have RS_100 := Lib.hid ((RS_99.out.al (.cells #[.int .i64 z.1, .int .i64 z.2.1, .int .i64 z.2.2] 46)))
  have RB_100 := Lib.hid ((RB_99.out.al (.cells #[.int .i64 z.1, .int .i64 z.2.1, .int .i64 z.2.2] 46)))
  have Qx_100 := Lib.hid ((Qx_99.out.al (.cells #[.int .i64 z.1, .int .i64 z.2.1, .int .i64 z.2.2] 46)))
  have Qy_100 := Lib.hid ((show Whole (w95.alloc (.cells #[.int .i64 z.1, .int .i64 z.2.1, .int .i64 z.2.2] 46)) (w95.heap.size) (46) (dartsV [z]) from Whole.new2 (by first | rfl | simp)))
  have Bel_100 := Lib.hid (bel_al Bel_99.out (.cells #[.int .i64 z.1, .int .i64 z.2.1, .int .i64 z.2.2] 46))
  obtain ⟨v100, gv100⟩ : ∃ x, (w95.alloc (.cells #[.int .i64 z.1, .int .i64 z.2.1, .int .i64 z.2.2] 46)) = x := ⟨_, rfl⟩
  rw [gv100] at Qd_100 R1_100 R2_100 Qp_100 RS_100 RB_100 Qx_100 Qy_100 Bel_100 ⊢
  clear gv100
  have Qd_101 := Lib.hid (Qd_100.out.dr)
  have R1_101 := Lib.hid (R1_100.out.dr)
  have R2_101 := Lib.hid (R2_100.out.dr)
  have Qp_101 := Lib.hid (Qp_100.out.dr)
  have RS_101 := Lib.hid (RS_100.out.dr)
  have RB_101 := Lib.hid (RB_100.out.dr)
  have Qx_101 := Lib.hid (Qx_100.out.dr)
  have Qy_101 := Lib.hid (Qy_100.out.dr)
  have Bel_101 := Lib.hid (bel_dr Bel_100.out)
  have ld102 : ∀ w', Kept Nil_ v100.drew w' → w'.cell? ⟨b, off + k * 3, none⟩ = some (.int .i64 z.1) := fun w' h => h.nil_cell ((R1_101.out.dat hk GZ.out).1)
  have ld103 : ∀ w', Kept Nil_ v100.drew w' → w'.cell? ⟨b, off + k * 3 + 1, none⟩ = some (.int .i64 z.2.1) := fun w' h => h.nil_cell ((R1_101.out.dat hk GZ.out).2.1)
  have ld104 : ∀ w', Kept Nil_ v100.drew w' → w'.cell? ⟨b, off + k * 3 + 2, none⟩ = some (.int .i64 z.2.2) := fun w' h => h.nil_cell ((R1_101.out.dat hk GZ.out).2.2)
  have ld105 : ∀ w', Kept Nil_ v100.drew w' → w'.cell? ⟨w.heap.size, 0, none⟩ = some (.int .i64 d.1) := fun w' h => h.nil_cell (Qd_101.out.cell (i := 0) rfl)
  have ld106 : ∀ w', Kept Nil_ v100.drew w' → w'.cell? ⟨w.heap.size, 1, none⟩ = some (.int .i64 d.2.1) := fun w' h => h.nil_cell (Qd_101.out.cell (i := 1) rfl)
  have ld107 : ∀ w', Kept Nil_ v100.drew w' → w'.cell? ⟨w.heap.size, 2, none⟩ = some (.int .i64 d.2.2) := fun w' h => h.nil_cell (Qd_101.out.cell (i := 2) rfl)
  have ld108 : ∀ w', Kept Nil_ v100.drew w' → w'.cell? ⟨w95.heap.size, 0, none⟩ = some (.int .i64 z.1) := fun w' h => h.nil_cell (Qy_101.out.cell (i := 0) rfl)
  have ld109 : ∀ w', Kept Nil_ v100.drew w' → w'.cell? ⟨w95.heap.size, 1, none⟩ = some (.int .i64 z.2.1) := fun w' h => h.nil_cell (Qy_101.out.cell (i := 1) rfl)
  have ld110 : ∀ w', Kept Nil_ v100.drew w' → w'.cell? ⟨w95.heap.size, 2, none⟩ = some (.int .i64 z.2.2) := fun w' h => h.nil_cell (Qy_101.out.cell (i := 2) rfl)
  refine wp_region_reg Nil_ (by kernel_rfl) ?_
  apply wpR_next 0 (some 142)
  · simp only [List.getElem?_toArray, List.getElem?_cons_succ, List.getElem?_cons_zero]; exact rfl
  · rfl
  · kernel_rfl
  · kernel_rfl
  · kernel_rfl
  · exact fun _ _ _ _ h => h
  apply Exists.intro
  apply And.intro
  · apply yr_run; rfl; intro w' hw'; go_simp; (try with_reducible rfl)
  simp only [Act.put, List.setIfInBounds_toArray, List.set_cons_zero, List.set_cons_succ]
  apply wpR_next 1 (some 143)
  · simp only [List.getElem?_toArray, List.getElem?_cons_succ, List.getElem?_cons_zero]; exact rfl
  · rfl
  · kernel_rfl
  · kernel_rfl
  · kernel_rfl
  · exact fun _ _ _ _ h => h
  apply Exists.intro
  apply And.intro
  · apply yr_run; rfl; intro w' hw'; go_simp; (try with_reducible rfl)
  simp only [Act.put, List.setIfInBounds_toArray, List.set_cons_zero, List.set_cons_succ]
  apply wpR_next 2 (some 144)
  · simp only [List.getElem?_toArray, List.getElem?_cons_succ, List.getElem?_cons_zero]; exact rfl
  · rfl
  · kernel_rfl
  · kernel_rfl
  · kernel_rfl
  · exact fun _ _ _ _ h => h
  apply Exists.intro
  apply And.intro
  · apply yr_run; rfl; intro w' hw'; go_simp; (try with_reducible rfl)
  simp only [Act.put, List.setIfInBounds_toArray, List.set_cons_zero, List.set_cons_succ]
  apply wpR_next 3 (some 145)
  · simp only [List.getElem?_toArray, List.getElem?_cons_succ, List.getElem?_cons_zero]; exact rfl
  · rfl
  · kernel_rfl
  · kernel_rfl
  · kernel_rfl
  · exact fun _ _ _ _ h => h
  apply Exists.intro
  apply And.intro
  · apply yr_run; rfl; intro w' hw'; go_simp; (try with_reducible rfl)
  simp only [Act.put, List.setIfInBounds_toArray, List.set_cons_zero, List.set_cons_succ]
  apply wpR_call 4 (some 146)
  · simp only [List.getElem?_toArray, List.getElem?_cons_succ, List.getElem?_cons_zero]; exact rfl
  · rfl
  · kernel_rfl
  · rfl
  · intro w'; go_simp; first | done | exact ⟨rfl, rfl⟩ | with_reducible rfl
  intro w' hw'
  refine (HSm.out _ _ _ _ _ (R1_101.out.bl hw') (R2_101.out.bl hw')).mono ?_
  rintro e w111 ⟨rfl, hb111⟩
  have Qd_111 := Lib.hid ((Qd_101.out.bl hw').bl hb111)
  have R1_111 := Lib.hid ((R1_101.out.bl hw').bl hb111)
  have R2_111 := Lib.hid ((R2_101.out.bl hw').bl hb111)
  have Qp_111 := Lib.hid ((Qp_101.out.bl hw').bl hb111)
  have RS_111 := Lib.hid ((RS_101.out.bl hw').bl hb111)
  have RB_111 := Lib.hid ((RB_101.out.bl hw').bl hb111)
  have Qx_111 := Lib.hid ((Qx_101.out.bl hw').bl hb111)
  have Qy_111 := Lib.hid ((Qy_101.out.bl hw').bl hb111)
  have Bel_111 := Lib.hid (bel_bl (bel_bl Bel_101.out hw') hb111)
  have ld112 := fun w'' (h : Kept Nil_ w111 w'') => ld102 w'' ((Kept.of_ext hw').trans ((Kept.of_below hb111).trans h))
  have ld113 := fun w'' (h : Kept Nil_ w111 w'') => ld103 w'' ((Kept.of_ext hw').trans ((Kept.of_below hb111).trans h))
  have ld114 := fun w'' (h : Kept Nil_ w111 w'') => ld104 w'' ((Kept.of_ext hw').trans ((Kept.of_below hb111).trans h))
  have ld115 := fun w'' (h : Kept Nil_ w111 w'') => ld105 w'' ((Kept.of_ext hw').trans ((Kept.of_below hb111).trans h))
  have ld116 := fun w'' (h : Kept Nil_ w111 w'') => ld106 w'' ((Kept.of_ext hw').trans ((Kept.of_below hb111).trans h))
  have ld117 := fun w'' (h : Kept Nil_ w111 w'') => ld107 w'' ((Kept.of_ext hw').trans ((Kept.of_below hb111).trans h))
  have ld118 := fun w'' (h : Kept Nil_ w111 w'') => ld108 w'' ((Kept.of_ext hw').trans ((Kept.of_below hb111).trans h))
  have ld119 := fun w'' (h : Kept Nil_ w111 w'') => ld109 w'' ((Kept.of_ext hw').trans ((Kept.of_below hb111).trans h))
  have ld120 := fun w'' (h : Kept Nil_ w111 w'') => ld110 w'' ((Kept.of_ext hw').trans ((Kept.of_below hb111).trans h))
  refine ⟨_, rfl, Kept.of_below hb111, ?_⟩
  clear hw' hb111
  simp only [Act.put, List.setIfInBounds_toArray, List.set_cons_zero, List.set_cons_succ]
  apply wpR_next 5 (some 147)
  · simp only [List.getElem?_toArray, List.getElem?_cons_succ, List.getElem?_cons_zero]; exact rfl
  · rfl
  · kernel_rfl
  · kernel_rfl
  · kernel_rfl
  · exact fun _ _ _ _ h => h
  apply Exists.intro
  apply And.intro
  · apply yr_run; rfl; intro w' hw'; go_simp; (try with_reducible rfl)
  simp only [Act.put, List.setIfInBounds_toArray, List.set_cons_zero, List.set_cons_succ]
  apply wpR_next 6 (some 148)
  · simp only [List.getElem?_toArray, List.getElem?_cons_succ, List.getElem?_cons_zero]; exact rfl
  · rfl
  · kernel_rfl
  · kernel_rfl
  · kernel_rfl
  · exact fun _ _ _ _ h => h
  apply Exists.intro
  apply And.intro
  · apply yr_run; rfl; intro w' hw'; go_simp; (try with_reducible rfl)
  simp only [Act.put, List.setIfInBounds_toArray, List.set_cons_zero, List.set_cons_succ]
  apply wpR_next 7 (some 149)
  · simp only [List.getElem?_toArray, List.getElem?_cons_succ, List.getElem?_cons_zero]; exact rfl
  · rfl
  · kernel_rfl
  · kernel_rfl
  · kernel_rfl
  · exact fun _ _ _ _ h => h
  apply Exists.intro
  apply And.intro
  · apply yr_run; rfl; intro w' hw'; go_simp; (try with_reducible rfl)
  simp only [Act.put, List.setIfInBounds_toArray, List.set_cons_zero, List.set_cons_succ]
  apply wpR_next 8 (some 150)
  · simp only [List.getElem?_toArray, List.getElem?_cons_succ, List.getElem?_cons_zero]; exact rfl
  · rfl
  · kernel_rfl
  · kernel_rfl
  · kernel_rfl
  · exact fun _ _ _ _ h => h
  apply Exists.intro
  apply And.intro
  · apply yr_run; rfl; intro w' hw'; go_simp; (try with_reducible rfl)
  simp only [Act.put, List.setIfInBounds_toArray, List.set_cons_zero, List.set_cons_succ]
  apply wpR_next 9 (some 151)
  · simp only [List.getElem?_toArray, List.getElem?_cons_succ, List.getElem?_cons_zero]; exact rfl
  · rfl
  · kernel_rfl
  · kernel_rfl
  · kernel_rfl
  · exact fun _ _ _ _ h => h
  apply Exists.intro
  apply And.intro
  · apply yr_run; rfl; intro w' hw'; go_simp; (try with_reducible rfl)
  simp only [Act.put, List.setIfInBounds_toArray, List.set_cons_zero, List.set_cons_succ]
  apply wpR_next 10 (some 152)
  · simp only [List.getElem?_toArray, List.getElem?_cons_succ, List.getElem?_cons_zero]; exact rfl
  · rfl
  · kernel_rfl
  · kernel_rfl
  · kernel_rfl
  · exact fun _ _ _ _ h => h
  apply Exists.intro
  apply And.intro
  · apply yr_run; rfl; intro w' hw'; go_simp; (try with_reducible rfl)
  simp only [Act.put, List.setIfInBounds_toArray, List.set_cons_zero, List.set_cons_succ]
  apply wpR_next 11 (some 153)
  · simp only [List.getElem?_toArray, List.getElem?_cons_succ, List.getElem?_cons_zero]; exact rfl
  · rfl
  · kernel_rfl
  · kernel_rfl
  · kernel_rfl
  · exact fun _ _ _ _ h => h
  apply Exists.intro
  apply And.intro
  · apply yr_run; rfl; intro w' hw'; go_simp; (try with_reducible rfl)
  simp only [Act.put, List.setIfInBounds_toArray, List.set_cons_zero, List.set_cons_succ]
  apply wpR_next 12 (some 154)
  · simp only [List.getElem?_toArray, List.getElem?_cons_succ, List.getElem?_cons_zero]; exact rfl
  · rfl
  · kernel_rfl
  · kernel_rfl
  · kernel_rfl
  · exact fun _ _ _ _ h => h
  apply Exists.intro
  apply And.intro
  · apply yr_run; rfl; intro w' hw'; go_simp; (try with_reducible rfl)
  simp only [Act.put, List.setIfInBounds_toArray, List.set_cons_zero, List.set_cons_succ]
  apply wpR_next 13 (some 155)
  · simp only [List.getElem?_toArray, List.getElem?_cons_succ, List.getElem?_cons_zero]; exact rfl
  · rfl
  · kernel_rfl
  · kernel_rfl
  · kernel_rfl
  · exact fun _ _ _ _ h => h
  apply Exists.intro
  apply And.intro
  · apply yr_run; rfl; intro w' hw'; go_simp; (try with_reducible rfl)
  simp only [Act.put, List.setIfInBounds_toArray, List.set_cons_zero, List.set_cons_succ]
  apply wpR_next 14 (some 156)
  · simp only [List.getElem?_toArray, List.getElem?_cons_succ, List.getElem?_cons_zero]; exact rfl
  · rfl
  · kernel_rfl
  · kernel_rfl
  · kernel_rfl
  · exact fun _ _ _ _ h => h
  apply Exists.intro
  apply And.intro
  · apply yr_run; rfl; intro w' hw'; go_simp; (try with_reducible rfl)
  simp only [Act.put, List.setIfInBounds_toArray, List.set_cons_zero, List.set_cons_succ]
  apply wpR_next 15 (some 157)
  · simp only [List.getElem?_toArray, List.getElem?_cons_succ, List.getElem?_cons_zero]; exact rfl
  · rfl
  · kernel_rfl
  · kernel_rfl
  · kernel_rfl
  · exact fun _ _ _ _ h => h
  apply Exists.intro
  apply And.intro
  · apply yr_run; rfl; intro w' hw'; go_simp; (try with_reducible rfl)
  simp only [Act.put, List.setIfInBounds_toArray, List.set_cons_zero, List.set_cons_succ]
  apply wpR_next 16 (some 158)
  · simp only [List.getElem?_toArray, List.getElem?_cons_succ, List.getElem?_cons_zero]; exact rfl
  · rfl
  · kernel_rfl
  · kernel_rfl
  · kernel_rfl
  · exact fun _ _ _ _ h => h
  apply Exists.intro
  apply And.intro
  · apply yr_run; rfl; intro w' hw'; go_simp; (try with_reducible rfl)
  simp only [Act.put, List.setIfInBounds_toArray, List.set_cons_zero, List.set_cons_succ]
  apply wpR_next 17 (some 159)
  · simp only [List.getElem?_toArray, List.getElem?_cons_succ, List.getElem?_cons_zero]; exact rfl
  · rfl
  · kernel_rfl
  · kernel_rfl
  · kernel_rfl
  · exact fun _ _ _ _ h => h
  apply Exists.intro
  apply And.intro
  · apply yr_run; rfl; intro w' hw'; go_simp; (try with_reducible rfl)
  simp only [Act.put, List.setIfInBounds_toArray, List.set_cons_zero, List.set_cons_succ]
  apply wpR_next 18 (some 160)
  · simp only [List.getElem?_toArray, List.getElem?_cons_succ, List.getElem?_cons_zero]; exact rfl
  · rfl
  · kernel_rfl
  · kernel_rfl
  · kernel_rfl
  · exact fun _ _ _ _ h => h
  apply Exists.intro
  apply And.intro
  · apply yr_run; rfl; intro w' hw'; go_simp; (try with_reducible rfl)
  simp only [Act.put, List.setIfInBounds_toArray, List.set_cons_zero, List.set_cons_succ]
  apply wpR_next 19 (some 161)
  · simp only [List.getElem?_toArray, List.getElem?_cons_succ, List.getElem?_cons_zero]; exact rfl
  · rfl
  · kernel_rfl
  · kernel_rfl
  · kernel_rfl
  · exact fun _ _ _ _ h => h
  apply Exists.intro
  apply And.intro
  · apply yr_run; rfl; intro w' hw'; go_simp; (try with_reducible rfl)
  simp only [Act.put, List.setIfInBounds_toArray, List.set_cons_zero, List.set_cons_succ]
  apply wpR_next 20 (some 162)
  · simp only [List.getElem?_toArray, List.getElem?_cons_succ, List.getElem?_cons_zero]; exact rfl
  · rfl
  · kernel_rfl
  · kernel_rfl
  · kernel_rfl
  · exact fun _ _ _ _ h => h
  apply Exists.intro
  apply And.intro
  · apply yr_run; rfl; intro w' hw'; go_simp; (try with_reducible rfl)
  simp only [Act.put, List.setIfInBounds_toArray, List.set_cons_zero, List.set_cons_succ]
  apply wpR_next 21 (some 163)
  · simp only [List.getElem?_toArray, List.getElem?_cons_succ, List.getElem?_cons_zero]; exact rfl
  · rfl
  · kernel_rfl
  · kernel_rfl
  · kernel_rfl
  · exact fun _ _ _ _ h => h
  apply Exists.intro
  apply And.intro
  · apply yr_run; rfl; intro w' hw'; go_simp; (try with_reducible rfl)
  simp only [Act.put, List.setIfInBounds_toArray, List.set_cons_zero, List.set_cons_succ]
  apply wpR_next 22 (some 164)
  · simp only [List.getElem?_toArray, List.getElem?_cons_succ, List.getElem?_cons_zero]; exact rfl
  · rfl
  · kernel_rfl
  · kernel_rfl
  · kernel_rfl
  · exact fun _ _ _ _ h => h
  apply Exists.intro
  apply And.intro
  · apply yr_run; rfl; intro w' hw'; go_simp; (try with_reducible rfl)
  simp only [Act.put, List.setIfInBounds_toArray, List.set_cons_zero, List.set_cons_succ]
  apply wpR_next 23 (some 165)
  · simp only [List.getElem?_toArray, List.getElem?_cons_succ, List.getElem?_cons_zero]; exact rfl
  · rfl
  · kernel_rfl
  · kernel_rfl
  · kernel_rfl
  · exact fun _ _ _ _ h => h
  apply Exists.intro
  apply And.intro
  · apply yr_run; rfl; intro w' hw'; go_simp; (try with_reducible rfl)
  simp only [Act.put, List.setIfInBounds_toArray, List.set_cons_zero, List.set_cons_succ]
  apply wpR_next 25 (some 167)
  · simp only [List.getElem?_toArray, List.getElem?_cons_succ, List.getElem?_cons_zero]; exact rfl
  · rfl
  · kernel_rfl
  · kernel_rfl
  · kernel_rfl
  · exact fun _ _ _ _ h => h
  apply Exists.intro
  apply And.intro
  · apply yr_run; rfl; intro w' hw'; go_simp; (try with_reducible rfl)
  simp only [Act.put, List.setIfInBounds_toArray, List.set_cons_zero, List.set_cons_succ]
  apply wpR_next 27 (some 169)
  · simp only [List.getElem?_toArray, List.getElem?_cons_succ, List.getElem?_cons_zero]; exact rfl
  · rfl
  · kernel_rfl
  · kernel_rfl
  · kernel_rfl
  · exact fun _ _ _ _ h => h
  apply Exists.intro
  apply And.intro
  · apply yr_run; rfl; intro w' hw'; go_simp; (try with_reducible rfl)
  simp only [Act.put, List.setIfInBounds_toArray, List.set_cons_zero, List.set_cons_succ]
  apply wpR_next 28 (some 170)
  · simp only [List.getElem?_toArray, List.getElem?_cons_succ, List.getElem?_cons_zero]; exact rfl
  · rfl
  · kernel_rfl
  · kernel_rfl
  · kernel_rfl
  · exact fun _ _ _ _ h => h
  apply Exists.intro
  apply And.intro
  · apply yr_run; rfl; intro w' hw'; go_simp; (try with_reducible rfl)
  simp only [Act.put, List.setIfInBounds_toArray, List.set_cons_zero, List.set_cons_succ]
  apply wpR_next 29 (some 171)
  · simp only [List.getElem?_toArray, List.getElem?_cons_succ, List.getElem?_cons_zero]; exact rfl
  · rfl
  · kernel_rfl
  · kernel_rfl
  · kernel_rfl
  · exact fun _ _ _ _ h => h
  apply Exists.intro
  apply And.intro
  · apply yr_run; rfl; intro w' hw'; go_simp; (try with_reducible rfl)
  simp only [Act.put, List.setIfInBounds_toArray, List.set_cons_zero, List.set_cons_succ]
  apply wpR_call 24 (some 166)
  · simp only [List.getElem?_toArray, List.getElem?_cons_succ, List.getElem?_cons_zero]; exact rfl
  · rfl
  · kernel_rfl
  · rfl
  · intro w'; go_simp; first | done | exact ⟨rfl, rfl⟩ | with_reducible rfl
  intro w' hw'
  refine (HQ.out _ _ _ (R1_111.out.bl hw')).mono ?_
  rintro e w121 ⟨A7, c7, rfl, hr7, hb121⟩
  have Qd_121 := Lib.hid ((Qd_111.out.bl hw').bl hb121)
  have R1_121 := Lib.hid ((R1_111.out.bl hw').bl hb121)
  have R2_121 := Lib.hid ((R2_111.out.bl hw').bl hb121)
  have Qp_121 := Lib.hid ((Qp_111.out.bl hw').bl hb121)
  have RS_121 := Lib.hid ((RS_111.out.bl hw').bl hb121)
  have RB_121 := Lib.hid ((RB_111.out.bl hw').bl hb121)
  have Qx_121 := Lib.hid ((Qx_111.out.bl hw').bl hb121)
  have Qy_121 := Lib.hid ((Qy_111.out.bl hw').bl hb121)
  have Bel_121 := Lib.hid (bel_bl (bel_bl Bel_111.out hw') hb121)
  have ld122 := fun w'' (h : Kept Nil_ w121 w'') => ld112 w'' ((Kept.of_ext hw').trans ((Kept.of_below hb121).trans h))
  have ld123 := fun w'' (h : Kept Nil_ w121 w'') => ld113 w'' ((Kept.of_ext hw').trans ((Kept.of_below hb121).trans h))
  have ld124 := fun w'' (h : Kept Nil_ w121 w'') => ld114 w'' ((Kept.of_ext hw').trans ((Kept.of_below hb121).trans h))
  have ld125 := fun w'' (h : Kept Nil_ w121 w'') => ld115 w'' ((Kept.of_ext hw').trans ((Kept.of_below hb121).trans h))
  have ld126 := fun w'' (h : Kept Nil_ w121 w'') => ld116 w'' ((Kept.of_ext hw').trans ((Kept.of_below hb121).trans h))
  have ld127 := fun w'' (h : Kept Nil_ w121 w'') => ld117 w'' ((Kept.of_ext hw').trans ((Kept.of_below hb121).trans h))
  have ld128 := fun w'' (h : Kept Nil_ w121 w'') => ld118 w'' ((Kept.of_ext hw').trans ((Kept.of_below hb121).trans h))
  have ld129 := fun w'' (h : Kept Nil_ w121 w'') => ld119 w'' ((Kept.of_ext hw').trans ((Kept.of_below hb121).trans h))
  have ld130 := fun w'' (h : Kept Nil_ w121 w'') => ld120 w'' ((Kept.of_ext hw').trans ((Kept.of_below hb121).trans h))
  refine ⟨_, rfl, Kept.of_below hb121, ?_⟩
  clear hw' hb121
  have RQ_121 := Lib.hid hr7
  clear hr7
  simp only [Act.put, List.setIfInBounds_toArray, List.set_cons_zero, List.set_cons_succ]
  apply wpR_call 26 (some 168)
  · simp only [List.getElem?_toArray, List.getElem?_cons_succ, List.getElem?_cons_zero]; exact rfl
  · rfl
  · kernel_rfl
  · rfl
  · intro w'; go_simp; first | done | exact ⟨rfl, rfl⟩ | with_reducible rfl
  intro w' hw'
  refine (HS3.out _ _ _ _ _ (RQ_121.out.bl hw') (R1_121.out.bl hw')).mono ?_
  rintro e w131 ⟨rfl, hb131⟩
  have Qd_131 := Lib.hid ((Qd_121.out.bl hw').bl hb131)
  have R1_131 := Lib.hid ((R1_121.out.bl hw').bl hb131)
  have R2_131 := Lib.hid ((R2_121.out.bl hw').bl hb131)
  have Qp_131 := Lib.hid ((Qp_121.out.bl hw').bl hb131)
  have RS_131 := Lib.hid ((RS_121.out.bl hw').bl hb131)
  have RB_131 := Lib.hid ((RB_121.out.bl hw').bl hb131)
  have Qx_131 := Lib.hid ((Qx_121.out.bl hw').bl hb131)
  have Qy_131 := Lib.hid ((Qy_121.out.bl hw').bl hb131)
  have RQ_131 := Lib.hid ((RQ_121.out.bl hw').bl hb131)
  have Bel_131 := Lib.hid (bel_bl (bel_bl Bel_121.out hw') hb131)
  have ld132 := fun w'' (h : Kept Nil_ w131 w'') => ld122 w'' ((Kept.of_ext hw').trans ((Kept.of_below hb131).trans h))
  have ld133 := fun w'' (h : Kept Nil_ w131 w'') => ld123 w'' ((Kept.of_ext hw').trans ((Kept.of_below hb131).trans h))
  have ld134 := fun w'' (h : Kept Nil_ w131 w'') => ld124 w'' ((Kept.of_ext hw').trans ((Kept.of_below hb131).trans h))
  have ld135 := fun w'' (h : Kept Nil_ w131 w'') => ld125 w'' ((Kept.of_ext hw').trans ((Kept.of_below hb131).trans h))
  have ld136 := fun w'' (h : Kept Nil_ w131 w'') => ld126 w'' ((Kept.of_ext hw').trans ((Kept.of_below hb131).trans h))
  have ld137 := fun w'' (h : Kept Nil_ w131 w'') => ld127 w'' ((Kept.of_ext hw').trans ((Kept.of_below hb131).trans h))
  have ld138 := fun w'' (h : Kept Nil_ w131 w'') => ld128 w'' ((Kept.of_ext hw').trans ((Kept.of_below hb131).trans h))
  have ld139 := fun w'' (h : Kept Nil_ w131 w'') => ld129 w'' ((Kept.of_ext hw').trans ((Kept.of_below hb131).trans h))
  have ld140 := fun w'' (h : Kept Nil_ w131 w'') => ld130 w'' ((Kept.of_ext hw').trans ((Kept.of_below hb131).trans h))
  refine ⟨_, rfl, Kept.of_below hb131, ?_⟩
  clear hw' hb131
  simp only [Act.put, List.setIfInBounds_toArray, List.set_cons_zero, List.set_cons_succ]
  apply wpR_call 30 (some 172)
  · simp only [List.getElem?_toArray, List.getElem?_cons_succ, List.getElem?_cons_zero]; exact rfl
  · rfl
  · kernel_rfl
  · rfl
  · intro w'; go_simp; first | done | exact ⟨rfl, rfl⟩ | with_reducible rfl
  intro w' hw'
  refine (HXd.out _ _ _ (R1_131.out.bl hw')).mono ?_
  rintro e w141 ⟨rfl, hb141⟩
  have Qd_141 := Lib.hid ((Qd_131.out.bl hw').bl hb141)
  have R1_141 := Lib.hid ((R1_131.out.bl hw').bl hb141)
  have R2_141 := Lib.hid ((R2_131.out.bl hw').bl hb141)
  have Qp_141 := Lib.hid ((Qp_131.out.bl hw').bl hb141)
  have RS_141 := Lib.hid ((RS_131.out.bl hw').bl hb141)
  have RB_141 := Lib.hid ((RB_131.out.bl hw').bl hb141)
  have Qx_141 := Lib.hid ((Qx_131.out.bl hw').bl hb141)
  have Qy_141 := Lib.hid ((Qy_131.out.bl hw').bl hb141)
  have RQ_141 := Lib.hid ((RQ_131.out.bl hw').bl hb141)
  have Bel_141 := Lib.hid (bel_bl (bel_bl Bel_131.out hw') hb141)
  have ld142 := fun w'' (h : Kept Nil_ w141 w'') => ld132 w'' ((Kept.of_ext hw').trans ((Kept.of_below hb141).trans h))
  have ld143 := fun w'' (h : Kept Nil_ w141 w'') => ld133 w'' ((Kept.of_ext hw').trans ((Kept.of_below hb141).trans h))
  have ld144 := fun w'' (h : Kept Nil_ w141 w'') => ld134 w'' ((Kept.of_ext hw').trans ((Kept.of_below hb141).trans h))
  have ld145 := fun w'' (h : Kept Nil_ w141 w'') => ld135 w'' ((Kept.of_ext hw').trans ((Kept.of_below hb141).trans h))
  have ld146 := fun w'' (h : Kept Nil_ w141 w'') => ld136 w'' ((Kept.of_ext hw').trans ((Kept.of_below hb141).trans h))
  have ld147 := fun w'' (h : Kept Nil_ w141 w'') => ld137 w'' ((Kept.of_ext hw').trans ((Kept.of_below hb141).trans h))
  have ld148 := fun w'' (h : Kept Nil_ w141 w'') => ld138 w'' ((Kept.of_ext hw').trans ((Kept.of_below hb141).trans h))
  have ld149 := fun w'' (h : Kept Nil_ w141 w'') => ld139 w'' ((Kept.of_ext hw').trans ((Kept.of_below hb141).trans h))
  have ld150 := fun w'' (h : Kept Nil_ w141 w'') => ld140 w'' ((Kept.of_ext hw').trans ((Kept.of_below hb141).trans h))
  refine ⟨_, rfl, Kept.of_below hb141, ?_⟩
  clear hw' hb141
  simp only [Act.put, List.setIfInBounds_toArray, List.set_cons_zero, List.set_cons_succ]
  apply wpR_next 31 (some 173)
  · simp only [List.getElem?_toArray, List.getElem?_cons_succ, List.getElem?_cons_zero]; exact rfl
  · rfl
  · kernel_rfl
  · kernel_rfl
  · kernel_rfl
  · exact fun _ _ _ _ h => h
  apply Exists.intro
  apply And.intro
  · apply yr_run; rfl; intro w' hw'; go_simp; (try with_reducible rfl)
  simp only [Act.put, List.setIfInBounds_toArray, List.set_cons_zero, List.set_cons_succ]
  apply wpR_next 32 (some 174)
  · simp only [List.getElem?_toArray, List.getElem?_cons_succ, List.getElem?_cons_zero]; exact rfl
  · rfl
  · kernel_rfl
  · kernel_rfl
  · kernel_rfl
  · exact fun _ _ _ _ h => h
  apply Exists.intro
  apply And.intro
  · apply yr_run; rfl; intro w' hw'; go_simp; (try with_reducible rfl)
  simp only [Act.put, List.setIfInBounds_toArray, List.set_cons_zero, List.set_cons_succ]
  apply wpR_next 33 (some 175)
  · simp only [List.getElem?_toArray, List.getElem?_cons_succ, List.getElem?_cons_zero]; exact rfl
  · rfl
  · kernel_rfl
  · kernel_rfl
  · kernel_rfl
  · exact fun _ _ _ _ h => h
  apply Exists.intro
  apply And.intro
  · apply yr_run; rfl; intro w' hw'; go_simp; (try with_reducible rfl)
  simp only [Act.put, List.setIfInBounds_toArray, List.set_cons_zero, List.set_cons_succ]
  apply wpR_next 34 (some 6)
  · simp only [List.getElem?_toArray, List.getElem?_cons_succ, List.getElem?_cons_zero]; exact rfl
  · rfl
  · kernel_rfl
  · kernel_rfl
  · kernel_rfl
  · exact fun _ _ _ _ h => h
  apply Exists.intro
  apply And.intro
  · apply yr_run; rfl; intro w' hw'; go_simp; (try with_reducible rfl)
  simp only [Act.put, List.setIfInBounds_toArray, List.set_cons_zero, List.set_cons_succ]
  refine wpR_done (by kernel_rfl) ?_ _
  intro w151 hw'
  have Qd_152 := Lib.hid (Qd_141.out.bl hw')
  have R1_152 := Lib.hid (R1_141.out.bl hw')
  have R2_152 := Lib.hid (R2_141.out.bl hw')
  have Qp_152 := Lib.hid (Qp_141.out.bl hw')
  have RS_152 := Lib.hid (RS_141.out.bl hw')
  have RB_152 := Lib.hid (RB_141.out.bl hw')
  have Qx_152 := Lib.hid (Qx_141.out.bl hw')
  have Qy_152 := Lib.hid (Qy_141.out.bl hw')
  have RQ_152 := Lib.hid (RQ_141.out.bl hw')
  have Bel_152 := Lib.hid (bel_bl Bel_141.out hw')
  clear hw'
  go_wp2
  go_ret
  exact ⟨by simp, Bel_152.out⟩
end Go.Proofs.Ytgbkloilodgjfaa
