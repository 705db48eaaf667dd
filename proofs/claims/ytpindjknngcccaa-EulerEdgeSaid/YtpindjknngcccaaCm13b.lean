/- The document's Count, Together, Parts. -/
import Derived.Test.YtpindjknngcccaaCm13a
namespace Go.Proofs.Ytpindjknngcccaa
open Go.RowKit
set_option linter.unusedSimpArgs false
set_option linter.unusedVariables false

set_option maxRecDepth 100000 in
set_option maxHeartbeats 4000000 in
theorem rtogether_any (A : Option Addr) (n c : Nat) (Vs : List VC) (B : Option Addr) (m k : Nat) (Es : List EC) (x1 x2 y1 y2 : Int) (w : World) (h : DgIn w A n c Vs B m k Es) (hf : Formed Vs Es) :
    Calls Try.prog 28 #[.agg #[.slice A n c, .slice B m k], .agg #[.int .i64 x1, .int .i64 x2], .agg #[.int .i64 y1, .int .i64 y2]] w fun e w' => e = .returned (.bool (togF Vs (x1, x2) (y1, y2))) ∧ Below w.heap.size w w' := by
  obtain ⟨hn24, hm40, hr80⟩ := hf.small h
  have Hlv := Lib.hid (h.v.rlen vC_len (by decide))
  have HD := Lib.hid h
  have HLok := Lib.hid (labF_ok Vs)
  obtain ⟨L, gL⟩ : ∃ z, labF Vs = z := ⟨_, rfl⟩
  have HLl : RowKit.Hid (L.length = n) := Lib.hid (by rw [← gL, labF_len]; exact Hlv.out)
  have HLb : RowKit.Hid (∀ W, DgIn W A n c Vs B m k Es → Calls Try.prog 46 #[.agg #[.slice A n c, .slice B m k]] W fun e w' => ∃ A2 c2, e = .returned (.slice A2 n c2) ∧ RdS w' w'.heap.size 1 A2 n c2 (rowsV n1 L) ∧ Below W.heap.size W w') := Lib.hid (fun W h => gL ▸ rlabels_any A n c Vs B m k Es W h hf)
  obtain ⟨tb, gt⟩ : ∃ z, togF Vs (x1, x2) (y1, y2) = z := ⟨_, rfl⟩
  rw [gt]
  have hib := place_lt Vs 0 (x1, x2)
  have hjb := place_lt Vs 0 (y1, y2)
  have HPx : RowKit.Hid (∀ W, DgIn W A n c Vs B m k Es → Calls Try.prog 45 #[.agg #[.slice A n c, .slice B m k], .agg #[.int .i64 x1, .int .i64 x2]] W fun e w' => e = .returned (.int .i64 (placeF 0 Vs (x1, x2))) ∧ Below W.heap.size W w') := Lib.hid (fun W h => rplace_any A n c Vs B m k x1 x2 W h.v (by omega))
  have HPy : RowKit.Hid (∀ W, DgIn W A n c Vs B m k Es → Calls Try.prog 45 #[.agg #[.slice A n c, .slice B m k], .agg #[.int .i64 y1, .int .i64 y2]] W fun e w' => e = .returned (.int .i64 (placeF 0 Vs (y1, y2))) ∧ Below W.heap.size W w') := Lib.hid (fun W h => rplace_any A n c Vs B m k y1 y2 W h.v (by omega))
  unfold togF at gt
  obtain ⟨i, gi⟩ : ∃ z, placeF 0 Vs (x1, x2) = z := ⟨_, rfl⟩
  obtain ⟨j, gj⟩ : ∃ z, placeF 0 Vs (y1, y2) = z := ⟨_, rfl⟩
  rw [gi, gj, gL] at gt
  rw [gi] at hib HPx
  rw [gj] at hjb HPy
  have Gt := Lib.hid gt
  have Hib : RowKit.Hid (i = -1 ∨ ∃ q : Nat, i = (q : Int) ∧ q < n) := Lib.hid (by rcases hib with h | ⟨q, h1, h2, h3⟩; exact .inl h; exact .inr ⟨q, h1, by rw [← Hlv.out]; omega⟩)
  have Hjb : RowKit.Hid (j = -1 ∨ ∃ q : Nat, j = (q : Int) ∧ q < n) := Lib.hid (by rcases hjb with h | ⟨q, h1, h2, h3⟩; exact .inl h; exact .inr ⟨q, h1, by rw [← Hlv.out]; omega⟩)
  clear h hf hr80 gL gt gi gj hib hjb
  go_enter Try.func28, Try.ntmps28
  have lw1 : ((((w.alloc (.cells #[.slice A n c, .slice B m k] 25)).alloc (.cells #[.int .i64 x1, .int .i64 x2] 35)).alloc (.cells #[.int .i64 y1, .int .i64 y2] 35))).cell? ⟨w.heap.size, 0, none⟩ = some (.slice A n c) := (((show Whole (w.alloc (.cells #[.slice A n c, .slice B m k] 25)) (w.heap.size) (25) ([.slice A n c, .slice B m k]) from Whole.new2 (by first | rfl | simp)).al (.cells #[.int .i64 x1, .int .i64 x2] 35)).al (.cells #[.int .i64 y1, .int .i64 y2] 35)).cell (i := 0) rfl
  have lw2 : ((((w.alloc (.cells #[.slice A n c, .slice B m k] 25)).alloc (.cells #[.int .i64 x1, .int .i64 x2] 35)).alloc (.cells #[.int .i64 y1, .int .i64 y2] 35))).cell? ⟨w.heap.size, 1, none⟩ = some (.slice B m k) := (((show Whole (w.alloc (.cells #[.slice A n c, .slice B m k] 25)) (w.heap.size) (25) ([.slice A n c, .slice B m k]) from Whole.new2 (by first | rfl | simp)).al (.cells #[.int .i64 x1, .int .i64 x2] 35)).al (.cells #[.int .i64 y1, .int .i64 y2] 35)).cell (i := 1) rfl
  have lw3 : ((((w.alloc (.cells #[.slice A n c, .slice B m k] 25)).alloc (.cells #[.int .i64 x1, .int .i64 x2] 35)).alloc (.cells #[.int .i64 y1, .int .i64 y2] 35))).cell? ⟨w.heap.size + 1, 0, none⟩ = some (.int .i64 x1) := ((show Whole ((w.alloc (.cells #[.slice A n c, .slice B m k] 25)).alloc (.cells #[.int .i64 x1, .int .i64 x2] 35)) ((w.heap.size + 1)) (35) ([.int .i64 x1, .int .i64 x2]) from Whole.new2 (by first | rfl | simp)).al (.cells #[.int .i64 y1, .int .i64 y2] 35)).cell (i := 0) rfl
  have lw4 : ((((w.alloc (.cells #[.slice A n c, .slice B m k] 25)).alloc (.cells #[.int .i64 x1, .int .i64 x2] 35)).alloc (.cells #[.int .i64 y1, .int .i64 y2] 35))).cell? ⟨w.heap.size + 1, 1, none⟩ = some (.int .i64 x2) := ((show Whole ((w.alloc (.cells #[.slice A n c, .slice B m k] 25)).alloc (.cells #[.int .i64 x1, .int .i64 x2] 35)) ((w.heap.size + 1)) (35) ([.int .i64 x1, .int .i64 x2]) from Whole.new2 (by first | rfl | simp)).al (.cells #[.int .i64 y1, .int .i64 y2] 35)).cell (i := 1) rfl
  go_wp2_with fail
  clear lw1 lw2 lw3 lw4
  refine (HPx.out _ (((HD.out.al (.cells #[.slice A n c, .slice B m k] 25)).al (.cells #[.int .i64 x1, .int .i64 x2] 35)).al (.cells #[.int .i64 y1, .int .i64 y2] 35))).mono ?_
  rintro e w5 ⟨rfl, hb5⟩
  have Da_6 := Lib.hid ((((HD.out.al (.cells #[.slice A n c, .slice B m k] 25)).al (.cells #[.int .i64 x1, .int .i64 x2] 35)).al (.cells #[.int .i64 y1, .int .i64 y2] 35)).bl hb5)
  have D0_6 := Lib.hid ((((show Whole (w.alloc (.cells #[.slice A n c, .slice B m k] 25)) (w.heap.size) (25) ([.slice A n c, .slice B m k]) from Whole.new2 (by first | rfl | simp)).al (.cells #[.int .i64 x1, .int .i64 x2] 35)).al (.cells #[.int .i64 y1, .int .i64 y2] 35)).bl hb5)
  have X_6 := Lib.hid (((show Whole ((w.alloc (.cells #[.slice A n c, .slice B m k] 25)).alloc (.cells #[.int .i64 x1, .int .i64 x2] 35)) ((w.heap.size + 1)) (35) ([.int .i64 x1, .int .i64 x2]) from Whole.new2 (by first | rfl | simp)).al (.cells #[.int .i64 y1, .int .i64 y2] 35)).bl hb5)
  have Y_6 := Lib.hid ((show Whole (((w.alloc (.cells #[.slice A n c, .slice B m k] 25)).alloc (.cells #[.int .i64 x1, .int .i64 x2] 35)).alloc (.cells #[.int .i64 y1, .int .i64 y2] 35)) ((w.heap.size + 1 + 1)) (35) ([.int .i64 y1, .int .i64 y2]) from Whole.new2 (by first | rfl | simp)).bl hb5)
  have Bel_6 := Lib.hid (bel_bl (bel_al (bel_al (bel_al (Below.refl _ w) (.cells #[.slice A n c, .slice B m k] 25)) (.cells #[.int .i64 x1, .int .i64 x2] 35)) (.cells #[.int .i64 y1, .int .i64 y2] 35)) hb5)
  clear HD
  clear hb5
  have lw7 : (w5).cell? ⟨w.heap.size, 0, none⟩ = some (.slice A n c) := D0_6.out.cell (i := 0) rfl
  have lw8 : (w5).cell? ⟨w.heap.size, 1, none⟩ = some (.slice B m k) := D0_6.out.cell (i := 1) rfl
  have lw9 : (w5).cell? ⟨w.heap.size + 1 + 1, 0, none⟩ = some (.int .i64 y1) := Y_6.out.cell (i := 0) rfl
  have lw10 : (w5).cell? ⟨w.heap.size + 1 + 1, 1, none⟩ = some (.int .i64 y2) := Y_6.out.cell (i := 1) rfl
  go_wp2_with fail
  clear lw7 lw8 lw9 lw10
  refine (HPy.out _ Da_6.out).mono ?_
  rintro e w11 ⟨rfl, hb11⟩
  have Da_12 := Lib.hid (Da_6.out.bl hb11)
  have D0_12 := Lib.hid (D0_6.out.bl hb11)
  have X_12 := Lib.hid (X_6.out.bl hb11)
  have Y_12 := Lib.hid (Y_6.out.bl hb11)
  have Bel_12 := Lib.hid (bel_bl Bel_6.out hb11)
  clear Da_6 D0_6 X_6 Y_6 Bel_6
  clear hb11
  have lw13 : (w11).cell? ⟨w.heap.size, 0, none⟩ = some (.slice A n c) := D0_12.out.cell (i := 0) rfl
  have lw14 : (w11).cell? ⟨w.heap.size, 1, none⟩ = some (.slice B m k) := D0_12.out.cell (i := 1) rfl
  go_wp2_with fail
  clear lw13 lw14
  refine (HLb.out _ Da_12.out).mono ?_
  rintro e w15 ⟨A2, c2, rfl, hrl, hb15⟩
  have Da_16 := Lib.hid (Da_12.out.bl hb15)
  have D0_16 := Lib.hid (D0_12.out.bl hb15)
  have X_16 := Lib.hid (X_12.out.bl hb15)
  have Y_16 := Lib.hid (Y_12.out.bl hb15)
  have Bel_16 := Lib.hid (bel_bl Bel_12.out hb15)
  clear Da_12 D0_12 X_12 Y_12 Bel_12
  clear hb15
  have R_16 := Lib.hid hrl
  clear hrl
  go_upto_region 4 with fail
  rcases Hib.out with hi | ⟨i, hi, hin⟩
  · have ht : tb = false := by rw [← Gt.out, if_pos (.inl (by omega))]
    subst ht
    subst hi
    have hi1 : decide ((0 : Int) ≤ -1) = false := by decide
    have Da_17 := Lib.hid (Da_16.out.dr)
    have D0_17 := Lib.hid (D0_16.out.dr)
    have X_17 := Lib.hid (X_16.out.dr)
    have Y_17 := Lib.hid (Y_16.out.dr)
    have R_17 := Lib.hid (R_16.out.dr)
    have Bel_17 := Lib.hid (bel_dr Bel_16.out)
    refine wp_region_reg Nil_ (by kernel_rfl) ?_
    apply wpR_next 0 (some 18)
    · simp only [List.getElem?_toArray, List.getElem?_cons_succ, List.getElem?_cons_zero]; exact rfl
    · rfl
    · kernel_rfl
    · kernel_rfl
    · kernel_rfl
    · exact fun _ _ _ _ h => h
    apply Exists.intro
    apply And.intro
    · apply yr_run; rfl; intro w' hw'; go_simp; (try with_reducible rfl)
    simp only [Act.put, List.setIfInBounds_toArray, List.set_cons_zero, List.set_cons_succ]
    apply wpR_next 1 (some 19)
    · simp only [List.getElem?_toArray, List.getElem?_cons_succ, List.getElem?_cons_zero]; exact rfl
    · rfl
    · kernel_rfl
    · kernel_rfl
    · kernel_rfl
    · exact fun _ _ _ _ h => h
    apply Exists.intro
    apply And.intro
    · apply yr_run; rfl; intro w' hw'; go_simp; (try with_reducible rfl)
    simp only [Act.put, List.setIfInBounds_toArray, List.set_cons_zero, List.set_cons_succ]
    apply wpR_next 2 (some 20)
    · simp only [List.getElem?_toArray, List.getElem?_cons_succ, List.getElem?_cons_zero]; exact rfl
    · rfl
    · kernel_rfl
    · kernel_rfl
    · kernel_rfl
    · exact fun _ _ _ _ h => h
    apply Exists.intro
    apply And.intro
    · apply yr_run; rfl; intro w' hw'; go_simp; (try with_reducible rfl)
    simp only [Act.put, List.setIfInBounds_toArray, List.set_cons_zero, List.set_cons_succ]
    apply wpR_next 3 (some 21)
    · simp only [List.getElem?_toArray, List.getElem?_cons_succ, List.getElem?_cons_zero]; exact rfl
    · rfl
    · kernel_rfl
    · kernel_rfl
    · kernel_rfl
    · exact fun _ _ _ _ h => h
    apply Exists.intro
    apply And.intro
    · exact yr_skip (by rfl)
    simp only [Act.put, List.setIfInBounds_toArray, List.set_cons_zero, List.set_cons_succ]
    apply wpR_next 4 (some 22)
    · simp only [List.getElem?_toArray, List.getElem?_cons_succ, List.getElem?_cons_zero]; exact rfl
    · rfl
    · kernel_rfl
    · kernel_rfl
    · kernel_rfl
    · exact fun _ _ _ _ h => h
    apply Exists.intro
    apply And.intro
    · exact yr_skip (by rfl)
    simp only [Act.put, List.setIfInBounds_toArray, List.set_cons_zero, List.set_cons_succ]
    apply wpR_next 5 (some 23)
    · simp only [List.getElem?_toArray, List.getElem?_cons_succ, List.getElem?_cons_zero]; exact rfl
    · rfl
    · kernel_rfl
    · kernel_rfl
    · kernel_rfl
    · exact fun _ _ _ _ h => h
    apply Exists.intro
    apply And.intro
    · apply yr_run; rfl; intro w' hw'; go_simp; (try with_reducible rfl)
    simp only [Act.put, List.setIfInBounds_toArray, List.set_cons_zero, List.set_cons_succ]
    apply wpR_next 6 (some 24)
    · simp only [List.getElem?_toArray, List.getElem?_cons_succ, List.getElem?_cons_zero]; exact rfl
    · rfl
    · kernel_rfl
    · kernel_rfl
    · kernel_rfl
    · exact fun _ _ _ _ h => h
    apply Exists.intro
    apply And.intro
    · apply yr_run; rfl; intro w' hw'; go_simp; (try with_reducible rfl)
    simp only [Act.put, List.setIfInBounds_toArray, List.set_cons_zero, List.set_cons_succ]
    apply wpR_next 7 (some 25)
    · simp only [List.getElem?_toArray, List.getElem?_cons_succ, List.getElem?_cons_zero]; exact rfl
    · rfl
    · kernel_rfl
    · kernel_rfl
    · kernel_rfl
    · exact fun _ _ _ _ h => h
    apply Exists.intro
    apply And.intro
    · exact yr_skip (by rfl)
    simp only [Act.put, List.setIfInBounds_toArray, List.set_cons_zero, List.set_cons_succ]
    apply wpR_next 8 (some 26)
    · simp only [List.getElem?_toArray, List.getElem?_cons_succ, List.getElem?_cons_zero]; exact rfl
    · rfl
    · kernel_rfl
    · kernel_rfl
    · kernel_rfl
    · exact fun _ _ _ _ h => h
    apply Exists.intro
    apply And.intro
    · exact yr_skip (by rfl)
    simp only [Act.put, List.setIfInBounds_toArray, List.set_cons_zero, List.set_cons_succ]
    apply wpR_next 9 (some 27)
    · simp only [List.getElem?_toArray, List.getElem?_cons_succ, List.getElem?_cons_zero]; exact rfl
    · rfl
    · kernel_rfl
    · kernel_rfl
    · kernel_rfl
    · exact fun _ _ _ _ h => h
    apply Exists.intro
    apply And.intro
    · exact yr_skip (by rfl)
    simp only [Act.put, List.setIfInBounds_toArray, List.set_cons_zero, List.set_cons_succ]
    apply wpR_next 10 (some 28)
    · simp only [List.getElem?_toArray, List.getElem?_cons_succ, List.getElem?_cons_zero]; exact rfl
    · rfl
    · kernel_rfl
    · kernel_rfl
    · kernel_rfl
    · exact fun _ _ _ _ h => h
    apply Exists.intro
    apply And.intro
    · exact yr_skip (by rfl)
    simp only [Act.put, List.setIfInBounds_toArray, List.set_cons_zero, List.set_cons_succ]
    apply wpR_next 11 (some 29)
    · simp only [List.getElem?_toArray, List.getElem?_cons_succ, List.getElem?_cons_zero]; exact rfl
    · rfl
    · kernel_rfl
    · kernel_rfl
    · kernel_rfl
    · exact fun _ _ _ _ h => h
    apply Exists.intro
    apply And.intro
    · exact yr_skip (by rfl)
    simp only [Act.put, List.setIfInBounds_toArray, List.set_cons_zero, List.set_cons_succ]
    apply wpR_next 12 (some 30)
    · simp only [List.getElem?_toArray, List.getElem?_cons_succ, List.getElem?_cons_zero]; exact rfl
    · rfl
    · kernel_rfl
    · kernel_rfl
    · kernel_rfl
    · exact fun _ _ _ _ h => h
    apply Exists.intro
    apply And.intro
    · exact yr_skip (by rfl)
    simp only [Act.put, List.setIfInBounds_toArray, List.set_cons_zero, List.set_cons_succ]
    apply wpR_next 13 (some 31)
    · simp only [List.getElem?_toArray, List.getElem?_cons_succ, List.getElem?_cons_zero]; exact rfl
    · rfl
    · kernel_rfl
    · kernel_rfl
    · kernel_rfl
    · exact fun _ _ _ _ h => h
    apply Exists.intro
    apply And.intro
    · exact yr_skip (by rfl)
    simp only [Act.put, List.setIfInBounds_toArray, List.set_cons_zero, List.set_cons_succ]
    apply wpR_next 14 (some 32)
    · simp only [List.getElem?_toArray, List.getElem?_cons_succ, List.getElem?_cons_zero]; exact rfl
    · rfl
    · kernel_rfl
    · kernel_rfl
    · kernel_rfl
    · exact fun _ _ _ _ h => h
    apply Exists.intro
    apply And.intro
    · exact yr_skip (by rfl)
    simp only [Act.put, List.setIfInBounds_toArray, List.set_cons_zero, List.set_cons_succ]
    apply wpR_next 15 (some 33)
    · simp only [List.getElem?_toArray, List.getElem?_cons_succ, List.getElem?_cons_zero]; exact rfl
    · rfl
    · kernel_rfl
    · kernel_rfl
    · kernel_rfl
    · exact fun _ _ _ _ h => h
    apply Exists.intro
    apply And.intro
    · exact yr_skip (by rfl)
    simp only [Act.put, List.setIfInBounds_toArray, List.set_cons_zero, List.set_cons_succ]
    apply wpR_next 16 (some 34)
    · simp only [List.getElem?_toArray, List.getElem?_cons_succ, List.getElem?_cons_zero]; exact rfl
    · rfl
    · kernel_rfl
    · kernel_rfl
    · kernel_rfl
    · exact fun _ _ _ _ h => h
    apply Exists.intro
    apply And.intro
    · apply yr_run; rfl; intro w' hw'; go_simp; (try with_reducible rfl)
    simp only [Act.put, List.setIfInBounds_toArray, List.set_cons_zero, List.set_cons_succ]
    apply wpR_next 17 (some 6)
    · simp only [List.getElem?_toArray, List.getElem?_cons_succ, List.getElem?_cons_zero]; exact rfl
    · rfl
    · kernel_rfl
    · kernel_rfl
    · kernel_rfl
    · exact fun _ _ _ _ h => h
    apply Exists.intro
    apply And.intro
    · apply yr_run; rfl; intro w' hw'; go_simp; (try with_reducible rfl)
    simp only [Act.put, List.setIfInBounds_toArray, List.set_cons_zero, List.set_cons_succ]
    refine wpR_done (by kernel_rfl) ?_ _
    intro w18 hw'
    have Da_19 := Lib.hid (Da_17.out.bl hw')
    have D0_19 := Lib.hid (D0_17.out.bl hw')
    have X_19 := Lib.hid (X_17.out.bl hw')
    have Y_19 := Lib.hid (Y_17.out.bl hw')
    have R_19 := Lib.hid (R_17.out.bl hw')
    have Bel_19 := Lib.hid (bel_bl Bel_17.out hw')
    clear Da_17 D0_17 X_17 Y_17 R_17 Bel_17
    clear hw'
    go_wp2
    go_ret
    exact ⟨rfl, Bel_19.out⟩
  subst hi
  rcases Hjb.out with hj | ⟨j, hj, hjn⟩
  · have ht : tb = false := by rw [← Gt.out, if_pos (.inr (by omega))]
    subst ht
    subst hj
    have hi1 : decide ((0 : Int) ≤ (i : Int)) = true := decide_eq_true (by omega)
    have hj1 : decide ((0 : Int) ≤ -1) = false := by decide
    have Da_17 := Lib.hid (Da_16.out.dr)
    have D0_17 := Lib.hid (D0_16.out.dr)
    have X_17 := Lib.hid (X_16.out.dr)
    have Y_17 := Lib.hid (Y_16.out.dr)
    have R_17 := Lib.hid (R_16.out.dr)
    have Bel_17 := Lib.hid (bel_dr Bel_16.out)
    refine wp_region_reg Nil_ (by kernel_rfl) ?_
    apply wpR_next 0 (some 18)
    · simp only [List.getElem?_toArray, List.getElem?_cons_succ, List.getElem?_cons_zero]; exact rfl
    · rfl
    · kernel_rfl
    · kernel_rfl
    · kernel_rfl
    · exact fun _ _ _ _ h => h
    apply Exists.intro
    apply And.intro
    · apply yr_run; rfl; intro w' hw'; go_simp; (try with_reducible rfl)
    simp only [Act.put, List.setIfInBounds_toArray, List.set_cons_zero, List.set_cons_succ]
    apply wpR_next 1 (some 19)
    · simp only [List.getElem?_toArray, List.getElem?_cons_succ, List.getElem?_cons_zero]; exact rfl
    · rfl
    · kernel_rfl
    · kernel_rfl
    · kernel_rfl
    · exact fun _ _ _ _ h => h
    apply Exists.intro
    apply And.intro
    · apply yr_run; rfl; intro w' hw'; go_simp; (try with_reducible rfl)
    simp only [Act.put, List.setIfInBounds_toArray, List.set_cons_zero, List.set_cons_succ]
    apply wpR_next 2 (some 20)
    · simp only [List.getElem?_toArray, List.getElem?_cons_succ, List.getElem?_cons_zero]; exact rfl
    · rfl
    · kernel_rfl
    · kernel_rfl
    · kernel_rfl
    · exact fun _ _ _ _ h => h
    apply Exists.intro
    apply And.intro
    · apply yr_run; rfl; intro w' hw'; go_simp; (try with_reducible rfl)
    simp only [Act.put, List.setIfInBounds_toArray, List.set_cons_zero, List.set_cons_succ]
    apply wpR_next 3 (some 21)
    · simp only [List.getElem?_toArray, List.getElem?_cons_succ, List.getElem?_cons_zero]; exact rfl
    · rfl
    · kernel_rfl
    · kernel_rfl
    · kernel_rfl
    · exact fun _ _ _ _ h => h
    apply Exists.intro
    apply And.intro
    · apply yr_run; rfl; intro w' hw'; go_simp; (try with_reducible rfl)
    simp only [Act.put, List.setIfInBounds_toArray, List.set_cons_zero, List.set_cons_succ]
    apply wpR_next 4 (some 22)
    · simp only [List.getElem?_toArray, List.getElem?_cons_succ, List.getElem?_cons_zero]; exact rfl
    · rfl
    · kernel_rfl
    · kernel_rfl
    · kernel_rfl
    · exact fun _ _ _ _ h => h
    apply Exists.intro
    apply And.intro
    · apply yr_run; rfl; intro w' hw'; go_simp; (try with_reducible rfl)
    simp only [Act.put, List.setIfInBounds_toArray, List.set_cons_zero, List.set_cons_succ]
    apply wpR_next 5 (some 23)
    · simp only [List.getElem?_toArray, List.getElem?_cons_succ, List.getElem?_cons_zero]; exact rfl
    · rfl
    · kernel_rfl
    · kernel_rfl
    · kernel_rfl
    · exact fun _ _ _ _ h => h
    apply Exists.intro
    apply And.intro
    · apply yr_run; rfl; intro w' hw'; go_simp; (try with_reducible rfl)
    simp only [Act.put, List.setIfInBounds_toArray, List.set_cons_zero, List.set_cons_succ]
    apply wpR_next 6 (some 24)
    · simp only [List.getElem?_toArray, List.getElem?_cons_succ, List.getElem?_cons_zero]; exact rfl
    · rfl
    · kernel_rfl
    · kernel_rfl
    · kernel_rfl
    · exact fun _ _ _ _ h => h
    apply Exists.intro
    apply And.intro
    · apply yr_run; rfl; intro w' hw'; go_simp; (try with_reducible rfl)
    simp only [Act.put, List.setIfInBounds_toArray, List.set_cons_zero, List.set_cons_succ]
    apply wpR_next 7 (some 25)
    · simp only [List.getElem?_toArray, List.getElem?_cons_succ, List.getElem?_cons_zero]; exact rfl
    · rfl
    · kernel_rfl
    · kernel_rfl
    · kernel_rfl
    · exact fun _ _ _ _ h => h
    apply Exists.intro
    apply And.intro
    · exact yr_skip (by rfl)
    simp only [Act.put, List.setIfInBounds_toArray, List.set_cons_zero, List.set_cons_succ]
    apply wpR_next 8 (some 26)
    · simp only [List.getElem?_toArray, List.getElem?_cons_succ, List.getElem?_cons_zero]; exact rfl
    · rfl
    · kernel_rfl
    · kernel_rfl
    · kernel_rfl
    · exact fun _ _ _ _ h => h
    apply Exists.intro
    apply And.intro
    · exact yr_skip (by rfl)
    simp only [Act.put, List.setIfInBounds_toArray, List.set_cons_zero, List.set_cons_succ]
    apply wpR_next 9 (some 27)
    · simp only [List.getElem?_toArray, List.getElem?_cons_succ, List.getElem?_cons_zero]; exact rfl
    · rfl
    · kernel_rfl
    · kernel_rfl
    · kernel_rfl
    · exact fun _ _ _ _ h => h
    apply Exists.intro
    apply And.intro
    · exact yr_skip (by rfl)
    simp only [Act.put, List.setIfInBounds_toArray, List.set_cons_zero, List.set_cons_succ]
    apply wpR_next 10 (some 28)
    · simp only [List.getElem?_toArray, List.getElem?_cons_succ, List.getElem?_cons_zero]; exact rfl
    · rfl
    · kernel_rfl
    · kernel_rfl
    · kernel_rfl
    · exact fun _ _ _ _ h => h
    apply Exists.intro
    apply And.intro
    · exact yr_skip (by rfl)
    simp only [Act.put, List.setIfInBounds_toArray, List.set_cons_zero, List.set_cons_succ]
    apply wpR_next 11 (some 29)
    · simp only [List.getElem?_toArray, List.getElem?_cons_succ, List.getElem?_cons_zero]; exact rfl
    · rfl
    · kernel_rfl
    · kernel_rfl
    · kernel_rfl
    · exact fun _ _ _ _ h => h
    apply Exists.intro
    apply And.intro
    · exact yr_skip (by rfl)
    simp only [Act.put, List.setIfInBounds_toArray, List.set_cons_zero, List.set_cons_succ]
    apply wpR_next 12 (some 30)
    · simp only [List.getElem?_toArray, List.getElem?_cons_succ, List.getElem?_cons_zero]; exact rfl
    · rfl
    · kernel_rfl
    · kernel_rfl
    · kernel_rfl
    · exact fun _ _ _ _ h => h
    apply Exists.intro
    apply And.intro
    · exact yr_skip (by rfl)
    simp only [Act.put, List.setIfInBounds_toArray, List.set_cons_zero, List.set_cons_succ]
    apply wpR_next 13 (some 31)
    · simp only [List.getElem?_toArray, List.getElem?_cons_succ, List.getElem?_cons_zero]; exact rfl
    · rfl
    · kernel_rfl
    · kernel_rfl
    · kernel_rfl
    · exact fun _ _ _ _ h => h
    apply Exists.intro
    apply And.intro
    · exact yr_skip (by rfl)
    simp only [Act.put, List.setIfInBounds_toArray, List.set_cons_zero, List.set_cons_succ]
    apply wpR_next 14 (some 32)
    · simp only [List.getElem?_toArray, List.getElem?_cons_succ, List.getElem?_cons_zero]; exact rfl
    · rfl
    · kernel_rfl
    · kernel_rfl
    · kernel_rfl
    · exact fun _ _ _ _ h => h
    apply Exists.intro
    apply And.intro
    · exact yr_skip (by rfl)
    simp only [Act.put, List.setIfInBounds_toArray, List.set_cons_zero, List.set_cons_succ]
    apply wpR_next 15 (some 33)
    · simp only [List.getElem?_toArray, List.getElem?_cons_succ, List.getElem?_cons_zero]; exact rfl
    · rfl
    · kernel_rfl
    · kernel_rfl
    · kernel_rfl
    · exact fun _ _ _ _ h => h
    apply Exists.intro
    apply And.intro
    · exact yr_skip (by rfl)
    simp only [Act.put, List.setIfInBounds_toArray, List.set_cons_zero, List.set_cons_succ]
    apply wpR_next 16 (some 34)
    · simp only [List.getElem?_toArray, List.getElem?_cons_succ, List.getElem?_cons_zero]; exact rfl
    · rfl
    · kernel_rfl
    · kernel_rfl
    · kernel_rfl
    · exact fun _ _ _ _ h => h
    apply Exists.intro
    apply And.intro
    · apply yr_run; rfl; intro w' hw'; go_simp; (try with_reducible rfl)
    simp only [Act.put, List.setIfInBounds_toArray, List.set_cons_zero, List.set_cons_succ]
    apply wpR_next 17 (some 6)
    · simp only [List.getElem?_toArray, List.getElem?_cons_succ, List.getElem?_cons_zero]; exact rfl
    · rfl
    · kernel_rfl
    · kernel_rfl
    · kernel_rfl
    · exact fun _ _ _ _ h => h
    apply Exists.intro
    apply And.intro
    · apply yr_run; rfl; intro w' hw'; go_simp; (try with_reducible rfl)
    simp only [Act.put, List.setIfInBounds_toArray, List.set_cons_zero, List.set_cons_succ]
    refine wpR_done (by kernel_rfl) ?_ _
    intro w18 hw'
    have Da_19 := Lib.hid (Da_17.out.bl hw')
    have D0_19 := Lib.hid (D0_17.out.bl hw')
    have X_19 := Lib.hid (X_17.out.bl hw')
    have Y_19 := Lib.hid (Y_17.out.bl hw')
    have R_19 := Lib.hid (R_17.out.bl hw')
    have Bel_19 := Lib.hid (bel_bl Bel_17.out hw')
    clear Da_17 D0_17 X_17 Y_17 R_17 Bel_17
    clear hw'
    go_wp2
    go_ret
    exact ⟨rfl, Bel_19.out⟩
  subst hj
  have ht : tb = (L.getD i 0 == L.getD j 0) := by
    have h1 := Gt.out
    rw [if_neg (by omega), Int.toNat_natCast, Int.toNat_natCast] at h1
    exact h1.symm
  obtain ⟨a, ga⟩ : ∃ z, L.getD i 0 = z := ⟨_, rfl⟩
  obtain ⟨b, gb⟩ : ∃ z, L.getD j 0 = z := ⟨_, rfl⟩
  rw [ga, gb] at ht
  have HTb := Lib.hid ht
  obtain ⟨bb, off, rfl, hbB, hpl⟩ := (R_16.out).place n1_len (by decide) (by omega)
  have q0 := hpl i (L.getD i 0) (by rw [List.getD_eq_getElem?_getD, List.getElem?_eq_getElem (by have := HLl.out; omega)]; rfl) 0 _ rfl
  have q1 := hpl j (L.getD j 0) (by rw [List.getD_eq_getElem?_getD, List.getElem?_eq_getElem (by have := HLl.out; omega)]; rfl) 0 _ rfl
  simp only [Addr.add_lit, Nat.add_zero, Nat.mul_one] at q0 q1
  rw [ga] at q0
  rw [gb] at q1
  have hi1 : decide ((0 : Int) ≤ (i : Int)) = true := decide_eq_true (by omega)
  have hj1 : decide ((0 : Int) ≤ (j : Int)) = true := decide_eq_true (by omega)
  clear ga gb ht hbB hpl Gt
  have Da_17 := Lib.hid (Da_16.out.dr)
  have D0_17 := Lib.hid (D0_16.out.dr)
  have X_17 := Lib.hid (X_16.out.dr)
  have Y_17 := Lib.hid (Y_16.out.dr)
  have R_17 := Lib.hid (R_16.out.dr)
  have Bel_17 := Lib.hid (bel_dr Bel_16.out)
  have ld18 : ∀ w', Kept Nil_ w15.drew w' → w'.cell? ⟨bb, off + i, none⟩ = some (.int .i64 a) := fun w' h => h.nil_cell ((show w15.drew.cell? _ = _ from q0))
  have ld19 : ∀ w', Kept Nil_ w15.drew w' → w'.cell? ⟨bb, off + j, none⟩ = some (.int .i64 b) := fun w' h => h.nil_cell ((show w15.drew.cell? _ = _ from q1))
  refine wp_region_reg Nil_ (by kernel_rfl) ?_
  apply wpR_next 0 (some 18)
  · simp only [List.getElem?_toArray, List.getElem?_cons_succ, List.getElem?_cons_zero]; exact rfl
  · rfl
  · kernel_rfl
  · kernel_rfl
  · kernel_rfl
  · exact fun _ _ _ _ h => h
  apply Exists.intro
  apply And.intro
  · apply yr_run; rfl; intro w' hw'; go_simp; (try with_reducible rfl)
  simp only [Act.put, List.setIfInBounds_toArray, List.set_cons_zero, List.set_cons_succ]
  apply wpR_next 1 (some 19)
  · simp only [List.getElem?_toArray, List.getElem?_cons_succ, List.getElem?_cons_zero]; exact rfl
  · rfl
  · kernel_rfl
  · kernel_rfl
  · kernel_rfl
  · exact fun _ _ _ _ h => h
  apply Exists.intro
  apply And.intro
  · apply yr_run; rfl; intro w' hw'; go_simp; (try with_reducible rfl)
  simp only [Act.put, List.setIfInBounds_toArray, List.set_cons_zero, List.set_cons_succ]
  apply wpR_next 2 (some 20)
  · simp only [List.getElem?_toArray, List.getElem?_cons_succ, List.getElem?_cons_zero]; exact rfl
  · rfl
  · kernel_rfl
  · kernel_rfl
  · kernel_rfl
  · exact fun _ _ _ _ h => h
  apply Exists.intro
  apply And.intro
  · apply yr_run; rfl; intro w' hw'; go_simp; (try with_reducible rfl)
  simp only [Act.put, List.setIfInBounds_toArray, List.set_cons_zero, List.set_cons_succ]
  apply wpR_next 3 (some 21)
  · simp only [List.getElem?_toArray, List.getElem?_cons_succ, List.getElem?_cons_zero]; exact rfl
  · rfl
  · kernel_rfl
  · kernel_rfl
  · kernel_rfl
  · exact fun _ _ _ _ h => h
  apply Exists.intro
  apply And.intro
  · apply yr_run; rfl; intro w' hw'; go_simp; (try with_reducible rfl)
  simp only [Act.put, List.setIfInBounds_toArray, List.set_cons_zero, List.set_cons_succ]
  apply wpR_next 4 (some 22)
  · simp only [List.getElem?_toArray, List.getElem?_cons_succ, List.getElem?_cons_zero]; exact rfl
  · rfl
  · kernel_rfl
  · kernel_rfl
  · kernel_rfl
  · exact fun _ _ _ _ h => h
  apply Exists.intro
  apply And.intro
  · apply yr_run; rfl; intro w' hw'; go_simp; (try with_reducible rfl)
  simp only [Act.put, List.setIfInBounds_toArray, List.set_cons_zero, List.set_cons_succ]
  apply wpR_next 5 (some 23)
  · simp only [List.getElem?_toArray, List.getElem?_cons_succ, List.getElem?_cons_zero]; exact rfl
  · rfl
  · kernel_rfl
  · kernel_rfl
  · kernel_rfl
  · exact fun _ _ _ _ h => h
  apply Exists.intro
  apply And.intro
  · apply yr_run; rfl; intro w' hw'; go_simp; (try with_reducible rfl)
  simp only [Act.put, List.setIfInBounds_toArray, List.set_cons_zero, List.set_cons_succ]
  apply wpR_next 6 (some 24)
  · simp only [List.getElem?_toArray, List.getElem?_cons_succ, List.getElem?_cons_zero]; exact rfl
  · rfl
  · kernel_rfl
  · kernel_rfl
  · kernel_rfl
  · exact fun _ _ _ _ h => h
  apply Exists.intro
  apply And.intro
  · apply yr_run; rfl; intro w' hw'; go_simp; (try with_reducible rfl)
  simp only [Act.put, List.setIfInBounds_toArray, List.set_cons_zero, List.set_cons_succ]
  apply wpR_next 7 (some 25)
  · simp only [List.getElem?_toArray, List.getElem?_cons_succ, List.getElem?_cons_zero]; exact rfl
  · rfl
  · kernel_rfl
  · kernel_rfl
  · kernel_rfl
  · exact fun _ _ _ _ h => h
  apply Exists.intro
  apply And.intro
  · apply yr_run; rfl; intro w' hw'; go_simp; (try with_reducible rfl)
  simp only [Act.put, List.setIfInBounds_toArray, List.set_cons_zero, List.set_cons_succ]
  apply wpR_next 8 (some 26)
  · simp only [List.getElem?_toArray, List.getElem?_cons_succ, List.getElem?_cons_zero]; exact rfl
  · rfl
  · kernel_rfl
  · kernel_rfl
  · kernel_rfl
  · exact fun _ _ _ _ h => h
  apply Exists.intro
  apply And.intro
  · apply yr_run; rfl; intro w' hw'; go_simp; (try with_reducible rfl)
  simp only [Act.put, List.setIfInBounds_toArray, List.set_cons_zero, List.set_cons_succ]
  apply wpR_next 9 (some 27)
  · simp only [List.getElem?_toArray, List.getElem?_cons_succ, List.getElem?_cons_zero]; exact rfl
  · rfl
  · kernel_rfl
  · kernel_rfl
  · kernel_rfl
  · exact fun _ _ _ _ h => h
  apply Exists.intro
  apply And.intro
  · apply yr_run; rfl; intro w' hw'; go_simp; (try with_reducible rfl)
  simp only [Act.put, List.setIfInBounds_toArray, List.set_cons_zero, List.set_cons_succ]
  apply wpR_next 10 (some 28)
  · simp only [List.getElem?_toArray, List.getElem?_cons_succ, List.getElem?_cons_zero]; exact rfl
  · rfl
  · kernel_rfl
  · kernel_rfl
  · kernel_rfl
  · exact fun _ _ _ _ h => h
  apply Exists.intro
  apply And.intro
  · apply yr_run; rfl; intro w' hw'; go_simp; (try with_reducible rfl)
  simp only [Act.put, List.setIfInBounds_toArray, List.set_cons_zero, List.set_cons_succ]
  apply wpR_next 11 (some 29)
  · simp only [List.getElem?_toArray, List.getElem?_cons_succ, List.getElem?_cons_zero]; exact rfl
  · rfl
  · kernel_rfl
  · kernel_rfl
  · kernel_rfl
  · exact fun _ _ _ _ h => h
  apply Exists.intro
  apply And.intro
  · apply yr_run; rfl; intro w' hw'; go_simp; (try with_reducible rfl)
  simp only [Act.put, List.setIfInBounds_toArray, List.set_cons_zero, List.set_cons_succ]
  apply wpR_next 12 (some 30)
  · simp only [List.getElem?_toArray, List.getElem?_cons_succ, List.getElem?_cons_zero]; exact rfl
  · rfl
  · kernel_rfl
  · kernel_rfl
  · kernel_rfl
  · exact fun _ _ _ _ h => h
  apply Exists.intro
  apply And.intro
  · apply yr_run; rfl; intro w' hw'; go_simp; (try with_reducible rfl)
  simp only [Act.put, List.setIfInBounds_toArray, List.set_cons_zero, List.set_cons_succ]
  apply wpR_next 13 (some 31)
  · simp only [List.getElem?_toArray, List.getElem?_cons_succ, List.getElem?_cons_zero]; exact rfl
  · rfl
  · kernel_rfl
  · kernel_rfl
  · kernel_rfl
  · exact fun _ _ _ _ h => h
  apply Exists.intro
  apply And.intro
  · apply yr_run; rfl; intro w' hw'; go_simp; (try with_reducible rfl)
  simp only [Act.put, List.setIfInBounds_toArray, List.set_cons_zero, List.set_cons_succ]
  apply wpR_next 14 (some 32)
  · simp only [List.getElem?_toArray, List.getElem?_cons_succ, List.getElem?_cons_zero]; exact rfl
  · rfl
  · kernel_rfl
  · kernel_rfl
  · kernel_rfl
  · exact fun _ _ _ _ h => h
  apply Exists.intro
  apply And.intro
  · apply yr_run; rfl; intro w' hw'; go_simp; (try with_reducible rfl)
  simp only [Act.put, List.setIfInBounds_toArray, List.set_cons_zero, List.set_cons_succ]
  apply wpR_next 15 (some 33)
  · simp only [List.getElem?_toArray, List.getElem?_cons_succ, List.getElem?_cons_zero]; exact rfl
  · rfl
  · kernel_rfl
  · kernel_rfl
  · kernel_rfl
  · exact fun _ _ _ _ h => h
  apply Exists.intro
  apply And.intro
  · apply yr_run; rfl; intro w' hw'; go_simp; (try with_reducible rfl)
  simp only [Act.put, List.setIfInBounds_toArray, List.set_cons_zero, List.set_cons_succ]
  apply wpR_next 16 (some 34)
  · simp only [List.getElem?_toArray, List.getElem?_cons_succ, List.getElem?_cons_zero]; exact rfl
  · rfl
  · kernel_rfl
  · kernel_rfl
  · kernel_rfl
  · exact fun _ _ _ _ h => h
  apply Exists.intro
  apply And.intro
  · apply yr_run; rfl; intro w' hw'; go_simp; (try with_reducible rfl)
  simp only [Act.put, List.setIfInBounds_toArray, List.set_cons_zero, List.set_cons_succ]
  apply wpR_next 17 (some 6)
  · simp only [List.getElem?_toArray, List.getElem?_cons_succ, List.getElem?_cons_zero]; exact rfl
  · rfl
  · kernel_rfl
  · kernel_rfl
  · kernel_rfl
  · exact fun _ _ _ _ h => h
  apply Exists.intro
  apply And.intro
  · apply yr_run; rfl; intro w' hw'; go_simp; (try with_reducible rfl)
  simp only [Act.put, List.setIfInBounds_toArray, List.set_cons_zero, List.set_cons_succ]
  refine wpR_done (by kernel_rfl) ?_ _
  intro w20 hw'
  have Da_21 := Lib.hid (Da_17.out.bl hw')
  have D0_21 := Lib.hid (D0_17.out.bl hw')
  have X_21 := Lib.hid (X_17.out.bl hw')
  have Y_21 := Lib.hid (Y_17.out.bl hw')
  have R_21 := Lib.hid (R_17.out.bl hw')
  have Bel_21 := Lib.hid (bel_bl Bel_17.out hw')
  clear Da_17 D0_17 X_17 Y_17 R_17 Bel_17
  clear hw'
  go_wp2
  go_ret
  exact ⟨by rw [HTb.out]; first | rfl | simp [BEq.beq] | skip, Bel_21.out⟩
/-- A row more. -/
theorem RowsIn.push {P : Program} {α : Type} {W : World} {lo : Nat} {UR UE : TypeId} {s : Nat} {f : α → List Value} {A : Option Addr} {n c : Nat} {X : List (Rw α)} (h : RowsIn W lo UR UE s f A n c X) (x : Rw α) (hx : W.ownsRow lo UE s (rwV x) x.2.2.length (rowsV f x.2.2)) (hd : ∀ y ∈ X, ∀ a b, y.1 = some a → x.1 = some b → a.block ≠ b.block)
    (t ty : TypeId) (i : TypeInfo) (z : Value) (ht : P.underlying t = some (.slice UR)) (hi : P.info? UR = some i) (hz : i.zero = some z) (hsize : i.size = 1) (hby : i.bytes = 24) (hzs : z.cells.size = 1)
    (hT : UR ≠ UE) (hn : n ≤ 1000000) (hlo : lo ≤ W.heap.size) (A1 : Option Addr) (c1 : Nat) (hr : RdS W W.heap.size 1 A1 1 c1 [rwV x]) :
    ∃ A' c' W', (Builtin.append_ #[t, t] ty #[.slice A n c, .slice A1 1 c1]).run P W = .ok (.slice A' (n + 1) c') W' ∧ RowsIn W' lo UR UE s f A' (n + 1) c' (X ++ [x]) ∧ Below lo W W' ∧ W.grownBy W' (Value.slice A n c).ownBlock := by
  obtain ⟨a1, rfl⟩ : ∃ a1, A1 = some a1 := by
    cases A1 with
    | none => have := (hr.none_ rfl).1; omega
    | some a1 => exact ⟨a1, rfl⟩
  obtain ⟨v', W2, hrun, hown, hg, hn0, hb⟩ := run_append_own_at (P := P) W lo t ty UR i z 1 24 ht hi hz hsize hby hzs (by decide) _ n _ h.row a1 1 c1 _ hr.len (hr.cell a1 rfl) (by simp [rwV, Value.oneCell']) (by unfold maxLen; omega) (by omega) hlo
  have hk : ∀ k, (Value.slice A n c).ownBlock = some k → lo ≤ k := fun k hk => (h.row.lt k hk).1
  obtain ⟨A', c', rfl, _⟩ := RdS.of_own hown
  have e : rowsV rwC X ++ [rwV x] = rowsV rwC (X ++ [x]) := by rw [rowsV_app]; rfl
  rw [e] at hown
  have keep : ∀ y : Rw α, W.ownsRow lo UE s (rwV y) y.2.2.length (rowsV f y.2.2) → W2.ownsRow lo UE s (rwV y) y.2.2.length (rowsV f y.2.2) := fun y hy => hy.kept hg (by
    cases hv : (rwV y).ownBlock with
    | none => exact .inl rfl
    | some g => exact .inr fun q => own_two h.row hy hT q.symm hv)
  refine ⟨A', c', W2, hrun, ⟨hown, by simp [h.len], fun y hy => ?_, fun i j u v a b hij hu hv hua hvb => ?_⟩, (Below.refl lo W).grown hg hlo hk, hg⟩
  · rcases List.mem_append.1 hy with hy | hy
    · exact keep y (h.one y hy)
    · obtain rfl := List.mem_singleton.1 hy
      exact keep y hx
  · have get : ∀ (i : Nat) (u : Rw α), (X ++ [x])[i]? = some u → X[i]? = some u ∨ (i = X.length ∧ u = x) := fun i u hu => by
      by_cases hi : i < X.length
      · rw [List.getElem?_append_left hi] at hu; exact .inl hu
      · rw [List.getElem?_append_right (by omega)] at hu
        have h1 := (List.getElem?_eq_some_iff.1 hu).1
        simp at h1
        have e0 : i - X.length = 0 := by omega
        rw [e0] at hu
        exact .inr ⟨by omega, by simpa using hu.symm⟩
    rcases get i u hu with hu' | ⟨ei, eu⟩
    · rcases get j v hv with hv' | ⟨ej, ev⟩
      · exact h.ne i j u v a b hij hu' hv' hua hvb
      · exact hd u (List.mem_of_getElem? hu') a b hua (by rw [← ev]; exact hvb)
    · rcases get j v hv with hv' | ⟨ej, ev⟩
      · exact fun q => hd v (List.mem_of_getElem? hv') b a hvb (by rw [← eu]; exact hua) q.symm
      · omega
end Go.Proofs.Ytpindjknngcccaa
