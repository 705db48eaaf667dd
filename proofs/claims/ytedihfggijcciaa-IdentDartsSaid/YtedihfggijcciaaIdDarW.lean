/- IdentDarts' walk. -/
import Derived.Test.YtedihfggijcciaaIdF
import Derived.Test.YtedihfggijcciaaIdOrd
import Derived.Test.YtedihfggijcciaaCalm
import Derived.Deep.DeepCutAuto
namespace Go.Proofs.Ytedihfggijcciaa
open Go.RowKit
set_option linter.unusedSimpArgs false

/-- What stands behind the two darts' making: the dart d in its box, the darts a, b in blocks ga, gb. -/
structure DarIn (w : World) (s0 n0 a0 b0 c0 : Int) (ga gb : Nat) (x : World) : Prop where
  b : Below w.heap.size w x
  x0 : x.cell? ⟨w.heap.size, 0, none⟩ = some (.int .i64 s0)
  x1 : x.cell? ⟨w.heap.size, 1, none⟩ = some (.int .i64 n0)
  d0 : x.cell? ⟨w.heap.size + 1, 0, none⟩ = some (.int .i64 a0)
  d1 : x.cell? ⟨w.heap.size + 1, 1, none⟩ = some (.int .i64 b0)
  d2 : x.cell? ⟨w.heap.size + 1, 2, none⟩ = some (.int .i64 c0)
  a0 : x.cell? ⟨ga, 0, none⟩ = some (.int .i64 s0)
  a1 : x.cell? ⟨ga, 1, none⟩ = some (.int .i64 n0)
  a2 : x.cell? ⟨ga, 2, none⟩ = some (.int .i64 0)
  b0 : x.cell? ⟨gb, 0, none⟩ = some (.int .i64 s0)
  b1 : x.cell? ⟨gb, 1, none⟩ = some (.int .i64 n0)
  b2 : x.cell? ⟨gb, 2, none⟩ = some (.int .i64 1)

theorem DarIn.up {w x y : World} {s0 n0 a0 b0 c0 : Int} {ga gb : Nat} (h : DarIn w s0 n0 a0 b0 c0 ga gb x) (hb : Ext x y) : DarIn w s0 n0 a0 b0 c0 ga gb y :=
  ⟨h.b.trans (hb.mono h.b.size), hb.cell h.x0, hb.cell h.x1, hb.cell h.d0, hb.cell h.d1, hb.cell h.d2, hb.cell h.a0, hb.cell h.a1, hb.cell h.a2, hb.cell h.b0, hb.cell h.b1, hb.cell h.b2⟩
theorem Ext.drewD (w : World) : Ext w w.drew := (Below.refl _ _).drew

theorem dart_pair (s n : Int) : ordD s n 0 s n 1 = -1 := by
  unfold ordD cmpI
  simp
theorem mayD0 (s n : Int) : mayD s n 0 = mayI s n := by simp [mayD]
theorem mayD1 (s n : Int) : mayD s n 1 = mayI s n := by simp [mayD]
theorem none_between (s n a b c : Int) (h1 : ordD s n 0 a b c < 0) (h2 : ordD a b c s n 1 < 0) : mayD a b c = false := by
  unfold ordD at h1 h2
  have e1 := ordI_neg s n a b
  by_cases e : s = a ∧ n = b
  · obtain ⟨rfl, rfl⟩ := e
    simp at h1 h2
    have k1 := cmpI_cases 0 c
    have k2 := cmpI_cases c 1
    omega
  · have e' : ¬ (a = s ∧ b = n) := fun h => e ⟨h.1.symm, h.2.symm⟩
    rw [if_neg e] at h1
    rw [if_neg e'] at h2
    omega

set_option maxRecDepth 100000 in
set_option maxHeartbeats 1000000 in
theorem law_darts_not (s0 n0 a0 b0 c0 : Int) (w : World) (hm : mayI s0 n0 = false) :
    Calls Try.prog 8 #[.agg #[.int .i64 s0, .int .i64 n0], .agg #[.int .i64 a0, .int .i64 b0, .int .i64 c0]] w
      fun e w' => e = .returned (.bool true) ∧ Below w.heap.size w w' := by
  have H0 := Lib.hid shown_any
  have ha := maydart_any s0 n0 0
  have hb := maydart_any s0 n0 1
  have hy := may_any s0 n0
  rw [mayD0, hm] at ha
  rw [mayD1, hm] at hb
  rw [hm] at hy
  have HA := Lib.hid (fun W => ha W)
  have HB := Lib.hid (fun W => hb W)
  have HY := Lib.hid (fun W => hy W)
  clear hm ha hb hy
  go_enter Try.func8, Try.ntmps8
  go_wp2_with (first | (go_at_call 9; refine (H0.out _).mono ?_; rintro e w1 ⟨rfl, hb1⟩; obtain ⟨hc, hf⟩ := bcell hb1; have hsz := hb1.size; simp at hsz; have hz01 : w.heap.size < w1.heap.size := (by omega); have hz02 : w.heap.size + 1 < w1.heap.size := (by omega)) | (go_at_call 11; (with_reducible refine (HY.out _).mono ?_); rintro e w2 ⟨rfl, hb2⟩; obtain ⟨hc2, hf2⟩ := bcell hb2; have hsz2 := hb2.size; simp at hsz2; have hz2 : w1.heap.size < w2.heap.size := (by omega); have hz3 : w1.heap.size + 1 < w2.heap.size := (by omega)) | (go_at_call 15; (with_reducible refine (HA.out _).mono ?_); rintro e w3 ⟨rfl, hb3⟩; obtain ⟨hc3, hf3⟩ := bcell hb3; have hsz3 := hb3.size) | (go_at_call 15; (with_reducible refine (HB.out _).mono ?_); rintro e w4 ⟨rfl, hb4⟩))
  go_ret
  exact ⟨rfl, (below_after2 hb1).trans (((below_after2 hb2).trans ((hb3.trans (hb4.mono hb3.size)).mono (by omega))).mono (by omega))⟩

set_option maxRecDepth 100000 in
set_option maxHeartbeats 2000000 in
theorem law_darts_may (s0 n0 a0 b0 c0 : Int) (w : World) (hm : mayI s0 n0 = true) :
    Calls Try.prog 8 #[.agg #[.int .i64 s0, .int .i64 n0], .agg #[.int .i64 a0, .int .i64 b0, .int .i64 c0]] w
      fun e w' => e = .returned (.bool true) ∧ Below w.heap.size w w' := by
  have H0 := Lib.hid shown_any
  have ha := maydart_any s0 n0 0
  have hb := maydart_any s0 n0 1
  have hy := may_any s0 n0
  have hd := maydart_any a0 b0 c0
  have h1 := orderdart_any s0 n0 0 a0 b0 c0
  have h2 := orderdart_any a0 b0 c0 s0 n0 1
  have hab := orderdart_any s0 n0 0 s0 n0 1
  have hbt := Lib.hid (none_between s0 n0 a0 b0 c0)
  rw [mayD0, hm] at ha
  rw [mayD1, hm] at hb
  rw [hm] at hy
  rw [dart_pair] at hab
  have hoa : Pure 18 #[.agg #[.int .i64 s0, .int .i64 n0, .int .i64 0]] (.agg #[.int .i64 s0, .int .i64 n0, .int .i64 1]) := other_any s0 n0 0 (by omega) (by omega)
  have hob : Pure 18 #[.agg #[.int .i64 s0, .int .i64 n0, .int .i64 1]] (.agg #[.int .i64 s0, .int .i64 n0, .int .i64 0]) := other_any s0 n0 1 (by omega) (by omega)
  clear hm
  generalize ordD s0 n0 0 a0 b0 c0 = o1 at *
  generalize ordD a0 b0 c0 s0 n0 1 = o2 at *
  generalize mayD a0 b0 c0 = md at *
  have HY := Lib.hid (fun W => hy W)
  have HD := Lib.hid (fun W => hd W)
  have H1 := Lib.hid (fun W => h1 W)
  have H2 := Lib.hid (fun W => h2 W)
  clear hy hd h1 h2
  go_enter Try.func8, Try.ntmps8
  go_upto_region 6 with (first | (go_at_call 9; refine (H0.out _).mono ?_; rintro e w1 ⟨rfl, hb1⟩; obtain ⟨hc, hf⟩ := bcell hb1; have hsz := hb1.size; simp at hsz; have hz01 : w.heap.size < w1.heap.size := (by omega); have hz02 : w.heap.size + 1 < w1.heap.size := (by omega)) | (go_at_call 11; (with_reducible refine (HY.out _).mono ?_); rintro e w2 ⟨rfl, hb2⟩))
  have hz2 : w1.heap.size < w2.heap.size ∧ w1.heap.size + 1 < w2.heap.size := by
    have := hb2.size
    simp at this
    omega
  have hz0 : w.heap.size < w1.heap.size ∧ w.heap.size + 1 < w1.heap.size := by omega
  have hI : DarIn w s0 n0 a0 b0 c0 w1.heap.size (w1.heap.size + 1) w2 := by
    refine DarIn.up (x := (w1.alloc (.cells #[.int .i64 s0, .int .i64 n0, .int .i64 0] 25)).alloc (.cells #[.int .i64 s0, .int .i64 n0, .int .i64 1] 25)) ?_ hb2
    refine ⟨(below_after2 hb1).trans ((below2 w1 _ _).mono (by omega)), by simp [go_sem, hc, hz0.1, hz0.2], by simp [go_sem, hc, hz0.1, hz0.2], by simp [go_sem, hc, hz0.1, hz0.2], by simp [go_sem, hc, hz0.1, hz0.2], by simp [go_sem, hc, hz0.1, hz0.2], by simp [go_sem], by simp [go_sem], by simp [go_sem], by simp [go_sem], by simp [go_sem], by simp [go_sem]⟩
  generalize hga : w1.heap.size = ga at *
  clear hc hf hb2 hsz hz0 hz2 hga hb1 hz01 hz02
  generalize hw2 : w2 = wq at *
  clear hw2 w2 w1
  go_cut [8] (fun s8 x => s8 = .bool false ∧ DarIn w s0 n0 a0 b0 c0 ga (ga + 1) x)
  case first =>
    obtain ⟨-, -, -, f0, f1, f2, f3, f4, f5, f6, f7, f8⟩ := id hI
    by_cases t1 : o1 < 0
    · by_cases t2 : o2 < 0
      · obtain rfl : md = false := hbt.out t1 t2
        go_wp2_with (first | (go_at_call 16; (with_reducible refine (H1.out _).mono ?_); rintro e x1 ⟨rfl, k1⟩; have hJ := hI.up k1; obtain ⟨-, -, -, p0, p1, p2, p3, p4, p5, p6, p7, p8⟩ := id hJ) | (go_at_call 16; (with_reducible refine (H2.out _).mono ?_); rintro e x2 ⟨rfl, k2⟩; have hL := hJ.up k2; obtain ⟨-, -, -, q0, q1, q2, q3, q4, q5, q6, q7, q8⟩ := id hL) | (go_at_call 15; (with_reducible refine (HD.out _).mono ?_); rintro e x3 ⟨rfl, k3⟩; have hM := hL.up k3))
        go_meet
        exact ⟨rfl, hM⟩
      · go_wp2_with (first | (go_at_call 16; (with_reducible refine (H1.out _).mono ?_); rintro e x1 ⟨rfl, k1⟩; have hJ := hI.up k1; obtain ⟨-, -, -, p0, p1, p2, p3, p4, p5, p6, p7, p8⟩ := id hJ) | (go_at_call 16; (with_reducible refine (H2.out _).mono ?_); rintro e x2 ⟨rfl, k2⟩; have hL := hJ.up k2))
        go_meet
        exact ⟨rfl, hL⟩
    · go_wp2_with (first | (go_at_call 16; (with_reducible refine (H1.out _).mono ?_); rintro e x1 ⟨rfl, k1⟩; have hJ := hI.up k1))
      go_meet
      exact ⟨rfl, hJ⟩
  case rest =>
    obtain ⟨rfl, hI⟩ := hcut
    go_upto_region 7 with fail
    have z0 := fun w' (h : Ext wc.drew w') => h.cell ((Ext.drewD wc).cell hI.x0)
    have z1 := fun w' (h : Ext wc.drew w') => h.cell ((Ext.drewD wc).cell hI.x1)
    have z2 := fun w' (h : Ext wc.drew w') => h.cell ((Ext.drewD wc).cell hI.d0)
    have z3 := fun w' (h : Ext wc.drew w') => h.cell ((Ext.drewD wc).cell hI.d1)
    have z4 := fun w' (h : Ext wc.drew w') => h.cell ((Ext.drewD wc).cell hI.d2)
    have z5 := fun w' (h : Ext wc.drew w') => h.cell ((Ext.drewD wc).cell hI.a0)
    have z6 := fun w' (h : Ext wc.drew w') => h.cell ((Ext.drewD wc).cell hI.a1)
    have z7 := fun w' (h : Ext wc.drew w') => h.cell ((Ext.drewD wc).cell hI.a2)
    have z8 := fun w' (h : Ext wc.drew w') => h.cell ((Ext.drewD wc).cell hI.b0)
    have z9 := fun w' (h : Ext wc.drew w') => h.cell ((Ext.drewD wc).cell hI.b1)
    have z10 := fun w' (h : Ext wc.drew w') => h.cell ((Ext.drewD wc).cell hI.b2)
    refine wp_region_calm (by kernel_rfl) ?_
    apply wpK_next 0 (some 42)
    · simp only [List.getElem?_toArray, List.getElem?_cons_succ, List.getElem?_cons_zero]; exact rfl
    · rfl
    · kernel_rfl
    · kernel_rfl
    · kernel_rfl
    · exact fun _ _ _ _ h => h
    apply Exists.intro
    apply And.intro
    · first | exact yk_skip (by rfl) | (apply yk_run; rfl; intro w' hw'; go_simp; (try with_reducible rfl))
    simp only [Act.put, List.setIfInBounds_toArray, List.set_cons_zero, List.set_cons_succ]
    apply wpK_next 1 (some 43)
    · simp only [List.getElem?_toArray, List.getElem?_cons_succ, List.getElem?_cons_zero]; exact rfl
    · rfl
    · kernel_rfl
    · kernel_rfl
    · kernel_rfl
    · exact fun _ _ _ _ h => h
    apply Exists.intro
    apply And.intro
    · first | exact yk_skip (by rfl) | (apply yk_run; rfl; intro w' hw'; go_simp; (try with_reducible rfl))
    simp only [Act.put, List.setIfInBounds_toArray, List.set_cons_zero, List.set_cons_succ]
    apply wpK_next 2 (some 44)
    · simp only [List.getElem?_toArray, List.getElem?_cons_succ, List.getElem?_cons_zero]; exact rfl
    · rfl
    · kernel_rfl
    · kernel_rfl
    · kernel_rfl
    · exact fun _ _ _ _ h => h
    apply Exists.intro
    apply And.intro
    · first | exact yk_skip (by rfl) | (apply yk_run; rfl; intro w' hw'; go_simp; (try with_reducible rfl))
    simp only [Act.put, List.setIfInBounds_toArray, List.set_cons_zero, List.set_cons_succ]
    apply wpK_next 3 (some 45)
    · simp only [List.getElem?_toArray, List.getElem?_cons_succ, List.getElem?_cons_zero]; exact rfl
    · rfl
    · kernel_rfl
    · kernel_rfl
    · kernel_rfl
    · exact fun _ _ _ _ h => h
    apply Exists.intro
    apply And.intro
    · first | exact yk_skip (by rfl) | (apply yk_call; rfl; rotate_left; intro w' _; exact ha w'; intro w'; go_simp)
    simp only [Act.put, List.setIfInBounds_toArray, List.set_cons_zero, List.set_cons_succ]
    apply wpK_next 4 (some 46)
    · simp only [List.getElem?_toArray, List.getElem?_cons_succ, List.getElem?_cons_zero]; exact rfl
    · rfl
    · kernel_rfl
    · kernel_rfl
    · kernel_rfl
    · exact fun _ _ _ _ h => h
    apply Exists.intro
    apply And.intro
    · first | exact yk_skip (by rfl) | (apply yk_run; rfl; intro w' hw'; go_simp; (try with_reducible rfl))
    simp only [Act.put, List.setIfInBounds_toArray, List.set_cons_zero, List.set_cons_succ]
    apply wpK_next 5 (some 47)
    · simp only [List.getElem?_toArray, List.getElem?_cons_succ, List.getElem?_cons_zero]; exact rfl
    · rfl
    · kernel_rfl
    · kernel_rfl
    · kernel_rfl
    · exact fun _ _ _ _ h => h
    apply Exists.intro
    apply And.intro
    · first | exact yk_skip (by rfl) | (apply yk_run; rfl; intro w' hw'; go_simp; (try with_reducible rfl))
    simp only [Act.put, List.setIfInBounds_toArray, List.set_cons_zero, List.set_cons_succ]
    apply wpK_next 6 (some 48)
    · simp only [List.getElem?_toArray, List.getElem?_cons_succ, List.getElem?_cons_zero]; exact rfl
    · rfl
    · kernel_rfl
    · kernel_rfl
    · kernel_rfl
    · exact fun _ _ _ _ h => h
    apply Exists.intro
    apply And.intro
    · first | exact yk_skip (by rfl) | (apply yk_run; rfl; intro w' hw'; go_simp; (try with_reducible rfl))
    simp only [Act.put, List.setIfInBounds_toArray, List.set_cons_zero, List.set_cons_succ]
    apply wpK_next 7 (some 49)
    · simp only [List.getElem?_toArray, List.getElem?_cons_succ, List.getElem?_cons_zero]; exact rfl
    · rfl
    · kernel_rfl
    · kernel_rfl
    · kernel_rfl
    · exact fun _ _ _ _ h => h
    apply Exists.intro
    apply And.intro
    · first | exact yk_skip (by rfl) | (apply yk_call; rfl; rotate_left; intro w' _; exact hb w'; intro w'; go_simp)
    simp only [Act.put, List.setIfInBounds_toArray, List.set_cons_zero, List.set_cons_succ]
    apply wpK_next 8 (some 50)
    · simp only [List.getElem?_toArray, List.getElem?_cons_succ, List.getElem?_cons_zero]; exact rfl
    · rfl
    · kernel_rfl
    · kernel_rfl
    · kernel_rfl
    · exact fun _ _ _ _ h => h
    apply Exists.intro
    apply And.intro
    · first | exact yk_skip (by rfl) | (apply yk_run; rfl; intro w' hw'; go_simp; (try with_reducible rfl))
    simp only [Act.put, List.setIfInBounds_toArray, List.set_cons_zero, List.set_cons_succ]
    apply wpK_next 9 (some 51)
    · simp only [List.getElem?_toArray, List.getElem?_cons_succ, List.getElem?_cons_zero]; exact rfl
    · rfl
    · kernel_rfl
    · kernel_rfl
    · kernel_rfl
    · exact fun _ _ _ _ h => h
    apply Exists.intro
    apply And.intro
    · first | exact yk_skip (by rfl) | (apply yk_run; rfl; intro w' hw'; go_simp; (try with_reducible rfl))
    simp only [Act.put, List.setIfInBounds_toArray, List.set_cons_zero, List.set_cons_succ]
    apply wpK_next 10 (some 52)
    · simp only [List.getElem?_toArray, List.getElem?_cons_succ, List.getElem?_cons_zero]; exact rfl
    · rfl
    · kernel_rfl
    · kernel_rfl
    · kernel_rfl
    · exact fun _ _ _ _ h => h
    apply Exists.intro
    apply And.intro
    · first | exact yk_skip (by rfl) | (apply yk_run; rfl; intro w' hw'; go_simp; (try with_reducible rfl))
    simp only [Act.put, List.setIfInBounds_toArray, List.set_cons_zero, List.set_cons_succ]
    apply wpK_next 11 (some 53)
    · simp only [List.getElem?_toArray, List.getElem?_cons_succ, List.getElem?_cons_zero]; exact rfl
    · rfl
    · kernel_rfl
    · kernel_rfl
    · kernel_rfl
    · exact fun _ _ _ _ h => h
    apply Exists.intro
    apply And.intro
    · first | exact yk_skip (by rfl) | (apply yk_call; rfl; rotate_left; intro w' _; exact hoa w'; intro w'; go_simp)
    simp only [Act.put, List.setIfInBounds_toArray, List.set_cons_zero, List.set_cons_succ]
    apply wpK_next 12 (some 54)
    · simp only [List.getElem?_toArray, List.getElem?_cons_succ, List.getElem?_cons_zero]; exact rfl
    · rfl
    · kernel_rfl
    · kernel_rfl
    · kernel_rfl
    · exact fun _ _ _ _ h => h
    apply Exists.intro
    apply And.intro
    · first | exact yk_skip (by rfl) | (apply yk_run; rfl; intro w' hw'; go_simp; (try with_reducible rfl))
    simp only [Act.put, List.setIfInBounds_toArray, List.set_cons_zero, List.set_cons_succ]
    apply wpK_next 13 (some 55)
    · simp only [List.getElem?_toArray, List.getElem?_cons_succ, List.getElem?_cons_zero]; exact rfl
    · rfl
    · kernel_rfl
    · kernel_rfl
    · kernel_rfl
    · exact fun _ _ _ _ h => h
    apply Exists.intro
    apply And.intro
    · first | exact yk_skip (by rfl) | (apply yk_run; rfl; intro w' hw'; go_simp; (try with_reducible rfl))
    simp only [Act.put, List.setIfInBounds_toArray, List.set_cons_zero, List.set_cons_succ]
    apply wpK_next 14 (some 56)
    · simp only [List.getElem?_toArray, List.getElem?_cons_succ, List.getElem?_cons_zero]; exact rfl
    · rfl
    · kernel_rfl
    · kernel_rfl
    · kernel_rfl
    · exact fun _ _ _ _ h => h
    apply Exists.intro
    apply And.intro
    · first | exact yk_skip (by rfl) | (apply yk_run; rfl; intro w' hw'; go_simp; (try with_reducible rfl))
    simp only [Act.put, List.setIfInBounds_toArray, List.set_cons_zero, List.set_cons_succ]
    apply wpK_next 15 (some 57)
    · simp only [List.getElem?_toArray, List.getElem?_cons_succ, List.getElem?_cons_zero]; exact rfl
    · rfl
    · kernel_rfl
    · kernel_rfl
    · kernel_rfl
    · exact fun _ _ _ _ h => h
    apply Exists.intro
    apply And.intro
    · first | exact yk_skip (by rfl) | (apply yk_run; rfl; intro w' hw'; go_simp; (try with_reducible rfl))
    simp only [Act.put, List.setIfInBounds_toArray, List.set_cons_zero, List.set_cons_succ]
    apply wpK_next 16 (some 58)
    · simp only [List.getElem?_toArray, List.getElem?_cons_succ, List.getElem?_cons_zero]; exact rfl
    · rfl
    · kernel_rfl
    · kernel_rfl
    · kernel_rfl
    · exact fun _ _ _ _ h => h
    apply Exists.intro
    apply And.intro
    · first | exact yk_skip (by rfl) | (apply yk_run; rfl; intro w' hw'; go_simp; (try with_reducible rfl))
    simp only [Act.put, List.setIfInBounds_toArray, List.set_cons_zero, List.set_cons_succ]
    apply wpK_next 17 (some 59)
    · simp only [List.getElem?_toArray, List.getElem?_cons_succ, List.getElem?_cons_zero]; exact rfl
    · rfl
    · kernel_rfl
    · kernel_rfl
    · kernel_rfl
    · exact fun _ _ _ _ h => h
    apply Exists.intro
    apply And.intro
    · first | exact yk_skip (by rfl) | (apply yk_call; rfl; rotate_left; intro w' _; exact hob w'; intro w'; go_simp)
    simp only [Act.put, List.setIfInBounds_toArray, List.set_cons_zero, List.set_cons_succ]
    apply wpK_next 18 (some 60)
    · simp only [List.getElem?_toArray, List.getElem?_cons_succ, List.getElem?_cons_zero]; exact rfl
    · rfl
    · kernel_rfl
    · kernel_rfl
    · kernel_rfl
    · exact fun _ _ _ _ h => h
    apply Exists.intro
    apply And.intro
    · first | exact yk_skip (by rfl) | (apply yk_run; rfl; intro w' hw'; go_simp; (try with_reducible rfl))
    simp only [Act.put, List.setIfInBounds_toArray, List.set_cons_zero, List.set_cons_succ]
    apply wpK_next 19 (some 61)
    · simp only [List.getElem?_toArray, List.getElem?_cons_succ, List.getElem?_cons_zero]; exact rfl
    · rfl
    · kernel_rfl
    · kernel_rfl
    · kernel_rfl
    · exact fun _ _ _ _ h => h
    apply Exists.intro
    apply And.intro
    · first | exact yk_skip (by rfl) | (apply yk_run; rfl; intro w' hw'; go_simp; (try with_reducible rfl))
    simp only [Act.put, List.setIfInBounds_toArray, List.set_cons_zero, List.set_cons_succ]
    apply wpK_next 20 (some 62)
    · simp only [List.getElem?_toArray, List.getElem?_cons_succ, List.getElem?_cons_zero]; exact rfl
    · rfl
    · kernel_rfl
    · kernel_rfl
    · kernel_rfl
    · exact fun _ _ _ _ h => h
    apply Exists.intro
    apply And.intro
    · first | exact yk_skip (by rfl) | (apply yk_run; rfl; intro w' hw'; go_simp; (try with_reducible rfl))
    simp only [Act.put, List.setIfInBounds_toArray, List.set_cons_zero, List.set_cons_succ]
    apply wpK_next 21 (some 63)
    · simp only [List.getElem?_toArray, List.getElem?_cons_succ, List.getElem?_cons_zero]; exact rfl
    · rfl
    · kernel_rfl
    · kernel_rfl
    · kernel_rfl
    · exact fun _ _ _ _ h => h
    apply Exists.intro
    apply And.intro
    · first | exact yk_skip (by rfl) | (apply yk_run; rfl; intro w' hw'; go_simp; (try with_reducible rfl))
    simp only [Act.put, List.setIfInBounds_toArray, List.set_cons_zero, List.set_cons_succ]
    apply wpK_next 22 (some 64)
    · simp only [List.getElem?_toArray, List.getElem?_cons_succ, List.getElem?_cons_zero]; exact rfl
    · rfl
    · kernel_rfl
    · kernel_rfl
    · kernel_rfl
    · exact fun _ _ _ _ h => h
    apply Exists.intro
    apply And.intro
    · first | exact yk_skip (by rfl) | (apply yk_run; rfl; intro w' hw'; go_simp; (try with_reducible rfl))
    simp only [Act.put, List.setIfInBounds_toArray, List.set_cons_zero, List.set_cons_succ]
    apply wpK_next 23 (some 65)
    · simp only [List.getElem?_toArray, List.getElem?_cons_succ, List.getElem?_cons_zero]; exact rfl
    · rfl
    · kernel_rfl
    · kernel_rfl
    · kernel_rfl
    · exact fun _ _ _ _ h => h
    apply Exists.intro
    apply And.intro
    · first | exact yk_skip (by rfl) | (apply yk_run; rfl; intro w' hw'; go_simp; (try with_reducible rfl))
    simp only [Act.put, List.setIfInBounds_toArray, List.set_cons_zero, List.set_cons_succ]
    apply wpK_next 24 (some 66)
    · simp only [List.getElem?_toArray, List.getElem?_cons_succ, List.getElem?_cons_zero]; exact rfl
    · rfl
    · kernel_rfl
    · kernel_rfl
    · kernel_rfl
    · exact fun _ _ _ _ h => h
    apply Exists.intro
    apply And.intro
    · first | exact yk_skip (by rfl) | (apply yk_call; rfl; rotate_left; intro w' _; exact hab w'; intro w'; go_simp)
    simp only [Act.put, List.setIfInBounds_toArray, List.set_cons_zero, List.set_cons_succ]
    apply wpK_next 25 (some 67)
    · simp only [List.getElem?_toArray, List.getElem?_cons_succ, List.getElem?_cons_zero]; exact rfl
    · rfl
    · kernel_rfl
    · kernel_rfl
    · kernel_rfl
    · exact fun _ _ _ _ h => h
    apply Exists.intro
    apply And.intro
    · first | exact yk_skip (by rfl) | (apply yk_run; rfl; intro w' hw'; go_simp; (try with_reducible rfl))
    simp only [Act.put, List.setIfInBounds_toArray, List.set_cons_zero, List.set_cons_succ]
    apply wpK_next 26 (some 68)
    · simp only [List.getElem?_toArray, List.getElem?_cons_succ, List.getElem?_cons_zero]; exact rfl
    · rfl
    · kernel_rfl
    · kernel_rfl
    · kernel_rfl
    · exact fun _ _ _ _ h => h
    apply Exists.intro
    apply And.intro
    · first | exact yk_skip (by rfl) | (apply yk_run; rfl; intro w' hw'; go_simp; (try with_reducible rfl))
    simp only [Act.put, List.setIfInBounds_toArray, List.set_cons_zero, List.set_cons_succ]
    apply wpK_next 27 (some 69)
    · simp only [List.getElem?_toArray, List.getElem?_cons_succ, List.getElem?_cons_zero]; exact rfl
    · rfl
    · kernel_rfl
    · kernel_rfl
    · kernel_rfl
    · exact fun _ _ _ _ h => h
    apply Exists.intro
    apply And.intro
    · first | exact yk_skip (by rfl) | (apply yk_run; rfl; intro w' hw'; go_simp; (try with_reducible rfl))
    simp only [Act.put, List.setIfInBounds_toArray, List.set_cons_zero, List.set_cons_succ]
    apply wpK_next 28 (some 70)
    · simp only [List.getElem?_toArray, List.getElem?_cons_succ, List.getElem?_cons_zero]; exact rfl
    · rfl
    · kernel_rfl
    · kernel_rfl
    · kernel_rfl
    · exact fun _ _ _ _ h => h
    apply Exists.intro
    apply And.intro
    · first | exact yk_skip (by rfl) | (apply yk_run; rfl; intro w' hw'; go_simp; (try with_reducible rfl))
    simp only [Act.put, List.setIfInBounds_toArray, List.set_cons_zero, List.set_cons_succ]
    apply wpK_next 29 (some 71)
    · simp only [List.getElem?_toArray, List.getElem?_cons_succ, List.getElem?_cons_zero]; exact rfl
    · rfl
    · kernel_rfl
    · kernel_rfl
    · kernel_rfl
    · exact fun _ _ _ _ h => h
    apply Exists.intro
    apply And.intro
    · first | exact yk_skip (by rfl) | (apply yk_run; rfl; intro w' hw'; go_simp; (try with_reducible rfl))
    simp only [Act.put, List.setIfInBounds_toArray, List.set_cons_zero, List.set_cons_succ]
    apply wpK_next 30 (some 72)
    · simp only [List.getElem?_toArray, List.getElem?_cons_succ, List.getElem?_cons_zero]; exact rfl
    · rfl
    · kernel_rfl
    · kernel_rfl
    · kernel_rfl
    · exact fun _ _ _ _ h => h
    apply Exists.intro
    apply And.intro
    · first | exact yk_skip (by rfl) | (apply yk_run; rfl; intro w' hw'; go_simp; (try with_reducible rfl))
    simp only [Act.put, List.setIfInBounds_toArray, List.set_cons_zero, List.set_cons_succ]
    apply wpK_next 31 (some 4)
    · simp only [List.getElem?_toArray, List.getElem?_cons_succ, List.getElem?_cons_zero]; exact rfl
    · rfl
    · kernel_rfl
    · kernel_rfl
    · kernel_rfl
    · exact fun _ _ _ _ h => h
    apply Exists.intro
    apply And.intro
    · first | exact yk_skip (by rfl) | (apply yk_run; rfl; intro w' hw'; go_simp; (try with_reducible rfl))
    simp only [Act.put, List.setIfInBounds_toArray, List.set_cons_zero, List.set_cons_succ]
    refine wpK_done (by kernel_rfl) ?_ _
    intro w' hw'
    have hB := (hI.up (Ext.drewD wc)).up hw'
    clear z0 z1 z2 z3 z4 z5 z6 z7 z8 z9 z10
    go_wp2
    go_ret
    exact ⟨rfl, hB.b⟩

theorem law_darts (s0 n0 a0 b0 c0 : Int) (w : World) :
    Calls Try.prog 8 #[.agg #[.int .i64 s0, .int .i64 n0], .agg #[.int .i64 a0, .int .i64 b0, .int .i64 c0]] w
      fun e w' => e = .returned (.bool true) ∧ Below w.heap.size w w' := by
  cases hm : mayI s0 n0
  · exact law_darts_not s0 n0 a0 b0 c0 w hm
  · exact law_darts_may s0 n0 a0 b0 c0 w hm
end Go.Proofs.Ytedihfggijcciaa
