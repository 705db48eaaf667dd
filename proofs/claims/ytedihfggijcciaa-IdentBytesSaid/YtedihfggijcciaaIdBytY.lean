/- IdentBytes' walk where l is cut to its first 100. -/
import Derived.Test.YtedihfggijcciaaIdBytW
namespace Go.Proofs.Ytedihfggijcciaa
open Go.RowKit
set_option linter.unusedSimpArgs false
set_option linter.unusedVariables false

set_option maxRecDepth 100000 in
set_option maxHeartbeats 8000000 in
theorem law_bytes_cl (s m site : Int) (A A2 : Option Addr) (n c n2 c2 : Nat) (bs : List Int) (l : List (Int × Int)) (w : World) (hn : n ≤ 100) (hn2 : n2 ≤ 100) (hf : fits bs) (n02 : Nat) (hn02 : 100 < n02) (hcl : ∀ W : World, (Instr.slice 35 (.slice A2 n02 c2) none (some (.int .i64 100)) none).run Try.prog W = .ok (.slice A2 n2 c2) W)
    (h : RdS w w.heap.size 1 A n c (bytesV bs)) (h2 : RdS w w.heap.size 2 A2 n2 c2 (namesV l)) :
    Calls Try.prog 4 #[.slice A n c, .agg #[.int .i64 s, .int .i64 m], .agg #[.slice A2 n02 c2, .int .i64 site]] w fun e w' => e = .returned (.bool true) ∧ Below w.heap.size w w' := by
  have H0 := Lib.hid shown_any
  have t1 : ¬ (100 : Int) < n := by omega
  have t2 : (100 : Int) < n02 := by omega
  have H := Lib.hid h
  have H2 := Lib.hid h2
  clear h h2
  obtain ⟨i0, hi, hz0, hz1, hz2⟩ := info_parts info_u8
  have HT := Lib.hid (fun A n c W h hn => take_any A n c bs W h hn hf)
  have HR := Lib.hid (fun W h => rtake_any A n c bs W h (by omega) hf)
  have HM := Lib.hid (fun W => rmay_any s m W)
  generalize takeI bs = tk at *
  obtain ⟨⟨y0, y1⟩, rest, ok⟩ := tk
  go_enter Try.func4, Try.ntmps4
  go_upto_region 6 with (go_at_call 9; refine (H0.out _).mono ?_; rintro e w1 ⟨rfl, hb1⟩; obtain ⟨hc, hf⟩ := bcell hb1)
  have hW1 : w.heap.size < w1.heap.size ∧ w.heap.size + 1 < w1.heap.size := by
    have := hb1.size
    simp at this
    omega
  have hBw : Below w.heap.size w w1 := (below2 w _ _).trans (hb1.mono (by simp; omega))
  have hI : BytIn w s m A2 n2 c2 l site A n c bs (w1.setCell ⟨w.heap.size + 1, 0, none⟩ (.slice A2 n2 c2)) := by
    have hBz : Below w.heap.size w (w1.setCell ⟨w.heap.size + 1, 0, none⟩ (.slice A2 n2 c2)) := hBw.setCell (by simp) _
    exact ⟨hBz, by simp [go_sem, hc], by simp [go_sem, hc], by simp [go_sem, hc], by simp [go_sem, hc], H.out.below hBz, H2.out.below hBz⟩
  generalize w1.setCell ⟨w.heap.size + 1, 0, none⟩ (.slice A2 n2 c2) = w1 at *
  clear hc hf hb1 hW1 hBw
  go_upto_region 9 with (first
    | (at_builtin
       refine wpList_append_rds rfl (.tmp 31) (.tmp 32) _ rfl w1.heap.size 5 i0 (.int .u8 0) 1 1 Try.underlying34 hi hz0 hz1 hz2 rfl (by decide) (.slice (some ⟨w1.heap.size, 0, none⟩) 0 0) 0 [] rfl (by exact own_new rfl (Nat.le_refl _) (by unfold maxLen; omega) (by simp) rfl) w.heap.size A n c (bytesV bs) rfl (by exact (hI.up (below1 _ _)).r) (bytesV_one _) (by unfold maxLen; omega) (by omega) (by simp) ?_
       intro v1 wv hown hg hat
       simp only [Nat.zero_add, List.nil_append] at hown
       have E1 : Ext w1 wv := (below1 w1 _).grown hg (by simp) (by simp [Value.ownBlock])
       obtain ⟨A1, c1, rfl, hr1⟩ := RdS.of_own hown)
    | (go_at_call 20
       refine (HT.out A1 n c1 _ hr1 (by omega)).mono ?_
       rintro e w2 ⟨vr, rfl, hor, hb2⟩
       obtain ⟨Ar, cr, rfl, hrr⟩ := RdS.of_own hor)
    | (go_at_call 21
       refine (HR.out _ (by exact ((hI.up (Ext.trans (Ext.trans E1 hb2) (below1 _ _))).r.up (Below.refl _ _) (Nat.le_trans hI.b.size (Below.size (Ext.trans (Ext.trans E1 hb2) (below1 _ _))))))).mono ?_
       rintro e w3 ⟨Am, nm, cm, rfl, hrm, hb3⟩
       have hs3 := hb3.size
       simp at hs3
       have hs4 : w2.heap.size < w3.heap.size := by omega
       have hI3 := hI.up (Ext.trans (Ext.trans (Ext.trans E1 hb2) (below1 _ _)) hb3)
       have u0 := hI3.x0
       have u1 := hI3.x1
       have u2 := World.block_lt_of_cell? _ _ u0)
    | (go_at_call 12
       refine (HM.out _).mono ?_
       rintro e w4 ⟨rfl, hb4⟩))
  have Y : Ext (w2.alloc (.cells #[.int .i64 y0, .int .i64 y1] 23)) w4 := Ext.trans (Ext.trans hb3 (below1 _ _)) hb4
  have hT : BytTk w2.heap.size w3.heap.size y0 y1 Ar Am rest.length cr nm cm rest w4 :=
    ⟨Y.cell (by go_simp), Y.cell (by go_simp), Ext.cell hb4 (by go_simp), Ext.cell hb4 (by go_simp), hrr.up (Ext.trans (below1 _ _) Y) (Below.size (Ext.trans (below1 _ _) Y)), hrm.up (Ext.trans (below1 _ _) hb4) (Below.size (Ext.trans (below1 _ _) hb4))⟩
  have hI4 := hI3.up (Ext.trans (below1 _ (.cells #[.int .i64 y0, .int .i64 y1] 23)) hb4)
  clear Y hb4 hb3 hb2 E1 hg hat hown hor hrr hrm hs3 hs4 hI3 hI u0 u1 u2 hr1
  generalize w2.heap.size = gy at *
  generalize w3.heap.size = gz at *
  generalize hmb : mayI s m = mb at *
  have HB := Lib.hid hmb
  clear hmb
  go_cut [15] (fun v x => v = .bool true ∧ BytIn w s m A2 n2 c2 l site A n c bs x ∧ BytTk gy gz y0 y1 Ar Am rest.length cr nm cm rest x)
  case first =>
    cases mb
    · refine wp_region_calm (by kernel_rfl) ?_
      apply wpK_next 0 (some 46)
      · simp only [List.getElem?_toArray, List.getElem?_cons_succ, List.getElem?_cons_zero]; exact rfl
      · rfl
      · kernel_rfl
      · kernel_rfl
      · kernel_rfl
      · exact fun _ _ _ _ h => h
      apply Exists.intro
      apply And.intro
      · first | exact yk_skip (by rfl) | (apply yk_run; rfl; intro w' hw'; go_simp; (try with_reducible rfl))
      simp only [Act.put, List.setIfInBounds_toArray, List.set_cons_zero, List.set_cons_succ]
      apply wpK_next 1 (some 47)
      · simp only [List.getElem?_toArray, List.getElem?_cons_succ, List.getElem?_cons_zero]; exact rfl
      · rfl
      · kernel_rfl
      · kernel_rfl
      · kernel_rfl
      · exact fun _ _ _ _ h => h
      apply Exists.intro
      apply And.intro
      · first | exact yk_skip (by rfl) | (apply yk_run; rfl; intro w' hw'; go_simp; (try with_reducible rfl))
      simp only [Act.put, List.setIfInBounds_toArray, List.set_cons_zero, List.set_cons_succ]
      apply wpK_next 2 (some 48)
      · simp only [List.getElem?_toArray, List.getElem?_cons_succ, List.getElem?_cons_zero]; exact rfl
      · rfl
      · kernel_rfl
      · kernel_rfl
      · kernel_rfl
      · exact fun _ _ _ _ h => h
      apply Exists.intro
      apply And.intro
      · first | exact yk_skip (by rfl) | (apply yk_run; rfl; intro w' hw'; go_simp; (try with_reducible rfl))
      simp only [Act.put, List.setIfInBounds_toArray, List.set_cons_zero, List.set_cons_succ]
      apply wpK_next 3 (some 49)
      · simp only [List.getElem?_toArray, List.getElem?_cons_succ, List.getElem?_cons_zero]; exact rfl
      · rfl
      · kernel_rfl
      · kernel_rfl
      · kernel_rfl
      · exact fun _ _ _ _ h => h
      apply Exists.intro
      apply And.intro
      · first | exact yk_skip (by rfl) | (apply yk_run; rfl; intro w' hw'; go_simp; (try with_reducible rfl))
      simp only [Act.put, List.setIfInBounds_toArray, List.set_cons_zero, List.set_cons_succ]
      apply wpK_next 4 (some 50)
      · simp only [List.getElem?_toArray, List.getElem?_cons_succ, List.getElem?_cons_zero]; exact rfl
      · rfl
      · kernel_rfl
      · kernel_rfl
      · kernel_rfl
      · exact fun _ _ _ _ h => h
      apply Exists.intro
      apply And.intro
      · first | exact yk_skip (by rfl) | (apply yk_run; rfl; intro w' hw'; go_simp; (try with_reducible rfl))
      simp only [Act.put, List.setIfInBounds_toArray, List.set_cons_zero, List.set_cons_succ]
      apply wpK_next 5 (some 51)
      · simp only [List.getElem?_toArray, List.getElem?_cons_succ, List.getElem?_cons_zero]; exact rfl
      · rfl
      · kernel_rfl
      · kernel_rfl
      · kernel_rfl
      · exact fun _ _ _ _ h => h
      apply Exists.intro
      apply And.intro
      · first | exact yk_skip (by rfl) | (apply yk_run; rfl; intro w' hw'; go_simp; (try with_reducible rfl))
      simp only [Act.put, List.setIfInBounds_toArray, List.set_cons_zero, List.set_cons_succ]
      apply wpK_next 6 (some 52)
      · simp only [List.getElem?_toArray, List.getElem?_cons_succ, List.getElem?_cons_zero]; exact rfl
      · rfl
      · kernel_rfl
      · kernel_rfl
      · kernel_rfl
      · exact fun _ _ _ _ h => h
      apply Exists.intro
      apply And.intro
      · first | exact yk_skip (by rfl) | (apply yk_run; rfl; intro w' hw'; go_simp; (try with_reducible rfl))
      simp only [Act.put, List.setIfInBounds_toArray, List.set_cons_zero, List.set_cons_succ]
      apply wpK_next 7 (some 53)
      · simp only [List.getElem?_toArray, List.getElem?_cons_succ, List.getElem?_cons_zero]; exact rfl
      · rfl
      · kernel_rfl
      · kernel_rfl
      · kernel_rfl
      · exact fun _ _ _ _ h => h
      apply Exists.intro
      apply And.intro
      · first | exact yk_skip (by rfl) | (apply yk_call; rfl; rotate_left; intro w' hw'; exact hno w'; intro w'; go_simp)
      simp only [Act.put, List.setIfInBounds_toArray, List.set_cons_zero, List.set_cons_succ]
      apply wpK_next 8 (some 54)
      · simp only [List.getElem?_toArray, List.getElem?_cons_succ, List.getElem?_cons_zero]; exact rfl
      · rfl
      · kernel_rfl
      · kernel_rfl
      · kernel_rfl
      · exact fun _ _ _ _ h => h
      apply Exists.intro
      apply And.intro
      · first | exact yk_skip (by rfl) | (apply yk_run; rfl; intro w' hw'; go_simp; (try with_reducible rfl))
      simp only [Act.put, List.setIfInBounds_toArray, List.set_cons_zero, List.set_cons_succ]
      apply wpK_next 9 (some 55)
      · simp only [List.getElem?_toArray, List.getElem?_cons_succ, List.getElem?_cons_zero]; exact rfl
      · rfl
      · kernel_rfl
      · kernel_rfl
      · kernel_rfl
      · exact fun _ _ _ _ h => h
      apply Exists.intro
      apply And.intro
      · first | exact yk_skip (by rfl) | (apply yk_run; rfl; intro w' hw'; go_simp; (try with_reducible rfl))
      simp only [Act.put, List.setIfInBounds_toArray, List.set_cons_zero, List.set_cons_succ]
      apply wpK_next 10 (some 56)
      · simp only [List.getElem?_toArray, List.getElem?_cons_succ, List.getElem?_cons_zero]; exact rfl
      · rfl
      · kernel_rfl
      · kernel_rfl
      · kernel_rfl
      · exact fun _ _ _ _ h => h
      apply Exists.intro
      apply And.intro
      · first | exact yk_skip (by rfl) | (apply yk_run; rfl; intro w' hw'; go_simp; (try with_reducible rfl))
      simp only [Act.put, List.setIfInBounds_toArray, List.set_cons_zero, List.set_cons_succ]
      apply wpK_next 11 (some 57)
      · simp only [List.getElem?_toArray, List.getElem?_cons_succ, List.getElem?_cons_zero]; exact rfl
      · rfl
      · kernel_rfl
      · kernel_rfl
      · kernel_rfl
      · exact fun _ _ _ _ h => h
      apply Exists.intro
      apply And.intro
      · first | exact yk_skip (by rfl) | (apply yk_call; rfl; rotate_left; intro w' hw'; exact hno w'; intro w'; go_simp)
      simp only [Act.put, List.setIfInBounds_toArray, List.set_cons_zero, List.set_cons_succ]
      apply wpK_next 12 (some 58)
      · simp only [List.getElem?_toArray, List.getElem?_cons_succ, List.getElem?_cons_zero]; exact rfl
      · rfl
      · kernel_rfl
      · kernel_rfl
      · kernel_rfl
      · exact fun _ _ _ _ h => h
      apply Exists.intro
      apply And.intro
      · first | exact yk_skip (by rfl) | (apply yk_run; rfl; intro w' hw'; go_simp; (try with_reducible rfl))
      simp only [Act.put, List.setIfInBounds_toArray, List.set_cons_zero, List.set_cons_succ]
      apply wpK_next 13 (some 59)
      · simp only [List.getElem?_toArray, List.getElem?_cons_succ, List.getElem?_cons_zero]; exact rfl
      · rfl
      · kernel_rfl
      · kernel_rfl
      · kernel_rfl
      · exact fun _ _ _ _ h => h
      apply Exists.intro
      apply And.intro
      · first | exact yk_skip (by rfl) | (apply yk_run; rfl; intro w' hw'; go_simp; (try with_reducible rfl))
      simp only [Act.put, List.setIfInBounds_toArray, List.set_cons_zero, List.set_cons_succ]
      apply wpK_next 14 (some 60)
      · simp only [List.getElem?_toArray, List.getElem?_cons_succ, List.getElem?_cons_zero]; exact rfl
      · rfl
      · kernel_rfl
      · kernel_rfl
      · kernel_rfl
      · exact fun _ _ _ _ h => h
      apply Exists.intro
      apply And.intro
      · first | exact yk_skip (by rfl) | (apply yk_run; rfl; intro w' hw'; go_simp; (try with_reducible rfl))
      simp only [Act.put, List.setIfInBounds_toArray, List.set_cons_zero, List.set_cons_succ]
      apply wpK_next 15 (some 15)
      · simp only [List.getElem?_toArray, List.getElem?_cons_succ, List.getElem?_cons_zero]; exact rfl
      · rfl
      · kernel_rfl
      · kernel_rfl
      · kernel_rfl
      · exact fun _ _ _ _ h => h
      apply Exists.intro
      apply And.intro
      · first | exact yk_skip (by rfl) | (apply yk_run; rfl; intro w' hw'; go_simp; (try with_reducible rfl))
      simp only [Act.put, List.setIfInBounds_toArray, List.set_cons_zero, List.set_cons_succ]
      refine wpK_done (by kernel_rfl) ?_ _
      intro w' hw'
      go_wp2_with fail
      go_meet
      exact ⟨rfl, (hI4.up (Ext.drewB _)).up hw', (hT.up (Ext.drewB _)).up hw'⟩
    · have hms := may_bounds s m HB.out
      refine wp_region_inv (BytG A n c bs s m) (Ext w4) (by kernel_rfl) (by kernel_rfl) (by kernel_rfl) (fun i v w w' h hx => BytG.up i v w w' h hx) (fun _ _ h k => h.trans k) (Ext.drewB _) ?_ ?_
      rotate_left
      · intro x y hg hall
        have d0 : x 0 = .bool true := hall 0 (by decide)
        have d15 : x 15 = .bool true := hall 15 (by decide)
        simp only [dsts, List.map_cons, List.map_nil, putAll, Act.put, List.setIfInBounds_toArray, List.set_cons_zero, List.set_cons_succ]
        simp only [d15]
        go_wp2_with fail
        go_meet
        exact ⟨rfl, hI4.up hg, hT.up hg⟩
      intro i hi9
      have hcase : i = 0 ∨ i = 1 ∨ i = 2 ∨ i = 3 ∨ i = 4 ∨ i = 5 ∨ i = 6 ∨ i = 7 ∨ i = 8 ∨ i = 9 ∨ i = 10 ∨ i = 11 ∨ i = 12 ∨ i = 13 ∨ i = 14 ∨ i = 15 := by
        simp at hi9
        omega
      rcases hcase with rfl | rfl | rfl | rfl | rfl | rfl | rfl | rfl | rfl | rfl | rfl | rfl | rfl | rfl | rfl | rfl
      · intro o ho x y hg hdep
        simp only [List.getElem?_toArray, List.getElem?_cons_succ, List.getElem?_cons_zero, Option.some.injEq] at ho
        subst ho
        simp only [dsts, List.map_cons, List.map_nil, putAll, Act.put, List.setIfInBounds_toArray, List.set_cons_zero, List.set_cons_succ]
        refine .inl ⟨by rfl, ?_⟩
        go_simp
        exact ⟨Ext.refl _, rfl⟩
      · intro o ho x y hg hdep
        simp only [List.getElem?_toArray, List.getElem?_cons_succ, List.getElem?_cons_zero, Option.some.injEq] at ho
        subst ho
        have d0 : x 0 = .bool true := hdep 0 (by decide)
        simp only [dsts, List.map_cons, List.map_nil, putAll, Act.put, List.setIfInBounds_toArray, List.set_cons_zero, List.set_cons_succ]
        simp only [d0]
        refine .inl ⟨by rfl, ?_⟩
        go_simp
        exact ⟨Ext.refl _, rfl⟩
      · intro o ho x y hg hdep
        simp only [List.getElem?_toArray, List.getElem?_cons_succ, List.getElem?_cons_zero, Option.some.injEq] at ho
        subst ho
        have d1 : x 1 = .bool false := hdep 1 (by decide)
        simp only [dsts, List.map_cons, List.map_nil, putAll, Act.put, List.setIfInBounds_toArray, List.set_cons_zero, List.set_cons_succ]
        simp only [d1]
        refine .inl ⟨by rfl, ?_⟩
        go_simp
        exact ⟨Ext.refl _, rfl⟩
      · intro o ho x y hg hdep
        simp only [List.getElem?_toArray, List.getElem?_cons_succ, List.getElem?_cons_zero, Option.some.injEq] at ho
        subst ho
        have d2 : x 2 = .bool false := hdep 2 (by decide)
        simp only [dsts, List.map_cons, List.map_nil, putAll, Act.put, List.setIfInBounds_toArray, List.set_cons_zero, List.set_cons_succ]
        simp only [d2]
        refine .inl ⟨by rfl, ?_⟩
        go_simp
        exact ⟨below1 _ _, _, rfl⟩
      · intro o ho x y hg hdep
        simp only [List.getElem?_toArray, List.getElem?_cons_succ, List.getElem?_cons_zero, Option.some.injEq] at ho
        subst ho
        have d2 : x 2 = .bool false := hdep 2 (by decide)
        simp only [dsts, List.map_cons, List.map_nil, putAll, Act.put, List.setIfInBounds_toArray, List.set_cons_zero, List.set_cons_succ]
        simp only [d2]
        refine .inl ⟨by rfl, ?_⟩
        go_simp
        exact ⟨Ext.refl _, rfl⟩
      · intro o ho x y hg hdep
        simp only [List.getElem?_toArray, List.getElem?_cons_succ, List.getElem?_cons_zero, Option.some.injEq] at ho
        subst ho
        have d2 : x 2 = .bool false := hdep 2 (by decide)
        have d3 : ∃ g, x 3 = .slice (some g) 0 0 := hdep 3 (by decide)
        have d4 : x 4 = .slice A n c := hdep 4 (by decide)
        obtain ⟨g, d3⟩ := d3
        obtain ⟨v', y', hrun, hx, A', c', rfl, hr⟩ := append_new (P := Try.prog) (ty := 34) Try.underlying34 hi hz0 hz1 hz2 g (hI4.up hg).r (by omega)
        simp only [dsts, List.map_cons, List.map_nil, putAll, Act.put, List.setIfInBounds_toArray, List.set_cons_zero, List.set_cons_succ]
        simp only [d2, d3, d4]
        refine .inl ⟨by rfl, ?_⟩
        exact out_append (.tmp 49) (.tmp 50) 34 rfl rfl rfl hrun hx ⟨A', n, c', rfl, hr⟩
      · intro o ho x y hg hdep
        simp only [List.getElem?_toArray, List.getElem?_cons_succ, List.getElem?_cons_zero, Option.some.injEq] at ho
        subst ho
        have d2 : x 2 = .bool false := hdep 2 (by decide)
        have k0 := (hI4.up hg).x0
        have k1 := (hI4.up hg).x1
        simp only [dsts, List.map_cons, List.map_nil, putAll, Act.put, List.setIfInBounds_toArray, List.set_cons_zero, List.set_cons_succ]
        simp only [d2]
        refine .inl ⟨by rfl, ?_⟩
        go_simp
        exact ⟨Ext.refl _, rfl⟩
      · intro o ho x y hg hdep
        simp only [List.getElem?_toArray, List.getElem?_cons_succ, List.getElem?_cons_zero, Option.some.injEq] at ho
        subst ho
        have d2 : x 2 = .bool false := hdep 2 (by decide)
        have d5 : RdV bs (x 5) y := hdep 5 (by decide)
        have d6 : x 6 = .agg #[.int .i64 s, .int .i64 m] := hdep 6 (by decide)
        obtain ⟨A', n', c', d5', hr⟩ := d5
        have hl' : n' = n := by have h1 := hr.len; have h2 := (hI4.up hg).r.len; omega
        simp only [dsts, List.map_cons, List.map_nil, putAll, Act.put, List.setIfInBounds_toArray, List.set_cons_zero, List.set_cons_succ]
        simp only [d2, d6]
        refine .inl ⟨by rfl, ?_⟩
        simp only [d5']
        refine out_call (f := 22) (args := #[.slice A' n' c', .agg #[.int .i64 s, .int .i64 m]]) (by go_simp) ?_
        exact (put_any A' n' c' bs s m y hr (by omega) hms.1 hms.2).mono fun e y' ⟨v, he, ho, hb⟩ => ⟨v, he, hb, RdV.of_own ho⟩
      · intro o ho x y hg hdep
        simp only [List.getElem?_toArray, List.getElem?_cons_succ, List.getElem?_cons_zero, Option.some.injEq] at ho
        subst ho
        have d2 : x 2 = .bool false := hdep 2 (by decide)
        have d7 : RdV (bs ++ nameB s m) (x 7) y := hdep 7 (by decide)
        obtain ⟨A', n', c', d7', hr⟩ := d7
        have hcv := conv_rds (P := Try.prog) Try.underlying34 Try.underlying5 Try.underlying9 hr
        simp only [dsts, List.map_cons, List.map_nil, putAll, Act.put, List.setIfInBounds_toArray, List.set_cons_zero, List.set_cons_succ]
        simp only [d2]
        refine .inl ⟨by rfl, ?_⟩
        simp only [d7']
        go_simp
        exact ⟨Ext.refl _, rfl⟩
      · intro o ho x y hg hdep
        simp only [List.getElem?_toArray, List.getElem?_cons_succ, List.getElem?_cons_zero, Option.some.injEq] at ho
        subst ho
        have d2 : x 2 = .bool false := hdep 2 (by decide)
        simp only [dsts, List.map_cons, List.map_nil, putAll, Act.put, List.setIfInBounds_toArray, List.set_cons_zero, List.set_cons_succ]
        simp only [d2]
        refine .inl ⟨by rfl, ?_⟩
        go_simp
        exact ⟨Ext.refl _, rfl⟩
      · intro o ho x y hg hdep
        simp only [List.getElem?_toArray, List.getElem?_cons_succ, List.getElem?_cons_zero, Option.some.injEq] at ho
        subst ho
        have d2 : x 2 = .bool false := hdep 2 (by decide)
        have k0 := (hI4.up hg).x0
        have k1 := (hI4.up hg).x1
        simp only [dsts, List.map_cons, List.map_nil, putAll, Act.put, List.setIfInBounds_toArray, List.set_cons_zero, List.set_cons_succ]
        simp only [d2]
        refine .inl ⟨by rfl, ?_⟩
        go_simp
        exact ⟨Ext.refl _, rfl⟩
      · intro o ho x y hg hdep
        simp only [List.getElem?_toArray, List.getElem?_cons_succ, List.getElem?_cons_zero, Option.some.injEq] at ho
        subst ho
        have d2 : x 2 = .bool false := hdep 2 (by decide)
        have d9 : x 9 = .slice A n c := hdep 9 (by decide)
        have d10 : x 10 = .agg #[.int .i64 s, .int .i64 m] := hdep 10 (by decide)
        simp only [dsts, List.map_cons, List.map_nil, putAll, Act.put, List.setIfInBounds_toArray, List.set_cons_zero, List.set_cons_succ]
        simp only [d2, d9, d10]
        refine .inl ⟨by rfl, ?_⟩
        refine out_call (f := 23) (args := #[.slice A n c, .agg #[.int .i64 s, .int .i64 m]]) (by go_simp) ?_
        exact (rput_any A n c bs s m y ((hI4.up hg).r.up (Below.refl _ _) (hI4.up hg).b.size) (by omega) hms.1 hms.2).mono fun e y' ⟨v, he, ho, hb⟩ => ⟨v, he, hb, RdV.of_own ho⟩
      · intro o ho x y hg hdep
        simp only [List.getElem?_toArray, List.getElem?_cons_succ, List.getElem?_cons_zero, Option.some.injEq] at ho
        subst ho
        have d2 : x 2 = .bool false := hdep 2 (by decide)
        have d11 : RdV (bs ++ nameB s m) (x 11) y := hdep 11 (by decide)
        obtain ⟨A', n', c', d11', hr⟩ := d11
        have hcv := conv_rds (P := Try.prog) Try.underlying34 Try.underlying5 Try.underlying9 hr
        simp only [dsts, List.map_cons, List.map_nil, putAll, Act.put, List.setIfInBounds_toArray, List.set_cons_zero, List.set_cons_succ]
        simp only [d2]
        refine .inl ⟨by rfl, ?_⟩
        simp only [d11']
        go_simp
        exact ⟨Ext.refl _, rfl⟩
      · intro o ho x y hg hdep
        simp only [List.getElem?_toArray, List.getElem?_cons_succ, List.getElem?_cons_zero, Option.some.injEq] at ho
        subst ho
        have d2 : x 2 = .bool false := hdep 2 (by decide)
        have d8 : x 8 = .string (strB (bs ++ nameB s m)) := hdep 8 (by decide)
        have d12 : x 12 = .string (strB (bs ++ nameB s m)) := hdep 12 (by decide)
        simp only [dsts, List.map_cons, List.map_nil, putAll, Act.put, List.setIfInBounds_toArray, List.set_cons_zero, List.set_cons_succ]
        simp only [d2, d8, d12]
        refine .inl ⟨by rfl, ?_⟩
        go_simp
        exact ⟨Ext.refl _, rfl⟩
      · intro o ho x y hg hdep
        simp only [List.getElem?_toArray, List.getElem?_cons_succ, List.getElem?_cons_zero, Option.some.injEq] at ho
        subst ho
        have d2 : x 2 = .bool false := hdep 2 (by decide)
        have d13 : x 13 = .bool true := hdep 13 (by decide)
        simp only [dsts, List.map_cons, List.map_nil, putAll, Act.put, List.setIfInBounds_toArray, List.set_cons_zero, List.set_cons_succ]
        simp only [d2, d13]
        refine .inl ⟨by rfl, ?_⟩
        go_simp
        exact ⟨Ext.refl _, rfl⟩
      · intro o ho x y hg hdep
        simp only [List.getElem?_toArray, List.getElem?_cons_succ, List.getElem?_cons_zero, Option.some.injEq] at ho
        subst ho
        have d14 : x 14 = .bool true := hdep 14 (by decide)
        simp only [dsts, List.map_cons, List.map_nil, putAll, Act.put, List.setIfInBounds_toArray, List.set_cons_zero, List.set_cons_succ]
        simp only [d14]
        refine .inl ⟨by rfl, ?_⟩
        go_simp
        exact ⟨Ext.refl _, rfl⟩
  case rest =>
    obtain ⟨rfl, hJ, hS⟩ := hcut
    go_upto_region 10 with fail
    have q0 := fun w' (h : Ext wc.drew w') => h.cell ((Ext.drewB wc).cell hJ.l0)
    have q1 := fun w' (h : Ext wc.drew w') => h.cell ((Ext.drewB wc).cell hJ.l1)
    have q2 := fun w' (h : Ext wc.drew w') => h.cell ((Ext.drewB wc).cell hS.a0)
    have q3 := fun w' (h : Ext wc.drew w') => h.cell ((Ext.drewB wc).cell hS.a1)
    have q4 := fun w' (h : Ext wc.drew w') => h.cell ((Ext.drewB wc).cell hS.b0)
    have q5 := fun w' (h : Ext wc.drew w') => h.cell ((Ext.drewB wc).cell hS.b1)
    have q6 := fun w' (h : Ext wc.drew w') => conv_rds (P := Try.prog) Try.underlying34 Try.underlying5 Try.underlying9 ((hS.up (Ext.drewB wc)).up h).r
    have q7 := fun w' (h : Ext wc.drew w') => conv_rds (P := Try.prog) Try.underlying34 Try.underlying5 Try.underlying9 ((hS.up (Ext.drewB wc)).up h).q
    have hNx := fun w' (h : Ext wc.drew w') => next_any A2 n2 c2 l site w' (((hJ.up (Ext.drewB wc)).up h).qq) (by omega)
    have hRx := fun w' (h : Ext wc.drew w') => rnext_any A2 n2 c2 l site w' (((hJ.up (Ext.drewB wc)).up h).qq) (by omega)
    have HNx := Lib.hid hNx
    have HRx := Lib.hid hRx
    clear hNx hRx
    refine wp_region_calm (by kernel_rfl) ?_
    apply wpK_next 0 (some 61)
    · simp only [List.getElem?_toArray, List.getElem?_cons_succ, List.getElem?_cons_zero]; exact rfl
    · rfl
    · kernel_rfl
    · kernel_rfl
    · kernel_rfl
    · exact fun _ _ _ _ h => h
    apply Exists.intro
    apply And.intro
    · first | exact yk_skip (by rfl) | (apply yk_run; rfl; intro w' hw'; go_simp; (try with_reducible rfl))
    simp only [Act.put, List.setIfInBounds_toArray, List.set_cons_zero, List.set_cons_succ]
    apply wpK_next 1 (some 62)
    · simp only [List.getElem?_toArray, List.getElem?_cons_succ, List.getElem?_cons_zero]; exact rfl
    · rfl
    · kernel_rfl
    · kernel_rfl
    · kernel_rfl
    · exact fun _ _ _ _ h => h
    apply Exists.intro
    apply And.intro
    · first | exact yk_skip (by rfl) | (apply yk_run; rfl; intro w' hw'; go_simp; (try with_reducible rfl))
    simp only [Act.put, List.setIfInBounds_toArray, List.set_cons_zero, List.set_cons_succ]
    apply wpK_next 2 (some 63)
    · simp only [List.getElem?_toArray, List.getElem?_cons_succ, List.getElem?_cons_zero]; exact rfl
    · rfl
    · kernel_rfl
    · kernel_rfl
    · kernel_rfl
    · exact fun _ _ _ _ h => h
    apply Exists.intro
    apply And.intro
    · first | exact yk_skip (by rfl) | (apply yk_run; rfl; intro w' hw'; go_simp; (try with_reducible rfl))
    simp only [Act.put, List.setIfInBounds_toArray, List.set_cons_zero, List.set_cons_succ]
    apply wpK_next 3 (some 64)
    · simp only [List.getElem?_toArray, List.getElem?_cons_succ, List.getElem?_cons_zero]; exact rfl
    · rfl
    · kernel_rfl
    · kernel_rfl
    · kernel_rfl
    · exact fun _ _ _ _ h => h
    apply Exists.intro
    apply And.intro
    · first | exact yk_skip (by rfl) | (apply yk_run; rfl; intro w' hw'; go_simp; (try with_reducible rfl))
    simp only [Act.put, List.setIfInBounds_toArray, List.set_cons_zero, List.set_cons_succ]
    apply wpK_next 4 (some 65)
    · simp only [List.getElem?_toArray, List.getElem?_cons_succ, List.getElem?_cons_zero]; exact rfl
    · rfl
    · kernel_rfl
    · kernel_rfl
    · kernel_rfl
    · exact fun _ _ _ _ h => h
    apply Exists.intro
    apply And.intro
    · first | exact yk_skip (by rfl) | (apply yk_run; rfl; intro w' hw'; go_simp; (try with_reducible rfl))
    simp only [Act.put, List.setIfInBounds_toArray, List.set_cons_zero, List.set_cons_succ]
    apply wpK_next 5 (some 66)
    · simp only [List.getElem?_toArray, List.getElem?_cons_succ, List.getElem?_cons_zero]; exact rfl
    · rfl
    · kernel_rfl
    · kernel_rfl
    · kernel_rfl
    · exact fun _ _ _ _ h => h
    apply Exists.intro
    apply And.intro
    · first | exact yk_skip (by rfl) | (apply yk_run; rfl; intro w' hw'; go_simp; (try with_reducible rfl))
    simp only [Act.put, List.setIfInBounds_toArray, List.set_cons_zero, List.set_cons_succ]
    apply wpK_next 6 (some 67)
    · simp only [List.getElem?_toArray, List.getElem?_cons_succ, List.getElem?_cons_zero]; exact rfl
    · rfl
    · kernel_rfl
    · kernel_rfl
    · kernel_rfl
    · exact fun _ _ _ _ h => h
    apply Exists.intro
    apply And.intro
    · first | exact yk_skip (by rfl) | (apply yk_run; rfl; intro w' hw'; go_simp; (try with_reducible rfl))
    simp only [Act.put, List.setIfInBounds_toArray, List.set_cons_zero, List.set_cons_succ]
    apply wpK_next 7 (some 68)
    · simp only [List.getElem?_toArray, List.getElem?_cons_succ, List.getElem?_cons_zero]; exact rfl
    · rfl
    · kernel_rfl
    · kernel_rfl
    · kernel_rfl
    · exact fun _ _ _ _ h => h
    apply Exists.intro
    apply And.intro
    · first | exact yk_skip (by rfl) | (apply yk_run; rfl; intro w' hw'; go_simp; (try with_reducible rfl))
    simp only [Act.put, List.setIfInBounds_toArray, List.set_cons_zero, List.set_cons_succ]
    apply wpK_next 8 (some 69)
    · simp only [List.getElem?_toArray, List.getElem?_cons_succ, List.getElem?_cons_zero]; exact rfl
    · rfl
    · kernel_rfl
    · kernel_rfl
    · kernel_rfl
    · exact fun _ _ _ _ h => h
    apply Exists.intro
    apply And.intro
    · first | exact yk_skip (by rfl) | (apply yk_run; rfl; intro w' hw'; go_simp; (try with_reducible rfl))
    simp only [Act.put, List.setIfInBounds_toArray, List.set_cons_zero, List.set_cons_succ]
    apply wpK_next 9 (some 70)
    · simp only [List.getElem?_toArray, List.getElem?_cons_succ, List.getElem?_cons_zero]; exact rfl
    · rfl
    · kernel_rfl
    · kernel_rfl
    · kernel_rfl
    · exact fun _ _ _ _ h => h
    apply Exists.intro
    apply And.intro
    · first | exact yk_skip (by rfl) | (apply yk_run; rfl; intro w' hw'; go_simp; (try with_reducible rfl))
    simp only [Act.put, List.setIfInBounds_toArray, List.set_cons_zero, List.set_cons_succ]
    apply wpK_next 10 (some 71)
    · simp only [List.getElem?_toArray, List.getElem?_cons_succ, List.getElem?_cons_zero]; exact rfl
    · rfl
    · kernel_rfl
    · kernel_rfl
    · kernel_rfl
    · exact fun _ _ _ _ h => h
    apply Exists.intro
    apply And.intro
    · first | exact yk_skip (by rfl) | (apply yk_run; rfl; intro w' hw'; go_simp; (try with_reducible rfl))
    simp only [Act.put, List.setIfInBounds_toArray, List.set_cons_zero, List.set_cons_succ]
    apply wpK_next 11 (some 72)
    · simp only [List.getElem?_toArray, List.getElem?_cons_succ, List.getElem?_cons_zero]; exact rfl
    · rfl
    · kernel_rfl
    · kernel_rfl
    · kernel_rfl
    · exact fun _ _ _ _ h => h
    apply Exists.intro
    apply And.intro
    · first | exact yk_skip (by rfl) | (apply yk_run; rfl; intro w' hw'; go_simp; (try with_reducible rfl))
    simp only [Act.put, List.setIfInBounds_toArray, List.set_cons_zero, List.set_cons_succ]
    apply wpK_next 12 (some 73)
    · simp only [List.getElem?_toArray, List.getElem?_cons_succ, List.getElem?_cons_zero]; exact rfl
    · rfl
    · kernel_rfl
    · kernel_rfl
    · kernel_rfl
    · exact fun _ _ _ _ h => h
    apply Exists.intro
    apply And.intro
    · first | exact yk_skip (by rfl) | (apply yk_run; rfl; intro w' hw'; go_simp; (try with_reducible rfl))
    simp only [Act.put, List.setIfInBounds_toArray, List.set_cons_zero, List.set_cons_succ]
    apply wpK_next 13 (some 74)
    · simp only [List.getElem?_toArray, List.getElem?_cons_succ, List.getElem?_cons_zero]; exact rfl
    · rfl
    · kernel_rfl
    · kernel_rfl
    · kernel_rfl
    · exact fun _ _ _ _ h => h
    apply Exists.intro
    apply And.intro
    · first | exact yk_skip (by rfl) | (apply yk_run; rfl; intro w' hw'; go_simp; (try with_reducible rfl))
    simp only [Act.put, List.setIfInBounds_toArray, List.set_cons_zero, List.set_cons_succ]
    apply wpK_next 14 (some 75)
    · simp only [List.getElem?_toArray, List.getElem?_cons_succ, List.getElem?_cons_zero]; exact rfl
    · rfl
    · kernel_rfl
    · kernel_rfl
    · kernel_rfl
    · exact fun _ _ _ _ h => h
    apply Exists.intro
    apply And.intro
    · first | exact yk_skip (by rfl) | (apply yk_run; rfl; intro w' hw'; go_simp; (try with_reducible rfl))
    simp only [Act.put, List.setIfInBounds_toArray, List.set_cons_zero, List.set_cons_succ]
    apply wpK_next 15 (some 76)
    · simp only [List.getElem?_toArray, List.getElem?_cons_succ, List.getElem?_cons_zero]; exact rfl
    · rfl
    · kernel_rfl
    · kernel_rfl
    · kernel_rfl
    · exact fun _ _ _ _ h => h
    apply Exists.intro
    apply And.intro
    · first | exact yk_skip (by rfl) | (apply yk_run; rfl; intro w' hw'; go_simp; (try with_reducible rfl))
    simp only [Act.put, List.setIfInBounds_toArray, List.set_cons_zero, List.set_cons_succ]
    apply wpK_next 16 (some 77)
    · simp only [List.getElem?_toArray, List.getElem?_cons_succ, List.getElem?_cons_zero]; exact rfl
    · rfl
    · kernel_rfl
    · kernel_rfl
    · kernel_rfl
    · exact fun _ _ _ _ h => h
    apply Exists.intro
    apply And.intro
    · first | exact yk_skip (by rfl) | (apply yk_run; rfl; intro w' hw'; go_simp; (try with_reducible rfl))
    simp only [Act.put, List.setIfInBounds_toArray, List.set_cons_zero, List.set_cons_succ]
    apply wpK_next 17 (some 78)
    · simp only [List.getElem?_toArray, List.getElem?_cons_succ, List.getElem?_cons_zero]; exact rfl
    · rfl
    · kernel_rfl
    · kernel_rfl
    · kernel_rfl
    · exact fun _ _ _ _ h => h
    apply Exists.intro
    apply And.intro
    · first | exact yk_skip (by rfl) | (apply yk_run; rfl; intro w' hw'; go_simp; (try with_reducible rfl))
    simp only [Act.put, List.setIfInBounds_toArray, List.set_cons_zero, List.set_cons_succ]
    apply wpK_next 18 (some 79)
    · simp only [List.getElem?_toArray, List.getElem?_cons_succ, List.getElem?_cons_zero]; exact rfl
    · rfl
    · kernel_rfl
    · kernel_rfl
    · kernel_rfl
    · exact fun _ _ _ _ h => h
    apply Exists.intro
    apply And.intro
    · first | exact yk_skip (by rfl) | (apply yk_run; rfl; intro w' hw'; go_simp; (try with_reducible rfl))
    simp only [Act.put, List.setIfInBounds_toArray, List.set_cons_zero, List.set_cons_succ]
    apply wpK_next 19 (some 80)
    · simp only [List.getElem?_toArray, List.getElem?_cons_succ, List.getElem?_cons_zero]; exact rfl
    · rfl
    · kernel_rfl
    · kernel_rfl
    · kernel_rfl
    · exact fun _ _ _ _ h => h
    apply Exists.intro
    apply And.intro
    · first | exact yk_skip (by rfl) | (apply yk_run; rfl; intro w' hw'; go_simp; (try with_reducible rfl))
    simp only [Act.put, List.setIfInBounds_toArray, List.set_cons_zero, List.set_cons_succ]
    apply wpK_next 20 (some 81)
    · simp only [List.getElem?_toArray, List.getElem?_cons_succ, List.getElem?_cons_zero]; exact rfl
    · rfl
    · kernel_rfl
    · kernel_rfl
    · kernel_rfl
    · exact fun _ _ _ _ h => h
    apply Exists.intro
    apply And.intro
    · first | exact yk_skip (by rfl) | (apply yk_run; rfl; intro w' hw'; go_simp; (try with_reducible rfl))
    simp only [Act.put, List.setIfInBounds_toArray, List.set_cons_zero, List.set_cons_succ]
    apply wpK_next 21 (some 82)
    · simp only [List.getElem?_toArray, List.getElem?_cons_succ, List.getElem?_cons_zero]; exact rfl
    · rfl
    · kernel_rfl
    · kernel_rfl
    · kernel_rfl
    · exact fun _ _ _ _ h => h
    apply Exists.intro
    apply And.intro
    · first | exact yk_skip (by rfl) | (apply yk_run; rfl; intro w' hw'; go_simp; (try with_reducible rfl))
    simp only [Act.put, List.setIfInBounds_toArray, List.set_cons_zero, List.set_cons_succ]
    apply wpK_next 22 (some 83)
    · simp only [List.getElem?_toArray, List.getElem?_cons_succ, List.getElem?_cons_zero]; exact rfl
    · rfl
    · kernel_rfl
    · kernel_rfl
    · kernel_rfl
    · exact fun _ _ _ _ h => h
    apply Exists.intro
    apply And.intro
    · first | exact yk_skip (by rfl) | (apply yk_run; rfl; intro w' hw'; go_simp; (try with_reducible rfl))
    simp only [Act.put, List.setIfInBounds_toArray, List.set_cons_zero, List.set_cons_succ]
    apply wpK_next 23 (some 84)
    · simp only [List.getElem?_toArray, List.getElem?_cons_succ, List.getElem?_cons_zero]; exact rfl
    · rfl
    · kernel_rfl
    · kernel_rfl
    · kernel_rfl
    · exact fun _ _ _ _ h => h
    apply Exists.intro
    apply And.intro
    · first | exact yk_skip (by rfl) | (apply yk_run; rfl; intro w' hw'; go_simp; (try with_reducible rfl))
    simp only [Act.put, List.setIfInBounds_toArray, List.set_cons_zero, List.set_cons_succ]
    apply wpK_next 24 (some 85)
    · simp only [List.getElem?_toArray, List.getElem?_cons_succ, List.getElem?_cons_zero]; exact rfl
    · rfl
    · kernel_rfl
    · kernel_rfl
    · kernel_rfl
    · exact fun _ _ _ _ h => h
    apply Exists.intro
    apply And.intro
    · first | exact yk_skip (by rfl) | (apply yk_run; rfl; intro w' hw'; go_simp; (try with_reducible rfl))
    simp only [Act.put, List.setIfInBounds_toArray, List.set_cons_zero, List.set_cons_succ]
    apply wpK_next 25 (some 86)
    · simp only [List.getElem?_toArray, List.getElem?_cons_succ, List.getElem?_cons_zero]; exact rfl
    · rfl
    · kernel_rfl
    · kernel_rfl
    · kernel_rfl
    · exact fun _ _ _ _ h => h
    apply Exists.intro
    apply And.intro
    · first | exact yk_skip (by rfl) | (apply yk_run; rfl; intro w' hw'; go_simp; (try with_reducible rfl))
    simp only [Act.put, List.setIfInBounds_toArray, List.set_cons_zero, List.set_cons_succ]
    apply wpK_next 26 (some 87)
    · simp only [List.getElem?_toArray, List.getElem?_cons_succ, List.getElem?_cons_zero]; exact rfl
    · rfl
    · kernel_rfl
    · kernel_rfl
    · kernel_rfl
    · exact fun _ _ _ _ h => h
    apply Exists.intro
    apply And.intro
    · first | exact yk_skip (by rfl) | (apply yk_call; rfl; rotate_left; intro w' hw'; exact (HNx.out w' hw'); intro w'; go_simp)
    simp only [Act.put, List.setIfInBounds_toArray, List.set_cons_zero, List.set_cons_succ]
    apply wpK_next 27 (some 88)
    · simp only [List.getElem?_toArray, List.getElem?_cons_succ, List.getElem?_cons_zero]; exact rfl
    · rfl
    · kernel_rfl
    · kernel_rfl
    · kernel_rfl
    · exact fun _ _ _ _ h => h
    apply Exists.intro
    apply And.intro
    · first | exact yk_skip (by rfl) | (apply yk_run; rfl; intro w' hw'; go_simp; (try with_reducible rfl))
    simp only [Act.put, List.setIfInBounds_toArray, List.set_cons_zero, List.set_cons_succ]
    apply wpK_next 28 (some 89)
    · simp only [List.getElem?_toArray, List.getElem?_cons_succ, List.getElem?_cons_zero]; exact rfl
    · rfl
    · kernel_rfl
    · kernel_rfl
    · kernel_rfl
    · exact fun _ _ _ _ h => h
    apply Exists.intro
    apply And.intro
    · first | exact yk_skip (by rfl) | (apply yk_run; rfl; intro w' hw'; go_simp; (try with_reducible rfl))
    simp only [Act.put, List.setIfInBounds_toArray, List.set_cons_zero, List.set_cons_succ]
    apply wpK_next 29 (some 90)
    · simp only [List.getElem?_toArray, List.getElem?_cons_succ, List.getElem?_cons_zero]; exact rfl
    · rfl
    · kernel_rfl
    · kernel_rfl
    · kernel_rfl
    · exact fun _ _ _ _ h => h
    apply Exists.intro
    apply And.intro
    · first | exact yk_skip (by rfl) | (apply yk_run; rfl; intro w' hw'; go_simp; (try with_reducible rfl))
    simp only [Act.put, List.setIfInBounds_toArray, List.set_cons_zero, List.set_cons_succ]
    apply wpK_next 30 (some 91)
    · simp only [List.getElem?_toArray, List.getElem?_cons_succ, List.getElem?_cons_zero]; exact rfl
    · rfl
    · kernel_rfl
    · kernel_rfl
    · kernel_rfl
    · exact fun _ _ _ _ h => h
    apply Exists.intro
    apply And.intro
    · first | exact yk_skip (by rfl) | (apply yk_run; rfl; intro w' hw'; go_simp; (try with_reducible rfl))
    simp only [Act.put, List.setIfInBounds_toArray, List.set_cons_zero, List.set_cons_succ]
    apply wpK_next 31 (some 92)
    · simp only [List.getElem?_toArray, List.getElem?_cons_succ, List.getElem?_cons_zero]; exact rfl
    · rfl
    · kernel_rfl
    · kernel_rfl
    · kernel_rfl
    · exact fun _ _ _ _ h => h
    apply Exists.intro
    apply And.intro
    · first | exact yk_skip (by rfl) | (apply yk_call; rfl; rotate_left; intro w' hw'; exact (HRx.out w' hw'); intro w'; go_simp)
    simp only [Act.put, List.setIfInBounds_toArray, List.set_cons_zero, List.set_cons_succ]
    apply wpK_next 32 (some 93)
    · simp only [List.getElem?_toArray, List.getElem?_cons_succ, List.getElem?_cons_zero]; exact rfl
    · rfl
    · kernel_rfl
    · kernel_rfl
    · kernel_rfl
    · exact fun _ _ _ _ h => h
    apply Exists.intro
    apply And.intro
    · first | exact yk_skip (by rfl) | (apply yk_run; rfl; intro w' hw'; go_simp; (try with_reducible rfl))
    simp only [Act.put, List.setIfInBounds_toArray, List.set_cons_zero, List.set_cons_succ]
    apply wpK_next 33 (some 94)
    · simp only [List.getElem?_toArray, List.getElem?_cons_succ, List.getElem?_cons_zero]; exact rfl
    · rfl
    · kernel_rfl
    · kernel_rfl
    · kernel_rfl
    · exact fun _ _ _ _ h => h
    apply Exists.intro
    apply And.intro
    · first | exact yk_skip (by rfl) | (apply yk_run; rfl; intro w' hw'; go_simp; (try with_reducible rfl))
    simp only [Act.put, List.setIfInBounds_toArray, List.set_cons_zero, List.set_cons_succ]
    apply wpK_next 34 (some 6)
    · simp only [List.getElem?_toArray, List.getElem?_cons_succ, List.getElem?_cons_zero]; exact rfl
    · rfl
    · kernel_rfl
    · kernel_rfl
    · kernel_rfl
    · exact fun _ _ _ _ h => h
    apply Exists.intro
    apply And.intro
    · first | exact yk_skip (by rfl) | (apply yk_run; rfl; intro w' hw'; go_simp; (try with_reducible rfl))
    simp only [Act.put, List.setIfInBounds_toArray, List.set_cons_zero, List.set_cons_succ]
    refine wpK_done (by kernel_rfl) ?_ _
    intro w' hw'
    have hE := ((hJ.up (Ext.drewB wc)).up hw').b
    clear q0 q1 q2 q3 q4 q5 q6 q7
    go_wp2
    go_ret
    exact ⟨rfl, hE⟩
end Go.Proofs.Ytedihfggijcciaa
