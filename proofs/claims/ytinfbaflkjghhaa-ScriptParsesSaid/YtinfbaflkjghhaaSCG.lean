/- Several texts in one. -/
import Derived.Test.YtinfbaflkjghhaaSCA
import Derived.Test.YtinfbaflkjghhaaSCF
import Derived.Test.YtinfbaflkjghhaaSCD
/- The document's reader: corner. -/
set_option linter.unusedSimpArgs false
set_option linter.unusedVariables false
namespace Go.Proofs.Ytinfbaflkjghhaa
open Go.RowKit
theorem okC_at {L R : List Nat} (h : idT L = true → R = lI L) (bad : Bool) : (bad || !okC L) = ((((bad || !idT L) || !decide (1 ≤ R.length)) || !decide (c1 R ≤ 2)) || !(decide (c1 R = 0) || idT (R.drop 1))) := by
  unfold okC
  cases hi : idT L with
  | false => cases bad <;> simp
  | true =>
    have e := h hi
    rw [(idT_vI hi).2] at e
    subst e
    generalize decide (1 ≤ (L.drop 4).length) = a
    generalize decide (c1 (L.drop 4) ≤ 2) = b
    generalize decide (c1 (L.drop 4) = 0) = c
    generalize idT ((L.drop 4).drop 1) = d
    cases bad <;> cases a <;> cases b <;> cases c <;> cases d <;> rfl
theorem okC_got {L R : List Nat} (h : idT L = true → R = lI L) (q : okC L = true) : idT L = true ∧ c1 R ≤ 2 ∧ (c1 R = 0 ∨ idT (R.drop 1) = true) := by
  unfold okC at q
  simp only [Bool.and_eq_true, Bool.or_eq_true, decide_eq_true_eq] at q
  obtain ⟨h1, h2, h3, h4⟩ := q
  have e := h h1
  rw [(idT_vI h1).2] at e
  subst e
  exact ⟨h1, h3, h4⟩
set_option maxRecDepth 100000 in
set_option maxHeartbeats 4000000 in
theorem rrcorner_any (lo g : Nat) (L : List Nat) (bad : Bool) (w : World) (h : RrAt lo w g L bad) :
    Calls Try.prog 76 #[.pointer (some ⟨g, 0, none⟩)] w fun e w' => ∃ (v : C5) (R : List Nat), e = .returned (.agg (cC v).toArray) ∧ Rr1 lo w w' g R (bad || !okC L) ∧ (okC L = true → v = crV L ∧ R = crL L) := by
  have HN1 := Lib.hid (fun R bad W h => rrid_any lo g R bad W h)
  have HN2 := Lib.hid (fun R bad W h => rone_any lo g R bad W h)
  have HX0 : RowKit.Hid (Whole (w.alloc (.cells #[.int .i64 0, .int .i64 0, .int .i64 0, .int .i64 0, .int .i64 0] 51)) w.heap.size 51 [.int .i64 0, .int .i64 0, .int .i64 0, .int .i64 0, .int .i64 0]) := Lib.hid (Whole.new_ _ _ [_, _, _, _, _])
  have HC0 := Lib.hid (h.al (.cells #[.int .i64 0, .int .i64 0, .int .i64 0, .int .i64 0, .int .i64 0] 51))
  have HK0 : RowKit.Hid (Kept (At1 g) w (w.alloc (.cells #[.int .i64 0, .int .i64 0, .int .i64 0, .int .i64 0, .int .i64 0] 51))) := Lib.hid (Kept.of_below (below1 w _))
  have Hgb : RowKit.Hid (g < w.heap.size) := Lib.hid h.lt
  clear h
  go_enter Try.func76, Try.ntmps76
  go_upto_region 1 with fail
  obtain ⟨w0, gw0⟩ : ∃ z, w.alloc (.cells #[.int .i64 0, .int .i64 0, .int .i64 0, .int .i64 0, .int .i64 0] 51) = z := ⟨_, rfl⟩
  obtain ⟨b, gb⟩ : ∃ z, w.heap.size = z := ⟨_, rfl⟩
  rw [gw0] at HX0 HK0 HC0 ⊢
  rw [gb] at HX0 Hgb ⊢
  have Gb := Lib.hid gb
  clear gw0 gb
  go_upto_region 2 with (first
    | (go_at_call 75
       refine (HN1.out _ _ _ HC0.out).mono ?_
       rintro e w1 ⟨x1, x2, R1, rfl, hcu, hok⟩
       have HX1 := Lib.hid ((hcu.2.whole HX0.out (fun e => by have h1 : b = g := e; have := Hgb.out; omega)).al (.cells #[.int .i64 x1, .int .i64 x2, .int .i64 0, .int .i64 0, .int .i64 0] 51))
       have HK1 := Lib.hid ((HK0.out.trans hcu.2).alloc (.cells #[.int .i64 x1, .int .i64 x2, .int .i64 0, .int .i64 0, .int .i64 0] 51))
       have HC1 := Lib.hid (hcu.1.al (.cells #[.int .i64 x1, .int .i64 x2, .int .i64 0, .int .i64 0, .int .i64 0] 51))
       have HY1 : RowKit.Hid (Whole (w1.alloc (.cells #[.int .i64 x1, .int .i64 x2, .int .i64 0, .int .i64 0, .int .i64 0] 51)) w1.heap.size 51 [.int .i64 x1, .int .i64 x2, .int .i64 0, .int .i64 0, .int .i64 0]) := Lib.hid (Whole.new_ _ _ [_, _, _, _, _])
       have Hgb5 : RowKit.Hid (g < w1.heap.size ∧ b < w1.heap.size) := Lib.hid ⟨hcu.1.lt, (hcu.2.whole HX0.out (fun e => by have h1 : b = g := e; have := Hgb.out; omega)).lt⟩
       have HOk := Lib.hid hok
       clear hcu hok))
  obtain ⟨w2, gw2⟩ : ∃ z, w1.alloc (.cells #[.int .i64 x1, .int .i64 x2, .int .i64 0, .int .i64 0, .int .i64 0] 51) = z := ⟨_, rfl⟩
  obtain ⟨b5, gb5⟩ : ∃ z, w1.heap.size = z := ⟨_, rfl⟩
  rw [gw2] at HX1 HC1 HK1 HY1 ⊢
  rw [gb5] at HY1 Hgb5 ⊢
  clear gw2 gb5 HX0 HC0 HK0
  go_upto_region 3 with (first
    | (go_at_call 60
       refine (HN2.out _ _ _ HC1.out).mono ?_
       rintro e w3 ⟨rfl, hcu⟩
       have HX3 := Lib.hid (hcu.2.whole HX1.out (fun e => by have h1 : b = g := e; have := Hgb.out; omega))
       have HY3 := Lib.hid (hcu.2.whole HY1.out (fun e => by have h1 : b5 = g := e; have := Hgb5.out; omega))
       have HK3 := Lib.hid (HK1.out.trans hcu.2)
       have HC3 := Lib.hid hcu.1
       clear hcu))
  have hb5 : RowKit.Hid (w.heap.size ≤ b5) := Lib.hid (by have := Gb.out; have := Hgb5.out.2; omega)
  have HAt := Lib.hid (okC_at (fun q => (HOk.out q).2) bad)
  have HGot := Lib.hid (okC_got (L := L) (fun q => (HOk.out q).2))
  clear HX1 HC1 HK1 HY1
  have hs9 := byte_lt HC3.out.bytes
  obtain ⟨sd, gsd⟩ : ∃ z, c1 R1 = z := ⟨_, rfl⟩
  rw [gsd] at HAt HGot ⊢
  have Gsd := Lib.hid gsd
  obtain ⟨sI, gsI⟩ : ∃ z : Int, (sd : Int) = z := ⟨_, rfl⟩
  rw [gsI]
  have hs3 : (0 : Int) ≤ sI ∧ (sd : Int) = sI := ⟨by omega, gsI⟩
  have HsI := Lib.hid hs3
  clear gsd gsI hs9 hs3
  by_cases h0 : sd = 0
  · have q3 : ¬ (2 : Int) < sI := by have := HsI.out; omega
    have q1 : (sI == 1) = false := by have := HsI.out; simp; omega
    have q2 : (sI == 2) = false := by have := HsI.out; simp; omega
    have Hbd : RowKit.Hid ((bad || !okC L) = ((bad || !idT L) || !decide (1 ≤ R1.length))) := Lib.hid (by rw [HAt.out, h0]; simp)
    have HV : RowKit.Hid (okC L = true → ((x1, x2, 0, 0, 0) : C5) = crV L ∧ R1.drop 1 = crL L) := Lib.hid (fun q => by
      obtain ⟨j1, -, -⟩ := HGot.out q
      obtain ⟨j2, j3⟩ := HOk.out j1
      have j4 := Gsd.out
      rw [j3, h0] at j4
      unfold crV crL
      rw [j4, if_neg (by omega), if_neg (by omega), ← j2, j3]
      exact ⟨rfl, rfl⟩)
    clear h0
    go_upto_region 7 with fail
    clear q1 q2 q3
    refine wp_region_lit ?_
    refine wl_load (some 27) rfl (by rfl) 51 (.tmp 3) rfl b5 rfl 51 (cC (x1, x2, 0, 0, 0)) _ HY3.out Try.underlying51 rfl (by kernel_rfl) ?_
    simp only [Act.put, stA_, st0_, st1_]
    refine wpList_store_row rfl 51 (.tmp 2) (.tmp 27) rfl b (cC (x1, x2, 0, 0, 0)).toArray rfl rfl 51 #[.int .i64 0, .int .i64 0, .int .i64 0, .int .i64 0, .int .i64 0] HX3.out (by kernel_rfl) rfl (by simp [cC, Value.oneCell']) ?_
    have HX9 : RowKit.Hid (Whole (w3.setRow b (cC (x1, x2, 0, 0, 0)).toArray) b 51 (cC (x1, x2, 0, 0, 0))) := Lib.hid (Whole.row HX3.out (cC (x1, x2, 0, 0, 0)))
    have HC9 := Lib.hid (HC3.out.row Hgb.out (cC (x1, x2, 0, 0, 0)).toArray)
    have HK9 := Lib.hid (kept_in HK3.out (Nat.le_of_eq Gb.out) (kept_row (S := fun i => i = b) rfl (cC (x1, x2, 0, 0, 0)).toArray))
    go_wp2
    exact ret_whole rfl b rfl HX9.out Try.underlying51 rfl (by kernel_rfl) rfl ⟨(x1, x2, 0, 0, 0), R1.drop 1, rfl, ⟨by rw [Hbd.out]; exact HC9.out, HK9.out⟩, HV.out⟩
  by_cases h3 : 2 < sd
  · have q3 : (2 : Int) < sI := by have := HsI.out; omega
    have q1 : (sI == 1) = false := by have := HsI.out; simp; omega
    have q2 : (sI == 2) = false := by have := HsI.out; simp; omega
    have Hbd : RowKit.Hid ((bad || !okC L) = true) := Lib.hid (by rw [HAt.out, decide_eq_false (by omega : ¬ sd ≤ 2)]; simp)
    have HV : RowKit.Hid (okC L = true → ((x1, x2, 0, 0, 0) : C5) = crV L ∧ R1.drop 1 = crL L) := Lib.hid (fun q => by
      have := (HGot.out q).2.1
      omega)
    have m1 := HC3.out.cell1
    have e1 := HC3.out.free 1
    clear h0 h3
    go_upto_region 5 with fail
    clear m1 e1 q3
    have hk4 : Kept (At1 g) w3 (w3.setCell ⟨g, 1, none⟩ (.bool true)) := kept_at _ _ _ _
    have HC4 := Lib.hid (HC3.out.setB true)
    have HX4 := Lib.hid (hk4.whole HX3.out (fun e => by have h1 : b = g := e; have := Hgb.out; omega))
    have HY4 := Lib.hid (hk4.whole HY3.out (fun e => by have h1 : b5 = g := e; have := Hgb5.out; omega))
    have HK4 := Lib.hid (HK3.out.trans hk4)
    obtain ⟨w4, gw4⟩ : ∃ z, w3.setCell ⟨g, 1, none⟩ (.bool true) = z := ⟨_, rfl⟩
    rw [gw4] at HC4 HX4 HY4 HK4 ⊢
    clear gw4 hk4
    go_upto_region 7 with fail
    clear q1 q2
    refine wp_region_lit ?_
    refine wl_load (some 27) rfl (by rfl) 51 (.tmp 3) rfl b5 rfl 51 (cC (x1, x2, 0, 0, 0)) _ HY4.out Try.underlying51 rfl (by kernel_rfl) ?_
    simp only [Act.put, stA_, st0_, st1_]
    refine wpList_store_row rfl 51 (.tmp 2) (.tmp 27) rfl b (cC (x1, x2, 0, 0, 0)).toArray rfl rfl 51 #[.int .i64 0, .int .i64 0, .int .i64 0, .int .i64 0, .int .i64 0] HX4.out (by kernel_rfl) rfl (by simp [cC, Value.oneCell']) ?_
    have HX9 : RowKit.Hid (Whole (w4.setRow b (cC (x1, x2, 0, 0, 0)).toArray) b 51 (cC (x1, x2, 0, 0, 0))) := Lib.hid (Whole.row HX4.out (cC (x1, x2, 0, 0, 0)))
    have HC9 := Lib.hid (HC4.out.row Hgb.out (cC (x1, x2, 0, 0, 0)).toArray)
    have HK9 := Lib.hid (kept_in HK4.out (Nat.le_of_eq Gb.out) (kept_row (S := fun i => i = b) rfl (cC (x1, x2, 0, 0, 0)).toArray))
    go_wp2
    exact ret_whole rfl b rfl HX9.out Try.underlying51 rfl (by kernel_rfl) rfl ⟨(x1, x2, 0, 0, 0), R1.drop 1, rfl, ⟨by rw [Hbd.out]; exact HC9.out, HK9.out⟩, HV.out⟩
  have q3 : ¬ (2 : Int) < sI := by have := HsI.out; omega
  have hw : IntKind.i64.wrap (sI - 1) = sI - 1 := IntWalk.i64_in _ (by have := HsI.out; omega)
  obtain ⟨tI, gtI⟩ : ∃ z, sI - 1 = z := ⟨_, rfl⟩
  have Hbd : RowKit.Hid ((bad || !okC L) = (((bad || !idT L) || !decide (1 ≤ R1.length)) || !idT (R1.drop 1))) := Lib.hid (by rw [HAt.out, decide_eq_true (by omega : sd ≤ 2), decide_eq_false h0]; simp)
  have HV : RowKit.Hid (∀ (y1 y2 : Int) (R3 : List Nat), (idT (R1.drop 1) = true → (y1, y2) = vI (R1.drop 1) ∧ R3 = lI (R1.drop 1)) → okC L = true → ((x1, x2, y1, y2, tI) : C5) = crV L ∧ R3 = crL L) := Lib.hid (fun y1 y2 R3 hh q => by
    obtain ⟨j1, -, j5⟩ := HGot.out q
    obtain ⟨j2, j3⟩ := HOk.out j1
    obtain ⟨j6, j7⟩ := hh (j5.resolve_left h0)
    have j4 := Gsd.out
    have j8 := HsI.out.2
    rw [j3] at j4 j6 j7
    unfold crV crL
    rw [j4, if_pos (by omega), if_pos (by omega), ← j2, ← j6, j8, gtI]
    exact ⟨rfl, j7⟩)
  replace hw := hw.trans gtI
  have GtI := Lib.hid gtI
  clear gtI
  by_cases h1 : sd = 1
  · have q1 : (sI == 1) = true := by have := HsI.out; simp; omega
    clear h0 h1 h3
    go_upto_region 7 with (first
      | (go_at_call 75
         refine (HN1.out _ _ _ HC3.out).mono ?_
         rintro e w4 ⟨y1, y2, R3, rfl, hcu, hok⟩
         have HX4 := Lib.hid (hcu.2.whole HX3.out (fun e => by have h1 : b = g := e; have := Hgb.out; omega))
         have HY4 := Lib.hid (hcu.2.whole HY3.out (fun e => by have h1 : b5 = g := e; have := Hgb5.out; omega))
         have HK4 := Lib.hid (HK3.out.trans hcu.2)
         have HC4 := Lib.hid hcu.1
         have HVz := Lib.hid (HV.out y1 y2 R3 hok)
         have p2 := HY4.out.cell (i := 2) rfl
         have p3 := HY4.out.cell (i := 3) rfl
         have p4 := HY4.out.cell (i := 4) rfl
         have r2 := HY4.out.free 2
         have r3 := HY4.out.free 3
         have r4 := HY4.out.free 4
         clear hcu hok))
    clear p2 p3 p4 r2 r3 r4 hw
    have HY5 := Lib.hid (((HY4.out.set_ 2 (.int .i64 y1)).set_ 3 (.int .i64 y2)).set_ 4 (.int .i64 tI))
    have HC5 := Lib.hid (((HC4.out.poke (i := 2) Hgb5.out.1 (.int .i64 y1)).poke (i := 3) Hgb5.out.1 (.int .i64 y2)).poke (i := 4) Hgb5.out.1 (.int .i64 tI))
    have HX5 := Lib.hid (((HX4.out.far (p := ⟨b5, 2, none⟩) (by show b ≠ b5; have := Hgb5.out.2; omega) (.int .i64 y1)).far (p := ⟨b5, 3, none⟩) (by show b ≠ b5; have := Hgb5.out.2; omega) (.int .i64 y2)).far (p := ⟨b5, 4, none⟩) (by show b ≠ b5; have := Hgb5.out.2; omega) (.int .i64 tI))
    have HK5 := Lib.hid (kept_poke (i := 4) (kept_poke (i := 3) (kept_poke (i := 2) HK4.out hb5.out (.int .i64 y1)) hb5.out (.int .i64 y2)) hb5.out (.int .i64 tI))
    obtain ⟨w5, gw5⟩ : ∃ z, ((w4.setCell ⟨b5, 2, none⟩ (.int .i64 y1)).setCell ⟨b5, 3, none⟩ (.int .i64 y2)).setCell ⟨b5, 4, none⟩ (.int .i64 tI) = z := ⟨_, rfl⟩
    rw [gw5] at HY5 HC5 HX5 HK5 ⊢
    clear gw5 HX4 HY4 HK4 HC4
    refine wp_region_lit ?_
    refine wl_load (some 27) rfl (by rfl) 51 (.tmp 3) rfl b5 rfl 51 (cC (x1, x2, y1, y2, tI)) _ HY5.out Try.underlying51 rfl (by kernel_rfl) ?_
    simp only [Act.put, stA_, st0_, st1_]
    refine wpList_store_row rfl 51 (.tmp 2) (.tmp 27) rfl b (cC (x1, x2, y1, y2, tI)).toArray rfl rfl 51 #[.int .i64 0, .int .i64 0, .int .i64 0, .int .i64 0, .int .i64 0] HX5.out (by kernel_rfl) rfl (by simp [cC, Value.oneCell']) ?_
    have HX9 : RowKit.Hid (Whole (w5.setRow b (cC (x1, x2, y1, y2, tI)).toArray) b 51 (cC (x1, x2, y1, y2, tI))) := Lib.hid (Whole.row HX5.out (cC (x1, x2, y1, y2, tI)))
    have HC9 := Lib.hid (HC5.out.row Hgb.out (cC (x1, x2, y1, y2, tI)).toArray)
    have HK9 := Lib.hid (kept_in HK5.out (Nat.le_of_eq Gb.out) (kept_row (S := fun i => i = b) rfl (cC (x1, x2, y1, y2, tI)).toArray))
    go_wp2
    exact ret_whole rfl b rfl HX9.out Try.underlying51 rfl (by kernel_rfl) rfl ⟨(x1, x2, y1, y2, tI), R3, rfl, ⟨by rw [Hbd.out]; exact HC9.out, HK9.out⟩, HVz.out⟩
  · have q1 : (sI == 1) = false := by have := HsI.out; simp; omega
    have q2 : (sI == 2) = true := by have := HsI.out; simp; omega
    clear h0 h1 h3
    go_upto_region 7 with (first
      | (go_at_call 75
         refine (HN1.out _ _ _ HC3.out).mono ?_
         rintro e w4 ⟨y1, y2, R3, rfl, hcu, hok⟩
         have HX4 := Lib.hid (hcu.2.whole HX3.out (fun e => by have h1 : b = g := e; have := Hgb.out; omega))
         have HY4 := Lib.hid (hcu.2.whole HY3.out (fun e => by have h1 : b5 = g := e; have := Hgb5.out; omega))
         have HK4 := Lib.hid (HK3.out.trans hcu.2)
         have HC4 := Lib.hid hcu.1
         have HVz := Lib.hid (HV.out y1 y2 R3 hok)
         have p2 := HY4.out.cell (i := 2) rfl
         have p3 := HY4.out.cell (i := 3) rfl
         have p4 := HY4.out.cell (i := 4) rfl
         have r2 := HY4.out.free 2
         have r3 := HY4.out.free 3
         have r4 := HY4.out.free 4
         clear hcu hok))
    clear p2 p3 p4 r2 r3 r4 hw
    have HY5 := Lib.hid (((HY4.out.set_ 2 (.int .i64 y1)).set_ 3 (.int .i64 y2)).set_ 4 (.int .i64 tI))
    have HC5 := Lib.hid (((HC4.out.poke (i := 2) Hgb5.out.1 (.int .i64 y1)).poke (i := 3) Hgb5.out.1 (.int .i64 y2)).poke (i := 4) Hgb5.out.1 (.int .i64 tI))
    have HX5 := Lib.hid (((HX4.out.far (p := ⟨b5, 2, none⟩) (by show b ≠ b5; have := Hgb5.out.2; omega) (.int .i64 y1)).far (p := ⟨b5, 3, none⟩) (by show b ≠ b5; have := Hgb5.out.2; omega) (.int .i64 y2)).far (p := ⟨b5, 4, none⟩) (by show b ≠ b5; have := Hgb5.out.2; omega) (.int .i64 tI))
    have HK5 := Lib.hid (kept_poke (i := 4) (kept_poke (i := 3) (kept_poke (i := 2) HK4.out hb5.out (.int .i64 y1)) hb5.out (.int .i64 y2)) hb5.out (.int .i64 tI))
    obtain ⟨w5, gw5⟩ : ∃ z, ((w4.setCell ⟨b5, 2, none⟩ (.int .i64 y1)).setCell ⟨b5, 3, none⟩ (.int .i64 y2)).setCell ⟨b5, 4, none⟩ (.int .i64 tI) = z := ⟨_, rfl⟩
    rw [gw5] at HY5 HC5 HX5 HK5 ⊢
    clear gw5 HX4 HY4 HK4 HC4
    refine wp_region_lit ?_
    refine wl_load (some 27) rfl (by rfl) 51 (.tmp 3) rfl b5 rfl 51 (cC (x1, x2, y1, y2, tI)) _ HY5.out Try.underlying51 rfl (by kernel_rfl) ?_
    simp only [Act.put, stA_, st0_, st1_]
    refine wpList_store_row rfl 51 (.tmp 2) (.tmp 27) rfl b (cC (x1, x2, y1, y2, tI)).toArray rfl rfl 51 #[.int .i64 0, .int .i64 0, .int .i64 0, .int .i64 0, .int .i64 0] HX5.out (by kernel_rfl) rfl (by simp [cC, Value.oneCell']) ?_
    have HX9 : RowKit.Hid (Whole (w5.setRow b (cC (x1, x2, y1, y2, tI)).toArray) b 51 (cC (x1, x2, y1, y2, tI))) := Lib.hid (Whole.row HX5.out (cC (x1, x2, y1, y2, tI)))
    have HC9 := Lib.hid (HC5.out.row Hgb.out (cC (x1, x2, y1, y2, tI)).toArray)
    have HK9 := Lib.hid (kept_in HK5.out (Nat.le_of_eq Gb.out) (kept_row (S := fun i => i = b) rfl (cC (x1, x2, y1, y2, tI)).toArray))
    go_wp2
    exact ret_whole rfl b rfl HX9.out Try.underlying51 rfl (by kernel_rfl) rfl ⟨(x1, x2, y1, y2, tI), R3, rfl, ⟨by rw [Hbd.out]; exact HC9.out, HK9.out⟩, HVz.out⟩
end Go.Proofs.Ytinfbaflkjghhaa
/- The document's reader: op. -/
namespace Go.Proofs.Ytinfbaflkjghhaa
open Go.RowKit
theorem okO_at {L M : List Nat} (h : idT (L.drop 1) = true → M = lI (L.drop 1)) (bad : Bool) : (bad || !okO L) = (((bad || !decide (1 ≤ L.length)) || !idT (L.drop 1)) || !okFd (c1 L) M) := by
  unfold okO
  cases hi : idT (L.drop 1) with
  | false => cases bad <;> simp
  | true =>
    have e := h hi
    rw [(idT_vI hi).2] at e
    subst e
    generalize decide (1 ≤ L.length) = a
    generalize okFd (c1 L) ((L.drop 1).drop 4) = b
    cases bad <;> cases a <;> cases b <;> rfl
theorem okO_got {L M : List Nat} (h : idT (L.drop 1) = true → M = lI (L.drop 1)) (q : okO L = true) : idT (L.drop 1) = true ∧ okFd (c1 L) M = true := by
  unfold okO at q
  simp only [Bool.and_eq_true, decide_eq_true_eq] at q
  obtain ⟨-, h2, h3⟩ := q
  have e := h h2
  rw [(idT_vI h2).2] at e
  subst e
  exact ⟨h2, h3⟩
/-- What is read behind the kind and the name gives the operation. -/
theorem okO_val {L M R : List Nat} {x1 x2 : Int} {o : OpT} (h : idT (L.drop 1) = true → (x1, x2) = vI (L.drop 1) ∧ M = lI (L.drop 1)) (ho : okFd (c1 L) M = true → o = fdV (c1 L) (x1, x2) M ∧ R = fdL (c1 L) M) (q : okO L = true) : o = opV L ∧ R = opL L := by
  obtain ⟨h1, h2⟩ := okO_got (fun t => (h t).2) q
  obtain ⟨j1, j2⟩ := h h1
  have := ho h2
  rw [j1, j2] at this
  exact this
theorem fd3_at {M R : List Nat} (h : okC M = true → R = crL M) (bad : Bool) : (bad || !okFd 3 M) = ((bad || !okC M) || !okC R) := by
  show (bad || !(okC M && okC (crL M))) = _
  cases hi : okC M with
  | false => cases bad <;> simp
  | true => rw [h hi]; cases bad <;> simp
theorem fd5_at {M R S : List Nat} (h : idT M = true → R = lI M) (h' : idT R = true → S = lI R) (bad : Bool) : (bad || !okFd 5 M) = (((bad || !idT M) || !idT R) || !decide (1 ≤ S.length)) := by
  show (bad || !(idT M && (idT (M.drop 4) && decide (1 ≤ ((M.drop 4).drop 4).length)))) = _
  cases hi : idT M with
  | false => cases bad <;> simp
  | true =>
    have e := h hi
    rw [(idT_vI hi).2] at e
    subst e
    cases hj : idT (M.drop 4) with
    | false => cases bad <;> simp
    | true =>
      have e := h' hj
      rw [(idT_vI hj).2] at e
      subst e
      cases bad <;> simp
theorem fd7_at {M : List Nat} {fI : Int} (hf : fI = (c1 M : Int)) (bad : Bool) : (bad || !okFd 7 M) = (((bad || !decide (1 ≤ M.length)) || decide (1 < fI)) || !isT (M.drop 1)) := by
  show (bad || !((decide (1 ≤ M.length) && decide (c1 M ≤ 1)) && isT (M.drop 1))) = _
  have : decide (1 < fI) = !decide (c1 M ≤ 1) := by
    by_cases q : c1 M ≤ 1
    · rw [decide_eq_true q, decide_eq_false (by omega)]; rfl
    · rw [decide_eq_false q, decide_eq_true (by omega)]; rfl
  rw [this]
  generalize decide (1 ≤ M.length) = a
  generalize decide (c1 M ≤ 1) = b
  generalize isT (M.drop 1) = c
  cases bad <;> cases a <;> cases b <;> cases c <;> rfl
theorem fd8_at {M : List Nat} {fI : Int} (hf : fI = (c1 M : Int)) (bad : Bool) : (bad || !okFd 8 M) = (((bad || !decide (1 ≤ M.length)) || decide (1 < fI)) || !decide (8 ≤ (M.drop 1).length)) := by
  show (bad || !((decide (1 ≤ M.length) && decide (c1 M ≤ 1)) && decide (8 ≤ (M.drop 1).length))) = _
  have : decide (1 < fI) = !decide (c1 M ≤ 1) := by
    by_cases q : c1 M ≤ 1
    · rw [decide_eq_true q, decide_eq_false (by omega)]; rfl
    · rw [decide_eq_false q, decide_eq_true (by omega)]; rfl
  rw [this]
  generalize decide (1 ≤ M.length) = a
  generalize decide (c1 M ≤ 1) = b
  generalize decide (8 ≤ (M.drop 1).length) = c
  cases bad <;> cases a <;> cases b <;> cases c <;> rfl
theorem okF_flag {k : Nat} {M : List Nat} (hk : k = 7 ∨ k = 8) (h : okFd k M = true) : decide (c1 M ≠ 0) = ((c1 M : Int) == 1) := by
  have h2 : okF M = true := by
    rcases hk with rfl | rfl
    · exact (Bool.and_eq_true_iff.1 (show (okF M && isT (M.drop 1)) = true from h)).1
    · exact (Bool.and_eq_true_iff.1 (show (okF M && decide (8 ≤ (M.drop 1).length)) = true from h)).1
  have h3 := of_decide_eq_true (Bool.and_eq_true_iff.1 h2).2
  by_cases q : c1 M = 0
  · rw [q]; rfl
  · rw [show c1 M = 1 by omega]; rfl
theorem rds_hi {w : World} {lo g b i n c : Nat} {A : Option Addr} {L : List Nat} (h : RdS w w.heap.size 1 A n c (rowsV f8 L)) (hlo : ∀ a, A = some a → 0 < n → a.block < lo) (hge : lo ≤ g) (hgb : g < b) (u : Value) : RdS (w.setCell ⟨b, i, none⟩ u) (w.setCell ⟨b, i, none⟩ u).heap.size 1 A n c (rowsV f8 L) :=
  h.kept_ne (kept_at w b i u) (fun a ha hn e => by have := hlo a ha hn; have e2 : a.block = b := e; omega)
set_option maxRecDepth 100000 in
set_option maxHeartbeats 4000000 in
theorem rrop_3 (lo g : Nat) (L : List Nat) (bad : Bool) (w : World) (h : RrAt lo w g L bad) (hk : c1 L = 3) :
    Calls Try.prog 61 #[.pointer (some ⟨g, 0, none⟩)] w fun e w' => ∃ (o : OpT) (R : List Nat), e = .returned (.agg (opCells o).toArray) ∧ Rr1 lo w w' g R (bad || !okO L) ∧ (okO L = true → o = opV L ∧ R = opL L) := by
  have HF1 := Lib.hid (fun R bad W h => rone_any lo g R bad W h)
  have HFI := Lib.hid (fun R bad W h => rrid_any lo g R bad W h)
  have HFC := Lib.hid (fun R bad W h => rrcorner_any lo g R bad W h)
  have HX0 : RowKit.Hid (Whole (w.alloc (.cells #[.int .i64 0, .int .i64 0, .int .i64 0, .int .i64 0, .int .i64 0, .int .i64 0, .int .i64 0, .int .i64 0, .int .i64 0, .int .i64 0, .int .i64 0, .int .i64 0, .int .i64 0, .int .i64 0, .int .i64 0, .int .i64 0, .int .i64 0, .bool false, .string ⟨#[]⟩, .int .i64 0] 53)) w.heap.size 53 (opCells zeroO)) := Lib.hid (Whole.new_ _ _ (opCells zeroO))
  have HC0 := Lib.hid (h.al (.cells #[.int .i64 0, .int .i64 0, .int .i64 0, .int .i64 0, .int .i64 0, .int .i64 0, .int .i64 0, .int .i64 0, .int .i64 0, .int .i64 0, .int .i64 0, .int .i64 0, .int .i64 0, .int .i64 0, .int .i64 0, .int .i64 0, .int .i64 0, .bool false, .string ⟨#[]⟩, .int .i64 0] 53))
  have HK0 : RowKit.Hid (Kept (At1 g) w (w.alloc (.cells #[.int .i64 0, .int .i64 0, .int .i64 0, .int .i64 0, .int .i64 0, .int .i64 0, .int .i64 0, .int .i64 0, .int .i64 0, .int .i64 0, .int .i64 0, .int .i64 0, .int .i64 0, .int .i64 0, .int .i64 0, .int .i64 0, .int .i64 0, .bool false, .string ⟨#[]⟩, .int .i64 0] 53))) := Lib.hid (Kept.of_below (below1 w _))
  have Hgb : RowKit.Hid (g < w.heap.size ∧ lo ≤ g) := Lib.hid ⟨h.lt, h.ge⟩
  obtain ⟨kI, gkI⟩ : ∃ z : Int, (c1 L : Int) = z := ⟨_, rfl⟩
  have GkI := Lib.hid gkI
  have Hk := Lib.hid hk
  have q3 : (kI == 3) = true := by rw [← gkI, hk]; rfl
  have q5 : (kI == 5) = false := by rw [← gkI, hk]; rfl
  have q6 : (kI == 6) = false := by rw [← gkI, hk]; rfl
  have q7 : (kI == 7) = false := by rw [← gkI, hk]; rfl
  have q8 : (kI == 8) = false := by rw [← gkI, hk]; rfl
  have HF1L : RowKit.Hid (∀ W, RrAt lo W g L bad → Calls Try.prog 60 #[.pointer (some ⟨g, 0, none⟩)] W fun e w' => e = .returned (.int .i64 kI) ∧ Rr1 lo W w' g (L.drop 1) (bad || !decide (1 ≤ L.length))) := Lib.hid (fun W h => gkI ▸ rone_any lo g L bad W h)
  clear h gkI hk
  go_enter Try.func61, Try.ntmps61
  go_upto_region 1 with fail
  obtain ⟨w0, gw0⟩ : ∃ z, w.alloc (.cells #[.int .i64 0, .int .i64 0, .int .i64 0, .int .i64 0, .int .i64 0, .int .i64 0, .int .i64 0, .int .i64 0, .int .i64 0, .int .i64 0, .int .i64 0, .int .i64 0, .int .i64 0, .int .i64 0, .int .i64 0, .int .i64 0, .int .i64 0, .bool false, .string ⟨#[]⟩, .int .i64 0] 53) = z := ⟨_, rfl⟩
  obtain ⟨b, gb⟩ : ∃ z, w.heap.size = z := ⟨_, rfl⟩
  rw [gw0] at HX0 HK0 HC0 ⊢
  rw [gb] at HX0 Hgb ⊢
  have Gb := Lib.hid gb
  clear gw0 gb
  go_wp2_with fail
  refine (HF1L.out _ HC0.out).mono ?_
  rintro e w2 ⟨rfl, hcu⟩
  have HX2 := Lib.hid (hcu.2.whole HX0.out (fun e => by have h1 : b = g := e; have := Hgb.out; omega))
  have HK2 := Lib.hid (HK0.out.trans hcu.2)
  have HC2 := Lib.hid hcu.1
  clear hcu HX0 HK0 HC0 HF1L
  rename_i hK
  refine hK _ _ ?_
  refine wl_read (v := .agg (opCells (kO kI (0, 0))).toArray) (some 13) rfl (by rfl) ?_ ?_
  · go_simp; rfl
  simp only [Act.put, stA_, st0_, st1_]
  refine wl_new 3 rfl rfl rfl 53 (.tmp 13) rfl rfl #[.int .i64 0, .int .i64 0, .int .i64 0, .int .i64 0, .int .i64 0, .int .i64 0, .int .i64 0, .int .i64 0, .int .i64 0, .int .i64 0, .int .i64 0, .int .i64 0, .int .i64 0, .int .i64 0, .int .i64 0, .int .i64 0, .int .i64 0, .bool false, .string ⟨#[]⟩, .int .i64 0] ?_ (opCells (kO kI (0, 0))).toArray (by simp) rfl (by kernel_rfl) rfl (opCells_arr _) ?_
  · go_simp; (try with_reducible rfl)
  simp only [Act.put, stA_, st0_, st1_]
  have HY3 : RowKit.Hid (Whole (w2.alloc (.cells (opCells (kO kI (0, 0))).toArray 53)) w2.heap.size 53 (opCells (kO kI (0, 0)))) := Lib.hid (Whole.new_ _ _ _)
  have Hgb5 : RowKit.Hid (g < w2.heap.size ∧ b < w2.heap.size) := Lib.hid ⟨HC2.out.lt, HX2.out.lt⟩
  have HX3 := Lib.hid (HX2.out.al (.cells (opCells (kO kI (0, 0))).toArray 53))
  have HK3 := Lib.hid (HK2.out.alloc (.cells (opCells (kO kI (0, 0))).toArray 53))
  have HC3 := Lib.hid (HC2.out.al (.cells (opCells (kO kI (0, 0))).toArray 53))
  obtain ⟨w3, gw3⟩ : ∃ z, w2.alloc (.cells (opCells (kO kI (0, 0))).toArray 53) = z := ⟨_, rfl⟩
  obtain ⟨b5, gb5⟩ : ∃ z, w2.heap.size = z := ⟨_, rfl⟩
  rw [gw3] at HY3 HX3 HK3 HC3 ⊢
  rw [gb5] at HY3 Hgb5 ⊢
  clear gw3 gb5 HX2 HK2 HC2 hK
  have hb5 : RowKit.Hid (w.heap.size ≤ b5) := Lib.hid (by have := Gb.out; have := Hgb5.out.2; omega)
  go_wp2_with fail
  refine (HFI.out _ _ _ HC3.out).mono ?_
  rintro e w4 ⟨x1, x2, M, rfl, hcu, hok⟩
  have HX4 := Lib.hid (hcu.2.whole HX3.out (fun e => by have h1 : b = g := e; have := Hgb.out; omega))
  have HY4 := Lib.hid (hcu.2.whole HY3.out (fun e => by have h1 : b5 = g := e; have := Hgb5.out; omega))
  have HK4 := Lib.hid (HK3.out.trans hcu.2)
  have HC4 := Lib.hid hcu.1
  have HOk := Lib.hid hok
  clear hok
  clear hcu HX3 HY3 HK3 HC3
  rename_i hK
  refine hK _ _ ?_
  refine wl_read (v := ?_) (some 16) rfl (by rfl) ?_ ?_
  rotate_left
  · go_simp; (try with_reducible rfl)
  simp only [Act.put, stA_, st0_, st1_]
  refine wl_store rfl (by rfl) (store_mid_run 47 (.tmp 16) (.tmp 15) rfl b5 1 rfl [.int .i64 x1, .int .i64 x2] rfl (HY4.out.there_ 1 2 (by show 3 ≤ 20; decide)) (by kernel_rfl) (by simp [Value.oneCell'])) ?_
  have HY5 := Lib.hid (HY4.out.cells_ [.int .i64 x1, .int .i64 x2] 1 w4 _ (by show 3 ≤ 20; decide))
  have HX5 := Lib.hid (HX4.out.cells_far (show b ≠ b5 by have := Hgb5.out.2; omega) 1 [.int .i64 x1, .int .i64 x2])
  have HC5 := Lib.hid (HC4.out.cells Hgb5.out.1 1 [.int .i64 x1, .int .i64 x2])
  have HK5 := Lib.hid (kept_in HK4.out hb5.out (kept_setCells (S := fun i => i = b5) rfl 1 [.int .i64 x1, .int .i64 x2]))
  obtain ⟨w5, gw5⟩ : ∃ z, w4.setCells b5 1 [.int .i64 x1, .int .i64 x2] = z := ⟨_, rfl⟩
  rw [gw5] at HY5 HX5 HC5 HK5 ⊢
  clear gw5 HX4 HY4 HK4 HC4
  replace HY5 : RowKit.Hid (Whole w5 b5 53 (opCells (kO kI (x1, x2)))) := HY5
  clear hK
  have HAt := Lib.hid (okO_at (fun q => (HOk.out q).2) bad)
  have HVal := Lib.hid (fun (R : List Nat) (o : OpT) ho q => okO_val (R := R) (o := o) HOk.out ho q)
  obtain ⟨B2, gB2⟩ : ∃ z, ((bad || !decide (1 ≤ L.length)) || !idT (L.drop 1)) = z := ⟨_, rfl⟩
  rw [gB2] at HC5 HAt
  clear gB2
  have l0 : w5.cell? ⟨b5, 0, none⟩ = some (.int .i64 kI) := HY5.out.cell (i := 0) rfl
  go_wp2_with fail
  refine (HFC.out _ _ _ HC5.out).mono ?_
  rintro e w6 ⟨ca, Ra, rfl, hcu, hok⟩
  have HX6 := Lib.hid (hcu.2.whole HX5.out (fun e => by have h1 : b = g := e; have := Hgb.out; omega))
  have HY6 := Lib.hid (hcu.2.whole HY5.out (fun e => by have h1 : b5 = g := e; have := Hgb5.out; omega))
  have HK6 := Lib.hid (HK5.out.trans hcu.2)
  have HC6 := Lib.hid hcu.1
  have HOa := Lib.hid hok
  clear hok
  clear hcu HX5 HY5 HK5 HC5
  rename_i hK
  refine hK _ _ ?_
  refine wl_read (v := ?_) (some 23) rfl (by rfl) ?_ ?_
  rotate_left
  · go_simp; (try with_reducible rfl)
  simp only [Act.put, stA_, st0_, st1_]
  refine wl_store rfl (by rfl) (store_mid_run 51 (.tmp 23) (.tmp 22) rfl b5 7 rfl (cC ca) rfl (HY6.out.there_ 7 5 (by show 12 ≤ 20; decide)) (by kernel_rfl) (cC_one ca)) ?_
  have HY7 := Lib.hid (HY6.out.cells_ (cC ca) 7 w6 _ (by show 12 ≤ 20; decide))
  have HX7 := Lib.hid (HX6.out.cells_far (show b ≠ b5 by have := Hgb5.out.2; omega) 7 (cC ca))
  have HC7 := Lib.hid (HC6.out.cells Hgb5.out.1 7 (cC ca))
  have HK7 := Lib.hid (kept_in HK6.out hb5.out (kept_setCells (S := fun i => i = b5) rfl 7 (cC ca)))
  obtain ⟨w7, gw7⟩ : ∃ z, w6.setCells b5 7 (cC ca) = z := ⟨_, rfl⟩
  rw [gw7] at HY7 HX7 HC7 HK7 ⊢
  clear gw7 HX6 HY6 HK6 HC6
  clear hK l0
  go_wp2_with fail
  refine (HFC.out _ _ _ HC7.out).mono ?_
  rintro e w8 ⟨cb, Rb, rfl, hcu, hok⟩
  have HX8 := Lib.hid (hcu.2.whole HX7.out (fun e => by have h1 : b = g := e; have := Hgb.out; omega))
  have HY8 := Lib.hid (hcu.2.whole HY7.out (fun e => by have h1 : b5 = g := e; have := Hgb5.out; omega))
  have HK8 := Lib.hid (HK7.out.trans hcu.2)
  have HC8 := Lib.hid hcu.1
  have HOb := Lib.hid hok
  clear hok
  clear hcu HX7 HY7 HK7 HC7
  rename_i hK
  refine hK _ _ ?_
  refine wl_read (v := ?_) (some 26) rfl (by rfl) ?_ ?_
  rotate_left
  · go_simp; (try with_reducible rfl)
  simp only [Act.put, stA_, st0_, st1_]
  refine wl_store rfl (by rfl) (store_mid_run 51 (.tmp 26) (.tmp 25) rfl b5 12 rfl (cC cb) rfl (HY8.out.there_ 12 5 (by show 17 ≤ 20; decide)) (by kernel_rfl) (cC_one cb)) ?_
  have HY9 := Lib.hid (HY8.out.cells_ (cC cb) 12 w8 _ (by show 17 ≤ 20; decide))
  have HX9 := Lib.hid (HX8.out.cells_far (show b ≠ b5 by have := Hgb5.out.2; omega) 12 (cC cb))
  have HC9 := Lib.hid (HC8.out.cells Hgb5.out.1 12 (cC cb))
  have HK9 := Lib.hid (kept_in HK8.out hb5.out (kept_setCells (S := fun i => i = b5) rfl 12 (cC cb)))
  obtain ⟨w9, gw9⟩ : ∃ z, w8.setCells b5 12 (cC cb) = z := ⟨_, rfl⟩
  rw [gw9] at HY9 HX9 HC9 HK9 ⊢
  clear gw9 HX8 HY8 HK8 HC8
  clear hK
  have l0 : w9.cell? ⟨b5, 0, none⟩ = some (.int .i64 kI) := HY9.out.cell (i := 0) rfl
  go_upto_region 28 with fail
  have Hbd : RowKit.Hid ((bad || !okO L) = ((B2 || !okC M) || !okC Ra)) := Lib.hid (by rw [HAt.out]; exact by rw [Hk.out]; exact fd3_at (fun q => (HOa.out q).2) B2)
  have HV : RowKit.Hid (okO L = true → (⟨kI, x1, x2, 0, 0, 0, 0, ca.1, ca.2.1, ca.2.2.1, ca.2.2.2.1, ca.2.2.2.2, cb.1, cb.2.1, cb.2.2.1, cb.2.2.2.1, cb.2.2.2.2, false, ⟨#[]⟩, 0⟩ : OpT) = opV L ∧ Rb = opL L) := Lib.hid (HVal.out _ _ (fun q => by
    rw [Hk.out] at q ⊢
    obtain ⟨j1, j2⟩ := Bool.and_eq_true_iff.1 (show (okC M && okC (crL M)) = true from q)
    obtain ⟨j3, j4⟩ := HOa.out j1
    rw [j4] at HOb
    obtain ⟨j5, j6⟩ := HOb.out j2
    rw [show kI = 3 by have := GkI.out; have := Hk.out; omega, j3, j5, j6]
    exact ⟨rfl, rfl⟩))
  replace HY9 : RowKit.Hid (Whole w9 b5 53 (opCells (⟨kI, x1, x2, 0, 0, 0, 0, ca.1, ca.2.1, ca.2.2.1, ca.2.2.2.1, ca.2.2.2.2, cb.1, cb.2.1, cb.2.2.1, cb.2.2.2.1, cb.2.2.2.2, false, ⟨#[]⟩, 0⟩ : OpT))) := HY9
  obtain ⟨o9, go9⟩ : ∃ z, (⟨kI, x1, x2, 0, 0, 0, 0, ca.1, ca.2.1, ca.2.2.1, ca.2.2.2.1, ca.2.2.2.2, cb.1, cb.2.1, cb.2.2.1, cb.2.2.2.1, cb.2.2.2.2, false, ⟨#[]⟩, 0⟩ : OpT) = z := ⟨_, rfl⟩
  rw [go9] at HV HY9
  clear go9
  refine wp_region_lit ?_
  refine wl_load (some 120) rfl (by rfl) 53 (.tmp 3) rfl b5 rfl 53 (opCells o9) _ HY9.out Try.underlying53 rfl (by kernel_rfl) ?_
  simp only [Act.put, stA_, st0_, st1_]
  refine wpList_store_row rfl 53 (.tmp 2) (.tmp 120) rfl b (opCells o9).toArray rfl rfl 53 (opCells zeroO).toArray HX9.out (by kernel_rfl) rfl (opCells_arr _) ?_
  have HXz : RowKit.Hid (Whole (w9.setRow b (opCells o9).toArray) b 53 (opCells o9)) := Lib.hid (Whole.row HX9.out (opCells o9))
  have HCz := Lib.hid (HC9.out.row Hgb.out.1 (opCells o9).toArray)
  have HKz := Lib.hid (kept_in HK9.out (Nat.le_of_eq Gb.out) (kept_row (S := fun i => i = b) rfl (opCells o9).toArray))
  go_wp2
  exact ret_whole rfl b rfl HXz.out Try.underlying53 rfl (by kernel_rfl) rfl ⟨o9, Rb, rfl, ⟨by rw [Hbd.out]; exact HCz.out, HKz.out⟩, HV.out⟩
set_option maxRecDepth 100000 in
set_option maxHeartbeats 4000000 in
theorem rrop_6 (lo g : Nat) (L : List Nat) (bad : Bool) (w : World) (h : RrAt lo w g L bad) (hk : c1 L = 6) :
    Calls Try.prog 61 #[.pointer (some ⟨g, 0, none⟩)] w fun e w' => ∃ (o : OpT) (R : List Nat), e = .returned (.agg (opCells o).toArray) ∧ Rr1 lo w w' g R (bad || !okO L) ∧ (okO L = true → o = opV L ∧ R = opL L) := by
  have HF1 := Lib.hid (fun R bad W h => rone_any lo g R bad W h)
  have HFI := Lib.hid (fun R bad W h => rrid_any lo g R bad W h)
  have HFC := Lib.hid (fun R bad W h => rrcorner_any lo g R bad W h)
  have HX0 : RowKit.Hid (Whole (w.alloc (.cells #[.int .i64 0, .int .i64 0, .int .i64 0, .int .i64 0, .int .i64 0, .int .i64 0, .int .i64 0, .int .i64 0, .int .i64 0, .int .i64 0, .int .i64 0, .int .i64 0, .int .i64 0, .int .i64 0, .int .i64 0, .int .i64 0, .int .i64 0, .bool false, .string ⟨#[]⟩, .int .i64 0] 53)) w.heap.size 53 (opCells zeroO)) := Lib.hid (Whole.new_ _ _ (opCells zeroO))
  have HC0 := Lib.hid (h.al (.cells #[.int .i64 0, .int .i64 0, .int .i64 0, .int .i64 0, .int .i64 0, .int .i64 0, .int .i64 0, .int .i64 0, .int .i64 0, .int .i64 0, .int .i64 0, .int .i64 0, .int .i64 0, .int .i64 0, .int .i64 0, .int .i64 0, .int .i64 0, .bool false, .string ⟨#[]⟩, .int .i64 0] 53))
  have HK0 : RowKit.Hid (Kept (At1 g) w (w.alloc (.cells #[.int .i64 0, .int .i64 0, .int .i64 0, .int .i64 0, .int .i64 0, .int .i64 0, .int .i64 0, .int .i64 0, .int .i64 0, .int .i64 0, .int .i64 0, .int .i64 0, .int .i64 0, .int .i64 0, .int .i64 0, .int .i64 0, .int .i64 0, .bool false, .string ⟨#[]⟩, .int .i64 0] 53))) := Lib.hid (Kept.of_below (below1 w _))
  have Hgb : RowKit.Hid (g < w.heap.size ∧ lo ≤ g) := Lib.hid ⟨h.lt, h.ge⟩
  obtain ⟨kI, gkI⟩ : ∃ z : Int, (c1 L : Int) = z := ⟨_, rfl⟩
  have GkI := Lib.hid gkI
  have Hk := Lib.hid hk
  have q3 : (kI == 3) = false := by rw [← gkI, hk]; rfl
  have q5 : (kI == 5) = false := by rw [← gkI, hk]; rfl
  have q6 : (kI == 6) = true := by rw [← gkI, hk]; rfl
  have q7 : (kI == 7) = false := by rw [← gkI, hk]; rfl
  have q8 : (kI == 8) = false := by rw [← gkI, hk]; rfl
  have HF1L : RowKit.Hid (∀ W, RrAt lo W g L bad → Calls Try.prog 60 #[.pointer (some ⟨g, 0, none⟩)] W fun e w' => e = .returned (.int .i64 kI) ∧ Rr1 lo W w' g (L.drop 1) (bad || !decide (1 ≤ L.length))) := Lib.hid (fun W h => gkI ▸ rone_any lo g L bad W h)
  clear h gkI hk
  go_enter Try.func61, Try.ntmps61
  go_upto_region 1 with fail
  obtain ⟨w0, gw0⟩ : ∃ z, w.alloc (.cells #[.int .i64 0, .int .i64 0, .int .i64 0, .int .i64 0, .int .i64 0, .int .i64 0, .int .i64 0, .int .i64 0, .int .i64 0, .int .i64 0, .int .i64 0, .int .i64 0, .int .i64 0, .int .i64 0, .int .i64 0, .int .i64 0, .int .i64 0, .bool false, .string ⟨#[]⟩, .int .i64 0] 53) = z := ⟨_, rfl⟩
  obtain ⟨b, gb⟩ : ∃ z, w.heap.size = z := ⟨_, rfl⟩
  rw [gw0] at HX0 HK0 HC0 ⊢
  rw [gb] at HX0 Hgb ⊢
  have Gb := Lib.hid gb
  clear gw0 gb
  go_wp2_with fail
  refine (HF1L.out _ HC0.out).mono ?_
  rintro e w2 ⟨rfl, hcu⟩
  have HX2 := Lib.hid (hcu.2.whole HX0.out (fun e => by have h1 : b = g := e; have := Hgb.out; omega))
  have HK2 := Lib.hid (HK0.out.trans hcu.2)
  have HC2 := Lib.hid hcu.1
  clear hcu HX0 HK0 HC0 HF1L
  rename_i hK
  refine hK _ _ ?_
  refine wl_read (v := .agg (opCells (kO kI (0, 0))).toArray) (some 13) rfl (by rfl) ?_ ?_
  · go_simp; rfl
  simp only [Act.put, stA_, st0_, st1_]
  refine wl_new 3 rfl rfl rfl 53 (.tmp 13) rfl rfl #[.int .i64 0, .int .i64 0, .int .i64 0, .int .i64 0, .int .i64 0, .int .i64 0, .int .i64 0, .int .i64 0, .int .i64 0, .int .i64 0, .int .i64 0, .int .i64 0, .int .i64 0, .int .i64 0, .int .i64 0, .int .i64 0, .int .i64 0, .bool false, .string ⟨#[]⟩, .int .i64 0] ?_ (opCells (kO kI (0, 0))).toArray (by simp) rfl (by kernel_rfl) rfl (opCells_arr _) ?_
  · go_simp; (try with_reducible rfl)
  simp only [Act.put, stA_, st0_, st1_]
  have HY3 : RowKit.Hid (Whole (w2.alloc (.cells (opCells (kO kI (0, 0))).toArray 53)) w2.heap.size 53 (opCells (kO kI (0, 0)))) := Lib.hid (Whole.new_ _ _ _)
  have Hgb5 : RowKit.Hid (g < w2.heap.size ∧ b < w2.heap.size) := Lib.hid ⟨HC2.out.lt, HX2.out.lt⟩
  have HX3 := Lib.hid (HX2.out.al (.cells (opCells (kO kI (0, 0))).toArray 53))
  have HK3 := Lib.hid (HK2.out.alloc (.cells (opCells (kO kI (0, 0))).toArray 53))
  have HC3 := Lib.hid (HC2.out.al (.cells (opCells (kO kI (0, 0))).toArray 53))
  obtain ⟨w3, gw3⟩ : ∃ z, w2.alloc (.cells (opCells (kO kI (0, 0))).toArray 53) = z := ⟨_, rfl⟩
  obtain ⟨b5, gb5⟩ : ∃ z, w2.heap.size = z := ⟨_, rfl⟩
  rw [gw3] at HY3 HX3 HK3 HC3 ⊢
  rw [gb5] at HY3 Hgb5 ⊢
  clear gw3 gb5 HX2 HK2 HC2 hK
  have hb5 : RowKit.Hid (w.heap.size ≤ b5) := Lib.hid (by have := Gb.out; have := Hgb5.out.2; omega)
  go_wp2_with fail
  refine (HFI.out _ _ _ HC3.out).mono ?_
  rintro e w4 ⟨x1, x2, M, rfl, hcu, hok⟩
  have HX4 := Lib.hid (hcu.2.whole HX3.out (fun e => by have h1 : b = g := e; have := Hgb.out; omega))
  have HY4 := Lib.hid (hcu.2.whole HY3.out (fun e => by have h1 : b5 = g := e; have := Hgb5.out; omega))
  have HK4 := Lib.hid (HK3.out.trans hcu.2)
  have HC4 := Lib.hid hcu.1
  have HOk := Lib.hid hok
  clear hok
  clear hcu HX3 HY3 HK3 HC3
  rename_i hK
  refine hK _ _ ?_
  refine wl_read (v := ?_) (some 16) rfl (by rfl) ?_ ?_
  rotate_left
  · go_simp; (try with_reducible rfl)
  simp only [Act.put, stA_, st0_, st1_]
  refine wl_store rfl (by rfl) (store_mid_run 47 (.tmp 16) (.tmp 15) rfl b5 1 rfl [.int .i64 x1, .int .i64 x2] rfl (HY4.out.there_ 1 2 (by show 3 ≤ 20; decide)) (by kernel_rfl) (by simp [Value.oneCell'])) ?_
  have HY5 := Lib.hid (HY4.out.cells_ [.int .i64 x1, .int .i64 x2] 1 w4 _ (by show 3 ≤ 20; decide))
  have HX5 := Lib.hid (HX4.out.cells_far (show b ≠ b5 by have := Hgb5.out.2; omega) 1 [.int .i64 x1, .int .i64 x2])
  have HC5 := Lib.hid (HC4.out.cells Hgb5.out.1 1 [.int .i64 x1, .int .i64 x2])
  have HK5 := Lib.hid (kept_in HK4.out hb5.out (kept_setCells (S := fun i => i = b5) rfl 1 [.int .i64 x1, .int .i64 x2]))
  obtain ⟨w5, gw5⟩ : ∃ z, w4.setCells b5 1 [.int .i64 x1, .int .i64 x2] = z := ⟨_, rfl⟩
  rw [gw5] at HY5 HX5 HC5 HK5 ⊢
  clear gw5 HX4 HY4 HK4 HC4
  replace HY5 : RowKit.Hid (Whole w5 b5 53 (opCells (kO kI (x1, x2)))) := HY5
  clear hK
  have HAt := Lib.hid (okO_at (fun q => (HOk.out q).2) bad)
  have HVal := Lib.hid (fun (R : List Nat) (o : OpT) ho q => okO_val (R := R) (o := o) HOk.out ho q)
  obtain ⟨B2, gB2⟩ : ∃ z, ((bad || !decide (1 ≤ L.length)) || !idT (L.drop 1)) = z := ⟨_, rfl⟩
  rw [gB2] at HC5 HAt
  clear gB2
  have l0 : w5.cell? ⟨b5, 0, none⟩ = some (.int .i64 kI) := HY5.out.cell (i := 0) rfl
  go_wp2_with fail
  refine (HFI.out _ _ _ HC5.out).mono ?_
  rintro e w6 ⟨y1, y2, Ra, rfl, hcu, hok⟩
  have HX6 := Lib.hid (hcu.2.whole HX5.out (fun e => by have h1 : b = g := e; have := Hgb.out; omega))
  have HY6 := Lib.hid (hcu.2.whole HY5.out (fun e => by have h1 : b5 = g := e; have := Hgb5.out; omega))
  have HK6 := Lib.hid (HK5.out.trans hcu.2)
  have HC6 := Lib.hid hcu.1
  have HOa := Lib.hid hok
  clear hok
  clear hcu HX5 HY5 HK5 HC5
  rename_i hK
  refine hK _ _ ?_
  refine wl_read (v := ?_) (some 42) rfl (by rfl) ?_ ?_
  rotate_left
  · go_simp; (try with_reducible rfl)
  simp only [Act.put, stA_, st0_, st1_]
  refine wl_store rfl (by rfl) (store_mid_run 47 (.tmp 42) (.tmp 41) rfl b5 5 rfl [.int .i64 y1, .int .i64 y2] rfl (HY6.out.there_ 5 2 (by show 7 ≤ 20; decide)) (by kernel_rfl) (by simp [Value.oneCell'])) ?_
  have HY7 := Lib.hid (HY6.out.cells_ [.int .i64 y1, .int .i64 y2] 5 w6 _ (by show 7 ≤ 20; decide))
  have HX7 := Lib.hid (HX6.out.cells_far (show b ≠ b5 by have := Hgb5.out.2; omega) 5 [.int .i64 y1, .int .i64 y2])
  have HC7 := Lib.hid (HC6.out.cells Hgb5.out.1 5 [.int .i64 y1, .int .i64 y2])
  have HK7 := Lib.hid (kept_in HK6.out hb5.out (kept_setCells (S := fun i => i = b5) rfl 5 [.int .i64 y1, .int .i64 y2]))
  obtain ⟨w7, gw7⟩ : ∃ z, w6.setCells b5 5 [.int .i64 y1, .int .i64 y2] = z := ⟨_, rfl⟩
  rw [gw7] at HY7 HX7 HC7 HK7 ⊢
  clear gw7 HX6 HY6 HK6 HC6
  clear hK l0
  have l0 : w7.cell? ⟨b5, 0, none⟩ = some (.int .i64 kI) := HY7.out.cell (i := 0) rfl
  go_upto_region 28 with fail
  have Hbd : RowKit.Hid ((bad || !okO L) = (B2 || !idT M)) := Lib.hid (by rw [HAt.out]; exact by rw [Hk.out]; rfl)
  have HV : RowKit.Hid (okO L = true → (⟨kI, x1, x2, 0, 0, y1, y2, 0, 0, 0, 0, 0, 0, 0, 0, 0, 0, false, ⟨#[]⟩, 0⟩ : OpT) = opV L ∧ Ra = opL L) := Lib.hid (HVal.out _ _ (fun q => by
    rw [Hk.out] at q ⊢
    obtain ⟨j3, j4⟩ := HOa.out q
    have j5 : y1 = (vI M).1 := congrArg Prod.fst j3
    have j6 : y2 = (vI M).2 := congrArg Prod.snd j3
    rw [show kI = 6 by have := GkI.out; have := Hk.out; omega, j5, j6, j4]
    exact ⟨rfl, rfl⟩))
  replace HY7 : RowKit.Hid (Whole w7 b5 53 (opCells (⟨kI, x1, x2, 0, 0, y1, y2, 0, 0, 0, 0, 0, 0, 0, 0, 0, 0, false, ⟨#[]⟩, 0⟩ : OpT))) := HY7
  obtain ⟨o9, go9⟩ : ∃ z, (⟨kI, x1, x2, 0, 0, y1, y2, 0, 0, 0, 0, 0, 0, 0, 0, 0, 0, false, ⟨#[]⟩, 0⟩ : OpT) = z := ⟨_, rfl⟩
  rw [go9] at HV HY7
  clear go9
  refine wp_region_lit ?_
  refine wl_load (some 120) rfl (by rfl) 53 (.tmp 3) rfl b5 rfl 53 (opCells o9) _ HY7.out Try.underlying53 rfl (by kernel_rfl) ?_
  simp only [Act.put, stA_, st0_, st1_]
  refine wpList_store_row rfl 53 (.tmp 2) (.tmp 120) rfl b (opCells o9).toArray rfl rfl 53 (opCells zeroO).toArray HX7.out (by kernel_rfl) rfl (opCells_arr _) ?_
  have HXz : RowKit.Hid (Whole (w7.setRow b (opCells o9).toArray) b 53 (opCells o9)) := Lib.hid (Whole.row HX7.out (opCells o9))
  have HCz := Lib.hid (HC7.out.row Hgb.out.1 (opCells o9).toArray)
  have HKz := Lib.hid (kept_in HK7.out (Nat.le_of_eq Gb.out) (kept_row (S := fun i => i = b) rfl (opCells o9).toArray))
  go_wp2
  exact ret_whole rfl b rfl HXz.out Try.underlying53 rfl (by kernel_rfl) rfl ⟨o9, Ra, rfl, ⟨by rw [Hbd.out]; exact HCz.out, HKz.out⟩, HV.out⟩
set_option maxRecDepth 100000 in
set_option maxHeartbeats 4000000 in
theorem rrop_0 (lo g : Nat) (L : List Nat) (bad : Bool) (w : World) (h : RrAt lo w g L bad) (k3 : c1 L ≠ 3) (k5 : c1 L ≠ 5) (k6 : c1 L ≠ 6) (k7 : c1 L ≠ 7) (k8 : c1 L ≠ 8) :
    Calls Try.prog 61 #[.pointer (some ⟨g, 0, none⟩)] w fun e w' => ∃ (o : OpT) (R : List Nat), e = .returned (.agg (opCells o).toArray) ∧ Rr1 lo w w' g R (bad || !okO L) ∧ (okO L = true → o = opV L ∧ R = opL L) := by
  have HF1 := Lib.hid (fun R bad W h => rone_any lo g R bad W h)
  have HFI := Lib.hid (fun R bad W h => rrid_any lo g R bad W h)
  have HFC := Lib.hid (fun R bad W h => rrcorner_any lo g R bad W h)
  have HX0 : RowKit.Hid (Whole (w.alloc (.cells #[.int .i64 0, .int .i64 0, .int .i64 0, .int .i64 0, .int .i64 0, .int .i64 0, .int .i64 0, .int .i64 0, .int .i64 0, .int .i64 0, .int .i64 0, .int .i64 0, .int .i64 0, .int .i64 0, .int .i64 0, .int .i64 0, .int .i64 0, .bool false, .string ⟨#[]⟩, .int .i64 0] 53)) w.heap.size 53 (opCells zeroO)) := Lib.hid (Whole.new_ _ _ (opCells zeroO))
  have HC0 := Lib.hid (h.al (.cells #[.int .i64 0, .int .i64 0, .int .i64 0, .int .i64 0, .int .i64 0, .int .i64 0, .int .i64 0, .int .i64 0, .int .i64 0, .int .i64 0, .int .i64 0, .int .i64 0, .int .i64 0, .int .i64 0, .int .i64 0, .int .i64 0, .int .i64 0, .bool false, .string ⟨#[]⟩, .int .i64 0] 53))
  have HK0 : RowKit.Hid (Kept (At1 g) w (w.alloc (.cells #[.int .i64 0, .int .i64 0, .int .i64 0, .int .i64 0, .int .i64 0, .int .i64 0, .int .i64 0, .int .i64 0, .int .i64 0, .int .i64 0, .int .i64 0, .int .i64 0, .int .i64 0, .int .i64 0, .int .i64 0, .int .i64 0, .int .i64 0, .bool false, .string ⟨#[]⟩, .int .i64 0] 53))) := Lib.hid (Kept.of_below (below1 w _))
  have Hgb : RowKit.Hid (g < w.heap.size ∧ lo ≤ g) := Lib.hid ⟨h.lt, h.ge⟩
  obtain ⟨kI, gkI⟩ : ∃ z : Int, (c1 L : Int) = z := ⟨_, rfl⟩
  have GkI := Lib.hid gkI
  have Hk := Lib.hid (And.intro k3 (And.intro k5 (And.intro k6 (And.intro k7 k8))))
  have q3 : (kI == 3) = false := by rw [← gkI]; simp; omega
  have q5 : (kI == 5) = false := by rw [← gkI]; simp; omega
  have q6 : (kI == 6) = false := by rw [← gkI]; simp; omega
  have q7 : (kI == 7) = false := by rw [← gkI]; simp; omega
  have q8 : (kI == 8) = false := by rw [← gkI]; simp; omega
  have HF1L : RowKit.Hid (∀ W, RrAt lo W g L bad → Calls Try.prog 60 #[.pointer (some ⟨g, 0, none⟩)] W fun e w' => e = .returned (.int .i64 kI) ∧ Rr1 lo W w' g (L.drop 1) (bad || !decide (1 ≤ L.length))) := Lib.hid (fun W h => gkI ▸ rone_any lo g L bad W h)
  clear h gkI k3 k5 k6 k7 k8
  go_enter Try.func61, Try.ntmps61
  go_upto_region 1 with fail
  obtain ⟨w0, gw0⟩ : ∃ z, w.alloc (.cells #[.int .i64 0, .int .i64 0, .int .i64 0, .int .i64 0, .int .i64 0, .int .i64 0, .int .i64 0, .int .i64 0, .int .i64 0, .int .i64 0, .int .i64 0, .int .i64 0, .int .i64 0, .int .i64 0, .int .i64 0, .int .i64 0, .int .i64 0, .bool false, .string ⟨#[]⟩, .int .i64 0] 53) = z := ⟨_, rfl⟩
  obtain ⟨b, gb⟩ : ∃ z, w.heap.size = z := ⟨_, rfl⟩
  rw [gw0] at HX0 HK0 HC0 ⊢
  rw [gb] at HX0 Hgb ⊢
  have Gb := Lib.hid gb
  clear gw0 gb
  go_wp2_with fail
  refine (HF1L.out _ HC0.out).mono ?_
  rintro e w2 ⟨rfl, hcu⟩
  have HX2 := Lib.hid (hcu.2.whole HX0.out (fun e => by have h1 : b = g := e; have := Hgb.out; omega))
  have HK2 := Lib.hid (HK0.out.trans hcu.2)
  have HC2 := Lib.hid hcu.1
  clear hcu HX0 HK0 HC0 HF1L
  rename_i hK
  refine hK _ _ ?_
  refine wl_read (v := .agg (opCells (kO kI (0, 0))).toArray) (some 13) rfl (by rfl) ?_ ?_
  · go_simp; rfl
  simp only [Act.put, stA_, st0_, st1_]
  refine wl_new 3 rfl rfl rfl 53 (.tmp 13) rfl rfl #[.int .i64 0, .int .i64 0, .int .i64 0, .int .i64 0, .int .i64 0, .int .i64 0, .int .i64 0, .int .i64 0, .int .i64 0, .int .i64 0, .int .i64 0, .int .i64 0, .int .i64 0, .int .i64 0, .int .i64 0, .int .i64 0, .int .i64 0, .bool false, .string ⟨#[]⟩, .int .i64 0] ?_ (opCells (kO kI (0, 0))).toArray (by simp) rfl (by kernel_rfl) rfl (opCells_arr _) ?_
  · go_simp; (try with_reducible rfl)
  simp only [Act.put, stA_, st0_, st1_]
  have HY3 : RowKit.Hid (Whole (w2.alloc (.cells (opCells (kO kI (0, 0))).toArray 53)) w2.heap.size 53 (opCells (kO kI (0, 0)))) := Lib.hid (Whole.new_ _ _ _)
  have Hgb5 : RowKit.Hid (g < w2.heap.size ∧ b < w2.heap.size) := Lib.hid ⟨HC2.out.lt, HX2.out.lt⟩
  have HX3 := Lib.hid (HX2.out.al (.cells (opCells (kO kI (0, 0))).toArray 53))
  have HK3 := Lib.hid (HK2.out.alloc (.cells (opCells (kO kI (0, 0))).toArray 53))
  have HC3 := Lib.hid (HC2.out.al (.cells (opCells (kO kI (0, 0))).toArray 53))
  obtain ⟨w3, gw3⟩ : ∃ z, w2.alloc (.cells (opCells (kO kI (0, 0))).toArray 53) = z := ⟨_, rfl⟩
  obtain ⟨b5, gb5⟩ : ∃ z, w2.heap.size = z := ⟨_, rfl⟩
  rw [gw3] at HY3 HX3 HK3 HC3 ⊢
  rw [gb5] at HY3 Hgb5 ⊢
  clear gw3 gb5 HX2 HK2 HC2 hK
  have hb5 : RowKit.Hid (w.heap.size ≤ b5) := Lib.hid (by have := Gb.out; have := Hgb5.out.2; omega)
  go_wp2_with fail
  refine (HFI.out _ _ _ HC3.out).mono ?_
  rintro e w4 ⟨x1, x2, M, rfl, hcu, hok⟩
  have HX4 := Lib.hid (hcu.2.whole HX3.out (fun e => by have h1 : b = g := e; have := Hgb.out; omega))
  have HY4 := Lib.hid (hcu.2.whole HY3.out (fun e => by have h1 : b5 = g := e; have := Hgb5.out; omega))
  have HK4 := Lib.hid (HK3.out.trans hcu.2)
  have HC4 := Lib.hid hcu.1
  have HOk := Lib.hid hok
  clear hok
  clear hcu HX3 HY3 HK3 HC3
  rename_i hK
  refine hK _ _ ?_
  refine wl_read (v := ?_) (some 16) rfl (by rfl) ?_ ?_
  rotate_left
  · go_simp; (try with_reducible rfl)
  simp only [Act.put, stA_, st0_, st1_]
  refine wl_store rfl (by rfl) (store_mid_run 47 (.tmp 16) (.tmp 15) rfl b5 1 rfl [.int .i64 x1, .int .i64 x2] rfl (HY4.out.there_ 1 2 (by show 3 ≤ 20; decide)) (by kernel_rfl) (by simp [Value.oneCell'])) ?_
  have HY5 := Lib.hid (HY4.out.cells_ [.int .i64 x1, .int .i64 x2] 1 w4 _ (by show 3 ≤ 20; decide))
  have HX5 := Lib.hid (HX4.out.cells_far (show b ≠ b5 by have := Hgb5.out.2; omega) 1 [.int .i64 x1, .int .i64 x2])
  have HC5 := Lib.hid (HC4.out.cells Hgb5.out.1 1 [.int .i64 x1, .int .i64 x2])
  have HK5 := Lib.hid (kept_in HK4.out hb5.out (kept_setCells (S := fun i => i = b5) rfl 1 [.int .i64 x1, .int .i64 x2]))
  obtain ⟨w5, gw5⟩ : ∃ z, w4.setCells b5 1 [.int .i64 x1, .int .i64 x2] = z := ⟨_, rfl⟩
  rw [gw5] at HY5 HX5 HC5 HK5 ⊢
  clear gw5 HX4 HY4 HK4 HC4
  replace HY5 : RowKit.Hid (Whole w5 b5 53 (opCells (kO kI (x1, x2)))) := HY5
  clear hK
  have HAt := Lib.hid (okO_at (fun q => (HOk.out q).2) bad)
  have HVal := Lib.hid (fun (R : List Nat) (o : OpT) ho q => okO_val (R := R) (o := o) HOk.out ho q)
  obtain ⟨B2, gB2⟩ : ∃ z, ((bad || !decide (1 ≤ L.length)) || !idT (L.drop 1)) = z := ⟨_, rfl⟩
  rw [gB2] at HC5 HAt
  clear gB2
  have l0 : w5.cell? ⟨b5, 0, none⟩ = some (.int .i64 kI) := HY5.out.cell (i := 0) rfl
  go_upto_region 28 with fail
  have Hbd : RowKit.Hid ((bad || !okO L) = B2) := Lib.hid (by rw [HAt.out]; exact by obtain ⟨k3, k5, k6, k7, k8⟩ := Hk.out; unfold okFd; rw [if_neg k3, if_neg k5, if_neg k6, if_neg k7, if_neg k8]; simp)
  have HV : RowKit.Hid (okO L = true → (kO kI (x1, x2)) = opV L ∧ M = opL L) := Lib.hid (HVal.out _ _ (fun q => by
    obtain ⟨k3, k5, k6, k7, k8⟩ := Hk.out
    unfold fdV fdL
    rw [if_neg k3, if_neg k5, if_neg k6, if_neg k7, if_neg k8, if_neg k3, if_neg k5, if_neg k6, if_neg k7, if_neg k8, GkI.out]
    exact ⟨rfl, rfl⟩))
  replace HY5 : RowKit.Hid (Whole w5 b5 53 (opCells (kO kI (x1, x2)))) := HY5
  obtain ⟨o9, go9⟩ : ∃ z, (kO kI (x1, x2)) = z := ⟨_, rfl⟩
  rw [go9] at HV HY5
  clear go9
  refine wp_region_lit ?_
  refine wl_load (some 120) rfl (by rfl) 53 (.tmp 3) rfl b5 rfl 53 (opCells o9) _ HY5.out Try.underlying53 rfl (by kernel_rfl) ?_
  simp only [Act.put, stA_, st0_, st1_]
  refine wpList_store_row rfl 53 (.tmp 2) (.tmp 120) rfl b (opCells o9).toArray rfl rfl 53 (opCells zeroO).toArray HX5.out (by kernel_rfl) rfl (opCells_arr _) ?_
  have HXz : RowKit.Hid (Whole (w5.setRow b (opCells o9).toArray) b 53 (opCells o9)) := Lib.hid (Whole.row HX5.out (opCells o9))
  have HCz := Lib.hid (HC5.out.row Hgb.out.1 (opCells o9).toArray)
  have HKz := Lib.hid (kept_in HK5.out (Nat.le_of_eq Gb.out) (kept_row (S := fun i => i = b) rfl (opCells o9).toArray))
  go_wp2
  exact ret_whole rfl b rfl HXz.out Try.underlying53 rfl (by kernel_rfl) rfl ⟨o9, M, rfl, ⟨by rw [Hbd.out]; exact HCz.out, HKz.out⟩, HV.out⟩
set_option maxRecDepth 100000 in
set_option maxHeartbeats 4000000 in
theorem rrop_5 (lo g : Nat) (L : List Nat) (bad : Bool) (w : World) (h : RrAt lo w g L bad) (hk : c1 L = 5) :
    Calls Try.prog 61 #[.pointer (some ⟨g, 0, none⟩)] w fun e w' => ∃ (o : OpT) (R : List Nat), e = .returned (.agg (opCells o).toArray) ∧ Rr1 lo w w' g R (bad || !okO L) ∧ (okO L = true → o = opV L ∧ R = opL L) := by
  have HF1 := Lib.hid (fun R bad W h => rone_any lo g R bad W h)
  have HFI := Lib.hid (fun R bad W h => rrid_any lo g R bad W h)
  have HFC := Lib.hid (fun R bad W h => rrcorner_any lo g R bad W h)
  have HX0 : RowKit.Hid (Whole (w.alloc (.cells #[.int .i64 0, .int .i64 0, .int .i64 0, .int .i64 0, .int .i64 0, .int .i64 0, .int .i64 0, .int .i64 0, .int .i64 0, .int .i64 0, .int .i64 0, .int .i64 0, .int .i64 0, .int .i64 0, .int .i64 0, .int .i64 0, .int .i64 0, .bool false, .string ⟨#[]⟩, .int .i64 0] 53)) w.heap.size 53 (opCells zeroO)) := Lib.hid (Whole.new_ _ _ (opCells zeroO))
  have HC0 := Lib.hid (h.al (.cells #[.int .i64 0, .int .i64 0, .int .i64 0, .int .i64 0, .int .i64 0, .int .i64 0, .int .i64 0, .int .i64 0, .int .i64 0, .int .i64 0, .int .i64 0, .int .i64 0, .int .i64 0, .int .i64 0, .int .i64 0, .int .i64 0, .int .i64 0, .bool false, .string ⟨#[]⟩, .int .i64 0] 53))
  have HK0 : RowKit.Hid (Kept (At1 g) w (w.alloc (.cells #[.int .i64 0, .int .i64 0, .int .i64 0, .int .i64 0, .int .i64 0, .int .i64 0, .int .i64 0, .int .i64 0, .int .i64 0, .int .i64 0, .int .i64 0, .int .i64 0, .int .i64 0, .int .i64 0, .int .i64 0, .int .i64 0, .int .i64 0, .bool false, .string ⟨#[]⟩, .int .i64 0] 53))) := Lib.hid (Kept.of_below (below1 w _))
  have Hgb : RowKit.Hid (g < w.heap.size ∧ lo ≤ g) := Lib.hid ⟨h.lt, h.ge⟩
  obtain ⟨kI, gkI⟩ : ∃ z : Int, (c1 L : Int) = z := ⟨_, rfl⟩
  have GkI := Lib.hid gkI
  have Hk := Lib.hid hk
  have q3 : (kI == 3) = false := by rw [← gkI, hk]; rfl
  have q5 : (kI == 5) = true := by rw [← gkI, hk]; rfl
  have q6 : (kI == 6) = false := by rw [← gkI, hk]; rfl
  have q7 : (kI == 7) = false := by rw [← gkI, hk]; rfl
  have q8 : (kI == 8) = false := by rw [← gkI, hk]; rfl
  have HF1L : RowKit.Hid (∀ W, RrAt lo W g L bad → Calls Try.prog 60 #[.pointer (some ⟨g, 0, none⟩)] W fun e w' => e = .returned (.int .i64 kI) ∧ Rr1 lo W w' g (L.drop 1) (bad || !decide (1 ≤ L.length))) := Lib.hid (fun W h => gkI ▸ rone_any lo g L bad W h)
  clear h gkI hk
  go_enter Try.func61, Try.ntmps61
  go_upto_region 1 with fail
  obtain ⟨w0, gw0⟩ : ∃ z, w.alloc (.cells #[.int .i64 0, .int .i64 0, .int .i64 0, .int .i64 0, .int .i64 0, .int .i64 0, .int .i64 0, .int .i64 0, .int .i64 0, .int .i64 0, .int .i64 0, .int .i64 0, .int .i64 0, .int .i64 0, .int .i64 0, .int .i64 0, .int .i64 0, .bool false, .string ⟨#[]⟩, .int .i64 0] 53) = z := ⟨_, rfl⟩
  obtain ⟨b, gb⟩ : ∃ z, w.heap.size = z := ⟨_, rfl⟩
  rw [gw0] at HX0 HK0 HC0 ⊢
  rw [gb] at HX0 Hgb ⊢
  have Gb := Lib.hid gb
  clear gw0 gb
  go_wp2_with fail
  refine (HF1L.out _ HC0.out).mono ?_
  rintro e w2 ⟨rfl, hcu⟩
  have HX2 := Lib.hid (hcu.2.whole HX0.out (fun e => by have h1 : b = g := e; have := Hgb.out; omega))
  have HK2 := Lib.hid (HK0.out.trans hcu.2)
  have HC2 := Lib.hid hcu.1
  clear hcu HX0 HK0 HC0 HF1L
  rename_i hK
  refine hK _ _ ?_
  refine wl_read (v := .agg (opCells (kO kI (0, 0))).toArray) (some 13) rfl (by rfl) ?_ ?_
  · go_simp; rfl
  simp only [Act.put, stA_, st0_, st1_]
  refine wl_new 3 rfl rfl rfl 53 (.tmp 13) rfl rfl #[.int .i64 0, .int .i64 0, .int .i64 0, .int .i64 0, .int .i64 0, .int .i64 0, .int .i64 0, .int .i64 0, .int .i64 0, .int .i64 0, .int .i64 0, .int .i64 0, .int .i64 0, .int .i64 0, .int .i64 0, .int .i64 0, .int .i64 0, .bool false, .string ⟨#[]⟩, .int .i64 0] ?_ (opCells (kO kI (0, 0))).toArray (by simp) rfl (by kernel_rfl) rfl (opCells_arr _) ?_
  · go_simp; (try with_reducible rfl)
  simp only [Act.put, stA_, st0_, st1_]
  have HY3 : RowKit.Hid (Whole (w2.alloc (.cells (opCells (kO kI (0, 0))).toArray 53)) w2.heap.size 53 (opCells (kO kI (0, 0)))) := Lib.hid (Whole.new_ _ _ _)
  have Hgb5 : RowKit.Hid (g < w2.heap.size ∧ b < w2.heap.size) := Lib.hid ⟨HC2.out.lt, HX2.out.lt⟩
  have HX3 := Lib.hid (HX2.out.al (.cells (opCells (kO kI (0, 0))).toArray 53))
  have HK3 := Lib.hid (HK2.out.alloc (.cells (opCells (kO kI (0, 0))).toArray 53))
  have HC3 := Lib.hid (HC2.out.al (.cells (opCells (kO kI (0, 0))).toArray 53))
  obtain ⟨w3, gw3⟩ : ∃ z, w2.alloc (.cells (opCells (kO kI (0, 0))).toArray 53) = z := ⟨_, rfl⟩
  obtain ⟨b5, gb5⟩ : ∃ z, w2.heap.size = z := ⟨_, rfl⟩
  rw [gw3] at HY3 HX3 HK3 HC3 ⊢
  rw [gb5] at HY3 Hgb5 ⊢
  clear gw3 gb5 HX2 HK2 HC2 hK
  have hb5 : RowKit.Hid (w.heap.size ≤ b5) := Lib.hid (by have := Gb.out; have := Hgb5.out.2; omega)
  go_wp2_with fail
  refine (HFI.out _ _ _ HC3.out).mono ?_
  rintro e w4 ⟨x1, x2, M, rfl, hcu, hok⟩
  have HX4 := Lib.hid (hcu.2.whole HX3.out (fun e => by have h1 : b = g := e; have := Hgb.out; omega))
  have HY4 := Lib.hid (hcu.2.whole HY3.out (fun e => by have h1 : b5 = g := e; have := Hgb5.out; omega))
  have HK4 := Lib.hid (HK3.out.trans hcu.2)
  have HC4 := Lib.hid hcu.1
  have HOk := Lib.hid hok
  clear hok
  clear hcu HX3 HY3 HK3 HC3
  rename_i hK
  refine hK _ _ ?_
  refine wl_read (v := ?_) (some 16) rfl (by rfl) ?_ ?_
  rotate_left
  · go_simp; (try with_reducible rfl)
  simp only [Act.put, stA_, st0_, st1_]
  refine wl_store rfl (by rfl) (store_mid_run 47 (.tmp 16) (.tmp 15) rfl b5 1 rfl [.int .i64 x1, .int .i64 x2] rfl (HY4.out.there_ 1 2 (by show 3 ≤ 20; decide)) (by kernel_rfl) (by simp [Value.oneCell'])) ?_
  have HY5 := Lib.hid (HY4.out.cells_ [.int .i64 x1, .int .i64 x2] 1 w4 _ (by show 3 ≤ 20; decide))
  have HX5 := Lib.hid (HX4.out.cells_far (show b ≠ b5 by have := Hgb5.out.2; omega) 1 [.int .i64 x1, .int .i64 x2])
  have HC5 := Lib.hid (HC4.out.cells Hgb5.out.1 1 [.int .i64 x1, .int .i64 x2])
  have HK5 := Lib.hid (kept_in HK4.out hb5.out (kept_setCells (S := fun i => i = b5) rfl 1 [.int .i64 x1, .int .i64 x2]))
  obtain ⟨w5, gw5⟩ : ∃ z, w4.setCells b5 1 [.int .i64 x1, .int .i64 x2] = z := ⟨_, rfl⟩
  rw [gw5] at HY5 HX5 HC5 HK5 ⊢
  clear gw5 HX4 HY4 HK4 HC4
  replace HY5 : RowKit.Hid (Whole w5 b5 53 (opCells (kO kI (x1, x2)))) := HY5
  clear hK
  have HAt := Lib.hid (okO_at (fun q => (HOk.out q).2) bad)
  have HVal := Lib.hid (fun (R : List Nat) (o : OpT) ho q => okO_val (R := R) (o := o) HOk.out ho q)
  obtain ⟨B2, gB2⟩ : ∃ z, ((bad || !decide (1 ≤ L.length)) || !idT (L.drop 1)) = z := ⟨_, rfl⟩
  rw [gB2] at HC5 HAt
  clear gB2
  have l0 : w5.cell? ⟨b5, 0, none⟩ = some (.int .i64 kI) := HY5.out.cell (i := 0) rfl
  go_wp2_with fail
  refine (HFI.out _ _ _ HC5.out).mono ?_
  rintro e w6 ⟨y1, y2, Ra, rfl, hcu, hok⟩
  have HX6 := Lib.hid (hcu.2.whole HX5.out (fun e => by have h1 : b = g := e; have := Hgb.out; omega))
  have HY6 := Lib.hid (hcu.2.whole HY5.out (fun e => by have h1 : b5 = g := e; have := Hgb5.out; omega))
  have HK6 := Lib.hid (HK5.out.trans hcu.2)
  have HC6 := Lib.hid hcu.1
  have HOa := Lib.hid hok
  clear hok
  clear hcu HX5 HY5 HK5 HC5
  rename_i hK
  refine hK _ _ ?_
  refine wl_read (v := ?_) (some 31) rfl (by rfl) ?_ ?_
  rotate_left
  · go_simp; (try with_reducible rfl)
  simp only [Act.put, stA_, st0_, st1_]
  refine wl_store rfl (by rfl) (store_mid_run 47 (.tmp 31) (.tmp 30) rfl b5 3 rfl [.int .i64 y1, .int .i64 y2] rfl (HY6.out.there_ 3 2 (by show 5 ≤ 20; decide)) (by kernel_rfl) (by simp [Value.oneCell'])) ?_
  have HY7 := Lib.hid (HY6.out.cells_ [.int .i64 y1, .int .i64 y2] 3 w6 _ (by show 5 ≤ 20; decide))
  have HX7 := Lib.hid (HX6.out.cells_far (show b ≠ b5 by have := Hgb5.out.2; omega) 3 [.int .i64 y1, .int .i64 y2])
  have HC7 := Lib.hid (HC6.out.cells Hgb5.out.1 3 [.int .i64 y1, .int .i64 y2])
  have HK7 := Lib.hid (kept_in HK6.out hb5.out (kept_setCells (S := fun i => i = b5) rfl 3 [.int .i64 y1, .int .i64 y2]))
  obtain ⟨w7, gw7⟩ : ∃ z, w6.setCells b5 3 [.int .i64 y1, .int .i64 y2] = z := ⟨_, rfl⟩
  rw [gw7] at HY7 HX7 HC7 HK7 ⊢
  clear gw7 HX6 HY6 HK6 HC6
  clear hK l0
  go_wp2_with fail
  refine (HFI.out _ _ _ HC7.out).mono ?_
  rintro e w8 ⟨z1, z2, Rb, rfl, hcu, hok⟩
  have HX8 := Lib.hid (hcu.2.whole HX7.out (fun e => by have h1 : b = g := e; have := Hgb.out; omega))
  have HY8 := Lib.hid (hcu.2.whole HY7.out (fun e => by have h1 : b5 = g := e; have := Hgb5.out; omega))
  have HK8 := Lib.hid (HK7.out.trans hcu.2)
  have HC8 := Lib.hid hcu.1
  have HOb := Lib.hid hok
  clear hok
  clear hcu HX7 HY7 HK7 HC7
  rename_i hK
  refine hK _ _ ?_
  refine wl_read (v := ?_) (some 34) rfl (by rfl) ?_ ?_
  rotate_left
  · go_simp; (try with_reducible rfl)
  simp only [Act.put, stA_, st0_, st1_]
  refine wl_store rfl (by rfl) (store_mid_run 47 (.tmp 34) (.tmp 33) rfl b5 5 rfl [.int .i64 z1, .int .i64 z2] rfl (HY8.out.there_ 5 2 (by show 7 ≤ 20; decide)) (by kernel_rfl) (by simp [Value.oneCell'])) ?_
  have HY9 := Lib.hid (HY8.out.cells_ [.int .i64 z1, .int .i64 z2] 5 w8 _ (by show 7 ≤ 20; decide))
  have HX9 := Lib.hid (HX8.out.cells_far (show b ≠ b5 by have := Hgb5.out.2; omega) 5 [.int .i64 z1, .int .i64 z2])
  have HC9 := Lib.hid (HC8.out.cells Hgb5.out.1 5 [.int .i64 z1, .int .i64 z2])
  have HK9 := Lib.hid (kept_in HK8.out hb5.out (kept_setCells (S := fun i => i = b5) rfl 5 [.int .i64 z1, .int .i64 z2]))
  obtain ⟨w9, gw9⟩ : ∃ z, w8.setCells b5 5 [.int .i64 z1, .int .i64 z2] = z := ⟨_, rfl⟩
  rw [gw9] at HY9 HX9 HC9 HK9 ⊢
  clear gw9 HX8 HY8 HK8 HC8
  clear hK
  go_wp2_with fail
  refine (HF1.out _ _ _ HC9.out).mono ?_
  rintro e w10 ⟨rfl, hcu⟩
  have HX10 := Lib.hid (hcu.2.whole HX9.out (fun e => by have h1 : b = g := e; have := Hgb.out; omega))
  have HY10 := Lib.hid (hcu.2.whole HY9.out (fun e => by have h1 : b5 = g := e; have := Hgb5.out; omega))
  have HK10 := Lib.hid (HK9.out.trans hcu.2)
  have HC10 := Lib.hid hcu.1
  clear hcu HX9 HY9 HK9 HC9
  obtain ⟨nI, gnI⟩ : ∃ z : Int, (c1 Rb : Int) = z := ⟨_, rfl⟩
  rw [gnI]
  have GnI := Lib.hid gnI
  clear gnI
  have m1 := HY10.out.cell (i := 19) (v := .int .i64 0) rfl
  have e1 := HY10.out.free 19
  go_upto_region 18 with fail
  clear m1 e1
  have HY11 := Lib.hid (HY10.out.set_ 19 (.int .i64 nI))
  have HX11 := Lib.hid (HX10.out.far (p := ⟨b5, 19, none⟩) (show b ≠ b5 by have := Hgb5.out.2; omega) (.int .i64 nI))
  have HC11 := Lib.hid (HC10.out.poke (i := 19) Hgb5.out.1 (.int .i64 nI))
  have HK11 := Lib.hid (kept_poke (i := 19) HK10.out hb5.out (.int .i64 nI))
  obtain ⟨w11, gw11⟩ : ∃ z, w10.setCell ⟨b5, 19, none⟩ (.int .i64 nI) = z := ⟨_, rfl⟩
  rw [gw11] at HY11 HX11 HC11 HK11 ⊢
  clear gw11 HX10 HY10 HK10 HC10
  have l0 : w11.cell? ⟨b5, 0, none⟩ = some (.int .i64 kI) := HY11.out.cell (i := 0) rfl
  go_upto_region 28 with fail
  have Hbd : RowKit.Hid ((bad || !okO L) = (((B2 || !idT M) || !idT Ra) || !decide (1 ≤ Rb.length))) := Lib.hid (by rw [HAt.out]; exact by rw [Hk.out]; exact fd5_at (fun q => (HOa.out q).2) (fun q => (HOb.out q).2) B2)
  have HV : RowKit.Hid (okO L = true → (⟨kI, x1, x2, y1, y2, z1, z2, 0, 0, 0, 0, 0, 0, 0, 0, 0, 0, false, ⟨#[]⟩, nI⟩ : OpT) = opV L ∧ Rb.drop 1 = opL L) := Lib.hid (HVal.out _ _ (fun q => by
    rw [Hk.out] at q ⊢
    have q2 := q
    simp only [show okFd 5 M = (idT M && (idT (M.drop 4) && decide (1 ≤ ((M.drop 4).drop 4).length))) from rfl, Bool.and_eq_true] at q2
    obtain ⟨j1, j2, -⟩ := q2
    obtain ⟨j3, j4⟩ := HOa.out j1
    rw [← (idT_vI j1).2] at j2
    rw [j4] at HOb
    obtain ⟨j5, j6⟩ := HOb.out j2
    have j7 : y1 = (vI M).1 := congrArg Prod.fst j3
    have j8 : y2 = (vI M).2 := congrArg Prod.snd j3
    have j9 : z1 = (vI (lI M)).1 := congrArg Prod.fst j5
    have j10 : z2 = (vI (lI M)).2 := congrArg Prod.snd j5
    rw [show kI = 5 by have := GkI.out; have := Hk.out; omega, j7, j8, j9, j10, ← GnI.out, j6]
    exact ⟨rfl, rfl⟩))
  replace HY11 : RowKit.Hid (Whole w11 b5 53 (opCells (⟨kI, x1, x2, y1, y2, z1, z2, 0, 0, 0, 0, 0, 0, 0, 0, 0, 0, false, ⟨#[]⟩, nI⟩ : OpT))) := HY11
  obtain ⟨o9, go9⟩ : ∃ z, (⟨kI, x1, x2, y1, y2, z1, z2, 0, 0, 0, 0, 0, 0, 0, 0, 0, 0, false, ⟨#[]⟩, nI⟩ : OpT) = z := ⟨_, rfl⟩
  rw [go9] at HV HY11
  clear go9
  refine wp_region_lit ?_
  refine wl_load (some 120) rfl (by rfl) 53 (.tmp 3) rfl b5 rfl 53 (opCells o9) _ HY11.out Try.underlying53 rfl (by kernel_rfl) ?_
  simp only [Act.put, stA_, st0_, st1_]
  refine wpList_store_row rfl 53 (.tmp 2) (.tmp 120) rfl b (opCells o9).toArray rfl rfl 53 (opCells zeroO).toArray HX11.out (by kernel_rfl) rfl (opCells_arr _) ?_
  have HXz : RowKit.Hid (Whole (w11.setRow b (opCells o9).toArray) b 53 (opCells o9)) := Lib.hid (Whole.row HX11.out (opCells o9))
  have HCz := Lib.hid (HC11.out.row Hgb.out.1 (opCells o9).toArray)
  have HKz := Lib.hid (kept_in HK11.out (Nat.le_of_eq Gb.out) (kept_row (S := fun i => i = b) rfl (opCells o9).toArray))
  go_wp2
  exact ret_whole rfl b rfl HXz.out Try.underlying53 rfl (by kernel_rfl) rfl ⟨o9, Rb.drop 1, rfl, ⟨by rw [Hbd.out]; exact HCz.out, HKz.out⟩, HV.out⟩
end Go.Proofs.Ytinfbaflkjghhaa
/- The document's reader: op of kind 7. -/
namespace Go.Proofs.Ytinfbaflkjghhaa
open Go.RowKit
set_option maxRecDepth 100000 in
set_option maxHeartbeats 4000000 in
theorem rrop_7 (lo g : Nat) (L : List Nat) (bad : Bool) (w : World) (h : RrAt lo w g L bad) (hk : c1 L = 7) :
    Calls Try.prog 61 #[.pointer (some ⟨g, 0, none⟩)] w fun e w' => ∃ (o : OpT) (R : List Nat), e = .returned (.agg (opCells o).toArray) ∧ Rr1 lo w w' g R (bad || !okO L) ∧ (okO L = true → o = opV L ∧ R = opL L) := by
  have HF1 := Lib.hid (fun R bad W h => rone_any lo g R bad W h)
  have HFI := Lib.hid (fun R bad W h => rrid_any lo g R bad W h)
  have HFC := Lib.hid (fun R bad W h => rrcorner_any lo g R bad W h)
  have HX0 : RowKit.Hid (Whole (w.alloc (.cells #[.int .i64 0, .int .i64 0, .int .i64 0, .int .i64 0, .int .i64 0, .int .i64 0, .int .i64 0, .int .i64 0, .int .i64 0, .int .i64 0, .int .i64 0, .int .i64 0, .int .i64 0, .int .i64 0, .int .i64 0, .int .i64 0, .int .i64 0, .bool false, .string ⟨#[]⟩, .int .i64 0] 53)) w.heap.size 53 (opCells zeroO)) := Lib.hid (Whole.new_ _ _ (opCells zeroO))
  have HC0 := Lib.hid (h.al (.cells #[.int .i64 0, .int .i64 0, .int .i64 0, .int .i64 0, .int .i64 0, .int .i64 0, .int .i64 0, .int .i64 0, .int .i64 0, .int .i64 0, .int .i64 0, .int .i64 0, .int .i64 0, .int .i64 0, .int .i64 0, .int .i64 0, .int .i64 0, .bool false, .string ⟨#[]⟩, .int .i64 0] 53))
  have HK0 : RowKit.Hid (Kept (At1 g) w (w.alloc (.cells #[.int .i64 0, .int .i64 0, .int .i64 0, .int .i64 0, .int .i64 0, .int .i64 0, .int .i64 0, .int .i64 0, .int .i64 0, .int .i64 0, .int .i64 0, .int .i64 0, .int .i64 0, .int .i64 0, .int .i64 0, .int .i64 0, .int .i64 0, .bool false, .string ⟨#[]⟩, .int .i64 0] 53))) := Lib.hid (Kept.of_below (below1 w _))
  have Hgb : RowKit.Hid (g < w.heap.size ∧ lo ≤ g) := Lib.hid ⟨h.lt, h.ge⟩
  obtain ⟨kI, gkI⟩ : ∃ z : Int, (c1 L : Int) = z := ⟨_, rfl⟩
  have GkI := Lib.hid gkI
  have Hk := Lib.hid hk
  have q3 : (kI == 3) = false := by rw [← gkI, hk]; rfl
  have q5 : (kI == 5) = false := by rw [← gkI, hk]; rfl
  have q6 : (kI == 6) = false := by rw [← gkI, hk]; rfl
  have q7 : (kI == 7) = true := by rw [← gkI, hk]; rfl
  have q8 : (kI == 8) = false := by rw [← gkI, hk]; rfl
  have HF1L : RowKit.Hid (∀ W, RrAt lo W g L bad → Calls Try.prog 60 #[.pointer (some ⟨g, 0, none⟩)] W fun e w' => e = .returned (.int .i64 kI) ∧ Rr1 lo W w' g (L.drop 1) (bad || !decide (1 ≤ L.length))) := Lib.hid (fun W h => gkI ▸ rone_any lo g L bad W h)
  clear h gkI hk
  go_enter Try.func61, Try.ntmps61
  go_upto_region 1 with fail
  obtain ⟨w0, gw0⟩ : ∃ z, w.alloc (.cells #[.int .i64 0, .int .i64 0, .int .i64 0, .int .i64 0, .int .i64 0, .int .i64 0, .int .i64 0, .int .i64 0, .int .i64 0, .int .i64 0, .int .i64 0, .int .i64 0, .int .i64 0, .int .i64 0, .int .i64 0, .int .i64 0, .int .i64 0, .bool false, .string ⟨#[]⟩, .int .i64 0] 53) = z := ⟨_, rfl⟩
  obtain ⟨b, gb⟩ : ∃ z, w.heap.size = z := ⟨_, rfl⟩
  rw [gw0] at HX0 HK0 HC0 ⊢
  rw [gb] at HX0 Hgb ⊢
  have Gb := Lib.hid gb
  clear gw0 gb
  go_wp2_with fail
  refine (HF1L.out _ HC0.out).mono ?_
  rintro e w2 ⟨rfl, hcu⟩
  have HX2 := Lib.hid (hcu.2.whole HX0.out (fun e => by have h1 : b = g := e; have := Hgb.out; omega))
  have HK2 := Lib.hid (HK0.out.trans hcu.2)
  have HC2 := Lib.hid hcu.1
  clear hcu HX0 HK0 HC0 HF1L
  rename_i hK
  refine hK _ _ ?_
  refine wl_read (v := .agg (opCells (kO kI (0, 0))).toArray) (some 13) rfl (by rfl) ?_ ?_
  · go_simp; rfl
  simp only [Act.put, stA_, st0_, st1_]
  refine wl_new 3 rfl rfl rfl 53 (.tmp 13) rfl rfl #[.int .i64 0, .int .i64 0, .int .i64 0, .int .i64 0, .int .i64 0, .int .i64 0, .int .i64 0, .int .i64 0, .int .i64 0, .int .i64 0, .int .i64 0, .int .i64 0, .int .i64 0, .int .i64 0, .int .i64 0, .int .i64 0, .int .i64 0, .bool false, .string ⟨#[]⟩, .int .i64 0] ?_ (opCells (kO kI (0, 0))).toArray (by simp) rfl (by kernel_rfl) rfl (opCells_arr _) ?_
  · go_simp; (try with_reducible rfl)
  simp only [Act.put, stA_, st0_, st1_]
  have HY3 : RowKit.Hid (Whole (w2.alloc (.cells (opCells (kO kI (0, 0))).toArray 53)) w2.heap.size 53 (opCells (kO kI (0, 0)))) := Lib.hid (Whole.new_ _ _ _)
  have Hgb5 : RowKit.Hid (g < w2.heap.size ∧ b < w2.heap.size) := Lib.hid ⟨HC2.out.lt, HX2.out.lt⟩
  have HX3 := Lib.hid (HX2.out.al (.cells (opCells (kO kI (0, 0))).toArray 53))
  have HK3 := Lib.hid (HK2.out.alloc (.cells (opCells (kO kI (0, 0))).toArray 53))
  have HC3 := Lib.hid (HC2.out.al (.cells (opCells (kO kI (0, 0))).toArray 53))
  obtain ⟨w3, gw3⟩ : ∃ z, w2.alloc (.cells (opCells (kO kI (0, 0))).toArray 53) = z := ⟨_, rfl⟩
  obtain ⟨b5, gb5⟩ : ∃ z, w2.heap.size = z := ⟨_, rfl⟩
  rw [gw3] at HY3 HX3 HK3 HC3 ⊢
  rw [gb5] at HY3 Hgb5 ⊢
  clear gw3 gb5 HX2 HK2 HC2 hK
  have hb5 : RowKit.Hid (w.heap.size ≤ b5) := Lib.hid (by have := Gb.out; have := Hgb5.out.2; omega)
  go_wp2_with fail
  refine (HFI.out _ _ _ HC3.out).mono ?_
  rintro e w4 ⟨x1, x2, M, rfl, hcu, hok⟩
  have HX4 := Lib.hid (hcu.2.whole HX3.out (fun e => by have h1 : b = g := e; have := Hgb.out; omega))
  have HY4 := Lib.hid (hcu.2.whole HY3.out (fun e => by have h1 : b5 = g := e; have := Hgb5.out; omega))
  have HK4 := Lib.hid (HK3.out.trans hcu.2)
  have HC4 := Lib.hid hcu.1
  have HOk := Lib.hid hok
  clear hok
  clear hcu HX3 HY3 HK3 HC3
  rename_i hK
  refine hK _ _ ?_
  refine wl_read (v := ?_) (some 16) rfl (by rfl) ?_ ?_
  rotate_left
  · go_simp; (try with_reducible rfl)
  simp only [Act.put, stA_, st0_, st1_]
  refine wl_store rfl (by rfl) (store_mid_run 47 (.tmp 16) (.tmp 15) rfl b5 1 rfl [.int .i64 x1, .int .i64 x2] rfl (HY4.out.there_ 1 2 (by show 3 ≤ 20; decide)) (by kernel_rfl) (by simp [Value.oneCell'])) ?_
  have HY5 := Lib.hid (HY4.out.cells_ [.int .i64 x1, .int .i64 x2] 1 w4 _ (by show 3 ≤ 20; decide))
  have HX5 := Lib.hid (HX4.out.cells_far (show b ≠ b5 by have := Hgb5.out.2; omega) 1 [.int .i64 x1, .int .i64 x2])
  have HC5 := Lib.hid (HC4.out.cells Hgb5.out.1 1 [.int .i64 x1, .int .i64 x2])
  have HK5 := Lib.hid (kept_in HK4.out hb5.out (kept_setCells (S := fun i => i = b5) rfl 1 [.int .i64 x1, .int .i64 x2]))
  obtain ⟨w5, gw5⟩ : ∃ z, w4.setCells b5 1 [.int .i64 x1, .int .i64 x2] = z := ⟨_, rfl⟩
  rw [gw5] at HY5 HX5 HC5 HK5 ⊢
  clear gw5 HX4 HY4 HK4 HC4
  replace HY5 : RowKit.Hid (Whole w5 b5 53 (opCells (kO kI (x1, x2)))) := HY5
  clear hK
  have HAt := Lib.hid (okO_at (fun q => (HOk.out q).2) bad)
  have HVal := Lib.hid (fun (R : List Nat) (o : OpT) ho q => okO_val (R := R) (o := o) HOk.out ho q)
  obtain ⟨B2, gB2⟩ : ∃ z, ((bad || !decide (1 ≤ L.length)) || !idT (L.drop 1)) = z := ⟨_, rfl⟩
  rw [gB2] at HC5 HAt
  clear gB2
  have l0 : w5.cell? ⟨b5, 0, none⟩ = some (.int .i64 kI) := HY5.out.cell (i := 0) rfl
  go_wp2_with fail
  refine (HF1.out _ _ _ HC5.out).mono ?_
  rintro e w6 ⟨rfl, hcu⟩
  have HX6 := Lib.hid (hcu.2.whole HX5.out (fun e => by have h1 : b = g := e; have := Hgb.out; omega))
  have HY6 := Lib.hid (hcu.2.whole HY5.out (fun e => by have h1 : b5 = g := e; have := Hgb5.out; omega))
  have HK6 := Lib.hid (HK5.out.trans hcu.2)
  have HC6 := Lib.hid hcu.1
  clear hcu HX5 HY5 HK5 HC5
  obtain ⟨fI, gfI⟩ : ∃ z : Int, (c1 M : Int) = z := ⟨_, rfl⟩
  rw [gfI]
  have GfI := Lib.hid gfI
  obtain ⟨fb, hfb⟩ : ∃ z, (fI == 1) = z := ⟨_, rfl⟩
  have Gfb := Lib.hid hfb
  obtain ⟨B3, gB3⟩ : ∃ z, (B2 || !decide (1 ≤ M.length)) = z := ⟨_, rfl⟩
  rw [gB3] at HC6
  have GB3 := Lib.hid gB3
  obtain ⟨M1, gM1⟩ : ∃ z, M.drop 1 = z := ⟨_, rfl⟩
  rw [gM1] at HC6
  have GM1 := Lib.hid gM1
  clear gfI gB3 l0 gM1
  have m1 := HY6.out.cell (i := 17) (v := .bool false) rfl
  have e1 := HY6.out.free 17
  go_upto_region 17 with fail
  clear m1 e1 hfb
  have HY7 := Lib.hid (HY6.out.set_ 17 (.bool fb))
  have HX7 := Lib.hid (HX6.out.far (p := ⟨b5, 17, none⟩) (show b ≠ b5 by have := Hgb5.out.2; omega) (.bool fb))
  have HC7 := Lib.hid (HC6.out.poke (i := 17) Hgb5.out.1 (.bool fb))
  have HK7 := Lib.hid (kept_poke (i := 17) HK6.out hb5.out (.bool fb))
  obtain ⟨w7, gw7⟩ : ∃ z, w6.setCell ⟨b5, 17, none⟩ (.bool fb) = z := ⟨_, rfl⟩
  rw [gw7] at HY7 HX7 HC7 HK7 ⊢
  clear gw7 HX6 HY6 HK6 HC6
  cases B3
  · have m1 := HC7.out.cell1
    have e1 := HC7.out.free 1
    go_upto_region 18 with fail
    clear m1 e1
    have hkg : Kept (At1 g) w7 (w7.setCell ⟨g, 1, none⟩ (.bool (decide (1 < fI)))) := kept_at _ _ _ _
    have HC8 := Lib.hid (HC7.out.setB (decide (1 < fI)))
    have HX8 := Lib.hid (hkg.whole HX7.out (fun e => by have h1 : b = g := e; have := Hgb.out; omega))
    have HY8 := Lib.hid (hkg.whole HY7.out (fun e => by have h1 : b5 = g := e; have := Hgb5.out; omega))
    have HK8 := Lib.hid (HK7.out.trans hkg)
    clear hkg
    obtain ⟨w8, gw8⟩ : ∃ z, w7.setCell ⟨g, 1, none⟩ (.bool (decide (1 < fI))) = z := ⟨_, rfl⟩
    rw [gw8] at HY8 HX8 HC8 HK8 ⊢
    clear gw8 HX7 HY7 HK7 HC7
    obtain ⟨B4, gB4⟩ : ∃ z, decide (1 < fI) = z := ⟨_, rfl⟩
    rw [gB4] at HC8 ⊢
    have GB4 := Lib.hid gB4
    clear gB4
    have l0 : w8.cell? ⟨b5, 0, none⟩ = some (.int .i64 kI) := HY8.out.cell (i := 0) rfl
    obtain ⟨A, n, c, a0, hr, hn, hn9, hlo⟩ := HC8.out.cell0
    have hb9 := HC8.out.bytes
    obtain ⟨tx, gtx⟩ : ∃ z, txT M1 = z := ⟨_, rfl⟩
    obtain ⟨ok, gok⟩ : ∃ z, isT M1 = z := ⟨_, rfl⟩
    have HT : RowKit.Hid (Calls Try.prog 77 #[.slice A n c] w8 fun e w' => ∃ A1 n1 c1, e = .returned (.tuple #[.string tx, .slice A1 n1 c1, .bool ok]) ∧ n1 = (leT M1).length ∧ RdS w' w'.heap.size 1 A1 n1 c1 (rowsV f8 (leT M1)) ∧ Lies A A1 ∧ Below w8.heap.size w8 w') := Lib.hid (by
      rw [← gtx, ← gok]
      subst hn; exact rtaketext_blk A c M1 w8 hr hn9 hb9)
    have Gtx := Lib.hid gtx
    have Gok := Lib.hid gok
    have Hlo := Lib.hid hlo
    have Hn9 := Lib.hid (And.intro hn9 hb9)
    have HnM := Lib.hid hn
    clear hr hn9 hb9 hlo hn gtx gok
    go_upto_region 20 with (first
      | (go_at_call 77
         refine HT.out.mono ?_
         rintro e w9 ⟨A1, n1, c1', rfl, hn1, hr1, hlies, hb⟩
         have HX9 := Lib.hid (HX8.out.bl hb)
         have HY9 := Lib.hid (HY8.out.bl hb)
         have HC9 := Lib.hid (HC8.out.bl hb)
         have HK9 := Lib.hid (HK8.out.trans (Kept.of_below hb))
         have Hr9 := Lib.hid hr1
         have Hn1 := Lib.hid hn1
         have Hl9 := Lib.hid hlies
         have m1 := HY9.out.cell (i := 18) (v := .string ⟨#[]⟩) rfl
         have e1 := HY9.out.free 18
         clear hb hn1 hr1 hlies a0 l0))
    clear HX8 HY8 HC8 HK8 HT
    have hl0 : n1 ≤ n := by have := Hn1.out; have : (leT M1).length ≤ M1.length := (by unfold leT; split <;> simp); have := HnM.out; omega
    have Hlo1 : RowKit.Hid (∀ a, A1 = some a → 0 < n1 → a.block < lo) := Lib.hid (fun a ha h0 => by
      obtain ⟨a0, ha0, he⟩ := Hl9.out a ha
      have := Hlo.out a0 ha0 (by omega)
      omega)
    have Hbr : RowKit.Hid (n1 ≤ 100000 ∧ ∀ b ∈ leT M1, b < 256) := Lib.hid ⟨by have := Hn9.out.1; omega, leT_lt Hn9.out.2⟩
    clear hl0
    go_upto_region 21 with fail
    clear m1 e1
    have Hr10 := Lib.hid (rds_hi (i := 18) Hr9.out Hlo1.out Hgb.out.2 Hgb5.out.1 (.string tx))
    have HY10 := Lib.hid (HY9.out.set_ 18 (.string tx))
    have HX10 := Lib.hid (HX9.out.far (p := ⟨b5, 18, none⟩) (show b ≠ b5 by have := Hgb5.out.2; omega) (.string tx))
    have HC10 := Lib.hid (HC9.out.poke (i := 18) Hgb5.out.1 (.string tx))
    have HK10 := Lib.hid (kept_poke (i := 18) HK9.out hb5.out (.string tx))
    obtain ⟨w10, gw10⟩ : ∃ z, w9.setCell ⟨b5, 18, none⟩ (.string tx) = z := ⟨_, rfl⟩
    rw [gw10] at Hr10 HY10 HX10 HC10 HK10 ⊢
    clear gw10 HX9 HY9 HK9 HC9
    obtain ⟨Ao, no, co, a0, -, -, -, -⟩ := HC10.out.cell0
    have f0 := HC10.out.free 0
    go_upto_region 22 with fail
    clear a0 f0
    have hkg : Kept (At1 g) w10 (w10.setCell ⟨g, 0, none⟩ (.slice A1 n1 c1')) := kept_at _ _ _ _
    have HC11 := Lib.hid (HC10.out.setR Hr10.out Hbr.out.1 Hlo1.out Hbr.out.2)
    have HX11 := Lib.hid (hkg.whole HX10.out (fun e => by have h1 : b = g := e; have := Hgb.out; omega))
    have HY11 := Lib.hid (hkg.whole HY10.out (fun e => by have h1 : b5 = g := e; have := Hgb5.out; omega))
    have HK11 := Lib.hid (HK10.out.trans hkg)
    clear hkg
    obtain ⟨w11, gw11⟩ : ∃ z, w10.setCell ⟨g, 0, none⟩ (.slice A1 n1 c1') = z := ⟨_, rfl⟩
    rw [gw11] at HY11 HX11 HC11 HK11 ⊢
    clear gw11 HX10 HY10 HK10 HC10
    cases B4
    · have m1 := HC11.out.cell1
      have e1 := HC11.out.free 1
      go_upto_region 23 with fail
      clear m1 e1
      have hkg : Kept (At1 g) w11 (w11.setCell ⟨g, 1, none⟩ (.bool (!ok))) := kept_at _ _ _ _
      have HC12 := Lib.hid (HC11.out.setB (!ok))
      have HX12 := Lib.hid (hkg.whole HX11.out (fun e => by have h1 : b = g := e; have := Hgb.out; omega))
      have HY12 := Lib.hid (hkg.whole HY11.out (fun e => by have h1 : b5 = g := e; have := Hgb5.out; omega))
      have HK12 := Lib.hid (HK11.out.trans hkg)
      clear hkg
      obtain ⟨w12, gw12⟩ : ∃ z, w11.setCell ⟨g, 1, none⟩ (.bool (!ok)) = z := ⟨_, rfl⟩
      rw [gw12] at HY12 HX12 HC12 HK12 ⊢
      clear gw12 HX11 HY11 HK11 HC11
      have l0 : w12.cell? ⟨b5, 0, none⟩ = some (.int .i64 kI) := HY12.out.cell (i := 0) rfl
      go_upto_region 28 with fail
      have Hbd : RowKit.Hid ((bad || !okO L) = !ok) := Lib.hid (by rw [HAt.out]; exact by rw [Hk.out, fd7_at GfI.out.symm B2, GB3.out, GB4.out, GM1.out, Gok.out]; rfl)
      have HV : RowKit.Hid (okO L = true → (⟨kI, x1, x2, 0, 0, 0, 0, 0, 0, 0, 0, 0, 0, 0, 0, 0, 0, fb, tx, 0⟩ : OpT) = opV L ∧ leT M1 = opL L) := Lib.hid (HVal.out _ _ (fun q => by
        rw [Hk.out] at q ⊢
        have j1 := okF_flag (k := 7) (.inl rfl) q
        have j2 : decide (c1 M ≠ 0) = fb := j1.trans (by rw [GfI.out]; exact Gfb.out)
        rw [show kI = 7 by have := GkI.out; have := Hk.out; omega, ← j2, ← Gtx.out, ← GM1.out]
        exact ⟨rfl, rfl⟩))
      replace HY12 : RowKit.Hid (Whole w12 b5 53 (opCells (⟨kI, x1, x2, 0, 0, 0, 0, 0, 0, 0, 0, 0, 0, 0, 0, 0, 0, fb, tx, 0⟩ : OpT))) := HY12
      obtain ⟨o9, go9⟩ : ∃ z, (⟨kI, x1, x2, 0, 0, 0, 0, 0, 0, 0, 0, 0, 0, 0, 0, 0, 0, fb, tx, 0⟩ : OpT) = z := ⟨_, rfl⟩
      rw [go9] at HV HY12
      clear go9
      refine wp_region_lit ?_
      refine wl_load (some 120) rfl (by rfl) 53 (.tmp 3) rfl b5 rfl 53 (opCells o9) _ HY12.out Try.underlying53 rfl (by kernel_rfl) ?_
      simp only [Act.put, stA_, st0_, st1_]
      refine wpList_store_row rfl 53 (.tmp 2) (.tmp 120) rfl b (opCells o9).toArray rfl rfl 53 (opCells zeroO).toArray HX12.out (by kernel_rfl) rfl (opCells_arr _) ?_
      have HXz : RowKit.Hid (Whole (w12.setRow b (opCells o9).toArray) b 53 (opCells o9)) := Lib.hid (Whole.row HX12.out (opCells o9))
      have HCz := Lib.hid (HC12.out.row Hgb.out.1 (opCells o9).toArray)
      have HKz := Lib.hid (kept_in HK12.out (Nat.le_of_eq Gb.out) (kept_row (S := fun i => i = b) rfl (opCells o9).toArray))
      go_wp2
      exact ret_whole rfl b rfl HXz.out Try.underlying53 rfl (by kernel_rfl) rfl ⟨o9, leT M1, rfl, ⟨by rw [Hbd.out]; exact HCz.out, HKz.out⟩, HV.out⟩
    · have m1 := HC11.out.cell1
      have e1 := HC11.out.free 1
      go_upto_region 23 with fail
      clear m1 e1
      have hkg : Kept (At1 g) w11 (w11.setCell ⟨g, 1, none⟩ (.bool true)) := kept_at _ _ _ _
      have HC12 := Lib.hid (HC11.out.setB true)
      have HX12 := Lib.hid (hkg.whole HX11.out (fun e => by have h1 : b = g := e; have := Hgb.out; omega))
      have HY12 := Lib.hid (hkg.whole HY11.out (fun e => by have h1 : b5 = g := e; have := Hgb5.out; omega))
      have HK12 := Lib.hid (HK11.out.trans hkg)
      clear hkg
      obtain ⟨w12, gw12⟩ : ∃ z, w11.setCell ⟨g, 1, none⟩ (.bool true) = z := ⟨_, rfl⟩
      rw [gw12] at HY12 HX12 HC12 HK12 ⊢
      clear gw12 HX11 HY11 HK11 HC11
      have l0 : w12.cell? ⟨b5, 0, none⟩ = some (.int .i64 kI) := HY12.out.cell (i := 0) rfl
      go_upto_region 28 with fail
      have Hbd : RowKit.Hid ((bad || !okO L) = true) := Lib.hid (by rw [HAt.out]; exact by rw [Hk.out, fd7_at GfI.out.symm B2, GB3.out, GB4.out]; rfl)
      have HV : RowKit.Hid (okO L = true → (⟨kI, x1, x2, 0, 0, 0, 0, 0, 0, 0, 0, 0, 0, 0, 0, 0, 0, fb, tx, 0⟩ : OpT) = opV L ∧ leT M1 = opL L) := Lib.hid (HVal.out _ _ (fun q => by
        rw [Hk.out] at q ⊢
        have j1 := okF_flag (k := 7) (.inl rfl) q
        have j2 : decide (c1 M ≠ 0) = fb := j1.trans (by rw [GfI.out]; exact Gfb.out)
        rw [show kI = 7 by have := GkI.out; have := Hk.out; omega, ← j2, ← Gtx.out, ← GM1.out]
        exact ⟨rfl, rfl⟩))
      replace HY12 : RowKit.Hid (Whole w12 b5 53 (opCells (⟨kI, x1, x2, 0, 0, 0, 0, 0, 0, 0, 0, 0, 0, 0, 0, 0, 0, fb, tx, 0⟩ : OpT))) := HY12
      obtain ⟨o9, go9⟩ : ∃ z, (⟨kI, x1, x2, 0, 0, 0, 0, 0, 0, 0, 0, 0, 0, 0, 0, 0, 0, fb, tx, 0⟩ : OpT) = z := ⟨_, rfl⟩
      rw [go9] at HV HY12
      clear go9
      refine wp_region_lit ?_
      refine wl_load (some 120) rfl (by rfl) 53 (.tmp 3) rfl b5 rfl 53 (opCells o9) _ HY12.out Try.underlying53 rfl (by kernel_rfl) ?_
      simp only [Act.put, stA_, st0_, st1_]
      refine wpList_store_row rfl 53 (.tmp 2) (.tmp 120) rfl b (opCells o9).toArray rfl rfl 53 (opCells zeroO).toArray HX12.out (by kernel_rfl) rfl (opCells_arr _) ?_
      have HXz : RowKit.Hid (Whole (w12.setRow b (opCells o9).toArray) b 53 (opCells o9)) := Lib.hid (Whole.row HX12.out (opCells o9))
      have HCz := Lib.hid (HC12.out.row Hgb.out.1 (opCells o9).toArray)
      have HKz := Lib.hid (kept_in HK12.out (Nat.le_of_eq Gb.out) (kept_row (S := fun i => i = b) rfl (opCells o9).toArray))
      go_wp2
      exact ret_whole rfl b rfl HXz.out Try.underlying53 rfl (by kernel_rfl) rfl ⟨o9, leT M1, rfl, ⟨by rw [Hbd.out]; exact HCz.out, HKz.out⟩, HV.out⟩
  · have m1 := HC7.out.cell1
    have e1 := HC7.out.free 1
    go_upto_region 18 with fail
    clear m1 e1
    have hkg : Kept (At1 g) w7 (w7.setCell ⟨g, 1, none⟩ (.bool true)) := kept_at _ _ _ _
    have HC8 := Lib.hid (HC7.out.setB (true))
    have HX8 := Lib.hid (hkg.whole HX7.out (fun e => by have h1 : b = g := e; have := Hgb.out; omega))
    have HY8 := Lib.hid (hkg.whole HY7.out (fun e => by have h1 : b5 = g := e; have := Hgb5.out; omega))
    have HK8 := Lib.hid (HK7.out.trans hkg)
    clear hkg
    obtain ⟨w8, gw8⟩ : ∃ z, w7.setCell ⟨g, 1, none⟩ (.bool true) = z := ⟨_, rfl⟩
    rw [gw8] at HY8 HX8 HC8 HK8 ⊢
    clear gw8 HX7 HY7 HK7 HC7
    have l0 : w8.cell? ⟨b5, 0, none⟩ = some (.int .i64 kI) := HY8.out.cell (i := 0) rfl
    obtain ⟨A, n, c, a0, hr, hn, hn9, hlo⟩ := HC8.out.cell0
    have hb9 := HC8.out.bytes
    obtain ⟨tx, gtx⟩ : ∃ z, txT M1 = z := ⟨_, rfl⟩
    obtain ⟨ok, gok⟩ : ∃ z, isT M1 = z := ⟨_, rfl⟩
    have HT : RowKit.Hid (Calls Try.prog 77 #[.slice A n c] w8 fun e w' => ∃ A1 n1 c1, e = .returned (.tuple #[.string tx, .slice A1 n1 c1, .bool ok]) ∧ n1 = (leT M1).length ∧ RdS w' w'.heap.size 1 A1 n1 c1 (rowsV f8 (leT M1)) ∧ Lies A A1 ∧ Below w8.heap.size w8 w') := Lib.hid (by
      rw [← gtx, ← gok]
      subst hn; exact rtaketext_blk A c M1 w8 hr hn9 hb9)
    have Gtx := Lib.hid gtx
    have Gok := Lib.hid gok
    have Hlo := Lib.hid hlo
    have Hn9 := Lib.hid (And.intro hn9 hb9)
    have HnM := Lib.hid hn
    clear hr hn9 hb9 hlo hn gtx gok
    go_upto_region 20 with (first
      | (go_at_call 77
         refine HT.out.mono ?_
         rintro e w9 ⟨A1, n1, c1', rfl, hn1, hr1, hlies, hb⟩
         have HX9 := Lib.hid (HX8.out.bl hb)
         have HY9 := Lib.hid (HY8.out.bl hb)
         have HC9 := Lib.hid (HC8.out.bl hb)
         have HK9 := Lib.hid (HK8.out.trans (Kept.of_below hb))
         have Hr9 := Lib.hid hr1
         have Hn1 := Lib.hid hn1
         have Hl9 := Lib.hid hlies
         have m1 := HY9.out.cell (i := 18) (v := .string ⟨#[]⟩) rfl
         have e1 := HY9.out.free 18
         clear hb hn1 hr1 hlies a0 l0))
    clear HX8 HY8 HC8 HK8 HT
    have hl0 : n1 ≤ n := by have := Hn1.out; have : (leT M1).length ≤ M1.length := (by unfold leT; split <;> simp); have := HnM.out; omega
    have Hlo1 : RowKit.Hid (∀ a, A1 = some a → 0 < n1 → a.block < lo) := Lib.hid (fun a ha h0 => by
      obtain ⟨a0, ha0, he⟩ := Hl9.out a ha
      have := Hlo.out a0 ha0 (by omega)
      omega)
    have Hbr : RowKit.Hid (n1 ≤ 100000 ∧ ∀ b ∈ leT M1, b < 256) := Lib.hid ⟨by have := Hn9.out.1; omega, leT_lt Hn9.out.2⟩
    clear hl0
    go_upto_region 21 with fail
    clear m1 e1
    have Hr10 := Lib.hid (rds_hi (i := 18) Hr9.out Hlo1.out Hgb.out.2 Hgb5.out.1 (.string tx))
    have HY10 := Lib.hid (HY9.out.set_ 18 (.string tx))
    have HX10 := Lib.hid (HX9.out.far (p := ⟨b5, 18, none⟩) (show b ≠ b5 by have := Hgb5.out.2; omega) (.string tx))
    have HC10 := Lib.hid (HC9.out.poke (i := 18) Hgb5.out.1 (.string tx))
    have HK10 := Lib.hid (kept_poke (i := 18) HK9.out hb5.out (.string tx))
    obtain ⟨w10, gw10⟩ : ∃ z, w9.setCell ⟨b5, 18, none⟩ (.string tx) = z := ⟨_, rfl⟩
    rw [gw10] at Hr10 HY10 HX10 HC10 HK10 ⊢
    clear gw10 HX9 HY9 HK9 HC9
    obtain ⟨Ao, no, co, a0, -, -, -, -⟩ := HC10.out.cell0
    have f0 := HC10.out.free 0
    go_upto_region 22 with fail
    clear a0 f0
    have hkg : Kept (At1 g) w10 (w10.setCell ⟨g, 0, none⟩ (.slice A1 n1 c1')) := kept_at _ _ _ _
    have HC11 := Lib.hid (HC10.out.setR Hr10.out Hbr.out.1 Hlo1.out Hbr.out.2)
    have HX11 := Lib.hid (hkg.whole HX10.out (fun e => by have h1 : b = g := e; have := Hgb.out; omega))
    have HY11 := Lib.hid (hkg.whole HY10.out (fun e => by have h1 : b5 = g := e; have := Hgb5.out; omega))
    have HK11 := Lib.hid (HK10.out.trans hkg)
    clear hkg
    obtain ⟨w11, gw11⟩ : ∃ z, w10.setCell ⟨g, 0, none⟩ (.slice A1 n1 c1') = z := ⟨_, rfl⟩
    rw [gw11] at HY11 HX11 HC11 HK11 ⊢
    clear gw11 HX10 HY10 HK10 HC10
    have m1 := HC11.out.cell1
    have e1 := HC11.out.free 1
    go_upto_region 23 with fail
    clear m1 e1
    have hkg : Kept (At1 g) w11 (w11.setCell ⟨g, 1, none⟩ (.bool true)) := kept_at _ _ _ _
    have HC12 := Lib.hid (HC11.out.setB true)
    have HX12 := Lib.hid (hkg.whole HX11.out (fun e => by have h1 : b = g := e; have := Hgb.out; omega))
    have HY12 := Lib.hid (hkg.whole HY11.out (fun e => by have h1 : b5 = g := e; have := Hgb5.out; omega))
    have HK12 := Lib.hid (HK11.out.trans hkg)
    clear hkg
    obtain ⟨w12, gw12⟩ : ∃ z, w11.setCell ⟨g, 1, none⟩ (.bool true) = z := ⟨_, rfl⟩
    rw [gw12] at HY12 HX12 HC12 HK12 ⊢
    clear gw12 HX11 HY11 HK11 HC11
    have l0 : w12.cell? ⟨b5, 0, none⟩ = some (.int .i64 kI) := HY12.out.cell (i := 0) rfl
    go_upto_region 28 with fail
    have Hbd : RowKit.Hid ((bad || !okO L) = true) := Lib.hid (by rw [HAt.out]; exact by rw [Hk.out, fd7_at GfI.out.symm B2, GB3.out]; rfl)
    have HV : RowKit.Hid (okO L = true → (⟨kI, x1, x2, 0, 0, 0, 0, 0, 0, 0, 0, 0, 0, 0, 0, 0, 0, fb, tx, 0⟩ : OpT) = opV L ∧ leT M1 = opL L) := Lib.hid (HVal.out _ _ (fun q => by
      rw [Hk.out] at q ⊢
      have j1 := okF_flag (k := 7) (.inl rfl) q
      have j2 : decide (c1 M ≠ 0) = fb := j1.trans (by rw [GfI.out]; exact Gfb.out)
      rw [show kI = 7 by have := GkI.out; have := Hk.out; omega, ← j2, ← Gtx.out, ← GM1.out]
      exact ⟨rfl, rfl⟩))
    replace HY12 : RowKit.Hid (Whole w12 b5 53 (opCells (⟨kI, x1, x2, 0, 0, 0, 0, 0, 0, 0, 0, 0, 0, 0, 0, 0, 0, fb, tx, 0⟩ : OpT))) := HY12
    obtain ⟨o9, go9⟩ : ∃ z, (⟨kI, x1, x2, 0, 0, 0, 0, 0, 0, 0, 0, 0, 0, 0, 0, 0, 0, fb, tx, 0⟩ : OpT) = z := ⟨_, rfl⟩
    rw [go9] at HV HY12
    clear go9
    refine wp_region_lit ?_
    refine wl_load (some 120) rfl (by rfl) 53 (.tmp 3) rfl b5 rfl 53 (opCells o9) _ HY12.out Try.underlying53 rfl (by kernel_rfl) ?_
    simp only [Act.put, stA_, st0_, st1_]
    refine wpList_store_row rfl 53 (.tmp 2) (.tmp 120) rfl b (opCells o9).toArray rfl rfl 53 (opCells zeroO).toArray HX12.out (by kernel_rfl) rfl (opCells_arr _) ?_
    have HXz : RowKit.Hid (Whole (w12.setRow b (opCells o9).toArray) b 53 (opCells o9)) := Lib.hid (Whole.row HX12.out (opCells o9))
    have HCz := Lib.hid (HC12.out.row Hgb.out.1 (opCells o9).toArray)
    have HKz := Lib.hid (kept_in HK12.out (Nat.le_of_eq Gb.out) (kept_row (S := fun i => i = b) rfl (opCells o9).toArray))
    go_wp2
    exact ret_whole rfl b rfl HXz.out Try.underlying53 rfl (by kernel_rfl) rfl ⟨o9, leT M1, rfl, ⟨by rw [Hbd.out]; exact HCz.out, HKz.out⟩, HV.out⟩
end Go.Proofs.Ytinfbaflkjghhaa
/- The document's reader: op of kind 8. -/
namespace Go.Proofs.Ytinfbaflkjghhaa
open Go.RowKit
set_option maxRecDepth 100000 in
set_option maxHeartbeats 4000000 in
theorem rrop_8 (lo g : Nat) (L : List Nat) (bad : Bool) (w : World) (h : RrAt lo w g L bad) (hk : c1 L = 8) :
    Calls Try.prog 61 #[.pointer (some ⟨g, 0, none⟩)] w fun e w' => ∃ (o : OpT) (R : List Nat), e = .returned (.agg (opCells o).toArray) ∧ Rr1 lo w w' g R (bad || !okO L) ∧ (okO L = true → o = opV L ∧ R = opL L) := by
  have HF1 := Lib.hid (fun R bad W h => rone_any lo g R bad W h)
  have HFI := Lib.hid (fun R bad W h => rrid_any lo g R bad W h)
  have HFC := Lib.hid (fun R bad W h => rrcorner_any lo g R bad W h)
  have HX0 : RowKit.Hid (Whole (w.alloc (.cells #[.int .i64 0, .int .i64 0, .int .i64 0, .int .i64 0, .int .i64 0, .int .i64 0, .int .i64 0, .int .i64 0, .int .i64 0, .int .i64 0, .int .i64 0, .int .i64 0, .int .i64 0, .int .i64 0, .int .i64 0, .int .i64 0, .int .i64 0, .bool false, .string ⟨#[]⟩, .int .i64 0] 53)) w.heap.size 53 (opCells zeroO)) := Lib.hid (Whole.new_ _ _ (opCells zeroO))
  have HC0 := Lib.hid (h.al (.cells #[.int .i64 0, .int .i64 0, .int .i64 0, .int .i64 0, .int .i64 0, .int .i64 0, .int .i64 0, .int .i64 0, .int .i64 0, .int .i64 0, .int .i64 0, .int .i64 0, .int .i64 0, .int .i64 0, .int .i64 0, .int .i64 0, .int .i64 0, .bool false, .string ⟨#[]⟩, .int .i64 0] 53))
  have HK0 : RowKit.Hid (Kept (At1 g) w (w.alloc (.cells #[.int .i64 0, .int .i64 0, .int .i64 0, .int .i64 0, .int .i64 0, .int .i64 0, .int .i64 0, .int .i64 0, .int .i64 0, .int .i64 0, .int .i64 0, .int .i64 0, .int .i64 0, .int .i64 0, .int .i64 0, .int .i64 0, .int .i64 0, .bool false, .string ⟨#[]⟩, .int .i64 0] 53))) := Lib.hid (Kept.of_below (below1 w _))
  have Hgb : RowKit.Hid (g < w.heap.size ∧ lo ≤ g) := Lib.hid ⟨h.lt, h.ge⟩
  obtain ⟨kI, gkI⟩ : ∃ z : Int, (c1 L : Int) = z := ⟨_, rfl⟩
  have GkI := Lib.hid gkI
  have Hk := Lib.hid hk
  have q3 : (kI == 3) = false := by rw [← gkI, hk]; rfl
  have q5 : (kI == 5) = false := by rw [← gkI, hk]; rfl
  have q6 : (kI == 6) = false := by rw [← gkI, hk]; rfl
  have q7 : (kI == 7) = false := by rw [← gkI, hk]; rfl
  have q8 : (kI == 8) = true := by rw [← gkI, hk]; rfl
  have HF1L : RowKit.Hid (∀ W, RrAt lo W g L bad → Calls Try.prog 60 #[.pointer (some ⟨g, 0, none⟩)] W fun e w' => e = .returned (.int .i64 kI) ∧ Rr1 lo W w' g (L.drop 1) (bad || !decide (1 ≤ L.length))) := Lib.hid (fun W h => gkI ▸ rone_any lo g L bad W h)
  clear h gkI hk
  go_enter Try.func61, Try.ntmps61
  go_upto_region 1 with fail
  obtain ⟨w0, gw0⟩ : ∃ z, w.alloc (.cells #[.int .i64 0, .int .i64 0, .int .i64 0, .int .i64 0, .int .i64 0, .int .i64 0, .int .i64 0, .int .i64 0, .int .i64 0, .int .i64 0, .int .i64 0, .int .i64 0, .int .i64 0, .int .i64 0, .int .i64 0, .int .i64 0, .int .i64 0, .bool false, .string ⟨#[]⟩, .int .i64 0] 53) = z := ⟨_, rfl⟩
  obtain ⟨b, gb⟩ : ∃ z, w.heap.size = z := ⟨_, rfl⟩
  rw [gw0] at HX0 HK0 HC0 ⊢
  rw [gb] at HX0 Hgb ⊢
  have Gb := Lib.hid gb
  clear gw0 gb
  go_wp2_with fail
  refine (HF1L.out _ HC0.out).mono ?_
  rintro e w2 ⟨rfl, hcu⟩
  have HX2 := Lib.hid (hcu.2.whole HX0.out (fun e => by have h1 : b = g := e; have := Hgb.out; omega))
  have HK2 := Lib.hid (HK0.out.trans hcu.2)
  have HC2 := Lib.hid hcu.1
  clear hcu HX0 HK0 HC0 HF1L
  rename_i hK
  refine hK _ _ ?_
  refine wl_read (v := .agg (opCells (kO kI (0, 0))).toArray) (some 13) rfl (by rfl) ?_ ?_
  · go_simp; rfl
  simp only [Act.put, stA_, st0_, st1_]
  refine wl_new 3 rfl rfl rfl 53 (.tmp 13) rfl rfl #[.int .i64 0, .int .i64 0, .int .i64 0, .int .i64 0, .int .i64 0, .int .i64 0, .int .i64 0, .int .i64 0, .int .i64 0, .int .i64 0, .int .i64 0, .int .i64 0, .int .i64 0, .int .i64 0, .int .i64 0, .int .i64 0, .int .i64 0, .bool false, .string ⟨#[]⟩, .int .i64 0] ?_ (opCells (kO kI (0, 0))).toArray (by simp) rfl (by kernel_rfl) rfl (opCells_arr _) ?_
  · go_simp; (try with_reducible rfl)
  simp only [Act.put, stA_, st0_, st1_]
  have HY3 : RowKit.Hid (Whole (w2.alloc (.cells (opCells (kO kI (0, 0))).toArray 53)) w2.heap.size 53 (opCells (kO kI (0, 0)))) := Lib.hid (Whole.new_ _ _ _)
  have Hgb5 : RowKit.Hid (g < w2.heap.size ∧ b < w2.heap.size) := Lib.hid ⟨HC2.out.lt, HX2.out.lt⟩
  have HX3 := Lib.hid (HX2.out.al (.cells (opCells (kO kI (0, 0))).toArray 53))
  have HK3 := Lib.hid (HK2.out.alloc (.cells (opCells (kO kI (0, 0))).toArray 53))
  have HC3 := Lib.hid (HC2.out.al (.cells (opCells (kO kI (0, 0))).toArray 53))
  obtain ⟨w3, gw3⟩ : ∃ z, w2.alloc (.cells (opCells (kO kI (0, 0))).toArray 53) = z := ⟨_, rfl⟩
  obtain ⟨b5, gb5⟩ : ∃ z, w2.heap.size = z := ⟨_, rfl⟩
  rw [gw3] at HY3 HX3 HK3 HC3 ⊢
  rw [gb5] at HY3 Hgb5 ⊢
  clear gw3 gb5 HX2 HK2 HC2 hK
  have hb5 : RowKit.Hid (w.heap.size ≤ b5) := Lib.hid (by have := Gb.out; have := Hgb5.out.2; omega)
  go_wp2_with fail
  refine (HFI.out _ _ _ HC3.out).mono ?_
  rintro e w4 ⟨x1, x2, M, rfl, hcu, hok⟩
  have HX4 := Lib.hid (hcu.2.whole HX3.out (fun e => by have h1 : b = g := e; have := Hgb.out; omega))
  have HY4 := Lib.hid (hcu.2.whole HY3.out (fun e => by have h1 : b5 = g := e; have := Hgb5.out; omega))
  have HK4 := Lib.hid (HK3.out.trans hcu.2)
  have HC4 := Lib.hid hcu.1
  have HOk := Lib.hid hok
  clear hok
  clear hcu HX3 HY3 HK3 HC3
  rename_i hK
  refine hK _ _ ?_
  refine wl_read (v := ?_) (some 16) rfl (by rfl) ?_ ?_
  rotate_left
  · go_simp; (try with_reducible rfl)
  simp only [Act.put, stA_, st0_, st1_]
  refine wl_store rfl (by rfl) (store_mid_run 47 (.tmp 16) (.tmp 15) rfl b5 1 rfl [.int .i64 x1, .int .i64 x2] rfl (HY4.out.there_ 1 2 (by show 3 ≤ 20; decide)) (by kernel_rfl) (by simp [Value.oneCell'])) ?_
  have HY5 := Lib.hid (HY4.out.cells_ [.int .i64 x1, .int .i64 x2] 1 w4 _ (by show 3 ≤ 20; decide))
  have HX5 := Lib.hid (HX4.out.cells_far (show b ≠ b5 by have := Hgb5.out.2; omega) 1 [.int .i64 x1, .int .i64 x2])
  have HC5 := Lib.hid (HC4.out.cells Hgb5.out.1 1 [.int .i64 x1, .int .i64 x2])
  have HK5 := Lib.hid (kept_in HK4.out hb5.out (kept_setCells (S := fun i => i = b5) rfl 1 [.int .i64 x1, .int .i64 x2]))
  obtain ⟨w5, gw5⟩ : ∃ z, w4.setCells b5 1 [.int .i64 x1, .int .i64 x2] = z := ⟨_, rfl⟩
  rw [gw5] at HY5 HX5 HC5 HK5 ⊢
  clear gw5 HX4 HY4 HK4 HC4
  replace HY5 : RowKit.Hid (Whole w5 b5 53 (opCells (kO kI (x1, x2)))) := HY5
  clear hK
  have HAt := Lib.hid (okO_at (fun q => (HOk.out q).2) bad)
  have HVal := Lib.hid (fun (R : List Nat) (o : OpT) ho q => okO_val (R := R) (o := o) HOk.out ho q)
  obtain ⟨B2, gB2⟩ : ∃ z, ((bad || !decide (1 ≤ L.length)) || !idT (L.drop 1)) = z := ⟨_, rfl⟩
  rw [gB2] at HC5 HAt
  clear gB2
  have l0 : w5.cell? ⟨b5, 0, none⟩ = some (.int .i64 kI) := HY5.out.cell (i := 0) rfl
  go_wp2_with fail
  refine (HF1.out _ _ _ HC5.out).mono ?_
  rintro e w6 ⟨rfl, hcu⟩
  have HX6 := Lib.hid (hcu.2.whole HX5.out (fun e => by have h1 : b = g := e; have := Hgb.out; omega))
  have HY6 := Lib.hid (hcu.2.whole HY5.out (fun e => by have h1 : b5 = g := e; have := Hgb5.out; omega))
  have HK6 := Lib.hid (HK5.out.trans hcu.2)
  have HC6 := Lib.hid hcu.1
  clear hcu HX5 HY5 HK5 HC5
  obtain ⟨fI, gfI⟩ : ∃ z : Int, (c1 M : Int) = z := ⟨_, rfl⟩
  rw [gfI]
  have GfI := Lib.hid gfI
  obtain ⟨fb, hfb⟩ : ∃ z, (fI == 1) = z := ⟨_, rfl⟩
  have Gfb := Lib.hid hfb
  obtain ⟨B3, gB3⟩ : ∃ z, (B2 || !decide (1 ≤ M.length)) = z := ⟨_, rfl⟩
  rw [gB3] at HC6
  have GB3 := Lib.hid gB3
  obtain ⟨M1, gM1⟩ : ∃ z, M.drop 1 = z := ⟨_, rfl⟩
  rw [gM1] at HC6
  have GM1 := Lib.hid gM1
  clear gfI gB3 l0 gM1
  have m1 := HY6.out.cell (i := 17) (v := .bool false) rfl
  have e1 := HY6.out.free 17
  go_upto_region 17 with fail
  clear m1 e1 hfb
  have HY7 := Lib.hid (HY6.out.set_ 17 (.bool fb))
  have HX7 := Lib.hid (HX6.out.far (p := ⟨b5, 17, none⟩) (show b ≠ b5 by have := Hgb5.out.2; omega) (.bool fb))
  have HC7 := Lib.hid (HC6.out.poke (i := 17) Hgb5.out.1 (.bool fb))
  have HK7 := Lib.hid (kept_poke (i := 17) HK6.out hb5.out (.bool fb))
  obtain ⟨w7, gw7⟩ : ∃ z, w6.setCell ⟨b5, 17, none⟩ (.bool fb) = z := ⟨_, rfl⟩
  rw [gw7] at HY7 HX7 HC7 HK7 ⊢
  clear gw7 HX6 HY6 HK6 HC6
  cases B3
  · have m1 := HC7.out.cell1
    have e1 := HC7.out.free 1
    go_upto_region 18 with fail
    clear m1 e1
    have hkg : Kept (At1 g) w7 (w7.setCell ⟨g, 1, none⟩ (.bool (decide (1 < fI)))) := kept_at _ _ _ _
    have HC8 := Lib.hid (HC7.out.setB (decide (1 < fI)))
    have HX8 := Lib.hid (hkg.whole HX7.out (fun e => by have h1 : b = g := e; have := Hgb.out; omega))
    have HY8 := Lib.hid (hkg.whole HY7.out (fun e => by have h1 : b5 = g := e; have := Hgb5.out; omega))
    have HK8 := Lib.hid (HK7.out.trans hkg)
    clear hkg
    obtain ⟨w8, gw8⟩ : ∃ z, w7.setCell ⟨g, 1, none⟩ (.bool (decide (1 < fI))) = z := ⟨_, rfl⟩
    rw [gw8] at HY8 HX8 HC8 HK8 ⊢
    clear gw8 HX7 HY7 HK7 HC7
    obtain ⟨B4, gB4⟩ : ∃ z, decide (1 < fI) = z := ⟨_, rfl⟩
    rw [gB4] at HC8 ⊢
    have GB4 := Lib.hid gB4
    clear gB4
    have l0 : w8.cell? ⟨b5, 0, none⟩ = some (.int .i64 kI) := HY8.out.cell (i := 0) rfl
    obtain ⟨A, n, c, a0, hr, hn, hn9, hlo⟩ := HC8.out.cell0
    have hb9 := HC8.out.bytes
    obtain ⟨tx, gtx⟩ : ∃ z, vM M1 = z := ⟨_, rfl⟩
    obtain ⟨ok, gok⟩ : ∃ z, decide (8 ≤ M1.length) = z := ⟨_, rfl⟩
    have HT : RowKit.Hid (Calls Try.prog 22 #[.slice A n c] w8 fun e w' => ∃ A1 n1 c1, e = .returned (.tuple #[.int .i64 tx, .slice A1 n1 c1, .bool ok]) ∧ n1 = (lM M1).length ∧ RdS w' w'.heap.size 1 A1 n1 c1 (rowsV f8 (lM M1)) ∧ Lies A A1 ∧ Below w8.heap.size w8 w') := Lib.hid (by
      rw [← gtx, ← gok]
      exact rtakenum_blk A n c M1 w8 hr hn9 hb9)
    have Gtx := Lib.hid gtx
    have Gok := Lib.hid gok
    have Hlo := Lib.hid hlo
    have Hn9 := Lib.hid (And.intro hn9 hb9)
    have HnM := Lib.hid hn
    clear hr hn9 hb9 hlo hn gtx gok
    go_upto_region 25 with (first
      | (go_at_call 22
         refine HT.out.mono ?_
         rintro e w9 ⟨A1, n1, c1', rfl, hn1, hr1, hlies, hb⟩
         have HX9 := Lib.hid (HX8.out.bl hb)
         have HY9 := Lib.hid (HY8.out.bl hb)
         have HC9 := Lib.hid (HC8.out.bl hb)
         have HK9 := Lib.hid (HK8.out.trans (Kept.of_below hb))
         have Hr9 := Lib.hid hr1
         have Hn1 := Lib.hid hn1
         have Hl9 := Lib.hid hlies
         have m1 := HY9.out.cell (i := 19) (v := .int .i64 0) rfl
         have e1 := HY9.out.free 19
         clear hb hn1 hr1 hlies a0 l0))
    clear HX8 HY8 HC8 HK8 HT
    have hl0 : n1 ≤ n := by have := Hn1.out; have : (lM M1).length ≤ M1.length := (by unfold lM; split <;> simp); have := HnM.out; omega
    have Hlo1 : RowKit.Hid (∀ a, A1 = some a → 0 < n1 → a.block < lo) := Lib.hid (fun a ha h0 => by
      obtain ⟨a0, ha0, he⟩ := Hl9.out a ha
      have := Hlo.out a0 ha0 (by omega)
      omega)
    have Hbr : RowKit.Hid (n1 ≤ 100000 ∧ ∀ b ∈ lM M1, b < 256) := Lib.hid ⟨by have := Hn9.out.1; omega, lM_lt Hn9.out.2⟩
    clear hl0
    go_upto_region 26 with fail
    clear m1 e1
    have Hr10 := Lib.hid (rds_hi (i := 19) Hr9.out Hlo1.out Hgb.out.2 Hgb5.out.1 (.int .i64 tx))
    have HY10 := Lib.hid (HY9.out.set_ 19 (.int .i64 tx))
    have HX10 := Lib.hid (HX9.out.far (p := ⟨b5, 19, none⟩) (show b ≠ b5 by have := Hgb5.out.2; omega) (.int .i64 tx))
    have HC10 := Lib.hid (HC9.out.poke (i := 19) Hgb5.out.1 (.int .i64 tx))
    have HK10 := Lib.hid (kept_poke (i := 19) HK9.out hb5.out (.int .i64 tx))
    obtain ⟨w10, gw10⟩ : ∃ z, w9.setCell ⟨b5, 19, none⟩ (.int .i64 tx) = z := ⟨_, rfl⟩
    rw [gw10] at Hr10 HY10 HX10 HC10 HK10 ⊢
    clear gw10 HX9 HY9 HK9 HC9
    obtain ⟨Ao, no, co, a0, -, -, -, -⟩ := HC10.out.cell0
    have f0 := HC10.out.free 0
    go_upto_region 27 with fail
    clear a0 f0
    have hkg : Kept (At1 g) w10 (w10.setCell ⟨g, 0, none⟩ (.slice A1 n1 c1')) := kept_at _ _ _ _
    have HC11 := Lib.hid (HC10.out.setR Hr10.out Hbr.out.1 Hlo1.out Hbr.out.2)
    have HX11 := Lib.hid (hkg.whole HX10.out (fun e => by have h1 : b = g := e; have := Hgb.out; omega))
    have HY11 := Lib.hid (hkg.whole HY10.out (fun e => by have h1 : b5 = g := e; have := Hgb5.out; omega))
    have HK11 := Lib.hid (HK10.out.trans hkg)
    clear hkg
    obtain ⟨w11, gw11⟩ : ∃ z, w10.setCell ⟨g, 0, none⟩ (.slice A1 n1 c1') = z := ⟨_, rfl⟩
    rw [gw11] at HY11 HX11 HC11 HK11 ⊢
    clear gw11 HX10 HY10 HK10 HC10
    cases B4
    · have m1 := HC11.out.cell1
      have e1 := HC11.out.free 1
      go_upto_region 28 with fail
      clear m1 e1
      have hkg : Kept (At1 g) w11 (w11.setCell ⟨g, 1, none⟩ (.bool (!ok))) := kept_at _ _ _ _
      have HC12 := Lib.hid (HC11.out.setB (!ok))
      have HX12 := Lib.hid (hkg.whole HX11.out (fun e => by have h1 : b = g := e; have := Hgb.out; omega))
      have HY12 := Lib.hid (hkg.whole HY11.out (fun e => by have h1 : b5 = g := e; have := Hgb5.out; omega))
      have HK12 := Lib.hid (HK11.out.trans hkg)
      clear hkg
      obtain ⟨w12, gw12⟩ : ∃ z, w11.setCell ⟨g, 1, none⟩ (.bool (!ok)) = z := ⟨_, rfl⟩
      rw [gw12] at HY12 HX12 HC12 HK12 ⊢
      clear gw12 HX11 HY11 HK11 HC11
      have l0 : w12.cell? ⟨b5, 0, none⟩ = some (.int .i64 kI) := HY12.out.cell (i := 0) rfl
      go_upto_region 28 with fail
      have Hbd : RowKit.Hid ((bad || !okO L) = !ok) := Lib.hid (by rw [HAt.out]; exact by rw [Hk.out, fd8_at GfI.out.symm B2, GB3.out, GB4.out, GM1.out, Gok.out]; rfl)
      have HV : RowKit.Hid (okO L = true → (⟨kI, x1, x2, 0, 0, 0, 0, 0, 0, 0, 0, 0, 0, 0, 0, 0, 0, fb, ⟨#[]⟩, tx⟩ : OpT) = opV L ∧ lM M1 = opL L) := Lib.hid (HVal.out _ _ (fun q => by
        rw [Hk.out] at q ⊢
        have j1 := okF_flag (k := 8) (.inr rfl) q
        have j2 : decide (c1 M ≠ 0) = fb := j1.trans (by rw [GfI.out]; exact Gfb.out)
        rw [show kI = 8 by have := GkI.out; have := Hk.out; omega, ← j2, ← Gtx.out, ← GM1.out]
        exact ⟨rfl, rfl⟩))
      replace HY12 : RowKit.Hid (Whole w12 b5 53 (opCells (⟨kI, x1, x2, 0, 0, 0, 0, 0, 0, 0, 0, 0, 0, 0, 0, 0, 0, fb, ⟨#[]⟩, tx⟩ : OpT))) := HY12
      obtain ⟨o9, go9⟩ : ∃ z, (⟨kI, x1, x2, 0, 0, 0, 0, 0, 0, 0, 0, 0, 0, 0, 0, 0, 0, fb, ⟨#[]⟩, tx⟩ : OpT) = z := ⟨_, rfl⟩
      rw [go9] at HV HY12
      clear go9
      refine wp_region_lit ?_
      refine wl_load (some 120) rfl (by rfl) 53 (.tmp 3) rfl b5 rfl 53 (opCells o9) _ HY12.out Try.underlying53 rfl (by kernel_rfl) ?_
      simp only [Act.put, stA_, st0_, st1_]
      refine wpList_store_row rfl 53 (.tmp 2) (.tmp 120) rfl b (opCells o9).toArray rfl rfl 53 (opCells zeroO).toArray HX12.out (by kernel_rfl) rfl (opCells_arr _) ?_
      have HXz : RowKit.Hid (Whole (w12.setRow b (opCells o9).toArray) b 53 (opCells o9)) := Lib.hid (Whole.row HX12.out (opCells o9))
      have HCz := Lib.hid (HC12.out.row Hgb.out.1 (opCells o9).toArray)
      have HKz := Lib.hid (kept_in HK12.out (Nat.le_of_eq Gb.out) (kept_row (S := fun i => i = b) rfl (opCells o9).toArray))
      go_wp2
      exact ret_whole rfl b rfl HXz.out Try.underlying53 rfl (by kernel_rfl) rfl ⟨o9, lM M1, rfl, ⟨by rw [Hbd.out]; exact HCz.out, HKz.out⟩, HV.out⟩
    · have m1 := HC11.out.cell1
      have e1 := HC11.out.free 1
      go_upto_region 28 with fail
      clear m1 e1
      have hkg : Kept (At1 g) w11 (w11.setCell ⟨g, 1, none⟩ (.bool true)) := kept_at _ _ _ _
      have HC12 := Lib.hid (HC11.out.setB true)
      have HX12 := Lib.hid (hkg.whole HX11.out (fun e => by have h1 : b = g := e; have := Hgb.out; omega))
      have HY12 := Lib.hid (hkg.whole HY11.out (fun e => by have h1 : b5 = g := e; have := Hgb5.out; omega))
      have HK12 := Lib.hid (HK11.out.trans hkg)
      clear hkg
      obtain ⟨w12, gw12⟩ : ∃ z, w11.setCell ⟨g, 1, none⟩ (.bool true) = z := ⟨_, rfl⟩
      rw [gw12] at HY12 HX12 HC12 HK12 ⊢
      clear gw12 HX11 HY11 HK11 HC11
      have l0 : w12.cell? ⟨b5, 0, none⟩ = some (.int .i64 kI) := HY12.out.cell (i := 0) rfl
      go_upto_region 28 with fail
      have Hbd : RowKit.Hid ((bad || !okO L) = true) := Lib.hid (by rw [HAt.out]; exact by rw [Hk.out, fd8_at GfI.out.symm B2, GB3.out, GB4.out]; rfl)
      have HV : RowKit.Hid (okO L = true → (⟨kI, x1, x2, 0, 0, 0, 0, 0, 0, 0, 0, 0, 0, 0, 0, 0, 0, fb, ⟨#[]⟩, tx⟩ : OpT) = opV L ∧ lM M1 = opL L) := Lib.hid (HVal.out _ _ (fun q => by
        rw [Hk.out] at q ⊢
        have j1 := okF_flag (k := 8) (.inr rfl) q
        have j2 : decide (c1 M ≠ 0) = fb := j1.trans (by rw [GfI.out]; exact Gfb.out)
        rw [show kI = 8 by have := GkI.out; have := Hk.out; omega, ← j2, ← Gtx.out, ← GM1.out]
        exact ⟨rfl, rfl⟩))
      replace HY12 : RowKit.Hid (Whole w12 b5 53 (opCells (⟨kI, x1, x2, 0, 0, 0, 0, 0, 0, 0, 0, 0, 0, 0, 0, 0, 0, fb, ⟨#[]⟩, tx⟩ : OpT))) := HY12
      obtain ⟨o9, go9⟩ : ∃ z, (⟨kI, x1, x2, 0, 0, 0, 0, 0, 0, 0, 0, 0, 0, 0, 0, 0, 0, fb, ⟨#[]⟩, tx⟩ : OpT) = z := ⟨_, rfl⟩
      rw [go9] at HV HY12
      clear go9
      refine wp_region_lit ?_
      refine wl_load (some 120) rfl (by rfl) 53 (.tmp 3) rfl b5 rfl 53 (opCells o9) _ HY12.out Try.underlying53 rfl (by kernel_rfl) ?_
      simp only [Act.put, stA_, st0_, st1_]
      refine wpList_store_row rfl 53 (.tmp 2) (.tmp 120) rfl b (opCells o9).toArray rfl rfl 53 (opCells zeroO).toArray HX12.out (by kernel_rfl) rfl (opCells_arr _) ?_
      have HXz : RowKit.Hid (Whole (w12.setRow b (opCells o9).toArray) b 53 (opCells o9)) := Lib.hid (Whole.row HX12.out (opCells o9))
      have HCz := Lib.hid (HC12.out.row Hgb.out.1 (opCells o9).toArray)
      have HKz := Lib.hid (kept_in HK12.out (Nat.le_of_eq Gb.out) (kept_row (S := fun i => i = b) rfl (opCells o9).toArray))
      go_wp2
      exact ret_whole rfl b rfl HXz.out Try.underlying53 rfl (by kernel_rfl) rfl ⟨o9, lM M1, rfl, ⟨by rw [Hbd.out]; exact HCz.out, HKz.out⟩, HV.out⟩
  · have m1 := HC7.out.cell1
    have e1 := HC7.out.free 1
    go_upto_region 18 with fail
    clear m1 e1
    have hkg : Kept (At1 g) w7 (w7.setCell ⟨g, 1, none⟩ (.bool true)) := kept_at _ _ _ _
    have HC8 := Lib.hid (HC7.out.setB (true))
    have HX8 := Lib.hid (hkg.whole HX7.out (fun e => by have h1 : b = g := e; have := Hgb.out; omega))
    have HY8 := Lib.hid (hkg.whole HY7.out (fun e => by have h1 : b5 = g := e; have := Hgb5.out; omega))
    have HK8 := Lib.hid (HK7.out.trans hkg)
    clear hkg
    obtain ⟨w8, gw8⟩ : ∃ z, w7.setCell ⟨g, 1, none⟩ (.bool true) = z := ⟨_, rfl⟩
    rw [gw8] at HY8 HX8 HC8 HK8 ⊢
    clear gw8 HX7 HY7 HK7 HC7
    have l0 : w8.cell? ⟨b5, 0, none⟩ = some (.int .i64 kI) := HY8.out.cell (i := 0) rfl
    obtain ⟨A, n, c, a0, hr, hn, hn9, hlo⟩ := HC8.out.cell0
    have hb9 := HC8.out.bytes
    obtain ⟨tx, gtx⟩ : ∃ z, vM M1 = z := ⟨_, rfl⟩
    obtain ⟨ok, gok⟩ : ∃ z, decide (8 ≤ M1.length) = z := ⟨_, rfl⟩
    have HT : RowKit.Hid (Calls Try.prog 22 #[.slice A n c] w8 fun e w' => ∃ A1 n1 c1, e = .returned (.tuple #[.int .i64 tx, .slice A1 n1 c1, .bool ok]) ∧ n1 = (lM M1).length ∧ RdS w' w'.heap.size 1 A1 n1 c1 (rowsV f8 (lM M1)) ∧ Lies A A1 ∧ Below w8.heap.size w8 w') := Lib.hid (by
      rw [← gtx, ← gok]
      exact rtakenum_blk A n c M1 w8 hr hn9 hb9)
    have Gtx := Lib.hid gtx
    have Gok := Lib.hid gok
    have Hlo := Lib.hid hlo
    have Hn9 := Lib.hid (And.intro hn9 hb9)
    have HnM := Lib.hid hn
    clear hr hn9 hb9 hlo hn gtx gok
    go_upto_region 25 with (first
      | (go_at_call 22
         refine HT.out.mono ?_
         rintro e w9 ⟨A1, n1, c1', rfl, hn1, hr1, hlies, hb⟩
         have HX9 := Lib.hid (HX8.out.bl hb)
         have HY9 := Lib.hid (HY8.out.bl hb)
         have HC9 := Lib.hid (HC8.out.bl hb)
         have HK9 := Lib.hid (HK8.out.trans (Kept.of_below hb))
         have Hr9 := Lib.hid hr1
         have Hn1 := Lib.hid hn1
         have Hl9 := Lib.hid hlies
         have m1 := HY9.out.cell (i := 19) (v := .int .i64 0) rfl
         have e1 := HY9.out.free 19
         clear hb hn1 hr1 hlies a0 l0))
    clear HX8 HY8 HC8 HK8 HT
    have hl0 : n1 ≤ n := by have := Hn1.out; have : (lM M1).length ≤ M1.length := (by unfold lM; split <;> simp); have := HnM.out; omega
    have Hlo1 : RowKit.Hid (∀ a, A1 = some a → 0 < n1 → a.block < lo) := Lib.hid (fun a ha h0 => by
      obtain ⟨a0, ha0, he⟩ := Hl9.out a ha
      have := Hlo.out a0 ha0 (by omega)
      omega)
    have Hbr : RowKit.Hid (n1 ≤ 100000 ∧ ∀ b ∈ lM M1, b < 256) := Lib.hid ⟨by have := Hn9.out.1; omega, lM_lt Hn9.out.2⟩
    clear hl0
    go_upto_region 26 with fail
    clear m1 e1
    have Hr10 := Lib.hid (rds_hi (i := 19) Hr9.out Hlo1.out Hgb.out.2 Hgb5.out.1 (.int .i64 tx))
    have HY10 := Lib.hid (HY9.out.set_ 19 (.int .i64 tx))
    have HX10 := Lib.hid (HX9.out.far (p := ⟨b5, 19, none⟩) (show b ≠ b5 by have := Hgb5.out.2; omega) (.int .i64 tx))
    have HC10 := Lib.hid (HC9.out.poke (i := 19) Hgb5.out.1 (.int .i64 tx))
    have HK10 := Lib.hid (kept_poke (i := 19) HK9.out hb5.out (.int .i64 tx))
    obtain ⟨w10, gw10⟩ : ∃ z, w9.setCell ⟨b5, 19, none⟩ (.int .i64 tx) = z := ⟨_, rfl⟩
    rw [gw10] at Hr10 HY10 HX10 HC10 HK10 ⊢
    clear gw10 HX9 HY9 HK9 HC9
    obtain ⟨Ao, no, co, a0, -, -, -, -⟩ := HC10.out.cell0
    have f0 := HC10.out.free 0
    go_upto_region 27 with fail
    clear a0 f0
    have hkg : Kept (At1 g) w10 (w10.setCell ⟨g, 0, none⟩ (.slice A1 n1 c1')) := kept_at _ _ _ _
    have HC11 := Lib.hid (HC10.out.setR Hr10.out Hbr.out.1 Hlo1.out Hbr.out.2)
    have HX11 := Lib.hid (hkg.whole HX10.out (fun e => by have h1 : b = g := e; have := Hgb.out; omega))
    have HY11 := Lib.hid (hkg.whole HY10.out (fun e => by have h1 : b5 = g := e; have := Hgb5.out; omega))
    have HK11 := Lib.hid (HK10.out.trans hkg)
    clear hkg
    obtain ⟨w11, gw11⟩ : ∃ z, w10.setCell ⟨g, 0, none⟩ (.slice A1 n1 c1') = z := ⟨_, rfl⟩
    rw [gw11] at HY11 HX11 HC11 HK11 ⊢
    clear gw11 HX10 HY10 HK10 HC10
    have m1 := HC11.out.cell1
    have e1 := HC11.out.free 1
    go_upto_region 28 with fail
    clear m1 e1
    have hkg : Kept (At1 g) w11 (w11.setCell ⟨g, 1, none⟩ (.bool true)) := kept_at _ _ _ _
    have HC12 := Lib.hid (HC11.out.setB true)
    have HX12 := Lib.hid (hkg.whole HX11.out (fun e => by have h1 : b = g := e; have := Hgb.out; omega))
    have HY12 := Lib.hid (hkg.whole HY11.out (fun e => by have h1 : b5 = g := e; have := Hgb5.out; omega))
    have HK12 := Lib.hid (HK11.out.trans hkg)
    clear hkg
    obtain ⟨w12, gw12⟩ : ∃ z, w11.setCell ⟨g, 1, none⟩ (.bool true) = z := ⟨_, rfl⟩
    rw [gw12] at HY12 HX12 HC12 HK12 ⊢
    clear gw12 HX11 HY11 HK11 HC11
    have l0 : w12.cell? ⟨b5, 0, none⟩ = some (.int .i64 kI) := HY12.out.cell (i := 0) rfl
    go_upto_region 28 with fail
    have Hbd : RowKit.Hid ((bad || !okO L) = true) := Lib.hid (by rw [HAt.out]; exact by rw [Hk.out, fd8_at GfI.out.symm B2, GB3.out]; rfl)
    have HV : RowKit.Hid (okO L = true → (⟨kI, x1, x2, 0, 0, 0, 0, 0, 0, 0, 0, 0, 0, 0, 0, 0, 0, fb, ⟨#[]⟩, tx⟩ : OpT) = opV L ∧ lM M1 = opL L) := Lib.hid (HVal.out _ _ (fun q => by
      rw [Hk.out] at q ⊢
      have j1 := okF_flag (k := 8) (.inr rfl) q
      have j2 : decide (c1 M ≠ 0) = fb := j1.trans (by rw [GfI.out]; exact Gfb.out)
      rw [show kI = 8 by have := GkI.out; have := Hk.out; omega, ← j2, ← Gtx.out, ← GM1.out]
      exact ⟨rfl, rfl⟩))
    replace HY12 : RowKit.Hid (Whole w12 b5 53 (opCells (⟨kI, x1, x2, 0, 0, 0, 0, 0, 0, 0, 0, 0, 0, 0, 0, 0, 0, fb, ⟨#[]⟩, tx⟩ : OpT))) := HY12
    obtain ⟨o9, go9⟩ : ∃ z, (⟨kI, x1, x2, 0, 0, 0, 0, 0, 0, 0, 0, 0, 0, 0, 0, 0, 0, fb, ⟨#[]⟩, tx⟩ : OpT) = z := ⟨_, rfl⟩
    rw [go9] at HV HY12
    clear go9
    refine wp_region_lit ?_
    refine wl_load (some 120) rfl (by rfl) 53 (.tmp 3) rfl b5 rfl 53 (opCells o9) _ HY12.out Try.underlying53 rfl (by kernel_rfl) ?_
    simp only [Act.put, stA_, st0_, st1_]
    refine wpList_store_row rfl 53 (.tmp 2) (.tmp 120) rfl b (opCells o9).toArray rfl rfl 53 (opCells zeroO).toArray HX12.out (by kernel_rfl) rfl (opCells_arr _) ?_
    have HXz : RowKit.Hid (Whole (w12.setRow b (opCells o9).toArray) b 53 (opCells o9)) := Lib.hid (Whole.row HX12.out (opCells o9))
    have HCz := Lib.hid (HC12.out.row Hgb.out.1 (opCells o9).toArray)
    have HKz := Lib.hid (kept_in HK12.out (Nat.le_of_eq Gb.out) (kept_row (S := fun i => i = b) rfl (opCells o9).toArray))
    go_wp2
    exact ret_whole rfl b rfl HXz.out Try.underlying53 rfl (by kernel_rfl) rfl ⟨o9, lM M1, rfl, ⟨by rw [Hbd.out]; exact HCz.out, HKz.out⟩, HV.out⟩
theorem rrop_any (lo g : Nat) (L : List Nat) (bad : Bool) (w : World) (h : RrAt lo w g L bad) :
    Calls Try.prog 61 #[.pointer (some ⟨g, 0, none⟩)] w fun e w' => ∃ (o : OpT) (R : List Nat), e = .returned (.agg (opCells o).toArray) ∧ Rr1 lo w w' g R (bad || !okO L) ∧ (okO L = true → o = opV L ∧ R = opL L) := by
  by_cases k3 : c1 L = 3
  · exact rrop_3 lo g L bad w h k3
  by_cases k5 : c1 L = 5
  · exact rrop_5 lo g L bad w h k5
  by_cases k6 : c1 L = 6
  · exact rrop_6 lo g L bad w h k6
  by_cases k7 : c1 L = 7
  · exact rrop_7 lo g L bad w h k7
  by_cases k8 : c1 L = 8
  · exact rrop_8 lo g L bad w h k8
  exact rrop_0 lo g L bad w h k3 k5 k6 k7 k8
end Go.Proofs.Ytinfbaflkjghhaa
/- The document's Take. -/
namespace Go.Proofs.Ytinfbaflkjghhaa
open Go.RowKit
theorem okN_snoc : ∀ (k : Nat) (L : List Nat), okN (k + 1) L = (okN k L && okO (edL k L))
  | 0, L => by
    show (okO L && true) = (true && okO L)
    rw [Bool.and_true, Bool.true_and]
  | k + 1, L => by
    show (okO L && okN (k + 1) (opL L)) = ((okO L && okN k (opL L)) && okO (edL k (opL L)))
    rw [okN_snoc k, Bool.and_assoc]
theorem okN_le : ∀ {n k : Nat} (L : List Nat), k ≤ n → okN n L = true → okN k L = true
  | n, 0, _, _, _ => rfl
  | 0, k + 1, _, h, _ => absurd h (by omega)
  | n + 1, k + 1, L, h, q => by
    have h9 := Bool.and_eq_true_iff.1 (show (okO L && okN n (opL L)) = true from q)
    show (okO L && okN k (opL L)) = true
    rw [h9.1, okN_le (opL L) (by omega) h9.2]
    rfl
theorem fdV_t {k : Nat} {x : Int × Int} {M : List Nat} (hb : ∀ b ∈ M, b < 256) : (fdV k x M).t.size ≤ 255 := by
  unfold fdV
  by_cases k3 : k = 3
  · rw [if_pos k3]; exact Nat.zero_le _
  rw [if_neg k3]
  by_cases k5 : k = 5
  · rw [if_pos k5]; exact Nat.zero_le _
  rw [if_neg k5]
  by_cases k6 : k = 6
  · rw [if_pos k6]; exact Nat.zero_le _
  rw [if_neg k6]
  by_cases k7 : k = 7
  · rw [if_pos k7]
    show (txT (M.drop 1)).size ≤ 255
    unfold txT
    split
    · rw [txt_size, List.length_take]
      have := byte_lt (drop_lt hb 1)
      omega
    · exact Nat.zero_le _
  rw [if_neg k7]
  by_cases k8 : k = 8
  · rw [if_pos k8]; exact Nat.zero_le _
  rw [if_neg k8]
  exact Nat.zero_le _
theorem edV_t : ∀ (n : Nat) {L : List Nat}, (∀ b ∈ L, b < 256) → ∀ o ∈ edV n L, o.t.size ≤ 255
  | 0, _, _, _, h => by cases h
  | n + 1, L, hb, o, h => by
    rcases List.mem_cons.1 (show o ∈ opV L :: edV n (opL L) from h) with rfl | h
    · exact fdV_t (lI_lt (drop_lt hb 1))
    · exact edV_t n (opL_lt hb) o h
theorem okEd_got {B : List Nat} (h : okEd B = true) : okN (c1 B) (B.drop 1) = true ∧ 1 ≤ B.length ∧ c1 B ≤ 6 ∧ mayE (rdV B) = 0 := by
  have h1 := okEd_is h
  obtain ⟨-, -, h4, h5, h6⟩ := isE_rd h1
  have h7 := mayE_ok h1.1
  exact ⟨h4, h5, by omega, h1.1⟩
/-- How a round of the document's Take stands. -/
structure EdR (lo g b2 b7 : Nat) (B1 : Bool) (L0 : List Nat) (w : World) (k : Nat) (A : Option Addr) (c : Nat) (R : List Nat) (bad : Bool) (Os : List OpT) (W : World) : Prop where
  cu : RrAt lo W g R bad
  hy : Whole W b7 28 [.slice A k c]
  hx : Whole W b2 28 [.slice none 0 0]
  own : W.ownsRow lo 53 20 (.slice A k c) k (rowsV opCells Os)
  kp : Below lo w W
  st : bad = (B1 || !okN k L0)
  vl : okN k L0 = true → Os = edV k L0 ∧ R = edL k L0
theorem EdR.bl {lo g b2 b7 k c : Nat} {B1 bad : Bool} {L0 R : List Nat} {Os : List OpT} {w W W' : World} {A : Option Addr} (h : EdR lo g b2 b7 B1 L0 w k A c R bad Os W) (hlo : lo ≤ w.heap.size) (hb : Below W.heap.size W W') : EdR lo g b2 b7 B1 L0 w k A c R bad Os W' :=
  ⟨h.cu.bl hb, h.hy.bl hb, h.hx.bl hb, own_up h.own hb, h.kp.trans (hb.mono (Nat.le_trans hlo h.kp.size)), h.st, h.vl⟩
/-- What the document's Take tells. -/
def GivesTR (w : World) (B : List Nat) (e : Ending) (w' : World) : Prop :=
  ∃ A1 k1 A2 k2 m l, e = .returned (.tuple #[.agg #[.slice A1 l k1], .slice A2 m k2, .int .i64 (tkE B)]) ∧ l = (tkV B).length ∧ m = (tkR B).length ∧ w'.ownsRow w.heap.size 53 20 (.slice A1 l k1) l (rowsV opCells (tkV B)) ∧ RdS w' w'.heap.size 1 A2 m k2 (rowsV f8 (tkR B)) ∧ Below w.heap.size w w'
set_option maxRecDepth 100000 in
set_option maxHeartbeats 8000000 in
theorem rtake10_any (A0 : Option Addr) (n0 c0 : Nat) (B : List Nat) (w : World) (hl0 : B.length = n0) (h : RdS w w.heap.size 1 A0 n0 c0 (rowsV f8 B)) (hn0 : n0 ≤ 90000) (hb : ∀ b ∈ B, b < 256) :
    Calls Try.prog 39 #[.slice A0 n0 c0] w (GivesTR w B) := by
  obtain ⟨i0, hi, hz0, hz1, hz2⟩ := info_parts_ info_op
  have HR0 := Lib.hid h
  have HX0 : RowKit.Hid (Whole ((w.alloc (.cells #[.slice none 0 0] 28)).alloc (.cells #[.slice A0 n0 c0, .bool false] 107)) w.heap.size 28 [.slice none 0 0]) := Lib.hid ((Whole.new_ w 28 [_]).al _)
  have HG0 : RowKit.Hid (Whole ((w.alloc (.cells #[.slice none 0 0] 28)).alloc (.cells #[.slice A0 n0 c0, .bool false] 107)) (w.heap.size + 1) 107 [.slice A0 n0 c0, .bool false]) := Lib.hid (Whole.new2 (by simp))
  have HB0 : RowKit.Hid (Below w.heap.size w ((w.alloc (.cells #[.slice none 0 0] 28)).alloc (.cells #[.slice A0 n0 c0, .bool false] 107))) := Lib.hid (below2 w _ _)
  have HC0 : RowKit.Hid (RrAt w.heap.size ((w.alloc (.cells #[.slice none 0 0] 28)).alloc (.cells #[.slice A0 n0 c0, .bool false] 107)) (w.heap.size + 1) B false) := Lib.hid ⟨A0, n0, c0, HG0.out, (HR0.out.al _).al _, by omega, fun a ha h0 => h.low a ha h0, by omega, hb⟩
  have Hb := Lib.hid hb
  have Hl0 := Lib.hid hl0
  have hlt := byte_lt hb
  obtain ⟨n, gn⟩ : ∃ z, c1 B = z := ⟨_, rfl⟩
  obtain ⟨L0, gL0⟩ : ∃ z, B.drop 1 = z := ⟨_, rfl⟩
  obtain ⟨B1, gB1⟩ : ∃ z, (!decide (1 ≤ B.length)) = z := ⟨_, rfl⟩
  have HN1 : RowKit.Hid (∀ lo g W, RrAt lo W g B false → Calls Try.prog 60 #[.pointer (some ⟨g, 0, none⟩)] W fun e w' => e = .returned (.int .i64 (n : Int)) ∧ Rr1 lo W w' g L0 B1) := Lib.hid (fun lo g W hc => by
    have h1 := rone_any lo g B false W hc
    rw [gn, gL0, gB1] at h1
    exact h1)
  rw [gn] at hlt
  have Gn := Lib.hid gn
  have GL0 := Lib.hid gL0
  have GB1 := Lib.hid gB1
  clear h hb hl0 gn gL0 gB1 HG0
  go_enter Try.func39, Try.ntmps39
  go_upto_region 2 with fail
  obtain ⟨w0, gw0⟩ : ∃ z, (w.alloc (.cells #[.slice none 0 0] 28)).alloc (.cells #[.slice A0 n0 c0, .bool false] 107) = z := ⟨_, rfl⟩
  obtain ⟨g, gg⟩ : ∃ z, w.heap.size + 1 = z := ⟨_, rfl⟩
  rw [gw0] at HX0 HB0 HC0 ⊢
  rw [gg] at HC0 ⊢
  obtain ⟨b2, gb2⟩ : ∃ z, w.heap.size = z := ⟨_, rfl⟩
  rw [gb2] at HX0 HC0 HB0 ⊢
  have Gb2 := Lib.hid gb2
  have Hg : RowKit.Hid (b2 < g) := Lib.hid (by omega)
  clear gw0 gb2 gg
  go_upto_region 5 with (first
    | (go_at_call 60
       refine (HN1.out _ _ _ HC0.out).mono ?_
       rintro e w1 ⟨rfl, hcu⟩
       have HS1 : RowKit.Hid (EdR b2 g b2 w1.heap.size B1 L0 w 0 none 0 L0 B1 [] (w1.alloc (.cells #[.slice none 0 0] 28))) := Lib.hid ⟨hcu.1.al _, Whole.new_ _ _ [_], (hcu.2.whole HX0.out (fun e => by have h1 : b2 = g := e; have := Hg.out; omega)).al _, World.ownsRow_nil _ _ _ _, (by
         have h1 : Below b2 w w1 := HB0.out.trans (hcu.2.below (Nat.le_trans (Nat.le_of_eq Gb2.out.symm) HB0.out.size) (fun i hi e => by have h1 : i = g := e; have := Hg.out; omega))
         exact h1.alloc (Nat.le_trans (Nat.le_of_eq Gb2.out.symm) h1.size) _), by show B1 = (B1 || !true); rw [Bool.not_true, Bool.or_false], fun _ => ⟨rfl, rfl⟩⟩
       have Hb7 : RowKit.Hid (g < w1.heap.size ∧ b2 < w1.heap.size) := Lib.hid ⟨hcu.1.lt, by have := hcu.1.lt; have := Hg.out; omega⟩
       clear hcu))
  obtain ⟨w2, gw2⟩ : ∃ z, w1.alloc (.cells #[.slice none 0 0] 28) = z := ⟨_, rfl⟩
  obtain ⟨b7, gb7⟩ : ∃ z, w1.heap.size = z := ⟨_, rfl⟩
  rw [gw2] at HS1 ⊢
  rw [gb7] at HS1 Hb7 ⊢
  clear gw2 gb7 HX0 HB0 HC0 HN1
  go_loopw [8] (fun i wr => ∃ (k : Nat) (A : Option Addr) (c : Nat) (R : List Nat) (bad : Bool) (Os : List OpT), k ≤ n ∧ k ≤ 7 ∧ i = .int .i64 (k : Int) ∧ RowKit.Hid (EdR b2 g b2 b7 B1 L0 w k A c R bad Os wr)) (fun i _ => 7 - (intOf i).toNat)
  case atStart => exact ⟨0, none, 0, L0, B1, [], Nat.zero_le _, Nat.zero_le _, rfl, HS1⟩
  case round =>
    clear HS1
    obtain ⟨k, A, c, R, bad, Os, hk, hk7, rfl, hin⟩ := hrel
    by_cases hgo : k < n ∧ k ≤ 6 ∧ bad = false
    · obtain ⟨hk1, hk2, rfl⟩ := hgo
      have hi1 : (k : Int) < (n : Int) := by omega
      have hi2 : (k : Int) ≤ 6 := by omega
      have HRk := Lib.hid (fun W hc => rrop_any b2 g R false W hc)
      have l1 := hin.out.cu.cell1
      go_upto_region 7 with fail
      clear l1 hi1 hi2
      have HD : RowKit.Hid (Ext wr wr.drew) := Lib.hid (below_drewN wr.heap.size wr 1)
      have hne3 := own_ne hin.out.own hin.out.hy (by decide)
      have hneg : some g ≠ (Value.slice A k c).ownBlock := by
        obtain ⟨A1, n1, c1', q1, -, -, -, -⟩ := hin.out.cu
        exact own_ne hin.out.own q1 (by decide)
      have Hneg := Lib.hid hneg
      have hg3 : g ≠ b7 := by have := Hb7.out; omega
      have ld0 : ∀ w', Kept (fun i => i = g ∨ some i = (Value.slice A k c).ownBlock) wr.drew w' → w'.cell? ⟨b7, 0, none⟩ = some (.slice A k c) := fun w' hh => hh.cell (hin.out.hy.dr.cell (i := 0) rfl) (fun e => by
        rcases e with e | e
        · exact hg3 e.symm
        · exact hne3 e)
      have Hlw : RowKit.Hid (b2 ≤ w.heap.size) := Lib.hid (Nat.le_of_eq Gb2.out.symm)
      clear hne3 hneg hg3
      refine wp_region_tail (fun i => i = g ∨ some i = (Value.slice A k c).ownBlock) [7] (by kernel_rfl) ?_
      apply wpT_next 0 (some 31) (by kernel_rfl)
      · rfl
      · rfl
      · kernel_rfl
      · kernel_rfl
      · kernel_rfl
      · exact fun _ _ _ _ h => h
      apply Exists.intro
      apply And.intro
      · apply yr_run; rfl; intro w' hw'; go_simp; (try with_reducible rfl)
      simp only [Act.put, stA_, st0_, st1_]
      apply wpT_next 1 (some 32) (by kernel_rfl)
      · rfl
      · rfl
      · kernel_rfl
      · kernel_rfl
      · kernel_rfl
      · exact fun _ _ _ _ h => h
      apply Exists.intro
      apply And.intro
      · apply yr_run; rfl; intro w' hw'; go_simp; (try with_reducible rfl)
      simp only [Act.put, stA_, st0_, st1_]
      apply wpT_next 2 (some 33) (by kernel_rfl)
      · rfl
      · rfl
      · kernel_rfl
      · kernel_rfl
      · kernel_rfl
      · exact fun _ _ _ _ h => h
      apply Exists.intro
      apply And.intro
      · apply yr_run; rfl; intro w' hw'; go_simp; (try with_reducible rfl)
      simp only [Act.put, stA_, st0_, st1_]
      apply wpT_call 3 (some 34)
      · rfl
      · rfl
      · kernel_rfl
      · rfl
      · intro w'; go_simp; first | done | exact ⟨rfl, rfl⟩ | with_reducible rfl
      intro w' hw'
      have hwx := Ext.trans HD.out hw'
      have HAl := hin.out.bl Hlw.out hwx
      refine (HRk.out _ HAl.cu).mono ?_
      rintro e w1 ⟨o, R5, rfl, hcu, hok⟩
      refine ⟨_, rfl, hcu.2.wider (fun i _ e => .inl e), ?_⟩
      have HC5 := Lib.hid hcu.1
      have HOk := Lib.hid hok
      have HY5 := Lib.hid (hcu.2.whole HAl.hy (fun e => by have h1 : b7 = g := e; have := Hb7.out; omega))
      have HX5 := Lib.hid (hcu.2.whole HAl.hx (fun e => by have h1 : b2 = g := e; have := Hg.out; omega))
      have HO5 := Lib.hid (own_at1 HAl.own hcu.2 Hneg.out)
      have HK5 : RowKit.Hid (Below b2 w w1) := Lib.hid (HAl.kp.trans (hcu.2.below (Nat.le_trans Hlw.out HAl.kp.size) (fun i hi e => by have h1 : i = g := e; have := Hg.out; omega)))
      clear hw' hcu hwx HAl ld0 hok
      simp only [Act.put, stA_, st0_, st1_]
      apply wpT_run 4 (some 35)
      · rfl
      · rfl
      · kernel_rfl
      · rfl
      intro w' hw'
      refine ⟨.slice (some ⟨w'.heap.size, 0, none⟩) 1 1, w'.alloc (.cells (opCells o).toArray 53), exec_buildSlice 26 53 1 #[(0, .tmp 34)] (by rfl) Try.underlying26 _ (by kernel_rfl), Kept.of_below (below1 _ _), ?_⟩
      have hE : Ext w1 (w'.alloc (.cells (opCells o).toArray 53)) := Ext.trans hw' (below1 _ _)
      have HL6 : RowKit.Hid (RdS (w'.alloc (.cells (opCells o).toArray 53)) (w'.alloc (.cells (opCells o).toArray 53)).heap.size 20 (some ⟨w'.heap.size, 0, none⟩) 1 1 (rowsV opCells [o])) := Lib.hid (by rw [rowsOp1]; exact RdS.of_whole8 (Whole.new_ _ _ _) rfl)
      have HC6 := Lib.hid (HC5.out.bl hE)
      have HY6 := Lib.hid (HY5.out.bl hE)
      have HX6 := Lib.hid (HX5.out.bl hE)
      have HO6 := Lib.hid (own_up HO5.out hE)
      have HK6 : RowKit.Hid (Below b2 w (w'.alloc (.cells (opCells o).toArray 53))) := Lib.hid (HK5.out.trans (Below.mono hE (Nat.le_trans Hlw.out HK5.out.size)))
      obtain ⟨w2, gw2⟩ : ∃ z, w'.alloc (.cells (opCells o).toArray 53) = z := ⟨_, rfl⟩
      obtain ⟨g6, gg6⟩ : ∃ z, w'.heap.size = z := ⟨_, rfl⟩
      rw [gw2] at HL6 HC6 HY6 HX6 HO6 HK6 ⊢
      rw [gg6] at HL6 ⊢
      clear hw' hE gw2 gg6 HC5 HY5 HX5 HO5 HK5
      simp only [Act.put, stA_, st0_, st1_]
      apply wpT_run 5 (some 36)
      · rfl
      · rfl
      · kernel_rfl
      · rfl
      intro w' hw'
      have hO := own_up HO6.out hw'
      have hY := HY6.out.bl hw'
      have hX := HX6.out.bl hw'
      have hC := HC6.out.bl hw'
      have hK : Below b2 w w' := HK6.out.trans (Below.mono hw' (Nat.le_trans Hlw.out HK6.out.size))
      have hB2 : b2 ≤ w'.heap.size := Nat.le_trans Hlw.out hK.size
      obtain ⟨vv, w'', hrun, ho, hb, hg, hbk⟩ := Ow.app2 (P := Try.prog) 26 26 53 i0 _ 20 168 _ Try.underlying26 hi hz0 hz1 hz2 rfl (by decide) _ _ _ (ow_of hO hB2) _ _ _ _ _ (HL6.out.bl hw') (rowsV_one opCells opCells_one [o]) (by unfold maxLen; omega) (by omega)
      refine ⟨vv, w'', exec_append (by rfl) (by rfl) (by rfl) hrun, kept_grow hg (fun i e => .inr e), ?_⟩
      obtain ⟨A7, c7, rfl, -⟩ := ho.rds
      have hne3 := own_ne hO hY (by decide)
      have hne2 := own_ne hO hX (by decide)
      have hkb : Kept (fun i => some i = (Value.slice A k c).ownBlock) w' w'' := kept_grow hg (fun i e => e)
      have hlo7 : ∀ i, some i = (Value.slice A k c).ownBlock → b2 ≤ i := fun i e => (hO.lt i e.symm).1
      have HC7 := Lib.hid (hC.kept hkb Hneg.out (fun i hi e => by have h1 := hlo7 i e; omega))
      have HY7 := Lib.hid (hkb.whole hY hne3)
      have HX7 := Lib.hid (hkb.whole hX hne2)
      have HO7 := Lib.hid ho.own
      have HK7 : RowKit.Hid (Below b2 w w'') := Lib.hid (hK.trans (hkb.below hB2 (fun i hi e => by have h1 := hlo7 i e; omega)))
      obtain ⟨w3, gw3⟩ : ∃ z, w'' = z := ⟨_, rfl⟩
      rw [gw3] at HC7 HY7 HX7 HO7 HK7 ⊢
      clear hw' hO hY hX hC hK hB2 hrun ho hb hg hbk hne3 hne2 hkb hlo7 gw3 HL6 HC6 HY6 HX6 HO6 HK6
      simp only [Act.put, stA_, st0_, st1_]
      apply wpT_next 6 (some 37) (by kernel_rfl)
      · rfl
      · rfl
      · kernel_rfl
      · kernel_rfl
      · kernel_rfl
      · exact fun _ _ _ _ h => h
      apply Exists.intro
      apply And.intro
      · apply yr_run; rfl; intro w' hw'; go_simp; (try with_reducible rfl)
      simp only [Act.put, stA_, st0_, st1_]
      apply wpT_last 7
      · rfl
      · rfl
      · kernel_rfl
      · rfl
      · decide
      intro w' hw'
      have hy := HY7.out.bl hw'
      have hcl := hy.cell (i := 0) rfl
      have hfr := hy.free 0
      refine ⟨w'.setCell ⟨b7, 0, none⟩ (.slice A7 (k + 1) c7), ?_, ?_⟩
      · go_simp; first | done | exact rfl
      have HS8 : RowKit.Hid (EdR b2 g b2 b7 B1 L0 w (k + 1) A7 c7 R5 (false || !okO R) (Os ++ [o]) (w'.setCell ⟨b7, 0, none⟩ (.slice A7 (k + 1) c7))) := Lib.hid (by
        have hx := HX7.out.bl hw'
        have hst := hin.out.st
        have hB1 : B1 = false := by cases B1; rfl; cases hst
        have hkN : okN k L0 = true := by
          rw [hB1, Bool.false_or] at hst
          cases hq : okN k L0
          · rw [hq] at hst; cases hst
          · rfl
        obtain ⟨v1, v2⟩ := hin.out.vl hkN
        refine ⟨(HC7.out.bl hw').poke Hb7.out.1 _, hy.set_ 0 _, hx.far (p := ⟨b7, 0, none⟩) (show b2 ≠ b7 by have := Hb7.out; omega) _, ?_, (HK7.out.trans (Below.mono hw' (Nat.le_trans Hlw.out HK7.out.size))).setCell (p := ⟨b7, 0, none⟩) (by show b2 ≤ b7; have := Hb7.out; omega) _, ?_, fun q => ?_⟩
        · rw [rowsV_app]
          exact own_cell_far (own_up HO7.out hw') (own_ne (own_up HO7.out hw') hy (by decide)) _
        · rw [okN_snoc, hkN, hB1, ← v2]
          rfl
        · rw [okN_snoc, hkN, Bool.true_and, ← v2] at q
          obtain ⟨u1, u2⟩ := HOk.out q
          rw [edV_snoc, edL_snoc, ← v1, ← v2, u1, u2]
          exact ⟨rfl, rfl⟩)
      obtain ⟨w4, gw4⟩ : ∃ z, w'.setCell ⟨b7, 0, none⟩ (.slice A7 (k + 1) c7) = z := ⟨_, rfl⟩
      rw [gw4] at HS8 ⊢
      clear hw' hy hcl hfr gw4 HC7 HY7 HX7 HO7 HK7
      try simp only [Act.put, stA_, st0_, st1_]
      refine wpT_done (by kernel_rfl) ?_ _
      intro wE hwE
      have HS9 := Lib.hid (HS8.out.bl Hlw.out hwE)
      clear HS8 hwE hin
      go_wp2
      go_roundw
      case rel => exact ⟨k + 1, A7, c7, R5, _, _, by omega, by omega, by go_num, HS9⟩
      case measure => simp [intOf]; omega
    · go_upto_region 5 with fail
      go_cut [28] (fun v z => v = .bool false ∧ z = wr)
      case first =>
        by_cases hk1 : k < n
        · have hi1 : (k : Int) < (n : Int) := by omega
          by_cases hk2 : k ≤ 6
          · have hi2 : (k : Int) ≤ 6 := by omega
            obtain rfl : bad = true := by
              cases bad with
              | true => rfl
              | false => exact absurd ⟨hk1, hk2, rfl⟩ hgo
            have l1 := hin.out.cu.cell1
            clear hgo
            go_wp2
            go_meet
            exact ⟨rfl, rfl⟩
          · have hi2 : ¬ (k : Int) ≤ 6 := by omega
            clear hgo
            go_wp2
            go_meet
            exact ⟨rfl, rfl⟩
        · have hi1 : ¬ (k : Int) < (n : Int) := by omega
          clear hgo
          go_wp2
          go_meet
          exact ⟨rfl, rfl⟩
      case rest =>
      obtain ⟨rfl, hz⟩ := hcut
      replace hz := hz.symm
      subst hz
      go_upto_region 8 with fail
      have l1 := hin.out.cu.cell1
      have l2 := hin.out.hy.cell (i := 0) rfl
      have q0 := hin.out.hx.cell (i := 0) rfl
      have f0 := hin.out.hx.free 0
      have Hlw : RowKit.Hid (b2 ≤ w.heap.size) := Lib.hid (Nat.le_of_eq Gb2.out.symm)
      have Hno : RowKit.Hid (∀ W, Below b2 w W → okEd B = false → GivesTR w B (.returned (.tuple #[.agg #[.slice none 0 0], .slice A0 n0 c0, .int .i64 2])) W) := Lib.hid (fun W hb hq => by
        have e1 : tkV B = [] := by unfold tkV; rw [hq]; rfl
        have e2 : tkR B = B := by unfold tkR; rw [hq]; rfl
        have e3 : tkE B = 2 := by unfold tkE; rw [hq]; rfl
        rw [← Gb2.out] at hb
        unfold GivesTR
        rw [e1, e2, e3]
        exact ⟨none, 0, A0, c0, n0, 0, rfl, rfl, Hl0.out.symm, World.ownsRow_nil _ _ _ _, HR0.out.bl hb, hb⟩)
      have HXz := Lib.hid (hin.out.hx.set_ 0 (.slice none 0 0))
      have HBz := Lib.hid (hin.out.kp.setCell (p := ⟨b2, 0, none⟩) (Nat.le_refl _) (.slice none 0 0))
      cases bad with
      | true =>
        have hq : okEd B = false := by
          cases he : okEd B with
          | false => rfl
          | true =>
            obtain ⟨j1, j2, j3, -⟩ := okEd_got he
            rw [GL0.out, Gn.out] at j1
            have h1 := hin.out.st
            rw [← GB1.out, decide_eq_true j2, okN_le L0 hk j1] at h1
            cases h1
        have HP := Lib.hid (Hno.out _ HBz.out hq)
        clear hq hgo
        go_wp2
        exact ret_whole3 rfl b2 rfl rfl rfl HXz.out Try.underlying28 rfl (by kernel_rfl) rfl HP.out
      | false =>
        by_cases hnk : k = n
        · subst hnk
          have hkN : okN k L0 = true := by
            have hst := hin.out.st
            cases hq : okN k L0
            · rw [hq] at hst; cases B1 <;> cases hst
            · rfl
          have hB1 : 1 ≤ B.length := by
            have hst := hin.out.st
            rw [hkN] at hst
            by_cases hq : 1 ≤ B.length
            · exact hq
            · rw [← GB1.out, decide_eq_false hq] at hst; cases hst
          obtain ⟨v1, v2⟩ := hin.out.vl hkN
          have hV : Os = rdV B := by rw [v1, ← GL0.out]; unfold rdV; rw [Gn.out]
          have hR : R = rdR B := by rw [v2, ← GL0.out]; unfold rdR; rw [Gn.out]
          have HM := Lib.hid (fun W (h : RdS W W.heap.size 20 A k c (rowsV opCells Os)) => rmayedit_any A k c Os W h (by unfold maxLen; omega) (fun o ho => by rw [v1] at ho; have := edV_t k (L := L0) (by rw [← GL0.out]; exact drop_lt Hb.out 1) o ho; unfold maxLen; omega))
          have Hmx : RowKit.Hid (mayE Os ≠ 0 → okEd B = false) := Lib.hid (fun hx => by
            cases he : okEd B with
            | false => rfl
            | true => exact absurd (hV ▸ (okEd_got he).2.2.2) hx)
          have Hyes : RowKit.Hid (∀ A c Ag cg ng W, mayE Os = 0 → W.ownsRow b2 53 20 (.slice A k c) k (rowsV opCells Os) → RdS W W.heap.size 1 Ag ng cg (rowsV f8 R) → ng = R.length → Below b2 w W → GivesTR w B (.returned (.tuple #[.agg #[.slice A k c], .slice Ag ng cg, .int .i64 0])) W) := Lib.hid (fun A c Ag cg ng W hx h1 h2 h3 h4 => by
            have he : okEd B = true := (is_okEd (rd_isE Hb.out hB1 (by rw [Gn.out, GL0.out]; exact hkN) (hV ▸ hx))).1
            have e1 : tkV B = Os := by unfold tkV; rw [if_pos he, hV]
            have e2 : tkR B = R := by unfold tkR; rw [if_pos he, hR]
            have e3 : tkE B = 0 := by unfold tkE; rw [if_pos he]
            rw [← Gb2.out] at h4 h1
            unfold GivesTR
            rw [e1, e2, e3]
            exact ⟨A, c, Ag, cg, ng, k, rfl, ((own_rds h1).rlen opCells_len' (by decide)).symm, h3, h1, h2, h4⟩)
          obtain ⟨x, gx⟩ : ∃ z, mayE Os = z := ⟨_, rfl⟩
          rw [gx] at HM Hmx Hyes
          clear gx v1 v2 hV hR hB1 hkN hgo
          by_cases hx0 : x = 0
          · subst hx0
            go_upto_region 10 with (first
              | (go_at_call 44
                 refine (HM.out _ (own_rds hin.out.own)).mono ?_
                 rintro e w5 ⟨rfl, hb⟩
                 have HX5 := Lib.hid (hin.out.hx.bl hb)
                 have HY5 := Lib.hid (hin.out.hy.bl hb)
                 have HC5 := Lib.hid (hin.out.cu.bl hb)
                 have HO5 := Lib.hid (own_up hin.out.own hb)
                 have HB5 : RowKit.Hid (Below b2 w w5) := Lib.hid (hin.out.kp.trans (hb.mono (Nat.le_trans Hlw.out hin.out.kp.size)))
                 clear hb l1 l2 q0 f0))
            have HD : RowKit.Hid (Ext w5 w5.drew) := Lib.hid (below_drewN w5.heap.size w5 1)
            obtain ⟨Ag, ng, cg, a0, hrg, hng, -, hlg⟩ := HC5.out.cell0
            have ldT : ∀ w', Kept (fun i => i = b2) w5.drew w' → w'.cell? ⟨b7, 0, none⟩ = some (.slice A k c) := fun w' hh => hh.cell (HY5.out.dr.cell (i := 0) rfl) (fun e => by have h1 : b7 = b2 := e; have := Hb7.out; omega)
            have ldG : ∀ w', Kept (fun i => i = b2) w5.drew w' → w'.cell? ⟨g, 0, none⟩ = some (.slice Ag ng cg) := fun w' hh => hh.cell (HD.out.cell a0) (fun e => by have h1 : g = b2 := e; have := Hg.out; omega)
            have HRg := Lib.hid hrg
            have HLg := Lib.hid hlg
            have Hng := Lib.hid hng
            clear hrg hlg hng a0
            refine wp_region_reg (fun i => i = b2) (by kernel_rfl) ?_
            refine opR_ 0 56 (v := ?_) ?_ ?_; rotate_left
            · intro w' hw'; go_simp; (try with_reducible rfl)
            simp only [st0_, st1_]
            refine opR_ 1 57 (v := ?_) ?_ ?_; rotate_left
            · intro w' hw'; go_simp; (try with_reducible rfl)
            simp only [st0_, st1_]
            refine opR_ 2 58 (v := ?_) ?_ ?_; rotate_left
            · intro w' hw'; go_simp; (try with_reducible rfl)
            simp only [st0_, st1_]
            refine opR_ 3 59 (v := ?_) ?_ ?_; rotate_left
            · intro w' hw'; go_simp; (try with_reducible rfl)
            simp only [st0_, st1_]
            refine opR_ 4 60 (v := ?_) ?_ ?_; rotate_left
            · intro w' hw'; go_simp; (try with_reducible rfl)
            simp only [st0_, st1_]
            apply wpR_store 5
            · rfl
            · rfl
            · kernel_rfl
            · rfl
            intro w' hw'
            have hE := Ext.trans HD.out hw'
            have hx := HX5.out.bl hE
            have q0 := hx.cell (i := 0) rfl
            have f0 := hx.free 0
            refine ⟨w'.setCell ⟨b2, 0, none⟩ (.slice A k c), ?_, Kept.setCell (S := fun i => i = b2) (Kept.refl _ w') (p := ⟨b2, 0, none⟩) (.inl rfl) _, ?_⟩
            · go_simp
            have HX7 := Lib.hid (hx.set_ 0 (.slice A k c))
            have HB7 : RowKit.Hid (Below b2 w (w'.setCell ⟨b2, 0, none⟩ (.slice A k c))) := Lib.hid ((HB5.out.trans (Below.mono hE (Nat.le_trans Hlw.out HB5.out.size))).setCell (p := ⟨b2, 0, none⟩) (Nat.le_refl _) _)
            have HO7 := Lib.hid (own_cell_far (g := b2) (i := 0) (own_up HO5.out hE) (own_ne (own_up HO5.out hE) hx (by decide)) (.slice A k c))
            have HR7 : RowKit.Hid (RdS (w'.setCell ⟨b2, 0, none⟩ (.slice A k c)) (w'.setCell ⟨b2, 0, none⟩ (.slice A k c)).heap.size 1 Ag ng cg (rowsV f8 R)) := Lib.hid ((HRg.out.bl hE).kept_ne (kept_at w' b2 0 _) (fun a ha hn e => by have h1 := HLg.out a ha hn; have e2 : a.block = b2 := e; omega))
            obtain ⟨w7, gw7⟩ : ∃ z, w'.setCell ⟨b2, 0, none⟩ (.slice A k c) = z := ⟨_, rfl⟩
            rw [gw7] at HX7 HB7 HO7 HR7 ⊢
            clear gw7 hw' hE hx q0 f0 HX5 HB5 HO5 HRg
            try simp only [Act.put, stA_, st0_, st1_]
            refine opR_ 6 3 (v := ?_) ?_ ?_; rotate_left
            · intro w' hw'; go_simp; (try with_reducible rfl)
            simp only [st0_, st1_]
            refine opR_ 7 4 (v := ?_) ?_ ?_; rotate_left
            · intro w' hw'; go_simp; (try with_reducible rfl)
            simp only [st0_, st1_]
            refine wpR_done (by kernel_rfl) ?_ _
            intro wE hwE
            have HXe := Lib.hid (HX7.out.bl hwE)
            have HP := Lib.hid (Hyes.out A c Ag cg ng wE (by trivial) (own_up HO7.out hwE) (HR7.out.bl hwE) Hng.out (HB7.out.trans (Below.mono hwE (Nat.le_trans Hlw.out HB7.out.size))))
            clear hwE HX7 HB7 HO7 HR7
            go_wp2
            exact ret_whole3 rfl b2 rfl rfl rfl HXe.out Try.underlying28 rfl (by kernel_rfl) rfl HP.out
          · have q1 : (x == 0) = false := beq_eq_false_iff_ne.2 hx0
            have q2 : (x != 0) = true := bne_iff_ne.2 hx0
            have hq := Hmx.out hx0
            have Hq := Lib.hid hq
            clear hq hx0
            go_wp2_with (first
              | (go_at_call 44
                 refine (HM.out _ (own_rds hin.out.own)).mono ?_
                 rintro e w5 ⟨rfl, hb⟩
                 have hx5 := hin.out.hx.bl hb
                 have HXy := Lib.hid (hx5.set_ 0 (.slice none 0 0))
                 have HP := Lib.hid (Hno.out _ ((hin.out.kp.trans (hb.mono (Nat.le_trans Hlw.out hin.out.kp.size))).setCell (p := ⟨b2, 0, none⟩) (Nat.le_refl _) (.slice none 0 0)) Hq.out)
                 clear l1 l2 q0 f0
                 have q0 := hx5.cell (i := 0) rfl
                 have f0 := hx5.free 0
                 clear hb hx5))
            exact ret_whole3 rfl b2 rfl rfl rfl HXy.out Try.underlying28 rfl (by kernel_rfl) rfl HP.out
        · have hq : okEd B = false := by
            cases he : okEd B with
            | false => rfl
            | true =>
              obtain ⟨-, -, j3, -⟩ := okEd_got he
              rw [Gn.out] at j3
              exact absurd ⟨by omega, by omega, rfl⟩ hgo
          have HP := Lib.hid (Hno.out _ HBz.out hq)
          have q1 : ((n : Int) != (k : Int)) = true := bne_iff_ne.2 (by omega)
          have q2 : ((n : Int) == (k : Int)) = false := beq_eq_false_iff_ne.2 (by omega)
          clear hq hgo hnk
          go_wp2
          exact ret_whole3 rfl b2 rfl rfl rfl HXz.out Try.underlying28 rfl (by kernel_rfl) rfl HP.out
end Go.Proofs.Ytinfbaflkjghhaa
