/- DiagramMoves' walk, where a dart moves. -/
import Derived.Test.YtdhglhcpgmfpoaaDg28
import Derived.Test.YtdhglhcpgmfpoaaDg29
import Derived.Test.YtdhglhcpgmfpoaaBase
namespace Go.Proofs.Ytdhglhcpgmfpoaa
open Go.RowKit
set_option linter.unusedSimpArgs false
set_option linter.unusedVariables false

set_option maxRecDepth 100000 in
set_option maxHeartbeats 4000000 in
theorem moves_main (A : Option Addr) (n c : Nat) (Vs : List VC) (B : Option Addr) (m k : Nat) (Es : List EC) (x1 x2 x3 : Int) (kx : Nat) (v : VC) (w : World) (h : DgIn w A n c Vs B m k Es) (hg : GoodD Vs Es) (hn : n ≤ maxLen) (hm : m ≤ maxLen)
    (ho : formD ((Vs.take 30).map fewV) (Es.take 50) = 0) (hp : (atV ((Vs.take 30).map fewV) (x1, x2, x3)).2 = true) (hv : ((Vs.take 30).map fewV)[kx]? = some v) (hne : v.1 ≠ (atV ((Vs.take 30).map fewV) (x1, x2, x3)).1) :
    Calls Try.prog 7 #[.agg #[.slice A n c, .slice B m k], .agg #[.int .i64 x1, .int .i64 x2, .int .i64 x3], .int .i64 (kx : Int)] w fun e w' => e = .returned (.bool true) ∧ Below w.heap.size w w' := by
  have HW := Lib.hid (fun W hb => few_step h hg hn hm W hb)
  obtain ⟨Va, gVa⟩ : ∃ z, (Vs.take 30).map fewV = z := ⟨_, rfl⟩
  obtain ⟨Ea, gEa⟩ : ∃ z, Es.take 50 = z := ⟨_, rfl⟩
  rw [gVa, gEa] at HW
  obtain ⟨⟨⟨p1, p2⟩, pk⟩, gp⟩ : ∃ z, atV Va (x1, x2, x3) = z := ⟨_, rfl⟩
  obtain ⟨fo, gfo⟩ : ∃ z, formD Va Ea = z := ⟨_, rfl⟩
  rw [gVa, gEa, gfo] at ho
  rw [gVa, gp] at hp
  rw [gVa] at hv
  rw [gVa, gp] at hne
  subst ho
  obtain rfl : pk = true := hp
  obtain ⟨⟨y1, y2⟩, vR, vl, va⟩ := v
  have HY := Lib.hid hv
  have HNe : RowKit.Hid ((y1, y2) ≠ (p1, p2)) := Lib.hid hne
  clear hv hne
  have Gp := Lib.hid gp
  have Gf := Lib.hid gfo
  clear h hg hn hm gVa gEa gp gfo
  go_enter Try.func7, Try.ntmps7
  go_wp2_with fail
  refine (shown_any _).mono ?_
  rintro e w1 ⟨rfl, hb1⟩
  have D0_2 := Lib.hid (((show Whole (w.alloc (.cells #[.slice A n c, .slice B m k] 25)) (w.heap.size) (25) ([.slice A n c, .slice B m k]) from Whole.new2 (by first | rfl | simp)).al (.cells #[.int .i64 x1, .int .i64 x2, .int .i64 x3] 36)).bl hb1)
  have X_2 := Lib.hid ((show Whole ((w.alloc (.cells #[.slice A n c, .slice B m k] 25)).alloc (.cells #[.int .i64 x1, .int .i64 x2, .int .i64 x3] 36)) ((w.heap.size + 1)) (36) ([.int .i64 x1, .int .i64 x2, .int .i64 x3]) from Whole.new2 (by first | rfl | simp)).bl hb1)
  have Bel_2 := Lib.hid (bel_bl (bel_al (bel_al (Below.refl _ w) (.cells #[.slice A n c, .slice B m k] 25)) (.cells #[.int .i64 x1, .int .i64 x2, .int .i64 x3] 36)) hb1)
  clear hb1
  have LO_D0_3 : RowKit.Hid (w.heap.size ≤ w.heap.size) := Lib.hid (by omega)
  have LO_X_4 : RowKit.Hid (w.heap.size ≤ (w.heap.size + 1)) := Lib.hid (by omega)
  have NE_D0_X : RowKit.Hid (w.heap.size ≠ (w.heap.size + 1)) := Lib.hid (by omega)
  have lw5 : (w1).cell? ⟨w.heap.size, 0, none⟩ = some (.slice A n c) := D0_2.out.cell (i := 0) rfl
  have lw6 : (w1).cell? ⟨w.heap.size, 1, none⟩ = some (.slice B m k) := D0_2.out.cell (i := 1) rfl
  go_wp2_with fail
  clear lw5 lw6
  have LTN_a_D0 : RowKit.Hid (w.heap.size < w1.heap.size) := Lib.hid (D0_2.out).lt
  have LTN_a_X : RowKit.Hid ((w.heap.size + 1) < w1.heap.size) := Lib.hid (X_2.out).lt
  refine (HW.out _ Bel_2.out).mono ?_
  rintro e w7 ⟨Aa, na, ca, Ba, ma, ka, rfl, hF, hb7⟩
  have Fa := Lib.hid hF
  clear hF
  have D0_8 := Lib.hid (D0_2.out.bl hb7)
  have X_8 := Lib.hid (X_2.out.bl hb7)
  have Bel_8 := Lib.hid (bel_bl Bel_2.out hb7)
  clear D0_2 X_2 Bel_2
  clear hb7
  have lw9 : (w7).cell? ⟨w.heap.size, 0, none⟩ = some (.slice A n c) := D0_8.out.cell (i := 0) rfl
  have lw10 : (w7).cell? ⟨w.heap.size, 1, none⟩ = some (.slice B m k) := D0_8.out.cell (i := 1) rfl
  have fr0 := D0_8.out.free 0
  have fr1 := D0_8.out.free 1
  go_upto_region 3 with fail
  clear fr0 fr1 lw9 lw10
  obtain ⟨v11, gv11⟩ : ∃ x, (w7.setCell ⟨w.heap.size, 0, none⟩ (.slice Aa na ca)).setCell ⟨w.heap.size, 1, none⟩ (.slice Ba ma ka) = x := ⟨_, rfl⟩
  have D0_11 : RowKit.Hid (Whole v11 w.heap.size 25 [.slice Aa na ca, .slice Ba ma ka]) := Lib.hid (gv11 ▸ ((D0_8.out.set_ 0 (.slice Aa na ca)).set_ 1 (.slice Ba ma ka)))
  have X_11 := Lib.hid (show Whole v11 (w.heap.size + 1) _ _ from gv11 ▸ ((X_8.out.far (p := ⟨w.heap.size, 0, none⟩) (by show (w.heap.size + 1) ≠ w.heap.size; exact (Ne.symm NE_D0_X.out)) (.slice Aa na ca)).far (p := ⟨w.heap.size, 1, none⟩) (by show (w.heap.size + 1) ≠ w.heap.size; exact (Ne.symm NE_D0_X.out)) (.slice Ba ma ka)))
  have Bel_11 : RowKit.Hid (Below w.heap.size w v11) := Lib.hid (gv11 ▸ ((Bel_8.out.setCell (p := ⟨w.heap.size, 0, none⟩) (by show w.heap.size ≤ w.heap.size; exact LO_D0_3.out) _).setCell (p := ⟨w.heap.size, 1, none⟩) (by show w.heap.size ≤ w.heap.size; exact LO_D0_3.out) _))
  have Da_11 : RowKit.Hid (DgIn v11 Aa na ca Va Ba ma ka Ea) := Lib.hid (gv11 ▸ Fa.out.put (g := w.heap.size) (by show w.heap.size ≤ w.heap.size; exact LO_D0_3.out) LTN_a_D0.out _ _)
  rw [gv11]
  clear gv11
  clear D0_8 X_8 Bel_8
  have hr30 : ∀ x ∈ Va, x.2.1.2.1 ≤ 1000000 := fun x hx => by have := Fa.out.r30 x hx; omega
  have hn30 : na ≤ 1000000 := by have := Fa.out.n30; omega
  have hm50 : ma ≤ 1000000 := by have := Fa.out.m50; omega
  have HR30 := Lib.hid hr30
  have HF1 : RowKit.Hid (∀ W, DgIn W Aa na ca Va Ba ma ka Ea → Calls Try.prog 12 #[.agg #[.slice Aa na ca, .slice Ba ma ka]] W fun e w' => e = .returned (.int .i64 0) ∧ Below W.heap.size W w') := Lib.hid (fun W h => by
    have h1 := form_any Aa na ca Va Ba ma ka Ea W h HR30.out Fa.out.good.e Fa.out.good.v
    rw [Gf.out] at h1
    exact h1)
  have HP1 : RowKit.Hid (∀ W, DgIn W Aa na ca Va Ba ma ka Ea → Calls Try.prog 22 #[.agg #[.slice Aa na ca, .slice Ba ma ka], .agg #[.int .i64 x1, .int .i64 x2, .int .i64 x3]] W fun e w' => e = .returned (.tuple #[.agg #[.int .i64 p1, .int .i64 p2], .bool true]) ∧ Below W.heap.size W w') := Lib.hid (fun W h => by
    have h1 := at_any Aa na ca Va Ba ma ka Ea x1 x2 x3 W h hn30 HR30.out
    rw [Gp.out] at h1
    exact h1)
  clear hr30
  have lw12 : (v11).cell? ⟨w.heap.size, 0, none⟩ = some (.slice Aa na ca) := D0_11.out.cell (i := 0) rfl
  have lw13 : (v11).cell? ⟨w.heap.size, 1, none⟩ = some (.slice Ba ma ka) := D0_11.out.cell (i := 1) rfl
  have lw14 : (v11).cell? ⟨(w.heap.size + 1), 0, none⟩ = some (.int .i64 x1) := X_11.out.cell (i := 0) rfl
  have lw15 : (v11).cell? ⟨(w.heap.size + 1), 1, none⟩ = some (.int .i64 x2) := X_11.out.cell (i := 1) rfl
  have lw16 : (v11).cell? ⟨(w.heap.size + 1), 2, none⟩ = some (.int .i64 x3) := X_11.out.cell (i := 2) rfl
  go_wp2_with fail
  clear lw12 lw13 lw14 lw15 lw16
  refine (HP1.out _ Da_11.out).mono ?_
  rintro e w17 ⟨rfl, hb17⟩
  have D0_18 := Lib.hid (D0_11.out.bl hb17)
  have X_18 := Lib.hid (X_11.out.bl hb17)
  have Da_18 := Lib.hid (Da_11.out.bl hb17)
  have Bel_18 := Lib.hid (bel_bl Bel_11.out hb17)
  clear D0_11 X_11 Da_11 Bel_11
  clear hb17
  have hkx : kx < na := by have := (List.getElem?_eq_some_iff.1 HY.out).1; have := Fa.out.lenv; omega
  have hk1 : ¬ ((kx : Int) < 0) := by omega
  have hk1d : decide ((kx : Int) < 0) = false := decide_eq_false hk1
  have hk2d : decide (na ≤ kx) = false := decide_eq_false (by omega)
  have heI : ∀ W, (binOp .eql 34 (.agg #[.int .i64 y1, .int .i64 y2]) (.agg #[.int .i64 p1, .int .i64 p2])).run Try.prog W = .ok (.bool false) W := fun W => by
    have h1 := eq_id y1 y2 p1 p2 W
    rw [show (y1 == p1 && y2 == p2) = false by
      cases hb : (y1 == p1 && y2 == p2) with
      | false => rfl
      | true =>
        simp only [Bool.and_eq_true, beq_iff_eq] at hb
        exact absurd (Prod.ext hb.1 hb.2) HNe.out] at h1
    exact h1
  obtain ⟨gd, od, rfl, -, -⟩ := ((Da_18.out.al (.cells #[.int .i64 p1, .int .i64 p2] 34))).v.place vC_len (by decide) (by omega)
  have HQv : RowKit.Hid (∀ W, DgIn W (some ⟨gd, od, none⟩) na ca Va Ba ma ka Ea → W.cell? ⟨gd, od + kx * 5, none⟩ = some (.int .i64 y1) ∧ W.cell? ⟨gd, od + kx * 5 + 1, none⟩ = some (.int .i64 y2)) := Lib.hid (fun W h => by
    have h0 := h.v.elem vC_len HY.out 0 _ rfl
    have h1 := h.v.elem vC_len HY.out 1 _ rfl
    simp only [Addr.add_lit, Nat.add_zero] at h0 h1
    exact ⟨h0, h1⟩)
  go_upto_region 4 with fail
  have D0_19 := Lib.hid ((D0_18.out.al (.cells #[.int .i64 p1, .int .i64 p2] 34)))
  have X_19 := Lib.hid ((X_18.out.al (.cells #[.int .i64 p1, .int .i64 p2] 34)))
  have Da_19 := Lib.hid ((Da_18.out.al (.cells #[.int .i64 p1, .int .i64 p2] 34)))
  have P_19 := Lib.hid ((show Whole (w17.alloc (.cells #[.int .i64 p1, .int .i64 p2] 34)) (w17.heap.size) (34) ([.int .i64 p1, .int .i64 p2]) from Whole.new2 (by first | rfl | simp)))
  have Bel_19 := Lib.hid (bel_al Bel_18.out (.cells #[.int .i64 p1, .int .i64 p2] 34))
  obtain ⟨v19, gv19⟩ : ∃ x, (w17.alloc (.cells #[.int .i64 p1, .int .i64 p2] 34)) = x := ⟨_, rfl⟩
  rw [gv19] at D0_19 X_19 Da_19 P_19 Bel_19 ⊢
  clear gv19
  clear D0_18 X_18 Da_18 Bel_18
  have D0_20 := Lib.hid (D0_19.out.dr)
  have X_20 := Lib.hid (X_19.out.dr)
  have Da_20 := Lib.hid (Da_19.out.dr)
  have P_20 := Lib.hid (P_19.out.dr)
  have Bel_20 := Lib.hid (bel_dr Bel_19.out)
  have ld21 : ∀ w', Kept Nil_ v19.drew w' → w'.cell? ⟨w.heap.size, 0, none⟩ = some (.slice (some ⟨gd, od, none⟩) na ca) := fun w' h => h.nil_cell (D0_20.out.cell (i := 0) rfl)
  have ld22 : ∀ w', Kept Nil_ v19.drew w' → w'.cell? ⟨w.heap.size, 1, none⟩ = some (.slice Ba ma ka) := fun w' h => h.nil_cell (D0_20.out.cell (i := 1) rfl)
  have ld23 : ∀ w', Kept Nil_ v19.drew w' → w'.cell? ⟨w17.heap.size, 0, none⟩ = some (.int .i64 p1) := fun w' h => h.nil_cell (P_20.out.cell (i := 0) rfl)
  have ld24 : ∀ w', Kept Nil_ v19.drew w' → w'.cell? ⟨w17.heap.size, 1, none⟩ = some (.int .i64 p2) := fun w' h => h.nil_cell (P_20.out.cell (i := 1) rfl)
  have ld25 : ∀ w', Kept Nil_ v19.drew w' → w'.cell? ⟨gd, od + kx * 5, none⟩ = some (.int .i64 y1) := fun w' h => h.nil_cell ((HQv.out _ Da_20.out).1)
  have ld26 : ∀ w', Kept Nil_ v19.drew w' → w'.cell? ⟨gd, od + kx * 5 + 1, none⟩ = some (.int .i64 y2) := fun w' h => h.nil_cell ((HQv.out _ Da_20.out).2)
  refine wp_region_reg Nil_ (by kernel_rfl) ?_
  apply wpR_next 0 (some 24)
  · simp only [List.getElem?_toArray, List.getElem?_cons_succ, List.getElem?_cons_zero]; exact rfl
  · rfl
  · kernel_rfl
  · kernel_rfl
  · kernel_rfl
  · exact fun _ _ _ _ h => h
  apply Exists.intro
  apply And.intro
  · apply yr_run; rfl; intro w' hw'; go_simp; (try with_reducible rfl)
  simp only [Act.put, List.setIfInBounds_toArray, List.set_cons_zero, List.set_cons_succ]
  apply wpR_call 1 (some 25)
  · simp only [List.getElem?_toArray, List.getElem?_cons_succ, List.getElem?_cons_zero]; exact rfl
  · rfl
  · kernel_rfl
  · rfl
  · intro w'; go_simp; first | done | exact ⟨rfl, rfl⟩ | with_reducible rfl
  intro w' hw'
  refine (HF1.out _ (Da_20.out.bl hw')).mono ?_
  rintro e w27 ⟨rfl, hb27⟩
  have D0_27 := Lib.hid ((D0_20.out.bl hw').bl hb27)
  have X_27 := Lib.hid ((X_20.out.bl hw').bl hb27)
  have Da_27 := Lib.hid ((Da_20.out.bl hw').bl hb27)
  have P_27 := Lib.hid ((P_20.out.bl hw').bl hb27)
  have Bel_27 := Lib.hid (bel_bl (bel_bl Bel_20.out hw') hb27)
  have ld28 := fun w'' (h : Kept Nil_ w27 w'') => ld21 w'' ((Kept.of_ext hw').trans ((Kept.of_below hb27).trans h))
  have ld29 := fun w'' (h : Kept Nil_ w27 w'') => ld22 w'' ((Kept.of_ext hw').trans ((Kept.of_below hb27).trans h))
  have ld30 := fun w'' (h : Kept Nil_ w27 w'') => ld23 w'' ((Kept.of_ext hw').trans ((Kept.of_below hb27).trans h))
  have ld31 := fun w'' (h : Kept Nil_ w27 w'') => ld24 w'' ((Kept.of_ext hw').trans ((Kept.of_below hb27).trans h))
  have ld32 := fun w'' (h : Kept Nil_ w27 w'') => ld25 w'' ((Kept.of_ext hw').trans ((Kept.of_below hb27).trans h))
  have ld33 := fun w'' (h : Kept Nil_ w27 w'') => ld26 w'' ((Kept.of_ext hw').trans ((Kept.of_below hb27).trans h))
  refine ⟨_, rfl, Kept.of_below hb27, ?_⟩
  clear hw' hb27
  simp only [Act.put, List.setIfInBounds_toArray, List.set_cons_zero, List.set_cons_succ]
  apply wpR_next 2 (some 26)
  · simp only [List.getElem?_toArray, List.getElem?_cons_succ, List.getElem?_cons_zero]; exact rfl
  · rfl
  · kernel_rfl
  · kernel_rfl
  · kernel_rfl
  · exact fun _ _ _ _ h => h
  apply Exists.intro
  apply And.intro
  · apply yr_run; rfl; intro w' hw'; go_simp; (try with_reducible rfl)
  simp only [Act.put, List.setIfInBounds_toArray, List.set_cons_zero, List.set_cons_succ]
  apply wpR_next 3 (some 27)
  · simp only [List.getElem?_toArray, List.getElem?_cons_succ, List.getElem?_cons_zero]; exact rfl
  · rfl
  · kernel_rfl
  · kernel_rfl
  · kernel_rfl
  · exact fun _ _ _ _ h => h
  apply Exists.intro
  apply And.intro
  · apply yr_run; rfl; intro w' hw'; go_simp; (try with_reducible rfl)
  simp only [Act.put, List.setIfInBounds_toArray, List.set_cons_zero, List.set_cons_succ]
  apply wpR_next 4 (some 28)
  · simp only [List.getElem?_toArray, List.getElem?_cons_succ, List.getElem?_cons_zero]; exact rfl
  · rfl
  · kernel_rfl
  · kernel_rfl
  · kernel_rfl
  · exact fun _ _ _ _ h => h
  apply Exists.intro
  apply And.intro
  · apply yr_run; rfl; intro w' hw'; go_simp; (try with_reducible rfl)
  simp only [Act.put, List.setIfInBounds_toArray, List.set_cons_zero, List.set_cons_succ]
  apply wpR_next 5 (some 29)
  · simp only [List.getElem?_toArray, List.getElem?_cons_succ, List.getElem?_cons_zero]; exact rfl
  · rfl
  · kernel_rfl
  · kernel_rfl
  · kernel_rfl
  · exact fun _ _ _ _ h => h
  apply Exists.intro
  apply And.intro
  · apply yr_run; rfl; intro w' hw'; go_simp; (try with_reducible rfl)
  simp only [Act.put, List.setIfInBounds_toArray, List.set_cons_zero, List.set_cons_succ]
  apply wpR_next 6 (some 30)
  · simp only [List.getElem?_toArray, List.getElem?_cons_succ, List.getElem?_cons_zero]; exact rfl
  · rfl
  · kernel_rfl
  · kernel_rfl
  · kernel_rfl
  · exact fun _ _ _ _ h => h
  apply Exists.intro
  apply And.intro
  · apply yr_run; rfl; intro w' hw'; go_simp; (try with_reducible rfl)
  simp only [Act.put, List.setIfInBounds_toArray, List.set_cons_zero, List.set_cons_succ]
  apply wpR_next 7 (some 31)
  · simp only [List.getElem?_toArray, List.getElem?_cons_succ, List.getElem?_cons_zero]; exact rfl
  · rfl
  · kernel_rfl
  · kernel_rfl
  · kernel_rfl
  · exact fun _ _ _ _ h => h
  apply Exists.intro
  apply And.intro
  · apply yr_run; rfl; intro w' hw'; go_simp; (try with_reducible rfl)
  simp only [Act.put, List.setIfInBounds_toArray, List.set_cons_zero, List.set_cons_succ]
  apply wpR_next 8 (some 32)
  · simp only [List.getElem?_toArray, List.getElem?_cons_succ, List.getElem?_cons_zero]; exact rfl
  · rfl
  · kernel_rfl
  · kernel_rfl
  · kernel_rfl
  · exact fun _ _ _ _ h => h
  apply Exists.intro
  apply And.intro
  · apply yr_run; rfl; intro w' hw'; go_simp; (try with_reducible rfl)
  simp only [Act.put, List.setIfInBounds_toArray, List.set_cons_zero, List.set_cons_succ]
  apply wpR_next 9 (some 33)
  · simp only [List.getElem?_toArray, List.getElem?_cons_succ, List.getElem?_cons_zero]; exact rfl
  · rfl
  · kernel_rfl
  · kernel_rfl
  · kernel_rfl
  · exact fun _ _ _ _ h => h
  apply Exists.intro
  apply And.intro
  · apply yr_run; rfl; intro w' hw'; go_simp; (try with_reducible rfl)
  simp only [Act.put, List.setIfInBounds_toArray, List.set_cons_zero, List.set_cons_succ]
  apply wpR_next 10 (some 34)
  · simp only [List.getElem?_toArray, List.getElem?_cons_succ, List.getElem?_cons_zero]; exact rfl
  · rfl
  · kernel_rfl
  · kernel_rfl
  · kernel_rfl
  · exact fun _ _ _ _ h => h
  apply Exists.intro
  apply And.intro
  · apply yr_run; rfl; intro w' hw'; go_simp; (try with_reducible rfl)
  simp only [Act.put, List.setIfInBounds_toArray, List.set_cons_zero, List.set_cons_succ]
  apply wpR_next 11 (some 35)
  · simp only [List.getElem?_toArray, List.getElem?_cons_succ, List.getElem?_cons_zero]; exact rfl
  · rfl
  · kernel_rfl
  · kernel_rfl
  · kernel_rfl
  · exact fun _ _ _ _ h => h
  apply Exists.intro
  apply And.intro
  · apply yr_run; rfl; intro w' hw'; go_simp; (try with_reducible rfl)
  simp only [Act.put, List.setIfInBounds_toArray, List.set_cons_zero, List.set_cons_succ]
  apply wpR_next 12 (some 36)
  · simp only [List.getElem?_toArray, List.getElem?_cons_succ, List.getElem?_cons_zero]; exact rfl
  · rfl
  · kernel_rfl
  · kernel_rfl
  · kernel_rfl
  · exact fun _ _ _ _ h => h
  apply Exists.intro
  apply And.intro
  · apply yr_run; rfl; intro w' hw'; go_simp; (try with_reducible rfl)
  simp only [Act.put, List.setIfInBounds_toArray, List.set_cons_zero, List.set_cons_succ]
  apply wpR_next 13 (some 37)
  · simp only [List.getElem?_toArray, List.getElem?_cons_succ, List.getElem?_cons_zero]; exact rfl
  · rfl
  · kernel_rfl
  · kernel_rfl
  · kernel_rfl
  · exact fun _ _ _ _ h => h
  apply Exists.intro
  apply And.intro
  · apply yr_run; rfl; intro w' hw'; go_simp; (try with_reducible rfl)
  simp only [Act.put, List.setIfInBounds_toArray, List.set_cons_zero, List.set_cons_succ]
  apply wpR_next 14 (some 38)
  · simp only [List.getElem?_toArray, List.getElem?_cons_succ, List.getElem?_cons_zero]; exact rfl
  · rfl
  · kernel_rfl
  · kernel_rfl
  · kernel_rfl
  · exact fun _ _ _ _ h => h
  apply Exists.intro
  apply And.intro
  · apply yr_run; rfl; intro w' hw'; go_simp; (try with_reducible rfl)
  simp only [Act.put, List.setIfInBounds_toArray, List.set_cons_zero, List.set_cons_succ]
  apply wpR_next 15 (some 39)
  · simp only [List.getElem?_toArray, List.getElem?_cons_succ, List.getElem?_cons_zero]; exact rfl
  · rfl
  · kernel_rfl
  · kernel_rfl
  · kernel_rfl
  · exact fun _ _ _ _ h => h
  apply Exists.intro
  apply And.intro
  · apply yr_run; rfl; intro w' hw'; go_simp; (try with_reducible rfl)
  simp only [Act.put, List.setIfInBounds_toArray, List.set_cons_zero, List.set_cons_succ]
  apply wpR_next 16 (some 40)
  · simp only [List.getElem?_toArray, List.getElem?_cons_succ, List.getElem?_cons_zero]; exact rfl
  · rfl
  · kernel_rfl
  · kernel_rfl
  · kernel_rfl
  · exact fun _ _ _ _ h => h
  apply Exists.intro
  apply And.intro
  · apply yr_run; rfl; intro w' hw'; go_simp; (try with_reducible rfl)
  simp only [Act.put, List.setIfInBounds_toArray, List.set_cons_zero, List.set_cons_succ]
  apply wpR_next 17 (some 41)
  · simp only [List.getElem?_toArray, List.getElem?_cons_succ, List.getElem?_cons_zero]; exact rfl
  · rfl
  · kernel_rfl
  · kernel_rfl
  · kernel_rfl
  · exact fun _ _ _ _ h => h
  apply Exists.intro
  apply And.intro
  · apply yr_run; rfl; intro w' hw'; go_simp; (try with_reducible rfl)
  simp only [Act.put, List.setIfInBounds_toArray, List.set_cons_zero, List.set_cons_succ]
  apply wpR_next 18 (some 42)
  · simp only [List.getElem?_toArray, List.getElem?_cons_succ, List.getElem?_cons_zero]; exact rfl
  · rfl
  · kernel_rfl
  · kernel_rfl
  · kernel_rfl
  · exact fun _ _ _ _ h => h
  apply Exists.intro
  apply And.intro
  · apply yr_run; rfl; intro w' hw'; go_simp; (try with_reducible rfl)
  simp only [Act.put, List.setIfInBounds_toArray, List.set_cons_zero, List.set_cons_succ]
  apply wpR_next 19 (some 43)
  · simp only [List.getElem?_toArray, List.getElem?_cons_succ, List.getElem?_cons_zero]; exact rfl
  · rfl
  · kernel_rfl
  · kernel_rfl
  · kernel_rfl
  · exact fun _ _ _ _ h => h
  apply Exists.intro
  apply And.intro
  · apply yr_run; rfl; intro w' hw'; go_simp; (try with_reducible rfl)
  simp only [Act.put, List.setIfInBounds_toArray, List.set_cons_zero, List.set_cons_succ]
  apply wpR_next 20 (some 44)
  · simp only [List.getElem?_toArray, List.getElem?_cons_succ, List.getElem?_cons_zero]; exact rfl
  · rfl
  · kernel_rfl
  · kernel_rfl
  · kernel_rfl
  · exact fun _ _ _ _ h => h
  apply Exists.intro
  apply And.intro
  · apply yr_run; rfl; intro w' hw'; go_simp; (try with_reducible rfl)
  simp only [Act.put, List.setIfInBounds_toArray, List.set_cons_zero, List.set_cons_succ]
  apply wpR_next 21 (some 45)
  · simp only [List.getElem?_toArray, List.getElem?_cons_succ, List.getElem?_cons_zero]; exact rfl
  · rfl
  · kernel_rfl
  · kernel_rfl
  · kernel_rfl
  · exact fun _ _ _ _ h => h
  apply Exists.intro
  apply And.intro
  · apply yr_run; rfl; intro w' hw'; go_simp; (try with_reducible rfl)
  simp only [Act.put, List.setIfInBounds_toArray, List.set_cons_zero, List.set_cons_succ]
  apply wpR_next 22 (some 46)
  · simp only [List.getElem?_toArray, List.getElem?_cons_succ, List.getElem?_cons_zero]; exact rfl
  · rfl
  · kernel_rfl
  · kernel_rfl
  · kernel_rfl
  · exact fun _ _ _ _ h => h
  apply Exists.intro
  apply And.intro
  · apply yr_run; rfl; intro w' hw'; go_simp; (try with_reducible rfl)
  simp only [Act.put, List.setIfInBounds_toArray, List.set_cons_zero, List.set_cons_succ]
  apply wpR_next 23 (some 47)
  · simp only [List.getElem?_toArray, List.getElem?_cons_succ, List.getElem?_cons_zero]; exact rfl
  · rfl
  · kernel_rfl
  · kernel_rfl
  · kernel_rfl
  · exact fun _ _ _ _ h => h
  apply Exists.intro
  apply And.intro
  · apply yr_run; rfl; intro w' hw'; go_simp; (try with_reducible rfl)
  simp only [Act.put, List.setIfInBounds_toArray, List.set_cons_zero, List.set_cons_succ]
  apply wpR_next 24 (some 48)
  · simp only [List.getElem?_toArray, List.getElem?_cons_succ, List.getElem?_cons_zero]; exact rfl
  · rfl
  · kernel_rfl
  · kernel_rfl
  · kernel_rfl
  · exact fun _ _ _ _ h => h
  apply Exists.intro
  apply And.intro
  · apply yr_run; rfl; intro w' hw'; go_simp; (try with_reducible rfl)
  simp only [Act.put, List.setIfInBounds_toArray, List.set_cons_zero, List.set_cons_succ]
  apply wpR_next 25 (some 49)
  · simp only [List.getElem?_toArray, List.getElem?_cons_succ, List.getElem?_cons_zero]; exact rfl
  · rfl
  · kernel_rfl
  · kernel_rfl
  · kernel_rfl
  · exact fun _ _ _ _ h => h
  apply Exists.intro
  apply And.intro
  · apply yr_run; rfl; intro w' hw'; go_simp; (try with_reducible rfl)
  simp only [Act.put, List.setIfInBounds_toArray, List.set_cons_zero, List.set_cons_succ]
  apply wpR_next 26 (some 50)
  · simp only [List.getElem?_toArray, List.getElem?_cons_succ, List.getElem?_cons_zero]; exact rfl
  · rfl
  · kernel_rfl
  · kernel_rfl
  · kernel_rfl
  · exact fun _ _ _ _ h => h
  apply Exists.intro
  apply And.intro
  · exact yr_run (by rfl) (fun w' hw' => exec_binop_agg .eql 34 (.tmp 48) (.tmp 49) 34 rfl rfl rfl (by kernel_rfl) (heI w'))
  simp only [Act.put, List.setIfInBounds_toArray, List.set_cons_zero, List.set_cons_succ]
  apply wpR_next 27 (some 51)
  · simp only [List.getElem?_toArray, List.getElem?_cons_succ, List.getElem?_cons_zero]; exact rfl
  · rfl
  · kernel_rfl
  · kernel_rfl
  · kernel_rfl
  · exact fun _ _ _ _ h => h
  apply Exists.intro
  apply And.intro
  · apply yr_run; rfl; intro w' hw'; go_simp; (try with_reducible rfl)
  simp only [Act.put, List.setIfInBounds_toArray, List.set_cons_zero, List.set_cons_succ]
  refine wpR_done (by kernel_rfl) ?_ _
  intro w34 hw'
  have D0_35 := Lib.hid (D0_27.out.bl hw')
  have X_35 := Lib.hid (X_27.out.bl hw')
  have Da_35 := Lib.hid (Da_27.out.bl hw')
  have P_35 := Lib.hid (P_27.out.bl hw')
  have Bel_35 := Lib.hid (bel_bl Bel_27.out hw')
  clear D0_27 X_27 Da_27 P_27 Bel_27
  clear hw'
  clear P_35
  have hl := Fa.out.lenv
  have HFm : RowKit.Hid (Formed Va Ea) := Lib.hid ((form0 Va Ea).1 Gf.out)
  have HCl : RowKit.Hid (∀ W, DgIn W (some ⟨gd, od, none⟩) na ca Va Ba ma ka Ea → Calls Try.prog 28 #[.agg #[.slice (some ⟨gd, od, none⟩) na ca, .slice Ba ma ka]] W fun e w' => ∃ A2 c2 B2 k2 Wc, e = .returned (.agg #[.slice A2 na c2, .slice B2 ma k2]) ∧ Wr w' W.heap.size A2 na c2 Wc B2 ma k2 Ea ∧ Wc.map vS = Va.map vS ∧ (∀ a, A2 = some a → a.block < w'.heap.size) ∧ Below W.heap.size W w') := Lib.hid (fun W h => by
    refine (clone_any _ na ca Va Ba ma ka Ea W h hn30 hm50 HR30.out).mono ?_
    rintro e w' ⟨A2, c2, B2, k2, Wc, rfl, hc, hs, hb⟩
    exact ⟨A2, c2, B2, k2, Wc, rfl, hc.wr, hs, fun a ha => (own_lt hc.v ha).2, hb⟩)
  have HBd := Lib.hid (Bel_35.out)
  have HBZ : RowKit.Hid (Below w34.heap.size w34 w34) := Lib.hid (Below.refl _ _)
  have HDd := Lib.hid (Da_35.out)
  have HDz := Lib.hid (Da_35.out)
  have HXd := Lib.hid (D0_35.out)
  have HXz := Lib.hid (D0_35.out)
  have HYd := Lib.hid (X_35.out)
  have HYz := Lib.hid (X_35.out)
  clear D0_35 X_35 Da_35 Bel_35
  have lw501 : (w34).cell? ⟨w.heap.size, 0, none⟩ = some (.slice (some ⟨gd, od, none⟩) na ca) := HXz.out.cell (i := 0) rfl
  have lw502 : (w34).cell? ⟨w.heap.size, 1, none⟩ = some (.slice Ba ma ka) := HXz.out.cell (i := 1) rfl
  go_wp2_with fail
  clear lw501 lw502
  refine (HCl.out _ HDz.out).mono ?_
  rintro e w503 ⟨A2, c2, B2, k2, Wc, rfl, hcl, hsm, hlt, hb503⟩
  have HSm := Lib.hid hsm
  have HLt := Lib.hid hlt
  clear hsm hlt
  have Da_504 := Lib.hid (HDz.out.bl hb503)
  have D0_504 := Lib.hid (HXz.out.bl hb503)
  have X_504 := Lib.hid (HYz.out.bl hb503)
  have Bel_504 := Lib.hid (bel_bl HBZ.out hb503)
  clear HDz HXz HYz HBZ
  clear hb503
  have M_504 := Lib.hid hcl
  clear hcl
  have HS1 : RowKit.Hid (w34.heap.size ≤ w503.heap.size) := Lib.hid (Bel_504.out).size
  have lw505 : ((w503.alloc (.cells #[.slice A2 na c2, .slice B2 ma k2] 25))).cell? ⟨w.heap.size, 0, none⟩ = some (.slice (some ⟨gd, od, none⟩) na ca) := (D0_504.out.al (.cells #[.slice A2 na c2, .slice B2 ma k2] 25)).cell (i := 0) rfl
  have lw506 : ((w503.alloc (.cells #[.slice A2 na c2, .slice B2 ma k2] 25))).cell? ⟨w.heap.size, 1, none⟩ = some (.slice Ba ma ka) := (D0_504.out.al (.cells #[.slice A2 na c2, .slice B2 ma k2] 25)).cell (i := 1) rfl
  go_wp2_with fail
  clear lw505 lw506
  refine (HCl.out _ (Da_504.out.al (.cells #[.slice A2 na c2, .slice B2 ma k2] 25))).mono ?_
  rintro e w507 ⟨A3, c3, B3, k3, We, rfl, hcl2, hsm2, hlt2, hb507⟩
  have HSm2 := Lib.hid hsm2
  clear hsm2 hlt2
  have Da_508 := Lib.hid ((Da_504.out.al (.cells #[.slice A2 na c2, .slice B2 ma k2] 25)).bl hb507)
  have D0_508 := Lib.hid ((D0_504.out.al (.cells #[.slice A2 na c2, .slice B2 ma k2] 25)).bl hb507)
  have X_508 := Lib.hid ((X_504.out.al (.cells #[.slice A2 na c2, .slice B2 ma k2] 25)).bl hb507)
  have M_508 := Lib.hid ((M_504.out.al (.cells #[.slice A2 na c2, .slice B2 ma k2] 25)).bl hb507)
  have C1_508 := Lib.hid ((show Whole (w503.alloc (.cells #[.slice A2 na c2, .slice B2 ma k2] 25)) (w503.heap.size) (25) ([.slice A2 na c2, .slice B2 ma k2]) from Whole.new2 (by first | rfl | simp)).bl hb507)
  have Bel_508 := Lib.hid (bel_bl (bel_al Bel_504.out (.cells #[.slice A2 na c2, .slice B2 ma k2] 25)) hb507)
  clear Da_504 D0_504 X_504 M_504 Bel_504
  clear hb507
  have T_508 := Lib.hid hcl2
  clear hcl2
  have lw509 : ((w507.alloc (.cells #[.slice A3 na c3, .slice B3 ma k3] 25))).cell? ⟨w503.heap.size, 0, none⟩ = some (.slice A2 na c2) := (C1_508.out.al (.cells #[.slice A3 na c3, .slice B3 ma k3] 25)).cell (i := 0) rfl
  have lw510 : ((w507.alloc (.cells #[.slice A3 na c3, .slice B3 ma k3] 25))).cell? ⟨w.heap.size, 0, none⟩ = some (.slice (some ⟨gd, od, none⟩) na ca) := (D0_508.out.al (.cells #[.slice A3 na c3, .slice B3 ma k3] 25)).cell (i := 0) rfl
  have lw511 : ((w507.alloc (.cells #[.slice A3 na c3, .slice B3 ma k3] 25))).cell? ⟨w507.heap.size, 0, none⟩ = some (.slice A3 na c3) := (show Whole (w507.alloc (.cells #[.slice A3 na c3, .slice B3 ma k3] 25)) (w507.heap.size) (25) ([.slice A3 na c3, .slice B3 ma k3]) from Whole.new2 (by first | rfl | simp)).cell (i := 0) rfl
  go_wp2
  clear lw509 lw510 lw511
  have Da_512 := Lib.hid ((Da_508.out.al (.cells #[.slice A3 na c3, .slice B3 ma k3] 25)))
  have D0_512 := Lib.hid ((D0_508.out.al (.cells #[.slice A3 na c3, .slice B3 ma k3] 25)))
  have X_512 := Lib.hid ((X_508.out.al (.cells #[.slice A3 na c3, .slice B3 ma k3] 25)))
  have M_512 := Lib.hid ((M_508.out.al (.cells #[.slice A3 na c3, .slice B3 ma k3] 25)))
  have C1_512 := Lib.hid ((C1_508.out.al (.cells #[.slice A3 na c3, .slice B3 ma k3] 25)))
  have T_512 := Lib.hid ((T_508.out.al (.cells #[.slice A3 na c3, .slice B3 ma k3] 25)))
  have C2_512 := Lib.hid ((show Whole (w507.alloc (.cells #[.slice A3 na c3, .slice B3 ma k3] 25)) (w507.heap.size) (25) ([.slice A3 na c3, .slice B3 ma k3]) from Whole.new2 (by first | rfl | simp)))
  have Bel_512 := Lib.hid (bel_al Bel_508.out (.cells #[.slice A3 na c3, .slice B3 ma k3] 25))
  obtain ⟨v512, gv512⟩ : ∃ x, (w507.alloc (.cells #[.slice A3 na c3, .slice B3 ma k3] 25)) = x := ⟨_, rfl⟩
  rw [gv512] at Da_512 D0_512 X_512 M_512 C1_512 T_512 C2_512 Bel_512 ⊢
  clear gv512
  clear Da_508 D0_508 X_508 M_508 C1_508 T_508 Bel_508
  have HY1 := Lib.hid (C1_512.out)
  have HY2 := Lib.hid (C2_512.out)
  have HM0 := Lib.hid (M_512.out)
  have HT0 := Lib.hid (T_512.out)
  have HZ0 := Lib.hid (Bel_512.out)
  clear Da_512 D0_512 X_512 M_512 C1_512 T_512 C2_512 Bel_512
  obtain ⟨g10, gg10⟩ : ∃ z, w503.heap.size = z := ⟨_, rfl⟩
  obtain ⟨g11, gg11⟩ : ∃ z, w507.heap.size = z := ⟨_, rfl⟩
  obtain ⟨lo2, gl2⟩ : ∃ z, (w503.alloc (.cells #[.slice A2 na c2, .slice B2 ma k2] 25)).heap.size = z := ⟨_, rfl⟩
  have HLo : RowKit.Hid (∀ a, A2 = some a → a.block < lo2) := Lib.hid (fun a ha => by have := HLt.out a ha; rw [← gl2]; simp; omega)
  have HLL : RowKit.Hid (w34.heap.size ≤ lo2) := Lib.hid (by have := HS1.out; rw [← gl2]; simp; omega)
  rw [gg10] at HY1 ⊢
  rw [gg11] at HY2 ⊢
  rw [gl2] at HT0
  clear gg10 gg11 gl2 HLt
  go_loopw [12] (fun si wr => ∃ (j : Nat) (Us : List VC), j ≤ na ∧ si = .int .i64 j ∧ RowKit.Hid (Below w34.heap.size w34 wr) ∧ RowKit.Hid (Whole wr g10 25 [.slice A2 na c2, .slice B2 ma k2]) ∧ RowKit.Hid (Whole wr g11 25 [.slice A3 na c3, .slice B3 ma k3]) ∧ RowKit.Hid (Wr wr w34.heap.size A2 na c2 Us B2 ma k2 Ea) ∧ RowKit.Hid (Wr wr lo2 A3 na c3 We B3 ma k3 Ea) ∧ RowKit.Hid (Us.map vS = (Va.take j).map (fun z => vS (remV (x1, x2, x3) z)) ++ (Va.drop j).map vS)) (fun si _ => na - (intOf si).toNat)
  case atStart => exact ⟨0, Wc, by omega, rfl, HZ0, HY1, HY2, HM0, HT0, Lib.hid (by simpa using HSm.out)⟩
  case round =>
    clear HZ0 HY1 HY2 HM0 HT0
    obtain ⟨j, Us, hj, rfl, HZ, H1, H2, HM, HT, HU⟩ := hrel
    obtain ⟨wo, gwo⟩ : ∃ z, wr = z := ⟨_, rfl⟩
    rw [gwo] at HZ H1 H2 HM HT ⊢
    clear gwo
    have cb := H1.out.cell (i := 0) rfl
    by_cases hidx : j < na
    · obtain ⟨u, hu⟩ : ∃ u, Va[j]? = some u := ⟨_, List.getElem?_eq_getElem (by omega)⟩
      obtain ⟨y, hu0, hyu⟩ : ∃ y, Us[j]? = some y ∧ vS y = vS u := by
        have h1 : (Us.map vS)[j]? = some (vS u) := by
          rw [HU.out, List.getElem?_append_right (by simp; omega)]
          simp only [List.length_map, List.length_take]
          rw [show j - min j Va.length = 0 by omega, List.getElem?_map, List.getElem?_drop, Nat.add_zero, hu]
          rfl
        rw [List.getElem?_map] at h1
        cases hq : Us[j]? with
        | none => rw [hq] at h1; cases h1
        | some y =>
          rw [hq] at h1
          exact ⟨y, rfl, Option.some.inj h1⟩
      have hrn : y.2.1.2.1 ≤ 30 := by
        have hm := List.mem_of_getElem? hu
        have h1 := (HDd.out.r u hm).2.dlen
        have h2 := Fa.out.r30 u hm
        have h3 := (HM.out.r y (List.mem_of_getElem? hu0)).2.dlen
        have h4 : y.2.1.2.2.2 = u.2.1.2.2.2 := congrArg (fun s : (Int × Int) × List D × ByteArray × Int => s.2.1) hyu
        rw [h4] at h3
        omega
      obtain ⟨⟨i1, i2⟩, ⟨rA, rn, rc, rL⟩, lb, at_⟩ := y
      have HRn : RowKit.Hid (rn ≤ 30) := Lib.hid hrn
      have HUs0 : RowKit.Hid (∀ (A9 : Option Addr) (c9 : Nat), (Us.set j ((i1, i2), (A9, (turnD (filD rL (x1, x2, x3))).length, c9, turnD (filD rL (x1, x2, x3))), lb, at_)).map vS = (Va.take (j + 1)).map (fun z => vS (remV (x1, x2, x3) z)) ++ (Va.drop (j + 1)).map vS) := Lib.hid (fun A9 c9 => by
        rw [List.map_set, HU.out]
        have e := vS_remV (x := (x1, x2, x3)) hyu
        have e2 : vS ((i1, i2), (A9, (turnD (filD rL (x1, x2, x3))).length, c9, turnD (filD rL (x1, x2, x3))), lb, at_) = vS (remV (x1, x2, x3) u) := Eq.trans rfl e
        rw [e2]
        exact half_set (fun z => vS (remV (x1, x2, x3) z)) vS hu)
      have Hhu := Lib.hid hu0
      clear hu hyu hrn HU
      obtain ⟨gm, rfl, hlo, -, hc, hf, -⟩ := HM.out.put hu0 hidx (rA, rn, rc, rL) (HM.out.r _ (List.mem_of_getElem? hu0))
      replace hc : wo.cell? ⟨gm, j * 5 + 2, none⟩ = some (.slice rA rn rc) := hc
      have HR : RowKit.Hid (RgOk wo (rA, rn, rc, rL)) := Lib.hid (HM.out.r _ (List.mem_of_getElem? hu0))
      have Hfar : RowKit.Hid (∀ a, A3 = some a → gm ≠ a.block) := Lib.hid (fun a ha => by have h1 := HLo.out _ rfl; have h2 := (own_lt HT.out.v ha).1; have h3 : gm < lo2 := h1; omega)
      obtain ⟨L9, gL9⟩ : ∃ z, turnD (filD rL (x1, x2, x3)) = z := ⟨_, rfl⟩
      have HL9 := Lib.hid gL9
      have HRm : RowKit.Hid (∀ W, RgOk W (rA, rn, rc, rL) → Calls Try.prog 31 #[.slice rA rn rc, .agg #[.int .i64 x1, .int .i64 x2, .int .i64 x3]] W (GivesC W L9)) := Lib.hid (fun W h => by
        rw [← HL9.out]
        exact rfremovec_any rA rn rc rL (x1, x2, x3) W h.2 (by have := HRn.out; omega))
      have HYo := Lib.hid (HYd.out.bl HZ.out)
      clear gL9 hlo hf
      go_upto_region 13 with fail
      try clear cb
      have ld0 : ∀ w', Kept Nil_ wo.drew w' → w'.cell? ⟨g10, 0, none⟩ = some (.slice (some ⟨gm, 0, none⟩) na c2) := fun w' h => h.nil_cell (H1.out.dr.cell (i := 0) rfl)
      have ld1 : ∀ w', Kept Nil_ wo.drew w' → w'.cell? ⟨gm, j * 5 + 2, none⟩ = some (.slice rA rn rc) := fun w' h => h.nil_cell (show wo.drew.cell? _ = _ from hc)
      have ld2 : ∀ w', Kept Nil_ wo.drew w' → w'.cell? ⟨w.heap.size + 1, 0, none⟩ = some (.int .i64 x1) := fun w' h => h.nil_cell (HYo.out.dr.cell (i := 0) rfl)
      have ld3 : ∀ w', Kept Nil_ wo.drew w' → w'.cell? ⟨w.heap.size + 1, 1, none⟩ = some (.int .i64 x2) := fun w' h => h.nil_cell (HYo.out.dr.cell (i := 1) rfl)
      have ld4 : ∀ w', Kept Nil_ wo.drew w' → w'.cell? ⟨w.heap.size + 1, 2, none⟩ = some (.int .i64 x3) := fun w' h => h.nil_cell (HYo.out.dr.cell (i := 2) rfl)
      clear hc HYo
      refine wp_region_tail (Nil_) [13] (by kernel_rfl) ?_
      apply wpT_next 0 (some 80) (by kernel_rfl)
      · simp only [List.getElem?_toArray, List.getElem?_cons_succ, List.getElem?_cons_zero]; exact rfl
      · rfl
      · kernel_rfl
      · kernel_rfl
      · kernel_rfl
      · exact fun _ _ _ _ h => h
      apply Exists.intro
      apply And.intro
      · apply yr_run; rfl; intro w' hw'; go_simp; (try with_reducible rfl)
      simp only [Act.put, List.setIfInBounds_toArray, List.set_cons_zero, List.set_cons_succ]
      apply wpT_next 1 (some 81) (by kernel_rfl)
      · simp only [List.getElem?_toArray, List.getElem?_cons_succ, List.getElem?_cons_zero]; exact rfl
      · rfl
      · kernel_rfl
      · kernel_rfl
      · kernel_rfl
      · exact fun _ _ _ _ h => h
      apply Exists.intro
      apply And.intro
      · apply yr_run; rfl; intro w' hw'; go_simp; (try with_reducible rfl)
      simp only [Act.put, List.setIfInBounds_toArray, List.set_cons_zero, List.set_cons_succ]
      apply wpT_next 2 (some 82) (by kernel_rfl)
      · simp only [List.getElem?_toArray, List.getElem?_cons_succ, List.getElem?_cons_zero]; exact rfl
      · rfl
      · kernel_rfl
      · kernel_rfl
      · kernel_rfl
      · exact fun _ _ _ _ h => h
      apply Exists.intro
      apply And.intro
      · apply yr_run; rfl; intro w' hw'; go_simp; (try with_reducible rfl)
      simp only [Act.put, List.setIfInBounds_toArray, List.set_cons_zero, List.set_cons_succ]
      apply wpT_next 3 (some 83) (by kernel_rfl)
      · simp only [List.getElem?_toArray, List.getElem?_cons_succ, List.getElem?_cons_zero]; exact rfl
      · rfl
      · kernel_rfl
      · kernel_rfl
      · kernel_rfl
      · exact fun _ _ _ _ h => h
      apply Exists.intro
      apply And.intro
      · apply yr_run; rfl; intro w' hw'; go_simp; (try with_reducible rfl)
      simp only [Act.put, List.setIfInBounds_toArray, List.set_cons_zero, List.set_cons_succ]
      apply wpT_next 4 (some 84) (by kernel_rfl)
      · simp only [List.getElem?_toArray, List.getElem?_cons_succ, List.getElem?_cons_zero]; exact rfl
      · rfl
      · kernel_rfl
      · kernel_rfl
      · kernel_rfl
      · exact fun _ _ _ _ h => h
      apply Exists.intro
      apply And.intro
      · apply yr_run; rfl; intro w' hw'; go_simp; (try with_reducible rfl)
      simp only [Act.put, List.setIfInBounds_toArray, List.set_cons_zero, List.set_cons_succ]
      apply wpT_next 5 (some 85) (by kernel_rfl)
      · simp only [List.getElem?_toArray, List.getElem?_cons_succ, List.getElem?_cons_zero]; exact rfl
      · rfl
      · kernel_rfl
      · kernel_rfl
      · kernel_rfl
      · exact fun _ _ _ _ h => h
      apply Exists.intro
      apply And.intro
      · apply yr_run; rfl; intro w' hw'; go_simp; (try with_reducible rfl)
      simp only [Act.put, List.setIfInBounds_toArray, List.set_cons_zero, List.set_cons_succ]
      apply wpT_next 6 (some 86) (by kernel_rfl)
      · simp only [List.getElem?_toArray, List.getElem?_cons_succ, List.getElem?_cons_zero]; exact rfl
      · rfl
      · kernel_rfl
      · kernel_rfl
      · kernel_rfl
      · exact fun _ _ _ _ h => h
      apply Exists.intro
      apply And.intro
      · apply yr_run; rfl; intro w' hw'; go_simp; (try with_reducible rfl)
      simp only [Act.put, List.setIfInBounds_toArray, List.set_cons_zero, List.set_cons_succ]
      apply wpT_next 7 (some 87) (by kernel_rfl)
      · simp only [List.getElem?_toArray, List.getElem?_cons_succ, List.getElem?_cons_zero]; exact rfl
      · rfl
      · kernel_rfl
      · kernel_rfl
      · kernel_rfl
      · exact fun _ _ _ _ h => h
      apply Exists.intro
      apply And.intro
      · apply yr_run; rfl; intro w' hw'; go_simp; (try with_reducible rfl)
      simp only [Act.put, List.setIfInBounds_toArray, List.set_cons_zero, List.set_cons_succ]
      apply wpT_next 8 (some 88) (by kernel_rfl)
      · simp only [List.getElem?_toArray, List.getElem?_cons_succ, List.getElem?_cons_zero]; exact rfl
      · rfl
      · kernel_rfl
      · kernel_rfl
      · kernel_rfl
      · exact fun _ _ _ _ h => h
      apply Exists.intro
      apply And.intro
      · apply yr_run; rfl; intro w' hw'; go_simp; (try with_reducible rfl)
      simp only [Act.put, List.setIfInBounds_toArray, List.set_cons_zero, List.set_cons_succ]
      apply wpT_next 9 (some 89) (by kernel_rfl)
      · simp only [List.getElem?_toArray, List.getElem?_cons_succ, List.getElem?_cons_zero]; exact rfl
      · rfl
      · kernel_rfl
      · kernel_rfl
      · kernel_rfl
      · exact fun _ _ _ _ h => h
      apply Exists.intro
      apply And.intro
      · apply yr_run; rfl; intro w' hw'; go_simp; (try with_reducible rfl)
      simp only [Act.put, List.setIfInBounds_toArray, List.set_cons_zero, List.set_cons_succ]
      apply wpT_call 10 (some 90)
      · simp only [List.getElem?_toArray, List.getElem?_cons_succ, List.getElem?_cons_zero]; exact rfl
      · rfl
      · kernel_rfl
      · rfl
      · intro w'; go_simp; first | done | exact ⟨rfl, rfl⟩ | with_reducible rfl
      intro w' hw'
      refine (HRm.out w' (HR.out.dr.bl hw')).mono ?_
      rintro e w9 ⟨A9, c9, rfl, hr9, hb9, hc9⟩
      refine ⟨_, rfl, Kept.of_below hb9, ?_⟩
      have H19 := Lib.hid ((H1.out.dr.bl hw').bl hb9)
      have H29 := Lib.hid ((H2.out.dr.bl hw').bl hb9)
      have HM9 := Lib.hid ((HM.out.dr.bl hw').bl hb9)
      have HT9 := Lib.hid ((HT.out.dr.bl hw').bl hb9)
      have HZ9 := Lib.hid (bel_bl (bel_bl (bel_dr HZ.out) hw') hb9)
      have HR9 : RowKit.Hid (RgOk w9 (A9, L9.length, c9, L9)) := Lib.hid ⟨hc9, hr9⟩
      obtain ⟨V9, gV9⟩ : ∃ z, w9 = z := ⟨_, rfl⟩
      rw [gV9] at H19 H29 HM9 HT9 HZ9 HR9 ⊢
      clear hw' hr9 hb9 hc9 gV9 ld0 ld1 ld2 ld3 ld4 HRm HR
      simp only [Act.put, List.setIfInBounds_toArray, List.set_cons_zero, List.set_cons_succ]
      apply wpT_run 11 (some 91)
      · simp only [List.getElem?_toArray, List.getElem?_cons_succ, List.getElem?_cons_zero]; exact rfl
      · rfl
      · kernel_rfl
      · rfl
      intro w' hw'
      apply Exists.intro
      apply Exists.intro
      apply And.intro
      · go_simp; first | done | exact ⟨rfl, rfl⟩ | exact rfl
      apply And.intro
      · exact Kept.refl _ _
      have hpd11 := hw'
      clear hw'
      simp only [Act.put, List.setIfInBounds_toArray, List.set_cons_zero, List.set_cons_succ]
      apply wpT_next 12 (some 92) (by kernel_rfl)
      · simp only [List.getElem?_toArray, List.getElem?_cons_succ, List.getElem?_cons_zero]; exact rfl
      · rfl
      · kernel_rfl
      · kernel_rfl
      · kernel_rfl
      · exact fun _ _ _ _ h => h
      apply Exists.intro
      apply And.intro
      · apply yr_run; rfl; intro w' hw'; go_simp; (try with_reducible rfl)
      simp only [Act.put, List.setIfInBounds_toArray, List.set_cons_zero, List.set_cons_succ]
      apply wpT_last 13
      · simp only [List.getElem?_toArray, List.getElem?_cons_succ, List.getElem?_cons_zero]; exact rfl
      · rfl
      · kernel_rfl
      · rfl
      · decide
      intro w' hw'
      replace hw' := Ext.trans hpd11 hw'
      clear hpd11
      obtain ⟨gq, eq, hloq, ⟨csq, hwq⟩, hcq, hfq, hMq⟩ := (HM9.out.bl hw').put hu0 hidx (A9, L9.length, c9, L9) (HR9.out.bl hw')
      obtain rfl : gm = gq := by
        injection eq with eq
        injection eq
      replace hcq : w'.cell? ⟨gm, j * 5 + 2, none⟩ = some (.slice rA rn rc) := hcq
      refine ⟨w'.setCell ⟨gm, j * 5 + 2, none⟩ (.slice A9 L9.length c9), by (go_simp; first | done | exact rfl | exact ⟨rfl, rfl⟩), ?_⟩
      have HMs : RowKit.Hid (Wr (w'.setCell ⟨gm, j * 5 + 2, none⟩ (.slice A9 L9.length c9)) w34.heap.size (some ⟨gm, 0, none⟩) na c2 (Us.set j ((i1, i2), (A9, L9.length, c9, L9), lb, at_)) B2 ma k2 Ea) := Lib.hid hMq
      have HTs := Lib.hid ((HT9.out.bl hw').far hcq Hfar.out (.slice A9 L9.length c9))
      have H1s := Lib.hid ((H19.out.bl hw').set_far' (i := j * 5 + 2) ((H19.out.bl hw').ne_ hwq (by decide)) (.slice A9 L9.length c9))
      have H2s := Lib.hid ((H29.out.bl hw').set_far' (i := j * 5 + 2) ((H29.out.bl hw').ne_ hwq (by decide)) (.slice A9 L9.length c9))
      have HZs := Lib.hid ((bel_bl HZ9.out hw').setCell (p := ⟨gm, j * 5 + 2, none⟩) (by show w34.heap.size ≤ gm; have := HLL.out; omega) (.slice A9 L9.length c9))
      obtain ⟨W7, gW7⟩ : ∃ z, w'.setCell ⟨gm, j * 5 + 2, none⟩ (.slice A9 L9.length c9) = z := ⟨_, rfl⟩
      rw [gW7] at HMs HTs H1s H2s HZs ⊢
      clear hw' eq hloq hwq hcq hfq hMq gW7 H19 H29 HM9 HT9 HZ9 HR9
      try simp only [Act.put, List.setIfInBounds_toArray, List.set_cons_zero, List.set_cons_succ]
      refine wpT_done (by kernel_rfl) ?_ _
      intro W8 hw8
      have HZ8 := Lib.hid (bel_bl HZs.out hw8)
      have H18 := Lib.hid (H1s.out.bl hw8)
      have H28 := Lib.hid (H2s.out.bl hw8)
      have HM8 := Lib.hid (HMs.out.bl hw8)
      have HT8 := Lib.hid (HTs.out.bl hw8)
      clear hw8 HZs H1s H2s HMs HTs HZ H1 H2 HM HT
      clear hu0
      rw [HL9.out] at HUs0
      go_wp2
      go_roundw
      case rel => exact ⟨j + 1, _, by omega, by go_num, HZ8, H18, H28, HM8, HT8, Lib.hid (HUs0.out _ _)⟩
      case measure => simp [intOf]; omega
    · obtain rfl : na = j := by omega
      have hUn : Us.map vS = (Va.map (remV (x1, x2, x3))).map vS := by
        rw [HU.out, List.take_of_length_le (by omega), List.drop_eq_nil_of_le (by omega), List.map_map]
        simp
      obtain ⟨y, hu0, hyu⟩ := vS_get hUn (k := kx) (v := remV (x1, x2, x3) ((y1, y2), vR, vl, va)) (by rw [List.getElem?_map, HY.out]; rfl)
      have hrn : y.2.1.2.1 ≤ 30 := by
        have hm := List.mem_of_getElem? HY.out
        have h1 := (HDd.out.r _ hm).2.dlen
        have h2 := Fa.out.r30 _ hm
        have h3 := (HM.out.r y (List.mem_of_getElem? hu0)).2.dlen
        have h4 : y.2.1.2.2.2 = turnD (filD vR.2.2.2 (x1, x2, x3)) := congrArg (fun s : (Int × Int) × List D × ByteArray × Int => s.2.1) hyu
        rw [h4, turnD_len] at h3
        have h5 := filD_len vR.2.2.2 (x1, x2, x3)
        have h6 : vR.2.2.2.length = vR.2.1 := h1
        have h7 : vR.2.1 ≤ 30 := h2
        omega
      obtain ⟨⟨i1, i2⟩, ⟨rA, rn, rc, rL⟩, lb, at_⟩ := y
      have HRn : RowKit.Hid (rn ≤ 30) := Lib.hid hrn
      have HUm : RowKit.Hid (∀ (A9 : Option Addr) (c9 : Nat), (Us.set kx ((i1, i2), (A9, (turnD (insR rL (0, 0, 0) (x1, x2, x3))).length, c9, turnD (insR rL (0, 0, 0) (x1, x2, x3))), lb, at_)).map vS = ((Va.map (remV (x1, x2, x3))).set kx (insV (x1, x2, x3) (remV (x1, x2, x3) ((y1, y2), vR, vl, va)))).map vS) := Lib.hid (fun A9 c9 => by
        rw [List.map_set, hUn, List.map_set]
        exact congrArg (fun z => ((Va.map (remV (x1, x2, x3))).map vS).set kx z) (Eq.trans rfl (vS_insV (x := (x1, x2, x3)) hyu)))
      have hidx0 := hidx
      have hidx := hkx
      clear hUn hyu hrn HU hidx0
      obtain ⟨gm, rfl, hlo, -, hc, hf, -⟩ := HM.out.put hu0 hidx (rA, rn, rc, rL) (HM.out.r _ (List.mem_of_getElem? hu0))
      replace hc : wo.cell? ⟨gm, kx * 5 + 2, none⟩ = some (.slice rA rn rc) := hc
      have HR : RowKit.Hid (RgOk wo (rA, rn, rc, rL)) := Lib.hid (HM.out.r _ (List.mem_of_getElem? hu0))
      have Hfar : RowKit.Hid (∀ a, A3 = some a → gm ≠ a.block) := Lib.hid (fun a ha => by have h1 := HLo.out _ rfl; have h2 := (own_lt HT.out.v ha).1; have h3 : gm < lo2 := h1; omega)
      obtain ⟨L9, gL9⟩ : ∃ z, turnD (insR rL (0, 0, 0) (x1, x2, x3)) = z := ⟨_, rfl⟩
      have HL9 := Lib.hid gL9
      have HRm : RowKit.Hid (∀ W, RgOk W (rA, rn, rc, rL) → Calls Try.prog 32 #[.slice rA rn rc, .agg #[.int .i64 0, .int .i64 0, .int .i64 0], .agg #[.int .i64 x1, .int .i64 x2, .int .i64 x3]] W (GivesC W L9)) := Lib.hid (fun W h => by
        rw [← HL9.out]
        exact rfinsertc_any rA rn rc rL (0, 0, 0) (x1, x2, x3) W h.2 (by have := HRn.out; omega))
      have HYo := Lib.hid (HYd.out.bl HZ.out)
      clear gL9 hlo hf
      go_upto_region 14 with fail
      try clear cb
      have ld0 : ∀ w', Kept Nil_ wo.drew w' → w'.cell? ⟨g10, 0, none⟩ = some (.slice (some ⟨gm, 0, none⟩) na c2) := fun w' h => h.nil_cell (H1.out.dr.cell (i := 0) rfl)
      have ld1 : ∀ w', Kept Nil_ wo.drew w' → w'.cell? ⟨gm, kx * 5 + 2, none⟩ = some (.slice rA rn rc) := fun w' h => h.nil_cell (show wo.drew.cell? _ = _ from hc)
      have ld2 : ∀ w', Kept Nil_ wo.drew w' → w'.cell? ⟨w.heap.size + 1, 0, none⟩ = some (.int .i64 x1) := fun w' h => h.nil_cell (HYo.out.dr.cell (i := 0) rfl)
      have ld3 : ∀ w', Kept Nil_ wo.drew w' → w'.cell? ⟨w.heap.size + 1, 1, none⟩ = some (.int .i64 x2) := fun w' h => h.nil_cell (HYo.out.dr.cell (i := 1) rfl)
      have ld4 : ∀ w', Kept Nil_ wo.drew w' → w'.cell? ⟨w.heap.size + 1, 2, none⟩ = some (.int .i64 x3) := fun w' h => h.nil_cell (HYo.out.dr.cell (i := 2) rfl)
      clear hc HYo
      refine wp_region_tail (Nil_) [14] (by kernel_rfl) ?_
      apply wpT_next 0 (some 93) (by kernel_rfl)
      · simp only [List.getElem?_toArray, List.getElem?_cons_succ, List.getElem?_cons_zero]; exact rfl
      · rfl
      · kernel_rfl
      · kernel_rfl
      · kernel_rfl
      · exact fun _ _ _ _ h => h
      apply Exists.intro
      apply And.intro
      · apply yr_run; rfl; intro w' hw'; go_simp; (try with_reducible rfl)
      simp only [Act.put, List.setIfInBounds_toArray, List.set_cons_zero, List.set_cons_succ]
      apply wpT_next 1 (some 94) (by kernel_rfl)
      · simp only [List.getElem?_toArray, List.getElem?_cons_succ, List.getElem?_cons_zero]; exact rfl
      · rfl
      · kernel_rfl
      · kernel_rfl
      · kernel_rfl
      · exact fun _ _ _ _ h => h
      apply Exists.intro
      apply And.intro
      · apply yr_run; rfl; intro w' hw'; go_simp; (try with_reducible rfl)
      simp only [Act.put, List.setIfInBounds_toArray, List.set_cons_zero, List.set_cons_succ]
      apply wpT_next 2 (some 95) (by kernel_rfl)
      · simp only [List.getElem?_toArray, List.getElem?_cons_succ, List.getElem?_cons_zero]; exact rfl
      · rfl
      · kernel_rfl
      · kernel_rfl
      · kernel_rfl
      · exact fun _ _ _ _ h => h
      apply Exists.intro
      apply And.intro
      · apply yr_run; rfl; intro w' hw'; go_simp; (try with_reducible rfl)
      simp only [Act.put, List.setIfInBounds_toArray, List.set_cons_zero, List.set_cons_succ]
      apply wpT_next 3 (some 96) (by kernel_rfl)
      · simp only [List.getElem?_toArray, List.getElem?_cons_succ, List.getElem?_cons_zero]; exact rfl
      · rfl
      · kernel_rfl
      · kernel_rfl
      · kernel_rfl
      · exact fun _ _ _ _ h => h
      apply Exists.intro
      apply And.intro
      · apply yr_run; rfl; intro w' hw'; go_simp; (try with_reducible rfl)
      simp only [Act.put, List.setIfInBounds_toArray, List.set_cons_zero, List.set_cons_succ]
      apply wpT_next 4 (some 97) (by kernel_rfl)
      · simp only [List.getElem?_toArray, List.getElem?_cons_succ, List.getElem?_cons_zero]; exact rfl
      · rfl
      · kernel_rfl
      · kernel_rfl
      · kernel_rfl
      · exact fun _ _ _ _ h => h
      apply Exists.intro
      apply And.intro
      · apply yr_run; rfl; intro w' hw'; go_simp; (try with_reducible rfl)
      simp only [Act.put, List.setIfInBounds_toArray, List.set_cons_zero, List.set_cons_succ]
      apply wpT_next 5 (some 98) (by kernel_rfl)
      · simp only [List.getElem?_toArray, List.getElem?_cons_succ, List.getElem?_cons_zero]; exact rfl
      · rfl
      · kernel_rfl
      · kernel_rfl
      · kernel_rfl
      · exact fun _ _ _ _ h => h
      apply Exists.intro
      apply And.intro
      · apply yr_run; rfl; intro w' hw'; go_simp; (try with_reducible rfl)
      simp only [Act.put, List.setIfInBounds_toArray, List.set_cons_zero, List.set_cons_succ]
      apply wpT_next 6 (some 99) (by kernel_rfl)
      · simp only [List.getElem?_toArray, List.getElem?_cons_succ, List.getElem?_cons_zero]; exact rfl
      · rfl
      · kernel_rfl
      · kernel_rfl
      · kernel_rfl
      · exact fun _ _ _ _ h => h
      apply Exists.intro
      apply And.intro
      · apply yr_run; rfl; intro w' hw'; go_simp; (try with_reducible rfl)
      simp only [Act.put, List.setIfInBounds_toArray, List.set_cons_zero, List.set_cons_succ]
      apply wpT_next 7 (some 100) (by kernel_rfl)
      · simp only [List.getElem?_toArray, List.getElem?_cons_succ, List.getElem?_cons_zero]; exact rfl
      · rfl
      · kernel_rfl
      · kernel_rfl
      · kernel_rfl
      · exact fun _ _ _ _ h => h
      apply Exists.intro
      apply And.intro
      · apply yr_run; rfl; intro w' hw'; go_simp; (try with_reducible rfl)
      simp only [Act.put, List.setIfInBounds_toArray, List.set_cons_zero, List.set_cons_succ]
      apply wpT_next 8 (some 101) (by kernel_rfl)
      · simp only [List.getElem?_toArray, List.getElem?_cons_succ, List.getElem?_cons_zero]; exact rfl
      · rfl
      · kernel_rfl
      · kernel_rfl
      · kernel_rfl
      · exact fun _ _ _ _ h => h
      apply Exists.intro
      apply And.intro
      · apply yr_run; rfl; intro w' hw'; go_simp; (try with_reducible rfl)
      simp only [Act.put, List.setIfInBounds_toArray, List.set_cons_zero, List.set_cons_succ]
      apply wpT_next 9 (some 102) (by kernel_rfl)
      · simp only [List.getElem?_toArray, List.getElem?_cons_succ, List.getElem?_cons_zero]; exact rfl
      · rfl
      · kernel_rfl
      · kernel_rfl
      · kernel_rfl
      · exact fun _ _ _ _ h => h
      apply Exists.intro
      apply And.intro
      · apply yr_run; rfl; intro w' hw'; go_simp; (try with_reducible rfl)
      simp only [Act.put, List.setIfInBounds_toArray, List.set_cons_zero, List.set_cons_succ]
      apply wpT_next 10 (some 103) (by kernel_rfl)
      · simp only [List.getElem?_toArray, List.getElem?_cons_succ, List.getElem?_cons_zero]; exact rfl
      · rfl
      · kernel_rfl
      · kernel_rfl
      · kernel_rfl
      · exact fun _ _ _ _ h => h
      apply Exists.intro
      apply And.intro
      · apply yr_run; rfl; intro w' hw'; go_simp; (try with_reducible rfl)
      simp only [Act.put, List.setIfInBounds_toArray, List.set_cons_zero, List.set_cons_succ]
      apply wpT_call 11 (some 104)
      · simp only [List.getElem?_toArray, List.getElem?_cons_succ, List.getElem?_cons_zero]; exact rfl
      · rfl
      · kernel_rfl
      · rfl
      · intro w'; go_simp; first | done | exact ⟨rfl, rfl⟩ | with_reducible rfl
      intro w' hw'
      refine (HRm.out w' (HR.out.dr.bl hw')).mono ?_
      rintro e w9 ⟨A9, c9, rfl, hr9, hb9, hc9⟩
      refine ⟨_, rfl, Kept.of_below hb9, ?_⟩
      have H19 := Lib.hid ((H1.out.dr.bl hw').bl hb9)
      have H29 := Lib.hid ((H2.out.dr.bl hw').bl hb9)
      have HM9 := Lib.hid ((HM.out.dr.bl hw').bl hb9)
      have HT9 := Lib.hid ((HT.out.dr.bl hw').bl hb9)
      have HZ9 := Lib.hid (bel_bl (bel_bl (bel_dr HZ.out) hw') hb9)
      have HR9 : RowKit.Hid (RgOk w9 (A9, L9.length, c9, L9)) := Lib.hid ⟨hc9, hr9⟩
      obtain ⟨V9, gV9⟩ : ∃ z, w9 = z := ⟨_, rfl⟩
      rw [gV9] at H19 H29 HM9 HT9 HZ9 HR9 ⊢
      clear hw' hr9 hb9 hc9 gV9 ld0 ld1 ld2 ld3 ld4 HRm HR
      simp only [Act.put, List.setIfInBounds_toArray, List.set_cons_zero, List.set_cons_succ]
      apply wpT_run 12 (some 105)
      · simp only [List.getElem?_toArray, List.getElem?_cons_succ, List.getElem?_cons_zero]; exact rfl
      · rfl
      · kernel_rfl
      · rfl
      intro w' hw'
      apply Exists.intro
      apply Exists.intro
      apply And.intro
      · go_simp; first | done | exact ⟨rfl, rfl⟩ | exact rfl
      apply And.intro
      · exact Kept.refl _ _
      have hpd12 := hw'
      clear hw'
      simp only [Act.put, List.setIfInBounds_toArray, List.set_cons_zero, List.set_cons_succ]
      apply wpT_next 13 (some 106) (by kernel_rfl)
      · simp only [List.getElem?_toArray, List.getElem?_cons_succ, List.getElem?_cons_zero]; exact rfl
      · rfl
      · kernel_rfl
      · kernel_rfl
      · kernel_rfl
      · exact fun _ _ _ _ h => h
      apply Exists.intro
      apply And.intro
      · apply yr_run; rfl; intro w' hw'; go_simp; (try with_reducible rfl)
      simp only [Act.put, List.setIfInBounds_toArray, List.set_cons_zero, List.set_cons_succ]
      apply wpT_last 14
      · simp only [List.getElem?_toArray, List.getElem?_cons_succ, List.getElem?_cons_zero]; exact rfl
      · rfl
      · kernel_rfl
      · rfl
      · decide
      intro w' hw'
      replace hw' := Ext.trans hpd12 hw'
      clear hpd12
      obtain ⟨gq, eq, hloq, ⟨csq, hwq⟩, hcq, hfq, hMq⟩ := (HM9.out.bl hw').put hu0 hidx (A9, L9.length, c9, L9) (HR9.out.bl hw')
      obtain rfl : gm = gq := by
        injection eq with eq
        injection eq
      replace hcq : w'.cell? ⟨gm, kx * 5 + 2, none⟩ = some (.slice rA rn rc) := hcq
      refine ⟨w'.setCell ⟨gm, kx * 5 + 2, none⟩ (.slice A9 L9.length c9), by (go_simp; first | done | exact rfl | exact ⟨rfl, rfl⟩), ?_⟩
      have HMs : RowKit.Hid (Wr (w'.setCell ⟨gm, kx * 5 + 2, none⟩ (.slice A9 L9.length c9)) w34.heap.size (some ⟨gm, 0, none⟩) na c2 (Us.set kx ((i1, i2), (A9, L9.length, c9, L9), lb, at_)) B2 ma k2 Ea) := Lib.hid hMq
      have HTs := Lib.hid ((HT9.out.bl hw').far hcq Hfar.out (.slice A9 L9.length c9))
      have H1s := Lib.hid ((H19.out.bl hw').set_far' (i := kx * 5 + 2) ((H19.out.bl hw').ne_ hwq (by decide)) (.slice A9 L9.length c9))
      have H2s := Lib.hid ((H29.out.bl hw').set_far' (i := kx * 5 + 2) ((H29.out.bl hw').ne_ hwq (by decide)) (.slice A9 L9.length c9))
      have HZs := Lib.hid ((bel_bl HZ9.out hw').setCell (p := ⟨gm, kx * 5 + 2, none⟩) (by show w34.heap.size ≤ gm; have := HLL.out; omega) (.slice A9 L9.length c9))
      obtain ⟨W7, gW7⟩ : ∃ z, w'.setCell ⟨gm, kx * 5 + 2, none⟩ (.slice A9 L9.length c9) = z := ⟨_, rfl⟩
      rw [gW7] at HMs HTs H1s H2s HZs ⊢
      clear hw' eq hloq hwq hcq hfq hMq gW7 H19 H29 HM9 HT9 HZ9 HR9
      try simp only [Act.put, List.setIfInBounds_toArray, List.set_cons_zero, List.set_cons_succ]
      refine wpT_done (by kernel_rfl) ?_ _
      intro W8 hw8
      have HZ8 := Lib.hid (bel_bl HZs.out hw8)
      have H18 := Lib.hid (H1s.out.bl hw8)
      have H28 := Lib.hid (H2s.out.bl hw8)
      have HM8 := Lib.hid (HMs.out.bl hw8)
      have HT8 := Lib.hid (HTs.out.bl hw8)
      clear hw8 HZs H1s H2s HMs HTs HZ H1 H2 HM HT
      clear hu0
      rw [HL9.out] at HUm
      obtain ⟨Us1, gUs1⟩ : ∃ z, Us.set kx ((i1, i2), (A9, L9.length, c9, L9), lb, at_) = z := ⟨_, rfl⟩
      have HU1 := HUm.out A9 c9
      rw [gUs1] at HM8 HU1
      have HU1 := Lib.hid HU1
      clear gUs1 HUm HL9 HRn Hfar
      clear Us
      obtain ⟨Us, gUs⟩ : ∃ z, Us1 = z := ⟨_, rfl⟩
      rw [gUs] at HM8 HU1
      clear gUs
      obtain ⟨wo, gwo⟩ : ∃ z, W8 = z := ⟨_, rfl⟩
      rw [gwo] at HZ8 H18 H28 HM8 HT8 ⊢
      clear gwo
      have HZ := HZ8
      have H1 := H18
      have H2 := H28
      have HM := HM8
      have HT := HT8
      clear HZ8 H18 H28 HM8 HT8
      obtain ⟨y, hu0, hyu⟩ := vS_get HSm2.out (k := kx) (v := ((y1, y2), vR, vl, va)) HY.out
      have hrn : y.2.1.2.1 ≤ 30 := by
        have hm := List.mem_of_getElem? HY.out
        have h1 := (HDd.out.r _ hm).2.dlen
        have h2 := Fa.out.r30 _ hm
        have h3 := (HT.out.r y (List.mem_of_getElem? hu0)).2.dlen
        have h4 : y.2.1.2.2.2 = vR.2.2.2 := congrArg (fun s : (Int × Int) × List D × ByteArray × Int => s.2.1) hyu
        rw [h4] at h3
        have h6 : vR.2.2.2.length = vR.2.1 := h1
        have h7 : vR.2.1 ≤ 30 := h2
        omega
      obtain ⟨⟨i1, i2⟩, ⟨rA, rn, rc, rL⟩, lb, at_⟩ := y
      have HRn : RowKit.Hid (rn ≤ 30) := Lib.hid hrn
      have HUw : RowKit.Hid (∀ (A9 : Option Addr) (c9 : Nat), (We.set kx ((i1, i2), (A9, (turnD (insR rL (0, 0, 0) (x1, x2, x3))).length, c9, turnD (insR rL (0, 0, 0) (x1, x2, x3))), lb, at_)).map vS = (Va.set kx (insV (x1, x2, x3) ((y1, y2), vR, vl, va))).map vS) := Lib.hid (fun A9 c9 => by
        rw [List.map_set, HSm2.out, List.map_set]
        exact congrArg (fun z => (Va.map vS).set kx z) (Eq.trans rfl (vS_insV (x := (x1, x2, x3)) hyu)))
      clear hyu hrn
      obtain ⟨gt, rfl, hlo, -, hc, hf, -⟩ := HT.out.put hu0 hidx (rA, rn, rc, rL) (HT.out.r _ (List.mem_of_getElem? hu0))
      replace hc : wo.cell? ⟨gt, kx * 5 + 2, none⟩ = some (.slice rA rn rc) := hc
      have HR : RowKit.Hid (RgOk wo (rA, rn, rc, rL)) := Lib.hid (HT.out.r _ (List.mem_of_getElem? hu0))
      have Hfar : RowKit.Hid (∀ a, (some (⟨gm, 0, none⟩ : Addr)) = some a → gt ≠ a.block) := Lib.hid (fun a ha => by have h1 := HLo.out _ ha; omega)
      obtain ⟨L9, gL9⟩ : ∃ z, turnD (insR rL (0, 0, 0) (x1, x2, x3)) = z := ⟨_, rfl⟩
      have HL9 := Lib.hid gL9
      have HRm : RowKit.Hid (∀ W, RgOk W (rA, rn, rc, rL) → Calls Try.prog 32 #[.slice rA rn rc, .agg #[.int .i64 0, .int .i64 0, .int .i64 0], .agg #[.int .i64 x1, .int .i64 x2, .int .i64 x3]] W (GivesC W L9)) := Lib.hid (fun W h => by
        rw [← HL9.out]
        exact rfinsertc_any rA rn rc rL (0, 0, 0) (x1, x2, x3) W h.2 (by have := HRn.out; omega))
      have HYo := Lib.hid (HYd.out.bl HZ.out)
      clear gL9 hlo hf
      go_upto_region 15 with fail
      try clear cb
      have ld0 : ∀ w', Kept Nil_ wo.drew w' → w'.cell? ⟨g11, 0, none⟩ = some (.slice (some ⟨gt, 0, none⟩) na c3) := fun w' h => h.nil_cell (H2.out.dr.cell (i := 0) rfl)
      have ld1 : ∀ w', Kept Nil_ wo.drew w' → w'.cell? ⟨gt, kx * 5 + 2, none⟩ = some (.slice rA rn rc) := fun w' h => h.nil_cell (show wo.drew.cell? _ = _ from hc)
      have ld2 : ∀ w', Kept Nil_ wo.drew w' → w'.cell? ⟨w.heap.size + 1, 0, none⟩ = some (.int .i64 x1) := fun w' h => h.nil_cell (HYo.out.dr.cell (i := 0) rfl)
      have ld3 : ∀ w', Kept Nil_ wo.drew w' → w'.cell? ⟨w.heap.size + 1, 1, none⟩ = some (.int .i64 x2) := fun w' h => h.nil_cell (HYo.out.dr.cell (i := 1) rfl)
      have ld4 : ∀ w', Kept Nil_ wo.drew w' → w'.cell? ⟨w.heap.size + 1, 2, none⟩ = some (.int .i64 x3) := fun w' h => h.nil_cell (HYo.out.dr.cell (i := 2) rfl)
      clear hc HYo
      refine wp_region_tail (Nil_) [14] (by kernel_rfl) ?_
      apply wpT_next 0 (some 107) (by kernel_rfl)
      · simp only [List.getElem?_toArray, List.getElem?_cons_succ, List.getElem?_cons_zero]; exact rfl
      · rfl
      · kernel_rfl
      · kernel_rfl
      · kernel_rfl
      · exact fun _ _ _ _ h => h
      apply Exists.intro
      apply And.intro
      · apply yr_run; rfl; intro w' hw'; go_simp; (try with_reducible rfl)
      simp only [Act.put, List.setIfInBounds_toArray, List.set_cons_zero, List.set_cons_succ]
      apply wpT_next 1 (some 108) (by kernel_rfl)
      · simp only [List.getElem?_toArray, List.getElem?_cons_succ, List.getElem?_cons_zero]; exact rfl
      · rfl
      · kernel_rfl
      · kernel_rfl
      · kernel_rfl
      · exact fun _ _ _ _ h => h
      apply Exists.intro
      apply And.intro
      · apply yr_run; rfl; intro w' hw'; go_simp; (try with_reducible rfl)
      simp only [Act.put, List.setIfInBounds_toArray, List.set_cons_zero, List.set_cons_succ]
      apply wpT_next 2 (some 109) (by kernel_rfl)
      · simp only [List.getElem?_toArray, List.getElem?_cons_succ, List.getElem?_cons_zero]; exact rfl
      · rfl
      · kernel_rfl
      · kernel_rfl
      · kernel_rfl
      · exact fun _ _ _ _ h => h
      apply Exists.intro
      apply And.intro
      · apply yr_run; rfl; intro w' hw'; go_simp; (try with_reducible rfl)
      simp only [Act.put, List.setIfInBounds_toArray, List.set_cons_zero, List.set_cons_succ]
      apply wpT_next 3 (some 110) (by kernel_rfl)
      · simp only [List.getElem?_toArray, List.getElem?_cons_succ, List.getElem?_cons_zero]; exact rfl
      · rfl
      · kernel_rfl
      · kernel_rfl
      · kernel_rfl
      · exact fun _ _ _ _ h => h
      apply Exists.intro
      apply And.intro
      · apply yr_run; rfl; intro w' hw'; go_simp; (try with_reducible rfl)
      simp only [Act.put, List.setIfInBounds_toArray, List.set_cons_zero, List.set_cons_succ]
      apply wpT_next 4 (some 111) (by kernel_rfl)
      · simp only [List.getElem?_toArray, List.getElem?_cons_succ, List.getElem?_cons_zero]; exact rfl
      · rfl
      · kernel_rfl
      · kernel_rfl
      · kernel_rfl
      · exact fun _ _ _ _ h => h
      apply Exists.intro
      apply And.intro
      · apply yr_run; rfl; intro w' hw'; go_simp; (try with_reducible rfl)
      simp only [Act.put, List.setIfInBounds_toArray, List.set_cons_zero, List.set_cons_succ]
      apply wpT_next 5 (some 112) (by kernel_rfl)
      · simp only [List.getElem?_toArray, List.getElem?_cons_succ, List.getElem?_cons_zero]; exact rfl
      · rfl
      · kernel_rfl
      · kernel_rfl
      · kernel_rfl
      · exact fun _ _ _ _ h => h
      apply Exists.intro
      apply And.intro
      · apply yr_run; rfl; intro w' hw'; go_simp; (try with_reducible rfl)
      simp only [Act.put, List.setIfInBounds_toArray, List.set_cons_zero, List.set_cons_succ]
      apply wpT_next 6 (some 113) (by kernel_rfl)
      · simp only [List.getElem?_toArray, List.getElem?_cons_succ, List.getElem?_cons_zero]; exact rfl
      · rfl
      · kernel_rfl
      · kernel_rfl
      · kernel_rfl
      · exact fun _ _ _ _ h => h
      apply Exists.intro
      apply And.intro
      · apply yr_run; rfl; intro w' hw'; go_simp; (try with_reducible rfl)
      simp only [Act.put, List.setIfInBounds_toArray, List.set_cons_zero, List.set_cons_succ]
      apply wpT_next 7 (some 114) (by kernel_rfl)
      · simp only [List.getElem?_toArray, List.getElem?_cons_succ, List.getElem?_cons_zero]; exact rfl
      · rfl
      · kernel_rfl
      · kernel_rfl
      · kernel_rfl
      · exact fun _ _ _ _ h => h
      apply Exists.intro
      apply And.intro
      · apply yr_run; rfl; intro w' hw'; go_simp; (try with_reducible rfl)
      simp only [Act.put, List.setIfInBounds_toArray, List.set_cons_zero, List.set_cons_succ]
      apply wpT_next 8 (some 115) (by kernel_rfl)
      · simp only [List.getElem?_toArray, List.getElem?_cons_succ, List.getElem?_cons_zero]; exact rfl
      · rfl
      · kernel_rfl
      · kernel_rfl
      · kernel_rfl
      · exact fun _ _ _ _ h => h
      apply Exists.intro
      apply And.intro
      · apply yr_run; rfl; intro w' hw'; go_simp; (try with_reducible rfl)
      simp only [Act.put, List.setIfInBounds_toArray, List.set_cons_zero, List.set_cons_succ]
      apply wpT_next 9 (some 116) (by kernel_rfl)
      · simp only [List.getElem?_toArray, List.getElem?_cons_succ, List.getElem?_cons_zero]; exact rfl
      · rfl
      · kernel_rfl
      · kernel_rfl
      · kernel_rfl
      · exact fun _ _ _ _ h => h
      apply Exists.intro
      apply And.intro
      · apply yr_run; rfl; intro w' hw'; go_simp; (try with_reducible rfl)
      simp only [Act.put, List.setIfInBounds_toArray, List.set_cons_zero, List.set_cons_succ]
      apply wpT_next 10 (some 117) (by kernel_rfl)
      · simp only [List.getElem?_toArray, List.getElem?_cons_succ, List.getElem?_cons_zero]; exact rfl
      · rfl
      · kernel_rfl
      · kernel_rfl
      · kernel_rfl
      · exact fun _ _ _ _ h => h
      apply Exists.intro
      apply And.intro
      · apply yr_run; rfl; intro w' hw'; go_simp; (try with_reducible rfl)
      simp only [Act.put, List.setIfInBounds_toArray, List.set_cons_zero, List.set_cons_succ]
      apply wpT_call 11 (some 118)
      · simp only [List.getElem?_toArray, List.getElem?_cons_succ, List.getElem?_cons_zero]; exact rfl
      · rfl
      · kernel_rfl
      · rfl
      · intro w'; go_simp; first | done | exact ⟨rfl, rfl⟩ | with_reducible rfl
      intro w' hw'
      refine (HRm.out w' (HR.out.dr.bl hw')).mono ?_
      rintro e w9 ⟨A9, c9, rfl, hr9, hb9, hc9⟩
      refine ⟨_, rfl, Kept.of_below hb9, ?_⟩
      have H19 := Lib.hid ((H1.out.dr.bl hw').bl hb9)
      have H29 := Lib.hid ((H2.out.dr.bl hw').bl hb9)
      have HM9 := Lib.hid ((HM.out.dr.bl hw').bl hb9)
      have HT9 := Lib.hid ((HT.out.dr.bl hw').bl hb9)
      have HZ9 := Lib.hid (bel_bl (bel_bl (bel_dr HZ.out) hw') hb9)
      have HR9 : RowKit.Hid (RgOk w9 (A9, L9.length, c9, L9)) := Lib.hid ⟨hc9, hr9⟩
      obtain ⟨V9, gV9⟩ : ∃ z, w9 = z := ⟨_, rfl⟩
      rw [gV9] at H19 H29 HM9 HT9 HZ9 HR9 ⊢
      clear hw' hr9 hb9 hc9 gV9 ld0 ld1 ld2 ld3 ld4 HRm HR
      simp only [Act.put, List.setIfInBounds_toArray, List.set_cons_zero, List.set_cons_succ]
      apply wpT_run 12 (some 119)
      · simp only [List.getElem?_toArray, List.getElem?_cons_succ, List.getElem?_cons_zero]; exact rfl
      · rfl
      · kernel_rfl
      · rfl
      intro w' hw'
      apply Exists.intro
      apply Exists.intro
      apply And.intro
      · go_simp; first | done | exact ⟨rfl, rfl⟩ | exact rfl
      apply And.intro
      · exact Kept.refl _ _
      have hpd12 := hw'
      clear hw'
      simp only [Act.put, List.setIfInBounds_toArray, List.set_cons_zero, List.set_cons_succ]
      apply wpT_next 13 (some 120) (by kernel_rfl)
      · simp only [List.getElem?_toArray, List.getElem?_cons_succ, List.getElem?_cons_zero]; exact rfl
      · rfl
      · kernel_rfl
      · kernel_rfl
      · kernel_rfl
      · exact fun _ _ _ _ h => h
      apply Exists.intro
      apply And.intro
      · apply yr_run; rfl; intro w' hw'; go_simp; (try with_reducible rfl)
      simp only [Act.put, List.setIfInBounds_toArray, List.set_cons_zero, List.set_cons_succ]
      apply wpT_last 14
      · simp only [List.getElem?_toArray, List.getElem?_cons_succ, List.getElem?_cons_zero]; exact rfl
      · rfl
      · kernel_rfl
      · rfl
      · decide
      intro w' hw'
      replace hw' := Ext.trans hpd12 hw'
      clear hpd12
      obtain ⟨gq, eq, hloq, ⟨csq, hwq⟩, hcq, hfq, hMq⟩ := (HT9.out.bl hw').put hu0 hidx (A9, L9.length, c9, L9) (HR9.out.bl hw')
      obtain rfl : gt = gq := by
        injection eq with eq
        injection eq
      replace hcq : w'.cell? ⟨gt, kx * 5 + 2, none⟩ = some (.slice rA rn rc) := hcq
      refine ⟨w'.setCell ⟨gt, kx * 5 + 2, none⟩ (.slice A9 L9.length c9), by (go_simp; first | done | exact rfl | exact ⟨rfl, rfl⟩), ?_⟩
      have HTs : RowKit.Hid (Wr (w'.setCell ⟨gt, kx * 5 + 2, none⟩ (.slice A9 L9.length c9)) lo2 (some ⟨gt, 0, none⟩) na c3 (We.set kx ((i1, i2), (A9, L9.length, c9, L9), lb, at_)) B3 ma k3 Ea) := Lib.hid hMq
      have HMs := Lib.hid ((HM9.out.bl hw').far hcq Hfar.out (.slice A9 L9.length c9))
      have H1s := Lib.hid ((H19.out.bl hw').set_far' (i := kx * 5 + 2) ((H19.out.bl hw').ne_ hwq (by decide)) (.slice A9 L9.length c9))
      have H2s := Lib.hid ((H29.out.bl hw').set_far' (i := kx * 5 + 2) ((H29.out.bl hw').ne_ hwq (by decide)) (.slice A9 L9.length c9))
      have HZs := Lib.hid ((bel_bl HZ9.out hw').setCell (p := ⟨gt, kx * 5 + 2, none⟩) (by show w34.heap.size ≤ gt; have := HLL.out; omega) (.slice A9 L9.length c9))
      obtain ⟨W7, gW7⟩ : ∃ z, w'.setCell ⟨gt, kx * 5 + 2, none⟩ (.slice A9 L9.length c9) = z := ⟨_, rfl⟩
      rw [gW7] at HTs HMs H1s H2s HZs ⊢
      clear hw' eq hloq hwq hcq hfq hMq gW7 H19 H29 HM9 HT9 HZ9 HR9
      try simp only [Act.put, List.setIfInBounds_toArray, List.set_cons_zero, List.set_cons_succ]
      refine wpT_done (by kernel_rfl) ?_ _
      intro W8 hw8
      have HZ8 := Lib.hid (bel_bl HZs.out hw8)
      have H18 := Lib.hid (H1s.out.bl hw8)
      have H28 := Lib.hid (H2s.out.bl hw8)
      have HM8 := Lib.hid (HMs.out.bl hw8)
      have HT8 := Lib.hid (HTs.out.bl hw8)
      clear hw8 HZs H1s H2s HMs HTs HZ H1 H2 HM HT
      clear hu0
      rw [HL9.out] at HUw
      obtain ⟨Ws, gWs⟩ : ∃ z, We.set kx ((i1, i2), (A9, L9.length, c9, L9), lb, at_) = z := ⟨_, rfl⟩
      have HW1 := HUw.out A9 c9
      rw [gWs] at HT8 HW1
      obtain ⟨n1, n2, n3, n4, n5, n6, n7, n8⟩ := moves_num (x := (x1, x2, x3)) HFm.out Gp.out HY.out HNe.out HU1.out HW1
      have hgood : ∀ d ∈ ringsOf Va, wfD d := fun d hd => by
        obtain ⟨q, hq, hdq⟩ := List.mem_flatMap.1 hd
        exact Fa.out.good.v q hq d hdq
      have HFa : RowKit.Hid (∀ W, DgIn W (some ⟨gm, 0, none⟩) na c2 Us B2 ma k2 Ea → Calls Try.prog 12 #[.agg #[.slice (some ⟨gm, 0, none⟩) na c2, .slice B2 ma k2]] W fun e w' => e = .returned (.int .i64 0) ∧ Below W.heap.size W w') := Lib.hid (fun W h => by
        have h1 := form_any _ na c2 Us B2 ma k2 Ea W h (fun q hq => by have a1 := (h.r q hq).2.dlen; have a2 := ring_len hq; omega) Fa.out.good.e (fun q hq d hd => hgood d (n5 d (List.mem_flatMap.2 ⟨q, hq, hd⟩)))
        rwa [n1] at h1)
      have HFb : RowKit.Hid (∀ W, DgIn W (some ⟨gt, 0, none⟩) na c3 Ws B3 ma k3 Ea → Calls Try.prog 12 #[.agg #[.slice (some ⟨gt, 0, none⟩) na c3, .slice B3 ma k3]] W fun e w' => e = .returned (.int .i64 10) ∧ Below W.heap.size W w') := Lib.hid (fun W h => by
        have h1 := form_any _ na c3 Ws B3 ma k3 Ea W h (fun q hq => by have a1 := (h.r q hq).2.dlen; have a2 := ring_len hq; omega) Fa.out.good.e (fun q hq d hd => hgood d (n6 d (List.mem_flatMap.2 ⟨q, hq, hd⟩)))
        rwa [n2] at h1)
      have HAm : RowKit.Hid (∀ W, DgIn W (some ⟨gm, 0, none⟩) na c2 Us B2 ma k2 Ea → Calls Try.prog 22 #[.agg #[.slice (some ⟨gm, 0, none⟩) na c2, .slice B2 ma k2], .agg #[.int .i64 x1, .int .i64 x2, .int .i64 x3]] W fun e w' => e = .returned (.tuple #[.agg #[.int .i64 y1, .int .i64 y2], .bool true]) ∧ Below W.heap.size W w') := Lib.hid (fun W h => by
        have h1 := at_any _ na c2 Us B2 ma k2 Ea x1 x2 x3 W h hn30 (fun q hq => by have a1 := (h.r q hq).2.dlen; have a2 := ring_len hq; omega)
        rwa [n3] at h1)
      have HSn : RowKit.Hid (∀ W, DgIn W (some ⟨gm, 0, none⟩) na c2 Us B2 ma k2 Ea → DgIn W (some ⟨gd, od, none⟩) na ca Va Ba ma ka Ea → Calls Try.prog 29 #[.agg #[.slice (some ⟨gm, 0, none⟩) na c2, .slice B2 ma k2], .agg #[.slice (some ⟨gd, od, none⟩) na ca, .slice Ba ma ka]] W fun e w' => e = .returned (.bool false) ∧ Below W.heap.size W w') := Lib.hid (fun W h1 h2 => by
        have h3 := same_any _ na c2 Us B2 ma k2 Ea _ na ca Va Ba ma ka Ea W h1 h2 hn30 hm50
        rwa [decide_eq_false (fun q => n4 q.1)] at h3)
      have heJ : ∀ W, (binOp .eql 34 (.agg #[.int .i64 y1, .int .i64 y2]) (.agg #[.int .i64 y1, .int .i64 y2])).run Try.prog W = .ok (.bool true) W := fun W => by
        have h1 := eq_id y1 y2 y1 y2 W
        simpa using h1
      have HE0 := Lib.hid (HDd.out.bl HZ8.out)
      have HE1 := Lib.hid (HXd.out.bl HZ8.out)
      have HE2 := Lib.hid (HYd.out.bl HZ8.out)
      have HE3 := Lib.hid HM8.out.dg
      have HE4 := Lib.hid HT8.out.dg
      have HEB := Lib.hid (bel_bl HBd.out HZ8.out)
      clear n1 n2 n3 n4 n5 n6 n7 n8 hgood gWs HW1 HUw HL9 HRn Hfar HM8 HT8 HZ8 HU1 hidx heI
      have lw901 : (W8).cell? ⟨g10, 0, none⟩ = some (.slice (some ⟨gm, 0, none⟩) na c2) := H18.out.cell (i := 0) rfl
      have lw902 : (W8).cell? ⟨g10, 1, none⟩ = some (.slice B2 ma k2) := H18.out.cell (i := 1) rfl
      have lw903 : (W8).cell? ⟨(w.heap.size + 1), 0, none⟩ = some (.int .i64 x1) := HE2.out.cell (i := 0) rfl
      have lw904 : (W8).cell? ⟨(w.heap.size + 1), 1, none⟩ = some (.int .i64 x2) := HE2.out.cell (i := 1) rfl
      have lw905 : (W8).cell? ⟨(w.heap.size + 1), 2, none⟩ = some (.int .i64 x3) := HE2.out.cell (i := 2) rfl
      go_wp2_with fail
      clear lw901 lw902 lw903 lw904 lw905
      refine (HAm.out _ HE3.out).mono ?_
      rintro e w906 ⟨rfl, hb906⟩
      have Da_907 := Lib.hid (HE0.out.bl hb906)
      have D0_907 := Lib.hid (HE1.out.bl hb906)
      have X_907 := Lib.hid (HE2.out.bl hb906)
      have Mo_907 := Lib.hid (HE3.out.bl hb906)
      have Tw_907 := Lib.hid (HE4.out.bl hb906)
      have C1_907 := Lib.hid (H18.out.bl hb906)
      have C2_907 := Lib.hid (H28.out.bl hb906)
      have Bel_907 := Lib.hid (bel_bl HEB.out hb906)
      clear HE0 HE1 HE2 HE3 HE4 H18 H28 HEB
      clear hb906
      go_upto_region 17 with fail
      have Da_908 := Lib.hid ((Da_907.out.al (.cells #[.int .i64 y1, .int .i64 y2] 34)))
      have D0_908 := Lib.hid ((D0_907.out.al (.cells #[.int .i64 y1, .int .i64 y2] 34)))
      have X_908 := Lib.hid ((X_907.out.al (.cells #[.int .i64 y1, .int .i64 y2] 34)))
      have Mo_908 := Lib.hid ((Mo_907.out.al (.cells #[.int .i64 y1, .int .i64 y2] 34)))
      have Tw_908 := Lib.hid ((Tw_907.out.al (.cells #[.int .i64 y1, .int .i64 y2] 34)))
      have C1_908 := Lib.hid ((C1_907.out.al (.cells #[.int .i64 y1, .int .i64 y2] 34)))
      have C2_908 := Lib.hid ((C2_907.out.al (.cells #[.int .i64 y1, .int .i64 y2] 34)))
      have Q_908 := Lib.hid ((show Whole (w906.alloc (.cells #[.int .i64 y1, .int .i64 y2] 34)) (w906.heap.size) (34) ([.int .i64 y1, .int .i64 y2]) from Whole.new2 (by first | rfl | simp)))
      have Bel_908 := Lib.hid (bel_al Bel_907.out (.cells #[.int .i64 y1, .int .i64 y2] 34))
      obtain ⟨v908, gv908⟩ : ∃ x, (w906.alloc (.cells #[.int .i64 y1, .int .i64 y2] 34)) = x := ⟨_, rfl⟩
      rw [gv908] at Da_908 D0_908 X_908 Mo_908 Tw_908 C1_908 C2_908 Q_908 Bel_908 ⊢
      clear gv908
      clear Da_907 D0_907 X_907 Mo_907 Tw_907 C1_907 C2_907 Bel_907
      have Da_909 := Lib.hid (Da_908.out.dr)
      have D0_909 := Lib.hid (D0_908.out.dr)
      have X_909 := Lib.hid (X_908.out.dr)
      have Mo_909 := Lib.hid (Mo_908.out.dr)
      have Tw_909 := Lib.hid (Tw_908.out.dr)
      have C1_909 := Lib.hid (C1_908.out.dr)
      have C2_909 := Lib.hid (C2_908.out.dr)
      have Q_909 := Lib.hid (Q_908.out.dr)
      have Bel_909 := Lib.hid (bel_dr Bel_908.out)
      have ld910 : ∀ w', Kept Nil_ v908.drew w' → w'.cell? ⟨g10, 0, none⟩ = some (.slice (some ⟨gm, 0, none⟩) na c2) := fun w' h => h.nil_cell (C1_909.out.cell (i := 0) rfl)
      have ld911 : ∀ w', Kept Nil_ v908.drew w' → w'.cell? ⟨g10, 1, none⟩ = some (.slice B2 ma k2) := fun w' h => h.nil_cell (C1_909.out.cell (i := 1) rfl)
      have ld912 : ∀ w', Kept Nil_ v908.drew w' → w'.cell? ⟨g11, 0, none⟩ = some (.slice (some ⟨gt, 0, none⟩) na c3) := fun w' h => h.nil_cell (C2_909.out.cell (i := 0) rfl)
      have ld913 : ∀ w', Kept Nil_ v908.drew w' → w'.cell? ⟨g11, 1, none⟩ = some (.slice B3 ma k3) := fun w' h => h.nil_cell (C2_909.out.cell (i := 1) rfl)
      have ld914 : ∀ w', Kept Nil_ v908.drew w' → w'.cell? ⟨w.heap.size, 0, none⟩ = some (.slice (some ⟨gd, od, none⟩) na ca) := fun w' h => h.nil_cell (D0_909.out.cell (i := 0) rfl)
      have ld915 : ∀ w', Kept Nil_ v908.drew w' → w'.cell? ⟨w.heap.size, 1, none⟩ = some (.slice Ba ma ka) := fun w' h => h.nil_cell (D0_909.out.cell (i := 1) rfl)
      have ld916 : ∀ w', Kept Nil_ v908.drew w' → w'.cell? ⟨w906.heap.size, 0, none⟩ = some (.int .i64 y1) := fun w' h => h.nil_cell (Q_909.out.cell (i := 0) rfl)
      have ld917 : ∀ w', Kept Nil_ v908.drew w' → w'.cell? ⟨w906.heap.size, 1, none⟩ = some (.int .i64 y2) := fun w' h => h.nil_cell (Q_909.out.cell (i := 1) rfl)
      have ld918 : ∀ w', Kept Nil_ v908.drew w' → w'.cell? ⟨gd, od + kx * 5, none⟩ = some (.int .i64 y1) := fun w' h => h.nil_cell ((HQv.out _ Da_909.out).1)
      have ld919 : ∀ w', Kept Nil_ v908.drew w' → w'.cell? ⟨gd, od + kx * 5 + 1, none⟩ = some (.int .i64 y2) := fun w' h => h.nil_cell ((HQv.out _ Da_909.out).2)
      refine wp_region_reg Nil_ (by kernel_rfl) ?_
      apply wpR_next 0 (some 127)
      · simp only [List.getElem?_toArray, List.getElem?_cons_succ, List.getElem?_cons_zero]; exact rfl
      · rfl
      · kernel_rfl
      · kernel_rfl
      · kernel_rfl
      · exact fun _ _ _ _ h => h
      apply Exists.intro
      apply And.intro
      · apply yr_run; rfl; intro w' hw'; go_simp; (try with_reducible rfl)
      simp only [Act.put, List.setIfInBounds_toArray, List.set_cons_zero, List.set_cons_succ]
      apply wpR_next 1 (some 128)
      · simp only [List.getElem?_toArray, List.getElem?_cons_succ, List.getElem?_cons_zero]; exact rfl
      · rfl
      · kernel_rfl
      · kernel_rfl
      · kernel_rfl
      · exact fun _ _ _ _ h => h
      apply Exists.intro
      apply And.intro
      · apply yr_run; rfl; intro w' hw'; go_simp; (try with_reducible rfl)
      simp only [Act.put, List.setIfInBounds_toArray, List.set_cons_zero, List.set_cons_succ]
      apply wpR_next 2 (some 129)
      · simp only [List.getElem?_toArray, List.getElem?_cons_succ, List.getElem?_cons_zero]; exact rfl
      · rfl
      · kernel_rfl
      · kernel_rfl
      · kernel_rfl
      · exact fun _ _ _ _ h => h
      apply Exists.intro
      apply And.intro
      · apply yr_run; rfl; intro w' hw'; go_simp; (try with_reducible rfl)
      simp only [Act.put, List.setIfInBounds_toArray, List.set_cons_zero, List.set_cons_succ]
      apply wpR_call 3 (some 130)
      · simp only [List.getElem?_toArray, List.getElem?_cons_succ, List.getElem?_cons_zero]; exact rfl
      · rfl
      · kernel_rfl
      · rfl
      · intro w'; go_simp; first | done | exact ⟨rfl, rfl⟩ | with_reducible rfl
      intro w' hw'
      refine (HFa.out _ (Mo_909.out.bl hw')).mono ?_
      rintro e w920 ⟨rfl, hb920⟩
      have Da_920 := Lib.hid ((Da_909.out.bl hw').bl hb920)
      have D0_920 := Lib.hid ((D0_909.out.bl hw').bl hb920)
      have X_920 := Lib.hid ((X_909.out.bl hw').bl hb920)
      have Mo_920 := Lib.hid ((Mo_909.out.bl hw').bl hb920)
      have Tw_920 := Lib.hid ((Tw_909.out.bl hw').bl hb920)
      have C1_920 := Lib.hid ((C1_909.out.bl hw').bl hb920)
      have C2_920 := Lib.hid ((C2_909.out.bl hw').bl hb920)
      have Q_920 := Lib.hid ((Q_909.out.bl hw').bl hb920)
      have Bel_920 := Lib.hid (bel_bl (bel_bl Bel_909.out hw') hb920)
      have ld921 := fun w'' (h : Kept Nil_ w920 w'') => ld910 w'' ((Kept.of_ext hw').trans ((Kept.of_below hb920).trans h))
      have ld922 := fun w'' (h : Kept Nil_ w920 w'') => ld911 w'' ((Kept.of_ext hw').trans ((Kept.of_below hb920).trans h))
      have ld923 := fun w'' (h : Kept Nil_ w920 w'') => ld912 w'' ((Kept.of_ext hw').trans ((Kept.of_below hb920).trans h))
      have ld924 := fun w'' (h : Kept Nil_ w920 w'') => ld913 w'' ((Kept.of_ext hw').trans ((Kept.of_below hb920).trans h))
      have ld925 := fun w'' (h : Kept Nil_ w920 w'') => ld914 w'' ((Kept.of_ext hw').trans ((Kept.of_below hb920).trans h))
      have ld926 := fun w'' (h : Kept Nil_ w920 w'') => ld915 w'' ((Kept.of_ext hw').trans ((Kept.of_below hb920).trans h))
      have ld927 := fun w'' (h : Kept Nil_ w920 w'') => ld916 w'' ((Kept.of_ext hw').trans ((Kept.of_below hb920).trans h))
      have ld928 := fun w'' (h : Kept Nil_ w920 w'') => ld917 w'' ((Kept.of_ext hw').trans ((Kept.of_below hb920).trans h))
      have ld929 := fun w'' (h : Kept Nil_ w920 w'') => ld918 w'' ((Kept.of_ext hw').trans ((Kept.of_below hb920).trans h))
      have ld930 := fun w'' (h : Kept Nil_ w920 w'') => ld919 w'' ((Kept.of_ext hw').trans ((Kept.of_below hb920).trans h))
      refine ⟨_, rfl, Kept.of_below hb920, ?_⟩
      clear hw' hb920
      simp only [Act.put, List.setIfInBounds_toArray, List.set_cons_zero, List.set_cons_succ]
      apply wpR_next 4 (some 131)
      · simp only [List.getElem?_toArray, List.getElem?_cons_succ, List.getElem?_cons_zero]; exact rfl
      · rfl
      · kernel_rfl
      · kernel_rfl
      · kernel_rfl
      · exact fun _ _ _ _ h => h
      apply Exists.intro
      apply And.intro
      · apply yr_run; rfl; intro w' hw'; go_simp; (try with_reducible rfl)
      simp only [Act.put, List.setIfInBounds_toArray, List.set_cons_zero, List.set_cons_succ]
      apply wpR_next 5 (some 132)
      · simp only [List.getElem?_toArray, List.getElem?_cons_succ, List.getElem?_cons_zero]; exact rfl
      · rfl
      · kernel_rfl
      · kernel_rfl
      · kernel_rfl
      · exact fun _ _ _ _ h => h
      apply Exists.intro
      apply And.intro
      · apply yr_run; rfl; intro w' hw'; go_simp; (try with_reducible rfl)
      simp only [Act.put, List.setIfInBounds_toArray, List.set_cons_zero, List.set_cons_succ]
      apply wpR_next 6 (some 133)
      · simp only [List.getElem?_toArray, List.getElem?_cons_succ, List.getElem?_cons_zero]; exact rfl
      · rfl
      · kernel_rfl
      · kernel_rfl
      · kernel_rfl
      · exact fun _ _ _ _ h => h
      apply Exists.intro
      apply And.intro
      · apply yr_run; rfl; intro w' hw'; go_simp; (try with_reducible rfl)
      simp only [Act.put, List.setIfInBounds_toArray, List.set_cons_zero, List.set_cons_succ]
      apply wpR_next 7 (some 134)
      · simp only [List.getElem?_toArray, List.getElem?_cons_succ, List.getElem?_cons_zero]; exact rfl
      · rfl
      · kernel_rfl
      · kernel_rfl
      · kernel_rfl
      · exact fun _ _ _ _ h => h
      apply Exists.intro
      apply And.intro
      · apply yr_run; rfl; intro w' hw'; go_simp; (try with_reducible rfl)
      simp only [Act.put, List.setIfInBounds_toArray, List.set_cons_zero, List.set_cons_succ]
      apply wpR_call 8 (some 135)
      · simp only [List.getElem?_toArray, List.getElem?_cons_succ, List.getElem?_cons_zero]; exact rfl
      · rfl
      · kernel_rfl
      · rfl
      · intro w'; go_simp; first | done | exact ⟨rfl, rfl⟩ | with_reducible rfl
      intro w' hw'
      refine (HFb.out _ (Tw_920.out.bl hw')).mono ?_
      rintro e w931 ⟨rfl, hb931⟩
      have Da_931 := Lib.hid ((Da_920.out.bl hw').bl hb931)
      have D0_931 := Lib.hid ((D0_920.out.bl hw').bl hb931)
      have X_931 := Lib.hid ((X_920.out.bl hw').bl hb931)
      have Mo_931 := Lib.hid ((Mo_920.out.bl hw').bl hb931)
      have Tw_931 := Lib.hid ((Tw_920.out.bl hw').bl hb931)
      have C1_931 := Lib.hid ((C1_920.out.bl hw').bl hb931)
      have C2_931 := Lib.hid ((C2_920.out.bl hw').bl hb931)
      have Q_931 := Lib.hid ((Q_920.out.bl hw').bl hb931)
      have Bel_931 := Lib.hid (bel_bl (bel_bl Bel_920.out hw') hb931)
      have ld932 := fun w'' (h : Kept Nil_ w931 w'') => ld921 w'' ((Kept.of_ext hw').trans ((Kept.of_below hb931).trans h))
      have ld933 := fun w'' (h : Kept Nil_ w931 w'') => ld922 w'' ((Kept.of_ext hw').trans ((Kept.of_below hb931).trans h))
      have ld934 := fun w'' (h : Kept Nil_ w931 w'') => ld923 w'' ((Kept.of_ext hw').trans ((Kept.of_below hb931).trans h))
      have ld935 := fun w'' (h : Kept Nil_ w931 w'') => ld924 w'' ((Kept.of_ext hw').trans ((Kept.of_below hb931).trans h))
      have ld936 := fun w'' (h : Kept Nil_ w931 w'') => ld925 w'' ((Kept.of_ext hw').trans ((Kept.of_below hb931).trans h))
      have ld937 := fun w'' (h : Kept Nil_ w931 w'') => ld926 w'' ((Kept.of_ext hw').trans ((Kept.of_below hb931).trans h))
      have ld938 := fun w'' (h : Kept Nil_ w931 w'') => ld927 w'' ((Kept.of_ext hw').trans ((Kept.of_below hb931).trans h))
      have ld939 := fun w'' (h : Kept Nil_ w931 w'') => ld928 w'' ((Kept.of_ext hw').trans ((Kept.of_below hb931).trans h))
      have ld940 := fun w'' (h : Kept Nil_ w931 w'') => ld929 w'' ((Kept.of_ext hw').trans ((Kept.of_below hb931).trans h))
      have ld941 := fun w'' (h : Kept Nil_ w931 w'') => ld930 w'' ((Kept.of_ext hw').trans ((Kept.of_below hb931).trans h))
      refine ⟨_, rfl, Kept.of_below hb931, ?_⟩
      clear hw' hb931
      simp only [Act.put, List.setIfInBounds_toArray, List.set_cons_zero, List.set_cons_succ]
      apply wpR_next 9 (some 136)
      · simp only [List.getElem?_toArray, List.getElem?_cons_succ, List.getElem?_cons_zero]; exact rfl
      · rfl
      · kernel_rfl
      · kernel_rfl
      · kernel_rfl
      · exact fun _ _ _ _ h => h
      apply Exists.intro
      apply And.intro
      · apply yr_run; rfl; intro w' hw'; go_simp; (try with_reducible rfl)
      simp only [Act.put, List.setIfInBounds_toArray, List.set_cons_zero, List.set_cons_succ]
      apply wpR_next 10 (some 137)
      · simp only [List.getElem?_toArray, List.getElem?_cons_succ, List.getElem?_cons_zero]; exact rfl
      · rfl
      · kernel_rfl
      · kernel_rfl
      · kernel_rfl
      · exact fun _ _ _ _ h => h
      apply Exists.intro
      apply And.intro
      · apply yr_run; rfl; intro w' hw'; go_simp; (try with_reducible rfl)
      simp only [Act.put, List.setIfInBounds_toArray, List.set_cons_zero, List.set_cons_succ]
      apply wpR_next 11 (some 138)
      · simp only [List.getElem?_toArray, List.getElem?_cons_succ, List.getElem?_cons_zero]; exact rfl
      · rfl
      · kernel_rfl
      · kernel_rfl
      · kernel_rfl
      · exact fun _ _ _ _ h => h
      apply Exists.intro
      apply And.intro
      · apply yr_run; rfl; intro w' hw'; go_simp; (try with_reducible rfl)
      simp only [Act.put, List.setIfInBounds_toArray, List.set_cons_zero, List.set_cons_succ]
      apply wpR_next 12 (some 139)
      · simp only [List.getElem?_toArray, List.getElem?_cons_succ, List.getElem?_cons_zero]; exact rfl
      · rfl
      · kernel_rfl
      · kernel_rfl
      · kernel_rfl
      · exact fun _ _ _ _ h => h
      apply Exists.intro
      apply And.intro
      · apply yr_run; rfl; intro w' hw'; go_simp; (try with_reducible rfl)
      simp only [Act.put, List.setIfInBounds_toArray, List.set_cons_zero, List.set_cons_succ]
      apply wpR_next 13 (some 140)
      · simp only [List.getElem?_toArray, List.getElem?_cons_succ, List.getElem?_cons_zero]; exact rfl
      · rfl
      · kernel_rfl
      · kernel_rfl
      · kernel_rfl
      · exact fun _ _ _ _ h => h
      apply Exists.intro
      apply And.intro
      · apply yr_run; rfl; intro w' hw'; go_simp; (try with_reducible rfl)
      simp only [Act.put, List.setIfInBounds_toArray, List.set_cons_zero, List.set_cons_succ]
      apply wpR_next 14 (some 141)
      · simp only [List.getElem?_toArray, List.getElem?_cons_succ, List.getElem?_cons_zero]; exact rfl
      · rfl
      · kernel_rfl
      · kernel_rfl
      · kernel_rfl
      · exact fun _ _ _ _ h => h
      apply Exists.intro
      apply And.intro
      · apply yr_run; rfl; intro w' hw'; go_simp; (try with_reducible rfl)
      simp only [Act.put, List.setIfInBounds_toArray, List.set_cons_zero, List.set_cons_succ]
      apply wpR_next 15 (some 142)
      · simp only [List.getElem?_toArray, List.getElem?_cons_succ, List.getElem?_cons_zero]; exact rfl
      · rfl
      · kernel_rfl
      · kernel_rfl
      · kernel_rfl
      · exact fun _ _ _ _ h => h
      apply Exists.intro
      apply And.intro
      · apply yr_run; rfl; intro w' hw'; go_simp; (try with_reducible rfl)
      simp only [Act.put, List.setIfInBounds_toArray, List.set_cons_zero, List.set_cons_succ]
      apply wpR_next 16 (some 143)
      · simp only [List.getElem?_toArray, List.getElem?_cons_succ, List.getElem?_cons_zero]; exact rfl
      · rfl
      · kernel_rfl
      · kernel_rfl
      · kernel_rfl
      · exact fun _ _ _ _ h => h
      apply Exists.intro
      apply And.intro
      · apply yr_run; rfl; intro w' hw'; go_simp; (try with_reducible rfl)
      simp only [Act.put, List.setIfInBounds_toArray, List.set_cons_zero, List.set_cons_succ]
      apply wpR_next 17 (some 144)
      · simp only [List.getElem?_toArray, List.getElem?_cons_succ, List.getElem?_cons_zero]; exact rfl
      · rfl
      · kernel_rfl
      · kernel_rfl
      · kernel_rfl
      · exact fun _ _ _ _ h => h
      apply Exists.intro
      apply And.intro
      · apply yr_run; rfl; intro w' hw'; go_simp; (try with_reducible rfl)
      simp only [Act.put, List.setIfInBounds_toArray, List.set_cons_zero, List.set_cons_succ]
      apply wpR_next 18 (some 145)
      · simp only [List.getElem?_toArray, List.getElem?_cons_succ, List.getElem?_cons_zero]; exact rfl
      · rfl
      · kernel_rfl
      · kernel_rfl
      · kernel_rfl
      · exact fun _ _ _ _ h => h
      apply Exists.intro
      apply And.intro
      · apply yr_run; rfl; intro w' hw'; go_simp; (try with_reducible rfl)
      simp only [Act.put, List.setIfInBounds_toArray, List.set_cons_zero, List.set_cons_succ]
      apply wpR_next 19 (some 146)
      · simp only [List.getElem?_toArray, List.getElem?_cons_succ, List.getElem?_cons_zero]; exact rfl
      · rfl
      · kernel_rfl
      · kernel_rfl
      · kernel_rfl
      · exact fun _ _ _ _ h => h
      apply Exists.intro
      apply And.intro
      · apply yr_run; rfl; intro w' hw'; go_simp; (try with_reducible rfl)
      simp only [Act.put, List.setIfInBounds_toArray, List.set_cons_zero, List.set_cons_succ]
      apply wpR_next 20 (some 147)
      · simp only [List.getElem?_toArray, List.getElem?_cons_succ, List.getElem?_cons_zero]; exact rfl
      · rfl
      · kernel_rfl
      · kernel_rfl
      · kernel_rfl
      · exact fun _ _ _ _ h => h
      apply Exists.intro
      apply And.intro
      · apply yr_run; rfl; intro w' hw'; go_simp; (try with_reducible rfl)
      simp only [Act.put, List.setIfInBounds_toArray, List.set_cons_zero, List.set_cons_succ]
      apply wpR_next 21 (some 148)
      · simp only [List.getElem?_toArray, List.getElem?_cons_succ, List.getElem?_cons_zero]; exact rfl
      · rfl
      · kernel_rfl
      · kernel_rfl
      · kernel_rfl
      · exact fun _ _ _ _ h => h
      apply Exists.intro
      apply And.intro
      · apply yr_run; rfl; intro w' hw'; go_simp; (try with_reducible rfl)
      simp only [Act.put, List.setIfInBounds_toArray, List.set_cons_zero, List.set_cons_succ]
      apply wpR_next 22 (some 149)
      · simp only [List.getElem?_toArray, List.getElem?_cons_succ, List.getElem?_cons_zero]; exact rfl
      · rfl
      · kernel_rfl
      · kernel_rfl
      · kernel_rfl
      · exact fun _ _ _ _ h => h
      apply Exists.intro
      apply And.intro
      · exact yr_run (by rfl) (fun w' hw' => exec_binop_agg .eql 34 (.tmp 142) (.tmp 148) 34 rfl rfl rfl (by kernel_rfl) (heJ w'))
      simp only [Act.put, List.setIfInBounds_toArray, List.set_cons_zero, List.set_cons_succ]
      apply wpR_next 23 (some 150)
      · simp only [List.getElem?_toArray, List.getElem?_cons_succ, List.getElem?_cons_zero]; exact rfl
      · rfl
      · kernel_rfl
      · kernel_rfl
      · kernel_rfl
      · exact fun _ _ _ _ h => h
      apply Exists.intro
      apply And.intro
      · apply yr_run; rfl; intro w' hw'; go_simp; (try with_reducible rfl)
      simp only [Act.put, List.setIfInBounds_toArray, List.set_cons_zero, List.set_cons_succ]
      apply wpR_next 24 (some 151)
      · simp only [List.getElem?_toArray, List.getElem?_cons_succ, List.getElem?_cons_zero]; exact rfl
      · rfl
      · kernel_rfl
      · kernel_rfl
      · kernel_rfl
      · exact fun _ _ _ _ h => h
      apply Exists.intro
      apply And.intro
      · apply yr_run; rfl; intro w' hw'; go_simp; (try with_reducible rfl)
      simp only [Act.put, List.setIfInBounds_toArray, List.set_cons_zero, List.set_cons_succ]
      apply wpR_next 25 (some 152)
      · simp only [List.getElem?_toArray, List.getElem?_cons_succ, List.getElem?_cons_zero]; exact rfl
      · rfl
      · kernel_rfl
      · kernel_rfl
      · kernel_rfl
      · exact fun _ _ _ _ h => h
      apply Exists.intro
      apply And.intro
      · apply yr_run; rfl; intro w' hw'; go_simp; (try with_reducible rfl)
      simp only [Act.put, List.setIfInBounds_toArray, List.set_cons_zero, List.set_cons_succ]
      apply wpR_next 26 (some 153)
      · simp only [List.getElem?_toArray, List.getElem?_cons_succ, List.getElem?_cons_zero]; exact rfl
      · rfl
      · kernel_rfl
      · kernel_rfl
      · kernel_rfl
      · exact fun _ _ _ _ h => h
      apply Exists.intro
      apply And.intro
      · apply yr_run; rfl; intro w' hw'; go_simp; (try with_reducible rfl)
      simp only [Act.put, List.setIfInBounds_toArray, List.set_cons_zero, List.set_cons_succ]
      apply wpR_call 27 (some 154)
      · simp only [List.getElem?_toArray, List.getElem?_cons_succ, List.getElem?_cons_zero]; exact rfl
      · rfl
      · kernel_rfl
      · rfl
      · intro w'; go_simp; first | done | exact ⟨rfl, rfl⟩ | with_reducible rfl
      intro w' hw'
      refine (HSn.out _ (Mo_931.out.bl hw') (Da_931.out.bl hw')).mono ?_
      rintro e w942 ⟨rfl, hb942⟩
      have Da_942 := Lib.hid ((Da_931.out.bl hw').bl hb942)
      have D0_942 := Lib.hid ((D0_931.out.bl hw').bl hb942)
      have X_942 := Lib.hid ((X_931.out.bl hw').bl hb942)
      have Mo_942 := Lib.hid ((Mo_931.out.bl hw').bl hb942)
      have Tw_942 := Lib.hid ((Tw_931.out.bl hw').bl hb942)
      have C1_942 := Lib.hid ((C1_931.out.bl hw').bl hb942)
      have C2_942 := Lib.hid ((C2_931.out.bl hw').bl hb942)
      have Q_942 := Lib.hid ((Q_931.out.bl hw').bl hb942)
      have Bel_942 := Lib.hid (bel_bl (bel_bl Bel_931.out hw') hb942)
      have ld943 := fun w'' (h : Kept Nil_ w942 w'') => ld932 w'' ((Kept.of_ext hw').trans ((Kept.of_below hb942).trans h))
      have ld944 := fun w'' (h : Kept Nil_ w942 w'') => ld933 w'' ((Kept.of_ext hw').trans ((Kept.of_below hb942).trans h))
      have ld945 := fun w'' (h : Kept Nil_ w942 w'') => ld934 w'' ((Kept.of_ext hw').trans ((Kept.of_below hb942).trans h))
      have ld946 := fun w'' (h : Kept Nil_ w942 w'') => ld935 w'' ((Kept.of_ext hw').trans ((Kept.of_below hb942).trans h))
      have ld947 := fun w'' (h : Kept Nil_ w942 w'') => ld936 w'' ((Kept.of_ext hw').trans ((Kept.of_below hb942).trans h))
      have ld948 := fun w'' (h : Kept Nil_ w942 w'') => ld937 w'' ((Kept.of_ext hw').trans ((Kept.of_below hb942).trans h))
      have ld949 := fun w'' (h : Kept Nil_ w942 w'') => ld938 w'' ((Kept.of_ext hw').trans ((Kept.of_below hb942).trans h))
      have ld950 := fun w'' (h : Kept Nil_ w942 w'') => ld939 w'' ((Kept.of_ext hw').trans ((Kept.of_below hb942).trans h))
      have ld951 := fun w'' (h : Kept Nil_ w942 w'') => ld940 w'' ((Kept.of_ext hw').trans ((Kept.of_below hb942).trans h))
      have ld952 := fun w'' (h : Kept Nil_ w942 w'') => ld941 w'' ((Kept.of_ext hw').trans ((Kept.of_below hb942).trans h))
      refine ⟨_, rfl, Kept.of_below hb942, ?_⟩
      clear hw' hb942
      simp only [Act.put, List.setIfInBounds_toArray, List.set_cons_zero, List.set_cons_succ]
      apply wpR_next 28 (some 155)
      · simp only [List.getElem?_toArray, List.getElem?_cons_succ, List.getElem?_cons_zero]; exact rfl
      · rfl
      · kernel_rfl
      · kernel_rfl
      · kernel_rfl
      · exact fun _ _ _ _ h => h
      apply Exists.intro
      apply And.intro
      · apply yr_run; rfl; intro w' hw'; go_simp; (try with_reducible rfl)
      simp only [Act.put, List.setIfInBounds_toArray, List.set_cons_zero, List.set_cons_succ]
      apply wpR_next 29 (some 156)
      · simp only [List.getElem?_toArray, List.getElem?_cons_succ, List.getElem?_cons_zero]; exact rfl
      · rfl
      · kernel_rfl
      · kernel_rfl
      · kernel_rfl
      · exact fun _ _ _ _ h => h
      apply Exists.intro
      apply And.intro
      · apply yr_run; rfl; intro w' hw'; go_simp; (try with_reducible rfl)
      simp only [Act.put, List.setIfInBounds_toArray, List.set_cons_zero, List.set_cons_succ]
      apply wpR_next 30 (some 6)
      · simp only [List.getElem?_toArray, List.getElem?_cons_succ, List.getElem?_cons_zero]; exact rfl
      · rfl
      · kernel_rfl
      · kernel_rfl
      · kernel_rfl
      · exact fun _ _ _ _ h => h
      apply Exists.intro
      apply And.intro
      · apply yr_run; rfl; intro w' hw'; go_simp; (try with_reducible rfl)
      simp only [Act.put, List.setIfInBounds_toArray, List.set_cons_zero, List.set_cons_succ]
      refine wpR_done (by kernel_rfl) ?_ _
      intro w953 hw'
      have Da_954 := Lib.hid (Da_942.out.bl hw')
      have D0_954 := Lib.hid (D0_942.out.bl hw')
      have X_954 := Lib.hid (X_942.out.bl hw')
      have Mo_954 := Lib.hid (Mo_942.out.bl hw')
      have Tw_954 := Lib.hid (Tw_942.out.bl hw')
      have C1_954 := Lib.hid (C1_942.out.bl hw')
      have C2_954 := Lib.hid (C2_942.out.bl hw')
      have Q_954 := Lib.hid (Q_942.out.bl hw')
      have Bel_954 := Lib.hid (bel_bl Bel_942.out hw')
      clear Da_942 D0_942 X_942 Mo_942 Tw_942 C1_942 C2_942 Q_942 Bel_942
      clear hw'
      go_wp2
      go_ret
      exact ⟨rfl, Bel_954.out⟩
set_option maxRecDepth 100000 in
set_option maxHeartbeats 4000000 in
theorem law_moves (A : Option Addr) (n c : Nat) (Vs : List VC) (B : Option Addr) (m k : Nat) (Es : List EC) (x1 x2 x3 x : Int) (w : World) (h : DgIn w A n c Vs B m k Es) (hg : GoodD Vs Es) (hn : n ≤ maxLen) (hm : m ≤ maxLen) :
    Calls Try.prog 7 #[.agg #[.slice A n c, .slice B m k], .agg #[.int .i64 x1, .int .i64 x2, .int .i64 x3], .int .i64 x] w fun e w' => e = .returned (.bool true) ∧ Below w.heap.size w w' := by
  by_cases ho : formD ((Vs.take 30).map fewV) (Es.take 50) ≠ 0 ∨ (atV ((Vs.take 30).map fewV) (x1, x2, x3)).2 = false ∨ x < 0 ∨ ((((Vs.take 30).map fewV).length : Nat) : Int) ≤ x ∨ ∃ kx v, x = ((kx : Nat) : Int) ∧ ((Vs.take 30).map fewV)[kx]? = some v ∧ v.1 = (atV ((Vs.take 30).map fewV) (x1, x2, x3)).1
  · exact moves_out A n c Vs B m k Es x1 x2 x3 x w h hg hn hm ho
  · simp only [not_or, Decidable.not_not, Bool.not_eq_false] at ho
    obtain ⟨h1, h2, h3, h4, h5⟩ := ho
    obtain ⟨kx, rfl⟩ : ∃ kx : Nat, x = (kx : Int) := ⟨x.toNat, by omega⟩
    obtain ⟨v, hv⟩ : ∃ v, ((Vs.take 30).map fewV)[kx]? = some v := ⟨_, List.getElem?_eq_getElem (by omega)⟩
    exact moves_main A n c Vs B m k Es x1 x2 x3 kx v w h hg hn hm h1 h2 hv (fun e => h5 ⟨kx, v, rfl, hv, e⟩)
end Go.Proofs.Ytdhglhcpgmfpoaa
