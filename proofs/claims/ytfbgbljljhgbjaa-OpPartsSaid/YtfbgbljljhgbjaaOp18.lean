/- OpMay's walk. -/
import Derived.Test.YtfbgbljljhgbjaaOp15
import Derived.Test.YtfbgbljljhgbjaaOw3
namespace Go.Proofs.Ytfbgbljljhgbjaa
open Go.RowKit
set_option linter.unusedSimpArgs false
set_option linter.unusedVariables false

theorem ids_self (A A' : Option Addr) (n n' c c' : Nat) (L : List (Int × Int)) (w : World) (h : RdS w w.heap.size 2 A n c (rowsV idCells L)) (h' : RdS w w.heap.size 2 A' n' c' (rowsV idCells L)) (hn : n ≤ maxLen) :
    Calls Try.prog 11 #[.slice A n c, .slice A' n' c'] w fun e w' => e = .returned (.bool true) ∧ Below w.heap.size w w' := by
  have := ids_any A A' n n' c c' L L w h h' hn
  rwa [decide_eq_true rfl] at this
theorem few_len (L : List OpT) : (L.take 10).length ≤ 10 := by rw [List.length_take]; omega
theorem few_names (L : List OpT) : (namesE (L.take 10)).length ≤ maxLen := by
  have h1 := namesE_len (L.take 10)
  have h2 := few_len L
  unfold maxLen
  omega
theorem few_max (L : List OpT) : (L.take 10).length ≤ maxLen := by
  have h2 := few_len L
  unfold maxLen
  omega
theorem few_mil (L : List OpT) : (L.take 10).length ≤ 1000000 := by
  have h2 := few_len L
  omega

set_option maxRecDepth 100000 in
set_option maxHeartbeats 4000000 in
theorem law_may (A A' : Option Addr) (n n' c c' : Nat) (o : OpT) (L L' : List OpT) (w : World) (h : RdS w w.heap.size 20 A n c (rowsV opCells L)) (h' : RdS w w.heap.size 20 A' n' c' (rowsV opCells L')) (hn : n ≤ maxLen) (hn' : n' ≤ maxLen)
    (ho : o.t.size ≤ maxLen) (hL : ∀ o ∈ L, o.t.size ≤ maxLen) : Calls Try.prog 3 #[.agg (opCells o).toArray, .agg #[.slice A n c], .agg #[.slice A' n' c']] w fun e w' => e = .returned (.bool true) ∧ Below w.heap.size w w' := by
  have RA := Lib.hid h
  have RB := Lib.hid h'
  have LA : RowKit.Hid (∀ a, A = some a → 0 < n → a.block < w.heap.size) := Lib.hid h.low
  have LB : RowKit.Hid (∀ a, A' = some a → 0 < n' → a.block < w.heap.size) := Lib.hid h'.low
  have HA := Lib.hid hn
  have HB := Lib.hid hn'
  have HM := Lib.hid (mayop_any o)
  have HMr := Lib.hid (rmayop_any o ho)
  have HT : RowKit.Hid (∀ o ∈ L.take 10, o.t.size ≤ maxLen) := Lib.hid (fun o h => hL o (List.mem_of_mem_take h))
  have HFA := Lib.hid (fun W h => few_any A n c L W h hn)
  have HFB := Lib.hid (fun W h => few_any A' n' c' L' W h hn')
  have HSA := Lib.hid (fun (W : World) (h : RdS W W.heap.size 20 A n c (rowsV opCells L)) => h.fewer 10)
  have HSB := Lib.hid (fun (W : World) (h : RdS W W.heap.size 20 A' n' c' (rowsV opCells L')) => h.fewer 10)
  have h10 := few_len L
  have h10' := few_len L'
  obtain ⟨La, gLa⟩ : ∃ x, L.take 10 = x := ⟨_, rfl⟩
  obtain ⟨Lb, gLb⟩ : ∃ x, L'.take 10 = x := ⟨_, rfl⟩
  rw [gLa] at HFA HSA HT h10
  rw [gLb] at HFB HSB h10'
  have HLa := Lib.hid h10
  have HLb := Lib.hid h10'
  clear h h' hn hn' ho hL gLa gLb h10 h10'
  go_enter Try.func3, Try.ntmps3
  go_wp2_with fail
  refine (shown9 _).mono ?_
  rintro e w1 ⟨rfl, hb1⟩
  have RA_2 := Lib.hid ((((RA.out.al (.cells (opCells o).toArray 29)).al (.cells #[.slice A n c] 32)).al (.cells #[.slice A' n' c'] 32)).bl hb1)
  have RB_2 := Lib.hid ((((RB.out.al (.cells (opCells o).toArray 29)).al (.cells #[.slice A n c] 32)).al (.cells #[.slice A' n' c'] 32)).bl hb1)
  have O_2 := Lib.hid ((((show Whole (w.alloc (.cells (opCells o).toArray 29)) (w.heap.size) (29) (opCells o) from Whole.new2 (by first | rfl | simp)).al (.cells #[.slice A n c] 32)).al (.cells #[.slice A' n' c'] 32)).bl hb1)
  have EA_2 := Lib.hid (((show Whole ((w.alloc (.cells (opCells o).toArray 29)).alloc (.cells #[.slice A n c] 32)) ((w.heap.size + 1)) (32) ([.slice A n c]) from Whole.new2 (by first | rfl | simp)).al (.cells #[.slice A' n' c'] 32)).bl hb1)
  have EB_2 := Lib.hid ((show Whole (((w.alloc (.cells (opCells o).toArray 29)).alloc (.cells #[.slice A n c] 32)).alloc (.cells #[.slice A' n' c'] 32)) ((w.heap.size + 2)) (32) ([.slice A' n' c']) from Whole.new2 (by first | rfl | simp)).bl hb1)
  have Bel_2 := Lib.hid (bel_bl (bel_al (bel_al (bel_al (Below.refl _ w) (.cells (opCells o).toArray 29)) (.cells #[.slice A n c] 32)) (.cells #[.slice A' n' c'] 32)) hb1)
  clear hb1
  have LO_O_3 : RowKit.Hid (w.heap.size ≤ w.heap.size) := Lib.hid (by omega)
  have LO_EA_4 : RowKit.Hid (w.heap.size ≤ (w.heap.size + 1)) := Lib.hid (by omega)
  have NE_O_EA : RowKit.Hid (w.heap.size ≠ (w.heap.size + 1)) := Lib.hid (by omega)
  have LO_EB_5 : RowKit.Hid (w.heap.size ≤ (w.heap.size + 2)) := Lib.hid (by omega)
  have NE_O_EB : RowKit.Hid (w.heap.size ≠ (w.heap.size + 2)) := Lib.hid (by omega)
  have NE_EA_EB : RowKit.Hid ((w.heap.size + 1) ≠ (w.heap.size + 2)) := Lib.hid (by omega)
  have lw6 : (w1).cell? ⟨(w.heap.size + 1), 0, none⟩ = some (.slice A n c) := EA_2.out.cell (i := 0) rfl
  go_wp2_with fail
  clear lw6
  refine (HFA.out _ RA_2.out).mono ?_
  rintro e w7 ⟨rfl, hb7⟩
  have RA_8 := Lib.hid (RA_2.out.bl hb7)
  have RB_8 := Lib.hid (RB_2.out.bl hb7)
  have O_8 := Lib.hid (O_2.out.bl hb7)
  have EA_8 := Lib.hid (EA_2.out.bl hb7)
  have EB_8 := Lib.hid (EB_2.out.bl hb7)
  have Bel_8 := Lib.hid (bel_bl Bel_2.out hb7)
  clear hb7
  have lw9 : (w7).cell? ⟨(w.heap.size + 1), 0, none⟩ = some (.slice A n c) := EA_8.out.cell (i := 0) rfl
  have fr := EA_8.out.free 0
  go_upto_region 3 with fail
  clear fr lw9
  obtain ⟨v10, gv10⟩ : ∃ x, (w7.setCell ⟨(w.heap.size + 1), 0, none⟩ (.slice A La.length c)) = x := ⟨_, rfl⟩
  have RA_10 := Lib.hid (show RdS v10 v10.heap.size _ _ _ _ _ from gv10 ▸ (RdS.far RA_8.out (p := ⟨(w.heap.size + 1), 0, none⟩) (fun hn a e => by have h1 := LA.out a e hn; have h2 := LO_EA_4.out; show a.block ≠ (w.heap.size + 1); omega) _))
  have RB_10 := Lib.hid (show RdS v10 v10.heap.size _ _ _ _ _ from gv10 ▸ (RdS.far RB_8.out (p := ⟨(w.heap.size + 1), 0, none⟩) (fun hn a e => by have h1 := LB.out a e hn; have h2 := LO_EA_4.out; show a.block ≠ (w.heap.size + 1); omega) _))
  have O_10 := Lib.hid (show Whole v10 w.heap.size _ _ from gv10 ▸ (O_8.out.far (by show w.heap.size ≠ (w.heap.size + 1); exact NE_O_EA.out) _))
  have EA_10 : RowKit.Hid (Whole v10 (w.heap.size + 1) 32 ([.slice A La.length c])) := Lib.hid (gv10 ▸ (EA_8.out.set_ 0 _))
  have EB_10 := Lib.hid (show Whole v10 (w.heap.size + 2) _ _ from gv10 ▸ (EB_8.out.far (by show (w.heap.size + 2) ≠ (w.heap.size + 1); exact (Ne.symm NE_EA_EB.out)) _))
  have Bel_10 : RowKit.Hid (Below w.heap.size w v10) := Lib.hid (gv10 ▸ (Bel_8.out.setCell (by show w.heap.size ≤ (w.heap.size + 1); exact LO_EA_4.out) _))
  rw [gv10]
  clear gv10
  have lw11 : (v10).cell? ⟨(w.heap.size + 2), 0, none⟩ = some (.slice A' n' c') := EB_10.out.cell (i := 0) rfl
  go_wp2_with fail
  clear lw11
  refine (HFB.out _ RB_10.out).mono ?_
  rintro e w12 ⟨rfl, hb12⟩
  have RA_13 := Lib.hid (RA_10.out.bl hb12)
  have RB_13 := Lib.hid (RB_10.out.bl hb12)
  have O_13 := Lib.hid (O_10.out.bl hb12)
  have EA_13 := Lib.hid (EA_10.out.bl hb12)
  have EB_13 := Lib.hid (EB_10.out.bl hb12)
  have Bel_13 := Lib.hid (bel_bl Bel_10.out hb12)
  clear hb12
  have lw14 : (w12).cell? ⟨(w.heap.size + 2), 0, none⟩ = some (.slice A' n' c') := EB_13.out.cell (i := 0) rfl
  have fr := EB_13.out.free 0
  go_upto_region 4 with fail
  clear fr lw14
  obtain ⟨v15, gv15⟩ : ∃ x, (w12.setCell ⟨(w.heap.size + 2), 0, none⟩ (.slice A' Lb.length c')) = x := ⟨_, rfl⟩
  have RA_15 := Lib.hid (show RdS v15 v15.heap.size _ _ _ _ _ from gv15 ▸ (RdS.far RA_13.out (p := ⟨(w.heap.size + 2), 0, none⟩) (fun hn a e => by have h1 := LA.out a e hn; have h2 := LO_EB_5.out; show a.block ≠ (w.heap.size + 2); omega) _))
  have RB_15 := Lib.hid (show RdS v15 v15.heap.size _ _ _ _ _ from gv15 ▸ (RdS.far RB_13.out (p := ⟨(w.heap.size + 2), 0, none⟩) (fun hn a e => by have h1 := LB.out a e hn; have h2 := LO_EB_5.out; show a.block ≠ (w.heap.size + 2); omega) _))
  have O_15 := Lib.hid (show Whole v15 w.heap.size _ _ from gv15 ▸ (O_13.out.far (by show w.heap.size ≠ (w.heap.size + 2); exact NE_O_EB.out) _))
  have EA_15 := Lib.hid (show Whole v15 (w.heap.size + 1) _ _ from gv15 ▸ (EA_13.out.far (by show (w.heap.size + 1) ≠ (w.heap.size + 2); exact NE_EA_EB.out) _))
  have EB_15 : RowKit.Hid (Whole v15 (w.heap.size + 2) 32 ([.slice A' Lb.length c'])) := Lib.hid (gv15 ▸ (EB_13.out.set_ 0 _))
  have Bel_15 : RowKit.Hid (Below w.heap.size w v15) := Lib.hid (gv15 ▸ (Bel_13.out.setCell (by show w.heap.size ≤ (w.heap.size + 2); exact LO_EB_5.out) _))
  rw [gv15]
  clear gv15
  have SA_16 := Lib.hid (HSA.out _ RA_15.out)
  have SB_17 := Lib.hid (HSB.out _ RB_15.out)
  go_upto_region 4 with fail
  have O_18 := Lib.hid (O_15.out.dr)
  have EA_18 := Lib.hid (EA_15.out.dr)
  have EB_18 := Lib.hid (EB_15.out.dr)
  have SA_18 := Lib.hid (SA_16.out.dr)
  have SB_18 := Lib.hid (SB_17.out.dr)
  have Bel_18 := Lib.hid (bel_dr Bel_15.out)
  have ld19 : ∀ w', Kept Nil_ v15.drew w' → w'.cell? ⟨(w.heap.size + 1), 0, none⟩ = some (.slice A La.length c) := fun w' h => h.nil_cell (EA_18.out.cell (i := 0) rfl)
  refine wp_region_reg Nil_ (by kernel_rfl) ?_
  apply wpR_next 0 (some 14)
  · simp only [List.getElem?_toArray, List.getElem?_cons_succ, List.getElem?_cons_zero]; exact rfl
  · rfl
  · kernel_rfl
  · kernel_rfl
  · kernel_rfl
  · exact fun _ _ _ _ h => h
  apply Exists.intro
  apply And.intro
  · apply yr_run; rfl; intro w' hw'; go_simp; (try with_reducible rfl)
  simp only [Act.put, List.setIfInBounds_toArray, List.set_cons_zero, List.set_cons_succ]
  apply wpR_next 2 (some 16)
  · simp only [List.getElem?_toArray, List.getElem?_cons_succ, List.getElem?_cons_zero]; exact rfl
  · rfl
  · kernel_rfl
  · kernel_rfl
  · kernel_rfl
  · exact fun _ _ _ _ h => h
  apply Exists.intro
  apply And.intro
  · apply yr_run; rfl; intro w' hw'; go_simp; (try with_reducible rfl)
  simp only [Act.put, List.setIfInBounds_toArray, List.set_cons_zero, List.set_cons_succ]
  apply wpR_call 1 (some 15)
  · simp only [List.getElem?_toArray, List.getElem?_cons_succ, List.getElem?_cons_zero]; exact rfl
  · rfl
  · kernel_rfl
  · rfl
  · intro w'; go_simp; first | done | exact ⟨rfl, rfl⟩ | with_reducible rfl
  intro w' hw'
  refine (names_any A _ c La _ (SA_18.out.bl hw') (by have := HLa.out; omega)).mono ?_
  rintro e w20 ⟨A1, c1, rfl, hr1, hb20⟩
  have O_20 := Lib.hid ((O_18.out.bl hw').bl hb20)
  have EA_20 := Lib.hid ((EA_18.out.bl hw').bl hb20)
  have EB_20 := Lib.hid ((EB_18.out.bl hw').bl hb20)
  have SA_20 := Lib.hid ((SA_18.out.bl hw').bl hb20)
  have SB_20 := Lib.hid ((SB_18.out.bl hw').bl hb20)
  have Bel_20 := Lib.hid (bel_bl (bel_bl Bel_18.out hw') hb20)
  have ld21 := fun w'' (h : Kept Nil_ w20 w'') => ld19 w'' ((Kept.of_ext hw').trans ((Kept.of_below hb20).trans h))
  refine ⟨_, rfl, Kept.of_below hb20, ?_⟩
  clear hw' hb20
  have N1_20 := Lib.hid hr1
  clear hr1
  simp only [Act.put, List.setIfInBounds_toArray, List.set_cons_zero, List.set_cons_succ]
  apply wpR_call 3 (some 17)
  · simp only [List.getElem?_toArray, List.getElem?_cons_succ, List.getElem?_cons_zero]; exact rfl
  · rfl
  · kernel_rfl
  · rfl
  · intro w'; go_simp; first | done | exact ⟨rfl, rfl⟩ | with_reducible rfl
  intro w' hw'
  refine (rnames_any A _ c La _ (SA_20.out.bl hw') (by have := HLa.out; omega)).mono ?_
  rintro e w22 ⟨A2, c2, rfl, hr2, hb22⟩
  have O_22 := Lib.hid ((O_20.out.bl hw').bl hb22)
  have EA_22 := Lib.hid ((EA_20.out.bl hw').bl hb22)
  have EB_22 := Lib.hid ((EB_20.out.bl hw').bl hb22)
  have SA_22 := Lib.hid ((SA_20.out.bl hw').bl hb22)
  have SB_22 := Lib.hid ((SB_20.out.bl hw').bl hb22)
  have N1_22 := Lib.hid ((N1_20.out.bl hw').bl hb22)
  have Bel_22 := Lib.hid (bel_bl (bel_bl Bel_20.out hw') hb22)
  have ld23 := fun w'' (h : Kept Nil_ w22 w'') => ld21 w'' ((Kept.of_ext hw').trans ((Kept.of_below hb22).trans h))
  refine ⟨_, rfl, Kept.of_below hb22, ?_⟩
  clear hw' hb22
  have N2_22 := Lib.hid hr2
  clear hr2
  simp only [Act.put, List.setIfInBounds_toArray, List.set_cons_zero, List.set_cons_succ]
  apply wpR_call 4 (some 18)
  · simp only [List.getElem?_toArray, List.getElem?_cons_succ, List.getElem?_cons_zero]; exact rfl
  · rfl
  · kernel_rfl
  · rfl
  · intro w'; go_simp; first | done | exact ⟨rfl, rfl⟩ | with_reducible rfl
  intro w' hw'
  refine (ids_self A1 A2 _ _ c1 c2 _ _ (N1_22.out.bl hw') (N2_22.out.bl hw') (by have := HLa.out; have := namesE_len La; unfold maxLen; omega)).mono ?_
  rintro e w24 ⟨rfl, hb24⟩
  have O_24 := Lib.hid ((O_22.out.bl hw').bl hb24)
  have EA_24 := Lib.hid ((EA_22.out.bl hw').bl hb24)
  have EB_24 := Lib.hid ((EB_22.out.bl hw').bl hb24)
  have SA_24 := Lib.hid ((SA_22.out.bl hw').bl hb24)
  have SB_24 := Lib.hid ((SB_22.out.bl hw').bl hb24)
  have N1_24 := Lib.hid ((N1_22.out.bl hw').bl hb24)
  have N2_24 := Lib.hid ((N2_22.out.bl hw').bl hb24)
  have Bel_24 := Lib.hid (bel_bl (bel_bl Bel_22.out hw') hb24)
  have ld25 := fun w'' (h : Kept Nil_ w24 w'') => ld23 w'' ((Kept.of_ext hw').trans ((Kept.of_below hb24).trans h))
  refine ⟨_, rfl, Kept.of_below hb24, ?_⟩
  clear hw' hb24
  simp only [Act.put, List.setIfInBounds_toArray, List.set_cons_zero, List.set_cons_succ]
  apply wpR_next 5 (some 8)
  · simp only [List.getElem?_toArray, List.getElem?_cons_succ, List.getElem?_cons_zero]; exact rfl
  · rfl
  · kernel_rfl
  · kernel_rfl
  · kernel_rfl
  · exact fun _ _ _ _ h => h
  apply Exists.intro
  apply And.intro
  · apply yr_run; rfl; intro w' hw'; go_simp; (try with_reducible rfl)
  simp only [Act.put, List.setIfInBounds_toArray, List.set_cons_zero, List.set_cons_succ]
  refine wpR_done (by kernel_rfl) ?_ _
  intro w26 hw'
  have O_27 := Lib.hid (O_24.out.bl hw')
  have EA_27 := Lib.hid (EA_24.out.bl hw')
  have EB_27 := Lib.hid (EB_24.out.bl hw')
  have SA_27 := Lib.hid (SA_24.out.bl hw')
  have SB_27 := Lib.hid (SB_24.out.bl hw')
  have N1_27 := Lib.hid (N1_24.out.bl hw')
  have N2_27 := Lib.hid (N2_24.out.bl hw')
  have Bel_27 := Lib.hid (bel_bl Bel_24.out hw')
  clear hw'
  go_upto_region 5 with fail
  have O_28 := Lib.hid (O_27.out.dr)
  have EA_28 := Lib.hid (EA_27.out.dr)
  have EB_28 := Lib.hid (EB_27.out.dr)
  have SA_28 := Lib.hid (SA_27.out.dr)
  have SB_28 := Lib.hid (SB_27.out.dr)
  have Bel_28 := Lib.hid (bel_dr Bel_27.out)
  have ld29 : ∀ w', Kept Nil_ w26.drew w' → w'.cell? ⟨(w.heap.size + 1), 0, none⟩ = some (.slice A La.length c) := fun w' h => h.nil_cell (EA_28.out.cell (i := 0) rfl)
  have ld30 : ∀ w', Kept Nil_ w26.drew w' → w'.cell? ⟨(w.heap.size + 2), 0, none⟩ = some (.slice A' Lb.length c') := fun w' h => h.nil_cell (EB_28.out.cell (i := 0) rfl)
  refine wp_region_reg Nil_ (by kernel_rfl) ?_
  apply wpR_next 0 (some 19)
  · simp only [List.getElem?_toArray, List.getElem?_cons_succ, List.getElem?_cons_zero]; exact rfl
  · rfl
  · kernel_rfl
  · kernel_rfl
  · kernel_rfl
  · exact fun _ _ _ _ h => h
  apply Exists.intro
  apply And.intro
  · apply yr_run; rfl; intro w' hw'; go_simp; (try with_reducible rfl)
  simp only [Act.put, List.setIfInBounds_toArray, List.set_cons_zero, List.set_cons_succ]
  apply wpR_next 1 (some 20)
  · simp only [List.getElem?_toArray, List.getElem?_cons_succ, List.getElem?_cons_zero]; exact rfl
  · rfl
  · kernel_rfl
  · kernel_rfl
  · kernel_rfl
  · exact fun _ _ _ _ h => h
  apply Exists.intro
  apply And.intro
  · apply yr_run; rfl; intro w' hw'; go_simp; (try with_reducible rfl)
  simp only [Act.put, List.setIfInBounds_toArray, List.set_cons_zero, List.set_cons_succ]
  apply wpR_next 2 (some 21)
  · simp only [List.getElem?_toArray, List.getElem?_cons_succ, List.getElem?_cons_zero]; exact rfl
  · rfl
  · kernel_rfl
  · kernel_rfl
  · kernel_rfl
  · exact fun _ _ _ _ h => h
  apply Exists.intro
  apply And.intro
  · exact yr_load (by rfl) 29 (.tmp 3) rfl w.heap.size rfl 29 (opCells o) _ (fun w' h => h.whole O_28.out (fun h => h)) Try.underlying29 rfl (by kernel_rfl)
  simp only [Act.put, List.setIfInBounds_toArray, List.set_cons_zero, List.set_cons_succ]
  apply wpR_next 4 (some 23)
  · simp only [List.getElem?_toArray, List.getElem?_cons_succ, List.getElem?_cons_zero]; exact rfl
  · rfl
  · kernel_rfl
  · kernel_rfl
  · kernel_rfl
  · exact fun _ _ _ _ h => h
  apply Exists.intro
  apply And.intro
  · exact yr_load (by rfl) 29 (.tmp 3) rfl w.heap.size rfl 29 (opCells o) _ (fun w' h => h.whole O_28.out (fun h => h)) Try.underlying29 rfl (by kernel_rfl)
  simp only [Act.put, List.setIfInBounds_toArray, List.set_cons_zero, List.set_cons_succ]
  apply wpR_call 3 (some 22)
  · simp only [List.getElem?_toArray, List.getElem?_cons_succ, List.getElem?_cons_zero]; exact rfl
  · rfl
  · kernel_rfl
  · rfl
  · intro w'; go_simp; first | done | exact ⟨rfl, rfl⟩ | with_reducible rfl
  intro w' hw'
  refine (HM.out _).mono ?_
  rintro e w31 ⟨rfl, hb31⟩
  have O_31 := Lib.hid ((O_28.out.bl hw').bl hb31)
  have EA_31 := Lib.hid ((EA_28.out.bl hw').bl hb31)
  have EB_31 := Lib.hid ((EB_28.out.bl hw').bl hb31)
  have SA_31 := Lib.hid ((SA_28.out.bl hw').bl hb31)
  have SB_31 := Lib.hid ((SB_28.out.bl hw').bl hb31)
  have Bel_31 := Lib.hid (bel_bl (bel_bl Bel_28.out hw') hb31)
  have ld32 := fun w'' (h : Kept Nil_ w31 w'') => ld29 w'' ((Kept.of_ext hw').trans ((Kept.of_below hb31).trans h))
  have ld33 := fun w'' (h : Kept Nil_ w31 w'') => ld30 w'' ((Kept.of_ext hw').trans ((Kept.of_below hb31).trans h))
  refine ⟨_, rfl, Kept.of_below hb31, ?_⟩
  clear hw' hb31
  simp only [Act.put, List.setIfInBounds_toArray, List.set_cons_zero, List.set_cons_succ]
  apply wpR_call 5 (some 24)
  · simp only [List.getElem?_toArray, List.getElem?_cons_succ, List.getElem?_cons_zero]; exact rfl
  · rfl
  · kernel_rfl
  · rfl
  · intro w'; go_simp; first | done | exact ⟨rfl, rfl⟩ | with_reducible rfl
  intro w' hw'
  refine (HMr.out _).mono ?_
  rintro e w34 ⟨rfl, hb34⟩
  have O_34 := Lib.hid ((O_31.out.bl hw').bl hb34)
  have EA_34 := Lib.hid ((EA_31.out.bl hw').bl hb34)
  have EB_34 := Lib.hid ((EB_31.out.bl hw').bl hb34)
  have SA_34 := Lib.hid ((SA_31.out.bl hw').bl hb34)
  have SB_34 := Lib.hid ((SB_31.out.bl hw').bl hb34)
  have Bel_34 := Lib.hid (bel_bl (bel_bl Bel_31.out hw') hb34)
  have ld35 := fun w'' (h : Kept Nil_ w34 w'') => ld32 w'' ((Kept.of_ext hw').trans ((Kept.of_below hb34).trans h))
  have ld36 := fun w'' (h : Kept Nil_ w34 w'') => ld33 w'' ((Kept.of_ext hw').trans ((Kept.of_below hb34).trans h))
  refine ⟨_, rfl, Kept.of_below hb34, ?_⟩
  clear hw' hb34
  simp only [Act.put, List.setIfInBounds_toArray, List.set_cons_zero, List.set_cons_succ]
  apply wpR_next 6 (some 25)
  · simp only [List.getElem?_toArray, List.getElem?_cons_succ, List.getElem?_cons_zero]; exact rfl
  · rfl
  · kernel_rfl
  · kernel_rfl
  · kernel_rfl
  · exact fun _ _ _ _ h => h
  apply Exists.intro
  apply And.intro
  · apply yr_run; rfl; intro w' hw'; go_simp; (try with_reducible rfl)
  simp only [Act.put, List.setIfInBounds_toArray, List.set_cons_zero, List.set_cons_succ]
  apply wpR_next 7 (some 26)
  · simp only [List.getElem?_toArray, List.getElem?_cons_succ, List.getElem?_cons_zero]; exact rfl
  · rfl
  · kernel_rfl
  · kernel_rfl
  · kernel_rfl
  · exact fun _ _ _ _ h => h
  apply Exists.intro
  apply And.intro
  · apply yr_run; rfl; intro w' hw'; go_simp; (try with_reducible rfl)
  simp only [Act.put, List.setIfInBounds_toArray, List.set_cons_zero, List.set_cons_succ]
  apply wpR_next 8 (some 27)
  · simp only [List.getElem?_toArray, List.getElem?_cons_succ, List.getElem?_cons_zero]; exact rfl
  · rfl
  · kernel_rfl
  · kernel_rfl
  · kernel_rfl
  · exact fun _ _ _ _ h => h
  apply Exists.intro
  apply And.intro
  · apply yr_run; rfl; intro w' hw'; go_simp; (try with_reducible rfl)
  simp only [Act.put, List.setIfInBounds_toArray, List.set_cons_zero, List.set_cons_succ]
  apply wpR_next 9 (some 28)
  · simp only [List.getElem?_toArray, List.getElem?_cons_succ, List.getElem?_cons_zero]; exact rfl
  · rfl
  · kernel_rfl
  · kernel_rfl
  · kernel_rfl
  · exact fun _ _ _ _ h => h
  apply Exists.intro
  apply And.intro
  · apply yr_run; rfl; intro w' hw'; go_simp; (try with_reducible rfl)
  simp only [Act.put, List.setIfInBounds_toArray, List.set_cons_zero, List.set_cons_succ]
  apply wpR_next 11 (some 30)
  · simp only [List.getElem?_toArray, List.getElem?_cons_succ, List.getElem?_cons_zero]; exact rfl
  · rfl
  · kernel_rfl
  · kernel_rfl
  · kernel_rfl
  · exact fun _ _ _ _ h => h
  apply Exists.intro
  apply And.intro
  · apply yr_run; rfl; intro w' hw'; go_simp; (try with_reducible rfl)
  simp only [Act.put, List.setIfInBounds_toArray, List.set_cons_zero, List.set_cons_succ]
  apply wpR_call 10 (some 29)
  · simp only [List.getElem?_toArray, List.getElem?_cons_succ, List.getElem?_cons_zero]; exact rfl
  · rfl
  · kernel_rfl
  · rfl
  · intro w'; go_simp; first | done | exact ⟨rfl, rfl⟩ | with_reducible rfl
  intro w' hw'
  refine (mayedit_any A _ c La _ (SA_34.out.bl hw') (by have := HLa.out; unfold maxLen; omega)).mono ?_
  rintro e w37 ⟨rfl, hb37⟩
  have O_37 := Lib.hid ((O_34.out.bl hw').bl hb37)
  have EA_37 := Lib.hid ((EA_34.out.bl hw').bl hb37)
  have EB_37 := Lib.hid ((EB_34.out.bl hw').bl hb37)
  have SA_37 := Lib.hid ((SA_34.out.bl hw').bl hb37)
  have SB_37 := Lib.hid ((SB_34.out.bl hw').bl hb37)
  have Bel_37 := Lib.hid (bel_bl (bel_bl Bel_34.out hw') hb37)
  have ld38 := fun w'' (h : Kept Nil_ w37 w'') => ld35 w'' ((Kept.of_ext hw').trans ((Kept.of_below hb37).trans h))
  have ld39 := fun w'' (h : Kept Nil_ w37 w'') => ld36 w'' ((Kept.of_ext hw').trans ((Kept.of_below hb37).trans h))
  refine ⟨_, rfl, Kept.of_below hb37, ?_⟩
  clear hw' hb37
  simp only [Act.put, List.setIfInBounds_toArray, List.set_cons_zero, List.set_cons_succ]
  apply wpR_call 12 (some 31)
  · simp only [List.getElem?_toArray, List.getElem?_cons_succ, List.getElem?_cons_zero]; exact rfl
  · rfl
  · kernel_rfl
  · rfl
  · intro w'; go_simp; first | done | exact ⟨rfl, rfl⟩ | with_reducible rfl
  intro w' hw'
  refine (rmayedit_any A _ c La _ (SA_37.out.bl hw') (by have := HLa.out; unfold maxLen; omega) HT.out).mono ?_
  rintro e w40 ⟨rfl, hb40⟩
  have O_40 := Lib.hid ((O_37.out.bl hw').bl hb40)
  have EA_40 := Lib.hid ((EA_37.out.bl hw').bl hb40)
  have EB_40 := Lib.hid ((EB_37.out.bl hw').bl hb40)
  have SA_40 := Lib.hid ((SA_37.out.bl hw').bl hb40)
  have SB_40 := Lib.hid ((SB_37.out.bl hw').bl hb40)
  have Bel_40 := Lib.hid (bel_bl (bel_bl Bel_37.out hw') hb40)
  have ld41 := fun w'' (h : Kept Nil_ w40 w'') => ld38 w'' ((Kept.of_ext hw').trans ((Kept.of_below hb40).trans h))
  have ld42 := fun w'' (h : Kept Nil_ w40 w'') => ld39 w'' ((Kept.of_ext hw').trans ((Kept.of_below hb40).trans h))
  refine ⟨_, rfl, Kept.of_below hb40, ?_⟩
  clear hw' hb40
  simp only [Act.put, List.setIfInBounds_toArray, List.set_cons_zero, List.set_cons_succ]
  apply wpR_next 13 (some 32)
  · simp only [List.getElem?_toArray, List.getElem?_cons_succ, List.getElem?_cons_zero]; exact rfl
  · rfl
  · kernel_rfl
  · kernel_rfl
  · kernel_rfl
  · exact fun _ _ _ _ h => h
  apply Exists.intro
  apply And.intro
  · apply yr_run; rfl; intro w' hw'; go_simp; (try with_reducible rfl)
  simp only [Act.put, List.setIfInBounds_toArray, List.set_cons_zero, List.set_cons_succ]
  apply wpR_next 14 (some 33)
  · simp only [List.getElem?_toArray, List.getElem?_cons_succ, List.getElem?_cons_zero]; exact rfl
  · rfl
  · kernel_rfl
  · kernel_rfl
  · kernel_rfl
  · exact fun _ _ _ _ h => h
  apply Exists.intro
  apply And.intro
  · apply yr_run; rfl; intro w' hw'; go_simp; (try with_reducible rfl)
  simp only [Act.put, List.setIfInBounds_toArray, List.set_cons_zero, List.set_cons_succ]
  apply wpR_next 15 (some 34)
  · simp only [List.getElem?_toArray, List.getElem?_cons_succ, List.getElem?_cons_zero]; exact rfl
  · rfl
  · kernel_rfl
  · kernel_rfl
  · kernel_rfl
  · exact fun _ _ _ _ h => h
  apply Exists.intro
  apply And.intro
  · apply yr_run; rfl; intro w' hw'; go_simp; (try with_reducible rfl)
  simp only [Act.put, List.setIfInBounds_toArray, List.set_cons_zero, List.set_cons_succ]
  apply wpR_next 16 (some 35)
  · simp only [List.getElem?_toArray, List.getElem?_cons_succ, List.getElem?_cons_zero]; exact rfl
  · rfl
  · kernel_rfl
  · kernel_rfl
  · kernel_rfl
  · exact fun _ _ _ _ h => h
  apply Exists.intro
  apply And.intro
  · apply yr_run; rfl; intro w' hw'; go_simp; (try with_reducible rfl)
  simp only [Act.put, List.setIfInBounds_toArray, List.set_cons_zero, List.set_cons_succ]
  apply wpR_next 17 (some 36)
  · simp only [List.getElem?_toArray, List.getElem?_cons_succ, List.getElem?_cons_zero]; exact rfl
  · rfl
  · kernel_rfl
  · kernel_rfl
  · kernel_rfl
  · exact fun _ _ _ _ h => h
  apply Exists.intro
  apply And.intro
  · apply yr_run; rfl; intro w' hw'; go_simp; (try with_reducible rfl)
  simp only [Act.put, List.setIfInBounds_toArray, List.set_cons_zero, List.set_cons_succ]
  apply wpR_next 19 (some 38)
  · simp only [List.getElem?_toArray, List.getElem?_cons_succ, List.getElem?_cons_zero]; exact rfl
  · rfl
  · kernel_rfl
  · kernel_rfl
  · kernel_rfl
  · exact fun _ _ _ _ h => h
  apply Exists.intro
  apply And.intro
  · apply yr_run; rfl; intro w' hw'; go_simp; (try with_reducible rfl)
  simp only [Act.put, List.setIfInBounds_toArray, List.set_cons_zero, List.set_cons_succ]
  apply wpR_next 20 (some 39)
  · simp only [List.getElem?_toArray, List.getElem?_cons_succ, List.getElem?_cons_zero]; exact rfl
  · rfl
  · kernel_rfl
  · kernel_rfl
  · kernel_rfl
  · exact fun _ _ _ _ h => h
  apply Exists.intro
  apply And.intro
  · apply yr_run; rfl; intro w' hw'; go_simp; (try with_reducible rfl)
  simp only [Act.put, List.setIfInBounds_toArray, List.set_cons_zero, List.set_cons_succ]
  apply wpR_call 18 (some 37)
  · simp only [List.getElem?_toArray, List.getElem?_cons_succ, List.getElem?_cons_zero]; exact rfl
  · rfl
  · kernel_rfl
  · rfl
  · intro w'; go_simp; first | done | exact ⟨rfl, rfl⟩ | with_reducible rfl
  intro w' hw'
  refine (same_any A A' _ _ c c' La Lb _ (SA_40.out.bl hw') (SB_40.out.bl hw') (by have := HLa.out; unfold maxLen; omega)).mono ?_
  rintro e w43 ⟨rfl, hb43⟩
  have O_43 := Lib.hid ((O_40.out.bl hw').bl hb43)
  have EA_43 := Lib.hid ((EA_40.out.bl hw').bl hb43)
  have EB_43 := Lib.hid ((EB_40.out.bl hw').bl hb43)
  have SA_43 := Lib.hid ((SA_40.out.bl hw').bl hb43)
  have SB_43 := Lib.hid ((SB_40.out.bl hw').bl hb43)
  have Bel_43 := Lib.hid (bel_bl (bel_bl Bel_40.out hw') hb43)
  have ld44 := fun w'' (h : Kept Nil_ w43 w'') => ld41 w'' ((Kept.of_ext hw').trans ((Kept.of_below hb43).trans h))
  have ld45 := fun w'' (h : Kept Nil_ w43 w'') => ld42 w'' ((Kept.of_ext hw').trans ((Kept.of_below hb43).trans h))
  refine ⟨_, rfl, Kept.of_below hb43, ?_⟩
  clear hw' hb43
  simp only [Act.put, List.setIfInBounds_toArray, List.set_cons_zero, List.set_cons_succ]
  apply wpR_call 21 (some 40)
  · simp only [List.getElem?_toArray, List.getElem?_cons_succ, List.getElem?_cons_zero]; exact rfl
  · rfl
  · kernel_rfl
  · rfl
  · intro w'; go_simp; first | done | exact ⟨rfl, rfl⟩ | with_reducible rfl
  intro w' hw'
  refine (rsame_any A A' _ _ c c' La Lb _ (SA_43.out.bl hw') (SB_43.out.bl hw') (by have := HLa.out; unfold maxLen; omega)).mono ?_
  rintro e w46 ⟨rfl, hb46⟩
  have O_46 := Lib.hid ((O_43.out.bl hw').bl hb46)
  have EA_46 := Lib.hid ((EA_43.out.bl hw').bl hb46)
  have EB_46 := Lib.hid ((EB_43.out.bl hw').bl hb46)
  have SA_46 := Lib.hid ((SA_43.out.bl hw').bl hb46)
  have SB_46 := Lib.hid ((SB_43.out.bl hw').bl hb46)
  have Bel_46 := Lib.hid (bel_bl (bel_bl Bel_43.out hw') hb46)
  have ld47 := fun w'' (h : Kept Nil_ w46 w'') => ld44 w'' ((Kept.of_ext hw').trans ((Kept.of_below hb46).trans h))
  have ld48 := fun w'' (h : Kept Nil_ w46 w'') => ld45 w'' ((Kept.of_ext hw').trans ((Kept.of_below hb46).trans h))
  refine ⟨_, rfl, Kept.of_below hb46, ?_⟩
  clear hw' hb46
  simp only [Act.put, List.setIfInBounds_toArray, List.set_cons_zero, List.set_cons_succ]
  apply wpR_next 22 (some 41)
  · simp only [List.getElem?_toArray, List.getElem?_cons_succ, List.getElem?_cons_zero]; exact rfl
  · rfl
  · kernel_rfl
  · kernel_rfl
  · kernel_rfl
  · exact fun _ _ _ _ h => h
  apply Exists.intro
  apply And.intro
  · apply yr_run; rfl; intro w' hw'; go_simp; (try with_reducible rfl)
  simp only [Act.put, List.setIfInBounds_toArray, List.set_cons_zero, List.set_cons_succ]
  apply wpR_next 23 (some 42)
  · simp only [List.getElem?_toArray, List.getElem?_cons_succ, List.getElem?_cons_zero]; exact rfl
  · rfl
  · kernel_rfl
  · kernel_rfl
  · kernel_rfl
  · exact fun _ _ _ _ h => h
  apply Exists.intro
  apply And.intro
  · apply yr_run; rfl; intro w' hw'; go_simp; (try with_reducible rfl)
  simp only [Act.put, List.setIfInBounds_toArray, List.set_cons_zero, List.set_cons_succ]
  apply wpR_next 24 (some 43)
  · simp only [List.getElem?_toArray, List.getElem?_cons_succ, List.getElem?_cons_zero]; exact rfl
  · rfl
  · kernel_rfl
  · kernel_rfl
  · kernel_rfl
  · exact fun _ _ _ _ h => h
  apply Exists.intro
  apply And.intro
  · apply yr_run; rfl; intro w' hw'; go_simp; (try with_reducible rfl)
  simp only [Act.put, List.setIfInBounds_toArray, List.set_cons_zero, List.set_cons_succ]
  apply wpR_next 25 (some 44)
  · simp only [List.getElem?_toArray, List.getElem?_cons_succ, List.getElem?_cons_zero]; exact rfl
  · rfl
  · kernel_rfl
  · kernel_rfl
  · kernel_rfl
  · exact fun _ _ _ _ h => h
  apply Exists.intro
  apply And.intro
  · apply yr_run; rfl; intro w' hw'; go_simp; (try with_reducible rfl)
  simp only [Act.put, List.setIfInBounds_toArray, List.set_cons_zero, List.set_cons_succ]
  apply wpR_next 26 (some 45)
  · simp only [List.getElem?_toArray, List.getElem?_cons_succ, List.getElem?_cons_zero]; exact rfl
  · rfl
  · kernel_rfl
  · kernel_rfl
  · kernel_rfl
  · exact fun _ _ _ _ h => h
  apply Exists.intro
  apply And.intro
  · apply yr_run; rfl; intro w' hw'; go_simp; (try with_reducible rfl)
  simp only [Act.put, List.setIfInBounds_toArray, List.set_cons_zero, List.set_cons_succ]
  apply wpR_next 27 (some 6)
  · simp only [List.getElem?_toArray, List.getElem?_cons_succ, List.getElem?_cons_zero]; exact rfl
  · rfl
  · kernel_rfl
  · kernel_rfl
  · kernel_rfl
  · exact fun _ _ _ _ h => h
  apply Exists.intro
  apply And.intro
  · apply yr_run; rfl; intro w' hw'; go_simp; (try with_reducible rfl)
  simp only [Act.put, List.setIfInBounds_toArray, List.set_cons_zero, List.set_cons_succ]
  refine wpR_done (by kernel_rfl) ?_ _
  intro w49 hw'
  have O_50 := Lib.hid (O_46.out.bl hw')
  have EA_50 := Lib.hid (EA_46.out.bl hw')
  have EB_50 := Lib.hid (EB_46.out.bl hw')
  have SA_50 := Lib.hid (SA_46.out.bl hw')
  have SB_50 := Lib.hid (SB_46.out.bl hw')
  have Bel_50 := Lib.hid (bel_bl Bel_46.out hw')
  clear hw'
  go_wp2
  go_ret
  exact ⟨rfl, Bel_50.out⟩
end Go.Proofs.Ytfbgbljljhgbjaa
