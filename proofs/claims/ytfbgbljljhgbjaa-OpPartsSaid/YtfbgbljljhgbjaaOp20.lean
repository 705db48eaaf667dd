/- OpJoins' walk. -/
import Derived.Test.YtfbgbljljhgbjaaOp18
import Derived.Test.YtfbgbljljhgbjaaOp19
import Derived.Test.YtfbgbljljhgbjaaTree
namespace Go.Proofs.Ytfbgbljljhgbjaa
open Go.RowKit
set_option linter.unusedSimpArgs false
set_option linter.unusedVariables false

theorem info_op : (Try.prog.info? 29).map (fun i => (i.zero, i.size, i.bytes)) = some (some (.agg (opCells zeroO).toArray), 20, 168) := by kernel_rfl
theorem mayE_join {L M : List OpT} (hl : mayE L = 0) (hm : mayE M = 0) : mayE (L ++ M) = if 6 < L.length + M.length then 3 else 0 := by
  obtain ⟨h1, h2, h3⟩ := mayE_mem hl
  obtain ⟨g1, g2, g3⟩ := mayE_mem hm
  unfold mayE
  rw [List.length_append]
  by_cases h : 6 < L.length + M.length
  · rw [if_pos (by omega), if_pos h]
  · rw [if_neg (by omega), if_neg h, mayEs_app]
    have e1 : mayEs L = 0 := by unfold mayE at hl; rwa [if_neg (by omega)] at hl
    have e2 : mayEs M = 0 := by unfold mayE at hm; rwa [if_neg (by omega)] at hm
    rw [if_pos e1, e2]
theorem join_ne {L M : List OpT} (hm : 1 ≤ M.length) : decide (L ++ M = L) = false ∧ decide (L = L ++ M) = false := by
  refine ⟨decide_eq_false fun h => ?_, decide_eq_false fun h => ?_⟩ <;> · have := congrArg List.length h; simp at this; subst this; simp at hm
theorem names_join (L M : List OpT) : namesE (L ++ M) = namesE L ++ namesE M := by simp [namesE]
theorem rowsOp_one (L : List OpT) : ∀ u ∈ rowsV opCells L, u.oneCell' = true := rowsV_one opCells opCells_one L
theorem rowsId_one (L : List (Int × Int)) : ∀ u ∈ rowsV idCells L, u.oneCell' = true := rowsV_one idCells idCells_one L

set_option maxRecDepth 100000 in
set_option maxHeartbeats 4000000 in
theorem oj_a (A A' : Option Addr) (n n' c c' : Nat) (L L' : List OpT) (w : World) (h : RdS w w.heap.size 20 A n c (rowsV opCells L)) (h' : RdS w w.heap.size 20 A' n' c' (rowsV opCells L')) (hn : n ≤ maxLen) (hn' : n' ≤ maxLen) (hm : mayE (L.take 10) ≠ 0) :
    Calls Try.prog 7 #[.agg #[.slice A n c], .agg #[.slice A' n' c']] w fun e w' => e = .returned (.bool true) ∧ Below w.heap.size w w' := by
  have RA := Lib.hid h
  have RB := Lib.hid h'
  have LA : RowKit.Hid (∀ a, A = some a → 0 < n → a.block < w.heap.size) := Lib.hid h.low
  have LB : RowKit.Hid (∀ a, A' = some a → 0 < n' → a.block < w.heap.size) := Lib.hid h'.low
  have HFA := Lib.hid (fun W h => few_any A n c L W h hn)
  have HFB := Lib.hid (fun W h => few_any A' n' c' L' W h hn')
  have HSA := Lib.hid (fun (W : World) (h : RdS W W.heap.size 20 A n c (rowsV opCells L)) => h.fewer 10)
  have HSB := Lib.hid (fun (W : World) (h : RdS W W.heap.size 20 A' n' c' (rowsV opCells L')) => h.fewer 10)
  have h10 := few_len L
  have h10' := few_len L'
  obtain ⟨La, gLa⟩ : ∃ x, L.take 10 = x := ⟨_, rfl⟩
  obtain ⟨Lb, gLb⟩ : ∃ x, L'.take 10 = x := ⟨_, rfl⟩
  rw [gLa] at HFA HSA h10
  rw [gLb] at HFB HSB h10'
  have hMa := fun W h => mayedit_any A La.length c La W h (by unfold maxLen; omega)
  have hMb := fun W h => mayedit_any A' Lb.length c' Lb W h (by unfold maxLen; omega)
  rw [gLa] at hm
  have q : (mayE La == 0) = false := beq_eq_false_iff_ne.2 hm
  have q' : (mayE La != 0) = true := bne_iff_ne.2 hm
  have HMa := Lib.hid hMa
  clear h h' hn hn' gLa gLb h10 h10' hm hMa hMb
  go_enter Try.func7, Try.ntmps7
  go_wp2_with fail
  refine (shown9 _).mono ?_
  rintro e w1 ⟨rfl, hb1⟩
  have RA_2 := Lib.hid (((RA.out.al (.cells #[.slice A n c] 32)).al (.cells #[.slice A' n' c'] 32)).bl hb1)
  have RB_2 := Lib.hid (((RB.out.al (.cells #[.slice A n c] 32)).al (.cells #[.slice A' n' c'] 32)).bl hb1)
  have EA_2 := Lib.hid (((show Whole (w.alloc (.cells #[.slice A n c] 32)) (w.heap.size) (32) ([.slice A n c]) from Whole.new2 (by first | rfl | simp)).al (.cells #[.slice A' n' c'] 32)).bl hb1)
  have EB_2 := Lib.hid ((show Whole ((w.alloc (.cells #[.slice A n c] 32)).alloc (.cells #[.slice A' n' c'] 32)) ((w.heap.size + 1)) (32) ([.slice A' n' c']) from Whole.new2 (by first | rfl | simp)).bl hb1)
  have Bel_2 := Lib.hid (bel_bl (bel_al (bel_al (Below.refl _ w) (.cells #[.slice A n c] 32)) (.cells #[.slice A' n' c'] 32)) hb1)
  clear hb1
  have LO_EA_3 : RowKit.Hid (w.heap.size ≤ w.heap.size) := Lib.hid (by omega)
  have LO_EB_4 : RowKit.Hid (w.heap.size ≤ (w.heap.size + 1)) := Lib.hid (by omega)
  have NE_EA_EB : RowKit.Hid (w.heap.size ≠ (w.heap.size + 1)) := Lib.hid (by omega)
  have lw5 : (w1).cell? ⟨w.heap.size, 0, none⟩ = some (.slice A n c) := EA_2.out.cell (i := 0) rfl
  go_wp2_with fail
  clear lw5
  refine (HFA.out _ RA_2.out).mono ?_
  rintro e w6 ⟨rfl, hb6⟩
  have RA_7 := Lib.hid (RA_2.out.bl hb6)
  have RB_7 := Lib.hid (RB_2.out.bl hb6)
  have EA_7 := Lib.hid (EA_2.out.bl hb6)
  have EB_7 := Lib.hid (EB_2.out.bl hb6)
  have Bel_7 := Lib.hid (bel_bl Bel_2.out hb6)
  clear hb6
  have lw8 : (w6).cell? ⟨w.heap.size, 0, none⟩ = some (.slice A n c) := EA_7.out.cell (i := 0) rfl
  have fr := EA_7.out.free 0
  go_upto_region 3 with fail
  clear fr lw8
  obtain ⟨v9, gv9⟩ : ∃ x, (w6.setCell ⟨w.heap.size, 0, none⟩ (.slice A La.length c)) = x := ⟨_, rfl⟩
  have RA_9 := Lib.hid (show RdS v9 v9.heap.size _ _ _ _ _ from gv9 ▸ (RdS.far RA_7.out (p := ⟨w.heap.size, 0, none⟩) (fun hn a e => by have h1 := LA.out a e hn; have h2 := LO_EA_3.out; show a.block ≠ w.heap.size; omega) _))
  have RB_9 := Lib.hid (show RdS v9 v9.heap.size _ _ _ _ _ from gv9 ▸ (RdS.far RB_7.out (p := ⟨w.heap.size, 0, none⟩) (fun hn a e => by have h1 := LB.out a e hn; have h2 := LO_EA_3.out; show a.block ≠ w.heap.size; omega) _))
  have EA_9 : RowKit.Hid (Whole v9 w.heap.size 32 ([.slice A La.length c])) := Lib.hid (gv9 ▸ (EA_7.out.set_ 0 _))
  have EB_9 := Lib.hid (show Whole v9 (w.heap.size + 1) _ _ from gv9 ▸ (EB_7.out.far (by show (w.heap.size + 1) ≠ w.heap.size; exact (Ne.symm NE_EA_EB.out)) _))
  have Bel_9 : RowKit.Hid (Below w.heap.size w v9) := Lib.hid (gv9 ▸ (Bel_7.out.setCell (by show w.heap.size ≤ w.heap.size; exact LO_EA_3.out) _))
  rw [gv9]
  clear gv9
  have lw10 : (v9).cell? ⟨(w.heap.size + 1), 0, none⟩ = some (.slice A' n' c') := EB_9.out.cell (i := 0) rfl
  go_wp2_with fail
  clear lw10
  refine (HFB.out _ RB_9.out).mono ?_
  rintro e w11 ⟨rfl, hb11⟩
  have RA_12 := Lib.hid (RA_9.out.bl hb11)
  have RB_12 := Lib.hid (RB_9.out.bl hb11)
  have EA_12 := Lib.hid (EA_9.out.bl hb11)
  have EB_12 := Lib.hid (EB_9.out.bl hb11)
  have Bel_12 := Lib.hid (bel_bl Bel_9.out hb11)
  clear hb11
  have lw13 : (w11).cell? ⟨(w.heap.size + 1), 0, none⟩ = some (.slice A' n' c') := EB_12.out.cell (i := 0) rfl
  have fr := EB_12.out.free 0
  go_upto_region 4 with fail
  clear fr lw13
  obtain ⟨v14, gv14⟩ : ∃ x, (w11.setCell ⟨(w.heap.size + 1), 0, none⟩ (.slice A' Lb.length c')) = x := ⟨_, rfl⟩
  have RA_14 := Lib.hid (show RdS v14 v14.heap.size _ _ _ _ _ from gv14 ▸ (RdS.far RA_12.out (p := ⟨(w.heap.size + 1), 0, none⟩) (fun hn a e => by have h1 := LA.out a e hn; have h2 := LO_EB_4.out; show a.block ≠ (w.heap.size + 1); omega) _))
  have RB_14 := Lib.hid (show RdS v14 v14.heap.size _ _ _ _ _ from gv14 ▸ (RdS.far RB_12.out (p := ⟨(w.heap.size + 1), 0, none⟩) (fun hn a e => by have h1 := LB.out a e hn; have h2 := LO_EB_4.out; show a.block ≠ (w.heap.size + 1); omega) _))
  have EA_14 := Lib.hid (show Whole v14 w.heap.size _ _ from gv14 ▸ (EA_12.out.far (by show w.heap.size ≠ (w.heap.size + 1); exact NE_EA_EB.out) _))
  have EB_14 : RowKit.Hid (Whole v14 (w.heap.size + 1) 32 ([.slice A' Lb.length c'])) := Lib.hid (gv14 ▸ (EB_12.out.set_ 0 _))
  have Bel_14 : RowKit.Hid (Below w.heap.size w v14) := Lib.hid (gv14 ▸ (Bel_12.out.setCell (by show w.heap.size ≤ (w.heap.size + 1); exact LO_EB_4.out) _))
  rw [gv14]
  clear gv14
  have SA_15 := Lib.hid (HSA.out _ RA_14.out)
  have SB_16 := Lib.hid (HSB.out _ RB_14.out)
  have lw17 : (v14).cell? ⟨w.heap.size, 0, none⟩ = some (.slice A La.length c) := EA_14.out.cell (i := 0) rfl
  go_wp2_with fail
  clear lw17
  refine (HMa.out _ SA_15.out).mono ?_
  rintro e w18 ⟨rfl, hb18⟩
  have EA_19 := Lib.hid (EA_14.out.bl hb18)
  have EB_19 := Lib.hid (EB_14.out.bl hb18)
  have SA_19 := Lib.hid (SA_15.out.bl hb18)
  have SB_19 := Lib.hid (SB_16.out.bl hb18)
  have Bel_19 := Lib.hid (bel_bl Bel_14.out hb18)
  clear hb18
  go_wp2
  go_ret
  exact ⟨rfl, Bel_19.out⟩

set_option maxRecDepth 100000 in
set_option maxHeartbeats 4000000 in
theorem oj_b (A A' : Option Addr) (n n' c c' : Nat) (L L' : List OpT) (w : World) (h : RdS w w.heap.size 20 A n c (rowsV opCells L)) (h' : RdS w w.heap.size 20 A' n' c' (rowsV opCells L')) (hn : n ≤ maxLen) (hn' : n' ≤ maxLen) (hm : mayE (L.take 10) = 0) (hm' : mayE (L'.take 10) ≠ 0) :
    Calls Try.prog 7 #[.agg #[.slice A n c], .agg #[.slice A' n' c']] w fun e w' => e = .returned (.bool true) ∧ Below w.heap.size w w' := by
  have RA := Lib.hid h
  have RB := Lib.hid h'
  have LA : RowKit.Hid (∀ a, A = some a → 0 < n → a.block < w.heap.size) := Lib.hid h.low
  have LB : RowKit.Hid (∀ a, A' = some a → 0 < n' → a.block < w.heap.size) := Lib.hid h'.low
  have HFA := Lib.hid (fun W h => few_any A n c L W h hn)
  have HFB := Lib.hid (fun W h => few_any A' n' c' L' W h hn')
  have HSA := Lib.hid (fun (W : World) (h : RdS W W.heap.size 20 A n c (rowsV opCells L)) => h.fewer 10)
  have HSB := Lib.hid (fun (W : World) (h : RdS W W.heap.size 20 A' n' c' (rowsV opCells L')) => h.fewer 10)
  have h10 := few_len L
  have h10' := few_len L'
  obtain ⟨La, gLa⟩ : ∃ x, L.take 10 = x := ⟨_, rfl⟩
  obtain ⟨Lb, gLb⟩ : ∃ x, L'.take 10 = x := ⟨_, rfl⟩
  rw [gLa] at HFA HSA h10
  rw [gLb] at HFB HSB h10'
  have hMa := fun W h => mayedit_any A La.length c La W h (by unfold maxLen; omega)
  have hMb := fun W h => mayedit_any A' Lb.length c' Lb W h (by unfold maxLen; omega)
  rw [gLa] at hm
  rw [gLb] at hm'
  rw [hm] at hMa
  have q : (mayE Lb == 0) = false := beq_eq_false_iff_ne.2 hm'
  have q' : (mayE Lb != 0) = true := bne_iff_ne.2 hm'
  have HMa := Lib.hid hMa
  have HMb := Lib.hid hMb
  clear h h' hn hn' gLa gLb h10 h10' hm hm' hMa hMb
  go_enter Try.func7, Try.ntmps7
  go_wp2_with fail
  refine (shown9 _).mono ?_
  rintro e w1 ⟨rfl, hb1⟩
  have RA_2 := Lib.hid (((RA.out.al (.cells #[.slice A n c] 32)).al (.cells #[.slice A' n' c'] 32)).bl hb1)
  have RB_2 := Lib.hid (((RB.out.al (.cells #[.slice A n c] 32)).al (.cells #[.slice A' n' c'] 32)).bl hb1)
  have EA_2 := Lib.hid (((show Whole (w.alloc (.cells #[.slice A n c] 32)) (w.heap.size) (32) ([.slice A n c]) from Whole.new2 (by first | rfl | simp)).al (.cells #[.slice A' n' c'] 32)).bl hb1)
  have EB_2 := Lib.hid ((show Whole ((w.alloc (.cells #[.slice A n c] 32)).alloc (.cells #[.slice A' n' c'] 32)) ((w.heap.size + 1)) (32) ([.slice A' n' c']) from Whole.new2 (by first | rfl | simp)).bl hb1)
  have Bel_2 := Lib.hid (bel_bl (bel_al (bel_al (Below.refl _ w) (.cells #[.slice A n c] 32)) (.cells #[.slice A' n' c'] 32)) hb1)
  clear hb1
  have LO_EA_3 : RowKit.Hid (w.heap.size ≤ w.heap.size) := Lib.hid (by omega)
  have LO_EB_4 : RowKit.Hid (w.heap.size ≤ (w.heap.size + 1)) := Lib.hid (by omega)
  have NE_EA_EB : RowKit.Hid (w.heap.size ≠ (w.heap.size + 1)) := Lib.hid (by omega)
  have lw5 : (w1).cell? ⟨w.heap.size, 0, none⟩ = some (.slice A n c) := EA_2.out.cell (i := 0) rfl
  go_wp2_with fail
  clear lw5
  refine (HFA.out _ RA_2.out).mono ?_
  rintro e w6 ⟨rfl, hb6⟩
  have RA_7 := Lib.hid (RA_2.out.bl hb6)
  have RB_7 := Lib.hid (RB_2.out.bl hb6)
  have EA_7 := Lib.hid (EA_2.out.bl hb6)
  have EB_7 := Lib.hid (EB_2.out.bl hb6)
  have Bel_7 := Lib.hid (bel_bl Bel_2.out hb6)
  clear hb6
  have lw8 : (w6).cell? ⟨w.heap.size, 0, none⟩ = some (.slice A n c) := EA_7.out.cell (i := 0) rfl
  have fr := EA_7.out.free 0
  go_upto_region 3 with fail
  clear fr lw8
  obtain ⟨v9, gv9⟩ : ∃ x, (w6.setCell ⟨w.heap.size, 0, none⟩ (.slice A La.length c)) = x := ⟨_, rfl⟩
  have RA_9 := Lib.hid (show RdS v9 v9.heap.size _ _ _ _ _ from gv9 ▸ (RdS.far RA_7.out (p := ⟨w.heap.size, 0, none⟩) (fun hn a e => by have h1 := LA.out a e hn; have h2 := LO_EA_3.out; show a.block ≠ w.heap.size; omega) _))
  have RB_9 := Lib.hid (show RdS v9 v9.heap.size _ _ _ _ _ from gv9 ▸ (RdS.far RB_7.out (p := ⟨w.heap.size, 0, none⟩) (fun hn a e => by have h1 := LB.out a e hn; have h2 := LO_EA_3.out; show a.block ≠ w.heap.size; omega) _))
  have EA_9 : RowKit.Hid (Whole v9 w.heap.size 32 ([.slice A La.length c])) := Lib.hid (gv9 ▸ (EA_7.out.set_ 0 _))
  have EB_9 := Lib.hid (show Whole v9 (w.heap.size + 1) _ _ from gv9 ▸ (EB_7.out.far (by show (w.heap.size + 1) ≠ w.heap.size; exact (Ne.symm NE_EA_EB.out)) _))
  have Bel_9 : RowKit.Hid (Below w.heap.size w v9) := Lib.hid (gv9 ▸ (Bel_7.out.setCell (by show w.heap.size ≤ w.heap.size; exact LO_EA_3.out) _))
  rw [gv9]
  clear gv9
  have lw10 : (v9).cell? ⟨(w.heap.size + 1), 0, none⟩ = some (.slice A' n' c') := EB_9.out.cell (i := 0) rfl
  go_wp2_with fail
  clear lw10
  refine (HFB.out _ RB_9.out).mono ?_
  rintro e w11 ⟨rfl, hb11⟩
  have RA_12 := Lib.hid (RA_9.out.bl hb11)
  have RB_12 := Lib.hid (RB_9.out.bl hb11)
  have EA_12 := Lib.hid (EA_9.out.bl hb11)
  have EB_12 := Lib.hid (EB_9.out.bl hb11)
  have Bel_12 := Lib.hid (bel_bl Bel_9.out hb11)
  clear hb11
  have lw13 : (w11).cell? ⟨(w.heap.size + 1), 0, none⟩ = some (.slice A' n' c') := EB_12.out.cell (i := 0) rfl
  have fr := EB_12.out.free 0
  go_upto_region 4 with fail
  clear fr lw13
  obtain ⟨v14, gv14⟩ : ∃ x, (w11.setCell ⟨(w.heap.size + 1), 0, none⟩ (.slice A' Lb.length c')) = x := ⟨_, rfl⟩
  have RA_14 := Lib.hid (show RdS v14 v14.heap.size _ _ _ _ _ from gv14 ▸ (RdS.far RA_12.out (p := ⟨(w.heap.size + 1), 0, none⟩) (fun hn a e => by have h1 := LA.out a e hn; have h2 := LO_EB_4.out; show a.block ≠ (w.heap.size + 1); omega) _))
  have RB_14 := Lib.hid (show RdS v14 v14.heap.size _ _ _ _ _ from gv14 ▸ (RdS.far RB_12.out (p := ⟨(w.heap.size + 1), 0, none⟩) (fun hn a e => by have h1 := LB.out a e hn; have h2 := LO_EB_4.out; show a.block ≠ (w.heap.size + 1); omega) _))
  have EA_14 := Lib.hid (show Whole v14 w.heap.size _ _ from gv14 ▸ (EA_12.out.far (by show w.heap.size ≠ (w.heap.size + 1); exact NE_EA_EB.out) _))
  have EB_14 : RowKit.Hid (Whole v14 (w.heap.size + 1) 32 ([.slice A' Lb.length c'])) := Lib.hid (gv14 ▸ (EB_12.out.set_ 0 _))
  have Bel_14 : RowKit.Hid (Below w.heap.size w v14) := Lib.hid (gv14 ▸ (Bel_12.out.setCell (by show w.heap.size ≤ (w.heap.size + 1); exact LO_EB_4.out) _))
  rw [gv14]
  clear gv14
  have SA_15 := Lib.hid (HSA.out _ RA_14.out)
  have SB_16 := Lib.hid (HSB.out _ RB_14.out)
  have lw17 : (v14).cell? ⟨w.heap.size, 0, none⟩ = some (.slice A La.length c) := EA_14.out.cell (i := 0) rfl
  go_wp2_with fail
  clear lw17
  refine (HMa.out _ SA_15.out).mono ?_
  rintro e w18 ⟨rfl, hb18⟩
  have EA_19 := Lib.hid (EA_14.out.bl hb18)
  have EB_19 := Lib.hid (EB_14.out.bl hb18)
  have SA_19 := Lib.hid (SA_15.out.bl hb18)
  have SB_19 := Lib.hid (SB_16.out.bl hb18)
  have Bel_19 := Lib.hid (bel_bl Bel_14.out hb18)
  clear hb18
  have lw20 : (w18).cell? ⟨(w.heap.size + 1), 0, none⟩ = some (.slice A' Lb.length c') := EB_19.out.cell (i := 0) rfl
  go_wp2_with fail
  clear lw20
  refine (HMb.out _ SB_19.out).mono ?_
  rintro e w21 ⟨rfl, hb21⟩
  have EA_22 := Lib.hid (EA_19.out.bl hb21)
  have EB_22 := Lib.hid (EB_19.out.bl hb21)
  have SA_22 := Lib.hid (SA_19.out.bl hb21)
  have SB_22 := Lib.hid (SB_19.out.bl hb21)
  have Bel_22 := Lib.hid (bel_bl Bel_19.out hb21)
  clear hb21
  go_wp2
  go_ret
  exact ⟨rfl, Bel_22.out⟩

set_option maxRecDepth 100000 in
set_option maxHeartbeats 4000000 in
theorem oj_c (A A' : Option Addr) (n n' c c' : Nat) (L L' : List OpT) (w : World) (h : RdS w w.heap.size 20 A n c (rowsV opCells L)) (h' : RdS w w.heap.size 20 A' n' c' (rowsV opCells L')) (hn : n ≤ maxLen) (hn' : n' ≤ maxLen) (hm : mayE (L.take 10) = 0) (hm' : mayE (L'.take 10) = 0) :
    Calls Try.prog 7 #[.agg #[.slice A n c], .agg #[.slice A' n' c']] w fun e w' => e = .returned (.bool true) ∧ Below w.heap.size w w' := by
  have RA := Lib.hid h
  have RB := Lib.hid h'
  have LA : RowKit.Hid (∀ a, A = some a → 0 < n → a.block < w.heap.size) := Lib.hid h.low
  have LB : RowKit.Hid (∀ a, A' = some a → 0 < n' → a.block < w.heap.size) := Lib.hid h'.low
  have HFA := Lib.hid (fun W h => few_any A n c L W h hn)
  have HFB := Lib.hid (fun W h => few_any A' n' c' L' W h hn')
  have HSA := Lib.hid (fun (W : World) (h : RdS W W.heap.size 20 A n c (rowsV opCells L)) => h.fewer 10)
  have HSB := Lib.hid (fun (W : World) (h : RdS W W.heap.size 20 A' n' c' (rowsV opCells L')) => h.fewer 10)
  have h10 := few_len L
  have h10' := few_len L'
  obtain ⟨La, gLa⟩ : ∃ x, L.take 10 = x := ⟨_, rfl⟩
  obtain ⟨Lb, gLb⟩ : ∃ x, L'.take 10 = x := ⟨_, rfl⟩
  rw [gLa] at HFA HSA h10
  rw [gLb] at HFB HSB h10'
  have hMa := fun W h => mayedit_any A La.length c La W h (by unfold maxLen; omega)
  have hMb := fun W h => mayedit_any A' Lb.length c' Lb W h (by unfold maxLen; omega)
  rw [gLa] at hm
  rw [gLb] at hm'
  rw [hm] at hMa
  rw [hm'] at hMb
  have HMa := Lib.hid hMa
  have HMb := Lib.hid hMb
  obtain ⟨i0, hi, hz0, hz1, hz2⟩ := info_parts_ info_op
  have hj := mayE_join hm hm'
  obtain ⟨hpa, hpa2, hpa3⟩ := mayE_mem hm
  obtain ⟨hpb, hpb2, hpb3⟩ := mayE_mem hm'
  have HLa : RowKit.Hid (1 ≤ La.length ∧ La.length ≤ 6) := Lib.hid ⟨hpa2, hpa3⟩
  have HLb : RowKit.Hid (1 ≤ Lb.length ∧ Lb.length ≤ 6) := Lib.hid ⟨hpb2, hpb3⟩
  have HJl : RowKit.Hid ((La ++ Lb).length = La.length + Lb.length) := Lib.hid (List.length_append)
  have HNJ := Lib.hid (names_join La Lb)
  obtain ⟨J, gJ⟩ : ∃ x, La ++ Lb = x := ⟨_, rfl⟩
  have hne := join_ne (L := La) (M := Lb) hpb2
  rw [gJ] at hj hne
  rw [gJ] at HJl HNJ
  have HJ := Lib.hid gJ
  obtain ⟨nJ, gnJ⟩ : ∃ x, La.length + Lb.length = x := ⟨_, rfl⟩
  rw [gnJ] at hj HJl
  have HnJ := Lib.hid gnJ
  have HMj := Lib.hid (fun A1 c1 W (h : RdS W W.heap.size 20 A1 nJ c1 (rowsV opCells J)) => mayedit_any A1 nJ c1 J W h (by unfold maxLen; omega))
  rw [hj] at HMj
  have hS1 := fun A1 c1 W (h : RdS W W.heap.size 20 A1 nJ c1 (rowsV opCells J)) h2 => same_any A1 A nJ La.length c1 c J La W h h2 (by unfold maxLen; omega)
  have hS2 := fun A1 c1 W h2 (h : RdS W W.heap.size 20 A1 nJ c1 (rowsV opCells J)) => same_any A A1 La.length nJ c c1 La J W h2 h (by unfold maxLen; omega)
  rw [hne.1] at hS1
  rw [hne.2] at hS2
  have HS1 := Lib.hid hS1
  have HS2 := Lib.hid hS2
  have HNa := Lib.hid (fun W h => names_new A La.length c La W h (by omega))
  have HNb := Lib.hid (fun W h => names_new A' Lb.length c' Lb W h (by omega))
  have HNj := Lib.hid (fun A1 c1 W (h : RdS W W.heap.size 20 A1 nJ c1 (rowsV opCells J)) => names_new A1 nJ c1 J W h (by omega))
  obtain ⟨Ma, gMa⟩ : ∃ x, namesE La = x := ⟨_, rfl⟩
  obtain ⟨Mb, gMb⟩ : ∃ x, namesE Lb = x := ⟨_, rfl⟩
  obtain ⟨Mj, gMj⟩ : ∃ x, namesE J = x := ⟨_, rfl⟩
  have hq1 := namesE_len La
  have hq2 := namesE_len Lb
  rw [gMa] at HNa HNJ hq1
  rw [gMb] at HNb HNJ hq2
  rw [gMj] at HNj HNJ
  have HMl : RowKit.Hid (Ma.length ≤ 12 ∧ Mb.length ≤ 12) := Lib.hid ⟨by omega, by omega⟩
  have hnJ1 : 1 ≤ nJ := by omega
  have hnJ2 : nJ ≤ 12 := by omega
  clear h h' hn hn' gLa gLb h10 h10' hm hm' hMa hMb hj hpa hpb hpa2 hpa3 hpb2 hpb3 hne gJ gnJ gMa gMb gMj hS1 hS2 hq1 hq2
  by_cases hJ6 : 6 < nJ
  all_goals
    first | rw [if_pos hJ6] at HMj | rw [if_neg hJ6] at HMj
    first | (have q6 : decide ((6 : Int) < (nJ : Int)) = true := decide_eq_true (by omega)) | (have q6 : decide ((6 : Int) < (nJ : Int)) = false := decide_eq_false (by omega))
    clear hJ6
    go_enter Try.func7, Try.ntmps7
    go_wp2_with fail
    refine (shown9 _).mono ?_
    rintro e w1 ⟨rfl, hb1⟩
    have RA_2 := Lib.hid (((RA.out.al (.cells #[.slice A n c] 32)).al (.cells #[.slice A' n' c'] 32)).bl hb1)
    have RB_2 := Lib.hid (((RB.out.al (.cells #[.slice A n c] 32)).al (.cells #[.slice A' n' c'] 32)).bl hb1)
    have EA_2 := Lib.hid (((show Whole (w.alloc (.cells #[.slice A n c] 32)) (w.heap.size) (32) ([.slice A n c]) from Whole.new2 (by first | rfl | simp)).al (.cells #[.slice A' n' c'] 32)).bl hb1)
    have EB_2 := Lib.hid ((show Whole ((w.alloc (.cells #[.slice A n c] 32)).alloc (.cells #[.slice A' n' c'] 32)) ((w.heap.size + 1)) (32) ([.slice A' n' c']) from Whole.new2 (by first | rfl | simp)).bl hb1)
    have Bel_2 := Lib.hid (bel_bl (bel_al (bel_al (Below.refl _ w) (.cells #[.slice A n c] 32)) (.cells #[.slice A' n' c'] 32)) hb1)
    clear hb1
    have LO_EA_3 : RowKit.Hid (w.heap.size ≤ w.heap.size) := Lib.hid (by omega)
    have LO_EB_4 : RowKit.Hid (w.heap.size ≤ (w.heap.size + 1)) := Lib.hid (by omega)
    have NE_EA_EB : RowKit.Hid (w.heap.size ≠ (w.heap.size + 1)) := Lib.hid (by omega)
    have lw5 : (w1).cell? ⟨w.heap.size, 0, none⟩ = some (.slice A n c) := EA_2.out.cell (i := 0) rfl
    go_wp2_with fail
    clear lw5
    refine (HFA.out _ RA_2.out).mono ?_
    rintro e w6 ⟨rfl, hb6⟩
    have RA_7 := Lib.hid (RA_2.out.bl hb6)
    have RB_7 := Lib.hid (RB_2.out.bl hb6)
    have EA_7 := Lib.hid (EA_2.out.bl hb6)
    have EB_7 := Lib.hid (EB_2.out.bl hb6)
    have Bel_7 := Lib.hid (bel_bl Bel_2.out hb6)
    clear hb6
    have lw8 : (w6).cell? ⟨w.heap.size, 0, none⟩ = some (.slice A n c) := EA_7.out.cell (i := 0) rfl
    have fr := EA_7.out.free 0
    go_upto_region 3 with fail
    clear fr lw8
    obtain ⟨v9, gv9⟩ : ∃ x, (w6.setCell ⟨w.heap.size, 0, none⟩ (.slice A La.length c)) = x := ⟨_, rfl⟩
    have RA_9 := Lib.hid (show RdS v9 v9.heap.size _ _ _ _ _ from gv9 ▸ (RdS.far RA_7.out (p := ⟨w.heap.size, 0, none⟩) (fun hn a e => by have h1 := LA.out a e hn; have h2 := LO_EA_3.out; show a.block ≠ w.heap.size; omega) _))
    have RB_9 := Lib.hid (show RdS v9 v9.heap.size _ _ _ _ _ from gv9 ▸ (RdS.far RB_7.out (p := ⟨w.heap.size, 0, none⟩) (fun hn a e => by have h1 := LB.out a e hn; have h2 := LO_EA_3.out; show a.block ≠ w.heap.size; omega) _))
    have EA_9 : RowKit.Hid (Whole v9 w.heap.size 32 ([.slice A La.length c])) := Lib.hid (gv9 ▸ (EA_7.out.set_ 0 _))
    have EB_9 := Lib.hid (show Whole v9 (w.heap.size + 1) _ _ from gv9 ▸ (EB_7.out.far (by show (w.heap.size + 1) ≠ w.heap.size; exact (Ne.symm NE_EA_EB.out)) _))
    have Bel_9 : RowKit.Hid (Below w.heap.size w v9) := Lib.hid (gv9 ▸ (Bel_7.out.setCell (by show w.heap.size ≤ w.heap.size; exact LO_EA_3.out) _))
    rw [gv9]
    clear gv9
    have lw10 : (v9).cell? ⟨(w.heap.size + 1), 0, none⟩ = some (.slice A' n' c') := EB_9.out.cell (i := 0) rfl
    go_wp2_with fail
    clear lw10
    refine (HFB.out _ RB_9.out).mono ?_
    rintro e w11 ⟨rfl, hb11⟩
    have RA_12 := Lib.hid (RA_9.out.bl hb11)
    have RB_12 := Lib.hid (RB_9.out.bl hb11)
    have EA_12 := Lib.hid (EA_9.out.bl hb11)
    have EB_12 := Lib.hid (EB_9.out.bl hb11)
    have Bel_12 := Lib.hid (bel_bl Bel_9.out hb11)
    clear hb11
    have lw13 : (w11).cell? ⟨(w.heap.size + 1), 0, none⟩ = some (.slice A' n' c') := EB_12.out.cell (i := 0) rfl
    have fr := EB_12.out.free 0
    go_upto_region 4 with fail
    clear fr lw13
    obtain ⟨v14, gv14⟩ : ∃ x, (w11.setCell ⟨(w.heap.size + 1), 0, none⟩ (.slice A' Lb.length c')) = x := ⟨_, rfl⟩
    have RA_14 := Lib.hid (show RdS v14 v14.heap.size _ _ _ _ _ from gv14 ▸ (RdS.far RA_12.out (p := ⟨(w.heap.size + 1), 0, none⟩) (fun hn a e => by have h1 := LA.out a e hn; have h2 := LO_EB_4.out; show a.block ≠ (w.heap.size + 1); omega) _))
    have RB_14 := Lib.hid (show RdS v14 v14.heap.size _ _ _ _ _ from gv14 ▸ (RdS.far RB_12.out (p := ⟨(w.heap.size + 1), 0, none⟩) (fun hn a e => by have h1 := LB.out a e hn; have h2 := LO_EB_4.out; show a.block ≠ (w.heap.size + 1); omega) _))
    have EA_14 := Lib.hid (show Whole v14 w.heap.size _ _ from gv14 ▸ (EA_12.out.far (by show w.heap.size ≠ (w.heap.size + 1); exact NE_EA_EB.out) _))
    have EB_14 : RowKit.Hid (Whole v14 (w.heap.size + 1) 32 ([.slice A' Lb.length c'])) := Lib.hid (gv14 ▸ (EB_12.out.set_ 0 _))
    have Bel_14 : RowKit.Hid (Below w.heap.size w v14) := Lib.hid (gv14 ▸ (Bel_12.out.setCell (by show w.heap.size ≤ (w.heap.size + 1); exact LO_EB_4.out) _))
    rw [gv14]
    clear gv14
    have SA_15 := Lib.hid (HSA.out _ RA_14.out)
    have SB_16 := Lib.hid (HSB.out _ RB_14.out)
    have lw17 : (v14).cell? ⟨w.heap.size, 0, none⟩ = some (.slice A La.length c) := EA_14.out.cell (i := 0) rfl
    go_wp2_with fail
    clear lw17
    refine (HMa.out _ SA_15.out).mono ?_
    rintro e w18 ⟨rfl, hb18⟩
    have EA_19 := Lib.hid (EA_14.out.bl hb18)
    have EB_19 := Lib.hid (EB_14.out.bl hb18)
    have SA_19 := Lib.hid (SA_15.out.bl hb18)
    have SB_19 := Lib.hid (SB_16.out.bl hb18)
    have Bel_19 := Lib.hid (bel_bl Bel_14.out hb18)
    clear hb18
    have lw20 : (w18).cell? ⟨(w.heap.size + 1), 0, none⟩ = some (.slice A' Lb.length c') := EB_19.out.cell (i := 0) rfl
    go_wp2_with fail
    clear lw20
    refine (HMb.out _ SB_19.out).mono ?_
    rintro e w21 ⟨rfl, hb21⟩
    have EA_22 := Lib.hid (EA_19.out.bl hb21)
    have EB_22 := Lib.hid (EB_19.out.bl hb21)
    have SA_22 := Lib.hid (SA_19.out.bl hb21)
    have SB_22 := Lib.hid (SB_19.out.bl hb21)
    have Bel_22 := Lib.hid (bel_bl Bel_19.out hb21)
    clear hb21
    go_upto_region 6 with fail
    refine wp_behind2 (fun a a' w' => ∃ (A6 : Option Addr) (c6 g6 : Nat) (u23 u24 u25 u26 u27 u28 u29 u30 : Value), a' = (((((((((a.put (some 23) u23).put (some 24) u24).put (some 25) u25).put (some 26) u26).put (some 27) u27).put (some 28) u28).put (some 29) u29).put (some 30) u30).put (some 6) (.pointer (some ⟨g6, 0, none⟩))) ∧ RowKit.Hid (Ext w21 w' ∧ w.heap.size ≤ g6 ∧ Whole w' g6 32 [.slice A6 nJ c6] ∧ RdS w' w'.heap.size 20 A6 nJ c6 (rowsV opCells J))) ?_ ?_
    · have EA_23 := Lib.hid (EA_22.out.dr)
      have EB_23 := Lib.hid (EB_22.out.dr)
      have SA_23 := Lib.hid (SA_22.out.dr)
      have SB_23 := Lib.hid (SB_22.out.dr)
      have Bel_23 := Lib.hid (bel_dr Bel_22.out)
      have EX0 : RowKit.Hid (Ext w21.drew w21.drew) := Lib.hid (Ext.refl _)
      obtain ⟨B0, hB0⟩ : ∃ x, w21.drew.heap.size = x := ⟨_, rfl⟩
      have HB0 := Lib.hid hB0
      clear hB0
      have ldt0 : ∀ w', Kept (From_ B0) w21.drew w' → w'.cell? ⟨w.heap.size, 0, none⟩ = some (.slice A La.length c) := fun w' h => h.from_cell (Nat.lt_of_lt_of_eq (EA_23.out.lt) HB0.out) (EA_23.out.cell (i := 0) rfl)
      have ldt1 : ∀ w', Kept (From_ B0) w21.drew w' → w'.cell? ⟨(w.heap.size + 1), 0, none⟩ = some (.slice A' Lb.length c') := fun w' h => h.from_cell (Nat.lt_of_lt_of_eq (EB_23.out.lt) HB0.out) (EB_23.out.cell (i := 0) rfl)
      refine wp_region_reg (From_ B0) (by kernel_rfl) ?_
      apply wpR_next 1 (some 24)
      · simp only [List.getElem?_toArray, List.getElem?_cons_succ, List.getElem?_cons_zero]; exact rfl
      · rfl
      · kernel_rfl
      · kernel_rfl
      · kernel_rfl
      · exact fun _ _ _ _ h => Exit.noConfusion h.1
      apply Exists.intro
      apply And.intro
      · apply yr_run; rfl; intro w' hw'; go_simp; (try with_reducible rfl)
      simp only [Act.put, List.setIfInBounds_toArray, List.set_cons_zero, List.set_cons_succ]
      apply wpR_next 2 (some 25)
      · simp only [List.getElem?_toArray, List.getElem?_cons_succ, List.getElem?_cons_zero]; exact rfl
      · rfl
      · kernel_rfl
      · kernel_rfl
      · kernel_rfl
      · exact fun _ _ _ _ h => Exit.noConfusion h.1
      apply Exists.intro
      apply And.intro
      · apply yr_run; rfl; intro w' hw'; go_simp; (try with_reducible rfl)
      simp only [Act.put, List.setIfInBounds_toArray, List.set_cons_zero, List.set_cons_succ]
      apply wpR_next 4 (some 27)
      · simp only [List.getElem?_toArray, List.getElem?_cons_succ, List.getElem?_cons_zero]; exact rfl
      · rfl
      · kernel_rfl
      · kernel_rfl
      · kernel_rfl
      · exact fun _ _ _ _ h => Exit.noConfusion h.1
      apply Exists.intro
      apply And.intro
      · apply yr_run; rfl; intro w' hw'; go_simp; (try with_reducible rfl)
      simp only [Act.put, List.setIfInBounds_toArray, List.set_cons_zero, List.set_cons_succ]
      apply wpR_next 5 (some 28)
      · simp only [List.getElem?_toArray, List.getElem?_cons_succ, List.getElem?_cons_zero]; exact rfl
      · rfl
      · kernel_rfl
      · kernel_rfl
      · kernel_rfl
      · exact fun _ _ _ _ h => Exit.noConfusion h.1
      apply Exists.intro
      apply And.intro
      · apply yr_run; rfl; intro w' hw'; go_simp; (try with_reducible rfl)
      simp only [Act.put, List.setIfInBounds_toArray, List.set_cons_zero, List.set_cons_succ]
      refine wpR_two 0 8 (by kernel_rfl) ?_ ?_
      · apply at_run 0 (some 23)
        · simp only [List.getElem?_toArray, List.getElem?_cons_succ, List.getElem?_cons_zero]; exact rfl
        · rfl
        · rfl
        intro w' hw'
        have E_1_2 := Lib.hid (Ext.trans EX0.out (hw'))
        refine ⟨.slice (some ⟨w'.heap.size, 0, none⟩) 0 0, w'.alloc (.cells #[] 29), ?_, Kept.of_below (below1 _ _), ?_⟩
        · go_simp
        have RR_n1_1 : RowKit.Hid (Ow w21.drew B0 29 20 (.slice (some ⟨w'.heap.size, 0, none⟩) 0 0) 0 [] (w'.alloc (.cells #[] 29))) := Lib.hid (Ow.new_ (e := 29) (size := 20) (cs := #[]) E_1_2.out (Nat.le_of_eq HB0.out) (by have h1 := E_1_2.out.size; have h2 := HB0.out; omega) (n := 0) (Nat.zero_le _) rfl)
        have E_1_3 := Lib.hid (Ext.trans E_1_2.out (below1 w' (.cells #[] 29)))
        have hkk : Kept (From_ B0) w21.drew (w'.alloc (.cells #[] 29)) := (Kept.of_ext hw').trans (Kept.of_below (below1 _ _))
        obtain ⟨v1_4, gv1_4⟩ : ∃ x, w'.alloc (.cells #[] 29) = x := ⟨_, rfl⟩
        rw [gv1_4] at RR_n1_1 E_1_3 hkk ⊢
        have ldt1_5 := fun w'' (h : Kept (From_ B0) v1_4 w'') => ldt0 w'' (hkk.trans h)
        have ldt1_6 := fun w'' (h : Kept (From_ B0) v1_4 w'') => ldt1 w'' (hkk.trans h)
        clear ldt0 ldt1
        clear gv1_4 hkk
        obtain ⟨g1_1, gg1_1⟩ : ∃ x, w'.heap.size = x := ⟨_, rfl⟩
        rw [gg1_1] at RR_n1_1  ⊢
        clear gg1_1 hw'
        try simp only [Act.put, List.setIfInBounds_toArray, List.set_cons_zero, List.set_cons_succ]
        refine wpR_two 3 8 (by kernel_rfl) ?_ ?_
        · apply at_run 3 (some 26)
          · simp only [List.getElem?_toArray, List.getElem?_cons_succ, List.getElem?_cons_zero]; exact rfl
          · rfl
          · rfl
          intro w' hw'
          have RR_2_8 := Lib.hid (Ow.up RR_n1_1.out (hw'))
          have E_2_8 := Lib.hid (Ext.trans E_1_3.out (hw'))
          obtain ⟨vv, w'', hrun, ho, hb, hg, hbk⟩ := Ow.app2 (P := Try.prog) 30 30 29 i0 _ 20 168 _ Try.underlying30 hi hz0 hz1 hz2 rfl (by decide) _ _ _ RR_2_8.out _ _ _ _ _ ((SA_23.out.bl E_2_8.out)) (rowsOp_one _) (by have := HLa.out; unfold maxLen; omega) (by have := HLa.out; omega)
          refine ⟨vv, w'', exec_append (by rfl) (by rfl) (by rfl) hrun, Kept.of_from hb, ?_⟩
          have E_2_7 : RowKit.Hid (Ext w21.drew w'') := Lib.hid ho.below
          have hkk : Kept (From_ B0) v1_4 w'' := (Kept.of_ext hw').trans (Kept.of_from hb)
          obtain ⟨AA2_7, cc2_7, rfl, hrr⟩ := ho.rds
          have RR_2_7 := Lib.hid ho
          clear hrr
          obtain ⟨z2_7, gz2_7⟩ : ∃ x, w'' = x := ⟨_, rfl⟩
          rw [gz2_7] at RR_2_7 E_2_7 hkk ⊢
          have ldt2_9 := fun w'' (h : Kept (From_ B0) z2_7 w'') => ldt1_5 w'' (hkk.trans h)
          have ldt2_10 := fun w'' (h : Kept (From_ B0) z2_7 w'') => ldt1_6 w'' (hkk.trans h)
          clear ldt1_5 ldt1_6
          clear hkk hrun ho hb hg hbk gz2_7 hw'
          try simp only [Act.put, List.setIfInBounds_toArray, List.set_cons_zero, List.set_cons_succ]
          refine wpR_two 6 8 (by kernel_rfl) ?_ ?_
          · apply at_run 6 (some 29)
            · simp only [List.getElem?_toArray, List.getElem?_cons_succ, List.getElem?_cons_zero]; exact rfl
            · rfl
            · rfl
            intro w' hw'
            have RR_3_12 := Lib.hid (Ow.up RR_2_7.out (hw'))
            have E_3_12 := Lib.hid (Ext.trans E_2_7.out (hw'))
            obtain ⟨vv, w'', hrun, ho, hb, hg, hbk⟩ := Ow.app2 (P := Try.prog) 30 30 29 i0 _ 20 168 _ Try.underlying30 hi hz0 hz1 hz2 rfl (by decide) _ _ _ RR_3_12.out _ _ _ _ _ ((SB_23.out.bl E_3_12.out)) (rowsOp_one _) (by have := HLa.out; have := HLb.out; unfold maxLen; omega) (by have := HLa.out; have := HLb.out; omega)
            refine ⟨vv, w'', exec_append (by rfl) (by rfl) (by rfl) hrun, Kept.of_from hb, ?_⟩
            have E_3_11 : RowKit.Hid (Ext w21.drew w'') := Lib.hid ho.below
            have hkk : Kept (From_ B0) z2_7 w'' := (Kept.of_ext hw').trans (Kept.of_from hb)
            obtain ⟨AA3_11, cc3_11, rfl, hrr⟩ := ho.rds
            have RR_3_11 := Lib.hid ho
            clear hrr
            obtain ⟨z3_11, gz3_11⟩ : ∃ x, w'' = x := ⟨_, rfl⟩
            rw [gz3_11] at RR_3_11 E_3_11 hkk ⊢
            have ldt3_13 := fun w'' (h : Kept (From_ B0) z3_11 w'') => ldt2_9 w'' (hkk.trans h)
            have ldt3_14 := fun w'' (h : Kept (From_ B0) z3_11 w'') => ldt2_10 w'' (hkk.trans h)
            clear ldt2_9 ldt2_10
            clear hkk hrun ho hb hg hbk gz3_11 hw'
            try simp only [Act.put, List.setIfInBounds_toArray, List.set_cons_zero, List.set_cons_succ]
            apply wpR_next 7 (some 30)
            · simp only [List.getElem?_toArray, List.getElem?_cons_succ, List.getElem?_cons_zero]; exact rfl
            · rfl
            · kernel_rfl
            · kernel_rfl
            · kernel_rfl
            · exact fun _ _ _ _ h => Exit.noConfusion h.1
            apply Exists.intro
            apply And.intro
            · apply yr_run; rfl; intro w' hw'; go_simp; (try with_reducible rfl)
            simp only [Act.put, List.setIfInBounds_toArray, List.set_cons_zero, List.set_cons_succ]
            refine wpR_one 8 (by kernel_rfl) ?_
            apply at_run 8 (some 6)
            · simp only [List.getElem?_toArray, List.getElem?_cons_succ, List.getElem?_cons_zero]; exact rfl
            · rfl
            · rfl
            intro w' hw'
            have RR_3_16 := Lib.hid (Ow.up RR_3_11.out (hw'))
            have E_3_16 := Lib.hid (Ext.trans E_3_11.out (hw'))
            refine ⟨.pointer (some ⟨w'.heap.size, 0, none⟩), w'.alloc (.cells #[.slice none 0 0] 32), ?_, Kept.of_below (below1 _ _), ?_⟩
            · go_simp
            have NE_R_V_3_15 : RowKit.Hid (some w'.heap.size ≠ _) := Lib.hid (Ow.ne_ RR_3_16.out (Nat.le_refl _))
            have LOv3_15 : RowKit.Hid (w21.drew.heap.size ≤ w'.heap.size) := Lib.hid E_3_16.out.size
            have RR_3_17 := Lib.hid (Ow.up RR_3_16.out (below1 w' (.cells #[.slice none 0 0] 32)))
            have E_3_17 := Lib.hid (Ext.trans E_3_16.out (below1 w' (.cells #[.slice none 0 0] 32)))
            have XV_n3_15 : RowKit.Hid (Whole (w'.alloc (.cells #[.slice none 0 0] 32)) w'.heap.size 32 [.slice none 0 0]) := Lib.hid (Whole.new_ _ _ [.slice none 0 0])
            have hkk : Kept (From_ B0) z3_11 (w'.alloc (.cells #[.slice none 0 0] 32)) := (Kept.of_ext hw').trans (Kept.of_below (below1 _ _))
            obtain ⟨v3_18, gv3_18⟩ : ∃ x, w'.alloc (.cells #[.slice none 0 0] 32) = x := ⟨_, rfl⟩
            rw [gv3_18] at RR_3_17 XV_n3_15 E_3_17 hkk ⊢
            have ldt3_19 := fun w'' (h : Kept (From_ B0) v3_18 w'') => ldt3_13 w'' (hkk.trans h)
            have ldt3_20 := fun w'' (h : Kept (From_ B0) v3_18 w'') => ldt3_14 w'' (hkk.trans h)
            clear ldt3_13 ldt3_14
            clear gv3_18 hkk
            obtain ⟨g3_15, gg3_15⟩ : ∃ x, w'.heap.size = x := ⟨_, rfl⟩
            rw [gg3_15] at XV_n3_15 LOv3_15 NE_R_V_3_15 ⊢
            clear gg3_15 hw'
            try simp only [Act.put, List.setIfInBounds_toArray, List.set_cons_zero, List.set_cons_succ]
            refine wpR_one 9 (by kernel_rfl) ?_
            apply at_store 9
            · simp only [List.getElem?_toArray, List.getElem?_cons_succ, List.getElem?_cons_zero]; exact rfl
            · rfl
            · rfl
            intro w' hw'
            have RR_3_22 := Lib.hid (Ow.up RR_3_17.out (hw'))
            have XV_3_22 := Lib.hid (Whole.below XV_n3_15.out (hw'))
            have E_3_22 := Lib.hid (Ext.trans E_3_17.out (hw'))
            have hcc := XV_3_22.out.cell (i := 0) rfl
            have hff := XV_3_22.out.free 0
            apply Exists.intro
            apply And.intro
            · go_simp; exact rfl
            apply And.intro
            · exact (Kept.refl _ _).setCell (.inl (show B0 ≤ g3_15 by have h1 := LOv3_15.out; have h2 := HB0.out; omega)) _
            clear hcc hff
            try simp only [Act.put, List.setIfInBounds_toArray, List.set_cons_zero, List.set_cons_succ]
            refine wpR_done (by kernel_rfl) ?_ _
            intro wE hwE
            obtain ⟨A6, c6, hv6, hr6⟩ := Ow.rds_far (i := 0) RR_3_22.out NE_R_V_3_15.out (_)
            obtain ⟨rfl, -, rfl⟩ : _ = A6 ∧ _ = _ ∧ _ = c6 := by injection hv6 with a1 a2 a3; exact ⟨a1, a2, a3⟩
            have hn6 : 0 + La.length + Lb.length = nJ := by have := HnJ.out; omega
            have hx6 := (XV_3_22.out.set_ 0 _).below hwE
            have hy6 := hr6.bl hwE
            rw [hn6, List.nil_append, ← rowsV_app, HJ.out] at hy6
            first | rw [hn6] at hx6 | rw [HnJ.out] at hx6
            refine ⟨rfl, _, _, g3_15, _, _, _, _, _, _, _, _, rfl, Lib.hid ⟨?_, ?_, hx6, hy6⟩⟩
            · exact Ext.trans ((Below.refl _ _).drew) (Ext.trans (E_3_22.out.setCell LOv3_15.out _) hwE)
            · exact Nat.le_trans Bel_23.out.size LOv3_15.out
          · apply at_run 8 (some 6)
            · simp only [List.getElem?_toArray, List.getElem?_cons_succ, List.getElem?_cons_zero]; exact rfl
            · rfl
            · rfl
            intro w' hw'
            have RR_4_24 := Lib.hid (Ow.up RR_2_7.out (hw'))
            have E_4_24 := Lib.hid (Ext.trans E_2_7.out (hw'))
            refine ⟨.pointer (some ⟨w'.heap.size, 0, none⟩), w'.alloc (.cells #[.slice none 0 0] 32), ?_, Kept.of_below (below1 _ _), ?_⟩
            · go_simp
            have NE_R_V_4_23 : RowKit.Hid (some w'.heap.size ≠ _) := Lib.hid (Ow.ne_ RR_4_24.out (Nat.le_refl _))
            have LOv4_23 : RowKit.Hid (w21.drew.heap.size ≤ w'.heap.size) := Lib.hid E_4_24.out.size
            have RR_4_25 := Lib.hid (Ow.up RR_4_24.out (below1 w' (.cells #[.slice none 0 0] 32)))
            have E_4_25 := Lib.hid (Ext.trans E_4_24.out (below1 w' (.cells #[.slice none 0 0] 32)))
            have XV_n4_23 : RowKit.Hid (Whole (w'.alloc (.cells #[.slice none 0 0] 32)) w'.heap.size 32 [.slice none 0 0]) := Lib.hid (Whole.new_ _ _ [.slice none 0 0])
            have hkk : Kept (From_ B0) z2_7 (w'.alloc (.cells #[.slice none 0 0] 32)) := (Kept.of_ext hw').trans (Kept.of_below (below1 _ _))
            obtain ⟨v4_26, gv4_26⟩ : ∃ x, w'.alloc (.cells #[.slice none 0 0] 32) = x := ⟨_, rfl⟩
            rw [gv4_26] at RR_4_25 XV_n4_23 E_4_25 hkk ⊢
            have ldt4_27 := fun w'' (h : Kept (From_ B0) v4_26 w'') => ldt2_9 w'' (hkk.trans h)
            have ldt4_28 := fun w'' (h : Kept (From_ B0) v4_26 w'') => ldt2_10 w'' (hkk.trans h)
            clear ldt2_9 ldt2_10
            clear gv4_26 hkk
            obtain ⟨g4_23, gg4_23⟩ : ∃ x, w'.heap.size = x := ⟨_, rfl⟩
            rw [gg4_23] at XV_n4_23 LOv4_23 NE_R_V_4_23 ⊢
            clear gg4_23 hw'
            try simp only [Act.put, List.setIfInBounds_toArray, List.set_cons_zero, List.set_cons_succ]
            refine wpR_one 6 (by kernel_rfl) ?_
            apply at_run 6 (some 29)
            · simp only [List.getElem?_toArray, List.getElem?_cons_succ, List.getElem?_cons_zero]; exact rfl
            · rfl
            · rfl
            intro w' hw'
            have RR_4_30 := Lib.hid (Ow.up RR_4_25.out (hw'))
            have XV_4_30 := Lib.hid (Whole.below XV_n4_23.out (hw'))
            have E_4_30 := Lib.hid (Ext.trans E_4_25.out (hw'))
            obtain ⟨vv, w'', hrun, ho, hb, hg, hbk⟩ := Ow.app2 (P := Try.prog) 30 30 29 i0 _ 20 168 _ Try.underlying30 hi hz0 hz1 hz2 rfl (by decide) _ _ _ RR_4_30.out _ _ _ _ _ ((SB_23.out.bl E_4_30.out)) (rowsOp_one _) (by have := HLa.out; have := HLb.out; unfold maxLen; omega) (by have := HLa.out; have := HLb.out; omega)
            refine ⟨vv, w'', exec_append (by rfl) (by rfl) (by rfl) hrun, Kept.of_from hb, ?_⟩
            have XV_4_29 := Lib.hid (Whole.grown XV_4_30.out hg NE_R_V_4_23.out)
            have NE_R_V_4_29 := Lib.hid (Ow.ne2 NE_R_V_4_23.out XV_4_30.out.lt hbk)
            have E_4_29 : RowKit.Hid (Ext w21.drew w'') := Lib.hid ho.below
            have hkk : Kept (From_ B0) v4_26 w'' := (Kept.of_ext hw').trans (Kept.of_from hb)
            obtain ⟨AA4_29, cc4_29, rfl, hrr⟩ := ho.rds
            have RR_4_29 := Lib.hid ho
            clear hrr
            obtain ⟨z4_29, gz4_29⟩ : ∃ x, w'' = x := ⟨_, rfl⟩
            rw [gz4_29] at RR_4_29 XV_4_29 E_4_29 hkk ⊢
            have ldt4_31 := fun w'' (h : Kept (From_ B0) z4_29 w'') => ldt4_27 w'' (hkk.trans h)
            have ldt4_32 := fun w'' (h : Kept (From_ B0) z4_29 w'') => ldt4_28 w'' (hkk.trans h)
            clear ldt4_27 ldt4_28
            clear hkk hrun ho hb hg hbk gz4_29 hw'
            try simp only [Act.put, List.setIfInBounds_toArray, List.set_cons_zero, List.set_cons_succ]
            apply wpR_next 7 (some 30)
            · simp only [List.getElem?_toArray, List.getElem?_cons_succ, List.getElem?_cons_zero]; exact rfl
            · rfl
            · kernel_rfl
            · kernel_rfl
            · kernel_rfl
            · exact fun _ _ _ _ h => Exit.noConfusion h.1
            apply Exists.intro
            apply And.intro
            · apply yr_run; rfl; intro w' hw'; go_simp; (try with_reducible rfl)
            simp only [Act.put, List.setIfInBounds_toArray, List.set_cons_zero, List.set_cons_succ]
            refine wpR_one 9 (by kernel_rfl) ?_
            apply at_store 9
            · simp only [List.getElem?_toArray, List.getElem?_cons_succ, List.getElem?_cons_zero]; exact rfl
            · rfl
            · rfl
            intro w' hw'
            have RR_4_34 := Lib.hid (Ow.up RR_4_29.out (hw'))
            have XV_4_34 := Lib.hid (Whole.below XV_4_29.out (hw'))
            have E_4_34 := Lib.hid (Ext.trans E_4_29.out (hw'))
            have hcc := XV_4_34.out.cell (i := 0) rfl
            have hff := XV_4_34.out.free 0
            apply Exists.intro
            apply And.intro
            · go_simp; exact rfl
            apply And.intro
            · exact (Kept.refl _ _).setCell (.inl (show B0 ≤ g4_23 by have h1 := LOv4_23.out; have h2 := HB0.out; omega)) _
            clear hcc hff
            try simp only [Act.put, List.setIfInBounds_toArray, List.set_cons_zero, List.set_cons_succ]
            refine wpR_done (by kernel_rfl) ?_ _
            intro wE hwE
            obtain ⟨A6, c6, hv6, hr6⟩ := Ow.rds_far (i := 0) RR_4_34.out NE_R_V_4_29.out (_)
            obtain ⟨rfl, -, rfl⟩ : _ = A6 ∧ _ = _ ∧ _ = c6 := by injection hv6 with a1 a2 a3; exact ⟨a1, a2, a3⟩
            have hn6 : 0 + La.length + Lb.length = nJ := by have := HnJ.out; omega
            have hx6 := (XV_4_34.out.set_ 0 _).below hwE
            have hy6 := hr6.bl hwE
            rw [hn6, List.nil_append, ← rowsV_app, HJ.out] at hy6
            first | rw [hn6] at hx6 | rw [HnJ.out] at hx6
            refine ⟨rfl, _, _, g4_23, _, _, _, _, _, _, _, _, rfl, Lib.hid ⟨?_, ?_, hx6, hy6⟩⟩
            · exact Ext.trans ((Below.refl _ _).drew) (Ext.trans (E_4_34.out.setCell LOv4_23.out _) hwE)
            · exact Nat.le_trans Bel_23.out.size LOv4_23.out
        · apply at_run 8 (some 6)
          · simp only [List.getElem?_toArray, List.getElem?_cons_succ, List.getElem?_cons_zero]; exact rfl
          · rfl
          · rfl
          intro w' hw'
          have RR_5_36 := Lib.hid (Ow.up RR_n1_1.out (hw'))
          have E_5_36 := Lib.hid (Ext.trans E_1_3.out (hw'))
          refine ⟨.pointer (some ⟨w'.heap.size, 0, none⟩), w'.alloc (.cells #[.slice none 0 0] 32), ?_, Kept.of_below (below1 _ _), ?_⟩
          · go_simp
          have NE_R_V_5_35 : RowKit.Hid (some w'.heap.size ≠ _) := Lib.hid (Ow.ne_ RR_5_36.out (Nat.le_refl _))
          have LOv5_35 : RowKit.Hid (w21.drew.heap.size ≤ w'.heap.size) := Lib.hid E_5_36.out.size
          have RR_5_37 := Lib.hid (Ow.up RR_5_36.out (below1 w' (.cells #[.slice none 0 0] 32)))
          have E_5_37 := Lib.hid (Ext.trans E_5_36.out (below1 w' (.cells #[.slice none 0 0] 32)))
          have XV_n5_35 : RowKit.Hid (Whole (w'.alloc (.cells #[.slice none 0 0] 32)) w'.heap.size 32 [.slice none 0 0]) := Lib.hid (Whole.new_ _ _ [.slice none 0 0])
          have hkk : Kept (From_ B0) v1_4 (w'.alloc (.cells #[.slice none 0 0] 32)) := (Kept.of_ext hw').trans (Kept.of_below (below1 _ _))
          obtain ⟨v5_38, gv5_38⟩ : ∃ x, w'.alloc (.cells #[.slice none 0 0] 32) = x := ⟨_, rfl⟩
          rw [gv5_38] at RR_5_37 XV_n5_35 E_5_37 hkk ⊢
          have ldt5_39 := fun w'' (h : Kept (From_ B0) v5_38 w'') => ldt1_5 w'' (hkk.trans h)
          have ldt5_40 := fun w'' (h : Kept (From_ B0) v5_38 w'') => ldt1_6 w'' (hkk.trans h)
          clear ldt1_5 ldt1_6
          clear gv5_38 hkk
          obtain ⟨g5_35, gg5_35⟩ : ∃ x, w'.heap.size = x := ⟨_, rfl⟩
          rw [gg5_35] at XV_n5_35 LOv5_35 NE_R_V_5_35 ⊢
          clear gg5_35 hw'
          try simp only [Act.put, List.setIfInBounds_toArray, List.set_cons_zero, List.set_cons_succ]
          refine wpR_one 3 (by kernel_rfl) ?_
          apply at_run 3 (some 26)
          · simp only [List.getElem?_toArray, List.getElem?_cons_succ, List.getElem?_cons_zero]; exact rfl
          · rfl
          · rfl
          intro w' hw'
          have RR_5_42 := Lib.hid (Ow.up RR_5_37.out (hw'))
          have XV_5_42 := Lib.hid (Whole.below XV_n5_35.out (hw'))
          have E_5_42 := Lib.hid (Ext.trans E_5_37.out (hw'))
          obtain ⟨vv, w'', hrun, ho, hb, hg, hbk⟩ := Ow.app2 (P := Try.prog) 30 30 29 i0 _ 20 168 _ Try.underlying30 hi hz0 hz1 hz2 rfl (by decide) _ _ _ RR_5_42.out _ _ _ _ _ ((SA_23.out.bl E_5_42.out)) (rowsOp_one _) (by have := HLa.out; unfold maxLen; omega) (by have := HLa.out; omega)
          refine ⟨vv, w'', exec_append (by rfl) (by rfl) (by rfl) hrun, Kept.of_from hb, ?_⟩
          have XV_5_41 := Lib.hid (Whole.grown XV_5_42.out hg NE_R_V_5_35.out)
          have NE_R_V_5_41 := Lib.hid (Ow.ne2 NE_R_V_5_35.out XV_5_42.out.lt hbk)
          have E_5_41 : RowKit.Hid (Ext w21.drew w'') := Lib.hid ho.below
          have hkk : Kept (From_ B0) v5_38 w'' := (Kept.of_ext hw').trans (Kept.of_from hb)
          obtain ⟨AA5_41, cc5_41, rfl, hrr⟩ := ho.rds
          have RR_5_41 := Lib.hid ho
          clear hrr
          obtain ⟨z5_41, gz5_41⟩ : ∃ x, w'' = x := ⟨_, rfl⟩
          rw [gz5_41] at RR_5_41 XV_5_41 E_5_41 hkk ⊢
          have ldt5_43 := fun w'' (h : Kept (From_ B0) z5_41 w'') => ldt5_39 w'' (hkk.trans h)
          have ldt5_44 := fun w'' (h : Kept (From_ B0) z5_41 w'') => ldt5_40 w'' (hkk.trans h)
          clear ldt5_39 ldt5_40
          clear hkk hrun ho hb hg hbk gz5_41 hw'
          try simp only [Act.put, List.setIfInBounds_toArray, List.set_cons_zero, List.set_cons_succ]
          refine wpR_one 6 (by kernel_rfl) ?_
          apply at_run 6 (some 29)
          · simp only [List.getElem?_toArray, List.getElem?_cons_succ, List.getElem?_cons_zero]; exact rfl
          · rfl
          · rfl
          intro w' hw'
          have RR_5_46 := Lib.hid (Ow.up RR_5_41.out (hw'))
          have XV_5_46 := Lib.hid (Whole.below XV_5_41.out (hw'))
          have E_5_46 := Lib.hid (Ext.trans E_5_41.out (hw'))
          obtain ⟨vv, w'', hrun, ho, hb, hg, hbk⟩ := Ow.app2 (P := Try.prog) 30 30 29 i0 _ 20 168 _ Try.underlying30 hi hz0 hz1 hz2 rfl (by decide) _ _ _ RR_5_46.out _ _ _ _ _ ((SB_23.out.bl E_5_46.out)) (rowsOp_one _) (by have := HLa.out; have := HLb.out; unfold maxLen; omega) (by have := HLa.out; have := HLb.out; omega)
          refine ⟨vv, w'', exec_append (by rfl) (by rfl) (by rfl) hrun, Kept.of_from hb, ?_⟩
          have XV_5_45 := Lib.hid (Whole.grown XV_5_46.out hg NE_R_V_5_41.out)
          have NE_R_V_5_45 := Lib.hid (Ow.ne2 NE_R_V_5_41.out XV_5_46.out.lt hbk)
          have E_5_45 : RowKit.Hid (Ext w21.drew w'') := Lib.hid ho.below
          have hkk : Kept (From_ B0) z5_41 w'' := (Kept.of_ext hw').trans (Kept.of_from hb)
          obtain ⟨AA5_45, cc5_45, rfl, hrr⟩ := ho.rds
          have RR_5_45 := Lib.hid ho
          clear hrr
          obtain ⟨z5_45, gz5_45⟩ : ∃ x, w'' = x := ⟨_, rfl⟩
          rw [gz5_45] at RR_5_45 XV_5_45 E_5_45 hkk ⊢
          have ldt5_47 := fun w'' (h : Kept (From_ B0) z5_45 w'') => ldt5_43 w'' (hkk.trans h)
          have ldt5_48 := fun w'' (h : Kept (From_ B0) z5_45 w'') => ldt5_44 w'' (hkk.trans h)
          clear ldt5_43 ldt5_44
          clear hkk hrun ho hb hg hbk gz5_45 hw'
          try simp only [Act.put, List.setIfInBounds_toArray, List.set_cons_zero, List.set_cons_succ]
          apply wpR_next 7 (some 30)
          · simp only [List.getElem?_toArray, List.getElem?_cons_succ, List.getElem?_cons_zero]; exact rfl
          · rfl
          · kernel_rfl
          · kernel_rfl
          · kernel_rfl
          · exact fun _ _ _ _ h => Exit.noConfusion h.1
          apply Exists.intro
          apply And.intro
          · apply yr_run; rfl; intro w' hw'; go_simp; (try with_reducible rfl)
          simp only [Act.put, List.setIfInBounds_toArray, List.set_cons_zero, List.set_cons_succ]
          refine wpR_one 9 (by kernel_rfl) ?_
          apply at_store 9
          · simp only [List.getElem?_toArray, List.getElem?_cons_succ, List.getElem?_cons_zero]; exact rfl
          · rfl
          · rfl
          intro w' hw'
          have RR_5_50 := Lib.hid (Ow.up RR_5_45.out (hw'))
          have XV_5_50 := Lib.hid (Whole.below XV_5_45.out (hw'))
          have E_5_50 := Lib.hid (Ext.trans E_5_45.out (hw'))
          have hcc := XV_5_50.out.cell (i := 0) rfl
          have hff := XV_5_50.out.free 0
          apply Exists.intro
          apply And.intro
          · go_simp; exact rfl
          apply And.intro
          · exact (Kept.refl _ _).setCell (.inl (show B0 ≤ g5_35 by have h1 := LOv5_35.out; have h2 := HB0.out; omega)) _
          clear hcc hff
          try simp only [Act.put, List.setIfInBounds_toArray, List.set_cons_zero, List.set_cons_succ]
          refine wpR_done (by kernel_rfl) ?_ _
          intro wE hwE
          obtain ⟨A6, c6, hv6, hr6⟩ := Ow.rds_far (i := 0) RR_5_50.out NE_R_V_5_45.out (_)
          obtain ⟨rfl, -, rfl⟩ : _ = A6 ∧ _ = _ ∧ _ = c6 := by injection hv6 with a1 a2 a3; exact ⟨a1, a2, a3⟩
          have hn6 : 0 + La.length + Lb.length = nJ := by have := HnJ.out; omega
          have hx6 := (XV_5_50.out.set_ 0 _).below hwE
          have hy6 := hr6.bl hwE
          rw [hn6, List.nil_append, ← rowsV_app, HJ.out] at hy6
          first | rw [hn6] at hx6 | rw [HnJ.out] at hx6
          refine ⟨rfl, _, _, g5_35, _, _, _, _, _, _, _, _, rfl, Lib.hid ⟨?_, ?_, hx6, hy6⟩⟩
          · exact Ext.trans ((Below.refl _ _).drew) (Ext.trans (E_5_50.out.setCell LOv5_35.out _) hwE)
          · exact Nat.le_trans Bel_23.out.size LOv5_35.out
      · apply at_run 8 (some 6)
        · simp only [List.getElem?_toArray, List.getElem?_cons_succ, List.getElem?_cons_zero]; exact rfl
        · rfl
        · rfl
        intro w' hw'
        have E_6_52 := Lib.hid (Ext.trans EX0.out (hw'))
        refine ⟨.pointer (some ⟨w'.heap.size, 0, none⟩), w'.alloc (.cells #[.slice none 0 0] 32), ?_, Kept.of_below (below1 _ _), ?_⟩
        · go_simp
        have LOv6_51 : RowKit.Hid (w21.drew.heap.size ≤ w'.heap.size) := Lib.hid E_6_52.out.size
        have E_6_53 := Lib.hid (Ext.trans E_6_52.out (below1 w' (.cells #[.slice none 0 0] 32)))
        have XV_n6_51 : RowKit.Hid (Whole (w'.alloc (.cells #[.slice none 0 0] 32)) w'.heap.size 32 [.slice none 0 0]) := Lib.hid (Whole.new_ _ _ [.slice none 0 0])
        have hkk : Kept (From_ B0) w21.drew (w'.alloc (.cells #[.slice none 0 0] 32)) := (Kept.of_ext hw').trans (Kept.of_below (below1 _ _))
        obtain ⟨v6_54, gv6_54⟩ : ∃ x, w'.alloc (.cells #[.slice none 0 0] 32) = x := ⟨_, rfl⟩
        rw [gv6_54] at XV_n6_51 E_6_53 hkk ⊢
        have ldt6_55 := fun w'' (h : Kept (From_ B0) v6_54 w'') => ldt0 w'' (hkk.trans h)
        have ldt6_56 := fun w'' (h : Kept (From_ B0) v6_54 w'') => ldt1 w'' (hkk.trans h)
        clear ldt0 ldt1
        clear gv6_54 hkk
        obtain ⟨g6_51, gg6_51⟩ : ∃ x, w'.heap.size = x := ⟨_, rfl⟩
        rw [gg6_51] at XV_n6_51 LOv6_51  ⊢
        clear gg6_51 hw'
        try simp only [Act.put, List.setIfInBounds_toArray, List.set_cons_zero, List.set_cons_succ]
        refine wpR_one 0 (by kernel_rfl) ?_
        apply at_run 0 (some 23)
        · simp only [List.getElem?_toArray, List.getElem?_cons_succ, List.getElem?_cons_zero]; exact rfl
        · rfl
        · rfl
        intro w' hw'
        have XV_6_58 := Lib.hid (Whole.below XV_n6_51.out (hw'))
        have E_6_58 := Lib.hid (Ext.trans E_6_53.out (hw'))
        refine ⟨.slice (some ⟨w'.heap.size, 0, none⟩) 0 0, w'.alloc (.cells #[] 29), ?_, Kept.of_below (below1 _ _), ?_⟩
        · go_simp
        have RR_n6_57 : RowKit.Hid (Ow w21.drew B0 29 20 (.slice (some ⟨w'.heap.size, 0, none⟩) 0 0) 0 [] (w'.alloc (.cells #[] 29))) := Lib.hid (Ow.new_ (e := 29) (size := 20) (cs := #[]) E_6_58.out (Nat.le_of_eq HB0.out) (by have h1 := E_6_58.out.size; have h2 := HB0.out; omega) (n := 0) (Nat.zero_le _) rfl)
        have NE_R_V_6_57 : RowKit.Hid (some g6_51 ≠ (Value.slice (some ⟨w'.heap.size, 0, none⟩) 0 0).ownBlock) := Lib.hid (fun e => by have h1 := Option.some.inj e; have h2 := XV_6_58.out.lt; have h3 : g6_51 = w'.heap.size := h1; omega)
        have XV_6_59 := Lib.hid (Whole.below XV_6_58.out (below1 w' (.cells #[] 29)))
        have E_6_59 := Lib.hid (Ext.trans E_6_58.out (below1 w' (.cells #[] 29)))
        have hkk : Kept (From_ B0) v6_54 (w'.alloc (.cells #[] 29)) := (Kept.of_ext hw').trans (Kept.of_below (below1 _ _))
        obtain ⟨v6_60, gv6_60⟩ : ∃ x, w'.alloc (.cells #[] 29) = x := ⟨_, rfl⟩
        rw [gv6_60] at RR_n6_57 XV_6_59 E_6_59 hkk ⊢
        have ldt6_61 := fun w'' (h : Kept (From_ B0) v6_60 w'') => ldt6_55 w'' (hkk.trans h)
        have ldt6_62 := fun w'' (h : Kept (From_ B0) v6_60 w'') => ldt6_56 w'' (hkk.trans h)
        clear ldt6_55 ldt6_56
        clear gv6_60 hkk
        obtain ⟨g6_57, gg6_57⟩ : ∃ x, w'.heap.size = x := ⟨_, rfl⟩
        rw [gg6_57] at RR_n6_57 NE_R_V_6_57 ⊢
        clear gg6_57 hw'
        try simp only [Act.put, List.setIfInBounds_toArray, List.set_cons_zero, List.set_cons_succ]
        refine wpR_one 3 (by kernel_rfl) ?_
        apply at_run 3 (some 26)
        · simp only [List.getElem?_toArray, List.getElem?_cons_succ, List.getElem?_cons_zero]; exact rfl
        · rfl
        · rfl
        intro w' hw'
        have RR_6_64 := Lib.hid (Ow.up RR_n6_57.out (hw'))
        have XV_6_64 := Lib.hid (Whole.below XV_6_59.out (hw'))
        have E_6_64 := Lib.hid (Ext.trans E_6_59.out (hw'))
        obtain ⟨vv, w'', hrun, ho, hb, hg, hbk⟩ := Ow.app2 (P := Try.prog) 30 30 29 i0 _ 20 168 _ Try.underlying30 hi hz0 hz1 hz2 rfl (by decide) _ _ _ RR_6_64.out _ _ _ _ _ ((SA_23.out.bl E_6_64.out)) (rowsOp_one _) (by have := HLa.out; unfold maxLen; omega) (by have := HLa.out; omega)
        refine ⟨vv, w'', exec_append (by rfl) (by rfl) (by rfl) hrun, Kept.of_from hb, ?_⟩
        have XV_6_63 := Lib.hid (Whole.grown XV_6_64.out hg NE_R_V_6_57.out)
        have NE_R_V_6_63 := Lib.hid (Ow.ne2 NE_R_V_6_57.out XV_6_64.out.lt hbk)
        have E_6_63 : RowKit.Hid (Ext w21.drew w'') := Lib.hid ho.below
        have hkk : Kept (From_ B0) v6_60 w'' := (Kept.of_ext hw').trans (Kept.of_from hb)
        obtain ⟨AA6_63, cc6_63, rfl, hrr⟩ := ho.rds
        have RR_6_63 := Lib.hid ho
        clear hrr
        obtain ⟨z6_63, gz6_63⟩ : ∃ x, w'' = x := ⟨_, rfl⟩
        rw [gz6_63] at RR_6_63 XV_6_63 E_6_63 hkk ⊢
        have ldt6_65 := fun w'' (h : Kept (From_ B0) z6_63 w'') => ldt6_61 w'' (hkk.trans h)
        have ldt6_66 := fun w'' (h : Kept (From_ B0) z6_63 w'') => ldt6_62 w'' (hkk.trans h)
        clear ldt6_61 ldt6_62
        clear hkk hrun ho hb hg hbk gz6_63 hw'
        try simp only [Act.put, List.setIfInBounds_toArray, List.set_cons_zero, List.set_cons_succ]
        refine wpR_one 6 (by kernel_rfl) ?_
        apply at_run 6 (some 29)
        · simp only [List.getElem?_toArray, List.getElem?_cons_succ, List.getElem?_cons_zero]; exact rfl
        · rfl
        · rfl
        intro w' hw'
        have RR_6_68 := Lib.hid (Ow.up RR_6_63.out (hw'))
        have XV_6_68 := Lib.hid (Whole.below XV_6_63.out (hw'))
        have E_6_68 := Lib.hid (Ext.trans E_6_63.out (hw'))
        obtain ⟨vv, w'', hrun, ho, hb, hg, hbk⟩ := Ow.app2 (P := Try.prog) 30 30 29 i0 _ 20 168 _ Try.underlying30 hi hz0 hz1 hz2 rfl (by decide) _ _ _ RR_6_68.out _ _ _ _ _ ((SB_23.out.bl E_6_68.out)) (rowsOp_one _) (by have := HLa.out; have := HLb.out; unfold maxLen; omega) (by have := HLa.out; have := HLb.out; omega)
        refine ⟨vv, w'', exec_append (by rfl) (by rfl) (by rfl) hrun, Kept.of_from hb, ?_⟩
        have XV_6_67 := Lib.hid (Whole.grown XV_6_68.out hg NE_R_V_6_63.out)
        have NE_R_V_6_67 := Lib.hid (Ow.ne2 NE_R_V_6_63.out XV_6_68.out.lt hbk)
        have E_6_67 : RowKit.Hid (Ext w21.drew w'') := Lib.hid ho.below
        have hkk : Kept (From_ B0) z6_63 w'' := (Kept.of_ext hw').trans (Kept.of_from hb)
        obtain ⟨AA6_67, cc6_67, rfl, hrr⟩ := ho.rds
        have RR_6_67 := Lib.hid ho
        clear hrr
        obtain ⟨z6_67, gz6_67⟩ : ∃ x, w'' = x := ⟨_, rfl⟩
        rw [gz6_67] at RR_6_67 XV_6_67 E_6_67 hkk ⊢
        have ldt6_69 := fun w'' (h : Kept (From_ B0) z6_67 w'') => ldt6_65 w'' (hkk.trans h)
        have ldt6_70 := fun w'' (h : Kept (From_ B0) z6_67 w'') => ldt6_66 w'' (hkk.trans h)
        clear ldt6_65 ldt6_66
        clear hkk hrun ho hb hg hbk gz6_67 hw'
        try simp only [Act.put, List.setIfInBounds_toArray, List.set_cons_zero, List.set_cons_succ]
        apply wpR_next 7 (some 30)
        · simp only [List.getElem?_toArray, List.getElem?_cons_succ, List.getElem?_cons_zero]; exact rfl
        · rfl
        · kernel_rfl
        · kernel_rfl
        · kernel_rfl
        · exact fun _ _ _ _ h => Exit.noConfusion h.1
        apply Exists.intro
        apply And.intro
        · apply yr_run; rfl; intro w' hw'; go_simp; (try with_reducible rfl)
        simp only [Act.put, List.setIfInBounds_toArray, List.set_cons_zero, List.set_cons_succ]
        refine wpR_one 9 (by kernel_rfl) ?_
        apply at_store 9
        · simp only [List.getElem?_toArray, List.getElem?_cons_succ, List.getElem?_cons_zero]; exact rfl
        · rfl
        · rfl
        intro w' hw'
        have RR_6_72 := Lib.hid (Ow.up RR_6_67.out (hw'))
        have XV_6_72 := Lib.hid (Whole.below XV_6_67.out (hw'))
        have E_6_72 := Lib.hid (Ext.trans E_6_67.out (hw'))
        have hcc := XV_6_72.out.cell (i := 0) rfl
        have hff := XV_6_72.out.free 0
        apply Exists.intro
        apply And.intro
        · go_simp; exact rfl
        apply And.intro
        · exact (Kept.refl _ _).setCell (.inl (show B0 ≤ g6_51 by have h1 := LOv6_51.out; have h2 := HB0.out; omega)) _
        clear hcc hff
        try simp only [Act.put, List.setIfInBounds_toArray, List.set_cons_zero, List.set_cons_succ]
        refine wpR_done (by kernel_rfl) ?_ _
        intro wE hwE
        obtain ⟨A6, c6, hv6, hr6⟩ := Ow.rds_far (i := 0) RR_6_72.out NE_R_V_6_67.out (_)
        obtain ⟨rfl, -, rfl⟩ : _ = A6 ∧ _ = _ ∧ _ = c6 := by injection hv6 with a1 a2 a3; exact ⟨a1, a2, a3⟩
        have hn6 : 0 + La.length + Lb.length = nJ := by have := HnJ.out; omega
        have hx6 := (XV_6_72.out.set_ 0 _).below hwE
        have hy6 := hr6.bl hwE
        rw [hn6, List.nil_append, ← rowsV_app, HJ.out] at hy6
        first | rw [hn6] at hx6 | rw [HnJ.out] at hx6
        refine ⟨rfl, _, _, g6_51, _, _, _, _, _, _, _, _, rfl, Lib.hid ⟨?_, ?_, hx6, hy6⟩⟩
        · exact Ext.trans ((Below.refl _ _).drew) (Ext.trans (E_6_72.out.setCell LOv6_51.out _) hwE)
        · exact Nat.le_trans Bel_23.out.size LOv6_51.out
    · intro a' w' h9
      obtain ⟨A6, c6, g6, u23, u24, u25, u26, u27, u28, u29, u30, rfl, hφ⟩ := h9
      simp only [Act.put, List.setIfInBounds_toArray, List.set_cons_zero, List.set_cons_succ]
      have EA_23 := Lib.hid (EA_22.out.bl hφ.out.1)
      have EB_23 := Lib.hid (EB_22.out.bl hφ.out.1)
      have SA_23 := Lib.hid (SA_22.out.bl hφ.out.1)
      have SB_23 := Lib.hid (SB_22.out.bl hφ.out.1)
      have Bel_23 := Lib.hid (bel_bl Bel_22.out hφ.out.1)
      have E6_23 := Lib.hid hφ.out.2.2.1
      have J_23 := Lib.hid hφ.out.2.2.2
      obtain ⟨y23, gy23⟩ : ∃ x, w' = x := ⟨_, rfl⟩
      rw [gy23] at EA_23 EB_23 SA_23 SB_23 E6_23 J_23 Bel_23 ⊢
      clear hφ gy23
      have HG6 : True := trivial
      clear HG6
      have lw24 : (y23).cell? ⟨g6, 0, none⟩ = some (.slice A6 nJ c6) := E6_23.out.cell (i := 0) rfl
      go_upto_region 10 with fail
      clear lw24
      refine wp_behind2 (fun a a' w' => ∃ (u35 u36 u37 u38 u39 u40 u41 u42 u43 u44 : Value), a' = (((((((((((a.put (some 35) u35).put (some 36) u36).put (some 37) u37).put (some 38) u38).put (some 39) u39).put (some 40) u40).put (some 41) u41).put (some 42) u42).put (some 43) u43).put (some 44) u44).put (some 8) (.bool true)) ∧ RowKit.Hid (Ext y23 w')) ?_ ?_
      · have EA_25 := Lib.hid (EA_23.out.dr)
        have EB_25 := Lib.hid (EB_23.out.dr)
        have SA_25 := Lib.hid (SA_23.out.dr)
        have SB_25 := Lib.hid (SB_23.out.dr)
        have E6_25 := Lib.hid (E6_23.out.dr)
        have J_25 := Lib.hid (J_23.out.dr)
        have Bel_25 := Lib.hid (bel_dr Bel_23.out)
        obtain ⟨i1, hi1, hy0, hy1, hy2⟩ := info_parts_ info_id
        have EX0 : RowKit.Hid (Ext y23.drew y23.drew) := Lib.hid (Ext.refl _)
        obtain ⟨B0, hB0⟩ : ∃ x, y23.drew.heap.size = x := ⟨_, rfl⟩
        have HB0 := Lib.hid hB0
        clear hB0
        have ldt0 : ∀ w', Kept (From_ B0) y23.drew w' → w'.cell? ⟨w.heap.size, 0, none⟩ = some (.slice A La.length c) := fun w' h => h.from_cell (Nat.lt_of_lt_of_eq (EA_25.out.lt) HB0.out) (EA_25.out.cell (i := 0) rfl)
        have ldt1 : ∀ w', Kept (From_ B0) y23.drew w' → w'.cell? ⟨(w.heap.size + 1), 0, none⟩ = some (.slice A' Lb.length c') := fun w' h => h.from_cell (Nat.lt_of_lt_of_eq (EB_25.out.lt) HB0.out) (EB_25.out.cell (i := 0) rfl)
        have ldt2 : ∀ w', Kept (From_ B0) y23.drew w' → w'.cell? ⟨g6, 0, none⟩ = some (.slice A6 nJ c6) := fun w' h => h.from_cell (Nat.lt_of_lt_of_eq (E6_25.out.lt) HB0.out) (E6_25.out.cell (i := 0) rfl)
        refine wp_region_reg (From_ B0) (by kernel_rfl) ?_
        apply wpR_next 0 (some 35)
        · simp only [List.getElem?_toArray, List.getElem?_cons_succ, List.getElem?_cons_zero]; exact rfl
        · rfl
        · kernel_rfl
        · kernel_rfl
        · kernel_rfl
        · exact fun _ _ _ _ h => Exit.noConfusion h.1
        apply Exists.intro
        apply And.intro
        · apply yr_run; rfl; intro w' hw'; go_simp; (try with_reducible rfl)
        simp only [Act.put, List.setIfInBounds_toArray, List.set_cons_zero, List.set_cons_succ]
        apply wpR_next 3 (some 38)
        · simp only [List.getElem?_toArray, List.getElem?_cons_succ, List.getElem?_cons_zero]; exact rfl
        · rfl
        · kernel_rfl
        · kernel_rfl
        · kernel_rfl
        · exact fun _ _ _ _ h => Exit.noConfusion h.1
        apply Exists.intro
        apply And.intro
        · apply yr_run; rfl; intro w' hw'; go_simp; (try with_reducible rfl)
        simp only [Act.put, List.setIfInBounds_toArray, List.set_cons_zero, List.set_cons_succ]
        apply wpR_next 6 (some 41)
        · simp only [List.getElem?_toArray, List.getElem?_cons_succ, List.getElem?_cons_zero]; exact rfl
        · rfl
        · kernel_rfl
        · kernel_rfl
        · kernel_rfl
        · exact fun _ _ _ _ h => Exit.noConfusion h.1
        apply Exists.intro
        apply And.intro
        · apply yr_run; rfl; intro w' hw'; go_simp; (try with_reducible rfl)
        simp only [Act.put, List.setIfInBounds_toArray, List.set_cons_zero, List.set_cons_succ]
        refine wpR_two 1 2 (by kernel_rfl) ?_ ?_
        · apply at_call 1 (some 36)
          · simp only [List.getElem?_toArray, List.getElem?_cons_succ, List.getElem?_cons_zero]; exact rfl
          · rfl
          · rfl
          · intro w'; go_simp; first | done | exact ⟨rfl, rfl⟩ | with_reducible rfl
          intro w' hw'
          have E_1_2 := Lib.hid (Ext.trans EX0.out (hw'))
          refine (HNj.out A6 c6 _ (J_25.out.bl E_1_2.out)).mono ?_
          rintro e w'' ⟨A1, c1, rfl, hr1, hn1, hb⟩
          have E_1_3 := Lib.hid (Ext.trans E_1_2.out (hb))
          have UN1_1_1 := Lib.hid hr1
          clear hr1 hn1
          have hkk : Kept (From_ B0) y23.drew w'' := (Kept.of_ext hw').trans (Kept.of_below hb)
          refine ⟨_, rfl, Kept.of_below hb, ?_⟩
          obtain ⟨z1_1, gz1_1⟩ : ∃ x, w'' = x := ⟨_, rfl⟩
          rw [gz1_1] at UN1_1_1 E_1_3 hkk ⊢
          have ldt1_4 := fun w'' (h : Kept (From_ B0) z1_1 w'') => ldt0 w'' (hkk.trans h)
          have ldt1_5 := fun w'' (h : Kept (From_ B0) z1_1 w'') => ldt1 w'' (hkk.trans h)
          have ldt1_6 := fun w'' (h : Kept (From_ B0) z1_1 w'') => ldt2 w'' (hkk.trans h)
          clear ldt0 ldt1 ldt2
          clear hkk hb gz1_1 hw'
          try simp only [Act.put, List.setIfInBounds_toArray, List.set_cons_zero, List.set_cons_succ]
          refine wpR_two 2 4 (by kernel_rfl) ?_ ?_
          · apply at_run 2 (some 37)
            · simp only [List.getElem?_toArray, List.getElem?_cons_succ, List.getElem?_cons_zero]; exact rfl
            · rfl
            · rfl
            intro w' hw'
            have UN1_2_8 := Lib.hid (RdS.bl UN1_1_1.out (hw'))
            have E_2_8 := Lib.hid (Ext.trans E_1_3.out (hw'))
            refine ⟨.slice (some ⟨w'.heap.size, 0, none⟩) 0 0, w'.alloc (.cells #[] 23), ?_, Kept.of_below (below1 _ _), ?_⟩
            · go_simp
            have RR_n2_7 : RowKit.Hid (Ow y23.drew B0 23 2 (.slice (some ⟨w'.heap.size, 0, none⟩) 0 0) 0 [] (w'.alloc (.cells #[] 23))) := Lib.hid (Ow.new_ (e := 23) (size := 2) (cs := #[]) E_2_8.out (Nat.le_of_eq HB0.out) (by have h1 := E_2_8.out.size; have h2 := HB0.out; omega) (n := 0) (Nat.zero_le _) rfl)
            have NE_R_N1_2_7 : RowKit.Hid (∀ a, A1 = some a → 0 < Mj.length → some a.block ≠ (Value.slice (some ⟨w'.heap.size, 0, none⟩) 0 0).ownBlock) := Lib.hid (fun a ha hn e => by have h1 := Option.some.inj e; have h2 := UN1_2_8.out.low a ha hn; have h3 : a.block = w'.heap.size := h1; omega)
            have UN1_2_9 := Lib.hid (RdS.bl UN1_2_8.out (below1 w' (.cells #[] 23)))
            have E_2_9 := Lib.hid (Ext.trans E_2_8.out (below1 w' (.cells #[] 23)))
            have hkk : Kept (From_ B0) z1_1 (w'.alloc (.cells #[] 23)) := (Kept.of_ext hw').trans (Kept.of_below (below1 _ _))
            obtain ⟨v2_10, gv2_10⟩ : ∃ x, w'.alloc (.cells #[] 23) = x := ⟨_, rfl⟩
            rw [gv2_10] at RR_n2_7 UN1_2_9 E_2_9 hkk ⊢
            have ldt2_11 := fun w'' (h : Kept (From_ B0) v2_10 w'') => ldt1_4 w'' (hkk.trans h)
            have ldt2_12 := fun w'' (h : Kept (From_ B0) v2_10 w'') => ldt1_5 w'' (hkk.trans h)
            have ldt2_13 := fun w'' (h : Kept (From_ B0) v2_10 w'') => ldt1_6 w'' (hkk.trans h)
            clear ldt1_4 ldt1_5 ldt1_6
            clear gv2_10 hkk
            obtain ⟨g2_7, gg2_7⟩ : ∃ x, w'.heap.size = x := ⟨_, rfl⟩
            rw [gg2_7] at RR_n2_7 NE_R_N1_2_7 ⊢
            clear gg2_7 hw'
            try simp only [Act.put, List.setIfInBounds_toArray, List.set_cons_zero, List.set_cons_succ]
            refine wpR_one 4 (by kernel_rfl) ?_
            apply at_call 4 (some 39)
            · simp only [List.getElem?_toArray, List.getElem?_cons_succ, List.getElem?_cons_zero]; exact rfl
            · rfl
            · rfl
            · intro w'; go_simp; first | done | exact ⟨rfl, rfl⟩ | with_reducible rfl
            intro w' hw'
            have RR_2_15 := Lib.hid (Ow.up RR_n2_7.out (hw'))
            have UN1_2_15 := Lib.hid (RdS.bl UN1_2_9.out (hw'))
            have E_2_15 := Lib.hid (Ext.trans E_2_9.out (hw'))
            refine (HNa.out _ (SA_25.out.bl E_2_15.out)).mono ?_
            rintro e w'' ⟨A4, c4, rfl, hr4, hn4, hb⟩
            have NE_R_N4_2_14 : RowKit.Hid (∀ a, A4 = some a → 0 < Ma.length → some a.block ≠ _) := Lib.hid (fun a ha hn e => by have h1 := (RR_2_15.out.own.lt _ e.symm).2; have h2 := hn4 a ha hn; omega)
            have RR_2_16 := Lib.hid (Ow.up RR_2_15.out (hb))
            have UN1_2_16 := Lib.hid (RdS.bl UN1_2_15.out (hb))
            have E_2_16 := Lib.hid (Ext.trans E_2_15.out (hb))
            have UN4_2_14 := Lib.hid hr4
            clear hr4 hn4
            have hkk : Kept (From_ B0) v2_10 w'' := (Kept.of_ext hw').trans (Kept.of_below hb)
            refine ⟨_, rfl, Kept.of_below hb, ?_⟩
            obtain ⟨z2_14, gz2_14⟩ : ∃ x, w'' = x := ⟨_, rfl⟩
            rw [gz2_14] at RR_2_16 UN1_2_16 UN4_2_14 E_2_16 hkk ⊢
            have ldt2_17 := fun w'' (h : Kept (From_ B0) z2_14 w'') => ldt2_11 w'' (hkk.trans h)
            have ldt2_18 := fun w'' (h : Kept (From_ B0) z2_14 w'') => ldt2_12 w'' (hkk.trans h)
            have ldt2_19 := fun w'' (h : Kept (From_ B0) z2_14 w'') => ldt2_13 w'' (hkk.trans h)
            clear ldt2_11 ldt2_12 ldt2_13
            clear hkk hb gz2_14 hw'
            try simp only [Act.put, List.setIfInBounds_toArray, List.set_cons_zero, List.set_cons_succ]
            refine wpR_one 5 (by kernel_rfl) ?_
            apply at_run 5 (some 40)
            · simp only [List.getElem?_toArray, List.getElem?_cons_succ, List.getElem?_cons_zero]; exact rfl
            · rfl
            · rfl
            intro w' hw'
            have RR_2_21 := Lib.hid (Ow.up RR_2_16.out (hw'))
            have UN1_2_21 := Lib.hid (RdS.bl UN1_2_16.out (hw'))
            have UN4_2_21 := Lib.hid (RdS.bl UN4_2_14.out (hw'))
            have E_2_21 := Lib.hid (Ext.trans E_2_16.out (hw'))
            obtain ⟨vv, w'', hrun, ho, hb, hg, hbk⟩ := Ow.app2 (P := Try.prog) 36 36 23 i1 _ 2 16 _ Try.underlying36 hi1 hy0 hy1 hy2 rfl (by decide) _ _ _ RR_2_21.out _ _ _ _ _ (UN4_2_21.out) (rowsId_one _) (by have := HMl.out; unfold maxLen; omega) (by have := HMl.out; omega)
            refine ⟨vv, w'', exec_append (by rfl) (by rfl) (by rfl) hrun, Kept.of_from hb, ?_⟩
            have UN1_2_20 := Lib.hid (RdS.grown UN1_2_21.out hg NE_R_N1_2_7.out)
            have NE_R_N1_2_20 : RowKit.Hid (∀ a, A1 = some a → 0 < Mj.length → some a.block ≠ _) := Lib.hid (fun a ha hn => Ow.ne2 (NE_R_N1_2_7.out a ha hn) (UN1_2_21.out.low a ha hn) hbk)
            have UN4_2_20 := Lib.hid (RdS.grown UN4_2_21.out hg NE_R_N4_2_14.out)
            have NE_R_N4_2_20 : RowKit.Hid (∀ a, A4 = some a → 0 < Ma.length → some a.block ≠ _) := Lib.hid (fun a ha hn => Ow.ne2 (NE_R_N4_2_14.out a ha hn) (UN4_2_21.out.low a ha hn) hbk)
            have E_2_20 : RowKit.Hid (Ext y23.drew w'') := Lib.hid ho.below
            have hkk : Kept (From_ B0) z2_14 w'' := (Kept.of_ext hw').trans (Kept.of_from hb)
            obtain ⟨AA2_20, cc2_20, rfl, hrr⟩ := ho.rds
            have RR_2_20 := Lib.hid ho
            clear hrr
            obtain ⟨z2_20, gz2_20⟩ : ∃ x, w'' = x := ⟨_, rfl⟩
            rw [gz2_20] at RR_2_20 UN1_2_20 UN4_2_20 E_2_20 hkk ⊢
            have ldt2_22 := fun w'' (h : Kept (From_ B0) z2_20 w'') => ldt2_17 w'' (hkk.trans h)
            have ldt2_23 := fun w'' (h : Kept (From_ B0) z2_20 w'') => ldt2_18 w'' (hkk.trans h)
            have ldt2_24 := fun w'' (h : Kept (From_ B0) z2_20 w'') => ldt2_19 w'' (hkk.trans h)
            clear ldt2_17 ldt2_18 ldt2_19
            clear hkk hrun ho hb hg hbk gz2_20 hw'
            try simp only [Act.put, List.setIfInBounds_toArray, List.set_cons_zero, List.set_cons_succ]
            refine wpR_one 7 (by kernel_rfl) ?_
            apply at_call 7 (some 42)
            · simp only [List.getElem?_toArray, List.getElem?_cons_succ, List.getElem?_cons_zero]; exact rfl
            · rfl
            · rfl
            · intro w'; go_simp; first | done | exact ⟨rfl, rfl⟩ | with_reducible rfl
            intro w' hw'
            have RR_2_26 := Lib.hid (Ow.up RR_2_20.out (hw'))
            have UN1_2_26 := Lib.hid (RdS.bl UN1_2_20.out (hw'))
            have UN4_2_26 := Lib.hid (RdS.bl UN4_2_20.out (hw'))
            have E_2_26 := Lib.hid (Ext.trans E_2_20.out (hw'))
            refine (HNb.out _ (SB_25.out.bl E_2_26.out)).mono ?_
            rintro e w'' ⟨A7, c7, rfl, hr7, hn7, hb⟩
            have NE_R_N7_2_25 : RowKit.Hid (∀ a, A7 = some a → 0 < Mb.length → some a.block ≠ _) := Lib.hid (fun a ha hn e => by have h1 := (RR_2_26.out.own.lt _ e.symm).2; have h2 := hn7 a ha hn; omega)
            have RR_2_27 := Lib.hid (Ow.up RR_2_26.out (hb))
            have UN1_2_27 := Lib.hid (RdS.bl UN1_2_26.out (hb))
            have UN4_2_27 := Lib.hid (RdS.bl UN4_2_26.out (hb))
            have E_2_27 := Lib.hid (Ext.trans E_2_26.out (hb))
            have UN7_2_25 := Lib.hid hr7
            clear hr7 hn7
            have hkk : Kept (From_ B0) z2_20 w'' := (Kept.of_ext hw').trans (Kept.of_below hb)
            refine ⟨_, rfl, Kept.of_below hb, ?_⟩
            obtain ⟨z2_25, gz2_25⟩ : ∃ x, w'' = x := ⟨_, rfl⟩
            rw [gz2_25] at RR_2_27 UN1_2_27 UN4_2_27 UN7_2_25 E_2_27 hkk ⊢
            have ldt2_28 := fun w'' (h : Kept (From_ B0) z2_25 w'') => ldt2_22 w'' (hkk.trans h)
            have ldt2_29 := fun w'' (h : Kept (From_ B0) z2_25 w'') => ldt2_23 w'' (hkk.trans h)
            have ldt2_30 := fun w'' (h : Kept (From_ B0) z2_25 w'') => ldt2_24 w'' (hkk.trans h)
            clear ldt2_22 ldt2_23 ldt2_24
            clear hkk hb gz2_25 hw'
            try simp only [Act.put, List.setIfInBounds_toArray, List.set_cons_zero, List.set_cons_succ]
            refine wpR_one 8 (by kernel_rfl) ?_
            apply at_run 8 (some 43)
            · simp only [List.getElem?_toArray, List.getElem?_cons_succ, List.getElem?_cons_zero]; exact rfl
            · rfl
            · rfl
            intro w' hw'
            have RR_2_32 := Lib.hid (Ow.up RR_2_27.out (hw'))
            have UN1_2_32 := Lib.hid (RdS.bl UN1_2_27.out (hw'))
            have UN4_2_32 := Lib.hid (RdS.bl UN4_2_27.out (hw'))
            have UN7_2_32 := Lib.hid (RdS.bl UN7_2_25.out (hw'))
            have E_2_32 := Lib.hid (Ext.trans E_2_27.out (hw'))
            obtain ⟨vv, w'', hrun, ho, hb, hg, hbk⟩ := Ow.app2 (P := Try.prog) 36 36 23 i1 _ 2 16 _ Try.underlying36 hi1 hy0 hy1 hy2 rfl (by decide) _ _ _ RR_2_32.out _ _ _ _ _ (UN7_2_32.out) (rowsId_one _) (by have := HMl.out; unfold maxLen; omega) (by have := HMl.out; omega)
            refine ⟨vv, w'', exec_append (by rfl) (by rfl) (by rfl) hrun, Kept.of_from hb, ?_⟩
            have UN1_2_31 := Lib.hid (RdS.grown UN1_2_32.out hg NE_R_N1_2_20.out)
            have NE_R_N1_2_31 : RowKit.Hid (∀ a, A1 = some a → 0 < Mj.length → some a.block ≠ _) := Lib.hid (fun a ha hn => Ow.ne2 (NE_R_N1_2_20.out a ha hn) (UN1_2_32.out.low a ha hn) hbk)
            have UN4_2_31 := Lib.hid (RdS.grown UN4_2_32.out hg NE_R_N4_2_20.out)
            have NE_R_N4_2_31 : RowKit.Hid (∀ a, A4 = some a → 0 < Ma.length → some a.block ≠ _) := Lib.hid (fun a ha hn => Ow.ne2 (NE_R_N4_2_20.out a ha hn) (UN4_2_32.out.low a ha hn) hbk)
            have UN7_2_31 := Lib.hid (RdS.grown UN7_2_32.out hg NE_R_N7_2_25.out)
            have NE_R_N7_2_31 : RowKit.Hid (∀ a, A7 = some a → 0 < Mb.length → some a.block ≠ _) := Lib.hid (fun a ha hn => Ow.ne2 (NE_R_N7_2_25.out a ha hn) (UN7_2_32.out.low a ha hn) hbk)
            have E_2_31 : RowKit.Hid (Ext y23.drew w'') := Lib.hid ho.below
            have hkk : Kept (From_ B0) z2_25 w'' := (Kept.of_ext hw').trans (Kept.of_from hb)
            obtain ⟨AA2_31, cc2_31, rfl, hrr⟩ := ho.rds
            have RR_2_31 := Lib.hid ho
            have URo_2_31 := Lib.hid hrr
            clear hrr
            obtain ⟨z2_31, gz2_31⟩ : ∃ x, w'' = x := ⟨_, rfl⟩
            rw [gz2_31] at RR_2_31 UN1_2_31 UN4_2_31 UN7_2_31 URo_2_31 E_2_31 hkk ⊢
            have ldt2_33 := fun w'' (h : Kept (From_ B0) z2_31 w'') => ldt2_28 w'' (hkk.trans h)
            have ldt2_34 := fun w'' (h : Kept (From_ B0) z2_31 w'') => ldt2_29 w'' (hkk.trans h)
            have ldt2_35 := fun w'' (h : Kept (From_ B0) z2_31 w'') => ldt2_30 w'' (hkk.trans h)
            clear ldt2_28 ldt2_29 ldt2_30
            clear hkk hrun ho hb hg hbk gz2_31 hw'
            try simp only [Act.put, List.setIfInBounds_toArray, List.set_cons_zero, List.set_cons_succ]
            refine wpR_one 9 (by kernel_rfl) ?_
            apply at_call 9 (some 44)
            · simp only [List.getElem?_toArray, List.getElem?_cons_succ, List.getElem?_cons_zero]; exact rfl
            · rfl
            · rfl
            · intro w'; go_simp; first | done | exact ⟨rfl, rfl⟩ | with_reducible rfl
            intro w' hw'
            have RR_2_37 := Lib.hid (Ow.up RR_2_31.out (hw'))
            have UN1_2_37 := Lib.hid (RdS.bl UN1_2_31.out (hw'))
            have UN4_2_37 := Lib.hid (RdS.bl UN4_2_31.out (hw'))
            have UN7_2_37 := Lib.hid (RdS.bl UN7_2_31.out (hw'))
            have URo_2_37 := Lib.hid (RdS.bl URo_2_31.out (hw'))
            have E_2_37 := Lib.hid (Ext.trans E_2_31.out (hw'))
            refine (ids_self _ _ _ _ _ _ Mj _ UN1_2_37.out (by have h := URo_2_37.out; rwa [List.nil_append, ← rowsV_app, ← HNJ.out, Nat.zero_add] at h) (by have := HMl.out; have := congrArg List.length HNJ.out; rw [List.length_append] at this; unfold maxLen; omega)).mono ?_
            rintro e w'' ⟨rfl, hb⟩
            have RR_2_38 := Lib.hid (Ow.up RR_2_37.out (hb))
            have UN1_2_38 := Lib.hid (RdS.bl UN1_2_37.out (hb))
            have UN4_2_38 := Lib.hid (RdS.bl UN4_2_37.out (hb))
            have UN7_2_38 := Lib.hid (RdS.bl UN7_2_37.out (hb))
            have URo_2_38 := Lib.hid (RdS.bl URo_2_37.out (hb))
            have E_2_38 := Lib.hid (Ext.trans E_2_37.out (hb))
            have hkk : Kept (From_ B0) z2_31 w'' := (Kept.of_ext hw').trans (Kept.of_below hb)
            refine ⟨_, rfl, Kept.of_below hb, ?_⟩
            obtain ⟨z2_36, gz2_36⟩ : ∃ x, w'' = x := ⟨_, rfl⟩
            rw [gz2_36] at RR_2_38 UN1_2_38 UN4_2_38 UN7_2_38 URo_2_38 E_2_38 hkk ⊢
            have ldt2_39 := fun w'' (h : Kept (From_ B0) z2_36 w'') => ldt2_33 w'' (hkk.trans h)
            have ldt2_40 := fun w'' (h : Kept (From_ B0) z2_36 w'') => ldt2_34 w'' (hkk.trans h)
            have ldt2_41 := fun w'' (h : Kept (From_ B0) z2_36 w'') => ldt2_35 w'' (hkk.trans h)
            clear ldt2_33 ldt2_34 ldt2_35
            clear hkk hb gz2_36 hw'
            try simp only [Act.put, List.setIfInBounds_toArray, List.set_cons_zero, List.set_cons_succ]
            apply wpR_next 10 (some 8)
            · simp only [List.getElem?_toArray, List.getElem?_cons_succ, List.getElem?_cons_zero]; exact rfl
            · rfl
            · kernel_rfl
            · kernel_rfl
            · kernel_rfl
            · exact fun _ _ _ _ h => Exit.noConfusion h.1
            apply Exists.intro
            apply And.intro
            · apply yr_run; rfl; intro w' hw'; go_simp; (try with_reducible rfl)
            simp only [Act.put, List.setIfInBounds_toArray, List.set_cons_zero, List.set_cons_succ]
            refine wpR_done (by kernel_rfl) ?_ _
            intro wE hwE
            exact ⟨rfl, _, _, _, _, _, _, _, _, _, _, rfl, Lib.hid (Ext.trans ((Below.refl _ _).drew) (Ext.trans E_2_38.out hwE))⟩
          · apply at_call 4 (some 39)
            · simp only [List.getElem?_toArray, List.getElem?_cons_succ, List.getElem?_cons_zero]; exact rfl
            · rfl
            · rfl
            · intro w'; go_simp; first | done | exact ⟨rfl, rfl⟩ | with_reducible rfl
            intro w' hw'
            have UN1_3_43 := Lib.hid (RdS.bl UN1_1_1.out (hw'))
            have E_3_43 := Lib.hid (Ext.trans E_1_3.out (hw'))
            refine (HNa.out _ (SA_25.out.bl E_3_43.out)).mono ?_
            rintro e w'' ⟨A4, c4, rfl, hr4, hn4, hb⟩
            have UN1_3_44 := Lib.hid (RdS.bl UN1_3_43.out (hb))
            have E_3_44 := Lib.hid (Ext.trans E_3_43.out (hb))
            have UN4_3_42 := Lib.hid hr4
            clear hr4 hn4
            have hkk : Kept (From_ B0) z1_1 w'' := (Kept.of_ext hw').trans (Kept.of_below hb)
            refine ⟨_, rfl, Kept.of_below hb, ?_⟩
            obtain ⟨z3_42, gz3_42⟩ : ∃ x, w'' = x := ⟨_, rfl⟩
            rw [gz3_42] at UN1_3_44 UN4_3_42 E_3_44 hkk ⊢
            have ldt3_45 := fun w'' (h : Kept (From_ B0) z3_42 w'') => ldt1_4 w'' (hkk.trans h)
            have ldt3_46 := fun w'' (h : Kept (From_ B0) z3_42 w'') => ldt1_5 w'' (hkk.trans h)
            have ldt3_47 := fun w'' (h : Kept (From_ B0) z3_42 w'') => ldt1_6 w'' (hkk.trans h)
            clear ldt1_4 ldt1_5 ldt1_6
            clear hkk hb gz3_42 hw'
            try simp only [Act.put, List.setIfInBounds_toArray, List.set_cons_zero, List.set_cons_succ]
            refine wpR_one 2 (by kernel_rfl) ?_
            apply at_run 2 (some 37)
            · simp only [List.getElem?_toArray, List.getElem?_cons_succ, List.getElem?_cons_zero]; exact rfl
            · rfl
            · rfl
            intro w' hw'
            have UN1_3_49 := Lib.hid (RdS.bl UN1_3_44.out (hw'))
            have UN4_3_49 := Lib.hid (RdS.bl UN4_3_42.out (hw'))
            have E_3_49 := Lib.hid (Ext.trans E_3_44.out (hw'))
            refine ⟨.slice (some ⟨w'.heap.size, 0, none⟩) 0 0, w'.alloc (.cells #[] 23), ?_, Kept.of_below (below1 _ _), ?_⟩
            · go_simp
            have RR_n3_48 : RowKit.Hid (Ow y23.drew B0 23 2 (.slice (some ⟨w'.heap.size, 0, none⟩) 0 0) 0 [] (w'.alloc (.cells #[] 23))) := Lib.hid (Ow.new_ (e := 23) (size := 2) (cs := #[]) E_3_49.out (Nat.le_of_eq HB0.out) (by have h1 := E_3_49.out.size; have h2 := HB0.out; omega) (n := 0) (Nat.zero_le _) rfl)
            have NE_R_N1_3_48 : RowKit.Hid (∀ a, A1 = some a → 0 < Mj.length → some a.block ≠ (Value.slice (some ⟨w'.heap.size, 0, none⟩) 0 0).ownBlock) := Lib.hid (fun a ha hn e => by have h1 := Option.some.inj e; have h2 := UN1_3_49.out.low a ha hn; have h3 : a.block = w'.heap.size := h1; omega)
            have NE_R_N4_3_48 : RowKit.Hid (∀ a, A4 = some a → 0 < Ma.length → some a.block ≠ (Value.slice (some ⟨w'.heap.size, 0, none⟩) 0 0).ownBlock) := Lib.hid (fun a ha hn e => by have h1 := Option.some.inj e; have h2 := UN4_3_49.out.low a ha hn; have h3 : a.block = w'.heap.size := h1; omega)
            have UN1_3_50 := Lib.hid (RdS.bl UN1_3_49.out (below1 w' (.cells #[] 23)))
            have UN4_3_50 := Lib.hid (RdS.bl UN4_3_49.out (below1 w' (.cells #[] 23)))
            have E_3_50 := Lib.hid (Ext.trans E_3_49.out (below1 w' (.cells #[] 23)))
            have hkk : Kept (From_ B0) z3_42 (w'.alloc (.cells #[] 23)) := (Kept.of_ext hw').trans (Kept.of_below (below1 _ _))
            obtain ⟨v3_51, gv3_51⟩ : ∃ x, w'.alloc (.cells #[] 23) = x := ⟨_, rfl⟩
            rw [gv3_51] at RR_n3_48 UN1_3_50 UN4_3_50 E_3_50 hkk ⊢
            have ldt3_52 := fun w'' (h : Kept (From_ B0) v3_51 w'') => ldt3_45 w'' (hkk.trans h)
            have ldt3_53 := fun w'' (h : Kept (From_ B0) v3_51 w'') => ldt3_46 w'' (hkk.trans h)
            have ldt3_54 := fun w'' (h : Kept (From_ B0) v3_51 w'') => ldt3_47 w'' (hkk.trans h)
            clear ldt3_45 ldt3_46 ldt3_47
            clear gv3_51 hkk
            obtain ⟨g3_48, gg3_48⟩ : ∃ x, w'.heap.size = x := ⟨_, rfl⟩
            rw [gg3_48] at RR_n3_48 NE_R_N1_3_48 NE_R_N4_3_48 ⊢
            clear gg3_48 hw'
            try simp only [Act.put, List.setIfInBounds_toArray, List.set_cons_zero, List.set_cons_succ]
            refine wpR_one 5 (by kernel_rfl) ?_
            apply at_run 5 (some 40)
            · simp only [List.getElem?_toArray, List.getElem?_cons_succ, List.getElem?_cons_zero]; exact rfl
            · rfl
            · rfl
            intro w' hw'
            have RR_3_56 := Lib.hid (Ow.up RR_n3_48.out (hw'))
            have UN1_3_56 := Lib.hid (RdS.bl UN1_3_50.out (hw'))
            have UN4_3_56 := Lib.hid (RdS.bl UN4_3_50.out (hw'))
            have E_3_56 := Lib.hid (Ext.trans E_3_50.out (hw'))
            obtain ⟨vv, w'', hrun, ho, hb, hg, hbk⟩ := Ow.app2 (P := Try.prog) 36 36 23 i1 _ 2 16 _ Try.underlying36 hi1 hy0 hy1 hy2 rfl (by decide) _ _ _ RR_3_56.out _ _ _ _ _ (UN4_3_56.out) (rowsId_one _) (by have := HMl.out; unfold maxLen; omega) (by have := HMl.out; omega)
            refine ⟨vv, w'', exec_append (by rfl) (by rfl) (by rfl) hrun, Kept.of_from hb, ?_⟩
            have UN1_3_55 := Lib.hid (RdS.grown UN1_3_56.out hg NE_R_N1_3_48.out)
            have NE_R_N1_3_55 : RowKit.Hid (∀ a, A1 = some a → 0 < Mj.length → some a.block ≠ _) := Lib.hid (fun a ha hn => Ow.ne2 (NE_R_N1_3_48.out a ha hn) (UN1_3_56.out.low a ha hn) hbk)
            have UN4_3_55 := Lib.hid (RdS.grown UN4_3_56.out hg NE_R_N4_3_48.out)
            have NE_R_N4_3_55 : RowKit.Hid (∀ a, A4 = some a → 0 < Ma.length → some a.block ≠ _) := Lib.hid (fun a ha hn => Ow.ne2 (NE_R_N4_3_48.out a ha hn) (UN4_3_56.out.low a ha hn) hbk)
            have E_3_55 : RowKit.Hid (Ext y23.drew w'') := Lib.hid ho.below
            have hkk : Kept (From_ B0) v3_51 w'' := (Kept.of_ext hw').trans (Kept.of_from hb)
            obtain ⟨AA3_55, cc3_55, rfl, hrr⟩ := ho.rds
            have RR_3_55 := Lib.hid ho
            clear hrr
            obtain ⟨z3_55, gz3_55⟩ : ∃ x, w'' = x := ⟨_, rfl⟩
            rw [gz3_55] at RR_3_55 UN1_3_55 UN4_3_55 E_3_55 hkk ⊢
            have ldt3_57 := fun w'' (h : Kept (From_ B0) z3_55 w'') => ldt3_52 w'' (hkk.trans h)
            have ldt3_58 := fun w'' (h : Kept (From_ B0) z3_55 w'') => ldt3_53 w'' (hkk.trans h)
            have ldt3_59 := fun w'' (h : Kept (From_ B0) z3_55 w'') => ldt3_54 w'' (hkk.trans h)
            clear ldt3_52 ldt3_53 ldt3_54
            clear hkk hrun ho hb hg hbk gz3_55 hw'
            try simp only [Act.put, List.setIfInBounds_toArray, List.set_cons_zero, List.set_cons_succ]
            refine wpR_one 7 (by kernel_rfl) ?_
            apply at_call 7 (some 42)
            · simp only [List.getElem?_toArray, List.getElem?_cons_succ, List.getElem?_cons_zero]; exact rfl
            · rfl
            · rfl
            · intro w'; go_simp; first | done | exact ⟨rfl, rfl⟩ | with_reducible rfl
            intro w' hw'
            have RR_3_61 := Lib.hid (Ow.up RR_3_55.out (hw'))
            have UN1_3_61 := Lib.hid (RdS.bl UN1_3_55.out (hw'))
            have UN4_3_61 := Lib.hid (RdS.bl UN4_3_55.out (hw'))
            have E_3_61 := Lib.hid (Ext.trans E_3_55.out (hw'))
            refine (HNb.out _ (SB_25.out.bl E_3_61.out)).mono ?_
            rintro e w'' ⟨A7, c7, rfl, hr7, hn7, hb⟩
            have NE_R_N7_3_60 : RowKit.Hid (∀ a, A7 = some a → 0 < Mb.length → some a.block ≠ _) := Lib.hid (fun a ha hn e => by have h1 := (RR_3_61.out.own.lt _ e.symm).2; have h2 := hn7 a ha hn; omega)
            have RR_3_62 := Lib.hid (Ow.up RR_3_61.out (hb))
            have UN1_3_62 := Lib.hid (RdS.bl UN1_3_61.out (hb))
            have UN4_3_62 := Lib.hid (RdS.bl UN4_3_61.out (hb))
            have E_3_62 := Lib.hid (Ext.trans E_3_61.out (hb))
            have UN7_3_60 := Lib.hid hr7
            clear hr7 hn7
            have hkk : Kept (From_ B0) z3_55 w'' := (Kept.of_ext hw').trans (Kept.of_below hb)
            refine ⟨_, rfl, Kept.of_below hb, ?_⟩
            obtain ⟨z3_60, gz3_60⟩ : ∃ x, w'' = x := ⟨_, rfl⟩
            rw [gz3_60] at RR_3_62 UN1_3_62 UN4_3_62 UN7_3_60 E_3_62 hkk ⊢
            have ldt3_63 := fun w'' (h : Kept (From_ B0) z3_60 w'') => ldt3_57 w'' (hkk.trans h)
            have ldt3_64 := fun w'' (h : Kept (From_ B0) z3_60 w'') => ldt3_58 w'' (hkk.trans h)
            have ldt3_65 := fun w'' (h : Kept (From_ B0) z3_60 w'') => ldt3_59 w'' (hkk.trans h)
            clear ldt3_57 ldt3_58 ldt3_59
            clear hkk hb gz3_60 hw'
            try simp only [Act.put, List.setIfInBounds_toArray, List.set_cons_zero, List.set_cons_succ]
            refine wpR_one 8 (by kernel_rfl) ?_
            apply at_run 8 (some 43)
            · simp only [List.getElem?_toArray, List.getElem?_cons_succ, List.getElem?_cons_zero]; exact rfl
            · rfl
            · rfl
            intro w' hw'
            have RR_3_67 := Lib.hid (Ow.up RR_3_62.out (hw'))
            have UN1_3_67 := Lib.hid (RdS.bl UN1_3_62.out (hw'))
            have UN4_3_67 := Lib.hid (RdS.bl UN4_3_62.out (hw'))
            have UN7_3_67 := Lib.hid (RdS.bl UN7_3_60.out (hw'))
            have E_3_67 := Lib.hid (Ext.trans E_3_62.out (hw'))
            obtain ⟨vv, w'', hrun, ho, hb, hg, hbk⟩ := Ow.app2 (P := Try.prog) 36 36 23 i1 _ 2 16 _ Try.underlying36 hi1 hy0 hy1 hy2 rfl (by decide) _ _ _ RR_3_67.out _ _ _ _ _ (UN7_3_67.out) (rowsId_one _) (by have := HMl.out; unfold maxLen; omega) (by have := HMl.out; omega)
            refine ⟨vv, w'', exec_append (by rfl) (by rfl) (by rfl) hrun, Kept.of_from hb, ?_⟩
            have UN1_3_66 := Lib.hid (RdS.grown UN1_3_67.out hg NE_R_N1_3_55.out)
            have NE_R_N1_3_66 : RowKit.Hid (∀ a, A1 = some a → 0 < Mj.length → some a.block ≠ _) := Lib.hid (fun a ha hn => Ow.ne2 (NE_R_N1_3_55.out a ha hn) (UN1_3_67.out.low a ha hn) hbk)
            have UN4_3_66 := Lib.hid (RdS.grown UN4_3_67.out hg NE_R_N4_3_55.out)
            have NE_R_N4_3_66 : RowKit.Hid (∀ a, A4 = some a → 0 < Ma.length → some a.block ≠ _) := Lib.hid (fun a ha hn => Ow.ne2 (NE_R_N4_3_55.out a ha hn) (UN4_3_67.out.low a ha hn) hbk)
            have UN7_3_66 := Lib.hid (RdS.grown UN7_3_67.out hg NE_R_N7_3_60.out)
            have NE_R_N7_3_66 : RowKit.Hid (∀ a, A7 = some a → 0 < Mb.length → some a.block ≠ _) := Lib.hid (fun a ha hn => Ow.ne2 (NE_R_N7_3_60.out a ha hn) (UN7_3_67.out.low a ha hn) hbk)
            have E_3_66 : RowKit.Hid (Ext y23.drew w'') := Lib.hid ho.below
            have hkk : Kept (From_ B0) z3_60 w'' := (Kept.of_ext hw').trans (Kept.of_from hb)
            obtain ⟨AA3_66, cc3_66, rfl, hrr⟩ := ho.rds
            have RR_3_66 := Lib.hid ho
            have URo_3_66 := Lib.hid hrr
            clear hrr
            obtain ⟨z3_66, gz3_66⟩ : ∃ x, w'' = x := ⟨_, rfl⟩
            rw [gz3_66] at RR_3_66 UN1_3_66 UN4_3_66 UN7_3_66 URo_3_66 E_3_66 hkk ⊢
            have ldt3_68 := fun w'' (h : Kept (From_ B0) z3_66 w'') => ldt3_63 w'' (hkk.trans h)
            have ldt3_69 := fun w'' (h : Kept (From_ B0) z3_66 w'') => ldt3_64 w'' (hkk.trans h)
            have ldt3_70 := fun w'' (h : Kept (From_ B0) z3_66 w'') => ldt3_65 w'' (hkk.trans h)
            clear ldt3_63 ldt3_64 ldt3_65
            clear hkk hrun ho hb hg hbk gz3_66 hw'
            try simp only [Act.put, List.setIfInBounds_toArray, List.set_cons_zero, List.set_cons_succ]
            refine wpR_one 9 (by kernel_rfl) ?_
            apply at_call 9 (some 44)
            · simp only [List.getElem?_toArray, List.getElem?_cons_succ, List.getElem?_cons_zero]; exact rfl
            · rfl
            · rfl
            · intro w'; go_simp; first | done | exact ⟨rfl, rfl⟩ | with_reducible rfl
            intro w' hw'
            have RR_3_72 := Lib.hid (Ow.up RR_3_66.out (hw'))
            have UN1_3_72 := Lib.hid (RdS.bl UN1_3_66.out (hw'))
            have UN4_3_72 := Lib.hid (RdS.bl UN4_3_66.out (hw'))
            have UN7_3_72 := Lib.hid (RdS.bl UN7_3_66.out (hw'))
            have URo_3_72 := Lib.hid (RdS.bl URo_3_66.out (hw'))
            have E_3_72 := Lib.hid (Ext.trans E_3_66.out (hw'))
            refine (ids_self _ _ _ _ _ _ Mj _ UN1_3_72.out (by have h := URo_3_72.out; rwa [List.nil_append, ← rowsV_app, ← HNJ.out, Nat.zero_add] at h) (by have := HMl.out; have := congrArg List.length HNJ.out; rw [List.length_append] at this; unfold maxLen; omega)).mono ?_
            rintro e w'' ⟨rfl, hb⟩
            have RR_3_73 := Lib.hid (Ow.up RR_3_72.out (hb))
            have UN1_3_73 := Lib.hid (RdS.bl UN1_3_72.out (hb))
            have UN4_3_73 := Lib.hid (RdS.bl UN4_3_72.out (hb))
            have UN7_3_73 := Lib.hid (RdS.bl UN7_3_72.out (hb))
            have URo_3_73 := Lib.hid (RdS.bl URo_3_72.out (hb))
            have E_3_73 := Lib.hid (Ext.trans E_3_72.out (hb))
            have hkk : Kept (From_ B0) z3_66 w'' := (Kept.of_ext hw').trans (Kept.of_below hb)
            refine ⟨_, rfl, Kept.of_below hb, ?_⟩
            obtain ⟨z3_71, gz3_71⟩ : ∃ x, w'' = x := ⟨_, rfl⟩
            rw [gz3_71] at RR_3_73 UN1_3_73 UN4_3_73 UN7_3_73 URo_3_73 E_3_73 hkk ⊢
            have ldt3_74 := fun w'' (h : Kept (From_ B0) z3_71 w'') => ldt3_68 w'' (hkk.trans h)
            have ldt3_75 := fun w'' (h : Kept (From_ B0) z3_71 w'') => ldt3_69 w'' (hkk.trans h)
            have ldt3_76 := fun w'' (h : Kept (From_ B0) z3_71 w'') => ldt3_70 w'' (hkk.trans h)
            clear ldt3_68 ldt3_69 ldt3_70
            clear hkk hb gz3_71 hw'
            try simp only [Act.put, List.setIfInBounds_toArray, List.set_cons_zero, List.set_cons_succ]
            apply wpR_next 10 (some 8)
            · simp only [List.getElem?_toArray, List.getElem?_cons_succ, List.getElem?_cons_zero]; exact rfl
            · rfl
            · kernel_rfl
            · kernel_rfl
            · kernel_rfl
            · exact fun _ _ _ _ h => Exit.noConfusion h.1
            apply Exists.intro
            apply And.intro
            · apply yr_run; rfl; intro w' hw'; go_simp; (try with_reducible rfl)
            simp only [Act.put, List.setIfInBounds_toArray, List.set_cons_zero, List.set_cons_succ]
            refine wpR_done (by kernel_rfl) ?_ _
            intro wE hwE
            exact ⟨rfl, _, _, _, _, _, _, _, _, _, _, rfl, Lib.hid (Ext.trans ((Below.refl _ _).drew) (Ext.trans E_3_73.out hwE))⟩
        · apply at_run 2 (some 37)
          · simp only [List.getElem?_toArray, List.getElem?_cons_succ, List.getElem?_cons_zero]; exact rfl
          · rfl
          · rfl
          intro w' hw'
          have E_4_78 := Lib.hid (Ext.trans EX0.out (hw'))
          refine ⟨.slice (some ⟨w'.heap.size, 0, none⟩) 0 0, w'.alloc (.cells #[] 23), ?_, Kept.of_below (below1 _ _), ?_⟩
          · go_simp
          have RR_n4_77 : RowKit.Hid (Ow y23.drew B0 23 2 (.slice (some ⟨w'.heap.size, 0, none⟩) 0 0) 0 [] (w'.alloc (.cells #[] 23))) := Lib.hid (Ow.new_ (e := 23) (size := 2) (cs := #[]) E_4_78.out (Nat.le_of_eq HB0.out) (by have h1 := E_4_78.out.size; have h2 := HB0.out; omega) (n := 0) (Nat.zero_le _) rfl)
          have E_4_79 := Lib.hid (Ext.trans E_4_78.out (below1 w' (.cells #[] 23)))
          have hkk : Kept (From_ B0) y23.drew (w'.alloc (.cells #[] 23)) := (Kept.of_ext hw').trans (Kept.of_below (below1 _ _))
          obtain ⟨v4_80, gv4_80⟩ : ∃ x, w'.alloc (.cells #[] 23) = x := ⟨_, rfl⟩
          rw [gv4_80] at RR_n4_77 E_4_79 hkk ⊢
          have ldt4_81 := fun w'' (h : Kept (From_ B0) v4_80 w'') => ldt0 w'' (hkk.trans h)
          have ldt4_82 := fun w'' (h : Kept (From_ B0) v4_80 w'') => ldt1 w'' (hkk.trans h)
          have ldt4_83 := fun w'' (h : Kept (From_ B0) v4_80 w'') => ldt2 w'' (hkk.trans h)
          clear ldt0 ldt1 ldt2
          clear gv4_80 hkk
          obtain ⟨g4_77, gg4_77⟩ : ∃ x, w'.heap.size = x := ⟨_, rfl⟩
          rw [gg4_77] at RR_n4_77  ⊢
          clear gg4_77 hw'
          try simp only [Act.put, List.setIfInBounds_toArray, List.set_cons_zero, List.set_cons_succ]
          refine wpR_one 1 (by kernel_rfl) ?_
          apply at_call 1 (some 36)
          · simp only [List.getElem?_toArray, List.getElem?_cons_succ, List.getElem?_cons_zero]; exact rfl
          · rfl
          · rfl
          · intro w'; go_simp; first | done | exact ⟨rfl, rfl⟩ | with_reducible rfl
          intro w' hw'
          have RR_4_85 := Lib.hid (Ow.up RR_n4_77.out (hw'))
          have E_4_85 := Lib.hid (Ext.trans E_4_79.out (hw'))
          refine (HNj.out A6 c6 _ (J_25.out.bl E_4_85.out)).mono ?_
          rintro e w'' ⟨A1, c1, rfl, hr1, hn1, hb⟩
          have NE_R_N1_4_84 : RowKit.Hid (∀ a, A1 = some a → 0 < Mj.length → some a.block ≠ _) := Lib.hid (fun a ha hn e => by have h1 := (RR_4_85.out.own.lt _ e.symm).2; have h2 := hn1 a ha hn; omega)
          have RR_4_86 := Lib.hid (Ow.up RR_4_85.out (hb))
          have E_4_86 := Lib.hid (Ext.trans E_4_85.out (hb))
          have UN1_4_84 := Lib.hid hr1
          clear hr1 hn1
          have hkk : Kept (From_ B0) v4_80 w'' := (Kept.of_ext hw').trans (Kept.of_below hb)
          refine ⟨_, rfl, Kept.of_below hb, ?_⟩
          obtain ⟨z4_84, gz4_84⟩ : ∃ x, w'' = x := ⟨_, rfl⟩
          rw [gz4_84] at RR_4_86 UN1_4_84 E_4_86 hkk ⊢
          have ldt4_87 := fun w'' (h : Kept (From_ B0) z4_84 w'') => ldt4_81 w'' (hkk.trans h)
          have ldt4_88 := fun w'' (h : Kept (From_ B0) z4_84 w'') => ldt4_82 w'' (hkk.trans h)
          have ldt4_89 := fun w'' (h : Kept (From_ B0) z4_84 w'') => ldt4_83 w'' (hkk.trans h)
          clear ldt4_81 ldt4_82 ldt4_83
          clear hkk hb gz4_84 hw'
          try simp only [Act.put, List.setIfInBounds_toArray, List.set_cons_zero, List.set_cons_succ]
          refine wpR_one 4 (by kernel_rfl) ?_
          apply at_call 4 (some 39)
          · simp only [List.getElem?_toArray, List.getElem?_cons_succ, List.getElem?_cons_zero]; exact rfl
          · rfl
          · rfl
          · intro w'; go_simp; first | done | exact ⟨rfl, rfl⟩ | with_reducible rfl
          intro w' hw'
          have RR_4_91 := Lib.hid (Ow.up RR_4_86.out (hw'))
          have UN1_4_91 := Lib.hid (RdS.bl UN1_4_84.out (hw'))
          have E_4_91 := Lib.hid (Ext.trans E_4_86.out (hw'))
          refine (HNa.out _ (SA_25.out.bl E_4_91.out)).mono ?_
          rintro e w'' ⟨A4, c4, rfl, hr4, hn4, hb⟩
          have NE_R_N4_4_90 : RowKit.Hid (∀ a, A4 = some a → 0 < Ma.length → some a.block ≠ _) := Lib.hid (fun a ha hn e => by have h1 := (RR_4_91.out.own.lt _ e.symm).2; have h2 := hn4 a ha hn; omega)
          have RR_4_92 := Lib.hid (Ow.up RR_4_91.out (hb))
          have UN1_4_92 := Lib.hid (RdS.bl UN1_4_91.out (hb))
          have E_4_92 := Lib.hid (Ext.trans E_4_91.out (hb))
          have UN4_4_90 := Lib.hid hr4
          clear hr4 hn4
          have hkk : Kept (From_ B0) z4_84 w'' := (Kept.of_ext hw').trans (Kept.of_below hb)
          refine ⟨_, rfl, Kept.of_below hb, ?_⟩
          obtain ⟨z4_90, gz4_90⟩ : ∃ x, w'' = x := ⟨_, rfl⟩
          rw [gz4_90] at RR_4_92 UN1_4_92 UN4_4_90 E_4_92 hkk ⊢
          have ldt4_93 := fun w'' (h : Kept (From_ B0) z4_90 w'') => ldt4_87 w'' (hkk.trans h)
          have ldt4_94 := fun w'' (h : Kept (From_ B0) z4_90 w'') => ldt4_88 w'' (hkk.trans h)
          have ldt4_95 := fun w'' (h : Kept (From_ B0) z4_90 w'') => ldt4_89 w'' (hkk.trans h)
          clear ldt4_87 ldt4_88 ldt4_89
          clear hkk hb gz4_90 hw'
          try simp only [Act.put, List.setIfInBounds_toArray, List.set_cons_zero, List.set_cons_succ]
          refine wpR_one 5 (by kernel_rfl) ?_
          apply at_run 5 (some 40)
          · simp only [List.getElem?_toArray, List.getElem?_cons_succ, List.getElem?_cons_zero]; exact rfl
          · rfl
          · rfl
          intro w' hw'
          have RR_4_97 := Lib.hid (Ow.up RR_4_92.out (hw'))
          have UN1_4_97 := Lib.hid (RdS.bl UN1_4_92.out (hw'))
          have UN4_4_97 := Lib.hid (RdS.bl UN4_4_90.out (hw'))
          have E_4_97 := Lib.hid (Ext.trans E_4_92.out (hw'))
          obtain ⟨vv, w'', hrun, ho, hb, hg, hbk⟩ := Ow.app2 (P := Try.prog) 36 36 23 i1 _ 2 16 _ Try.underlying36 hi1 hy0 hy1 hy2 rfl (by decide) _ _ _ RR_4_97.out _ _ _ _ _ (UN4_4_97.out) (rowsId_one _) (by have := HMl.out; unfold maxLen; omega) (by have := HMl.out; omega)
          refine ⟨vv, w'', exec_append (by rfl) (by rfl) (by rfl) hrun, Kept.of_from hb, ?_⟩
          have UN1_4_96 := Lib.hid (RdS.grown UN1_4_97.out hg NE_R_N1_4_84.out)
          have NE_R_N1_4_96 : RowKit.Hid (∀ a, A1 = some a → 0 < Mj.length → some a.block ≠ _) := Lib.hid (fun a ha hn => Ow.ne2 (NE_R_N1_4_84.out a ha hn) (UN1_4_97.out.low a ha hn) hbk)
          have UN4_4_96 := Lib.hid (RdS.grown UN4_4_97.out hg NE_R_N4_4_90.out)
          have NE_R_N4_4_96 : RowKit.Hid (∀ a, A4 = some a → 0 < Ma.length → some a.block ≠ _) := Lib.hid (fun a ha hn => Ow.ne2 (NE_R_N4_4_90.out a ha hn) (UN4_4_97.out.low a ha hn) hbk)
          have E_4_96 : RowKit.Hid (Ext y23.drew w'') := Lib.hid ho.below
          have hkk : Kept (From_ B0) z4_90 w'' := (Kept.of_ext hw').trans (Kept.of_from hb)
          obtain ⟨AA4_96, cc4_96, rfl, hrr⟩ := ho.rds
          have RR_4_96 := Lib.hid ho
          clear hrr
          obtain ⟨z4_96, gz4_96⟩ : ∃ x, w'' = x := ⟨_, rfl⟩
          rw [gz4_96] at RR_4_96 UN1_4_96 UN4_4_96 E_4_96 hkk ⊢
          have ldt4_98 := fun w'' (h : Kept (From_ B0) z4_96 w'') => ldt4_93 w'' (hkk.trans h)
          have ldt4_99 := fun w'' (h : Kept (From_ B0) z4_96 w'') => ldt4_94 w'' (hkk.trans h)
          have ldt4_100 := fun w'' (h : Kept (From_ B0) z4_96 w'') => ldt4_95 w'' (hkk.trans h)
          clear ldt4_93 ldt4_94 ldt4_95
          clear hkk hrun ho hb hg hbk gz4_96 hw'
          try simp only [Act.put, List.setIfInBounds_toArray, List.set_cons_zero, List.set_cons_succ]
          refine wpR_one 7 (by kernel_rfl) ?_
          apply at_call 7 (some 42)
          · simp only [List.getElem?_toArray, List.getElem?_cons_succ, List.getElem?_cons_zero]; exact rfl
          · rfl
          · rfl
          · intro w'; go_simp; first | done | exact ⟨rfl, rfl⟩ | with_reducible rfl
          intro w' hw'
          have RR_4_102 := Lib.hid (Ow.up RR_4_96.out (hw'))
          have UN1_4_102 := Lib.hid (RdS.bl UN1_4_96.out (hw'))
          have UN4_4_102 := Lib.hid (RdS.bl UN4_4_96.out (hw'))
          have E_4_102 := Lib.hid (Ext.trans E_4_96.out (hw'))
          refine (HNb.out _ (SB_25.out.bl E_4_102.out)).mono ?_
          rintro e w'' ⟨A7, c7, rfl, hr7, hn7, hb⟩
          have NE_R_N7_4_101 : RowKit.Hid (∀ a, A7 = some a → 0 < Mb.length → some a.block ≠ _) := Lib.hid (fun a ha hn e => by have h1 := (RR_4_102.out.own.lt _ e.symm).2; have h2 := hn7 a ha hn; omega)
          have RR_4_103 := Lib.hid (Ow.up RR_4_102.out (hb))
          have UN1_4_103 := Lib.hid (RdS.bl UN1_4_102.out (hb))
          have UN4_4_103 := Lib.hid (RdS.bl UN4_4_102.out (hb))
          have E_4_103 := Lib.hid (Ext.trans E_4_102.out (hb))
          have UN7_4_101 := Lib.hid hr7
          clear hr7 hn7
          have hkk : Kept (From_ B0) z4_96 w'' := (Kept.of_ext hw').trans (Kept.of_below hb)
          refine ⟨_, rfl, Kept.of_below hb, ?_⟩
          obtain ⟨z4_101, gz4_101⟩ : ∃ x, w'' = x := ⟨_, rfl⟩
          rw [gz4_101] at RR_4_103 UN1_4_103 UN4_4_103 UN7_4_101 E_4_103 hkk ⊢
          have ldt4_104 := fun w'' (h : Kept (From_ B0) z4_101 w'') => ldt4_98 w'' (hkk.trans h)
          have ldt4_105 := fun w'' (h : Kept (From_ B0) z4_101 w'') => ldt4_99 w'' (hkk.trans h)
          have ldt4_106 := fun w'' (h : Kept (From_ B0) z4_101 w'') => ldt4_100 w'' (hkk.trans h)
          clear ldt4_98 ldt4_99 ldt4_100
          clear hkk hb gz4_101 hw'
          try simp only [Act.put, List.setIfInBounds_toArray, List.set_cons_zero, List.set_cons_succ]
          refine wpR_one 8 (by kernel_rfl) ?_
          apply at_run 8 (some 43)
          · simp only [List.getElem?_toArray, List.getElem?_cons_succ, List.getElem?_cons_zero]; exact rfl
          · rfl
          · rfl
          intro w' hw'
          have RR_4_108 := Lib.hid (Ow.up RR_4_103.out (hw'))
          have UN1_4_108 := Lib.hid (RdS.bl UN1_4_103.out (hw'))
          have UN4_4_108 := Lib.hid (RdS.bl UN4_4_103.out (hw'))
          have UN7_4_108 := Lib.hid (RdS.bl UN7_4_101.out (hw'))
          have E_4_108 := Lib.hid (Ext.trans E_4_103.out (hw'))
          obtain ⟨vv, w'', hrun, ho, hb, hg, hbk⟩ := Ow.app2 (P := Try.prog) 36 36 23 i1 _ 2 16 _ Try.underlying36 hi1 hy0 hy1 hy2 rfl (by decide) _ _ _ RR_4_108.out _ _ _ _ _ (UN7_4_108.out) (rowsId_one _) (by have := HMl.out; unfold maxLen; omega) (by have := HMl.out; omega)
          refine ⟨vv, w'', exec_append (by rfl) (by rfl) (by rfl) hrun, Kept.of_from hb, ?_⟩
          have UN1_4_107 := Lib.hid (RdS.grown UN1_4_108.out hg NE_R_N1_4_96.out)
          have NE_R_N1_4_107 : RowKit.Hid (∀ a, A1 = some a → 0 < Mj.length → some a.block ≠ _) := Lib.hid (fun a ha hn => Ow.ne2 (NE_R_N1_4_96.out a ha hn) (UN1_4_108.out.low a ha hn) hbk)
          have UN4_4_107 := Lib.hid (RdS.grown UN4_4_108.out hg NE_R_N4_4_96.out)
          have NE_R_N4_4_107 : RowKit.Hid (∀ a, A4 = some a → 0 < Ma.length → some a.block ≠ _) := Lib.hid (fun a ha hn => Ow.ne2 (NE_R_N4_4_96.out a ha hn) (UN4_4_108.out.low a ha hn) hbk)
          have UN7_4_107 := Lib.hid (RdS.grown UN7_4_108.out hg NE_R_N7_4_101.out)
          have NE_R_N7_4_107 : RowKit.Hid (∀ a, A7 = some a → 0 < Mb.length → some a.block ≠ _) := Lib.hid (fun a ha hn => Ow.ne2 (NE_R_N7_4_101.out a ha hn) (UN7_4_108.out.low a ha hn) hbk)
          have E_4_107 : RowKit.Hid (Ext y23.drew w'') := Lib.hid ho.below
          have hkk : Kept (From_ B0) z4_101 w'' := (Kept.of_ext hw').trans (Kept.of_from hb)
          obtain ⟨AA4_107, cc4_107, rfl, hrr⟩ := ho.rds
          have RR_4_107 := Lib.hid ho
          have URo_4_107 := Lib.hid hrr
          clear hrr
          obtain ⟨z4_107, gz4_107⟩ : ∃ x, w'' = x := ⟨_, rfl⟩
          rw [gz4_107] at RR_4_107 UN1_4_107 UN4_4_107 UN7_4_107 URo_4_107 E_4_107 hkk ⊢
          have ldt4_109 := fun w'' (h : Kept (From_ B0) z4_107 w'') => ldt4_104 w'' (hkk.trans h)
          have ldt4_110 := fun w'' (h : Kept (From_ B0) z4_107 w'') => ldt4_105 w'' (hkk.trans h)
          have ldt4_111 := fun w'' (h : Kept (From_ B0) z4_107 w'') => ldt4_106 w'' (hkk.trans h)
          clear ldt4_104 ldt4_105 ldt4_106
          clear hkk hrun ho hb hg hbk gz4_107 hw'
          try simp only [Act.put, List.setIfInBounds_toArray, List.set_cons_zero, List.set_cons_succ]
          refine wpR_one 9 (by kernel_rfl) ?_
          apply at_call 9 (some 44)
          · simp only [List.getElem?_toArray, List.getElem?_cons_succ, List.getElem?_cons_zero]; exact rfl
          · rfl
          · rfl
          · intro w'; go_simp; first | done | exact ⟨rfl, rfl⟩ | with_reducible rfl
          intro w' hw'
          have RR_4_113 := Lib.hid (Ow.up RR_4_107.out (hw'))
          have UN1_4_113 := Lib.hid (RdS.bl UN1_4_107.out (hw'))
          have UN4_4_113 := Lib.hid (RdS.bl UN4_4_107.out (hw'))
          have UN7_4_113 := Lib.hid (RdS.bl UN7_4_107.out (hw'))
          have URo_4_113 := Lib.hid (RdS.bl URo_4_107.out (hw'))
          have E_4_113 := Lib.hid (Ext.trans E_4_107.out (hw'))
          refine (ids_self _ _ _ _ _ _ Mj _ UN1_4_113.out (by have h := URo_4_113.out; rwa [List.nil_append, ← rowsV_app, ← HNJ.out, Nat.zero_add] at h) (by have := HMl.out; have := congrArg List.length HNJ.out; rw [List.length_append] at this; unfold maxLen; omega)).mono ?_
          rintro e w'' ⟨rfl, hb⟩
          have RR_4_114 := Lib.hid (Ow.up RR_4_113.out (hb))
          have UN1_4_114 := Lib.hid (RdS.bl UN1_4_113.out (hb))
          have UN4_4_114 := Lib.hid (RdS.bl UN4_4_113.out (hb))
          have UN7_4_114 := Lib.hid (RdS.bl UN7_4_113.out (hb))
          have URo_4_114 := Lib.hid (RdS.bl URo_4_113.out (hb))
          have E_4_114 := Lib.hid (Ext.trans E_4_113.out (hb))
          have hkk : Kept (From_ B0) z4_107 w'' := (Kept.of_ext hw').trans (Kept.of_below hb)
          refine ⟨_, rfl, Kept.of_below hb, ?_⟩
          obtain ⟨z4_112, gz4_112⟩ : ∃ x, w'' = x := ⟨_, rfl⟩
          rw [gz4_112] at RR_4_114 UN1_4_114 UN4_4_114 UN7_4_114 URo_4_114 E_4_114 hkk ⊢
          have ldt4_115 := fun w'' (h : Kept (From_ B0) z4_112 w'') => ldt4_109 w'' (hkk.trans h)
          have ldt4_116 := fun w'' (h : Kept (From_ B0) z4_112 w'') => ldt4_110 w'' (hkk.trans h)
          have ldt4_117 := fun w'' (h : Kept (From_ B0) z4_112 w'') => ldt4_111 w'' (hkk.trans h)
          clear ldt4_109 ldt4_110 ldt4_111
          clear hkk hb gz4_112 hw'
          try simp only [Act.put, List.setIfInBounds_toArray, List.set_cons_zero, List.set_cons_succ]
          apply wpR_next 10 (some 8)
          · simp only [List.getElem?_toArray, List.getElem?_cons_succ, List.getElem?_cons_zero]; exact rfl
          · rfl
          · kernel_rfl
          · kernel_rfl
          · kernel_rfl
          · exact fun _ _ _ _ h => Exit.noConfusion h.1
          apply Exists.intro
          apply And.intro
          · apply yr_run; rfl; intro w' hw'; go_simp; (try with_reducible rfl)
          simp only [Act.put, List.setIfInBounds_toArray, List.set_cons_zero, List.set_cons_succ]
          refine wpR_done (by kernel_rfl) ?_ _
          intro wE hwE
          exact ⟨rfl, _, _, _, _, _, _, _, _, _, _, rfl, Lib.hid (Ext.trans ((Below.refl _ _).drew) (Ext.trans E_4_114.out hwE))⟩
      · intro a' w' h9
        obtain ⟨u35, u36, u37, u38, u39, u40, u41, u42, u43, u44, rfl, hφ⟩ := h9
        simp only [Act.put, List.setIfInBounds_toArray, List.set_cons_zero, List.set_cons_succ]
        have EA_25 := Lib.hid (EA_23.out.bl hφ.out)
        have EB_25 := Lib.hid (EB_23.out.bl hφ.out)
        have SA_25 := Lib.hid (SA_23.out.bl hφ.out)
        have SB_25 := Lib.hid (SB_23.out.bl hφ.out)
        have E6_25 := Lib.hid (E6_23.out.bl hφ.out)
        have J_25 := Lib.hid (J_23.out.bl hφ.out)
        have Bel_25 := Lib.hid (bel_bl Bel_23.out hφ.out)
        obtain ⟨y25, gy25⟩ : ∃ x, w' = x := ⟨_, rfl⟩
        rw [gy25] at EA_25 EB_25 SA_25 SB_25 E6_25 J_25 Bel_25 ⊢
        clear hφ gy25
        have lw26 : (y25).cell? ⟨g6, 0, none⟩ = some (.slice A6 nJ c6) := E6_25.out.cell (i := 0) rfl
        go_wp2_with fail
        clear lw26
        refine (HMj.out A6 c6 _ J_25.out).mono ?_
        rintro e w27 ⟨rfl, hb27⟩
        have EA_28 := Lib.hid (EA_25.out.bl hb27)
        have EB_28 := Lib.hid (EB_25.out.bl hb27)
        have SA_28 := Lib.hid (SA_25.out.bl hb27)
        have SB_28 := Lib.hid (SB_25.out.bl hb27)
        have E6_28 := Lib.hid (E6_25.out.bl hb27)
        have J_28 := Lib.hid (J_25.out.bl hb27)
        have Bel_28 := Lib.hid (bel_bl Bel_25.out hb27)
        clear hb27
        have lw29 : (w27).cell? ⟨g6, 0, none⟩ = some (.slice A6 nJ c6) := E6_28.out.cell (i := 0) rfl
        have lw30 : (w27).cell? ⟨w.heap.size, 0, none⟩ = some (.slice A La.length c) := EA_28.out.cell (i := 0) rfl
        go_wp2_with fail
        clear lw29 lw30
        refine (HS1.out A6 c6 _ J_28.out SA_28.out).mono ?_
        rintro e w31 ⟨rfl, hb31⟩
        have EA_32 := Lib.hid (EA_28.out.bl hb31)
        have EB_32 := Lib.hid (EB_28.out.bl hb31)
        have SA_32 := Lib.hid (SA_28.out.bl hb31)
        have SB_32 := Lib.hid (SB_28.out.bl hb31)
        have E6_32 := Lib.hid (E6_28.out.bl hb31)
        have J_32 := Lib.hid (J_28.out.bl hb31)
        have Bel_32 := Lib.hid (bel_bl Bel_28.out hb31)
        clear hb31
        have lw33 : (w31).cell? ⟨g6, 0, none⟩ = some (.slice A6 nJ c6) := E6_32.out.cell (i := 0) rfl
        have lw34 : (w31).cell? ⟨w.heap.size, 0, none⟩ = some (.slice A La.length c) := EA_32.out.cell (i := 0) rfl
        go_wp2_with fail
        clear lw33 lw34
        refine (HS2.out A6 c6 _ SA_32.out J_32.out).mono ?_
        rintro e w35 ⟨rfl, hb35⟩
        have EA_36 := Lib.hid (EA_32.out.bl hb35)
        have EB_36 := Lib.hid (EB_32.out.bl hb35)
        have SA_36 := Lib.hid (SA_32.out.bl hb35)
        have SB_36 := Lib.hid (SB_32.out.bl hb35)
        have E6_36 := Lib.hid (E6_32.out.bl hb35)
        have J_36 := Lib.hid (J_32.out.bl hb35)
        have Bel_36 := Lib.hid (bel_bl Bel_32.out hb35)
        clear hb35
        go_wp2
        go_ret
        exact ⟨rfl, Bel_36.out⟩

theorem law_joins (A A' : Option Addr) (n n' c c' : Nat) (L L' : List OpT) (w : World) (h : RdS w w.heap.size 20 A n c (rowsV opCells L)) (h' : RdS w w.heap.size 20 A' n' c' (rowsV opCells L')) (hn : n ≤ maxLen) (hn' : n' ≤ maxLen) :
    Calls Try.prog 7 #[.agg #[.slice A n c], .agg #[.slice A' n' c']] w fun e w' => e = .returned (.bool true) ∧ Below w.heap.size w w' := by
  by_cases hm : mayE (L.take 10) = 0
  case neg => exact oj_a A A' n n' c c' L L' w h h' hn hn' hm
  by_cases hm' : mayE (L'.take 10) = 0
  case neg => exact oj_b A A' n n' c c' L L' w h h' hn hn' hm hm'
  exact oj_c A A' n n' c c' L L' w h h' hn hn' hm hm'
end Go.Proofs.Ytfbgbljljhgbjaa
