/- RingInserts' walk. -/
import Derived.Test.YtgbkloilodgjfaaRgO
import Derived.Test.YtgbkloilodgjfaaRgJ
import Derived.Test.YtgbkloilodgjfaaCh
import Derived.Test.YtgbkloilodgjfaaOw3
namespace Go.Proofs.Ytgbkloilodgjfaa
open Go.RowKit
set_option linter.unusedSimpArgs false
set_option linter.unusedVariables false

set_option maxRecDepth 100000 in
set_option maxHeartbeats 4000000 in
theorem law_rinserts (A A' : Option Addr) (n c n' c' : Nat) (L0 M0 : List D) (w : World) (h : RdS w w.heap.size 3 A n c (dartsV L0)) (h' : RdS w w.heap.size 3 A' n' c' (dartsV M0)) (hn : n ≤ maxLen) (hn' : n' ≤ maxLen) :
    Calls Try.prog 11 #[.slice A n c, .slice A' n' c'] w fun e w' => e = .returned (.bool true) ∧ Below w.heap.size w w' := by
  obtain ⟨i0, hi, hz0, hz1, hz2⟩ := info_parts info_dart
  have R0 := Lib.hid h
  have S0 := Lib.hid h'
  obtain ⟨hl40, hnd⟩ := onceD_len L0
  obtain ⟨hm40, hmd⟩ := onceD_len M0
  obtain ⟨L, gL⟩ : ∃ v, onceD L0 = v := ⟨_, rfl⟩
  obtain ⟨M, gM⟩ : ∃ v, onceD M0 = v := ⟨_, rfl⟩
  rw [gL] at hl40 hnd
  rw [gM] at hm40 hmd
  obtain ⟨n1, gn⟩ : ∃ v, L.length = v := ⟨_, rfl⟩
  obtain ⟨n2, gm⟩ : ∃ v, M.length = v := ⟨_, rfl⟩
  have HO : RowKit.Hid (∀ W, RdS W W.heap.size 3 A n c (dartsV L0) → Calls Try.prog 25 #[.slice A n c] W (GivesN W n1 L)) := Lib.hid (fun W h => givesN (gL ▸ once_any A n c L0 W h (by unfold maxLen at hn; omega)) gn)
  have HO' : RowKit.Hid (∀ W, RdS W W.heap.size 3 A' n' c' (dartsV M0) → Calls Try.prog 25 #[.slice A' n' c'] W (GivesN W n2 M)) := Lib.hid (fun W h => givesN (gM ▸ once_any A' n' c' M0 W h (by unfold maxLen at hn'; omega)) gm)
  have hn40 : n1 ≤ 40 := by omega
  have hn240 : n2 ≤ 40 := by omega
  have ND := Lib.hid hnd
  have GN := Lib.hid gn
  have GM := Lib.hid gm
  have OF := Lib.hid (oth_facts (L := L) hmd)
  have HS1 := Lib.hid (fun A1 A2 c1 c2 W h1 h2 => same_any A1 A2 n1 n1 c1 c2 (turnD L) L W h1 h2 (by omega) (by omega))
  rw [turn_turn hnd, decide_eq_true (rfl : turnD L = turnD L)] at HS1
  clear h h' hn hn' gL gM hnd hmd hl40 hm40 gn gm
  go_enter Try.func11, Try.ntmps11
  go_wp2_with fail
  refine (rg_shown _).mono ?_
  rintro e w1 ⟨rfl, hb1⟩
  have R0_2 := Lib.hid (R0.out.bl hb1)
  have S0_2 := Lib.hid (S0.out.bl hb1)
  have Bel_2 := Lib.hid (bel_bl (Below.refl _ w) hb1)
  clear hb1
  go_wp2_with fail
  refine (HO.out _ R0_2.out).mono ?_
  rintro e w3 ⟨A1, c1, rfl, hr1, hb3⟩
  have R0_4 := Lib.hid (R0_2.out.bl hb3)
  have S0_4 := Lib.hid (S0_2.out.bl hb3)
  have Bel_4 := Lib.hid (bel_bl Bel_2.out hb3)
  clear hb3
  have R1_4 := Lib.hid hr1
  clear hr1
  go_wp2
  go_loopw [6, 7, 8] (fun r i _ wr => ∃ j : Nat, j ≤ n1 ∧ i = .int .i64 (j : Int) ∧ (∃ A c, r = .slice A j c ∧ RdS wr wr.heap.size 3 A j c (dartsV (turnD (L.take j)))) ∧ Below w3.heap.size w3 wr) (fun _ i _ _ => n1 - (intOf i).toNat)
  case atStart => exact ⟨0, Nat.zero_le _, rfl, ⟨_, _, rfl, by rw [List.take_zero]; exact RdS.whole3 (L := []) (Whole.new_ _ 46 [])⟩, below1 _ _⟩
  case round =>
    obtain ⟨j, hj, rfl, ⟨Ar, cr, rfl, hrr⟩, hbw⟩ := hrel
    have HBW := Lib.hid hbw
    have RR := Lib.hid hrr
    clear hrr hbw
    have S0_5 := Lib.hid (S0_4.out.bl HBW.out)
    have R1_5 := Lib.hid (R1_4.out.bl HBW.out)
    have Bel_5 := Lib.hid (bel_bl Bel_4.out HBW.out)
    by_cases hlt : j < n1
    · obtain ⟨x, gx⟩ : ∃ x, L.getD j (0, 0, 0) = x := ⟨_, rfl⟩
      obtain ⟨b, off, rfl, hb, hc⟩ := R1_5.out.darts (by omega)
      clear hb hc
      have hlti : (j : Int) < (n1 : Int) := by omega
      have GX := Lib.hid gx
      obtain ⟨a, hA, hI⟩ : ∃ a, ((j = 0 ∧ a = (0, 0, 9)) ∨ ∃ j1, j = j1 + 1 ∧ L.getD j1 (0, 0, 0) = a) ∧ turnD (insR (turnD (L.take j)) a x) = turnD (L.take (j + 1)) := by
        have hjl : j < L.length := by rw [GN.out]; exact hlt
        rw [← gx]
        rcases j with _ | j1
        · exact ⟨(0, 0, 9), .inl ⟨rfl, rfl⟩, ins_take ND.out hjl _ (.inl rfl)⟩
        · exact ⟨_, .inr ⟨j1, rfl, rfl⟩, ins_take ND.out hjl _ (.inr ⟨j1, rfl, rfl⟩)⟩
      have HAA := Lib.hid hA
      have HIn := Lib.hid (fun A1 c1 W h => givesN (n := j + 1) (hI ▸ rinsert_any A1 j c1 (turnD (L.take j)) a x W h (by omega)) (by rw [turnD_length, List.length_take, GN.out]; omega))
      clear gx hA hI
      go_upto_if 26 with fail
      go_cut [8] (fun v z => v = .pointer (some ⟨wr.heap.size, 0, none⟩) ∧ Whole z wr.heap.size 46 (dartsV [a]) ∧ Below wr.heap.size wr z)
      case first =>
        rcases HAA.out with ⟨rfl, rfl⟩ | ⟨j1, hj1, ga⟩
        · go_wp2
          go_meet
          exact ⟨rfl, Whole.new_ wr _ (dartsV [(0, 0, 9)]), below1 _ _⟩
        · have hpos : 0 < (j : Int) := by omega
          have hw1 : IntKind.i64.wrap ((j : Int) - 1) = (j1 : Int) := (IntWalk.i64_in _ (by omega)).trans (by omega)
          have hj1n : (j1 : Int) < (n1 : Int) := by omega
          have hj1m : j1 < n1 := by omega
          have GA := Lib.hid ga
          have HW := Lib.hid (Whole.new_ wr 46 (dartsV [(0, 0, 9)]))
          clear hj1 ga
          have la0 : ((wr.alloc (.cells #[.int .i64 0, .int .i64 0, .int .i64 9] 46))).cell? ⟨b, off + j1 * 3, none⟩ = some (.int .i64 a.1) := ((R1_5.out.al (.cells #[.int .i64 0, .int .i64 0, .int .i64 9] 46)).dat hj1m GA.out).1
          have la1 : ((wr.alloc (.cells #[.int .i64 0, .int .i64 0, .int .i64 9] 46))).cell? ⟨b, off + j1 * 3 + 1, none⟩ = some (.int .i64 a.2.1) := ((R1_5.out.al (.cells #[.int .i64 0, .int .i64 0, .int .i64 9] 46)).dat hj1m GA.out).2.1
          have la2 : ((wr.alloc (.cells #[.int .i64 0, .int .i64 0, .int .i64 9] 46))).cell? ⟨b, off + j1 * 3 + 2, none⟩ = some (.int .i64 a.2.2) := ((R1_5.out.al (.cells #[.int .i64 0, .int .i64 0, .int .i64 9] 46)).dat hj1m GA.out).2.2
          have lb0 := HW.out.cell (i := 0) rfl
          have lf0 := HW.out.free 0
          have lb1 := HW.out.cell (i := 1) rfl
          have lf1 := HW.out.free 1
          have lb2 := HW.out.cell (i := 2) rfl
          have lf2 := HW.out.free 2
          go_wp2
          go_meet
          exact ⟨rfl, Whole.new_ wr _ (dartsV [a]), below1 _ _⟩
      case rest =>
      obtain ⟨rfl, hwa, hbz⟩ := hcut
      obtain ⟨z, gz⟩ : ∃ z, z = wc := ⟨_, rfl⟩
      subst gz
      have S0_6 := Lib.hid (S0_5.out.bl hbz)
      have R1_6 := Lib.hid (R1_5.out.bl hbz)
      have RR_6 := Lib.hid (RR.out.bl hbz)
      have Bel_6 := Lib.hid (bel_bl HBW.out hbz)
      clear hbz
      have Qa_7 := Lib.hid (hwa)
      clear hwa
      go_upto_region 10 with fail
      have S0_8 := Lib.hid (S0_6.out.dr)
      have R1_8 := Lib.hid (R1_6.out.dr)
      have RR_8 := Lib.hid (RR_6.out.dr)
      have Qa_8 := Lib.hid (Qa_7.out.dr)
      have Bel_8 := Lib.hid (bel_dr Bel_6.out)
      have ld9 : ∀ w', Kept Nil_ z.drew w' → w'.cell? ⟨wr.heap.size, 0, none⟩ = some (.int .i64 a.1) := fun w' h => h.nil_cell (Qa_8.out.cell (i := 0) rfl)
      have ld10 : ∀ w', Kept Nil_ z.drew w' → w'.cell? ⟨wr.heap.size, 1, none⟩ = some (.int .i64 a.2.1) := fun w' h => h.nil_cell (Qa_8.out.cell (i := 1) rfl)
      have ld11 : ∀ w', Kept Nil_ z.drew w' → w'.cell? ⟨wr.heap.size, 2, none⟩ = some (.int .i64 a.2.2) := fun w' h => h.nil_cell (Qa_8.out.cell (i := 2) rfl)
      have ld12 : ∀ w', Kept Nil_ z.drew w' → w'.cell? ⟨b, off + j * 3, none⟩ = some (.int .i64 x.1) := fun w' h => h.nil_cell ((R1_8.out.dat hlt GX.out).1)
      have ld13 : ∀ w', Kept Nil_ z.drew w' → w'.cell? ⟨b, off + j * 3 + 1, none⟩ = some (.int .i64 x.2.1) := fun w' h => h.nil_cell ((R1_8.out.dat hlt GX.out).2.1)
      have ld14 : ∀ w', Kept Nil_ z.drew w' → w'.cell? ⟨b, off + j * 3 + 2, none⟩ = some (.int .i64 x.2.2) := fun w' h => h.nil_cell ((R1_8.out.dat hlt GX.out).2.2)
      refine wp_region_reg Nil_ (by kernel_rfl) ?_
      apply wpR_next 0 (some 32)
      · simp only [List.getElem?_toArray, List.getElem?_cons_succ, List.getElem?_cons_zero]; exact rfl
      · rfl
      · kernel_rfl
      · kernel_rfl
      · kernel_rfl
      · exact fun _ _ _ _ h => h
      apply Exists.intro
      apply And.intro
      · apply yr_run; rfl; intro w' hw'; go_simp; (try with_reducible rfl)
      simp only [Act.put, List.setIfInBounds_toArray, List.set_cons_zero, List.set_cons_succ]
      apply wpR_next 1 (some 33)
      · simp only [List.getElem?_toArray, List.getElem?_cons_succ, List.getElem?_cons_zero]; exact rfl
      · rfl
      · kernel_rfl
      · kernel_rfl
      · kernel_rfl
      · exact fun _ _ _ _ h => h
      apply Exists.intro
      apply And.intro
      · apply yr_run; rfl; intro w' hw'; go_simp; (try with_reducible rfl)
      simp only [Act.put, List.setIfInBounds_toArray, List.set_cons_zero, List.set_cons_succ]
      apply wpR_next 2 (some 34)
      · simp only [List.getElem?_toArray, List.getElem?_cons_succ, List.getElem?_cons_zero]; exact rfl
      · rfl
      · kernel_rfl
      · kernel_rfl
      · kernel_rfl
      · exact fun _ _ _ _ h => h
      apply Exists.intro
      apply And.intro
      · apply yr_run; rfl; intro w' hw'; go_simp; (try with_reducible rfl)
      simp only [Act.put, List.setIfInBounds_toArray, List.set_cons_zero, List.set_cons_succ]
      apply wpR_next 3 (some 35)
      · simp only [List.getElem?_toArray, List.getElem?_cons_succ, List.getElem?_cons_zero]; exact rfl
      · rfl
      · kernel_rfl
      · kernel_rfl
      · kernel_rfl
      · exact fun _ _ _ _ h => h
      apply Exists.intro
      apply And.intro
      · apply yr_run; rfl; intro w' hw'; go_simp; (try with_reducible rfl)
      simp only [Act.put, List.setIfInBounds_toArray, List.set_cons_zero, List.set_cons_succ]
      apply wpR_next 4 (some 36)
      · simp only [List.getElem?_toArray, List.getElem?_cons_succ, List.getElem?_cons_zero]; exact rfl
      · rfl
      · kernel_rfl
      · kernel_rfl
      · kernel_rfl
      · exact fun _ _ _ _ h => h
      apply Exists.intro
      apply And.intro
      · apply yr_run; rfl; intro w' hw'; go_simp; (try with_reducible rfl)
      simp only [Act.put, List.setIfInBounds_toArray, List.set_cons_zero, List.set_cons_succ]
      apply wpR_next 5 (some 37)
      · simp only [List.getElem?_toArray, List.getElem?_cons_succ, List.getElem?_cons_zero]; exact rfl
      · rfl
      · kernel_rfl
      · kernel_rfl
      · kernel_rfl
      · exact fun _ _ _ _ h => h
      apply Exists.intro
      apply And.intro
      · apply yr_run; rfl; intro w' hw'; go_simp; (try with_reducible rfl)
      simp only [Act.put, List.setIfInBounds_toArray, List.set_cons_zero, List.set_cons_succ]
      apply wpR_call 6 (some 38)
      · simp only [List.getElem?_toArray, List.getElem?_cons_succ, List.getElem?_cons_zero]; exact rfl
      · rfl
      · kernel_rfl
      · rfl
      · intro w'; go_simp; first | done | exact ⟨rfl, rfl⟩ | with_reducible rfl
      intro w' hw'
      refine (HIn.out _ _ _ (RR_8.out.bl hw')).mono ?_
      rintro e w15 ⟨A3, c3, rfl, hr3, hb15⟩
      have S0_15 := Lib.hid ((S0_8.out.bl hw').bl hb15)
      have R1_15 := Lib.hid ((R1_8.out.bl hw').bl hb15)
      have RR_15 := Lib.hid ((RR_8.out.bl hw').bl hb15)
      have Qa_15 := Lib.hid ((Qa_8.out.bl hw').bl hb15)
      have Bel_15 := Lib.hid (bel_bl (bel_bl Bel_8.out hw') hb15)
      have ld16 := fun w'' (h : Kept Nil_ w15 w'') => ld9 w'' ((Kept.of_ext hw').trans ((Kept.of_below hb15).trans h))
      have ld17 := fun w'' (h : Kept Nil_ w15 w'') => ld10 w'' ((Kept.of_ext hw').trans ((Kept.of_below hb15).trans h))
      have ld18 := fun w'' (h : Kept Nil_ w15 w'') => ld11 w'' ((Kept.of_ext hw').trans ((Kept.of_below hb15).trans h))
      have ld19 := fun w'' (h : Kept Nil_ w15 w'') => ld12 w'' ((Kept.of_ext hw').trans ((Kept.of_below hb15).trans h))
      have ld20 := fun w'' (h : Kept Nil_ w15 w'') => ld13 w'' ((Kept.of_ext hw').trans ((Kept.of_below hb15).trans h))
      have ld21 := fun w'' (h : Kept Nil_ w15 w'') => ld14 w'' ((Kept.of_ext hw').trans ((Kept.of_below hb15).trans h))
      refine ⟨_, rfl, Kept.of_below hb15, ?_⟩
      clear hw' hb15
      have RN_15 := Lib.hid hr3
      clear hr3
      simp only [Act.put, List.setIfInBounds_toArray, List.set_cons_zero, List.set_cons_succ]
      apply wpR_next 7 (some 6)
      · simp only [List.getElem?_toArray, List.getElem?_cons_succ, List.getElem?_cons_zero]; exact rfl
      · rfl
      · kernel_rfl
      · kernel_rfl
      · kernel_rfl
      · exact fun _ _ _ _ h => h
      apply Exists.intro
      apply And.intro
      · apply yr_run; rfl; intro w' hw'; go_simp; (try with_reducible rfl)
      simp only [Act.put, List.setIfInBounds_toArray, List.set_cons_zero, List.set_cons_succ]
      refine wpR_done (by kernel_rfl) ?_ _
      intro w22 hw'
      have S0_23 := Lib.hid (S0_15.out.bl hw')
      have R1_23 := Lib.hid (R1_15.out.bl hw')
      have RR_23 := Lib.hid (RR_15.out.bl hw')
      have Qa_23 := Lib.hid (Qa_15.out.bl hw')
      have RN_23 := Lib.hid (RN_15.out.bl hw')
      have Bel_23 := Lib.hid (bel_bl Bel_15.out hw')
      clear hw'
      go_wp2
      go_roundw
      case rel => exact ⟨j + 1, by omega, by go_num, ⟨_, _, rfl, RN_23.out⟩, Bel_23.out⟩
      case measure => simp [intOf]; omega
    · have hjn : j = n1 := by omega
      subst hjn
      have hT : L.take j = L := List.take_of_length_le (by rw [GN.out]; exact Nat.le_refl _)
      rw [hT] at RR
      clear hT HBW hlt
      go_wp2_with fail
      refine (HS1.out _ _ _ _ _ RR.out R1_5.out).mono ?_
      rintro e w24 ⟨rfl, hb24⟩
      have S0_25 := Lib.hid (S0_5.out.bl hb24)
      have R1_25 := Lib.hid (R1_5.out.bl hb24)
      have RR_25 := Lib.hid (RR.out.bl hb24)
      have Bel_25 := Lib.hid (bel_bl Bel_5.out hb24)
      clear hb24
      go_wp2_with fail
      refine (HO'.out _ (S0_25.out.al (.cells #[] 46))).mono ?_
      rintro e w26 ⟨A2, c2, rfl, hs1, hb26⟩
      have S0_27 := Lib.hid ((S0_25.out.al (.cells #[] 46)).bl hb26)
      have R1_27 := Lib.hid ((R1_25.out.al (.cells #[] 46)).bl hb26)
      have RR_27 := Lib.hid ((RR_25.out.al (.cells #[] 46)).bl hb26)
      have Bel_27 := Lib.hid (bel_bl (bel_al Bel_25.out (.cells #[] 46)) hb26)
      clear hb26
      have S1_27 := Lib.hid hs1
      clear hs1
      go_wp2
      go_loopw [9, 11] (fun v i wr => ∃ k : Nat, k ≤ n2 ∧ i = .int .i64 (k : Int) ∧ Gr w26 w24.heap.size 46 3 v (othD L M k).length (dartsV (othD L M k)) wr) (fun _ i _ => n2 - (intOf i).toNat)
      case atStart => exact ⟨0, Nat.zero_le _, rfl, .inl ⟨rfl, rfl, rfl, Below.refl _ _⟩⟩
      case round =>
        obtain ⟨k, hk, rfl, hgr⟩ := hrel
        obtain ⟨y2, gy2⟩ : ∃ x, x = wr := ⟨_, rfl⟩
        subst gy2
        have HG := Lib.hid hgr
        have hbw := hgr.below
        clear hgr
        have R1_28 := Lib.hid (R1_27.out.bl hbw)
        have RR_28 := Lib.hid (RR_27.out.bl hbw)
        have S1_28 := Lib.hid (S1_27.out.bl hbw)
        have Bel_28 := Lib.hid (bel_bl Bel_27.out hbw)
        clear hbw
        by_cases hlt : k < n2
        · obtain ⟨b, off, rfl, hb, hc⟩ := S1_28.out.darts (by omega)
          clear hb hc
          have hlti : (k : Int) < (n2 : Int) := by omega
          have hst := oth_step L M (j := k) (by rw [GM.out]; exact hlt)
          have hol := oth_len L M k
          rw [GM.out] at hol
          obtain ⟨x, gx⟩ : ∃ x, M.getD k (0, 0, 0) = x := ⟨_, rfl⟩
          rw [gx] at hst
          have GX := Lib.hid gx
          have HXi := Lib.hid (fun A1 c1 W h => rfindex_any A1 j c1 L x W h (by omega))
          clear gx
          have HBY : RowKit.Hid (Below y2.heap.size y2 y2) := Lib.hid (Below.refl _ _)
          by_cases hx : x ∈ L
          · rw [(idxD_mem hx).1] at HXi
            obtain ⟨ix, gix⟩ : ∃ v, L.idxOf x = v := ⟨_, rfl⟩
            rw [gix] at HXi
            rw [if_pos hx] at hst
            have HST := Lib.hid hst
            clear gix hx hst
            have lw30 : (y2).cell? ⟨b, off + k * 3, none⟩ = some (.int .i64 x.1) := (S1_28.out.dat hlt GX.out).1
            have lw31 : (y2).cell? ⟨b, off + k * 3 + 1, none⟩ = some (.int .i64 x.2.1) := (S1_28.out.dat hlt GX.out).2.1
            have lw32 : (y2).cell? ⟨b, off + k * 3 + 2, none⟩ = some (.int .i64 x.2.2) := (S1_28.out.dat hlt GX.out).2.2
            go_wp2_with fail
            clear lw30 lw31 lw32
            refine (HXi.out _ _ _ R1_28.out).mono ?_
            rintro e w29 ⟨rfl, hb29⟩
            have R1_33 := Lib.hid (R1_28.out.bl hb29)
            have RR_33 := Lib.hid (RR_28.out.bl hb29)
            have S1_33 := Lib.hid (S1_28.out.bl hb29)
            have Bel_33 := Lib.hid (bel_bl HBY.out hb29)
            clear hb29
            go_wp2
            go_roundw
            case rel => exact ⟨k + 1, by omega, by go_num, by rw [HST.out]; exact HG.out.up Bel_33.out⟩
            case measure => simp [intOf]; omega
          · rw [idxD_no hx] at HXi
            rw [if_neg hx] at hst
            have HST := Lib.hid hst
            clear hx hst
            have lw35 : (y2).cell? ⟨b, off + k * 3, none⟩ = some (.int .i64 x.1) := (S1_28.out.dat hlt GX.out).1
            have lw36 : (y2).cell? ⟨b, off + k * 3 + 1, none⟩ = some (.int .i64 x.2.1) := (S1_28.out.dat hlt GX.out).2.1
            have lw37 : (y2).cell? ⟨b, off + k * 3 + 2, none⟩ = some (.int .i64 x.2.2) := (S1_28.out.dat hlt GX.out).2.2
            go_wp2_with fail
            clear lw35 lw36 lw37
            refine (HXi.out _ _ _ R1_28.out).mono ?_
            rintro e w34 ⟨rfl, hb34⟩
            have R1_38 := Lib.hid (R1_28.out.bl hb34)
            have RR_38 := Lib.hid (RR_28.out.bl hb34)
            have S1_38 := Lib.hid (S1_28.out.bl hb34)
            have Bel_38 := Lib.hid (bel_bl HBY.out hb34)
            clear hb34
            have lc0 : (w34).cell? ⟨b, off + k * 3, none⟩ = some (.int .i64 x.1) := (S1_38.out.dat hlt GX.out).1
            have lc1 : (w34).cell? ⟨b, off + k * 3 + 1, none⟩ = some (.int .i64 x.2.1) := (S1_38.out.dat hlt GX.out).2.1
            have lc2 : (w34).cell? ⟨b, off + k * 3 + 2, none⟩ = some (.int .i64 x.2.2) := (S1_38.out.dat hlt GX.out).2.2
            have HG2 := Lib.hid ((HG.out.up Bel_38.out).up (below1 _ (.cells #[.int .i64 x.1, .int .i64 x.2.1, .int .i64 x.2.2] 46)))
            go_wp2_with (first
              | (at_builtin
                 obtain ⟨v1, w1, hrun, hG1, hb1⟩ := Gr.app (P := Try.prog) 42 42 46 i0 _ 3 24 _ Try.underlying42 hi hz0 hz1 hz2 rfl (by decide) _ _ _ HG2.out _ (some ⟨w34.heap.size, 0, none⟩) 1 1 (dartsV [x]) (by exact RdS.whole3 (L := [x]) (Whole.new2 (by simp))) (dartsV_one [x]) (by omega) (by unfold maxLen; omega) (by omega)
                 refine wpList_app rfl (.tmp 59) (.tmp 64) _ rfl rfl rfl hrun ?_
                 have HG1 := Lib.hid hG1
                 clear hrun hb1 hG1))
            go_roundw
            case rel =>
              refine ⟨k + 1, by omega, by go_num, ?_⟩
              rw [HST.out, List.length_append, dartsV_app]
              exact HG1.out
            case measure => simp [intOf]; omega
        · have hkn : k = n2 := by omega
          subst hkn
          have OF2 := OF.out
          rw [GM.out] at OF2
          have hol := oth_len L M k
          rw [GM.out] at hol
          obtain ⟨O, gO⟩ : ∃ v, othD L M k = v := ⟨_, rfl⟩
          rw [gO] at HG OF2 hol
          obtain ⟨nO, gnO⟩ : ∃ v, O.length = v := ⟨_, rfl⟩
          rw [gnO] at HG hol
          have GNO := Lib.hid gnO
          have OFF := Lib.hid OF2
          obtain ⟨A4, c4, hv4, hr4⟩ := HG.out.rds
          subst hv4
          have hWF := Lib.hid (fun j' (h1 : j' < j) (h2 : j' < nO) => wan_facts ND.out OF2.1 OF2.2 (j := j') (by rw [GN.out]; exact h1) (by rw [gnO]; exact h2))
          have hWN := Lib.hid (fun j' => wan_nodup ND.out OF2.1 OF2.2 j')
          have hWL := Lib.hid (fun j' (h1 : j' ≤ j) (h2 : j' ≤ nO) => wan_len (L := L) (O := O) (j := j') (by rw [GN.out]; exact h1) (by rw [gnO]; exact h2))
          clear gO OF2 hlt HG gnO
          have RO_39 := Lib.hid (hr4)
          clear hr4
          have HOw0 : RowKit.Hid (Ow y2 y2.heap.size 46 3 (.slice (some ⟨y2.heap.size, 0, none⟩) 0 0) 0 [] (y2.alloc (.cells #[] 46))) := Lib.hid (Ow.new_ (cs := #[]) (Below.refl _ _) (Nat.le_refl _) (Nat.le_refl _) (Nat.zero_le _) rfl)
          go_wp2_with (first
            | (at_builtin
               obtain ⟨vw, w1, hrun, hO1, hb1⟩ := Ow.app (P := Try.prog) 42 42 46 i0 _ 3 24 _ Try.underlying42 hi hz0 hz1 hz2 rfl (by decide) _ _ _ HOw0.out _ A1 j c1 (dartsV L) (R1_28.out.al (.cells #[] 46)) (dartsV_one L) (by unfold maxLen; omega) (by omega)
               refine wpList_app rfl (.tmp 66) (.tmp 67) _ rfl rfl rfl hrun ?_
               rw [List.nil_append, Nat.zero_add] at hO1
               have HO1 := Lib.hid hO1
               clear hrun hb1 hO1))
          go_loopw [6, 13] (fun r i wz => ∃ q : Nat, q ≤ j ∧ q ≤ nO ∧ i = .int .i64 (q : Int) ∧ (∃ A c R, r = .slice A j c ∧ RdS wz wz.heap.size 3 A j c (dartsV R) ∧ Rot R (wanD L O q) ∧ (0 < j → ∀ a, A = some a → ∀ g, vw.ownBlock = some g → a.block ≠ g)) ∧ Ow y2 y2.heap.size 46 3 vw j (dartsV (wanD L O q)) wz) (fun _ i _ => j - (intOf i).toNat)
          case atStart =>
            refine ⟨0, Nat.zero_le _, Nat.zero_le _, rfl, ⟨_, _, _, rfl, RR_28.out.up HO1.out.below HO1.out.below.size, ?_, fun h0 a e g eg => ?_⟩, ?_⟩
            · rw [wan_zero]
              exact (rot_turn L).symm
            · have h1 := RR_28.out.low a e h0
              have h2 := (HO1.out.own.lt g eg).1
              omega
            · rw [wan_zero]
              exact HO1.out
          case round =>
            obtain ⟨q, hq1, hq2, rfl, ⟨A5, c5, R, rfl, hr5, hrot, hfre⟩, how⟩ := hrel
            obtain ⟨y3, gy3⟩ : ∃ x, x = wr := ⟨_, rfl⟩
            subst gy3
            have HOw := Lib.hid how
            have hbw := how.below
            have ROT := Lib.hid hrot
            have FRE := Lib.hid hfre
            clear how hrot hfre HO1 HOw0
            have R1_40 := Lib.hid (R1_28.out.bl hbw)
            have RO_40 := Lib.hid (RO_39.out.bl hbw)
            have Bel_40 := Lib.hid (bel_bl Bel_28.out hbw)
            clear hbw
            have R5_41 := Lib.hid (hr5)
            clear hr5
            by_cases hlt : q < j ∧ q < nO
            · have HBY3 : RowKit.Hid (Below y3.heap.size y3 y3) := Lib.hid (Below.refl _ _)
              obtain ⟨hl1, hl2⟩ := hlt
              have hl1i : (q : Int) < (j : Int) := by omega
              have hl2i : (q : Int) < (nO : Int) := by omega
              obtain ⟨b, off, rfl, hb, hc⟩ := R1_40.out.darts (by omega)
              obtain ⟨b4, off4, rfl, hb4, hc4⟩ := RO_40.out.darts (by omega)
              clear hb hc hb4 hc4
              obtain ⟨f1, f2, f3, f4⟩ := hWF.out q hl1 hl2
              obtain ⟨o, go⟩ : ∃ x, L.getD q (0, 0, 0) = x := ⟨_, rfl⟩
              obtain ⟨x, gx⟩ : ∃ x, O.getD q (0, 0, 0) = x := ⟨_, rfl⟩
              rw [go, gx] at f3
              rw [go] at f1
              rw [gx] at f2 f4
              have nR : R.Nodup := ROT.out.symm.nodup (hWN.out q)
              have oR : o ∈ R := (ROT.out.mem o).2 f1
              have xR : ¬ x ∈ R := fun h => f2 ((ROT.out.mem x).1 h)
              have hlR : (turnD (swpR R o x)).length = j := by
                rw [turnD_length, swpR_map nR oR xR, List.length_map, ROT.out.len, hWL.out q hq1 hq2, GN.out]
              have hro : Rot (turnD (swpR R o x)) (wanD L O (q + 1)) := by
                have := swp_rot ROT.out nR oR xR
                rw [f3] at this
                exact (rot_turn _).symm.trans this
              have HSw := Lib.hid (fun A1 c1 W h => givesFN (rswap_F A1 j c1 R o x W h (by omega) oR xR) hlR)
              obtain ⟨T, gT⟩ : ∃ v, turnD (swpR R o x) = v := ⟨_, rfl⟩
              rw [gT] at HSw hro
              have HRO := Lib.hid hro
              have GO := Lib.hid go
              have GX := Lib.hid gx
              have F4 := Lib.hid f4
              obtain ⟨g, cap, hvw, hBg, hgl⟩ := HOw.out.own.form (by omega)
              subst hvw
              have HGL := Lib.hid hgl
              have HBG := Lib.hid hBg
              clear f1 f2 f3 f4 go gx nR oR xR hlR hro gT hgl hBg
              go_upto_region 24 with fail
              have R1_42 := Lib.hid (R1_40.out.dr)
              have RO_42 := Lib.hid (RO_40.out.dr)
              have R5_42 := Lib.hid (R5_41.out.dr)
              have Bel_42 := Lib.hid (bel_dr HBY3.out)
              have ld43 : ∀ w', Kept Nil_ y3.drew w' → w'.cell? ⟨b, off + q * 3, none⟩ = some (.int .i64 o.1) := fun w' h => h.nil_cell ((R1_42.out.dat hl1 GO.out).1)
              have ld44 : ∀ w', Kept Nil_ y3.drew w' → w'.cell? ⟨b, off + q * 3 + 1, none⟩ = some (.int .i64 o.2.1) := fun w' h => h.nil_cell ((R1_42.out.dat hl1 GO.out).2.1)
              have ld45 : ∀ w', Kept Nil_ y3.drew w' → w'.cell? ⟨b, off + q * 3 + 2, none⟩ = some (.int .i64 o.2.2) := fun w' h => h.nil_cell ((R1_42.out.dat hl1 GO.out).2.2)
              have ld46 : ∀ w', Kept Nil_ y3.drew w' → w'.cell? ⟨b4, off4 + q * 3, none⟩ = some (.int .i64 x.1) := fun w' h => h.nil_cell ((RO_42.out.dat hl2 GX.out).1)
              have ld47 : ∀ w', Kept Nil_ y3.drew w' → w'.cell? ⟨b4, off4 + q * 3 + 1, none⟩ = some (.int .i64 x.2.1) := fun w' h => h.nil_cell ((RO_42.out.dat hl2 GX.out).2.1)
              have ld48 : ∀ w', Kept Nil_ y3.drew w' → w'.cell? ⟨b4, off4 + q * 3 + 2, none⟩ = some (.int .i64 x.2.2) := fun w' h => h.nil_cell ((RO_42.out.dat hl2 GX.out).2.2)
              refine wp_region_reg Nil_ (by kernel_rfl) ?_
              apply wpR_next 0 (some 81)
              · simp only [List.getElem?_toArray, List.getElem?_cons_succ, List.getElem?_cons_zero]; exact rfl
              · rfl
              · kernel_rfl
              · kernel_rfl
              · kernel_rfl
              · exact fun _ _ _ _ h => h
              apply Exists.intro
              apply And.intro
              · apply yr_run; rfl; intro w' hw'; go_simp; (try with_reducible rfl)
              simp only [Act.put, List.setIfInBounds_toArray, List.set_cons_zero, List.set_cons_succ]
              apply wpR_next 1 (some 82)
              · simp only [List.getElem?_toArray, List.getElem?_cons_succ, List.getElem?_cons_zero]; exact rfl
              · rfl
              · kernel_rfl
              · kernel_rfl
              · kernel_rfl
              · exact fun _ _ _ _ h => h
              apply Exists.intro
              apply And.intro
              · apply yr_run; rfl; intro w' hw'; go_simp; (try with_reducible rfl)
              simp only [Act.put, List.setIfInBounds_toArray, List.set_cons_zero, List.set_cons_succ]
              apply wpR_next 2 (some 83)
              · simp only [List.getElem?_toArray, List.getElem?_cons_succ, List.getElem?_cons_zero]; exact rfl
              · rfl
              · kernel_rfl
              · kernel_rfl
              · kernel_rfl
              · exact fun _ _ _ _ h => h
              apply Exists.intro
              apply And.intro
              · apply yr_run; rfl; intro w' hw'; go_simp; (try with_reducible rfl)
              simp only [Act.put, List.setIfInBounds_toArray, List.set_cons_zero, List.set_cons_succ]
              apply wpR_next 3 (some 84)
              · simp only [List.getElem?_toArray, List.getElem?_cons_succ, List.getElem?_cons_zero]; exact rfl
              · rfl
              · kernel_rfl
              · kernel_rfl
              · kernel_rfl
              · exact fun _ _ _ _ h => h
              apply Exists.intro
              apply And.intro
              · apply yr_run; rfl; intro w' hw'; go_simp; (try with_reducible rfl)
              simp only [Act.put, List.setIfInBounds_toArray, List.set_cons_zero, List.set_cons_succ]
              apply wpR_next 4 (some 85)
              · simp only [List.getElem?_toArray, List.getElem?_cons_succ, List.getElem?_cons_zero]; exact rfl
              · rfl
              · kernel_rfl
              · kernel_rfl
              · kernel_rfl
              · exact fun _ _ _ _ h => h
              apply Exists.intro
              apply And.intro
              · apply yr_run; rfl; intro w' hw'; go_simp; (try with_reducible rfl)
              simp only [Act.put, List.setIfInBounds_toArray, List.set_cons_zero, List.set_cons_succ]
              apply wpR_next 5 (some 86)
              · simp only [List.getElem?_toArray, List.getElem?_cons_succ, List.getElem?_cons_zero]; exact rfl
              · rfl
              · kernel_rfl
              · kernel_rfl
              · kernel_rfl
              · exact fun _ _ _ _ h => h
              apply Exists.intro
              apply And.intro
              · apply yr_run; rfl; intro w' hw'; go_simp; (try with_reducible rfl)
              simp only [Act.put, List.setIfInBounds_toArray, List.set_cons_zero, List.set_cons_succ]
              apply wpR_next 6 (some 87)
              · simp only [List.getElem?_toArray, List.getElem?_cons_succ, List.getElem?_cons_zero]; exact rfl
              · rfl
              · kernel_rfl
              · kernel_rfl
              · kernel_rfl
              · exact fun _ _ _ _ h => h
              apply Exists.intro
              apply And.intro
              · apply yr_run; rfl; intro w' hw'; go_simp; (try with_reducible rfl)
              simp only [Act.put, List.setIfInBounds_toArray, List.set_cons_zero, List.set_cons_succ]
              apply wpR_next 7 (some 88)
              · simp only [List.getElem?_toArray, List.getElem?_cons_succ, List.getElem?_cons_zero]; exact rfl
              · rfl
              · kernel_rfl
              · kernel_rfl
              · kernel_rfl
              · exact fun _ _ _ _ h => h
              apply Exists.intro
              apply And.intro
              · apply yr_run; rfl; intro w' hw'; go_simp; (try with_reducible rfl)
              simp only [Act.put, List.setIfInBounds_toArray, List.set_cons_zero, List.set_cons_succ]
              apply wpR_next 8 (some 89)
              · simp only [List.getElem?_toArray, List.getElem?_cons_succ, List.getElem?_cons_zero]; exact rfl
              · rfl
              · kernel_rfl
              · kernel_rfl
              · kernel_rfl
              · exact fun _ _ _ _ h => h
              apply Exists.intro
              apply And.intro
              · apply yr_run; rfl; intro w' hw'; go_simp; (try with_reducible rfl)
              simp only [Act.put, List.setIfInBounds_toArray, List.set_cons_zero, List.set_cons_succ]
              apply wpR_call 9 (some 90)
              · simp only [List.getElem?_toArray, List.getElem?_cons_succ, List.getElem?_cons_zero]; exact rfl
              · rfl
              · kernel_rfl
              · rfl
              · intro w'; go_simp; first | done | exact ⟨rfl, rfl⟩ | with_reducible rfl
              intro w' hw'
              refine (HSw.out _ _ _ (R5_42.out.bl hw')).mono ?_
              rintro e w49 ⟨⟨A6, c6, rfl, hr6, hf6⟩, hb49⟩
              have FR6 := Lib.hid (fun a e => Nat.le_trans hw'.size (hf6 a e))
              clear hf6
              have R1_49 := Lib.hid ((R1_42.out.bl hw').bl hb49)
              have RO_49 := Lib.hid ((RO_42.out.bl hw').bl hb49)
              have R5_49 := Lib.hid ((R5_42.out.bl hw').bl hb49)
              have Bel_49 := Lib.hid (bel_bl (bel_bl Bel_42.out hw') hb49)
              have ld50 := fun w'' (h : Kept Nil_ w49 w'') => ld43 w'' ((Kept.of_ext hw').trans ((Kept.of_below hb49).trans h))
              have ld51 := fun w'' (h : Kept Nil_ w49 w'') => ld44 w'' ((Kept.of_ext hw').trans ((Kept.of_below hb49).trans h))
              have ld52 := fun w'' (h : Kept Nil_ w49 w'') => ld45 w'' ((Kept.of_ext hw').trans ((Kept.of_below hb49).trans h))
              have ld53 := fun w'' (h : Kept Nil_ w49 w'') => ld46 w'' ((Kept.of_ext hw').trans ((Kept.of_below hb49).trans h))
              have ld54 := fun w'' (h : Kept Nil_ w49 w'') => ld47 w'' ((Kept.of_ext hw').trans ((Kept.of_below hb49).trans h))
              have ld55 := fun w'' (h : Kept Nil_ w49 w'') => ld48 w'' ((Kept.of_ext hw').trans ((Kept.of_below hb49).trans h))
              refine ⟨_, rfl, Kept.of_below hb49, ?_⟩
              clear hw' hb49
              have R6_49 := Lib.hid hr6
              clear hr6
              simp only [Act.put, List.setIfInBounds_toArray, List.set_cons_zero, List.set_cons_succ]
              apply wpR_next 10 (some 6)
              · simp only [List.getElem?_toArray, List.getElem?_cons_succ, List.getElem?_cons_zero]; exact rfl
              · rfl
              · kernel_rfl
              · kernel_rfl
              · kernel_rfl
              · exact fun _ _ _ _ h => h
              apply Exists.intro
              apply And.intro
              · apply yr_run; rfl; intro w' hw'; go_simp; (try with_reducible rfl)
              simp only [Act.put, List.setIfInBounds_toArray, List.set_cons_zero, List.set_cons_succ]
              refine wpR_done (by kernel_rfl) ?_ _
              intro w56 hw'
              have R1_57 := Lib.hid (R1_49.out.bl hw')
              have RO_57 := Lib.hid (RO_49.out.bl hw')
              have R5_57 := Lib.hid (R5_49.out.bl hw')
              have R6_57 := Lib.hid (R6_49.out.bl hw')
              have Bel_57 := Lib.hid (bel_bl Bel_49.out hw')
              clear hw'
              have lc0 : (w56).cell? ⟨b4, off4 + q * 3, none⟩ = some (.int .i64 x.1) := (RO_57.out.dat hl2 GX.out).1
              have lc1 : (w56).cell? ⟨b4, off4 + q * 3 + 1, none⟩ = some (.int .i64 x.2.1) := (RO_57.out.dat hl2 GX.out).2.1
              have lc2 : (w56).cell? ⟨b4, off4 + q * 3 + 2, none⟩ = some (.int .i64 x.2.2) := (RO_57.out.dat hl2 GX.out).2.2
              have HOz := Lib.hid (HOw.out.up Bel_57.out)
              obtain ⟨t1, t2, t3⟩ := dartsV_get (wanD L O q) q (by rw [hWL.out q hq1 hq2, GN.out]; exact hl1)
              have s1 := HOz.out.own.cells (g := g) rfl _ _ t1
              have s2 := HOz.out.own.cells (g := g) rfl _ _ t2
              have s3 := HOz.out.own.cells (g := g) rfl _ _ t3
              simp only [Addr.add_lit, Nat.zero_add] at s1 s2 s3
              have z1 := HOz.out.own.frozenAt (q * 3)
              have z2 := HOz.out.own.frozenAt (q * 3 + 1)
              have z3 := HOz.out.own.frozenAt (q * 3 + 2)
              go_wp2_with fail
              go_roundw
              case rel =>
                have hne : ∀ a, A6 = some a → a.block ≠ g := fun a e => by
                  have h1 := FR6.out a e
                  have h2 : g < y3.heap.size := HGL.out
                  have h3 : y3.heap.size = y3.drew.heap.size := rfl
                  omega
                refine ⟨q + 1, by omega, by omega, by go_num, ⟨A6, c6, T, rfl, ((R6_57.out.far (fun _ => hne) _).far (fun _ => hne) _).far (fun _ => hne) _, HRO.out, fun _ a e g' eg => ?_⟩, ?_⟩
                · cases eg
                  exact hne a e
                · have h9 := own_set3 (k := q) (d := x) HOz.out.own
                  rw [F4.out] at h9
                  exact ⟨h9, ((HOz.out.below.setCell HBG.out _).setCell HBG.out _).setCell HBG.out _, HOz.out.lo, by simpa [World.setCell] using HOz.out.hi⟩
              case measure => simp [intOf]; omega
            · have hTS : turnD R = turnD (wanD L O q) := turn_rot ROT.out (ROT.out.symm.nodup (hWN.out q))
              have HSm := Lib.hid (fun A1 A2 c1 c2 W h1 h2 => same_any A1 A2 j j c1 c2 R (wanD L O q) W h1 h2 (by omega) (by omega))
              rw [hTS, decide_eq_true (rfl : turnD (wanD L O q) = turnD (wanD L O q))] at HSm
              obtain ⟨A8, c8, hv8, hr8⟩ := HOw.out.rds
              subst hv8
              clear hTS FRE
              have RW_58 := Lib.hid (hr8)
              clear hr8
              by_cases hl1 : q < j
              · have hl2 : ¬ q < nO := fun h => hlt ⟨hl1, h⟩
                have hl1i : (q : Int) < (j : Int) := by omega
                have hl2i : ¬ (q : Int) < (nO : Int) := by omega
                clear hlt
                go_wp2_with fail
                refine (HSm.out _ _ _ _ _ R5_41.out RW_58.out).mono ?_
                rintro e w59 ⟨rfl, hb59⟩
                have R1_60 := Lib.hid (R1_40.out.bl hb59)
                have RO_60 := Lib.hid (RO_40.out.bl hb59)
                have R5_60 := Lib.hid (R5_41.out.bl hb59)
                have RW_60 := Lib.hid (RW_58.out.bl hb59)
                have Bel_60 := Lib.hid (bel_bl Bel_40.out hb59)
                clear hb59
                go_wp2
                go_ret
                exact ⟨by simp, Bel_60.out⟩
              · have hl1i : ¬ (q : Int) < (j : Int) := by omega
                clear hlt
                go_wp2_with fail
                refine (HSm.out _ _ _ _ _ R5_41.out RW_58.out).mono ?_
                rintro e w61 ⟨rfl, hb61⟩
                have R1_62 := Lib.hid (R1_40.out.bl hb61)
                have RO_62 := Lib.hid (RO_40.out.bl hb61)
                have R5_62 := Lib.hid (R5_41.out.bl hb61)
                have RW_62 := Lib.hid (RW_58.out.bl hb61)
                have Bel_62 := Lib.hid (bel_bl Bel_40.out hb61)
                clear hb61
                go_wp2
                go_ret
                exact ⟨by simp, Bel_62.out⟩
end Go.Proofs.Ytgbkloilodgjfaa
