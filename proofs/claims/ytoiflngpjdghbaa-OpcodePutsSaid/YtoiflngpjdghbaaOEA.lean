/- 'OpcodePuts' answers true for every row of bytes and every edit.
   No condition beyond the row's own. -/
import Derived.Test.YtoiflngpjdghbaaOAI
import Derived.Test.YtoiflngpjdghbaaRows
import Derived.Test.YtoiflngpjdghbaaOAB

/- OpcodePuts' walk. -/
namespace Go.Proofs.Ytoiflngpjdghbaa
open Go.RowKit
set_option linter.unusedSimpArgs false
set_option linter.unusedVariables false

theorem rput10_any (A0 : Option Addr) (m0 c0 : Nat) (B : List Nat) (A : Option Addr) (n c : Nat) (L : List OpT) (w : World) (hl : B.length = m0) (h0 : RdS w w.heap.size 1 A0 m0 c0 (rowsV f8 B)) (hB : m0 ≤ 90000) (h : RdS w w.heap.size 20 A n c (rowsV opCells L)) (hn : n ≤ 1000000) (ht : ∀ o ∈ L, o.t.size ≤ maxLen) :
    Calls Try.prog 12 #[.slice A0 m0 c0, .agg #[.slice A n c]] w fun e w' => ∃ A' c', e = .returned (.tuple #[.slice A' (pE B L).length c', .int .i64 (mayE L)]) ∧ w'.ownsRow w.heap.size 5 1 (.slice A' (pE B L).length c') (pE B L).length (rowsV f8 (pE B L)) ∧ Below w.heap.size w w' := by
  subst hl
  unfold pE
  by_cases hm : mayE L = 0
  · rw [if_pos hm, hm]
    exact rput_yes A0 c0 B A n c L w h0 hB h ht hm
  · rw [if_neg hm]
    refine (rput_not A0 B.length c0 A n c L w h hn ht hm).mono ?_
    rintro e w' ⟨rfl, hb⟩
    exact ⟨none, 0, rfl, World.ownsRow_nil _ _ _ _, hb⟩
theorem oput10_p (A0 : Option Addr) (m0 c0 : Nat) (B : List Nat) (A : Option Addr) (n c : Nat) (L : List OpT) (w : World) (hl : B.length = m0) (h0 : RdS w w.heap.size 1 A0 m0 c0 (rowsV f8 B)) (hB : m0 ≤ 90000) (h : RdS w w.heap.size 20 A n c (rowsV opCells L)) (hn : n ≤ 1000000) :
    Calls Try.prog 10 #[.slice A0 m0 c0, .agg #[.slice A n c]] w fun e w' => ∃ A' c', e = .returned (.tuple #[.slice A' (pE B L).length c', .int .i64 (mayE L)]) ∧ w'.ownsRow w.heap.size 5 1 (.slice A' (pE B L).length c') (pE B L).length (rowsV f8 (pE B L)) ∧ Below w.heap.size w w' := by
  subst hl
  exact oput_any A0 c0 B A n c L w h0 hB h hn
theorem rds_nil_app {w : World} {B s n c : Nat} {A : Option Addr} {X : List Value} (h : RdS w B s A (0 + n) c ([] ++ X)) : RdS w B s A n c X := by rwa [List.nil_append, Nat.zero_add] at h
theorem pE_lt {B : List Nat} (hb : ∀ b ∈ B, b < 256) (L : List OpT) : ∀ b ∈ pE B L, b < 256 := by
  intro b h
  unfold pE at h
  split at h
  · rcases List.mem_append.1 h with h | h
    · exact hb b h
    · exact edB_lt L b h
  · cases h
set_option maxRecDepth 100000 in
set_option maxHeartbeats 16000000 in
theorem law_puts10 (Am : Option Addr) (nm cm : Nat) (M : List Nat) (A : Option Addr) (n c : Nat) (L : List OpT) (w : World) (hm : RdS w w.heap.size 1 Am nm cm (rowsV f8 M)) (hMb : ∀ b ∈ M, b < 256) (h : RdS w w.heap.size 20 A n c (rowsV opCells L)) (hn : n ≤ maxLen) :
    Calls Try.prog 3 #[.slice Am nm cm, .agg #[.slice A n c]] w fun e w' => e = .returned (.bool true) ∧ Below w.heap.size w w' := by
  obtain ⟨i0, hi, hz0, hz1, hz2⟩ := info_parts_ info_u8
  have HR := Lib.hid (h.al (.cells #[.slice A n c] 25))
  have HRm := Lib.hid (hm.al (.cells #[.slice A n c] 25))
  have HMl : RowKit.Hid (M.length = nm) := Lib.hid (hm.rlen f8_len (by decide))
  have HMb := Lib.hid hMb
  have hmc := hm.le
  have HX0 : RowKit.Hid (Whole (w.alloc (.cells #[.slice A n c] 25)) w.heap.size 25 [.slice A n c]) := Lib.hid (Whole.new_ _ _ [_])
  have HB0 : RowKit.Hid (Below w.heap.size w (w.alloc (.cells #[.slice A n c] 25))) := Lib.hid (below1 _ _)
  have HF := Lib.hid (fun W h => few10_any A n c L W h hn)
  have hel := fewE_len L
  have HEm := Lib.hid (fewE_max L)
  obtain ⟨E, gE⟩ : ∃ z, fewE L = z := ⟨_, rfl⟩
  rw [gE] at HF hel HEm
  obtain ⟨mE, gm⟩ : ∃ z, E.length = z := ⟨_, rfl⟩
  rw [gm] at HF hel
  clear h hm hMb gE gm
  go_enter Try.func3, Try.ntmps3
  go_upto_region 1 with fail
  obtain ⟨w0, gw0⟩ : ∃ z, w.alloc (.cells #[.slice A n c] 25) = z := ⟨_, rfl⟩
  obtain ⟨g0, gg0⟩ : ∃ z, w.heap.size = z := ⟨_, rfl⟩
  rw [gw0] at HR HRm HX0 HB0 ⊢
  rw [gg0] at HX0 ⊢
  clear gw0 gg0
  go_upto_if 13 with (first
    | (go_at_call 9
       refine (shown10_any _).mono ?_
       rintro e w1 ⟨rfl, hb⟩
       have HR1 := Lib.hid (HR.out.bl hb)
       have HRm1 := Lib.hid (HRm.out.bl hb)
       have HX1 := Lib.hid (HX0.out.bl hb)
       have HB1 := Lib.hid (bel_bl HB0.out hb)
       clear hb HR HRm HX0 HB0))
  go_cut [0] (fun v z => ∃ (n9 : Nat) (M9 : List Nat), v = .slice Am n9 cm ∧ n9 ≤ 50 ∧ M9.length = n9 ∧ (∀ b ∈ M9, b < 256) ∧ RdS w1 w1.heap.size 1 Am n9 cm (rowsV f8 M9) ∧ w1 = z)
  case first =>
    by_cases hq : 50 < nm
    · have ht : (50 : Int) < (nm : Int) := by omega
      have h50 : 50 ≤ cm := by omega
      go_wp2_with fail
      go_meet
      refine ⟨50, M.take 50, rfl, Nat.le_refl _, by rw [List.length_take, HMl.out]; omega, fun b hb => HMb.out b (List.mem_of_mem_take hb), ?_, rfl⟩
      have t1 := HRm1.out.take_ 50 (by omega)
      rw [rowsV_map8] at t1 ⊢
      rw [List.map_take]
      exact t1
    · have ht : ¬ (50 : Int) < (nm : Int) := by omega
      go_wp2_with fail
      go_meet
      exact ⟨nm, M, rfl, by omega, HMl.out, HMb.out, HRm1.out, rfl⟩
  case rest =>
  obtain ⟨n9, M9, rfl, hn9, hM9, hMb9, hr9, hz⟩ := hcut
  subst hz
  have HR9 := Lib.hid hr9
  have HMb9 := Lib.hid hMb9
  have HM9 := Lib.hid hM9
  clear hr9 hMb9 hM9 hmc HRm1 HMl HMb
  go_upto_region 4 with fail
  obtain ⟨B0, hB0⟩ : ∃ x, w1.heap.size = x := ⟨_, rfl⟩
  have HB0 := Lib.hid hB0
  have HG1 : RowKit.Hid (g0 < B0) := Lib.hid (by have := HX1.out.lt; omega)
  have EX9 : RowKit.Hid (Ext w1 w1.drew) := Lib.hid ((Below.refl _ _).drew)
  have lC0 : ∀ w', Kept (From_ B0) w1.drew w' → w'.cell? ⟨g0, 0, none⟩ = some (.slice A n c) := fun w' h => h.from_cell HG1.out (EX9.out.cell (HX1.out.cell (i := 0) rfl))
  clear hB0
  refine wp_region_reg (From_ B0) (by kernel_rfl) ?_
  apply wpR_next 1 (some 18)
  · simp only [List.getElem?_toArray, List.getElem?_cons_succ, List.getElem?_cons_zero]; exact rfl
  · rfl
  · kernel_rfl
  · kernel_rfl
  · kernel_rfl
  · first | exact fun _ _ _ _ h => Exit.noConfusion h.1 | exact fun _ _ _ _ h => h
  apply Exists.intro
  apply And.intro
  · apply yr_run; rfl; intro w' hw'; go_simp; (try with_reducible rfl)
  simp only [Act.put, List.setIfInBounds_toArray, List.set_cons_zero, List.set_cons_succ]
  apply wpR_next 3 (some 20)
  · simp only [List.getElem?_toArray, List.getElem?_cons_succ, List.getElem?_cons_zero]; exact rfl
  · rfl
  · kernel_rfl
  · kernel_rfl
  · kernel_rfl
  · first | exact fun _ _ _ _ h => Exit.noConfusion h.1 | exact fun _ _ _ _ h => h
  apply Exists.intro
  apply And.intro
  · apply yr_run; rfl; intro w' hw'; go_simp; (try with_reducible rfl)
  simp only [Act.put, List.setIfInBounds_toArray, List.set_cons_zero, List.set_cons_succ]
  refine wpR_one 0 (by kernel_rfl) ?_
  apply at_run 0 (some 17)
  · simp only [List.getElem?_toArray, List.getElem?_cons_succ, List.getElem?_cons_zero]; exact rfl
  · rfl
  · rfl
  intro w' hw'
  have E_0_2 := Lib.hid (Ext.trans EX9.out (hw'))
  refine ⟨.slice (some ⟨w'.heap.size, 0, none⟩) 0 0, w'.alloc (.cells #[] 5), ?_, Kept.of_below (below1 _ _), ?_⟩
  · go_simp
  have RR_n0_1 : RowKit.Hid (Ow w1 B0 5 1 (.slice (some ⟨w'.heap.size, 0, none⟩) 0 0) 0 [] (w'.alloc (.cells #[] 5))) := Lib.hid (Ow.new_ (e := 5) (size := 1) (cs := #[]) E_0_2.out (Nat.le_of_eq HB0.out) (by have h1 := E_0_2.out.size; have h2 := HB0.out; omega) (n := 0) (Nat.zero_le _) rfl)
  have E_0_3 := Lib.hid (Ext.trans E_0_2.out (below1 w' (.cells #[] 5)))
  have hkk : Kept (From_ B0) w1.drew (w'.alloc (.cells #[] 5)) := (Kept.of_ext hw').trans (Kept.of_below (below1 _ _))
  obtain ⟨v0_4, gv0_4⟩ : ∃ x, w'.alloc (.cells #[] 5) = x := ⟨_, rfl⟩
  rw [gv0_4] at RR_n0_1 E_0_3 hkk ⊢
  have ldt0_5 := fun w'' (h : Kept (From_ B0) v0_4 w'') => lC0 w'' (hkk.trans h)
  clear lC0
  clear gv0_4 hkk
  obtain ⟨g0_1, gg0_1⟩ : ∃ x, w'.heap.size = x := ⟨_, rfl⟩
  rw [gg0_1] at RR_n0_1  ⊢
  clear gg0_1 hw'
  try simp only [Act.put, List.setIfInBounds_toArray, List.set_cons_zero, List.set_cons_succ]
  refine wpR_one 2 (by kernel_rfl) ?_
  apply at_run 2 (some 19)
  · simp only [List.getElem?_toArray, List.getElem?_cons_succ, List.getElem?_cons_zero]; exact rfl
  · rfl
  · rfl
  intro w' hw'
  have RR_0_7 := Lib.hid (Ow.up RR_n0_1.out (hw'))
  have E_0_7 := Lib.hid (Ext.trans E_0_3.out (hw'))
  obtain ⟨vv, w'', hrun, ho, hb, hg, hbk⟩ := Ow.app2 (P := Try.prog) 22 22 5 i0 _ 1 1 _ Try.underlying22 hi hz0 hz1 hz2 rfl (by decide) _ _ _ RR_0_7.out _ _ _ _ _ ((HR9.out.bl E_0_7.out)) (f8_all _) (by unfold maxLen; omega) (by omega)
  refine ⟨vv, w'', exec_append (by rfl) (by rfl) (by rfl) hrun, Kept.of_from hb, ?_⟩
  have E_0_6 : RowKit.Hid (Ext w1 w'') := Lib.hid ho.below
  have hkk : Kept (From_ B0) v0_4 w'' := (Kept.of_ext hw').trans (Kept.of_from hb)
  obtain ⟨AA0_6, cc0_6, rfl, hrr⟩ := ho.rds
  have RR_0_6 := Lib.hid ho
  have URo_0_6 := Lib.hid hrr
  clear hrr
  obtain ⟨z0_6, gz0_6⟩ : ∃ x, w'' = x := ⟨_, rfl⟩
  rw [gz0_6] at RR_0_6 URo_0_6 E_0_6 hkk ⊢
  have ldt0_8 := fun w'' (h : Kept (From_ B0) z0_6 w'') => ldt0_5 w'' (hkk.trans h)
  clear ldt0_5
  clear hkk hrun ho hb hg hbk gz0_6 hw'
  try simp only [Act.put, List.setIfInBounds_toArray, List.set_cons_zero, List.set_cons_succ]
  refine wpR_one 4 (by kernel_rfl) ?_
  apply at_call 4 (some 21)
  · simp only [List.getElem?_toArray, List.getElem?_cons_succ, List.getElem?_cons_zero]; exact rfl
  · rfl
  · rfl
  · intro w'; go_simp; first | done | exact ⟨rfl, rfl⟩ | with_reducible rfl
  intro w' hw'
  have RR_0_10 := Lib.hid (Ow.up RR_0_6.out (hw'))
  have URo_0_10 := Lib.hid (RdS.bl URo_0_6.out (hw'))
  have E_0_10 := Lib.hid (Ext.trans E_0_6.out (hw'))
  refine (HF.out _ (HR1.out.bl E_0_10.out)).mono ?_
  rintro e w'' ⟨A4, c4, rfl, ho4, hb⟩
  have hr4 := own_rds ho4
  have hn4 : ∀ a, A4 = some a → 0 < mE → w'.heap.size ≤ a.block := fun a ha _ => (own_lt ho4 ha).1
  clear ho4
  have NE_R_F_0_9 : RowKit.Hid (∀ a, A4 = some a → 0 < mE → some a.block ≠ _) := Lib.hid (fun a ha hn e => by have h1 := (RR_0_10.out.own.lt _ e.symm).2; have h2 := hn4 a ha hn; omega)
  have RR_0_11 := Lib.hid (Ow.up RR_0_10.out (hb))
  have URo_0_11 := Lib.hid (RdS.bl URo_0_10.out (hb))
  have E_0_11 := Lib.hid (Ext.trans E_0_10.out (hb))
  have UF_0_9 := Lib.hid hr4
  clear hr4 hn4
  have hkk : Kept (From_ B0) z0_6 w'' := (Kept.of_ext hw').trans (Kept.of_below hb)
  refine ⟨_, rfl, Kept.of_below hb, ?_⟩
  obtain ⟨z0_9, gz0_9⟩ : ∃ x, w'' = x := ⟨_, rfl⟩
  rw [gz0_9] at RR_0_11 URo_0_11 UF_0_9 E_0_11 hkk ⊢
  have ldt0_12 := fun w'' (h : Kept (From_ B0) z0_9 w'') => ldt0_8 w'' (hkk.trans h)
  clear ldt0_8
  clear hkk hb gz0_9 hw'
  try simp only [Act.put, List.setIfInBounds_toArray, List.set_cons_zero, List.set_cons_succ]
  refine wpR_one 5 (by kernel_rfl) ?_
  apply at_call 5 (some 22)
  · simp only [List.getElem?_toArray, List.getElem?_cons_succ, List.getElem?_cons_zero]; exact rfl
  · rfl
  · rfl
  · intro w'; go_simp; first | done | exact ⟨rfl, rfl⟩ | with_reducible rfl
  intro w' hw'
  have RR_0_14 := Lib.hid (Ow.up RR_0_11.out (hw'))
  have URo_0_14 := Lib.hid (RdS.bl URo_0_11.out (hw'))
  have UF_0_14 := Lib.hid (RdS.bl UF_0_9.out (hw'))
  have E_0_14 := Lib.hid (Ext.trans E_0_11.out (hw'))
  refine (oput10_p AA0_6 n9 cc0_6 M9 A4 mE c4 E w' HM9.out (rds_nil_app URo_0_14.out) (by omega) UF_0_14.out (by omega)).mono ?_
  rintro e w'' ⟨A5, c5, rfl, ho5, hb⟩
  have hr5 := own_rds ho5
  have hn5 : ∀ a, A5 = some a → 0 < (pE M9 E).length → w'.heap.size ≤ a.block := fun a ha _ => (own_lt ho5 ha).1
  clear ho5
  have NE_R_X_0_13 : RowKit.Hid (∀ a, A5 = some a → 0 < (pE M9 E).length → some a.block ≠ _) := Lib.hid (fun a ha hn e => by have h1 := (RR_0_14.out.own.lt _ e.symm).2; have h2 := hn5 a ha hn; omega)
  have RR_0_15 := Lib.hid (Ow.up RR_0_14.out (hb))
  have URo_0_15 := Lib.hid (RdS.bl URo_0_14.out (hb))
  have UF_0_15 := Lib.hid (RdS.bl UF_0_14.out (hb))
  have E_0_15 := Lib.hid (Ext.trans E_0_14.out (hb))
  have UX_0_13 := Lib.hid hr5
  clear hr5 hn5
  have hkk : Kept (From_ B0) z0_9 w'' := (Kept.of_ext hw').trans (Kept.of_below hb)
  refine ⟨_, rfl, Kept.of_below hb, ?_⟩
  obtain ⟨z0_13, gz0_13⟩ : ∃ x, w'' = x := ⟨_, rfl⟩
  rw [gz0_13] at RR_0_15 URo_0_15 UF_0_15 UX_0_13 E_0_15 hkk ⊢
  have ldt0_16 := fun w'' (h : Kept (From_ B0) z0_13 w'') => ldt0_12 w'' (hkk.trans h)
  clear ldt0_12
  clear hkk hb gz0_13 hw'
  try simp only [Act.put, List.setIfInBounds_toArray, List.set_cons_zero, List.set_cons_succ]
  apply wpR_next 6 (some 16)
  · simp only [List.getElem?_toArray, List.getElem?_cons_succ, List.getElem?_cons_zero]; exact rfl
  · rfl
  · kernel_rfl
  · kernel_rfl
  · kernel_rfl
  · first | exact fun _ _ _ _ h => Exit.noConfusion h.1 | exact fun _ _ _ _ h => h
  apply Exists.intro
  apply And.intro
  · apply yr_run; rfl; intro w' hw'; go_simp; (try with_reducible rfl)
  simp only [Act.put, List.setIfInBounds_toArray, List.set_cons_zero, List.set_cons_succ]
  apply wpR_next 7 (some 23)
  · simp only [List.getElem?_toArray, List.getElem?_cons_succ, List.getElem?_cons_zero]; exact rfl
  · rfl
  · kernel_rfl
  · kernel_rfl
  · kernel_rfl
  · first | exact fun _ _ _ _ h => Exit.noConfusion h.1 | exact fun _ _ _ _ h => h
  apply Exists.intro
  apply And.intro
  · apply yr_run; rfl; intro w' hw'; go_simp; (try with_reducible rfl)
  simp only [Act.put, List.setIfInBounds_toArray, List.set_cons_zero, List.set_cons_succ]
  apply wpR_next 8 (some 24)
  · simp only [List.getElem?_toArray, List.getElem?_cons_succ, List.getElem?_cons_zero]; exact rfl
  · rfl
  · kernel_rfl
  · kernel_rfl
  · kernel_rfl
  · first | exact fun _ _ _ _ h => Exit.noConfusion h.1 | exact fun _ _ _ _ h => h
  apply Exists.intro
  apply And.intro
  · apply yr_run; rfl; intro w' hw'; go_simp; (try with_reducible rfl)
  simp only [Act.put, List.setIfInBounds_toArray, List.set_cons_zero, List.set_cons_succ]
  apply wpR_next 9 (some 6)
  · simp only [List.getElem?_toArray, List.getElem?_cons_succ, List.getElem?_cons_zero]; exact rfl
  · rfl
  · kernel_rfl
  · kernel_rfl
  · kernel_rfl
  · first | exact fun _ _ _ _ h => Exit.noConfusion h.1 | exact fun _ _ _ _ h => h
  apply Exists.intro
  apply And.intro
  · apply yr_run; rfl; intro w' hw'; go_simp; (try with_reducible rfl)
  simp only [Act.put, List.setIfInBounds_toArray, List.set_cons_zero, List.set_cons_succ]
  apply wpR_next 10 (some 7)
  · simp only [List.getElem?_toArray, List.getElem?_cons_succ, List.getElem?_cons_zero]; exact rfl
  · rfl
  · kernel_rfl
  · kernel_rfl
  · kernel_rfl
  · first | exact fun _ _ _ _ h => Exit.noConfusion h.1 | exact fun _ _ _ _ h => h
  apply Exists.intro
  apply And.intro
  · apply yr_run; rfl; intro w' hw'; go_simp; (try with_reducible rfl)
  simp only [Act.put, List.setIfInBounds_toArray, List.set_cons_zero, List.set_cons_succ]
  refine wpR_done (by kernel_rfl) ?_ _
  intro wE hwE
  skip
  have hE : Ext w1 wE := Ext.trans E_0_15.out hwE
  have HX2 := Lib.hid (HX1.out.bl hE)
  have HR2 := Lib.hid (HR1.out.bl hE)
  have HRm2 := Lib.hid (HR9.out.bl hE)
  have HB2 := Lib.hid (bel_bl HB1.out hE)
  have HP2 := Lib.hid (UX_0_13.out.bl hwE)
  obtain ⟨w2, gw2⟩ : ∃ z, wE = z := ⟨_, rfl⟩
  rw [gw2] at HX2 HR2 HRm2 HB2 HP2 ⊢
  clear gw2 hE hwE ldt0_16
  have hPb := pE_lt HMb9.out E
  have hte := txt_eq hPb hPb
  rw [decide_eq_true rfl] at hte
  have Hte := Lib.hid hte
  clear hte hPb
  have d0 := HX2.out.cell (i := 0) rfl
  go_upto_region 6 with (first
    | (go_at_call 11
       refine (HF.out _ HR2.out).mono ?_
       rintro e w3 ⟨A3, c3, rfl, ho, hb⟩
       have HR3 := Lib.hid (own_rds ho)
       have HRm3 := Lib.hid (HRm2.out.bl hb)
       have HB3 := Lib.hid (bel_bl HB2.out hb)
       have HP3 := Lib.hid (HP2.out.bl hb)
       clear ho hb d0)
    | (go_at_call 12
       refine (rput10_any Am n9 cm M9 A3 mE c3 E _ HM9.out HRm3.out (by omega) HR3.out (by omega) HEm.out).mono ?_
       rintro e w4 ⟨A4', c4', rfl, ho, hb⟩
       have HB4 := Lib.hid (bel_bl HB3.out hb)
       have HP4 := Lib.hid (HP3.out.bl hb)
       have HQ4 := Lib.hid (own_rds ho)
       clear ho hb))
  have hc1 := conv_txt HP4.out
  have hc2 := conv_txt HQ4.out
  have hte := Hte.out
  obtain ⟨x, gx⟩ : ∃ z, mayE E = z := ⟨_, rfl⟩
  rw [gx]
  clear gx
  go_wp2
  go_ret
  exact ⟨by simp, HB4.out⟩
end Go.Proofs.Ytoiflngpjdghbaa

/- 'OpcodePuts' answers true for every row of bytes and every edit.
   No condition beyond the row's own. -/
namespace Go.Proofs.Ytoiflngpjdghbaa
open Go.ChangeShapes Go.WideShapes Go.ChangeAt Go.RowKit
namespace lawOpcodePuts

set_option maxRecDepth 100000 in
theorem contract (H : Type) (enc : TypeId × Value → H) (W : World) (base : Nat) (args : Array Value) (ds gs : List (DataW H)) (before : List MemPlace)
    (hval : ∀ (j : Nat) t v, Try.f3.params[j]? = some t → args[j]? = some v → Value.okWide Try.prog W .any base t v)
    (hW : DataW.Whole enc Try.prog Try.f3.params.toList Rows.opcodePutsSpec.vars false W args.toList ds gs before) :
    Calls Try.prog 3 args W fun e W' => ∃ v, e = .returned v ∧ Rows.opcodePutsSpec.post enc Try.prog Try.f3 false true false false W args v W' := by
  have hW' := hW
  obtain ⟨p, q, hA, hV, rfl, hfz, hnd⟩ := hW
  obtain ⟨rfl, rfl⟩ := trodVars_none hV
  rw [Try.params3] at hA hval
  obtain ⟨v0, v1, d0, d1, p0, p1, rfl, rfl, rfl, h0, h1⟩ := trodAll_two hA
  obtain ⟨m, rfl, hx0⟩ := open_row1_slice (row1_byte H) Try.underlying22 (by kernel_rfl) f8_len (by decide) (hval 0 22 v0 rfl rfl) h0
  obtain ⟨a, rfl, hx1⟩ := open_row1_struct (row1_edit H) Try.underlying25 (hval 1 25 v1 rfl rfl) h1
  refine (law_puts10 m.1 m.2.1 m.2.2.1 m.2.2.2 a.1 a.2.1 a.2.2.1 a.2.2.2 W hx0.2.1 hx0.2.2 hx1.2.1 (Nat.le_trans hx1.2.1.le hx1.1)).mono fun e W' ⟨he, hb⟩ => ⟨_, he, ?_⟩
  exact law_post Try.laidOut (by kernel_rfl) (tb := 4) (by kernel_rfl) Try.underlying4 rfl ⟨rfl, rfl, rfl⟩ hW' hb

set_option maxRecDepth 100000 in
theorem lifted (os : Os) (started : os.Started) (H : Type) (enc : TypeId × Value → H) :
    ReturnsInHanded {} Try.checked os 3 .any (Rows.opcodePutsSpec.pre6 enc Try.prog Try.f3 Rows.opcodePutsRow.domain false) (Rows.opcodePutsSpec.post enc Try.prog Try.f3 false true false false) := by
  refine returnsInHanded_of_change (C := Try.checked) Try.own started (by kernel_rfl) Try.func3
    (ChangeSpec.witness6 (enc := enc) (C := Try.checked) false ⟨#[], #[.slice none 0 0, .agg #[.slice none 0 0]], []⟩ 8 (by kernel_rfl) (by kernel_rfl) (by kernel_rfl) (by kernel_rfl)) ?_
  intro W base args ds gs before hval hW _ _
  exact contract H enc W base args ds gs before hval hW

theorem proved : Rows.OpcodePutsSaid :=
  OpenClaim.holds_of_wide 3 Try.f3 rfl rfl rfl rfl rfl rfl rfl ⟨rfl, rfl, rfl, rfl, rfl⟩ rfl rfl rfl rfl rfl (by kernel_rfl) Try.func3 (by kernel_rfl)
    (of_decide_eq_true (by kernel_rfl)) (by unfold Func.isWrapper; first | (rw [if_pos (by decide +kernel)]; kernel_rfl) | (rw [if_neg (by decide +kernel)]; exact ⟨rfl, rfl⟩))
    (fun os started H enc _ => lifted os started H enc)
end lawOpcodePuts
end Go.Proofs.Ytoiflngpjdghbaa
