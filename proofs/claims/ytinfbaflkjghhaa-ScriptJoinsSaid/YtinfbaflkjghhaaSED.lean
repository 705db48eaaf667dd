/- Several texts in one. -/
import Derived.Test.YtinfbaflkjghhaaSEA
import Derived.Test.YtinfbaflkjghhaaSEC
/- opcode.fields. -/
set_option linter.unusedSimpArgs false
set_option linter.unusedVariables false
namespace Go.Proofs.Ytinfbaflkjghhaa
open Go.RowKit
theorem g8_parts {k : FuncId} {ar : Array Value} {w : World} {L : List Nat} {n : Nat} (hn : L.length = n) (h : Calls Try.prog k ar w (Gives8 w L)) : Calls Try.prog k ar w fun e w' => ∃ A c, e = .returned (.slice A n c) ∧ RdS w' w'.heap.size 1 A n c (rowsV f8 L) ∧ (∀ a, A = some a → 0 < n → w.heap.size ≤ a.block) ∧ w'.ownsRow w.heap.size 5 1 (.slice A n c) n (rowsV f8 L) ∧ Below w.heap.size w w' := by
  subst hn
  exact h
theorem crB_len (c : C5) : ∃ n, (crB c).length = n ∧ 1 ≤ n ∧ n ≤ 9 := by
  refine ⟨_, rfl, ?_, ?_⟩ <;> unfold crB <;> split <;> simp [idB]
set_option maxRecDepth 100000 in
set_option maxHeartbeats 4000000 in
theorem fields_3 (o : OpT) (hk : o.k = 3) (hs : o.t.size ≤ 100000) (w : World) : Calls Try.prog 43 #[.agg (opCells o).toArray] w (Gives8 w (fdB o)) := by
  obtain ⟨i0, hi, hz0, hz1, hz2⟩ := info_parts_ info_u8
  have HL : RowKit.Hid (fdB o = crB o.ca ++ crB o.cb) := Lib.hid (by unfold fdB; rw [if_pos hk])
  have q3 : (o.k == 3) = true := by rw [hk]; rfl
  obtain ⟨na, gna, na1, na2⟩ := crB_len o.ca
  obtain ⟨nb, gnb, nb1, nb2⟩ := crB_len o.cb
  have Gna := Lib.hid gna
  have Gnb := Lib.hid gnb
  have HCA : RowKit.Hid (∀ W, _) := Lib.hid (fun W => g8_parts gna (ocorner_any o.a0 o.a1 o.a2 o.a3 o.a4 W))
  have HCB : RowKit.Hid (∀ W, _) := Lib.hid (fun W => g8_parts gnb (ocorner_any o.b0 o.b1 o.b2 o.b3 o.b4 W))
  clear gna gnb
  have HX : RowKit.Hid (Whole (w.alloc (.cells (opCells o).toArray 53)) w.heap.size 53 (opCells o)) := Lib.hid (Whole.new_ _ _ _)
  have HB1 : RowKit.Hid (Below w.heap.size w (w.alloc (.cells (opCells o).toArray 53))) := Lib.hid (below1 _ _)
  clear hk
  go_enter Try.func43, Try.ntmps43
  go_upto_region 1 with fail
  obtain ⟨w1, gw1⟩ : ∃ z, w.alloc (.cells (opCells o).toArray 53) = z := ⟨_, rfl⟩
  rw [gw1] at HX HB1 ⊢
  obtain ⟨g0, gg0⟩ : ∃ z, w.heap.size = z := ⟨_, rfl⟩
  rw [gg0] at HX ⊢
  clear gw1 gg0
  have c0 := HX.out.cell (i := 0) rfl
  go_upto_region 3 with fail
  clear c0 q3
  obtain ⟨B0, hB0⟩ : ∃ x, w1.heap.size = x := ⟨_, rfl⟩
  have HB0 := Lib.hid hB0
  have HG1 : RowKit.Hid (g0 < B0) := Lib.hid (by have := HX.out.lt; omega)
  have EX9 : RowKit.Hid (Ext w1 w1.drew) := Lib.hid ((Below.refl _ _).drew)
  have lC7 : ∀ w', Kept (From_ B0) w1.drew w' → w'.cell? ⟨g0, 7, none⟩ = some (.int .i64 o.a0) := fun w' h => h.from_cell HG1.out (EX9.out.cell (HX.out.cell (i := 7) rfl))
  have lC8 : ∀ w', Kept (From_ B0) w1.drew w' → w'.cell? ⟨g0, 8, none⟩ = some (.int .i64 o.a1) := fun w' h => h.from_cell HG1.out (EX9.out.cell (HX.out.cell (i := 8) rfl))
  have lC9 : ∀ w', Kept (From_ B0) w1.drew w' → w'.cell? ⟨g0, 9, none⟩ = some (.int .i64 o.a2) := fun w' h => h.from_cell HG1.out (EX9.out.cell (HX.out.cell (i := 9) rfl))
  have lC10 : ∀ w', Kept (From_ B0) w1.drew w' → w'.cell? ⟨g0, 10, none⟩ = some (.int .i64 o.a3) := fun w' h => h.from_cell HG1.out (EX9.out.cell (HX.out.cell (i := 10) rfl))
  have lC11 : ∀ w', Kept (From_ B0) w1.drew w' → w'.cell? ⟨g0, 11, none⟩ = some (.int .i64 o.a4) := fun w' h => h.from_cell HG1.out (EX9.out.cell (HX.out.cell (i := 11) rfl))
  have lC12 : ∀ w', Kept (From_ B0) w1.drew w' → w'.cell? ⟨g0, 12, none⟩ = some (.int .i64 o.b0) := fun w' h => h.from_cell HG1.out (EX9.out.cell (HX.out.cell (i := 12) rfl))
  have lC13 : ∀ w', Kept (From_ B0) w1.drew w' → w'.cell? ⟨g0, 13, none⟩ = some (.int .i64 o.b1) := fun w' h => h.from_cell HG1.out (EX9.out.cell (HX.out.cell (i := 13) rfl))
  have lC14 : ∀ w', Kept (From_ B0) w1.drew w' → w'.cell? ⟨g0, 14, none⟩ = some (.int .i64 o.b2) := fun w' h => h.from_cell HG1.out (EX9.out.cell (HX.out.cell (i := 14) rfl))
  have lC15 : ∀ w', Kept (From_ B0) w1.drew w' → w'.cell? ⟨g0, 15, none⟩ = some (.int .i64 o.b3) := fun w' h => h.from_cell HG1.out (EX9.out.cell (HX.out.cell (i := 15) rfl))
  have lC16 : ∀ w', Kept (From_ B0) w1.drew w' → w'.cell? ⟨g0, 16, none⟩ = some (.int .i64 o.b4) := fun w' h => h.from_cell HG1.out (EX9.out.cell (HX.out.cell (i := 16) rfl))
  clear hB0
  refine wp_region_reg (From_ B0) (by kernel_rfl) ?_
  apply wpR_next 0 (some 7)
  · rfl
  · rfl
  · kernel_rfl
  · kernel_rfl
  · kernel_rfl
  · first | exact fun _ _ _ _ h => Exit.noConfusion h.1 | exact fun _ _ _ _ h => h
  apply Exists.intro
  apply And.intro
  · apply yr_run; rfl; intro w' hw'; go_simp; (try with_reducible rfl)
  simp only [Act.put, stA_, st0_, st1_]
  apply wpR_next 1 (some 8)
  · rfl
  · rfl
  · kernel_rfl
  · kernel_rfl
  · kernel_rfl
  · first | exact fun _ _ _ _ h => Exit.noConfusion h.1 | exact fun _ _ _ _ h => h
  apply Exists.intro
  apply And.intro
  · apply yr_run; rfl; intro w' hw'; go_simp; (try with_reducible rfl)
  simp only [Act.put, stA_, st0_, st1_]
  apply wpR_next 3 (some 10)
  · rfl
  · rfl
  · kernel_rfl
  · kernel_rfl
  · kernel_rfl
  · first | exact fun _ _ _ _ h => Exit.noConfusion h.1 | exact fun _ _ _ _ h => h
  apply Exists.intro
  apply And.intro
  · apply yr_run; rfl; intro w' hw'; go_simp; (try with_reducible rfl)
  simp only [Act.put, stA_, st0_, st1_]
  apply wpR_next 4 (some 11)
  · rfl
  · rfl
  · kernel_rfl
  · kernel_rfl
  · kernel_rfl
  · first | exact fun _ _ _ _ h => Exit.noConfusion h.1 | exact fun _ _ _ _ h => h
  apply Exists.intro
  apply And.intro
  · apply yr_run; rfl; intro w' hw'; go_simp; (try with_reducible rfl)
  simp only [Act.put, stA_, st0_, st1_]
  refine wpR_one 2 (by kernel_rfl) ?_
  apply at_call 2 (some 9)
  · rfl
  · rfl
  · rfl
  · intro w'; go_simp; first | done | exact ⟨rfl, rfl⟩ | with_reducible rfl
  intro w' hw'
  have E_0_2 := Lib.hid (Ext.trans EX9.out (hw'))
  refine (HCA.out _).mono ?_
  rintro e w'' ⟨AA0_1, cc0_1, rfl, -, -, hown, hb⟩
  have E_0_3 := Lib.hid (Ext.trans E_0_2.out (hb))
  have RR_n0_1 : RowKit.Hid (Ow w1 B0 5 1 (.slice AA0_1 na cc0_1) na (rowsV f8 (crB o.ca)) w'') := Lib.hid ⟨own_lo8 hown (by have h1 := E_0_2.out.size; have h2 := HB0.out; omega), E_0_3.out, Nat.le_of_eq HB0.out, by have h1 := E_0_3.out.size; have h2 := HB0.out; omega⟩
  have hkk : Kept (From_ B0) w1.drew w'' := (Kept.of_ext hw').trans (Kept.of_below hb)
  refine ⟨_, rfl, Kept.of_below hb, ?_⟩
  obtain ⟨z0_1, gz0_1⟩ : ∃ x, w'' = x := ⟨_, rfl⟩
  rw [gz0_1] at RR_n0_1 E_0_3 hkk ⊢
  have ldt0_4 := fun w'' (h : Kept (From_ B0) z0_1 w'') => lC7 w'' (hkk.trans h)
  have ldt0_5 := fun w'' (h : Kept (From_ B0) z0_1 w'') => lC8 w'' (hkk.trans h)
  have ldt0_6 := fun w'' (h : Kept (From_ B0) z0_1 w'') => lC9 w'' (hkk.trans h)
  have ldt0_7 := fun w'' (h : Kept (From_ B0) z0_1 w'') => lC10 w'' (hkk.trans h)
  have ldt0_8 := fun w'' (h : Kept (From_ B0) z0_1 w'') => lC11 w'' (hkk.trans h)
  have ldt0_9 := fun w'' (h : Kept (From_ B0) z0_1 w'') => lC12 w'' (hkk.trans h)
  have ldt0_10 := fun w'' (h : Kept (From_ B0) z0_1 w'') => lC13 w'' (hkk.trans h)
  have ldt0_11 := fun w'' (h : Kept (From_ B0) z0_1 w'') => lC14 w'' (hkk.trans h)
  have ldt0_12 := fun w'' (h : Kept (From_ B0) z0_1 w'') => lC15 w'' (hkk.trans h)
  have ldt0_13 := fun w'' (h : Kept (From_ B0) z0_1 w'') => lC16 w'' (hkk.trans h)
  clear lC7 lC8 lC9 lC10 lC11 lC12 lC13 lC14 lC15 lC16
  clear hkk hown hb gz0_1 hw'
  try simp only [Act.put, stA_, st0_, st1_]
  refine wpR_one 5 (by kernel_rfl) ?_
  apply at_call 5 (some 12)
  · rfl
  · rfl
  · rfl
  · intro w'; go_simp; first | done | exact ⟨rfl, rfl⟩ | with_reducible rfl
  intro w' hw'
  have RR_0_15 := Lib.hid (Ow.up RR_n0_1.out (hw'))
  have E_0_15 := Lib.hid (Ext.trans E_0_3.out (hw'))
  refine (HCB.out _).mono ?_
  rintro e w'' ⟨A3, c3, rfl, hr3, hn3, -, hb⟩
  have NE_R_N_0_14 : RowKit.Hid (∀ a, A3 = some a → 0 < nb → some a.block ≠ _) := Lib.hid (fun a ha hn e => by have h1 := (RR_0_15.out.own.lt _ e.symm).2; have h2 := hn3 a ha hn; omega)
  have RR_0_16 := Lib.hid (Ow.up RR_0_15.out (hb))
  have E_0_16 := Lib.hid (Ext.trans E_0_15.out (hb))
  have UN_0_14 := Lib.hid hr3
  clear hr3 hn3
  have hkk : Kept (From_ B0) z0_1 w'' := (Kept.of_ext hw').trans (Kept.of_below hb)
  refine ⟨_, rfl, Kept.of_below hb, ?_⟩
  obtain ⟨z0_14, gz0_14⟩ : ∃ x, w'' = x := ⟨_, rfl⟩
  rw [gz0_14] at RR_0_16 UN_0_14 E_0_16 hkk ⊢
  have ldt0_17 := fun w'' (h : Kept (From_ B0) z0_14 w'') => ldt0_4 w'' (hkk.trans h)
  have ldt0_18 := fun w'' (h : Kept (From_ B0) z0_14 w'') => ldt0_5 w'' (hkk.trans h)
  have ldt0_19 := fun w'' (h : Kept (From_ B0) z0_14 w'') => ldt0_6 w'' (hkk.trans h)
  have ldt0_20 := fun w'' (h : Kept (From_ B0) z0_14 w'') => ldt0_7 w'' (hkk.trans h)
  have ldt0_21 := fun w'' (h : Kept (From_ B0) z0_14 w'') => ldt0_8 w'' (hkk.trans h)
  have ldt0_22 := fun w'' (h : Kept (From_ B0) z0_14 w'') => ldt0_9 w'' (hkk.trans h)
  have ldt0_23 := fun w'' (h : Kept (From_ B0) z0_14 w'') => ldt0_10 w'' (hkk.trans h)
  have ldt0_24 := fun w'' (h : Kept (From_ B0) z0_14 w'') => ldt0_11 w'' (hkk.trans h)
  have ldt0_25 := fun w'' (h : Kept (From_ B0) z0_14 w'') => ldt0_12 w'' (hkk.trans h)
  have ldt0_26 := fun w'' (h : Kept (From_ B0) z0_14 w'') => ldt0_13 w'' (hkk.trans h)
  clear ldt0_4 ldt0_5 ldt0_6 ldt0_7 ldt0_8 ldt0_9 ldt0_10 ldt0_11 ldt0_12 ldt0_13
  clear hkk hb gz0_14 hw'
  try simp only [Act.put, stA_, st0_, st1_]
  refine wpR_one 6 (by kernel_rfl) ?_
  apply at_run 6 (some 13)
  · rfl
  · rfl
  · rfl
  intro w' hw'
  have RR_0_28 := Lib.hid (Ow.up RR_0_16.out (hw'))
  have UN_0_28 := Lib.hid (RdS.bl UN_0_14.out (hw'))
  have E_0_28 := Lib.hid (Ext.trans E_0_16.out (hw'))
  obtain ⟨vv, w'', hrun, ho, hb, hg, hbk⟩ := Ow.app2 (P := Try.prog) 23 23 5 i0 _ 1 1 _ Try.underlying23 hi hz0 hz1 hz2 rfl (by decide) _ _ _ RR_0_28.out _ _ _ _ _ (UN_0_28.out) (f8_all _) (by unfold maxLen; omega) (by omega)
  refine ⟨vv, w'', exec_append (by rfl) (by rfl) (by rfl) hrun, Kept.of_from hb, ?_⟩
  have UN_0_27 := Lib.hid (RdS.grown UN_0_28.out hg NE_R_N_0_14.out)
  have NE_R_N_0_27 : RowKit.Hid (∀ a, A3 = some a → 0 < nb → some a.block ≠ _) := Lib.hid (fun a ha hn => Ow.ne2 (NE_R_N_0_14.out a ha hn) (UN_0_28.out.low a ha hn) hbk)
  have E_0_27 : RowKit.Hid (Ext w1 w'') := Lib.hid ho.below
  have hkk : Kept (From_ B0) z0_14 w'' := (Kept.of_ext hw').trans (Kept.of_from hb)
  obtain ⟨AA0_27, cc0_27, rfl, hrr⟩ := ho.rds
  have RR_0_27 := Lib.hid ho
  clear hrr
  obtain ⟨z0_27, gz0_27⟩ : ∃ x, w'' = x := ⟨_, rfl⟩
  rw [gz0_27] at RR_0_27 UN_0_27 E_0_27 hkk ⊢
  have ldt0_29 := fun w'' (h : Kept (From_ B0) z0_27 w'') => ldt0_17 w'' (hkk.trans h)
  have ldt0_30 := fun w'' (h : Kept (From_ B0) z0_27 w'') => ldt0_18 w'' (hkk.trans h)
  have ldt0_31 := fun w'' (h : Kept (From_ B0) z0_27 w'') => ldt0_19 w'' (hkk.trans h)
  have ldt0_32 := fun w'' (h : Kept (From_ B0) z0_27 w'') => ldt0_20 w'' (hkk.trans h)
  have ldt0_33 := fun w'' (h : Kept (From_ B0) z0_27 w'') => ldt0_21 w'' (hkk.trans h)
  have ldt0_34 := fun w'' (h : Kept (From_ B0) z0_27 w'') => ldt0_22 w'' (hkk.trans h)
  have ldt0_35 := fun w'' (h : Kept (From_ B0) z0_27 w'') => ldt0_23 w'' (hkk.trans h)
  have ldt0_36 := fun w'' (h : Kept (From_ B0) z0_27 w'') => ldt0_24 w'' (hkk.trans h)
  have ldt0_37 := fun w'' (h : Kept (From_ B0) z0_27 w'') => ldt0_25 w'' (hkk.trans h)
  have ldt0_38 := fun w'' (h : Kept (From_ B0) z0_27 w'') => ldt0_26 w'' (hkk.trans h)
  clear ldt0_17 ldt0_18 ldt0_19 ldt0_20 ldt0_21 ldt0_22 ldt0_23 ldt0_24 ldt0_25 ldt0_26
  clear hkk hrun ho hb hg hbk gz0_27 hw'
  try simp only [Act.put, stA_, st0_, st1_]
  apply wpR_next 7 (some 2)
  · rfl
  · rfl
  · kernel_rfl
  · kernel_rfl
  · kernel_rfl
  · first | exact fun _ _ _ _ h => Exit.noConfusion h.1 | exact fun _ _ _ _ h => h
  apply Exists.intro
  apply And.intro
  · apply yr_run; rfl; intro w' hw'; go_simp; (try with_reducible rfl)
  simp only [Act.put, stA_, st0_, st1_]
  refine wpR_done (by kernel_rfl) ?_ _
  intro wE hwE
  skip
  have ho := (RR_0_27.out.up hwE)
  rw [← rowsV_app] at ho
  obtain ⟨A9, c9, e9, hG⟩ := gives8_ow (w := w1) (L := crB o.ca ++ crB o.cb) (by rw [List.length_append, Gna.out, Gnb.out]) (⟨own_lo8 ho.own (Nat.le_of_eq HB0.out), ho.below, Nat.le_refl _, ho.below.size⟩ : Ow w1 w1.heap.size 5 1 _ _ _ _)
  rw [← HL.out] at hG
  try rw [← HL.out] at e9
  have HG := Lib.hid (Gives8.from_ hG HB1.out)
  have HE := Lib.hid e9
  clear ho hG hwE e9 ldt0_29 ldt0_30 ldt0_31 ldt0_32 ldt0_33 ldt0_34 ldt0_35 ldt0_36 ldt0_37 ldt0_38
  go_wp2
  go_ret
  exact HE.out ▸ HG.out
set_option maxRecDepth 100000 in
set_option maxHeartbeats 4000000 in
theorem fields_6 (o : OpT) (hk : o.k = 6) (hs : o.t.size ≤ 100000) (w : World) : Calls Try.prog 43 #[.agg (opCells o).toArray] w (Gives8 w (fdB o)) := by
  obtain ⟨i0, hi, hz0, hz1, hz2⟩ := info_parts_ info_u8
  have HL : RowKit.Hid (fdB o = idB (o.s2, o.n2)) := Lib.hid (by unfold fdB; rw [if_neg (by omega), if_neg (by omega), if_pos hk])
  have q3 : (o.k == 3) = false := by rw [hk]; rfl
  have q5 : (o.k == 5) = false := by rw [hk]; rfl
  have q6 : (o.k == 6) = true := by rw [hk]; rfl
  have HX : RowKit.Hid (Whole (w.alloc (.cells (opCells o).toArray 53)) w.heap.size 53 (opCells o)) := Lib.hid (Whole.new_ _ _ _)
  have HB1 : RowKit.Hid (Below w.heap.size w (w.alloc (.cells (opCells o).toArray 53))) := Lib.hid (below1 _ _)
  clear hk
  go_enter Try.func43, Try.ntmps43
  go_upto_region 1 with fail
  obtain ⟨w1, gw1⟩ : ∃ z, w.alloc (.cells (opCells o).toArray 53) = z := ⟨_, rfl⟩
  rw [gw1] at HX HB1 ⊢
  obtain ⟨g0, gg0⟩ : ∃ z, w.heap.size = z := ⟨_, rfl⟩
  rw [gg0] at HX ⊢
  clear gw1 gg0
  have c0 := HX.out.cell (i := 0) rfl
  have c5 := HX.out.cell (i := 5) rfl
  have c6 := HX.out.cell (i := 6) rfl
  go_wp2_with (first
    | (go_at_call 42
       refine (oname_any o.s2 o.n2 _).mono ?_
       rintro e w2 ⟨A, c, rfl, h2, h3, h4, h5⟩
       have HG := Lib.hid (Gives8.from_ (w := w) ⟨A, c, rfl, h2, h3, h4, h5⟩ HB1.out)
       clear h2 h3 h4 h5))
  rw [HL.out]
  go_ret
  exact HG.out
set_option maxRecDepth 100000 in
set_option maxHeartbeats 4000000 in
theorem fields_0 (o : OpT) (k3 : o.k ≠ 3) (k5 : o.k ≠ 5) (k6 : o.k ≠ 6) (k7 : o.k ≠ 7) (k8 : o.k ≠ 8) (w : World) : Calls Try.prog 43 #[.agg (opCells o).toArray] w (Gives8 w (fdB o)) := by
  have HL : RowKit.Hid (fdB o = []) := Lib.hid (by unfold fdB; rw [if_neg k3, if_neg k5, if_neg k6, if_neg k7, if_neg k8])
  have q3 : (o.k == 3) = false := by simpa using k3
  have q5 : (o.k == 5) = false := by simpa using k5
  have q6 : (o.k == 6) = false := by simpa using k6
  have q7 : (o.k == 7) = false := by simpa using k7
  have q8 : (o.k == 8) = false := by simpa using k8
  have HX : RowKit.Hid (Whole (w.alloc (.cells (opCells o).toArray 53)) w.heap.size 53 (opCells o)) := Lib.hid (Whole.new_ _ _ _)
  have HB1 : RowKit.Hid (Below w.heap.size w (w.alloc (.cells (opCells o).toArray 53))) := Lib.hid (below1 _ _)
  clear k3 k5 k6 k7 k8
  go_enter Try.func43, Try.ntmps43
  go_upto_region 1 with fail
  obtain ⟨w1, gw1⟩ : ∃ z, w.alloc (.cells (opCells o).toArray 53) = z := ⟨_, rfl⟩
  rw [gw1] at HX HB1 ⊢
  obtain ⟨g0, gg0⟩ : ∃ z, w.heap.size = z := ⟨_, rfl⟩
  rw [gg0] at HX ⊢
  have Gg0 := Lib.hid gg0
  clear gw1 gg0
  have c0 := HX.out.cell (i := 0) rfl
  go_wp2
  rw [HL.out]
  go_ret
  exact ⟨none, 0, rfl, rds_nil _ _ _, fun a ha => (by cases ha), World.ownsRow_nil _ _ _ _, HB1.out⟩
set_option maxRecDepth 100000 in
set_option maxHeartbeats 4000000 in
theorem fields_5 (o : OpT) (hk : o.k = 5) (hs : o.t.size ≤ 100000) (w : World) : Calls Try.prog 43 #[.agg (opCells o).toArray] w (Gives8 w (fdB o)) := by
  obtain ⟨i0, hi, hz0, hz1, hz2⟩ := info_parts_ info_u8
  have HL : RowKit.Hid (fdB o = idB (o.s1, o.n1) ++ (idB (o.s2, o.n2) ++ [(o.m % 256).toNat])) := Lib.hid (by unfold fdB; rw [if_neg (by omega), if_pos hk])
  have q3 : (o.k == 3) = false := by rw [hk]; rfl
  have q5 : (o.k == 5) = true := by rw [hk]; rfl
  have HX : RowKit.Hid (Whole (w.alloc (.cells (opCells o).toArray 53)) w.heap.size 53 (opCells o)) := Lib.hid (Whole.new_ _ _ _)
  have HB1 : RowKit.Hid (Below w.heap.size w (w.alloc (.cells (opCells o).toArray 53))) := Lib.hid (below1 _ _)
  clear hk
  go_enter Try.func43, Try.ntmps43
  go_upto_region 1 with fail
  obtain ⟨w1, gw1⟩ : ∃ z, w.alloc (.cells (opCells o).toArray 53) = z := ⟨_, rfl⟩
  rw [gw1] at HX HB1 ⊢
  obtain ⟨g0, gg0⟩ : ∃ z, w.heap.size = z := ⟨_, rfl⟩
  rw [gg0] at HX ⊢
  clear gw1 gg0
  have c0 := HX.out.cell (i := 0) rfl
  go_upto_region 5 with fail
  clear c0 q3 q5
  obtain ⟨q, gq⟩ : ∃ q, (o.m % 256).toNat = q := ⟨_, rfl⟩
  rw [gq] at HL
  have hu : IntKind.u8.wrap o.m = (q : Int) := by rw [IntKind.wrap_u8]; omega
  clear gq
  obtain ⟨B0, hB0⟩ : ∃ x, w1.heap.size = x := ⟨_, rfl⟩
  have HB0 := Lib.hid hB0
  have HG1 : RowKit.Hid (g0 < B0) := Lib.hid (by have := HX.out.lt; omega)
  have EX9 : RowKit.Hid (Ext w1 w1.drew) := Lib.hid ((Below.refl _ _).drew)
  have lC3 : ∀ w', Kept (From_ B0) w1.drew w' → w'.cell? ⟨g0, 3, none⟩ = some (.int .i64 o.s1) := fun w' h => h.from_cell HG1.out (EX9.out.cell (HX.out.cell (i := 3) rfl))
  have lC4 : ∀ w', Kept (From_ B0) w1.drew w' → w'.cell? ⟨g0, 4, none⟩ = some (.int .i64 o.n1) := fun w' h => h.from_cell HG1.out (EX9.out.cell (HX.out.cell (i := 4) rfl))
  have lC5 : ∀ w', Kept (From_ B0) w1.drew w' → w'.cell? ⟨g0, 5, none⟩ = some (.int .i64 o.s2) := fun w' h => h.from_cell HG1.out (EX9.out.cell (HX.out.cell (i := 5) rfl))
  have lC6 : ∀ w', Kept (From_ B0) w1.drew w' → w'.cell? ⟨g0, 6, none⟩ = some (.int .i64 o.n2) := fun w' h => h.from_cell HG1.out (EX9.out.cell (HX.out.cell (i := 6) rfl))
  have lC19 : ∀ w', Kept (From_ B0) w1.drew w' → w'.cell? ⟨g0, 19, none⟩ = some (.int .i64 o.m) := fun w' h => h.from_cell HG1.out (EX9.out.cell (HX.out.cell (i := 19) rfl))
  clear hB0
  refine wp_region_reg (From_ B0) (by kernel_rfl) ?_
  apply wpR_next 0 (some 16)
  · rfl
  · rfl
  · kernel_rfl
  · kernel_rfl
  · kernel_rfl
  · first | exact fun _ _ _ _ h => Exit.noConfusion h.1 | exact fun _ _ _ _ h => h
  apply Exists.intro
  apply And.intro
  · apply yr_run; rfl; intro w' hw'; go_simp; (try with_reducible rfl)
  simp only [Act.put, stA_, st0_, st1_]
  apply wpR_next 1 (some 17)
  · rfl
  · rfl
  · kernel_rfl
  · kernel_rfl
  · kernel_rfl
  · first | exact fun _ _ _ _ h => Exit.noConfusion h.1 | exact fun _ _ _ _ h => h
  apply Exists.intro
  apply And.intro
  · apply yr_run; rfl; intro w' hw'; go_simp; (try with_reducible rfl)
  simp only [Act.put, stA_, st0_, st1_]
  apply wpR_next 3 (some 19)
  · rfl
  · rfl
  · kernel_rfl
  · kernel_rfl
  · kernel_rfl
  · first | exact fun _ _ _ _ h => Exit.noConfusion h.1 | exact fun _ _ _ _ h => h
  apply Exists.intro
  apply And.intro
  · apply yr_run; rfl; intro w' hw'; go_simp; (try with_reducible rfl)
  simp only [Act.put, stA_, st0_, st1_]
  apply wpR_next 4 (some 20)
  · rfl
  · rfl
  · kernel_rfl
  · kernel_rfl
  · kernel_rfl
  · first | exact fun _ _ _ _ h => Exit.noConfusion h.1 | exact fun _ _ _ _ h => h
  apply Exists.intro
  apply And.intro
  · apply yr_run; rfl; intro w' hw'; go_simp; (try with_reducible rfl)
  simp only [Act.put, stA_, st0_, st1_]
  apply wpR_next 7 (some 23)
  · rfl
  · rfl
  · kernel_rfl
  · kernel_rfl
  · kernel_rfl
  · first | exact fun _ _ _ _ h => Exit.noConfusion h.1 | exact fun _ _ _ _ h => h
  apply Exists.intro
  apply And.intro
  · apply yr_run; rfl; intro w' hw'; go_simp; (try with_reducible rfl)
  simp only [Act.put, stA_, st0_, st1_]
  apply wpR_next 8 (some 24)
  · rfl
  · rfl
  · kernel_rfl
  · kernel_rfl
  · kernel_rfl
  · first | exact fun _ _ _ _ h => Exit.noConfusion h.1 | exact fun _ _ _ _ h => h
  apply Exists.intro
  apply And.intro
  · apply yr_run; rfl; intro w' hw'; go_simp; (try with_reducible rfl)
  simp only [Act.put, stA_, st0_, st1_]
  apply wpR_next 9 (some 25)
  · rfl
  · rfl
  · kernel_rfl
  · kernel_rfl
  · kernel_rfl
  · first | exact fun _ _ _ _ h => Exit.noConfusion h.1 | exact fun _ _ _ _ h => h
  apply Exists.intro
  apply And.intro
  · apply yr_run; rfl; intro w' hw'; go_simp; (try with_reducible rfl)
  simp only [Act.put, stA_, st0_, st1_]
  refine wpR_two 2 10 (by kernel_rfl) ?_ ?_
  · apply at_call 2 (some 18)
    · rfl
    · rfl
    · rfl
    · intro w'; go_simp; first | done | exact ⟨rfl, rfl⟩ | with_reducible rfl
    intro w' hw'
    have E_1_2 := Lib.hid (Ext.trans EX9.out (hw'))
    refine (oname_4 o.s1 o.n1 _).mono ?_
    rintro e w'' ⟨AA1_1, cc1_1, rfl, -, -, hown, hb⟩
    have E_1_3 := Lib.hid (Ext.trans E_1_2.out (hb))
    have RR_n1_1 : RowKit.Hid (Ow w1 B0 5 1 (.slice AA1_1 4 cc1_1) 4 (rowsV f8 (idB (o.s1, o.n1))) w'') := Lib.hid ⟨own_lo8 hown (by have h1 := E_1_2.out.size; have h2 := HB0.out; omega), E_1_3.out, Nat.le_of_eq HB0.out, by have h1 := E_1_3.out.size; have h2 := HB0.out; omega⟩
    have hkk : Kept (From_ B0) w1.drew w'' := (Kept.of_ext hw').trans (Kept.of_below hb)
    refine ⟨_, rfl, Kept.of_below hb, ?_⟩
    obtain ⟨z1_1, gz1_1⟩ : ∃ x, w'' = x := ⟨_, rfl⟩
    rw [gz1_1] at RR_n1_1 E_1_3 hkk ⊢
    have ldt1_4 := fun w'' (h : Kept (From_ B0) z1_1 w'') => lC3 w'' (hkk.trans h)
    have ldt1_5 := fun w'' (h : Kept (From_ B0) z1_1 w'') => lC4 w'' (hkk.trans h)
    have ldt1_6 := fun w'' (h : Kept (From_ B0) z1_1 w'') => lC5 w'' (hkk.trans h)
    have ldt1_7 := fun w'' (h : Kept (From_ B0) z1_1 w'') => lC6 w'' (hkk.trans h)
    have ldt1_8 := fun w'' (h : Kept (From_ B0) z1_1 w'') => lC19 w'' (hkk.trans h)
    clear lC3 lC4 lC5 lC6 lC19
    clear hkk hown hb gz1_1 hw'
    try simp only [Act.put, stA_, st0_, st1_]
    refine wpR_two 5 10 (by kernel_rfl) ?_ ?_
    · apply at_call 5 (some 21)
      · rfl
      · rfl
      · rfl
      · intro w'; go_simp; first | done | exact ⟨rfl, rfl⟩ | with_reducible rfl
      intro w' hw'
      have RR_2_10 := Lib.hid (Ow.up RR_n1_1.out (hw'))
      have E_2_10 := Lib.hid (Ext.trans E_1_3.out (hw'))
      refine (oname_4 o.s2 o.n2 _).mono ?_
      rintro e w'' ⟨A3, c3, rfl, hr3, hn3, -, hb⟩
      have NE_R_N_2_9 : RowKit.Hid (∀ a, A3 = some a → 0 < 4 → some a.block ≠ _) := Lib.hid (fun a ha hn e => by have h1 := (RR_2_10.out.own.lt _ e.symm).2; have h2 := hn3 a ha hn; omega)
      have RR_2_11 := Lib.hid (Ow.up RR_2_10.out (hb))
      have E_2_11 := Lib.hid (Ext.trans E_2_10.out (hb))
      have UN_2_9 := Lib.hid hr3
      clear hr3 hn3
      have hkk : Kept (From_ B0) z1_1 w'' := (Kept.of_ext hw').trans (Kept.of_below hb)
      refine ⟨_, rfl, Kept.of_below hb, ?_⟩
      obtain ⟨z2_9, gz2_9⟩ : ∃ x, w'' = x := ⟨_, rfl⟩
      rw [gz2_9] at RR_2_11 UN_2_9 E_2_11 hkk ⊢
      have ldt2_12 := fun w'' (h : Kept (From_ B0) z2_9 w'') => ldt1_4 w'' (hkk.trans h)
      have ldt2_13 := fun w'' (h : Kept (From_ B0) z2_9 w'') => ldt1_5 w'' (hkk.trans h)
      have ldt2_14 := fun w'' (h : Kept (From_ B0) z2_9 w'') => ldt1_6 w'' (hkk.trans h)
      have ldt2_15 := fun w'' (h : Kept (From_ B0) z2_9 w'') => ldt1_7 w'' (hkk.trans h)
      have ldt2_16 := fun w'' (h : Kept (From_ B0) z2_9 w'') => ldt1_8 w'' (hkk.trans h)
      clear ldt1_4 ldt1_5 ldt1_6 ldt1_7 ldt1_8
      clear hkk hb gz2_9 hw'
      try simp only [Act.put, stA_, st0_, st1_]
      refine wpR_two 6 10 (by kernel_rfl) ?_ ?_
      · apply at_run 6 (some 22)
        · rfl
        · rfl
        · rfl
        intro w' hw'
        have RR_3_18 := Lib.hid (Ow.up RR_2_11.out (hw'))
        have UN_3_18 := Lib.hid (RdS.bl UN_2_9.out (hw'))
        have E_3_18 := Lib.hid (Ext.trans E_2_11.out (hw'))
        obtain ⟨vv, w'', hrun, ho, hb, hg, hbk⟩ := Ow.app2 (P := Try.prog) 23 23 5 i0 _ 1 1 _ Try.underlying23 hi hz0 hz1 hz2 rfl (by decide) _ _ _ RR_3_18.out _ _ _ _ _ (UN_3_18.out) (f8_all _) (by unfold maxLen; omega) (by omega)
        refine ⟨vv, w'', exec_append (by rfl) (by rfl) (by rfl) hrun, Kept.of_from hb, ?_⟩
        have UN_3_17 := Lib.hid (RdS.grown UN_3_18.out hg NE_R_N_2_9.out)
        have NE_R_N_3_17 : RowKit.Hid (∀ a, A3 = some a → 0 < 4 → some a.block ≠ _) := Lib.hid (fun a ha hn => Ow.ne2 (NE_R_N_2_9.out a ha hn) (UN_3_18.out.low a ha hn) hbk)
        have E_3_17 : RowKit.Hid (Ext w1 w'') := Lib.hid ho.below
        have hkk : Kept (From_ B0) z2_9 w'' := (Kept.of_ext hw').trans (Kept.of_from hb)
        obtain ⟨AA3_17, cc3_17, rfl, hrr⟩ := ho.rds
        have RR_3_17 := Lib.hid ho
        clear hrr
        obtain ⟨z3_17, gz3_17⟩ : ∃ x, w'' = x := ⟨_, rfl⟩
        rw [gz3_17] at RR_3_17 UN_3_17 E_3_17 hkk ⊢
        have ldt3_19 := fun w'' (h : Kept (From_ B0) z3_17 w'') => ldt2_12 w'' (hkk.trans h)
        have ldt3_20 := fun w'' (h : Kept (From_ B0) z3_17 w'') => ldt2_13 w'' (hkk.trans h)
        have ldt3_21 := fun w'' (h : Kept (From_ B0) z3_17 w'') => ldt2_14 w'' (hkk.trans h)
        have ldt3_22 := fun w'' (h : Kept (From_ B0) z3_17 w'') => ldt2_15 w'' (hkk.trans h)
        have ldt3_23 := fun w'' (h : Kept (From_ B0) z3_17 w'') => ldt2_16 w'' (hkk.trans h)
        clear ldt2_12 ldt2_13 ldt2_14 ldt2_15 ldt2_16
        clear hkk hrun ho hb hg hbk gz3_17 hw'
        try simp only [Act.put, stA_, st0_, st1_]
        refine wpR_one 10 (by kernel_rfl) ?_
        apply at_run 10 (some 26)
        · rfl
        · rfl
        · rfl
        intro w' hw'
        have RR_3_25 := Lib.hid (Ow.up RR_3_17.out (hw'))
        have UN_3_25 := Lib.hid (RdS.bl UN_3_17.out (hw'))
        have E_3_25 := Lib.hid (Ext.trans E_3_17.out (hw'))
        refine ⟨.slice (some ⟨w'.heap.size, 0, none⟩) 1 1, w'.alloc (.cells (#[.int .u8 (q : Int)]) 5), exec_buildSlice 23 5 1 #[(0, .tmp 25)] (by rfl) Try.underlying23 _ (by kernel_rfl), Kept.of_below (below1 _ _), ?_⟩
        have NE_R_S_3_24 : RowKit.Hid (some w'.heap.size ≠ _) := Lib.hid (Ow.ne_ RR_3_25.out (Nat.le_refl _))
        have RR_3_26 := Lib.hid (Ow.up RR_3_25.out (below1 w' (.cells (#[.int .u8 (q : Int)]) 5)))
        have UN_3_26 := Lib.hid (RdS.bl UN_3_25.out (below1 w' (.cells (#[.int .u8 (q : Int)]) 5)))
        have E_3_26 := Lib.hid (Ext.trans E_3_25.out (below1 w' (.cells (#[.int .u8 (q : Int)]) 5)))
        have US_n3_24 : RowKit.Hid (RdS (w'.alloc (.cells (#[.int .u8 (q : Int)]) 5)) (w'.alloc (.cells (#[.int .u8 (q : Int)]) 5)).heap.size 1 (some ⟨w'.heap.size, 0, none⟩) 1 1 (rowsV f8 [q])) := Lib.hid (RdS.of_whole8 (Whole.new_ _ _ _) rfl)
        have hkk : Kept (From_ B0) z3_17 (w'.alloc (.cells (#[.int .u8 (q : Int)]) 5)) := (Kept.of_ext hw').trans (Kept.of_below (below1 _ _))
        obtain ⟨v3_27, gv3_27⟩ : ∃ x, w'.alloc (.cells (#[.int .u8 (q : Int)]) 5) = x := ⟨_, rfl⟩
        rw [gv3_27] at RR_3_26 UN_3_26 US_n3_24 E_3_26 hkk ⊢
        have ldt3_28 := fun w'' (h : Kept (From_ B0) v3_27 w'') => ldt3_19 w'' (hkk.trans h)
        have ldt3_29 := fun w'' (h : Kept (From_ B0) v3_27 w'') => ldt3_20 w'' (hkk.trans h)
        have ldt3_30 := fun w'' (h : Kept (From_ B0) v3_27 w'') => ldt3_21 w'' (hkk.trans h)
        have ldt3_31 := fun w'' (h : Kept (From_ B0) v3_27 w'') => ldt3_22 w'' (hkk.trans h)
        have ldt3_32 := fun w'' (h : Kept (From_ B0) v3_27 w'') => ldt3_23 w'' (hkk.trans h)
        clear ldt3_19 ldt3_20 ldt3_21 ldt3_22 ldt3_23
        clear gv3_27 hkk
        obtain ⟨g3_24, gg3_24⟩ : ∃ x, w'.heap.size = x := ⟨_, rfl⟩
        rw [gg3_24] at US_n3_24 NE_R_S_3_24 ⊢
        clear gg3_24 hw'
        have NF_NE_R_S_3_24 : RowKit.Hid (∀ a, (some (⟨g3_24, 0, none⟩ : Addr)) = some a → 0 < 1 → some a.block ≠ _) := Lib.hid (fun a ha _ => by obtain rfl := Option.some.inj ha; exact NE_R_S_3_24.out)
        try simp only [Act.put, stA_, st0_, st1_]
        refine wpR_one 11 (by kernel_rfl) ?_
        apply at_run 11 (some 27)
        · rfl
        · rfl
        · rfl
        intro w' hw'
        have RR_3_34 := Lib.hid (Ow.up RR_3_26.out (hw'))
        have UN_3_34 := Lib.hid (RdS.bl UN_3_26.out (hw'))
        have US_3_34 := Lib.hid (RdS.bl US_n3_24.out (hw'))
        have E_3_34 := Lib.hid (Ext.trans E_3_26.out (hw'))
        obtain ⟨vv, w'', hrun, ho, hb, hg, hbk⟩ := Ow.app2 (P := Try.prog) 23 23 5 i0 _ 1 1 _ Try.underlying23 hi hz0 hz1 hz2 rfl (by decide) _ _ _ RR_3_34.out _ _ _ _ _ (US_3_34.out) (f8_all _) (by unfold maxLen; omega) (by omega)
        refine ⟨vv, w'', exec_append (by rfl) (by rfl) (by rfl) hrun, Kept.of_from hb, ?_⟩
        have UN_3_33 := Lib.hid (RdS.grown UN_3_34.out hg NE_R_N_3_17.out)
        have NE_R_N_3_33 : RowKit.Hid (∀ a, A3 = some a → 0 < 4 → some a.block ≠ _) := Lib.hid (fun a ha hn => Ow.ne2 (NE_R_N_3_17.out a ha hn) (UN_3_34.out.low a ha hn) hbk)
        have US_3_33 := Lib.hid (RdS.grown US_3_34.out hg NF_NE_R_S_3_24.out)
        have NE_R_S_3_33 : RowKit.Hid (∀ a, (some (⟨g3_24, 0, none⟩ : Addr)) = some a → 0 < 1 → some a.block ≠ _) := Lib.hid (fun a ha hn => Ow.ne2 (NF_NE_R_S_3_24.out a ha hn) (US_3_34.out.low a ha hn) hbk)
        have E_3_33 : RowKit.Hid (Ext w1 w'') := Lib.hid ho.below
        have hkk : Kept (From_ B0) v3_27 w'' := (Kept.of_ext hw').trans (Kept.of_from hb)
        obtain ⟨AA3_33, cc3_33, rfl, hrr⟩ := ho.rds
        have RR_3_33 := Lib.hid ho
        clear hrr
        obtain ⟨z3_33, gz3_33⟩ : ∃ x, w'' = x := ⟨_, rfl⟩
        rw [gz3_33] at RR_3_33 UN_3_33 US_3_33 E_3_33 hkk ⊢
        have ldt3_35 := fun w'' (h : Kept (From_ B0) z3_33 w'') => ldt3_28 w'' (hkk.trans h)
        have ldt3_36 := fun w'' (h : Kept (From_ B0) z3_33 w'') => ldt3_29 w'' (hkk.trans h)
        have ldt3_37 := fun w'' (h : Kept (From_ B0) z3_33 w'') => ldt3_30 w'' (hkk.trans h)
        have ldt3_38 := fun w'' (h : Kept (From_ B0) z3_33 w'') => ldt3_31 w'' (hkk.trans h)
        have ldt3_39 := fun w'' (h : Kept (From_ B0) z3_33 w'') => ldt3_32 w'' (hkk.trans h)
        clear ldt3_28 ldt3_29 ldt3_30 ldt3_31 ldt3_32
        clear hkk hrun ho hb hg hbk gz3_33 hw'
        try simp only [Act.put, stA_, st0_, st1_]
        apply wpR_next 12 (some 2)
        · rfl
        · rfl
        · kernel_rfl
        · kernel_rfl
        · kernel_rfl
        · first | exact fun _ _ _ _ h => Exit.noConfusion h.1 | exact fun _ _ _ _ h => h
        apply Exists.intro
        apply And.intro
        · apply yr_run; rfl; intro w' hw'; go_simp; (try with_reducible rfl)
        simp only [Act.put, stA_, st0_, st1_]
        refine wpR_done (by kernel_rfl) ?_ _
        intro wE hwE
        have ho := (RR_3_33.out.up hwE)
        rw [show rowsV f8 (idB (o.s1, o.n1)) ++ rowsV f8 (idB (o.s2, o.n2)) ++ rowsV f8 [q] = rowsV f8 (idB (o.s1, o.n1) ++ (idB (o.s2, o.n2) ++ [q])) from by rw [rowsV_app, rowsV_app, List.append_assoc]] at ho
        obtain ⟨A9, c9, e9, hG⟩ := gives8_ow (w := w1) (L := idB (o.s1, o.n1) ++ (idB (o.s2, o.n2) ++ [q])) rfl (⟨own_lo8 ho.own (Nat.le_of_eq HB0.out), ho.below, Nat.le_refl _, ho.below.size⟩ : Ow w1 w1.heap.size 5 1 _ _ _ _)
        rw [← HL.out] at hG
        try rw [← HL.out] at e9
        have HG := Lib.hid (Gives8.from_ hG HB1.out)
        have HE := Lib.hid e9
        clear ho hG hwE e9 ldt3_35 ldt3_36 ldt3_37 ldt3_38 ldt3_39
        go_wp2
        go_ret
        exact HE.out ▸ HG.out
      · apply at_run 10 (some 26)
        · rfl
        · rfl
        · rfl
        intro w' hw'
        have RR_4_41 := Lib.hid (Ow.up RR_2_11.out (hw'))
        have UN_4_41 := Lib.hid (RdS.bl UN_2_9.out (hw'))
        have E_4_41 := Lib.hid (Ext.trans E_2_11.out (hw'))
        refine ⟨.slice (some ⟨w'.heap.size, 0, none⟩) 1 1, w'.alloc (.cells (#[.int .u8 (q : Int)]) 5), exec_buildSlice 23 5 1 #[(0, .tmp 25)] (by rfl) Try.underlying23 _ (by kernel_rfl), Kept.of_below (below1 _ _), ?_⟩
        have NE_R_S_4_40 : RowKit.Hid (some w'.heap.size ≠ _) := Lib.hid (Ow.ne_ RR_4_41.out (Nat.le_refl _))
        have RR_4_42 := Lib.hid (Ow.up RR_4_41.out (below1 w' (.cells (#[.int .u8 (q : Int)]) 5)))
        have UN_4_42 := Lib.hid (RdS.bl UN_4_41.out (below1 w' (.cells (#[.int .u8 (q : Int)]) 5)))
        have E_4_42 := Lib.hid (Ext.trans E_4_41.out (below1 w' (.cells (#[.int .u8 (q : Int)]) 5)))
        have US_n4_40 : RowKit.Hid (RdS (w'.alloc (.cells (#[.int .u8 (q : Int)]) 5)) (w'.alloc (.cells (#[.int .u8 (q : Int)]) 5)).heap.size 1 (some ⟨w'.heap.size, 0, none⟩) 1 1 (rowsV f8 [q])) := Lib.hid (RdS.of_whole8 (Whole.new_ _ _ _) rfl)
        have hkk : Kept (From_ B0) z2_9 (w'.alloc (.cells (#[.int .u8 (q : Int)]) 5)) := (Kept.of_ext hw').trans (Kept.of_below (below1 _ _))
        obtain ⟨v4_43, gv4_43⟩ : ∃ x, w'.alloc (.cells (#[.int .u8 (q : Int)]) 5) = x := ⟨_, rfl⟩
        rw [gv4_43] at RR_4_42 UN_4_42 US_n4_40 E_4_42 hkk ⊢
        have ldt4_44 := fun w'' (h : Kept (From_ B0) v4_43 w'') => ldt2_12 w'' (hkk.trans h)
        have ldt4_45 := fun w'' (h : Kept (From_ B0) v4_43 w'') => ldt2_13 w'' (hkk.trans h)
        have ldt4_46 := fun w'' (h : Kept (From_ B0) v4_43 w'') => ldt2_14 w'' (hkk.trans h)
        have ldt4_47 := fun w'' (h : Kept (From_ B0) v4_43 w'') => ldt2_15 w'' (hkk.trans h)
        have ldt4_48 := fun w'' (h : Kept (From_ B0) v4_43 w'') => ldt2_16 w'' (hkk.trans h)
        clear ldt2_12 ldt2_13 ldt2_14 ldt2_15 ldt2_16
        clear gv4_43 hkk
        obtain ⟨g4_40, gg4_40⟩ : ∃ x, w'.heap.size = x := ⟨_, rfl⟩
        rw [gg4_40] at US_n4_40 NE_R_S_4_40 ⊢
        clear gg4_40 hw'
        have NF_NE_R_S_4_40 : RowKit.Hid (∀ a, (some (⟨g4_40, 0, none⟩ : Addr)) = some a → 0 < 1 → some a.block ≠ _) := Lib.hid (fun a ha _ => by obtain rfl := Option.some.inj ha; exact NE_R_S_4_40.out)
        try simp only [Act.put, stA_, st0_, st1_]
        refine wpR_one 6 (by kernel_rfl) ?_
        apply at_run 6 (some 22)
        · rfl
        · rfl
        · rfl
        intro w' hw'
        have RR_4_50 := Lib.hid (Ow.up RR_4_42.out (hw'))
        have UN_4_50 := Lib.hid (RdS.bl UN_4_42.out (hw'))
        have US_4_50 := Lib.hid (RdS.bl US_n4_40.out (hw'))
        have E_4_50 := Lib.hid (Ext.trans E_4_42.out (hw'))
        obtain ⟨vv, w'', hrun, ho, hb, hg, hbk⟩ := Ow.app2 (P := Try.prog) 23 23 5 i0 _ 1 1 _ Try.underlying23 hi hz0 hz1 hz2 rfl (by decide) _ _ _ RR_4_50.out _ _ _ _ _ (UN_4_50.out) (f8_all _) (by unfold maxLen; omega) (by omega)
        refine ⟨vv, w'', exec_append (by rfl) (by rfl) (by rfl) hrun, Kept.of_from hb, ?_⟩
        have UN_4_49 := Lib.hid (RdS.grown UN_4_50.out hg NE_R_N_2_9.out)
        have NE_R_N_4_49 : RowKit.Hid (∀ a, A3 = some a → 0 < 4 → some a.block ≠ _) := Lib.hid (fun a ha hn => Ow.ne2 (NE_R_N_2_9.out a ha hn) (UN_4_50.out.low a ha hn) hbk)
        have US_4_49 := Lib.hid (RdS.grown US_4_50.out hg NF_NE_R_S_4_40.out)
        have NE_R_S_4_49 : RowKit.Hid (∀ a, (some (⟨g4_40, 0, none⟩ : Addr)) = some a → 0 < 1 → some a.block ≠ _) := Lib.hid (fun a ha hn => Ow.ne2 (NF_NE_R_S_4_40.out a ha hn) (US_4_50.out.low a ha hn) hbk)
        have E_4_49 : RowKit.Hid (Ext w1 w'') := Lib.hid ho.below
        have hkk : Kept (From_ B0) v4_43 w'' := (Kept.of_ext hw').trans (Kept.of_from hb)
        obtain ⟨AA4_49, cc4_49, rfl, hrr⟩ := ho.rds
        have RR_4_49 := Lib.hid ho
        clear hrr
        obtain ⟨z4_49, gz4_49⟩ : ∃ x, w'' = x := ⟨_, rfl⟩
        rw [gz4_49] at RR_4_49 UN_4_49 US_4_49 E_4_49 hkk ⊢
        have ldt4_51 := fun w'' (h : Kept (From_ B0) z4_49 w'') => ldt4_44 w'' (hkk.trans h)
        have ldt4_52 := fun w'' (h : Kept (From_ B0) z4_49 w'') => ldt4_45 w'' (hkk.trans h)
        have ldt4_53 := fun w'' (h : Kept (From_ B0) z4_49 w'') => ldt4_46 w'' (hkk.trans h)
        have ldt4_54 := fun w'' (h : Kept (From_ B0) z4_49 w'') => ldt4_47 w'' (hkk.trans h)
        have ldt4_55 := fun w'' (h : Kept (From_ B0) z4_49 w'') => ldt4_48 w'' (hkk.trans h)
        clear ldt4_44 ldt4_45 ldt4_46 ldt4_47 ldt4_48
        clear hkk hrun ho hb hg hbk gz4_49 hw'
        try simp only [Act.put, stA_, st0_, st1_]
        refine wpR_one 11 (by kernel_rfl) ?_
        apply at_run 11 (some 27)
        · rfl
        · rfl
        · rfl
        intro w' hw'
        have RR_4_57 := Lib.hid (Ow.up RR_4_49.out (hw'))
        have UN_4_57 := Lib.hid (RdS.bl UN_4_49.out (hw'))
        have US_4_57 := Lib.hid (RdS.bl US_4_49.out (hw'))
        have E_4_57 := Lib.hid (Ext.trans E_4_49.out (hw'))
        obtain ⟨vv, w'', hrun, ho, hb, hg, hbk⟩ := Ow.app2 (P := Try.prog) 23 23 5 i0 _ 1 1 _ Try.underlying23 hi hz0 hz1 hz2 rfl (by decide) _ _ _ RR_4_57.out _ _ _ _ _ (US_4_57.out) (f8_all _) (by unfold maxLen; omega) (by omega)
        refine ⟨vv, w'', exec_append (by rfl) (by rfl) (by rfl) hrun, Kept.of_from hb, ?_⟩
        have UN_4_56 := Lib.hid (RdS.grown UN_4_57.out hg NE_R_N_4_49.out)
        have NE_R_N_4_56 : RowKit.Hid (∀ a, A3 = some a → 0 < 4 → some a.block ≠ _) := Lib.hid (fun a ha hn => Ow.ne2 (NE_R_N_4_49.out a ha hn) (UN_4_57.out.low a ha hn) hbk)
        have US_4_56 := Lib.hid (RdS.grown US_4_57.out hg NE_R_S_4_49.out)
        have NE_R_S_4_56 : RowKit.Hid (∀ a, (some (⟨g4_40, 0, none⟩ : Addr)) = some a → 0 < 1 → some a.block ≠ _) := Lib.hid (fun a ha hn => Ow.ne2 (NE_R_S_4_49.out a ha hn) (US_4_57.out.low a ha hn) hbk)
        have E_4_56 : RowKit.Hid (Ext w1 w'') := Lib.hid ho.below
        have hkk : Kept (From_ B0) z4_49 w'' := (Kept.of_ext hw').trans (Kept.of_from hb)
        obtain ⟨AA4_56, cc4_56, rfl, hrr⟩ := ho.rds
        have RR_4_56 := Lib.hid ho
        clear hrr
        obtain ⟨z4_56, gz4_56⟩ : ∃ x, w'' = x := ⟨_, rfl⟩
        rw [gz4_56] at RR_4_56 UN_4_56 US_4_56 E_4_56 hkk ⊢
        have ldt4_58 := fun w'' (h : Kept (From_ B0) z4_56 w'') => ldt4_51 w'' (hkk.trans h)
        have ldt4_59 := fun w'' (h : Kept (From_ B0) z4_56 w'') => ldt4_52 w'' (hkk.trans h)
        have ldt4_60 := fun w'' (h : Kept (From_ B0) z4_56 w'') => ldt4_53 w'' (hkk.trans h)
        have ldt4_61 := fun w'' (h : Kept (From_ B0) z4_56 w'') => ldt4_54 w'' (hkk.trans h)
        have ldt4_62 := fun w'' (h : Kept (From_ B0) z4_56 w'') => ldt4_55 w'' (hkk.trans h)
        clear ldt4_51 ldt4_52 ldt4_53 ldt4_54 ldt4_55
        clear hkk hrun ho hb hg hbk gz4_56 hw'
        try simp only [Act.put, stA_, st0_, st1_]
        apply wpR_next 12 (some 2)
        · rfl
        · rfl
        · kernel_rfl
        · kernel_rfl
        · kernel_rfl
        · first | exact fun _ _ _ _ h => Exit.noConfusion h.1 | exact fun _ _ _ _ h => h
        apply Exists.intro
        apply And.intro
        · apply yr_run; rfl; intro w' hw'; go_simp; (try with_reducible rfl)
        simp only [Act.put, stA_, st0_, st1_]
        refine wpR_done (by kernel_rfl) ?_ _
        intro wE hwE
        have ho := (RR_4_56.out.up hwE)
        rw [show rowsV f8 (idB (o.s1, o.n1)) ++ rowsV f8 (idB (o.s2, o.n2)) ++ rowsV f8 [q] = rowsV f8 (idB (o.s1, o.n1) ++ (idB (o.s2, o.n2) ++ [q])) from by rw [rowsV_app, rowsV_app, List.append_assoc]] at ho
        obtain ⟨A9, c9, e9, hG⟩ := gives8_ow (w := w1) (L := idB (o.s1, o.n1) ++ (idB (o.s2, o.n2) ++ [q])) rfl (⟨own_lo8 ho.own (Nat.le_of_eq HB0.out), ho.below, Nat.le_refl _, ho.below.size⟩ : Ow w1 w1.heap.size 5 1 _ _ _ _)
        rw [← HL.out] at hG
        try rw [← HL.out] at e9
        have HG := Lib.hid (Gives8.from_ hG HB1.out)
        have HE := Lib.hid e9
        clear ho hG hwE e9 ldt4_58 ldt4_59 ldt4_60 ldt4_61 ldt4_62
        go_wp2
        go_ret
        exact HE.out ▸ HG.out
    · apply at_run 10 (some 26)
      · rfl
      · rfl
      · rfl
      intro w' hw'
      have RR_5_64 := Lib.hid (Ow.up RR_n1_1.out (hw'))
      have E_5_64 := Lib.hid (Ext.trans E_1_3.out (hw'))
      refine ⟨.slice (some ⟨w'.heap.size, 0, none⟩) 1 1, w'.alloc (.cells (#[.int .u8 (q : Int)]) 5), exec_buildSlice 23 5 1 #[(0, .tmp 25)] (by rfl) Try.underlying23 _ (by kernel_rfl), Kept.of_below (below1 _ _), ?_⟩
      have NE_R_S_5_63 : RowKit.Hid (some w'.heap.size ≠ _) := Lib.hid (Ow.ne_ RR_5_64.out (Nat.le_refl _))
      have RR_5_65 := Lib.hid (Ow.up RR_5_64.out (below1 w' (.cells (#[.int .u8 (q : Int)]) 5)))
      have E_5_65 := Lib.hid (Ext.trans E_5_64.out (below1 w' (.cells (#[.int .u8 (q : Int)]) 5)))
      have US_n5_63 : RowKit.Hid (RdS (w'.alloc (.cells (#[.int .u8 (q : Int)]) 5)) (w'.alloc (.cells (#[.int .u8 (q : Int)]) 5)).heap.size 1 (some ⟨w'.heap.size, 0, none⟩) 1 1 (rowsV f8 [q])) := Lib.hid (RdS.of_whole8 (Whole.new_ _ _ _) rfl)
      have hkk : Kept (From_ B0) z1_1 (w'.alloc (.cells (#[.int .u8 (q : Int)]) 5)) := (Kept.of_ext hw').trans (Kept.of_below (below1 _ _))
      obtain ⟨v5_66, gv5_66⟩ : ∃ x, w'.alloc (.cells (#[.int .u8 (q : Int)]) 5) = x := ⟨_, rfl⟩
      rw [gv5_66] at RR_5_65 US_n5_63 E_5_65 hkk ⊢
      have ldt5_67 := fun w'' (h : Kept (From_ B0) v5_66 w'') => ldt1_4 w'' (hkk.trans h)
      have ldt5_68 := fun w'' (h : Kept (From_ B0) v5_66 w'') => ldt1_5 w'' (hkk.trans h)
      have ldt5_69 := fun w'' (h : Kept (From_ B0) v5_66 w'') => ldt1_6 w'' (hkk.trans h)
      have ldt5_70 := fun w'' (h : Kept (From_ B0) v5_66 w'') => ldt1_7 w'' (hkk.trans h)
      have ldt5_71 := fun w'' (h : Kept (From_ B0) v5_66 w'') => ldt1_8 w'' (hkk.trans h)
      clear ldt1_4 ldt1_5 ldt1_6 ldt1_7 ldt1_8
      clear gv5_66 hkk
      obtain ⟨g5_63, gg5_63⟩ : ∃ x, w'.heap.size = x := ⟨_, rfl⟩
      rw [gg5_63] at US_n5_63 NE_R_S_5_63 ⊢
      clear gg5_63 hw'
      have NF_NE_R_S_5_63 : RowKit.Hid (∀ a, (some (⟨g5_63, 0, none⟩ : Addr)) = some a → 0 < 1 → some a.block ≠ _) := Lib.hid (fun a ha _ => by obtain rfl := Option.some.inj ha; exact NE_R_S_5_63.out)
      try simp only [Act.put, stA_, st0_, st1_]
      refine wpR_one 5 (by kernel_rfl) ?_
      apply at_call 5 (some 21)
      · rfl
      · rfl
      · rfl
      · intro w'; go_simp; first | done | exact ⟨rfl, rfl⟩ | with_reducible rfl
      intro w' hw'
      have RR_5_73 := Lib.hid (Ow.up RR_5_65.out (hw'))
      have US_5_73 := Lib.hid (RdS.bl US_n5_63.out (hw'))
      have E_5_73 := Lib.hid (Ext.trans E_5_65.out (hw'))
      refine (oname_4 o.s2 o.n2 _).mono ?_
      rintro e w'' ⟨A3, c3, rfl, hr3, hn3, -, hb⟩
      have NE_R_N_5_72 : RowKit.Hid (∀ a, A3 = some a → 0 < 4 → some a.block ≠ _) := Lib.hid (fun a ha hn e => by have h1 := (RR_5_73.out.own.lt _ e.symm).2; have h2 := hn3 a ha hn; omega)
      have RR_5_74 := Lib.hid (Ow.up RR_5_73.out (hb))
      have US_5_74 := Lib.hid (RdS.bl US_5_73.out (hb))
      have E_5_74 := Lib.hid (Ext.trans E_5_73.out (hb))
      have UN_5_72 := Lib.hid hr3
      clear hr3 hn3
      have hkk : Kept (From_ B0) v5_66 w'' := (Kept.of_ext hw').trans (Kept.of_below hb)
      refine ⟨_, rfl, Kept.of_below hb, ?_⟩
      obtain ⟨z5_72, gz5_72⟩ : ∃ x, w'' = x := ⟨_, rfl⟩
      rw [gz5_72] at RR_5_74 US_5_74 UN_5_72 E_5_74 hkk ⊢
      have ldt5_75 := fun w'' (h : Kept (From_ B0) z5_72 w'') => ldt5_67 w'' (hkk.trans h)
      have ldt5_76 := fun w'' (h : Kept (From_ B0) z5_72 w'') => ldt5_68 w'' (hkk.trans h)
      have ldt5_77 := fun w'' (h : Kept (From_ B0) z5_72 w'') => ldt5_69 w'' (hkk.trans h)
      have ldt5_78 := fun w'' (h : Kept (From_ B0) z5_72 w'') => ldt5_70 w'' (hkk.trans h)
      have ldt5_79 := fun w'' (h : Kept (From_ B0) z5_72 w'') => ldt5_71 w'' (hkk.trans h)
      clear ldt5_67 ldt5_68 ldt5_69 ldt5_70 ldt5_71
      clear hkk hb gz5_72 hw'
      try simp only [Act.put, stA_, st0_, st1_]
      refine wpR_one 6 (by kernel_rfl) ?_
      apply at_run 6 (some 22)
      · rfl
      · rfl
      · rfl
      intro w' hw'
      have RR_5_81 := Lib.hid (Ow.up RR_5_74.out (hw'))
      have US_5_81 := Lib.hid (RdS.bl US_5_74.out (hw'))
      have UN_5_81 := Lib.hid (RdS.bl UN_5_72.out (hw'))
      have E_5_81 := Lib.hid (Ext.trans E_5_74.out (hw'))
      obtain ⟨vv, w'', hrun, ho, hb, hg, hbk⟩ := Ow.app2 (P := Try.prog) 23 23 5 i0 _ 1 1 _ Try.underlying23 hi hz0 hz1 hz2 rfl (by decide) _ _ _ RR_5_81.out _ _ _ _ _ (UN_5_81.out) (f8_all _) (by unfold maxLen; omega) (by omega)
      refine ⟨vv, w'', exec_append (by rfl) (by rfl) (by rfl) hrun, Kept.of_from hb, ?_⟩
      have US_5_80 := Lib.hid (RdS.grown US_5_81.out hg NF_NE_R_S_5_63.out)
      have NE_R_S_5_80 : RowKit.Hid (∀ a, (some (⟨g5_63, 0, none⟩ : Addr)) = some a → 0 < 1 → some a.block ≠ _) := Lib.hid (fun a ha hn => Ow.ne2 (NF_NE_R_S_5_63.out a ha hn) (US_5_81.out.low a ha hn) hbk)
      have UN_5_80 := Lib.hid (RdS.grown UN_5_81.out hg NE_R_N_5_72.out)
      have NE_R_N_5_80 : RowKit.Hid (∀ a, A3 = some a → 0 < 4 → some a.block ≠ _) := Lib.hid (fun a ha hn => Ow.ne2 (NE_R_N_5_72.out a ha hn) (UN_5_81.out.low a ha hn) hbk)
      have E_5_80 : RowKit.Hid (Ext w1 w'') := Lib.hid ho.below
      have hkk : Kept (From_ B0) z5_72 w'' := (Kept.of_ext hw').trans (Kept.of_from hb)
      obtain ⟨AA5_80, cc5_80, rfl, hrr⟩ := ho.rds
      have RR_5_80 := Lib.hid ho
      clear hrr
      obtain ⟨z5_80, gz5_80⟩ : ∃ x, w'' = x := ⟨_, rfl⟩
      rw [gz5_80] at RR_5_80 US_5_80 UN_5_80 E_5_80 hkk ⊢
      have ldt5_82 := fun w'' (h : Kept (From_ B0) z5_80 w'') => ldt5_75 w'' (hkk.trans h)
      have ldt5_83 := fun w'' (h : Kept (From_ B0) z5_80 w'') => ldt5_76 w'' (hkk.trans h)
      have ldt5_84 := fun w'' (h : Kept (From_ B0) z5_80 w'') => ldt5_77 w'' (hkk.trans h)
      have ldt5_85 := fun w'' (h : Kept (From_ B0) z5_80 w'') => ldt5_78 w'' (hkk.trans h)
      have ldt5_86 := fun w'' (h : Kept (From_ B0) z5_80 w'') => ldt5_79 w'' (hkk.trans h)
      clear ldt5_75 ldt5_76 ldt5_77 ldt5_78 ldt5_79
      clear hkk hrun ho hb hg hbk gz5_80 hw'
      try simp only [Act.put, stA_, st0_, st1_]
      refine wpR_one 11 (by kernel_rfl) ?_
      apply at_run 11 (some 27)
      · rfl
      · rfl
      · rfl
      intro w' hw'
      have RR_5_88 := Lib.hid (Ow.up RR_5_80.out (hw'))
      have US_5_88 := Lib.hid (RdS.bl US_5_80.out (hw'))
      have UN_5_88 := Lib.hid (RdS.bl UN_5_80.out (hw'))
      have E_5_88 := Lib.hid (Ext.trans E_5_80.out (hw'))
      obtain ⟨vv, w'', hrun, ho, hb, hg, hbk⟩ := Ow.app2 (P := Try.prog) 23 23 5 i0 _ 1 1 _ Try.underlying23 hi hz0 hz1 hz2 rfl (by decide) _ _ _ RR_5_88.out _ _ _ _ _ (US_5_88.out) (f8_all _) (by unfold maxLen; omega) (by omega)
      refine ⟨vv, w'', exec_append (by rfl) (by rfl) (by rfl) hrun, Kept.of_from hb, ?_⟩
      have US_5_87 := Lib.hid (RdS.grown US_5_88.out hg NE_R_S_5_80.out)
      have NE_R_S_5_87 : RowKit.Hid (∀ a, (some (⟨g5_63, 0, none⟩ : Addr)) = some a → 0 < 1 → some a.block ≠ _) := Lib.hid (fun a ha hn => Ow.ne2 (NE_R_S_5_80.out a ha hn) (US_5_88.out.low a ha hn) hbk)
      have UN_5_87 := Lib.hid (RdS.grown UN_5_88.out hg NE_R_N_5_80.out)
      have NE_R_N_5_87 : RowKit.Hid (∀ a, A3 = some a → 0 < 4 → some a.block ≠ _) := Lib.hid (fun a ha hn => Ow.ne2 (NE_R_N_5_80.out a ha hn) (UN_5_88.out.low a ha hn) hbk)
      have E_5_87 : RowKit.Hid (Ext w1 w'') := Lib.hid ho.below
      have hkk : Kept (From_ B0) z5_80 w'' := (Kept.of_ext hw').trans (Kept.of_from hb)
      obtain ⟨AA5_87, cc5_87, rfl, hrr⟩ := ho.rds
      have RR_5_87 := Lib.hid ho
      clear hrr
      obtain ⟨z5_87, gz5_87⟩ : ∃ x, w'' = x := ⟨_, rfl⟩
      rw [gz5_87] at RR_5_87 US_5_87 UN_5_87 E_5_87 hkk ⊢
      have ldt5_89 := fun w'' (h : Kept (From_ B0) z5_87 w'') => ldt5_82 w'' (hkk.trans h)
      have ldt5_90 := fun w'' (h : Kept (From_ B0) z5_87 w'') => ldt5_83 w'' (hkk.trans h)
      have ldt5_91 := fun w'' (h : Kept (From_ B0) z5_87 w'') => ldt5_84 w'' (hkk.trans h)
      have ldt5_92 := fun w'' (h : Kept (From_ B0) z5_87 w'') => ldt5_85 w'' (hkk.trans h)
      have ldt5_93 := fun w'' (h : Kept (From_ B0) z5_87 w'') => ldt5_86 w'' (hkk.trans h)
      clear ldt5_82 ldt5_83 ldt5_84 ldt5_85 ldt5_86
      clear hkk hrun ho hb hg hbk gz5_87 hw'
      try simp only [Act.put, stA_, st0_, st1_]
      apply wpR_next 12 (some 2)
      · rfl
      · rfl
      · kernel_rfl
      · kernel_rfl
      · kernel_rfl
      · first | exact fun _ _ _ _ h => Exit.noConfusion h.1 | exact fun _ _ _ _ h => h
      apply Exists.intro
      apply And.intro
      · apply yr_run; rfl; intro w' hw'; go_simp; (try with_reducible rfl)
      simp only [Act.put, stA_, st0_, st1_]
      refine wpR_done (by kernel_rfl) ?_ _
      intro wE hwE
      have ho := (RR_5_87.out.up hwE)
      rw [show rowsV f8 (idB (o.s1, o.n1)) ++ rowsV f8 (idB (o.s2, o.n2)) ++ rowsV f8 [q] = rowsV f8 (idB (o.s1, o.n1) ++ (idB (o.s2, o.n2) ++ [q])) from by rw [rowsV_app, rowsV_app, List.append_assoc]] at ho
      obtain ⟨A9, c9, e9, hG⟩ := gives8_ow (w := w1) (L := idB (o.s1, o.n1) ++ (idB (o.s2, o.n2) ++ [q])) rfl (⟨own_lo8 ho.own (Nat.le_of_eq HB0.out), ho.below, Nat.le_refl _, ho.below.size⟩ : Ow w1 w1.heap.size 5 1 _ _ _ _)
      rw [← HL.out] at hG
      try rw [← HL.out] at e9
      have HG := Lib.hid (Gives8.from_ hG HB1.out)
      have HE := Lib.hid e9
      clear ho hG hwE e9 ldt5_89 ldt5_90 ldt5_91 ldt5_92 ldt5_93
      go_wp2
      go_ret
      exact HE.out ▸ HG.out
  · apply at_run 10 (some 26)
    · rfl
    · rfl
    · rfl
    intro w' hw'
    have E_6_95 := Lib.hid (Ext.trans EX9.out (hw'))
    refine ⟨.slice (some ⟨w'.heap.size, 0, none⟩) 1 1, w'.alloc (.cells (#[.int .u8 (q : Int)]) 5), exec_buildSlice 23 5 1 #[(0, .tmp 25)] (by rfl) Try.underlying23 _ (by kernel_rfl), Kept.of_below (below1 _ _), ?_⟩
    have E_6_96 := Lib.hid (Ext.trans E_6_95.out (below1 w' (.cells (#[.int .u8 (q : Int)]) 5)))
    have US_n6_94 : RowKit.Hid (RdS (w'.alloc (.cells (#[.int .u8 (q : Int)]) 5)) (w'.alloc (.cells (#[.int .u8 (q : Int)]) 5)).heap.size 1 (some ⟨w'.heap.size, 0, none⟩) 1 1 (rowsV f8 [q])) := Lib.hid (RdS.of_whole8 (Whole.new_ _ _ _) rfl)
    have hkk : Kept (From_ B0) w1.drew (w'.alloc (.cells (#[.int .u8 (q : Int)]) 5)) := (Kept.of_ext hw').trans (Kept.of_below (below1 _ _))
    obtain ⟨v6_97, gv6_97⟩ : ∃ x, w'.alloc (.cells (#[.int .u8 (q : Int)]) 5) = x := ⟨_, rfl⟩
    rw [gv6_97] at US_n6_94 E_6_96 hkk ⊢
    have ldt6_98 := fun w'' (h : Kept (From_ B0) v6_97 w'') => lC3 w'' (hkk.trans h)
    have ldt6_99 := fun w'' (h : Kept (From_ B0) v6_97 w'') => lC4 w'' (hkk.trans h)
    have ldt6_100 := fun w'' (h : Kept (From_ B0) v6_97 w'') => lC5 w'' (hkk.trans h)
    have ldt6_101 := fun w'' (h : Kept (From_ B0) v6_97 w'') => lC6 w'' (hkk.trans h)
    have ldt6_102 := fun w'' (h : Kept (From_ B0) v6_97 w'') => lC19 w'' (hkk.trans h)
    clear lC3 lC4 lC5 lC6 lC19
    clear gv6_97 hkk
    obtain ⟨g6_94, gg6_94⟩ : ∃ x, w'.heap.size = x := ⟨_, rfl⟩
    rw [gg6_94] at US_n6_94  ⊢
    clear gg6_94 hw'
    try simp only [Act.put, stA_, st0_, st1_]
    refine wpR_one 2 (by kernel_rfl) ?_
    apply at_call 2 (some 18)
    · rfl
    · rfl
    · rfl
    · intro w'; go_simp; first | done | exact ⟨rfl, rfl⟩ | with_reducible rfl
    intro w' hw'
    have US_6_104 := Lib.hid (RdS.bl US_n6_94.out (hw'))
    have E_6_104 := Lib.hid (Ext.trans E_6_96.out (hw'))
    refine (oname_4 o.s1 o.n1 _).mono ?_
    rintro e w'' ⟨AA6_103, cc6_103, rfl, -, -, hown, hb⟩
    have NE_R_S_6_103 : RowKit.Hid (∀ a, (some (⟨g6_94, 0, none⟩ : Addr)) = some a → 0 < 1 → some a.block ≠ (Value.slice AA6_103 4 cc6_103).ownBlock) := Lib.hid (fun a ha hn e => by have h1 := (hown.lt _ e.symm).1; have h2 := US_6_104.out.low a ha hn; omega)
    have US_6_105 := Lib.hid (RdS.bl US_6_104.out (hb))
    have E_6_105 := Lib.hid (Ext.trans E_6_104.out (hb))
    have RR_n6_103 : RowKit.Hid (Ow w1 B0 5 1 (.slice AA6_103 4 cc6_103) 4 (rowsV f8 (idB (o.s1, o.n1))) w'') := Lib.hid ⟨own_lo8 hown (by have h1 := E_6_104.out.size; have h2 := HB0.out; omega), E_6_105.out, Nat.le_of_eq HB0.out, by have h1 := E_6_105.out.size; have h2 := HB0.out; omega⟩
    have hkk : Kept (From_ B0) v6_97 w'' := (Kept.of_ext hw').trans (Kept.of_below hb)
    refine ⟨_, rfl, Kept.of_below hb, ?_⟩
    obtain ⟨z6_103, gz6_103⟩ : ∃ x, w'' = x := ⟨_, rfl⟩
    rw [gz6_103] at RR_n6_103 US_6_105 E_6_105 hkk ⊢
    have ldt6_106 := fun w'' (h : Kept (From_ B0) z6_103 w'') => ldt6_98 w'' (hkk.trans h)
    have ldt6_107 := fun w'' (h : Kept (From_ B0) z6_103 w'') => ldt6_99 w'' (hkk.trans h)
    have ldt6_108 := fun w'' (h : Kept (From_ B0) z6_103 w'') => ldt6_100 w'' (hkk.trans h)
    have ldt6_109 := fun w'' (h : Kept (From_ B0) z6_103 w'') => ldt6_101 w'' (hkk.trans h)
    have ldt6_110 := fun w'' (h : Kept (From_ B0) z6_103 w'') => ldt6_102 w'' (hkk.trans h)
    clear ldt6_98 ldt6_99 ldt6_100 ldt6_101 ldt6_102
    clear hkk hown hb gz6_103 hw'
    try simp only [Act.put, stA_, st0_, st1_]
    refine wpR_one 5 (by kernel_rfl) ?_
    apply at_call 5 (some 21)
    · rfl
    · rfl
    · rfl
    · intro w'; go_simp; first | done | exact ⟨rfl, rfl⟩ | with_reducible rfl
    intro w' hw'
    have RR_6_112 := Lib.hid (Ow.up RR_n6_103.out (hw'))
    have US_6_112 := Lib.hid (RdS.bl US_6_105.out (hw'))
    have E_6_112 := Lib.hid (Ext.trans E_6_105.out (hw'))
    refine (oname_4 o.s2 o.n2 _).mono ?_
    rintro e w'' ⟨A3, c3, rfl, hr3, hn3, -, hb⟩
    have NE_R_N_6_111 : RowKit.Hid (∀ a, A3 = some a → 0 < 4 → some a.block ≠ _) := Lib.hid (fun a ha hn e => by have h1 := (RR_6_112.out.own.lt _ e.symm).2; have h2 := hn3 a ha hn; omega)
    have RR_6_113 := Lib.hid (Ow.up RR_6_112.out (hb))
    have US_6_113 := Lib.hid (RdS.bl US_6_112.out (hb))
    have E_6_113 := Lib.hid (Ext.trans E_6_112.out (hb))
    have UN_6_111 := Lib.hid hr3
    clear hr3 hn3
    have hkk : Kept (From_ B0) z6_103 w'' := (Kept.of_ext hw').trans (Kept.of_below hb)
    refine ⟨_, rfl, Kept.of_below hb, ?_⟩
    obtain ⟨z6_111, gz6_111⟩ : ∃ x, w'' = x := ⟨_, rfl⟩
    rw [gz6_111] at RR_6_113 US_6_113 UN_6_111 E_6_113 hkk ⊢
    have ldt6_114 := fun w'' (h : Kept (From_ B0) z6_111 w'') => ldt6_106 w'' (hkk.trans h)
    have ldt6_115 := fun w'' (h : Kept (From_ B0) z6_111 w'') => ldt6_107 w'' (hkk.trans h)
    have ldt6_116 := fun w'' (h : Kept (From_ B0) z6_111 w'') => ldt6_108 w'' (hkk.trans h)
    have ldt6_117 := fun w'' (h : Kept (From_ B0) z6_111 w'') => ldt6_109 w'' (hkk.trans h)
    have ldt6_118 := fun w'' (h : Kept (From_ B0) z6_111 w'') => ldt6_110 w'' (hkk.trans h)
    clear ldt6_106 ldt6_107 ldt6_108 ldt6_109 ldt6_110
    clear hkk hb gz6_111 hw'
    try simp only [Act.put, stA_, st0_, st1_]
    refine wpR_one 6 (by kernel_rfl) ?_
    apply at_run 6 (some 22)
    · rfl
    · rfl
    · rfl
    intro w' hw'
    have RR_6_120 := Lib.hid (Ow.up RR_6_113.out (hw'))
    have US_6_120 := Lib.hid (RdS.bl US_6_113.out (hw'))
    have UN_6_120 := Lib.hid (RdS.bl UN_6_111.out (hw'))
    have E_6_120 := Lib.hid (Ext.trans E_6_113.out (hw'))
    obtain ⟨vv, w'', hrun, ho, hb, hg, hbk⟩ := Ow.app2 (P := Try.prog) 23 23 5 i0 _ 1 1 _ Try.underlying23 hi hz0 hz1 hz2 rfl (by decide) _ _ _ RR_6_120.out _ _ _ _ _ (UN_6_120.out) (f8_all _) (by unfold maxLen; omega) (by omega)
    refine ⟨vv, w'', exec_append (by rfl) (by rfl) (by rfl) hrun, Kept.of_from hb, ?_⟩
    have US_6_119 := Lib.hid (RdS.grown US_6_120.out hg NE_R_S_6_103.out)
    have NE_R_S_6_119 : RowKit.Hid (∀ a, (some (⟨g6_94, 0, none⟩ : Addr)) = some a → 0 < 1 → some a.block ≠ _) := Lib.hid (fun a ha hn => Ow.ne2 (NE_R_S_6_103.out a ha hn) (US_6_120.out.low a ha hn) hbk)
    have UN_6_119 := Lib.hid (RdS.grown UN_6_120.out hg NE_R_N_6_111.out)
    have NE_R_N_6_119 : RowKit.Hid (∀ a, A3 = some a → 0 < 4 → some a.block ≠ _) := Lib.hid (fun a ha hn => Ow.ne2 (NE_R_N_6_111.out a ha hn) (UN_6_120.out.low a ha hn) hbk)
    have E_6_119 : RowKit.Hid (Ext w1 w'') := Lib.hid ho.below
    have hkk : Kept (From_ B0) z6_111 w'' := (Kept.of_ext hw').trans (Kept.of_from hb)
    obtain ⟨AA6_119, cc6_119, rfl, hrr⟩ := ho.rds
    have RR_6_119 := Lib.hid ho
    clear hrr
    obtain ⟨z6_119, gz6_119⟩ : ∃ x, w'' = x := ⟨_, rfl⟩
    rw [gz6_119] at RR_6_119 US_6_119 UN_6_119 E_6_119 hkk ⊢
    have ldt6_121 := fun w'' (h : Kept (From_ B0) z6_119 w'') => ldt6_114 w'' (hkk.trans h)
    have ldt6_122 := fun w'' (h : Kept (From_ B0) z6_119 w'') => ldt6_115 w'' (hkk.trans h)
    have ldt6_123 := fun w'' (h : Kept (From_ B0) z6_119 w'') => ldt6_116 w'' (hkk.trans h)
    have ldt6_124 := fun w'' (h : Kept (From_ B0) z6_119 w'') => ldt6_117 w'' (hkk.trans h)
    have ldt6_125 := fun w'' (h : Kept (From_ B0) z6_119 w'') => ldt6_118 w'' (hkk.trans h)
    clear ldt6_114 ldt6_115 ldt6_116 ldt6_117 ldt6_118
    clear hkk hrun ho hb hg hbk gz6_119 hw'
    try simp only [Act.put, stA_, st0_, st1_]
    refine wpR_one 11 (by kernel_rfl) ?_
    apply at_run 11 (some 27)
    · rfl
    · rfl
    · rfl
    intro w' hw'
    have RR_6_127 := Lib.hid (Ow.up RR_6_119.out (hw'))
    have US_6_127 := Lib.hid (RdS.bl US_6_119.out (hw'))
    have UN_6_127 := Lib.hid (RdS.bl UN_6_119.out (hw'))
    have E_6_127 := Lib.hid (Ext.trans E_6_119.out (hw'))
    obtain ⟨vv, w'', hrun, ho, hb, hg, hbk⟩ := Ow.app2 (P := Try.prog) 23 23 5 i0 _ 1 1 _ Try.underlying23 hi hz0 hz1 hz2 rfl (by decide) _ _ _ RR_6_127.out _ _ _ _ _ (US_6_127.out) (f8_all _) (by unfold maxLen; omega) (by omega)
    refine ⟨vv, w'', exec_append (by rfl) (by rfl) (by rfl) hrun, Kept.of_from hb, ?_⟩
    have US_6_126 := Lib.hid (RdS.grown US_6_127.out hg NE_R_S_6_119.out)
    have NE_R_S_6_126 : RowKit.Hid (∀ a, (some (⟨g6_94, 0, none⟩ : Addr)) = some a → 0 < 1 → some a.block ≠ _) := Lib.hid (fun a ha hn => Ow.ne2 (NE_R_S_6_119.out a ha hn) (US_6_127.out.low a ha hn) hbk)
    have UN_6_126 := Lib.hid (RdS.grown UN_6_127.out hg NE_R_N_6_119.out)
    have NE_R_N_6_126 : RowKit.Hid (∀ a, A3 = some a → 0 < 4 → some a.block ≠ _) := Lib.hid (fun a ha hn => Ow.ne2 (NE_R_N_6_119.out a ha hn) (UN_6_127.out.low a ha hn) hbk)
    have E_6_126 : RowKit.Hid (Ext w1 w'') := Lib.hid ho.below
    have hkk : Kept (From_ B0) z6_119 w'' := (Kept.of_ext hw').trans (Kept.of_from hb)
    obtain ⟨AA6_126, cc6_126, rfl, hrr⟩ := ho.rds
    have RR_6_126 := Lib.hid ho
    clear hrr
    obtain ⟨z6_126, gz6_126⟩ : ∃ x, w'' = x := ⟨_, rfl⟩
    rw [gz6_126] at RR_6_126 US_6_126 UN_6_126 E_6_126 hkk ⊢
    have ldt6_128 := fun w'' (h : Kept (From_ B0) z6_126 w'') => ldt6_121 w'' (hkk.trans h)
    have ldt6_129 := fun w'' (h : Kept (From_ B0) z6_126 w'') => ldt6_122 w'' (hkk.trans h)
    have ldt6_130 := fun w'' (h : Kept (From_ B0) z6_126 w'') => ldt6_123 w'' (hkk.trans h)
    have ldt6_131 := fun w'' (h : Kept (From_ B0) z6_126 w'') => ldt6_124 w'' (hkk.trans h)
    have ldt6_132 := fun w'' (h : Kept (From_ B0) z6_126 w'') => ldt6_125 w'' (hkk.trans h)
    clear ldt6_121 ldt6_122 ldt6_123 ldt6_124 ldt6_125
    clear hkk hrun ho hb hg hbk gz6_126 hw'
    try simp only [Act.put, stA_, st0_, st1_]
    apply wpR_next 12 (some 2)
    · rfl
    · rfl
    · kernel_rfl
    · kernel_rfl
    · kernel_rfl
    · first | exact fun _ _ _ _ h => Exit.noConfusion h.1 | exact fun _ _ _ _ h => h
    apply Exists.intro
    apply And.intro
    · apply yr_run; rfl; intro w' hw'; go_simp; (try with_reducible rfl)
    simp only [Act.put, stA_, st0_, st1_]
    refine wpR_done (by kernel_rfl) ?_ _
    intro wE hwE
    have ho := (RR_6_126.out.up hwE)
    rw [show rowsV f8 (idB (o.s1, o.n1)) ++ rowsV f8 (idB (o.s2, o.n2)) ++ rowsV f8 [q] = rowsV f8 (idB (o.s1, o.n1) ++ (idB (o.s2, o.n2) ++ [q])) from by rw [rowsV_app, rowsV_app, List.append_assoc]] at ho
    obtain ⟨A9, c9, e9, hG⟩ := gives8_ow (w := w1) (L := idB (o.s1, o.n1) ++ (idB (o.s2, o.n2) ++ [q])) rfl (⟨own_lo8 ho.own (Nat.le_of_eq HB0.out), ho.below, Nat.le_refl _, ho.below.size⟩ : Ow w1 w1.heap.size 5 1 _ _ _ _)
    rw [← HL.out] at hG
    try rw [← HL.out] at e9
    have HG := Lib.hid (Gives8.from_ hG HB1.out)
    have HE := Lib.hid e9
    clear ho hG hwE e9 ldt6_128 ldt6_129 ldt6_130 ldt6_131 ldt6_132
    go_wp2
    go_ret
    exact HE.out ▸ HG.out
set_option maxRecDepth 100000 in
set_option maxHeartbeats 4000000 in
theorem fields_7 (o : OpT) (hk : o.k = 7) (hs : o.t.size ≤ 100000) (w : World) : Calls Try.prog 43 #[.agg (opCells o).toArray] w (Gives8 w (fdB o)) := by
  obtain ⟨i0, hi, hz0, hz1, hz2⟩ := info_parts_ info_u8
  have HL : RowKit.Hid (fdB o = fl o.e :: textB o.t) := Lib.hid (by unfold fdB; rw [if_neg (by omega), if_neg (by omega), if_neg (by omega), if_pos hk])
  have q3 : (o.k == 3) = false := by rw [hk]; rfl
  have q5 : (o.k == 5) = false := by rw [hk]; rfl
  have q6 : (o.k == 6) = false := by rw [hk]; rfl
  have q7 : (o.k == 7) = true := by rw [hk]; rfl
  have HX : RowKit.Hid (Whole (w.alloc (.cells (opCells o).toArray 53)) w.heap.size 53 (opCells o)) := Lib.hid (Whole.new_ _ _ _)
  have HB1 : RowKit.Hid (Below w.heap.size w (w.alloc (.cells (opCells o).toArray 53))) := Lib.hid (below1 _ _)
  clear hk
  go_enter Try.func43, Try.ntmps43
  go_upto_region 1 with fail
  obtain ⟨w1, gw1⟩ : ∃ z, w.alloc (.cells (opCells o).toArray 53) = z := ⟨_, rfl⟩
  rw [gw1] at HX HB1 ⊢
  obtain ⟨g0, gg0⟩ : ∃ z, w.heap.size = z := ⟨_, rfl⟩
  rw [gg0] at HX ⊢
  clear gw1 gg0
  have c0 := HX.out.cell (i := 0) rfl
  go_upto_region 9 with fail
  clear c0 q3 q5 q6 q7
  obtain ⟨B0, hB0⟩ : ∃ x, w1.heap.size = x := ⟨_, rfl⟩
  have HB0 := Lib.hid hB0
  have HG1 : RowKit.Hid (g0 < B0) := Lib.hid (by have := HX.out.lt; omega)
  have EX9 : RowKit.Hid (Ext w1 w1.drew) := Lib.hid ((Below.refl _ _).drew)
  have lC17 : ∀ w', Kept (From_ B0) w1.drew w' → w'.cell? ⟨g0, 17, none⟩ = some (.bool o.e) := fun w' h => h.from_cell HG1.out (EX9.out.cell (HX.out.cell (i := 17) rfl))
  have lC18 : ∀ w', Kept (From_ B0) w1.drew w' → w'.cell? ⟨g0, 18, none⟩ = some (.string o.t) := fun w' h => h.from_cell HG1.out (EX9.out.cell (HX.out.cell (i := 18) rfl))
  clear hB0
  refine wp_region_reg (From_ B0) (by kernel_rfl) ?_
  refine opR_ 0 35 (v := ?_) ?_ ?_; rotate_left
  · intro w' hw'; go_simp; (try with_reducible rfl)
  simp only [st0_, st1_]
  refine opR_ 1 36 (v := ?_) ?_ ?_; rotate_left
  · intro w' hw'; go_simp; (try with_reducible rfl)
  simp only [st0_, st1_]
  refine opR_ 3 38 (v := ?_) ?_ ?_; rotate_left
  · intro w' hw'; go_simp; (try with_reducible rfl)
  simp only [st0_, st1_]
  refine opR_ 4 39 (v := ?_) ?_ ?_; rotate_left
  · intro w' hw'; go_simp; (try with_reducible rfl)
  simp only [st0_, st1_]
  apply wpR_call 2 (some 37)
  · rfl
  · rfl
  · kernel_rfl
  · rfl
  · intro w'; go_simp; first | done | exact ⟨rfl, rfl⟩ | with_reducible rfl
  intro w' hw'
  refine (g8_parts (n := 1) rfl (oflag_any o.e w')).mono ?_
  rintro e w2 ⟨A3, c3, rfl, hr3, -, -, hb⟩
  refine ⟨_, rfl, Kept.of_below hb, ?_⟩
  have EX2 : RowKit.Hid (Ext w1 w2) := Lib.hid (Ext.trans (Ext.trans EX9.out hw') hb)
  have HR2 := Lib.hid hr3
  have kk := (Kept.of_ext (S := From_ B0) hw').trans (Kept.of_below hb)
  replace lC17 := fun w'' (h : Kept (From_ B0) w2 w'') => lC17 w'' (kk.trans h)
  replace lC18 := fun w'' (h : Kept (From_ B0) w2 w'') => lC18 w'' (kk.trans h)
  clear hw' hb hr3 kk
  simp only [Act.put, stA_, st0_, st1_]
  apply wpR_call 5 (some 40)
  · rfl
  · rfl
  · kernel_rfl
  · rfl
  · intro w'; go_simp; first | done | exact ⟨rfl, rfl⟩ | with_reducible rfl
  intro w' hw'
  have hr3 := HR2.out.bl hw'
  refine (text_any A3 c3 [fl o.e] o.t _ hr3 (by show 1 ≤ _; omega) (by omega)).mono ?_
  rintro e w3 ⟨A4, c4, rfl, h2, h3, h4, h5⟩
  refine ⟨_, rfl, Kept.of_below h5, ?_⟩
  have HG := Lib.hid (Gives8.from_ (w := w) ⟨A4, c4, rfl, h2, h3, h4, h5⟩ (bel_bl HB1.out (Ext.trans EX2.out hw')))
  clear hw' hr3 h2 h3 h4 h5 lC17 lC18
  simp only [Act.put, stA_, st0_, st1_]
  refine opR_ 6 2 (v := ?_) ?_ ?_; rotate_left
  · intro w' hw'; go_simp; (try with_reducible rfl)
  simp only [st0_, st1_]
  refine wpR_done (by kernel_rfl) ?_ _
  intro wE hwE
  have HGE : RowKit.Hid (Gives8 w (fl o.e :: textB o.t) (.returned (.slice A4 (([fl o.e] ++ textB o.t) : List Nat).length c4)) wE) := Lib.hid (by
    obtain ⟨A9, c9, e9, h2, h3, h4, h5⟩ := HG.out
    obtain ⟨rfl, rfl⟩ : A4 = A9 ∧ c4 = c9 := by injection e9 with e9; injection e9 with a1 a2 a3; exact ⟨a1, a3⟩
    exact ⟨A4, c4, rfl, h2.bl hwE, h3, own_up h4 hwE, bel_bl h5 hwE⟩)
  clear hwE
  have hf := HGE.out
  rw [← HL.out] at hf
  have HF := Lib.hid hf
  clear hf HGE
  go_wp2
  go_ret
  exact HF.out
set_option maxRecDepth 100000 in
set_option maxHeartbeats 4000000 in
theorem fields_8 (o : OpT) (hk : o.k = 8) (hs : o.t.size ≤ 100000) (w : World) : Calls Try.prog 43 #[.agg (opCells o).toArray] w (Gives8 w (fdB o)) := by
  obtain ⟨i0, hi, hz0, hz1, hz2⟩ := info_parts_ info_u8
  have HL : RowKit.Hid (fdB o = fl o.e :: be8 o.m) := Lib.hid (by unfold fdB; rw [if_neg (by omega), if_neg (by omega), if_neg (by omega), if_neg (by omega), if_pos hk])
  have q3 : (o.k == 3) = false := by rw [hk]; rfl
  have q5 : (o.k == 5) = false := by rw [hk]; rfl
  have q6 : (o.k == 6) = false := by rw [hk]; rfl
  have q7 : (o.k == 7) = false := by rw [hk]; rfl
  have q8 : (o.k == 8) = true := by rw [hk]; rfl
  have HX : RowKit.Hid (Whole (w.alloc (.cells (opCells o).toArray 53)) w.heap.size 53 (opCells o)) := Lib.hid (Whole.new_ _ _ _)
  have HB1 : RowKit.Hid (Below w.heap.size w (w.alloc (.cells (opCells o).toArray 53))) := Lib.hid (below1 _ _)
  clear hk
  go_enter Try.func43, Try.ntmps43
  go_upto_region 1 with fail
  obtain ⟨w1, gw1⟩ : ∃ z, w.alloc (.cells (opCells o).toArray 53) = z := ⟨_, rfl⟩
  rw [gw1] at HX HB1 ⊢
  obtain ⟨g0, gg0⟩ : ∃ z, w.heap.size = z := ⟨_, rfl⟩
  rw [gg0] at HX ⊢
  clear gw1 gg0
  have c0 := HX.out.cell (i := 0) rfl
  go_upto_region 11 with fail
  clear c0 q3 q5 q6 q7 q8
  obtain ⟨B0, hB0⟩ : ∃ x, w1.heap.size = x := ⟨_, rfl⟩
  have HB0 := Lib.hid hB0
  have HG1 : RowKit.Hid (g0 < B0) := Lib.hid (by have := HX.out.lt; omega)
  have EX9 : RowKit.Hid (Ext w1 w1.drew) := Lib.hid ((Below.refl _ _).drew)
  have lC17 : ∀ w', Kept (From_ B0) w1.drew w' → w'.cell? ⟨g0, 17, none⟩ = some (.bool o.e) := fun w' h => h.from_cell HG1.out (EX9.out.cell (HX.out.cell (i := 17) rfl))
  have lC19 : ∀ w', Kept (From_ B0) w1.drew w' → w'.cell? ⟨g0, 19, none⟩ = some (.int .i64 o.m) := fun w' h => h.from_cell HG1.out (EX9.out.cell (HX.out.cell (i := 19) rfl))
  clear hB0
  refine wp_region_reg (From_ B0) (by kernel_rfl) ?_
  refine opR_ 0 43 (v := ?_) ?_ ?_; rotate_left
  · intro w' hw'; go_simp; (try with_reducible rfl)
  simp only [st0_, st1_]
  refine opR_ 1 44 (v := ?_) ?_ ?_; rotate_left
  · intro w' hw'; go_simp; (try with_reducible rfl)
  simp only [st0_, st1_]
  refine opR_ 3 46 (v := ?_) ?_ ?_; rotate_left
  · intro w' hw'; go_simp; (try with_reducible rfl)
  simp only [st0_, st1_]
  refine opR_ 4 47 (v := ?_) ?_ ?_; rotate_left
  · intro w' hw'; go_simp; (try with_reducible rfl)
  simp only [st0_, st1_]
  apply wpR_call 2 (some 45)
  · rfl
  · rfl
  · kernel_rfl
  · rfl
  · intro w'; go_simp; first | done | exact ⟨rfl, rfl⟩ | with_reducible rfl
  intro w' hw'
  refine (g8_parts (n := 1) rfl (oflag_any o.e w')).mono ?_
  rintro e w2 ⟨A3, c3, rfl, hr3, -, -, hb⟩
  refine ⟨_, rfl, Kept.of_below hb, ?_⟩
  have EX2 : RowKit.Hid (Ext w1 w2) := Lib.hid (Ext.trans (Ext.trans EX9.out hw') hb)
  have HR2 := Lib.hid hr3
  have kk := (Kept.of_ext (S := From_ B0) hw').trans (Kept.of_below hb)
  replace lC17 := fun w'' (h : Kept (From_ B0) w2 w'') => lC17 w'' (kk.trans h)
  replace lC19 := fun w'' (h : Kept (From_ B0) w2 w'') => lC19 w'' (kk.trans h)
  clear hw' hb hr3 kk
  simp only [Act.put, stA_, st0_, st1_]
  apply wpR_call 5 (some 48)
  · rfl
  · rfl
  · kernel_rfl
  · rfl
  · intro w'; go_simp; first | done | exact ⟨rfl, rfl⟩ | with_reducible rfl
  intro w' hw'
  have hr3 := HR2.out.bl hw'
  refine (num_any A3 c3 [fl o.e] o.m _ hr3 (by show 1 ≤ _; omega)).mono ?_
  rintro e w3 ⟨A4, c4, rfl, h2, h3, h4, h5⟩
  refine ⟨_, rfl, Kept.of_below h5, ?_⟩
  have HG := Lib.hid (Gives8.from_ (w := w) ⟨A4, c4, rfl, h2, h3, h4, h5⟩ (bel_bl HB1.out (Ext.trans EX2.out hw')))
  clear hw' hr3 h2 h3 h4 h5 lC17 lC19
  simp only [Act.put, stA_, st0_, st1_]
  refine opR_ 6 2 (v := ?_) ?_ ?_; rotate_left
  · intro w' hw'; go_simp; (try with_reducible rfl)
  simp only [st0_, st1_]
  refine wpR_done (by kernel_rfl) ?_ _
  intro wE hwE
  have HGE : RowKit.Hid (Gives8 w (fl o.e :: be8 o.m) (.returned (.slice A4 (([fl o.e] ++ be8 o.m) : List Nat).length c4)) wE) := Lib.hid (by
    obtain ⟨A9, c9, e9, h2, h3, h4, h5⟩ := HG.out
    obtain ⟨rfl, rfl⟩ : A4 = A9 ∧ c4 = c9 := by injection e9 with e9; injection e9 with a1 a2 a3; exact ⟨a1, a3⟩
    exact ⟨A4, c4, rfl, h2.bl hwE, h3, own_up h4 hwE, bel_bl h5 hwE⟩)
  clear hwE
  have hf := HGE.out
  rw [← HL.out] at hf
  have HF := Lib.hid hf
  clear hf HGE
  go_wp2
  go_ret
  exact HF.out
theorem fields_any (o : OpT) (hs : o.t.size ≤ 100000) (w : World) : Calls Try.prog 43 #[.agg (opCells o).toArray] w (Gives8 w (fdB o)) := by
  by_cases k3 : o.k = 3
  · exact fields_3 o k3 hs w
  by_cases k5 : o.k = 5
  · exact fields_5 o k5 hs w
  by_cases k6 : o.k = 6
  · exact fields_6 o k6 hs w
  by_cases k7 : o.k = 7
  · exact fields_7 o k7 hs w
  by_cases k8 : o.k = 8
  · exact fields_8 o k8 hs w
  exact fields_0 o k3 k5 k6 k7 k8 w
end Go.Proofs.Ytinfbaflkjghhaa
/- opcode.Put. -/
namespace Go.Proofs.Ytinfbaflkjghhaa
open Go.RowKit
theorem mayEs_all : ∀ {L : List OpT}, mayEs L = 0 → ∀ o ∈ L, mayO o = 0
  | [], _, _, ho => by cases ho
  | a :: L, h, o, ho => by
    unfold mayEs at h
    by_cases ha : mayO a = 0
    · rw [if_pos ha] at h
      rcases List.mem_cons.1 ho with rfl | hm
      · exact ha
      · exact mayEs_all h o hm
    · rw [if_neg ha] at h; exact absurd h ha
theorem mayE_all {L : List OpT} (h : mayE L = 0) : ∀ o ∈ L, mayO o = 0 := mayEs_all (mayE_ok h).2.2
theorem fdB_len {o : OpT} (h : o.t.size ≤ 16) : (fdB o).length ≤ 18 := by
  have hc : ∀ c : C5, (crB c).length ≤ 9 := fun c => by obtain ⟨n, h1, h2, h3⟩ := crB_len c; omega
  by_cases k3 : o.k = 3
  · rw [fdB3 k3, List.length_append]; have := hc o.ca; have := hc o.cb; omega
  by_cases k5 : o.k = 5
  · rw [fdB5 k5]; simp [idB]
  by_cases k6 : o.k = 6
  · rw [fdB6 k6]; simp [idB]
  by_cases k7 : o.k = 7
  · rw [fdB7 k7]; simp [textB, tB_len]; omega
  by_cases k8 : o.k = 8
  · rw [fdB8 k8]; simp [be8_len]
  rw [fdB0 k3 k5 k6 k7 k8]; simp
theorem opB_len {o : OpT} (h : mayO o = 0) : (opB o).length ≤ 23 := by
  have := fdB_len (mayO_head h).2.2.2
  simp [opB, idB]; omega
theorem fl_lt (e : Bool) : fl e < 256 := by cases e <;> decide
theorem crB_lt (c : C5) : ∀ b ∈ crB c, b < 256 := by
  unfold crB
  intro b hb
  rcases List.mem_append.1 hb with h | h
  · exact idB_lt _ b h
  · split at h
    · rw [List.mem_singleton.1 h]; omega
    · rcases List.mem_cons.1 h with rfl | h
      · omega
      · exact idB_lt _ b h
theorem fdB_lt (o : OpT) : ∀ b ∈ fdB o, b < 256 := by
  intro b hb
  unfold fdB at hb
  split at hb
  · rcases List.mem_append.1 hb with h | h
    · exact crB_lt _ b h
    · exact crB_lt _ b h
  split at hb
  · rcases List.mem_append.1 hb with h | h
    · exact idB_lt _ b h
    rcases List.mem_append.1 h with h | h
    · exact idB_lt _ b h
    · rw [List.mem_singleton.1 h]; omega
  split at hb
  · exact idB_lt _ b hb
  split at hb
  · rcases List.mem_cons.1 hb with rfl | h
    · exact fl_lt _
    · exact textB_lt _ b h
  split at hb
  · rcases List.mem_cons.1 hb with rfl | h
    · exact fl_lt _
    · exact be8_lt _ b h
  · cases hb
theorem opB_lt (o : OpT) : ∀ b ∈ opB o, b < 256 := by
  intro b hb
  unfold opB at hb
  rcases List.mem_cons.1 hb with rfl | h
  · omega
  rcases List.mem_append.1 h with h | h
  · exact idB_lt _ b h
  · exact fdB_lt o b h
theorem edB_lt (L : List OpT) : ∀ b ∈ edB L, b < 256 := by
  intro b hb
  unfold edB at hb
  rcases List.mem_cons.1 hb with rfl | h
  · omega
  obtain ⟨o, -, h2⟩ := List.mem_flatMap.1 h
  exact opB_lt o b h2
/-- What stands in the row when k operations are laid down. -/
def pT (B : List Nat) (L : List OpT) (k : Nat) : List Nat := B ++ (L.length % 256 :: (L.take k).flatMap opB)
theorem pT_next {B : List Nat} {L : List OpT} {k : Nat} {o : OpT} (h : L[k]? = some o) : pT B L (k + 1) = pT B L k ++ [(o.k % 256).toNat] ++ idB (o.s, o.n) ++ fdB o := by
  unfold pT
  rw [take_snoc_ L k o h, List.flatMap_append, List.flatMap_cons, List.flatMap_nil, List.append_nil]
  simp [opB, List.append_assoc]
theorem pT_all (B : List Nat) (L : List OpT) : pT B L L.length = B ++ edB L := by unfold pT edB; rw [List.take_length]
theorem flat_len : ∀ (L : List OpT), (∀ o ∈ L, mayO o = 0) → (L.flatMap opB).length ≤ 23 * L.length
  | [], _ => by simp
  | o :: L, h => by
    have h1 := opB_len (h o (by simp))
    have h2 := flat_len L (fun x hx => h x (by simp [hx]))
    rw [List.flatMap_cons, List.length_append, List.length_cons]
    omega
theorem pT_len {B : List Nat} {L : List OpT} (h : mayE L = 0) (k : Nat) : (pT B L k).length ≤ B.length + 139 := by
  have h1 := flat_len (L.take k) (fun o ho => mayE_all h o (List.mem_of_mem_take ho))
  have h2 : (L.take k).length ≤ L.length := List.length_take_le' _ _
  have h3 := (mayE_ok h).2.1
  unfold pT
  rw [List.length_append, List.length_cons]
  omega
theorem edB_len {L : List OpT} (h : mayE L = 0) : (edB L).length ≤ 139 := by
  have := pT_len (B := []) h L.length
  rw [pT_all, List.nil_append, List.length_nil, Nat.zero_add] at this
  exact this
theorem own_ne_ {W : World} {lo k n g : Nat} {T T' : TypeId} {v : Value} {xs cs : List Value} (h : W.ownsRow lo T k v n xs) (hw : Whole W g T' cs) (hT : T' ≠ T) : some g ≠ v.ownBlock := by
  obtain ⟨A, c, rfl, -⟩ := RdS.of_own h
  exact own_ne h hw hT
set_option maxRecDepth 100000 in
set_option maxHeartbeats 4000000 in
theorem oput_not (A0 : Option Addr) (m0 c0 : Nat) (A : Option Addr) (n c : Nat) (L : List OpT) (w : World) (h : RdS w w.heap.size 20 A n c (rowsV opCells L)) (hn : n ≤ 1000000) (hm : mayE L ≠ 0) :
    Calls Try.prog 26 #[.slice A0 m0 c0, .agg #[.slice A n c]] w fun e w' => e = .returned (.tuple #[.slice none 0 0, .int .i64 (mayE L)]) ∧ Below w.heap.size w w' := by
  have HM := Lib.hid (mayedit_any A n c L (w.alloc (.cells #[.slice A n c] 28)) (h.al _) (by unfold maxLen; omega))
  have hX : Whole (w.alloc (.cells #[.slice A n c] 28)) w.heap.size 28 [.slice A n c] := Whole.new_ _ _ [_]
  have c0 := hX.cell (i := 0) rfl
  obtain ⟨x, gx⟩ : ∃ x, mayE L = x := ⟨_, rfl⟩
  rw [gx] at HM hm ⊢
  have q : (x == 0) = false := beq_eq_false_iff_ne.2 hm
  have q' : (x != 0) = true := bne_iff_ne.2 hm
  clear gx hX h hm hn
  go_enter Try.func26, Try.ntmps26
  go_wp2_with (first
    | (go_at_call 41
       refine HM.out.mono ?_
       rintro e w2 ⟨rfl, hb⟩
       have HB := Lib.hid (below_after1 hb)
       clear hb))
  exact bodyPost_ret (v := .tuple #[.slice none 0 0, .int .i64 x]) (by simp [results, Try.results26, go_sem]) rfl ⟨rfl, HB.out⟩
set_option maxRecDepth 100000 in
set_option maxHeartbeats 8000000 in
theorem oput_yes (A0 : Option Addr) (c0 : Nat) (B : List Nat) (A : Option Addr) (n c : Nat) (L : List OpT) (w : World) (h0 : RdS w w.heap.size 1 A0 B.length c0 (rowsV f8 B)) (hB : B.length ≤ 90000) (h : RdS w w.heap.size 20 A n c (rowsV opCells L)) (hm : mayE L = 0) :
    Calls Try.prog 26 #[.slice A0 B.length c0, .agg #[.slice A n c]] w fun e w' => ∃ A' c', e = .returned (.tuple #[.slice A' (B ++ edB L).length c', .int .i64 0]) ∧ w'.ownsRow w.heap.size 5 1 (.slice A' (B ++ edB L).length c') (B ++ edB L).length (rowsV f8 (B ++ edB L)) ∧ Below w.heap.size w w' := by
  obtain ⟨i0, hi, hz0, hz1, hz2⟩ := info_parts_ info_u8
  obtain ⟨hm1, hm2, hm3⟩ := mayE_ok hm
  have hl : L.length = n := h.rlen opCells_len' (by decide)
  have hM := fun W h => mayedit_any A n c L W h (by unfold maxLen; omega)
  rw [hm] at hM
  have HM := Lib.hid hM
  have HAll := Lib.hid (mayE_all hm)
  have HPl := Lib.hid (fun k => pT_len (B := B) hm k)
  have HPn := Lib.hid (fun k o (h : L[k]? = some o) => pT_next (B := B) h)
  have HPa := Lib.hid (pT_all B L)
  have HP0 : RowKit.Hid (pT B L 0 = B ++ [n % 256]) := Lib.hid (by unfold pT; rw [hl]; rfl)
  have HRB := Lib.hid (h0.al (.cells #[.slice A n c] 28))
  have HRL := Lib.hid (h.al (.cells #[.slice A n c] 28))
  have HE : RowKit.Hid (Whole (w.alloc (.cells #[.slice A n c] 28)) w.heap.size 28 [.slice A n c]) := Lib.hid (Whole.new_ _ _ [_])
  have HB1 := Lib.hid (below1 w (.cells #[.slice A n c] 28))
  have Hn := Lib.hid hl
  obtain ⟨nB, gnB⟩ : ∃ z, B.length = z := ⟨_, rfl⟩
  rw [gnB] at hB HRB HPl ⊢
  have GnB := Lib.hid gnB
  have hu : IntKind.u8.wrap (n : Int) = ((n % 256 : Nat) : Int) := by rw [IntKind.wrap_u8]; omega
  obtain ⟨q, gq⟩ : ∃ z, n % 256 = z := ⟨_, rfl⟩
  rw [gq] at hu HP0
  have hn6 : n ≤ 6 := by omega
  clear h0 h hm hM gnB hm3 gq hm1 hm2 hl
  go_enter Try.func26, Try.ntmps26
  go_upto_region 1 with fail
  obtain ⟨w1, gw1⟩ : ∃ z, w.alloc (.cells #[.slice A n c] 28) = z := ⟨_, rfl⟩
  obtain ⟨g0, gg0⟩ : ∃ z, w.heap.size = z := ⟨_, rfl⟩
  rw [gw1] at HRB HRL HE HB1 ⊢
  rw [gg0] at HE ⊢
  clear gw1 gg0
  have e0 := HE.out.cell (i := 0) rfl
  go_upto_region 4 with (first
    | (go_at_call 41
       refine (HM.out _ HRL.out).mono ?_
       rintro e w2 ⟨rfl, hb2⟩
       have HRB2 := Lib.hid (HRB.out.bl hb2)
       have HRL2 := Lib.hid (HRL.out.bl hb2)
       have HE2 := Lib.hid (HE.out.bl hb2)
       have HB2 := Lib.hid (bel_bl HB1.out hb2)
       clear hb2 e0 HRB HRL HE HB1))
  obtain ⟨B0, hB0⟩ : ∃ x, w2.heap.size = x := ⟨_, rfl⟩
  have HB0 := Lib.hid hB0
  have HG0 : RowKit.Hid (g0 < B0) := Lib.hid (by have := HE2.out.lt; omega)
  clear hB0
  refine wp_behind2 (fun a a' w' => ∃ (A6 : Option Addr) (c6 : Nat) (u1 u2 u3 u4 u5 u6 u7 u8 : Value), a' = (((((((((a.put (some 15) u1).put (some 16) u2).put (some 17) u3).put (some 18) u4).put (some 19) u5).put (some 20) u6).put (some 21) u7).put (some 22) u8).put (some 7) (.slice A6 (nB + 1) c6)) ∧ RowKit.Hid (Ow w2 B0 5 1 (.slice A6 (nB + 1) c6) (nB + 1) (rowsV f8 (pT B L 0)) w')) ?_ ?_
  · have EX9 : RowKit.Hid (Ext w2 w2.drew) := Lib.hid ((Below.refl _ _).drew)
    have lC0 : ∀ w', Kept (From_ B0) w2.drew w' → w'.cell? ⟨g0, 0, none⟩ = some (.slice A n c) := fun w' h => h.from_cell HG0.out (EX9.out.cell (HE2.out.cell (i := 0) rfl))
    have HCl := Lib.hid (fun W (hx : Ext w2 W) => g8_parts (n := nB) (by exact GnB.out) (GnB.out ▸ clone8 A0 c0 B W (GnB.out.symm ▸ HRB2.out.bl hx) (by have := GnB.out; omega)))
    refine wp_region_reg (From_ B0) (by kernel_rfl) ?_
    apply wpR_next 0 (some 15)
    · rfl
    · rfl
    · kernel_rfl
    · kernel_rfl
    · kernel_rfl
    · first | exact fun _ _ _ _ h => Exit.noConfusion h.1 | exact fun _ _ _ _ h => h
    apply Exists.intro
    apply And.intro
    · apply yr_run; rfl; intro w' hw'; go_simp; (try with_reducible rfl)
    simp only [Act.put, stA_, st0_, st1_]
    apply wpR_next 2 (some 17)
    · rfl
    · rfl
    · kernel_rfl
    · kernel_rfl
    · kernel_rfl
    · first | exact fun _ _ _ _ h => Exit.noConfusion h.1 | exact fun _ _ _ _ h => h
    apply Exists.intro
    apply And.intro
    · apply yr_run; rfl; intro w' hw'; go_simp; (try with_reducible rfl)
    simp only [Act.put, stA_, st0_, st1_]
    apply wpR_next 3 (some 18)
    · rfl
    · rfl
    · kernel_rfl
    · kernel_rfl
    · kernel_rfl
    · first | exact fun _ _ _ _ h => Exit.noConfusion h.1 | exact fun _ _ _ _ h => h
    apply Exists.intro
    apply And.intro
    · apply yr_run; rfl; intro w' hw'; go_simp; (try with_reducible rfl)
    simp only [Act.put, stA_, st0_, st1_]
    apply wpR_next 4 (some 19)
    · rfl
    · rfl
    · kernel_rfl
    · kernel_rfl
    · kernel_rfl
    · first | exact fun _ _ _ _ h => Exit.noConfusion h.1 | exact fun _ _ _ _ h => h
    apply Exists.intro
    apply And.intro
    · apply yr_run; rfl; intro w' hw'; go_simp; (try with_reducible rfl)
    simp only [Act.put, stA_, st0_, st1_]
    apply wpR_next 5 (some 20)
    · rfl
    · rfl
    · kernel_rfl
    · kernel_rfl
    · kernel_rfl
    · first | exact fun _ _ _ _ h => Exit.noConfusion h.1 | exact fun _ _ _ _ h => h
    apply Exists.intro
    apply And.intro
    · apply yr_run; rfl; intro w' hw'; go_simp; (try with_reducible rfl)
    simp only [Act.put, stA_, st0_, st1_]
    refine wpR_two 1 6 (by kernel_rfl) ?_ ?_
    · apply at_call 1 (some 16)
      · rfl
      · rfl
      · rfl
      · intro w'; go_simp; first | done | exact ⟨rfl, rfl⟩ | with_reducible rfl
      intro w' hw'
      have E_1_2 := Lib.hid (Ext.trans EX9.out (hw'))
      refine (HCl.out _ E_1_2.out).mono ?_
      rintro e w'' ⟨AA1_1, cc1_1, rfl, -, -, hown, hb⟩
      have E_1_3 := Lib.hid (Ext.trans E_1_2.out (hb))
      have RR_n1_1 : RowKit.Hid (Ow w2 B0 5 1 (.slice AA1_1 nB cc1_1) nB (rowsV f8 B) w'') := Lib.hid ⟨own_lo8 hown (by have h1 := E_1_2.out.size; have h2 := HB0.out; omega), E_1_3.out, Nat.le_of_eq HB0.out, by have h1 := E_1_3.out.size; have h2 := HB0.out; omega⟩
      have hkk : Kept (From_ B0) w2.drew w'' := (Kept.of_ext hw').trans (Kept.of_below hb)
      refine ⟨_, rfl, Kept.of_below hb, ?_⟩
      obtain ⟨z1_1, gz1_1⟩ : ∃ x, w'' = x := ⟨_, rfl⟩
      rw [gz1_1] at RR_n1_1 E_1_3 hkk ⊢
      have ldt1_4 := fun w'' (h : Kept (From_ B0) z1_1 w'') => lC0 w'' (hkk.trans h)
      clear lC0
      clear hkk hown hb gz1_1 hw'
      try simp only [Act.put, stA_, st0_, st1_]
      refine wpR_one 6 (by kernel_rfl) ?_
      apply at_run 6 (some 21)
      · rfl
      · rfl
      · rfl
      intro w' hw'
      have RR_1_6 := Lib.hid (Ow.up RR_n1_1.out (hw'))
      have E_1_6 := Lib.hid (Ext.trans E_1_3.out (hw'))
      refine ⟨.slice (some ⟨w'.heap.size, 0, none⟩) 1 1, w'.alloc (.cells (#[.int .u8 (q : Int)]) 5), exec_buildSlice 23 5 1 #[(0, .tmp 20)] (by rfl) Try.underlying23 _ (by kernel_rfl), Kept.of_below (below1 _ _), ?_⟩
      have NE_R_S_1_5 : RowKit.Hid (some w'.heap.size ≠ _) := Lib.hid (Ow.ne_ RR_1_6.out (Nat.le_refl _))
      have RR_1_7 := Lib.hid (Ow.up RR_1_6.out (below1 w' (.cells (#[.int .u8 (q : Int)]) 5)))
      have E_1_7 := Lib.hid (Ext.trans E_1_6.out (below1 w' (.cells (#[.int .u8 (q : Int)]) 5)))
      have US_n1_5 : RowKit.Hid (RdS (w'.alloc (.cells (#[.int .u8 (q : Int)]) 5)) (w'.alloc (.cells (#[.int .u8 (q : Int)]) 5)).heap.size 1 (some ⟨w'.heap.size, 0, none⟩) 1 1 (rowsV f8 [q])) := Lib.hid (RdS.of_whole8 (Whole.new_ _ _ _) rfl)
      have hkk : Kept (From_ B0) z1_1 (w'.alloc (.cells (#[.int .u8 (q : Int)]) 5)) := (Kept.of_ext hw').trans (Kept.of_below (below1 _ _))
      obtain ⟨v1_8, gv1_8⟩ : ∃ x, w'.alloc (.cells (#[.int .u8 (q : Int)]) 5) = x := ⟨_, rfl⟩
      rw [gv1_8] at RR_1_7 US_n1_5 E_1_7 hkk ⊢
      have ldt1_9 := fun w'' (h : Kept (From_ B0) v1_8 w'') => ldt1_4 w'' (hkk.trans h)
      clear ldt1_4
      clear gv1_8 hkk
      obtain ⟨g1_5, gg1_5⟩ : ∃ x, w'.heap.size = x := ⟨_, rfl⟩
      rw [gg1_5] at US_n1_5 NE_R_S_1_5 ⊢
      clear gg1_5 hw'
      have NF_NE_R_S_1_5 : RowKit.Hid (∀ a, (some (⟨g1_5, 0, none⟩ : Addr)) = some a → 0 < 1 → some a.block ≠ _) := Lib.hid (fun a ha _ => by obtain rfl := Option.some.inj ha; exact NE_R_S_1_5.out)
      try simp only [Act.put, stA_, st0_, st1_]
      refine wpR_one 7 (by kernel_rfl) ?_
      apply at_run 7 (some 22)
      · rfl
      · rfl
      · rfl
      intro w' hw'
      have RR_1_11 := Lib.hid (Ow.up RR_1_7.out (hw'))
      have US_1_11 := Lib.hid (RdS.bl US_n1_5.out (hw'))
      have E_1_11 := Lib.hid (Ext.trans E_1_7.out (hw'))
      obtain ⟨vv, w'', hrun, ho, hb, hg, hbk⟩ := Ow.app2 (P := Try.prog) 23 23 5 i0 _ 1 1 _ Try.underlying23 hi hz0 hz1 hz2 rfl (by decide) _ _ _ RR_1_11.out _ _ _ _ _ (US_1_11.out) (f8_all [q]) (by unfold maxLen; omega) (by omega)
      refine ⟨vv, w'', exec_append (by rfl) (by rfl) (by rfl) hrun, Kept.of_from hb, ?_⟩
      have US_1_10 := Lib.hid (RdS.grown US_1_11.out hg NF_NE_R_S_1_5.out)
      have NE_R_S_1_10 : RowKit.Hid (∀ a, (some (⟨g1_5, 0, none⟩ : Addr)) = some a → 0 < 1 → some a.block ≠ _) := Lib.hid (fun a ha hn => Ow.ne2 (NF_NE_R_S_1_5.out a ha hn) (US_1_11.out.low a ha hn) hbk)
      have E_1_10 : RowKit.Hid (Ext w2 w'') := Lib.hid ho.below
      have hkk : Kept (From_ B0) v1_8 w'' := (Kept.of_ext hw').trans (Kept.of_from hb)
      obtain ⟨AA1_10, cc1_10, rfl, hrr⟩ := ho.rds
      have RR_1_10 := Lib.hid ho
      clear hrr
      obtain ⟨z1_10, gz1_10⟩ : ∃ x, w'' = x := ⟨_, rfl⟩
      rw [gz1_10] at RR_1_10 US_1_10 E_1_10 hkk ⊢
      have ldt1_12 := fun w'' (h : Kept (From_ B0) z1_10 w'') => ldt1_9 w'' (hkk.trans h)
      clear ldt1_9
      clear hkk hrun ho hb hg hbk gz1_10 hw'
      try simp only [Act.put, stA_, st0_, st1_]
      apply wpR_next 8 (some 7)
      · rfl
      · rfl
      · kernel_rfl
      · kernel_rfl
      · kernel_rfl
      · first | exact fun _ _ _ _ h => Exit.noConfusion h.1 | exact fun _ _ _ _ h => h
      apply Exists.intro
      apply And.intro
      · apply yr_run; rfl; intro w' hw'; go_simp; (try with_reducible rfl)
      simp only [Act.put, stA_, st0_, st1_]
      refine wpR_done (by kernel_rfl) ?_ _
      intro wE hwE
      have ho := (RR_1_10.out.up hwE)
      rw [← rowsV_app, ← HP0.out] at ho
      exact ⟨rfl, _, _, _, _, _, _, _, _, _, _, rfl, Lib.hid ho⟩
    · apply at_run 6 (some 21)
      · rfl
      · rfl
      · rfl
      intro w' hw'
      have E_2_14 := Lib.hid (Ext.trans EX9.out (hw'))
      refine ⟨.slice (some ⟨w'.heap.size, 0, none⟩) 1 1, w'.alloc (.cells (#[.int .u8 (q : Int)]) 5), exec_buildSlice 23 5 1 #[(0, .tmp 20)] (by rfl) Try.underlying23 _ (by kernel_rfl), Kept.of_below (below1 _ _), ?_⟩
      have E_2_15 := Lib.hid (Ext.trans E_2_14.out (below1 w' (.cells (#[.int .u8 (q : Int)]) 5)))
      have US_n2_13 : RowKit.Hid (RdS (w'.alloc (.cells (#[.int .u8 (q : Int)]) 5)) (w'.alloc (.cells (#[.int .u8 (q : Int)]) 5)).heap.size 1 (some ⟨w'.heap.size, 0, none⟩) 1 1 (rowsV f8 [q])) := Lib.hid (RdS.of_whole8 (Whole.new_ _ _ _) rfl)
      have hkk : Kept (From_ B0) w2.drew (w'.alloc (.cells (#[.int .u8 (q : Int)]) 5)) := (Kept.of_ext hw').trans (Kept.of_below (below1 _ _))
      obtain ⟨v2_16, gv2_16⟩ : ∃ x, w'.alloc (.cells (#[.int .u8 (q : Int)]) 5) = x := ⟨_, rfl⟩
      rw [gv2_16] at US_n2_13 E_2_15 hkk ⊢
      have ldt2_17 := fun w'' (h : Kept (From_ B0) v2_16 w'') => lC0 w'' (hkk.trans h)
      clear lC0
      clear gv2_16 hkk
      obtain ⟨g2_13, gg2_13⟩ : ∃ x, w'.heap.size = x := ⟨_, rfl⟩
      rw [gg2_13] at US_n2_13  ⊢
      clear gg2_13 hw'
      try simp only [Act.put, stA_, st0_, st1_]
      refine wpR_one 1 (by kernel_rfl) ?_
      apply at_call 1 (some 16)
      · rfl
      · rfl
      · rfl
      · intro w'; go_simp; first | done | exact ⟨rfl, rfl⟩ | with_reducible rfl
      intro w' hw'
      have US_2_19 := Lib.hid (RdS.bl US_n2_13.out (hw'))
      have E_2_19 := Lib.hid (Ext.trans E_2_15.out (hw'))
      refine (HCl.out _ E_2_19.out).mono ?_
      rintro e w'' ⟨AA2_18, cc2_18, rfl, -, -, hown, hb⟩
      have NE_R_S_2_18 : RowKit.Hid (∀ a, (some (⟨g2_13, 0, none⟩ : Addr)) = some a → 0 < 1 → some a.block ≠ (Value.slice AA2_18 nB cc2_18).ownBlock) := Lib.hid (fun a ha hn e => by have h1 := (hown.lt _ e.symm).1; have h2 := US_2_19.out.low a ha hn; omega)
      have US_2_20 := Lib.hid (RdS.bl US_2_19.out (hb))
      have E_2_20 := Lib.hid (Ext.trans E_2_19.out (hb))
      have RR_n2_18 : RowKit.Hid (Ow w2 B0 5 1 (.slice AA2_18 nB cc2_18) nB (rowsV f8 B) w'') := Lib.hid ⟨own_lo8 hown (by have h1 := E_2_19.out.size; have h2 := HB0.out; omega), E_2_20.out, Nat.le_of_eq HB0.out, by have h1 := E_2_20.out.size; have h2 := HB0.out; omega⟩
      have hkk : Kept (From_ B0) v2_16 w'' := (Kept.of_ext hw').trans (Kept.of_below hb)
      refine ⟨_, rfl, Kept.of_below hb, ?_⟩
      obtain ⟨z2_18, gz2_18⟩ : ∃ x, w'' = x := ⟨_, rfl⟩
      rw [gz2_18] at RR_n2_18 US_2_20 E_2_20 hkk ⊢
      have ldt2_21 := fun w'' (h : Kept (From_ B0) z2_18 w'') => ldt2_17 w'' (hkk.trans h)
      clear ldt2_17
      clear hkk hown hb gz2_18 hw'
      try simp only [Act.put, stA_, st0_, st1_]
      refine wpR_one 7 (by kernel_rfl) ?_
      apply at_run 7 (some 22)
      · rfl
      · rfl
      · rfl
      intro w' hw'
      have RR_2_23 := Lib.hid (Ow.up RR_n2_18.out (hw'))
      have US_2_23 := Lib.hid (RdS.bl US_2_20.out (hw'))
      have E_2_23 := Lib.hid (Ext.trans E_2_20.out (hw'))
      obtain ⟨vv, w'', hrun, ho, hb, hg, hbk⟩ := Ow.app2 (P := Try.prog) 23 23 5 i0 _ 1 1 _ Try.underlying23 hi hz0 hz1 hz2 rfl (by decide) _ _ _ RR_2_23.out _ _ _ _ _ (US_2_23.out) (f8_all [q]) (by unfold maxLen; omega) (by omega)
      refine ⟨vv, w'', exec_append (by rfl) (by rfl) (by rfl) hrun, Kept.of_from hb, ?_⟩
      have US_2_22 := Lib.hid (RdS.grown US_2_23.out hg NE_R_S_2_18.out)
      have NE_R_S_2_22 : RowKit.Hid (∀ a, (some (⟨g2_13, 0, none⟩ : Addr)) = some a → 0 < 1 → some a.block ≠ _) := Lib.hid (fun a ha hn => Ow.ne2 (NE_R_S_2_18.out a ha hn) (US_2_23.out.low a ha hn) hbk)
      have E_2_22 : RowKit.Hid (Ext w2 w'') := Lib.hid ho.below
      have hkk : Kept (From_ B0) z2_18 w'' := (Kept.of_ext hw').trans (Kept.of_from hb)
      obtain ⟨AA2_22, cc2_22, rfl, hrr⟩ := ho.rds
      have RR_2_22 := Lib.hid ho
      clear hrr
      obtain ⟨z2_22, gz2_22⟩ : ∃ x, w'' = x := ⟨_, rfl⟩
      rw [gz2_22] at RR_2_22 US_2_22 E_2_22 hkk ⊢
      have ldt2_24 := fun w'' (h : Kept (From_ B0) z2_22 w'') => ldt2_21 w'' (hkk.trans h)
      clear ldt2_21
      clear hkk hrun ho hb hg hbk gz2_22 hw'
      try simp only [Act.put, stA_, st0_, st1_]
      apply wpR_next 8 (some 7)
      · rfl
      · rfl
      · kernel_rfl
      · kernel_rfl
      · kernel_rfl
      · first | exact fun _ _ _ _ h => Exit.noConfusion h.1 | exact fun _ _ _ _ h => h
      apply Exists.intro
      apply And.intro
      · apply yr_run; rfl; intro w' hw'; go_simp; (try with_reducible rfl)
      simp only [Act.put, stA_, st0_, st1_]
      refine wpR_done (by kernel_rfl) ?_ _
      intro wE hwE
      have ho := (RR_2_22.out.up hwE)
      rw [← rowsV_app, ← HP0.out] at ho
      exact ⟨rfl, _, _, _, _, _, _, _, _, _, _, rfl, Lib.hid ho⟩
  intro a' w' h9
  obtain ⟨A6, c6, u1, u2, u3, u4, u5, u6, u7, u8, rfl, hφ⟩ := h9
  simp only [Act.put, stA_, st0_, st1_]
  obtain ⟨w3, gw3⟩ : ∃ z, w' = z := ⟨_, rfl⟩
  rw [gw3] at hφ ⊢
  clear gw3 hu
  have e0 := hφ.out.below.cell (HE2.out.lt) |>.trans (HE2.out.cell (i := 0) rfl)
  go_upto_region 6 with fail
  clear e0
  go_loopw [7, 26] (fun v i wr => ∃ (k N : Nat), k ≤ n ∧ i = .int .i64 k ∧ N = (pT B L k).length ∧ RowKit.Hid (Ow w2 B0 5 1 v N (rowsV f8 (pT B L k)) wr)) (fun _ i _ => n - (intOf i).toNat)
  case atStart => exact ⟨0, nB + 1, Nat.zero_le _, rfl, by rw [HP0.out, List.length_append, GnB.out]; rfl, hφ⟩
  case round =>
    clear hφ
    obtain ⟨k, N, hk, rfl, hN, hin⟩ := hrel
    by_cases hlt : k < n
    · have hk0 : L[k]? = some (L[k]'(by have := Hn.out; omega)) := List.getElem?_eq_getElem _
      obtain ⟨o, go⟩ : ∃ o, L[k]'(by have := Hn.out; omega) = o := ⟨_, rfl⟩
      rw [go] at hk0
      have HNx := Lib.hid (HPn.out k o hk0)
      have HMo := Lib.hid (HAll.out o (List.mem_of_getElem? hk0))
      have HRd2 := Lib.hid (HRL2.out.up hin.out.below hin.out.below.size)
      obtain ⟨b, off, rfl, hbB, hpl⟩ := HRd2.out.place opCells_len' (by decide) (by omega)
      have HP := Lib.hid (hpl k o hk0)
      have hNb : N ≤ nB + 139 := by rw [hN]; exact HPl.out k
      have HN0 := Lib.hid hN
      clear go hk0 hpl hbB hN
      go_upto_region 7 with fail
      refine wp_region_lit ?_
      refine wl_read (v := ?_) (some 28) rfl (by rfl) ?_ ?_
      rotate_left
      · go_simp; (try with_reducible rfl)
      simp only [Act.put, stA_, st0_, st1_]
      refine wl_load_at (some 29) rfl (by rfl) 53 (.tmp 28) rfl ⟨b, off + k * 20, none⟩ rfl (opCells o) _ HP.out Try.underlying53 rfl (by kernel_rfl) ?_
      simp only [Act.put, stA_, st0_, st1_]
      refine wl_new 9 rfl rfl rfl 53 (.tmp 29) rfl rfl #[.int .i64 0, .int .i64 0, .int .i64 0, .int .i64 0, .int .i64 0, .int .i64 0, .int .i64 0, .int .i64 0, .int .i64 0, .int .i64 0, .int .i64 0, .int .i64 0, .int .i64 0, .int .i64 0, .int .i64 0, .int .i64 0, .int .i64 0, .bool false, .string ⟨#[]⟩, .int .i64 0] ?_ (opCells o).toArray (by simp) rfl (by kernel_rfl) rfl (by simp [opCells, Value.oneCell']) ?_
      · go_simp; (try with_reducible rfl)
      simp only [Act.put, stA_, st0_, st1_]
      have HI2 := Lib.hid (hin.out.up (below1 wr (.cells (opCells o).toArray 53)))
      have HX2 : RowKit.Hid (Whole (wr.alloc (.cells (opCells o).toArray 53)) wr.heap.size 53 (opCells o)) := Lib.hid (Whole.new_ _ _ _)
      obtain ⟨W2, gW2⟩ : ∃ x, wr.alloc (.cells (opCells o).toArray 53) = x := ⟨_, rfl⟩
      obtain ⟨g2, gg2⟩ : ∃ x, wr.heap.size = x := ⟨_, rfl⟩
      rw [gW2] at HI2 HX2 ⊢
      rw [gg2] at HX2 ⊢
      clear gW2 gg2 hin HRd2 HP
      have l0 := HX2.out.cell (i := 0) rfl
      have hku : IntKind.u8.wrap o.k = (((o.k % 256).toNat : Nat) : Int) := by rw [IntKind.wrap_u8]; omega
      obtain ⟨kb, gkb⟩ : ∃ z, (o.k % 256).toNat = z := ⟨_, rfl⟩
      rw [gkb] at hku HNx
      clear gkb
      go_upto_region 9 with (first
        | (at_builtin
           refine wpList_push2 rfl (.tmp 30) (.tmp 34) _ rfl _ 5 i0 _ 1 1 Try.underlying23 hi hz0 hz1 hz2 rfl (by decide) _ _ _ rfl (by exact Ow.up HI2.out (below1 _ _)) _ (some ⟨W2.heap.size, 0, none⟩) 1 1 (rowsV f8 [kb]) rfl (by exact RdS.new_ rfl (Nat.lt_succ_self _) rfl rfl) (f8_all _) (by unfold maxLen; omega) (by omega) ?_
           intro v3 w3 how3 hb3 hgr3
           have HI3 := Lib.hid how3
           have HX3 := Lib.hid ((HX2.out.alloc (.cells #[.int .u8 (kb : Int)] 5)).grown hgr3 (own_ne_ (Ow.up HI2.out (below1 _ (.cells #[.int .u8 (kb : Int)] 5))).own (HX2.out.alloc (.cells #[.int .u8 (kb : Int)] 5)) (by decide)))
           clear how3 hb3 hgr3 l0))
      have l1 := HX3.out.cell (i := 1) rfl
      have l2 := HX3.out.cell (i := 2) rfl
      go_upto_region 10 with (first
        | (go_at_call 42
           refine (oname_4 o.s o.n _).mono ?_
           rintro e w4 ⟨A4, c4, rfl, hr4, -, -, hb4⟩
           have HI4 := Lib.hid (HI3.out.up hb4)
           have HX4 := Lib.hid (HX3.out.bl hb4)
           have HR4 := Lib.hid hr4
           clear hr4 hb4 l1 l2)
        | (at_builtin
           refine wpList_push2 rfl (.tmp 36) (.tmp 39) _ rfl _ 5 i0 _ 1 1 Try.underlying23 hi hz0 hz1 hz2 rfl (by decide) _ _ _ rfl HI4.out _ _ _ _ _ rfl HR4.out (f8_all _) (by unfold maxLen; omega) (by omega) ?_
           intro v5 w5 how5 hb5 hgr5
           have HI5 := Lib.hid how5
           have HX5 := Lib.hid (HX4.out.grown hgr5 (own_ne_ HI4.out.own HX4.out (by decide)))
           clear how5 hb5 hgr5))
      refine wp_region_lit ?_
      refine wl_read (v := ?_) (some 41) rfl (by rfl) ?_ ?_
      rotate_left
      · go_simp; (try with_reducible rfl)
      simp only [Act.put, stA_, st0_, st1_]
      refine wl_load (some 42) rfl (by rfl) 53 (.tmp 9) rfl g2 rfl 53 (opCells o) _ HX5.out Try.underlying53 rfl (by kernel_rfl) ?_
      simp only [Act.put, stA_, st0_, st1_]
      obtain ⟨nf, gnf⟩ : ∃ z, (fdB o).length = z := ⟨_, rfl⟩
      have hnf : nf ≤ 18 := by rw [← gnf]; exact fdB_len (mayO_head HMo.out).2.2.2
      have HFd := Lib.hid (fun W => g8_parts gnf (fields_any o (by have := (mayO_head HMo.out).2.2.2; omega) W))
      have Gnf := Lib.hid gnf
      clear gnf HX2 HX3 HX4
      go_wp2_with (first
        | (go_at_call 43
           refine (HFd.out _).mono ?_
           rintro e w6 ⟨A6, c6, rfl, hr6, -, -, hb6⟩
           have HI6 := Lib.hid (HI5.out.up hb6)
           have HR6 := Lib.hid hr6
           clear hr6 hb6)
        | (at_builtin
           refine wpList_push2 rfl (.tmp 41) (.tmp 43) _ rfl _ 5 i0 _ 1 1 Try.underlying23 hi hz0 hz1 hz2 rfl (by decide) _ _ _ rfl HI6.out _ _ _ _ _ rfl HR6.out (f8_all _) (by unfold maxLen; omega) (by omega) ?_
           intro v7 w7 how7 hb7 hgr7
           have HI7 := Lib.hid how7
           clear how7 hb7 hgr7))
      go_roundw
      case rel => exact ⟨k + 1, N + 1 + 4 + nf, by omega, by go_num, by rw [HNx.out, List.length_append, List.length_append, List.length_append, ← HN0.out, Gnf.out]; rfl, Lib.hid (by have := HI7.out; rw [← rowsV_app, ← rowsV_app, ← rowsV_app, ← HNx.out] at this; exact this)⟩
      case measure => simp [intOf]; omega
    · obtain rfl : n = k := by omega
      have hfull : pT B L n = B ++ edB L := by rw [← Hn.out]; exact HPa.out
      rw [hfull] at hN hin
      obtain ⟨A9, c9, rfl, -⟩ := hin.out.rds
      have HN9 := Lib.hid hN
      have HI9 := Lib.hid hin.out
      clear hin hfull hN
      go_wp2
      exact bodyPost_ret (v := .tuple #[.slice A9 N c9, .int .i64 0]) (by simp [results, Try.results26, go_sem]) rfl ⟨A9, c9, by rw [← HN9.out], by rw [← HN9.out]; exact own_lo8 HI9.out.own (by have := HB2.out.size; have := HB0.out; omega), bel_bl HB2.out HI9.out.below⟩
end Go.Proofs.Ytinfbaflkjghhaa
/- Out of XSd9, XDgMe, XPk15 -/
namespace Go.Proofs.Ytinfbaflkjghhaa
open Go.RowKit
/-- s[:k:k] -/
theorem exec_slice_full {P : Program} {ev : Operand → Value} {o : Oper} {w : World} (t e : TypeId) (x hi mx : Operand) (ho : o.op = .slice t x none (some hi) (some mx)) (hu : P.underlying t = some (.slice e)) {s : Nat} (hs : (P.info? e).map (·.size) = some s)
    {A : Option Addr} {n c k : Nat} (hx : ev x = .slice A n c) (hk : ev hi = .int .i64 (k : Int)) (hm : ev mx = .int .i64 (k : Int)) (hkc : k ≤ c) : (execOp ev o).run P w = .ok (.value (.slice A k k)) w := by
  cases hq : P.info? e with
  | none => simp [hq] at hs
  | some i =>
    have hi' : i.size = s := by simpa [hq] using hs
    have h1 : (Instr.slice t (.slice A n c) none (some (.int .i64 (k : Int))) (some (.int .i64 (k : Int)))).run P w = .ok (.slice A k k) w := by
      have hb : ∀ cd, (Instr.sliceBound (.int .i64 (k : Int)) c cd).run P w = .ok (k : Int).toNat w := fun cd => run_sliceBound _ _ _ _ _ (Int.natCast_nonneg k) (by omega)
      have hb2 : ∀ cd, (Instr.sliceBound (.int .i64 (k : Int)) k cd).run P w = .ok (k : Int).toNat w := fun cd => run_sliceBound _ _ _ _ _ (Int.natCast_nonneg k) (by omega)
      simp only [Instr.slice, Sem.run_bind, run_underlying hu, Result.andThen_ok, Instr.sliceBounds, Sem.run_pure, if_true, hb, hb2, sizeOf, typeInfo, hq, Int.toNat_natCast]
      simp [hq, Addr.add]
    unfold execOp
    simp only [ho, Option.map_none, Option.map_some, hx, hk, hm, Sem.run_bind, Sem.run_pure, Result.andThen_ok]
    rw [show (Instr.sliceAt t (.slice A n c) none (some (.int .i64 (k : Int))) (some (.int .i64 (k : Int)))).run P w = (Instr.slice t (.slice A n c) none (some (.int .i64 (k : Int))) (some (.int .i64 (k : Int)))).run P w from by simp [Instr.sliceAt, run_underlying hu], h1]
    rfl
theorem RdS.full {w : World} {B size n c : Nat} {A : Option Addr} {xs : List Value} (h : RdS w B size A n c xs) : RdS w B size A n n xs :=
  ⟨h.len, fun e => ⟨(h.none_ e).1, (h.none_ e).1⟩, Nat.le_refl _, h.low, h.cell⟩
/-- A cell that holds what a row does not hold is none of the row's. -/
theorem rds_poke {w : World} {B s n c : Nat} {A : Option Addr} {xs : List Value} (h : RdS w B s A n c xs) {p : Addr} {v : Value} (hp : w.cell? p = some v) (hv : ¬ v ∈ xs) (u : Value) : RdS (w.setCell p u) B s A n c xs :=
  ⟨h.len, h.none_, h.le, h.low, fun a ha j z hz => by
    have h1 := h.cell a ha j z hz
    by_cases e : p = a.add j
    · rw [← e, hp] at h1
      obtain rfl := Option.some.inj h1
      exact absurd (List.mem_of_getElem? hz) hv
    · rw [World.cell?_setCell_other _ _ _ _ e]
      exact h1⟩
theorem kept_grow {S : Nat → Prop} {w w' : World} {r : Option Nat} (hg : w.grownBy w' r) (hS : ∀ i, some i = r → S i) : Kept S w w' := ⟨hg.os, hg.tape, hg.output, hg.size, fun i hi hn => hg.block i hi (fun e => hn (hS i e))⟩
theorem rds_far8 {w : World} {B n c g : Nat} {A : Option Addr} {L : List Nat} {v : Value} (h : RdS w B 1 A n c (rowsV f8 L)) (hw : w.cell? ⟨g, 0, none⟩ = some v) (hv : ∀ b : Nat, v ≠ .int .u8 (b : Int)) (u : Value) : RdS (w.setCell ⟨g, 0, none⟩ u) B 1 A n c (rowsV f8 L) :=
  rds_poke h hw (fun q => by
    rw [rowsV_map8] at q
    obtain ⟨b, -, e⟩ := List.mem_map.1 q
    exact hv b e.symm) u
end Go.Proofs.Ytinfbaflkjghhaa
/- The cursor: next, number. -/
namespace Go.Proofs.Ytinfbaflkjghhaa
open Go.RowKit
/-- The next k bytes, none if there are fewer; and what is left. -/
def rN (k : Nat) (L : List Nat) : List Nat := if k ≤ L.length then L.take k else []
def lN (k : Nat) (L : List Nat) : List Nat := if k ≤ L.length then L.drop k else L
/-- Where the cursor stands. -/
def CuAt (lo : Nat) (w : World) (g : Nat) (R : List Nat) : Prop := ∃ A n c, Whole w g 102 [.slice A n c] ∧ RdS w w.heap.size 1 A n c (rowsV f8 R) ∧ n ≤ 100000 ∧ (∀ a, A = some a → 0 < n → a.block < lo) ∧ lo ≤ g
theorem CuAt.kept {lo : Nat} {S : Nat → Prop} {w w' : World} {g : Nat} {R : List Nat} (h : CuAt lo w g R) (hk : Kept S w w') (hg : ¬ S g) (hS : ∀ i, i < lo → ¬ S i) : CuAt lo w' g R := by
  obtain ⟨A, n, c, h1, h2, h3, h4, h5⟩ := h
  exact ⟨A, n, c, hk.whole h1 hg, h2.kept_ne hk (fun a ha hn => hS _ (h4 a ha hn)), h3, h4, h5⟩
theorem CuAt.ge {lo : Nat} {w : World} {g : Nat} {R : List Nat} (h : CuAt lo w g R) : lo ≤ g := by
  obtain ⟨A, n, c, h1, h2, h3, h4, h5⟩ := h
  exact h5
theorem CuAt.bl {lo : Nat} {w w' : World} {g : Nat} {R : List Nat} (h : CuAt lo w g R) (hb : Below w.heap.size w w') : CuAt lo w' g R := by
  obtain ⟨A, n, c, h1, h2, h3, h4, h5⟩ := h
  exact ⟨A, n, c, h1.bl hb, h2.bl hb, h3, h4, h5⟩
theorem CuAt.len {lo : Nat} {w : World} {g : Nat} {R : List Nat} (h : CuAt lo w g R) : R.length ≤ 100000 := by
  obtain ⟨A, n, c, h1, h2, h3, -, -⟩ := h
  have := h2.rlen f8_len (by decide)
  omega
theorem CuAt.lt {lo : Nat} {w : World} {g : Nat} {R : List Nat} (h : CuAt lo w g R) : g < w.heap.size := by
  obtain ⟨A, n, c, h1, h2, h3, -, -⟩ := h
  exact h1.lt
theorem grown_refl (w : World) (r : Option Nat) : w.grownBy w r := ⟨rfl, rfl, rfl, Nat.le_refl _, fun _ _ _ => rfl⟩
theorem grown_cell (w : World) (g i : Nat) (u : Value) : w.grownBy (w.setCell ⟨g, i, none⟩ u) (some g) := by
  have h : Kept (fun k => k = g) w (w.setCell ⟨g, i, none⟩ u) := Kept.setCell (S := fun k => k = g) (Kept.refl _ w) (p := ⟨g, i, none⟩) (.inl rfl) u
  exact ⟨h.os, h.tape, h.output, h.size, fun k hk hne => h.block k hk (fun e => hne (by rw [e]))⟩
set_option maxRecDepth 100000 in
set_option maxHeartbeats 4000000 in
theorem cnext_any (lo g k : Nat) (L : List Nat) (w : World) (h : CuAt lo w g L) (hk : k ≤ 1000) :
    Calls Try.prog 92 #[.pointer (some ⟨g, 0, none⟩), .int .i64 (k : Int)] w fun e w' => ∃ A' m c', e = .returned (.slice A' m c') ∧ m = (rN k L).length ∧ RdS w' w'.heap.size 1 A' m c' (rowsV f8 (rN k L)) ∧ CuAt lo w' g (lN k L) ∧ w.grownBy w' (some g) := by
  obtain ⟨A, n, c, hw, hr, hn, hlo, hge⟩ := h
  have hl : L.length = n := hr.rlen f8_len (by decide)
  unfold rN lN
  rw [hl]
  have l0 := hw.cell (i := 0) (v := .slice A n c) rfl
  have f0 := hw.free 0
  by_cases hkn : k ≤ n
  · rw [if_pos hkn, if_pos hkn]
    have hlow := hr.low_ hkn
    obtain ⟨A1, hA1⟩ : ∃ A1, (if c = k then A else A.map (·.add (k * 1))) = A1 := ⟨_, rfl⟩
    have hlo1 : ∀ a, A1 = some a → 0 < n - k → a.block < lo := fun a ha h0 => by
      obtain ⟨a0, ha0, he⟩ := lies_low hA1 a ha
      have := hlo a0 ha0 (by omega)
      omega
    rw [hA1, show (rowsV f8 L).drop (k * 1) = rowsV f8 (L.drop k) from by rw [Nat.mul_one, rowsV_map8, rowsV_map8, List.map_drop]] at hlow
    have htk := (hr.fewer8 k).full
    have htl : (L.take k).length = k := by rw [List.length_take]; omega
    rw [htl] at htk ⊢
    have HW' : Whole (w.setCell ⟨g, 0, none⟩ (.slice A1 (n - k) (c - k))) g 102 [.slice A1 (n - k) (c - k)] := hw.set_ 0 (.slice A1 (n - k) (c - k))
    have hp1 := rds_far8 hlow l0 (fun b e => by cases e) (.slice A1 (n - k) (c - k))
    have hp2 := rds_far8 htk l0 (fun b e => by cases e) (.slice A1 (n - k) (c - k))
    have hsz : (w.setCell ⟨g, 0, none⟩ (.slice A1 (n - k) (c - k))).heap.size = w.heap.size := by simp [World.setCell]
    have HF : RowKit.Hid (∃ A' m c', Ending.returned (.slice A k k) = .returned (.slice A' m c') ∧ m = k ∧ RdS (w.setCell ⟨g, 0, none⟩ (.slice A1 (n - k) (c - k))) (w.setCell ⟨g, 0, none⟩ (.slice A1 (n - k) (c - k))).heap.size 1 A' m c' (rowsV f8 (L.take k)) ∧ CuAt lo (w.setCell ⟨g, 0, none⟩ (.slice A1 (n - k) (c - k))) g (L.drop k) ∧ w.grownBy (w.setCell ⟨g, 0, none⟩ (.slice A1 (n - k) (c - k))) (some g)) := Lib.hid ⟨A, k, k, rfl, rfl, by rw [hsz]; exact hp2, ⟨A1, n - k, c - k, HW', by rw [hsz]; exact hp1, by omega, hlo1, hge⟩, grown_cell w g 0 _⟩
    have hkc : k ≤ c := Nat.le_trans hkn hr.le
    have ht : ¬ (n : Int) < (k : Int) := by omega
    have ht2 : decide (n < k) = false := decide_eq_false (by omega)
    have HA1 := Lib.hid hA1
    have Hkn := Lib.hid hkn
    have Hkc := Lib.hid hkc
    clear hw hr hlow htk htl HW' hp1 hp2 hsz hA1 hkn hkc hl hn hlo hge hlo1
    go_enter Try.func92, Try.ntmps92
    go_upto_region 3 with fail
    clear ht ht2
    refine wp_region_lit ?_
    refine wl_read (v := ?_) (some 13) rfl (by rfl) ?_ ?_
    rotate_left
    · go_simp; (try with_reducible rfl)
    simp only [Act.put, stA_, st0_, st1_]
    refine wl_read (v := ?_) (some 14) rfl (by rfl) ?_ ?_
    rotate_left
    · go_simp; (try with_reducible rfl)
    simp only [Act.put, stA_, st0_, st1_]
    refine wl_read (v := ?_) (some 15) rfl (by rfl) ?_ ?_
    rotate_left
    · go_simp; (try with_reducible rfl)
    simp only [Act.put, stA_, st0_, st1_]
    refine wl_read (v := ?_) (some 16) rfl (by rfl) ?_ ?_
    rotate_left
    · go_simp; (try with_reducible rfl)
    simp only [Act.put, stA_, st0_, st1_]
    refine wl_read (v := ?_) (some 17) rfl (by rfl) ?_ ?_
    rotate_left
    · go_simp; (try with_reducible rfl)
    simp only [Act.put, stA_, st0_, st1_]
    refine wl_read (v := ?_) (some 18) rfl (by rfl) ?_ ?_
    rotate_left
    · go_simp; (try with_reducible rfl)
    simp only [Act.put, stA_, st0_, st1_]
    refine wl_run (some 19) rfl (by rfl) (exec_slice_full 23 5 (.tmp 16) (.tmp 17) (.tmp 18) rfl Try.underlying23 (s := 1) (by kernel_rfl) rfl rfl rfl Hkc.out) ?_
    simp only [Act.put, stA_, st0_, st1_]
    go_upto_region 4 with fail
    refine wp_region_lit ?_
    refine wl_read (v := ?_) (some 20) rfl (by rfl) ?_ ?_
    rotate_left
    · go_simp; (try with_reducible rfl)
    simp only [Act.put, stA_, st0_, st1_]
    refine wl_read (v := ?_) (some 21) rfl (by rfl) ?_ ?_
    rotate_left
    · go_simp; (try with_reducible rfl)
    simp only [Act.put, stA_, st0_, st1_]
    refine wl_read (v := ?_) (some 22) rfl (by rfl) ?_ ?_
    rotate_left
    · go_simp; (try with_reducible rfl)
    simp only [Act.put, stA_, st0_, st1_]
    refine wl_read (v := ?_) (some 23) rfl (by rfl) ?_ ?_
    rotate_left
    · go_simp; (try with_reducible rfl)
    simp only [Act.put, stA_, st0_, st1_]
    refine wl_read (v := ?_) (some 24) rfl (by rfl) ?_ ?_
    rotate_left
    · go_simp; (try with_reducible rfl)
    simp only [Act.put, stA_, st0_, st1_]
    refine wl_read (v := ?_) (some 25) rfl (by rfl) ?_ ?_
    rotate_left
    · go_simp; (try with_reducible rfl)
    simp only [Act.put, stA_, st0_, st1_]
    refine wl_run (some 26) rfl (by rfl) (exec_slice_low_as 23 5 (.tmp 24) (.tmp 25) rfl Try.underlying23 (s := 1) (by kernel_rfl) rfl rfl Hkn.out HA1.out rfl rfl) ?_
    simp only [Act.put, stA_, st0_, st1_]
    go_wp2
    go_ret
    exact HF.out
  · rw [if_neg hkn, if_neg hkn]
    have HF : RowKit.Hid (∃ A' m c', Ending.returned (.slice none 0 0) = .returned (.slice A' m c') ∧ m = ([] : List Nat).length ∧ RdS w w.heap.size 1 A' m c' (rowsV f8 []) ∧ CuAt lo w g L ∧ w.grownBy w (some g)) := Lib.hid ⟨none, 0, 0, rfl, rfl, rds_nil _ _ _, ⟨A, n, c, hw, hr, hn, hlo, hge⟩, grown_refl _ _⟩
    have ht : (n : Int) < (k : Int) := by omega
    have ht2 : decide (n < k) = true := decide_eq_true (by omega)
    clear hw hr hkn hl hn hlo hge
    go_enter Try.func92, Try.ntmps92
    go_wp2
    go_ret
    exact HF.out
set_option maxRecDepth 100000 in
set_option maxHeartbeats 4000000 in
theorem cnumber_any (lo g : Nat) (L : List Nat) (w : World) (h : CuAt lo w g L) (hb : ∀ b ∈ L, b < 256) :
    Calls Try.prog 73 #[.pointer (some ⟨g, 0, none⟩)] w fun e w' => e = .returned (.int .i64 (c1 L : Int)) ∧ CuAt lo w' g (L.drop 1) ∧ w.grownBy w' (some g) := by
  have HN := Lib.hid (cnext_any lo g 1 L w h (by omega))
  cases L with
  | nil =>
    have e1 : rN 1 ([] : List Nat) = [] := rfl
    have e2 : lN 1 ([] : List Nat) = [] := rfl
    rw [e1, e2] at HN
    clear h hb e1 e2
    go_enter Try.func73, Try.ntmps73
    go_wp2_with fail
    refine HN.out.mono ?_
    rintro e w2 ⟨A', m, c', rfl, hm, -, hcu, hgr⟩
    obtain rfl : m = 0 := hm
    have HC := Lib.hid hcu
    have HGr := Lib.hid hgr
    clear hcu hgr
    go_wp2
    go_ret
    exact ⟨rfl, HC.out, HGr.out⟩
  | cons b R =>
    have e1 : rN 1 (b :: R) = [b] := by unfold rN; rw [if_pos (by simp)]; rfl
    have e2 : lN 1 (b :: R) = R := by unfold lN; rw [if_pos (by simp)]; rfl
    rw [e1, e2] at HN
    have hlt : b < 256 := hb b (by simp)
    have hw : IntKind.i64.wrap (b : Int) = (b : Int) := IntWalk.i64_in _ (by omega)
    show Calls Try.prog 73 #[.pointer (some ⟨g, 0, none⟩)] w fun e w' => e = .returned (.int .i64 (b : Int)) ∧ CuAt lo w' g R ∧ w.grownBy w' (some g)
    clear h hb e1 e2
    go_enter Try.func73, Try.ntmps73
    go_wp2_with (first
      | (go_at_call 92
         refine HN.out.mono ?_
         rintro e w2 ⟨A', m, c', rfl, hm, hr, hcu, hgr⟩
         obtain rfl : m = 1 := hm
         obtain ⟨bb, off, rfl, -, hp⟩ := byte_at hr (by omega)
         have l0 := hp 0 b rfl
         simp only [Nat.add_zero] at l0
         have HC := Lib.hid hcu
         have HGr := Lib.hid hgr
         clear hcu hgr hr hp))
    go_ret
    exact ⟨rfl, HC.out, HGr.out⟩
end Go.Proofs.Ytinfbaflkjghhaa
/- ident.Take of no bytes; taken. -/
namespace Go.Proofs.Ytinfbaflkjghhaa
open Go.RowKit
set_option maxRecDepth 100000 in
set_option maxHeartbeats 4000000 in
theorem first_nil (A : Option Addr) (c : Nat) (w : World) : Calls Try.prog 108 #[.slice A 0 c] w fun e w' => e = .returned (.agg #[.int .i64 0, .int .i64 0]) ∧ Below w.heap.size w w' := by
  have HX0 : RowKit.Hid (Whole (w.alloc (.cells #[.int .i64 0, .int .i64 0] 47)) w.heap.size 47 [.int .i64 0, .int .i64 0]) := Lib.hid (Whole.new_ _ _ [_, _])
  have HE0 : RowKit.Hid (Ext w (w.alloc (.cells #[.int .i64 0, .int .i64 0] 47))) := Lib.hid (below1 w _)
  go_enter Try.func108, Try.ntmps108
  go_upto_region 1 with fail
  obtain ⟨w0, gw0⟩ : ∃ z, w.alloc (.cells #[.int .i64 0, .int .i64 0] 47) = z := ⟨_, rfl⟩
  obtain ⟨b, gb⟩ : ∃ z, w.heap.size = z := ⟨_, rfl⟩
  rw [gw0] at HX0 HE0 ⊢
  rw [gb] at HX0 ⊢
  have Gb := Lib.hid gb
  clear gw0 gb
  have q0 := HX0.out.cell (i := 0) rfl
  have q1 := HX0.out.cell (i := 1) rfl
  have f0 := HX0.out.free 0
  have f1 := HX0.out.free 1
  go_wp2
  have HXz := (HX0.out.set_ 0 (.int .i64 0)).set_ 1 (.int .i64 0)
  have HBz := ((show Below w.heap.size w w0 from HE0.out).setCell (p := ⟨b, 0, none⟩) (by show w.heap.size ≤ b; exact Nat.le_of_eq Gb.out) (.int .i64 0)).setCell (p := ⟨b, 1, none⟩) (by show w.heap.size ≤ b; exact Nat.le_of_eq Gb.out) (.int .i64 0)
  exact ret_whole rfl b rfl HXz Try.underlying47 rfl (by kernel_rfl) rfl ⟨rfl, HBz⟩
set_option maxRecDepth 100000 in
set_option maxHeartbeats 4000000 in
theorem idtake_nil (A : Option Addr) (c : Nat) (w : World) (h : RdS w w.heap.size 1 A 0 c (rowsV f8 [])) : Calls Try.prog 104 #[.slice A 0 c] w fun e w' => ∃ A' n' c' ok, e = .returned (.tuple #[.agg #[.int .i64 0, .int .i64 0], .slice A' n' c', .bool ok]) ∧ Below w.heap.size w w' := by
  have HC : RowKit.Hid (∀ W, Below w.heap.size w W → Calls Try.prog 36 #[.slice A 0 c] W (Gives8 W [])) := Lib.hid (fun W hb => clone8 A c [] W (h.up hb hb.size) (by simp))
  clear h
  have HMy : RowKit.Hid (∀ W, Calls Try.prog 78 #[.agg #[.int .i64 0, .int .i64 0]] W fun e w' => e = .returned (.bool false) ∧ Below W.heap.size W w') := Lib.hid (fun W => may_any 0 0 W)
  have HX0 : RowKit.Hid (Whole (w.alloc (.cells #[.int .i64 0, .int .i64 0] 47)) w.heap.size 47 [.int .i64 0, .int .i64 0]) := Lib.hid (Whole.new_ _ _ [_, _])
  have HE0 : RowKit.Hid (Ext w (w.alloc (.cells #[.int .i64 0, .int .i64 0] 47))) := Lib.hid (below1 w _)
  go_enter Try.func104, Try.ntmps104
  go_upto_region 1 with fail
  obtain ⟨w0, gw0⟩ : ∃ z, w.alloc (.cells #[.int .i64 0, .int .i64 0] 47) = z := ⟨_, rfl⟩
  obtain ⟨b, gb⟩ : ∃ z, w.heap.size = z := ⟨_, rfl⟩
  rw [gw0] at HX0 HE0 ⊢
  rw [gb] at HX0 ⊢
  have Gb := Lib.hid gb
  clear gw0 gb
  go_upto_region 2 with (first
    | (go_at_call 108
       refine (first_nil A c _).mono ?_
       rintro e w1 ⟨rfl, hb1⟩
       have HX1 := Lib.hid ((HX0.out.bl hb1).al (.cells #[.int .i64 0, .int .i64 0] 47))
       have HE1 : RowKit.Hid (Ext w (w1.alloc (.cells #[.int .i64 0, .int .i64 0] 47))) := Lib.hid (Ext.trans (Ext.trans HE0.out hb1) (below1 w1 _))
       have HY1 : RowKit.Hid (Whole (w1.alloc (.cells #[.int .i64 0, .int .i64 0] 47)) w1.heap.size 47 [.int .i64 0, .int .i64 0]) := Lib.hid (Whole.new_ _ _ [_, _])
       clear hb1))
  obtain ⟨w2, gw2⟩ : ∃ z, w1.alloc (.cells #[.int .i64 0, .int .i64 0] 47) = z := ⟨_, rfl⟩
  obtain ⟨b5, gb5⟩ : ∃ z, w1.heap.size = z := ⟨_, rfl⟩
  rw [gw2] at HX1 HE1 HY1 ⊢
  rw [gb5] at HY1 ⊢
  clear gw2 gb5 HX0 HE0
  have d0 := HY1.out.cell (i := 0) rfl
  have d1 := HY1.out.cell (i := 1) rfl
  go_upto_region 3 with (first
    | (go_at_call 78
       refine (HMy.out _).mono ?_
       rintro e w3 ⟨rfl, hb3⟩
       have HX3 := Lib.hid (HX1.out.bl hb3)
       have HE3 := Lib.hid (Ext.trans HE1.out hb3)
       clear hb3 d0 d1))
  go_wp2_with (first
    | (go_at_call 36
       refine (HC.out _ HE3.out).mono ?_
       rintro e w4 ⟨A4, c4, rfl, -, -, -, hb4⟩
       have HX4 := Lib.hid (HX3.out.bl hb4)
       have HE4 : RowKit.Hid (Ext w w4) := Lib.hid (Ext.trans HE3.out hb4)
       have q0 := HX4.out.cell (i := 0) rfl
       have q1 := HX4.out.cell (i := 1) rfl
       have f0 := HX4.out.free 0
       have f1 := HX4.out.free 1
       clear hb4))
  have HXz := (HX4.out.set_ 0 (.int .i64 0)).set_ 1 (.int .i64 0)
  have HBz := ((show Below w.heap.size w w4 from HE4.out).setCell (p := ⟨b, 0, none⟩) (by show w.heap.size ≤ b; exact Nat.le_of_eq Gb.out) (.int .i64 0)).setCell (p := ⟨b, 1, none⟩) (by show w.heap.size ≤ b; exact Nat.le_of_eq Gb.out) (.int .i64 0)
  exact ret_whole3 rfl b rfl rfl rfl HXz Try.underlying47 rfl (by kernel_rfl) rfl ⟨A4, 0, c4, false, rfl, HBz⟩
/-- Of what next gives a name is taken. -/
theorem idtake_rN (A : Option Addr) (m c : Nat) (L : List Nat) (w : World) (hm : m = (rN 4 L).length) (h : RdS w w.heap.size 1 A m c (rowsV f8 (rN 4 L))) (hb : ∀ b ∈ L, b < 256) :
    Calls Try.prog 104 #[.slice A m c] w fun e w' => ∃ A' n' c' ok, e = .returned (.tuple #[.agg #[.int .i64 (vI L).1, .int .i64 (vI L).2], .slice A' n' c', .bool ok]) ∧ Below w.heap.size w w' := by
  by_cases h4 : 4 ≤ L.length
  · have e : rN 4 L = L.take 4 := by unfold rN; rw [if_pos h4]
    have e2 : vI L = tk4 L := by unfold vI; rw [if_pos h4]
    match L, h4 with
    | a0 :: a1 :: a2 :: a3 :: K, _ =>
      rw [e] at hm h
      obtain rfl : m = 4 := hm
      rw [e2]
      exact idtake_any A c a0 a1 a2 a3 [] w h (hb a0 (by simp)) (hb a1 (by simp)) (hb a2 (by simp)) (hb a3 (by simp)) (by simp)
  · have e : rN 4 L = [] := by unfold rN; rw [if_neg h4]
    have e2 : vI L = (0, 0) := by unfold vI; rw [if_neg h4]
    rw [e] at hm h
    rw [e2]
    obtain rfl : m = 0 := hm
    exact idtake_nil A c w h
def At1 (g : Nat) (i : Nat) : Prop := i = g
theorem gk {w w' : World} {g : Nat} (h : w.grownBy w' (some g)) : Kept (At1 g) w w' := ⟨h.os, h.tape, h.output, h.size, fun i hi hn => h.block i hi (fun e => hn (Option.some.inj e))⟩
theorem CuAt.al {lo : Nat} {w : World} {g : Nat} {R : List Nat} (h : CuAt lo w g R) (o : Obj) : CuAt lo (w.alloc o) g R := h.bl (below1 w o)
theorem kept_poke {S : Nat → Prop} {w W : World} {b i : Nat} (h : Kept S w W) (hb : w.heap.size ≤ b) (u : Value) : Kept S w (W.setCell ⟨b, i, none⟩ u) := h.setCell (p := ⟨b, i, none⟩) (.inr hb) u
theorem CuAt.poke {lo : Nat} {w : World} {g b i : Nat} {R : List Nat} (h : CuAt lo w g R) (hgb : g < b) (u : Value) : CuAt lo (w.setCell ⟨b, i, none⟩ u) g R :=
  h.kept (S := fun k => k = b) (Kept.setCell (S := fun k => k = b) (Kept.refl _ w) (p := ⟨b, i, none⟩) (.inl rfl) u) (fun e => by omega) (fun k hk e => by have := h.ge; omega)
theorem CuAt.row {lo : Nat} {w : World} {g b : Nat} {R : List Nat} (h : CuAt lo w g R) (hgb : g < b) (cs : Array Value) : CuAt lo (w.setRow b cs) g R :=
  h.kept (S := fun k => k = b) (kept_row (S := fun k => k = b) rfl cs) (fun e => by omega) (fun k hk e => by have := h.ge; omega)
theorem CuAt.cells {lo : Nat} {w : World} {g b : Nat} {R : List Nat} (h : CuAt lo w g R) (hgb : g < b) (o : Nat) (vs : List Value) : CuAt lo (w.setCells b o vs) g R :=
  h.kept (S := fun k => k = b) (kept_setCells (S := fun k => k = b) rfl o vs) (fun e => by omega) (fun k hk e => by have := h.ge; omega)
theorem kept_in {S : Nat → Prop} {w W W' : World} {b : Nat} (h : Kept S w W) (hb : w.heap.size ≤ b) (hk : Kept (fun i => i = b) W W') : Kept S w W' :=
  ⟨hk.os.trans h.os, hk.tape.trans h.tape, hk.output.trans h.output, Nat.le_trans h.size hk.size, fun i hi hn => (hk.block i (Nat.lt_of_lt_of_le hi h.size) (fun e => by omega)).trans (h.block i hi hn)⟩
/-- What a call at the cursor leaves. -/
def Cu1 (lo : Nat) (w w' : World) (g : Nat) (R : List Nat) : Prop := CuAt lo w' g R ∧ Kept (At1 g) w w'
theorem cnext1 (lo g k : Nat) (L : List Nat) (w : World) (h : CuAt lo w g L) (hk : k ≤ 1000) :
    Calls Try.prog 92 #[.pointer (some ⟨g, 0, none⟩), .int .i64 (k : Int)] w fun e w' => ∃ A' m c', e = .returned (.slice A' m c') ∧ m = (rN k L).length ∧ RdS w' w'.heap.size 1 A' m c' (rowsV f8 (rN k L)) ∧ Cu1 lo w w' g (lN k L) :=
  (cnext_any lo g k L w h hk).mono fun e w' ⟨A, m, c, h1, h2, h3, h4, h5⟩ => ⟨A, m, c, h1, h2, h3, h4, gk h5⟩
set_option maxRecDepth 100000 in
set_option maxHeartbeats 4000000 in
theorem takenid_any (lo g : Nat) (L : List Nat) (w : World) (h : CuAt lo w g L) (hb : ∀ b ∈ L, b < 256) :
    Calls Try.prog 103 #[.pointer (some ⟨g, 0, none⟩), .int .i64 4, .func (.func 104) #[] #[]] w fun e w' => e = .returned (.agg #[.int .i64 (vI L).1, .int .i64 (vI L).2]) ∧ Cu1 lo w w' g (lI L) := by
  have HN := Lib.hid (cnext1 lo g 4 L (w.alloc (.cells #[.int .i64 0, .int .i64 0] 47)) (h.al _) (by omega))
  have HT := Lib.hid (fun A m c W hm h => idtake_rN A m c L W hm h hb)
  have HX0 : RowKit.Hid (Whole (w.alloc (.cells #[.int .i64 0, .int .i64 0] 47)) w.heap.size 47 [.int .i64 0, .int .i64 0]) := Lib.hid (Whole.new_ _ _ [_, _])
  have HK0 : RowKit.Hid (Kept (At1 g) w (w.alloc (.cells #[.int .i64 0, .int .i64 0] 47))) := Lib.hid (Kept.of_below (below1 w _))
  have HL : RowKit.Hid (lN 4 L = lI L) := Lib.hid rfl
  have Hgb : RowKit.Hid (g < w.heap.size) := Lib.hid h.lt
  obtain ⟨x1, gx1⟩ : ∃ z, (vI L).1 = z := ⟨_, rfl⟩
  obtain ⟨x2, gx2⟩ : ∃ z, (vI L).2 = z := ⟨_, rfl⟩
  rw [gx1, gx2] at HT ⊢
  clear h hb gx1 gx2
  go_enter Try.func103, Try.ntmps103
  go_upto_region 1 with fail
  obtain ⟨w0, gw0⟩ : ∃ z, w.alloc (.cells #[.int .i64 0, .int .i64 0] 47) = z := ⟨_, rfl⟩
  obtain ⟨b, gb⟩ : ∃ z, w.heap.size = z := ⟨_, rfl⟩
  rw [gw0] at HX0 HK0 HN ⊢
  rw [gb] at HX0 Hgb ⊢
  have Gb := Lib.hid gb
  clear gw0 gb
  go_upto_region 2 with (first
    | (go_at_call 92
       refine HN.out.mono ?_
       rintro e w1 ⟨A1, m1, c1, rfl, hm1, hr1, hcu⟩
       have HX1 := Lib.hid (hcu.2.whole HX0.out (fun e => by have h1 : b = g := e; have := Hgb.out; omega))
       have HK1 := Lib.hid (HK0.out.trans hcu.2)
       have HC1 := Lib.hid hcu.1
       have HT1 := Lib.hid (HT.out A1 m1 c1 w1 hm1 hr1)
       clear hm1 hr1 hcu)
    | (go_at_call 104
       refine HT1.out.mono ?_
       rintro e w2 ⟨A2, n2, c2, ok, rfl, hb2⟩
       have HX2 := Lib.hid ((HX1.out.bl hb2).al (.cells #[.int .i64 x1, .int .i64 x2] 47))
       have HC2 := Lib.hid ((HC1.out.bl hb2).al (.cells #[.int .i64 x1, .int .i64 x2] 47))
       have HK2 := Lib.hid ((HK1.out.trans (Kept.of_below hb2)).alloc (.cells #[.int .i64 x1, .int .i64 x2] 47))
       have HY2 : RowKit.Hid (Whole (w2.alloc (.cells #[.int .i64 x1, .int .i64 x2] 47)) w2.heap.size 47 [.int .i64 x1, .int .i64 x2]) := Lib.hid (Whole.new_ _ _ [_, _])
       clear hb2))
  obtain ⟨w3, gw3⟩ : ∃ z, w2.alloc (.cells #[.int .i64 x1, .int .i64 x2] 47) = z := ⟨_, rfl⟩
  obtain ⟨b5, gb5⟩ : ∃ z, w2.heap.size = z := ⟨_, rfl⟩
  rw [gw3] at HX2 HC2 HK2 HY2 ⊢
  rw [gb5] at HY2 ⊢
  clear gw3 gb5
  have d0 := HY2.out.cell (i := 0) rfl
  have d1 := HY2.out.cell (i := 1) rfl
  have q0 := HX2.out.cell (i := 0) rfl
  have q1 := HX2.out.cell (i := 1) rfl
  have f0 := HX2.out.free 0
  have f1 := HX2.out.free 1
  go_wp2
  have HXz := (HX2.out.set_ 0 (.int .i64 x1)).set_ 1 (.int .i64 x2)
  have hc2 := (HC2.out.poke (i := 0) Hgb.out (.int .i64 x1)).poke (i := 1) Hgb.out (.int .i64 x2)
  have hk2 := kept_poke (i := 1) (kept_poke (i := 0) HK2.out (Nat.le_of_eq Gb.out) (.int .i64 x1)) (Nat.le_of_eq Gb.out) (.int .i64 x2)
  rw [HL.out] at hc2
  exact ret_whole rfl b rfl HXz Try.underlying47 rfl (by kernel_rfl) rfl ⟨rfl, hc2, hk2⟩
set_option maxRecDepth 100000 in
set_option maxHeartbeats 4000000 in
theorem takennum_any (lo g : Nat) (L : List Nat) (w : World) (h : CuAt lo w g L) (hb : ∀ b ∈ L, b < 256) :
    Calls Try.prog 96 #[.pointer (some ⟨g, 0, none⟩), .int .i64 8, .func (.func 20) #[] #[]] w fun e w' => e = .returned (.int .i64 (vM L)) ∧ Cu1 lo w w' g (lM L) := by
  have HN := Lib.hid (cnext1 lo g 8 L w h (by omega))
  have hl := h.len
  have hv : vM L = if 8 ≤ (rN 8 L).length then num8 ((rN 8 L).take 8) else 0 := by
    unfold vM rN
    by_cases h8 : 8 ≤ L.length
    · rw [if_pos h8, if_pos h8, List.length_take, if_pos (by omega), List.take_take, Nat.min_self]
    · rw [if_neg h8, if_neg h8]; rfl
  have HT : RowKit.Hid (∀ A m c W, m = (rN 8 L).length → RdS W W.heap.size 1 A m c (rowsV f8 (rN 8 L)) → Calls Try.prog 20 #[.slice A m c] W fun e w' => ∃ A' n' c' ok, e = .returned (.tuple #[.int .i64 (vM L), .slice A' n' c', .bool ok]) ∧ Below W.heap.size W w') := Lib.hid (fun A m c W hm hr => by
    subst hm
    refine (takenum_any A c (rN 8 L) W hr (by unfold rN; split <;> simp; omega) (fun b hb' => hb b (by unfold rN at hb'; split at hb'; exact List.mem_of_mem_take hb'; cases hb'))).mono ?_
    rintro e w' ⟨A', n', c', rfl, -, -, hb'⟩
    exact ⟨A', n', c', _, by rw [hv], hb'⟩)
  have HL : RowKit.Hid (lN 8 L = lM L) := Lib.hid rfl
  obtain ⟨x, gx⟩ : ∃ z, vM L = z := ⟨_, rfl⟩
  rw [gx] at HT ⊢
  clear h hb gx hv hl
  go_enter Try.func96, Try.ntmps96
  go_wp2_with (first
    | (go_at_call 92
       refine HN.out.mono ?_
       rintro e w1 ⟨A1, m1, c1, rfl, hm1, hr1, hcu⟩
       have HCu := Lib.hid hcu
       have HT1 := Lib.hid (HT.out A1 m1 c1 w1 hm1 hr1)
       clear hm1 hr1 hcu)
    | (go_at_call 20
       refine HT1.out.mono ?_
       rintro e w2 ⟨A2, n2, c2, ok, rfl, hb2⟩
       have HC2 : RowKit.Hid (Cu1 lo w w2 g (lM L)) := Lib.hid (HL.out ▸ ⟨HCu.out.1.bl hb2, HCu.out.2.trans (Kept.of_below hb2)⟩)
       clear hb2))
  go_ret
  exact ⟨rfl, HC2.out⟩
set_option maxRecDepth 100000 in
set_option maxHeartbeats 4000000 in
theorem takentext_any (lo g k : Nat) (L : List Nat) (w : World) (h : CuAt lo w g L) (hb : ∀ b ∈ L, b < 256) (hk : k = 1 + c1 L) :
    Calls Try.prog 105 #[.pointer (some ⟨g, 0, none⟩), .int .i64 (k : Int), .func (.func 106) #[] #[]] w fun e w' => e = .returned (.string (txT L)) ∧ Cu1 lo w w' g (leT L) := by
  have hc := byte_lt hb
  have HN := Lib.hid (cnext1 lo g k L w h (by omega))
  have hl := h.len
  have hi : isT (rN k L) = isT L ∧ txT (rN k L) = txT L ∧ lN k L = leT L := by
    unfold rN lN
    by_cases h8 : k ≤ L.length
    · rw [if_pos h8, if_pos h8]
      have h1 : isT L = true := decide_eq_true ⟨by omega, by omega⟩
      have hc1 : c1 (L.take k) = c1 L := by
        cases L with
        | nil => simp at h8; omega
        | cons a l => subst hk; rw [Nat.add_comm]; rfl
      have h2 : isT (L.take k) = true := decide_eq_true ⟨by rw [List.length_take]; omega, by rw [hc1, List.length_take]; omega⟩
      refine ⟨by rw [h1, h2], ?_, ?_⟩
      · unfold txT
        rw [if_pos h1, if_pos h2, hc1, List.drop_take, List.take_take]
        congr 2
        omega
      · unfold leT
        rw [if_pos h1, hk]
    · rw [if_neg h8, if_neg h8]
      have h1 : isT L = false := decide_eq_false (fun q => by omega)
      refine ⟨by rw [h1]; rfl, ?_, ?_⟩
      · unfold txT
        rw [if_neg (by decide : ¬ isT [] = true), if_neg (by rw [h1]; decide)]
      · unfold leT
        rw [if_neg (by rw [h1]; decide)]
  have HT : RowKit.Hid (∀ A m c W, m = (rN k L).length → RdS W W.heap.size 1 A m c (rowsV f8 (rN k L)) → Calls Try.prog 106 #[.slice A m c] W fun e w' => ∃ A' n' c' ok, e = .returned (.tuple #[.string (txT L), .slice A' n' c', .bool ok]) ∧ Below W.heap.size W w') := Lib.hid (fun A m c W hm hr => by
    subst hm
    refine (taketext_any A c (rN k L) W hr (by unfold rN; split <;> simp; omega) (fun b hb' => hb b (by unfold rN at hb'; split at hb'; exact List.mem_of_mem_take hb'; cases hb'))).mono ?_
    rintro e w' ⟨A', n', c', rfl, -, -, hb'⟩
    exact ⟨A', n', c', _, by rw [hi.2.1], hb'⟩)
  have HL : RowKit.Hid (lN k L = leT L) := Lib.hid hi.2.2
  obtain ⟨x, gx⟩ : ∃ z, txT L = z := ⟨_, rfl⟩
  rw [gx] at HT ⊢
  clear h hb gx hi hl hc hk
  go_enter Try.func105, Try.ntmps105
  go_wp2_with (first
    | (go_at_call 92
       refine HN.out.mono ?_
       rintro e w1 ⟨A1, m1, c1, rfl, hm1, hr1, hcu⟩
       have HCu := Lib.hid hcu
       have HT1 := Lib.hid (HT.out A1 m1 c1 w1 hm1 hr1)
       clear hm1 hr1 hcu)
    | (go_at_call 106
       refine HT1.out.mono ?_
       rintro e w2 ⟨A2, n2, c2, ok, rfl, hb2⟩
       have HC2 : RowKit.Hid (Cu1 lo w w2 g (leT L)) := Lib.hid (HL.out ▸ ⟨HCu.out.1.bl hb2, HCu.out.2.trans (Kept.of_below hb2)⟩)
       clear hb2))
  go_ret
  exact ⟨rfl, HC2.out⟩
end Go.Proofs.Ytinfbaflkjghhaa
/- The reader: name, corner, text. -/
namespace Go.Proofs.Ytinfbaflkjghhaa
open Go.RowKit
set_option maxRecDepth 100000 in
set_option maxHeartbeats 4000000 in
theorem rname_any (lo g : Nat) (L : List Nat) (w : World) (h : CuAt lo w g L) (hb : ∀ b ∈ L, b < 256) :
    Calls Try.prog 93 #[.pointer (some ⟨g, 0, none⟩)] w fun e w' => e = .returned (.agg #[.int .i64 (vI L).1, .int .i64 (vI L).2]) ∧ Cu1 lo w w' g (lI L) := by
  have HT := Lib.hid (takenid_any lo g L (w.alloc (.cells #[.int .i64 0, .int .i64 0] 47)) (h.al _) hb)
  have HX0 : RowKit.Hid (Whole (w.alloc (.cells #[.int .i64 0, .int .i64 0] 47)) w.heap.size 47 [.int .i64 0, .int .i64 0]) := Lib.hid (Whole.new_ _ _ [_, _])
  have HK0 : RowKit.Hid (Kept (At1 g) w (w.alloc (.cells #[.int .i64 0, .int .i64 0] 47))) := Lib.hid (Kept.of_below (below1 w _))
  have Hgb : RowKit.Hid (g < w.heap.size) := Lib.hid h.lt
  obtain ⟨x1, gx1⟩ : ∃ z, (vI L).1 = z := ⟨_, rfl⟩
  obtain ⟨x2, gx2⟩ : ∃ z, (vI L).2 = z := ⟨_, rfl⟩
  rw [gx1, gx2] at HT ⊢
  clear h hb gx1 gx2
  go_enter Try.func93, Try.ntmps93
  go_upto_region 1 with fail
  obtain ⟨w0, gw0⟩ : ∃ z, w.alloc (.cells #[.int .i64 0, .int .i64 0] 47) = z := ⟨_, rfl⟩
  obtain ⟨b, gb⟩ : ∃ z, w.heap.size = z := ⟨_, rfl⟩
  rw [gw0] at HX0 HK0 HT ⊢
  rw [gb] at HX0 Hgb ⊢
  have Gb := Lib.hid gb
  clear gw0 gb
  go_wp2_with (first
    | (go_at_call 103
       refine HT.out.mono ?_
       rintro e w1 ⟨rfl, hcu⟩
       have HX2 := Lib.hid (hcu.2.whole HX0.out (fun e => by have h1 : b = g := e; have := Hgb.out; omega))
       have HK2 := Lib.hid (HK0.out.trans hcu.2)
       have HC2 := Lib.hid hcu.1
       have q0 := HX2.out.cell (i := 0) rfl
       have q1 := HX2.out.cell (i := 1) rfl
       have f0 := HX2.out.free 0
       have f1 := HX2.out.free 1
       clear hcu))
  have HXz := (HX2.out.set_ 0 (.int .i64 x1)).set_ 1 (.int .i64 x2)
  have hc2 := (HC2.out.poke (i := 0) Hgb.out (.int .i64 x1)).poke (i := 1) Hgb.out (.int .i64 x2)
  have hk2 := kept_poke (i := 1) (kept_poke (i := 0) HK2.out (Nat.le_of_eq Gb.out) (.int .i64 x1)) (Nat.le_of_eq Gb.out) (.int .i64 x2)
  exact ret_whole rfl b rfl HXz Try.underlying47 rfl (by kernel_rfl) rfl ⟨rfl, hc2, hk2⟩
def cC (c : C5) : List Value := [.int .i64 c.1, .int .i64 c.2.1, .int .i64 c.2.2.1, .int .i64 c.2.2.2.1, .int .i64 c.2.2.2.2]
set_option maxRecDepth 100000 in
set_option maxHeartbeats 4000000 in
theorem rcorner_rd (lo g : Nat) (L : List Nat) (w : World) (h : CuAt lo w g L) (hb : ∀ b ∈ L, b < 256) :
    Calls Try.prog 94 #[.pointer (some ⟨g, 0, none⟩)] w fun e w' => e = .returned (.agg (cC (crV L)).toArray) ∧ Cu1 lo w w' g (crL L) := by
  have HN1 := Lib.hid (fun W hc => rname_any lo g L W hc hb)
  have HN2 := Lib.hid (fun W hc => cnumber_any lo g (lI L) W hc (lI_lt hb))
  have HN3 := Lib.hid (fun W hc => rname_any lo g ((lI L).drop 1) W hc (drop_lt (lI_lt hb) 1))
  have hlt := byte_lt (lI_lt hb)
  have hv : crV L = if 0 < c1 (lI L) then ((vI L).1, (vI L).2, (vI ((lI L).drop 1)).1, (vI ((lI L).drop 1)).2, (c1 (lI L) : Int) - 1) else ((vI L).1, (vI L).2, 0, 0, 0) := rfl
  have hl : crL L = if 0 < c1 (lI L) then lI ((lI L).drop 1) else (lI L).drop 1 := rfl
  have HX0 : RowKit.Hid (Whole (w.alloc (.cells #[.int .i64 0, .int .i64 0, .int .i64 0, .int .i64 0, .int .i64 0] 51)) w.heap.size 51 [.int .i64 0, .int .i64 0, .int .i64 0, .int .i64 0, .int .i64 0]) := Lib.hid (Whole.new_ _ _ [_, _, _, _, _])
  have HC0 := Lib.hid (h.al (.cells #[.int .i64 0, .int .i64 0, .int .i64 0, .int .i64 0, .int .i64 0] 51))
  have HK0 : RowKit.Hid (Kept (At1 g) w (w.alloc (.cells #[.int .i64 0, .int .i64 0, .int .i64 0, .int .i64 0, .int .i64 0] 51))) := Lib.hid (Kept.of_below (below1 w _))
  have Hgb : RowKit.Hid (g < w.heap.size) := Lib.hid h.lt
  obtain ⟨x1, gx1⟩ : ∃ z, (vI L).1 = z := ⟨_, rfl⟩
  obtain ⟨x2, gx2⟩ : ∃ z, (vI L).2 = z := ⟨_, rfl⟩
  obtain ⟨y1, gy1⟩ : ∃ z, (vI ((lI L).drop 1)).1 = z := ⟨_, rfl⟩
  obtain ⟨y2, gy2⟩ : ∃ z, (vI ((lI L).drop 1)).2 = z := ⟨_, rfl⟩
  obtain ⟨sd, gsd⟩ : ∃ z, c1 (lI L) = z := ⟨_, rfl⟩
  rw [gx1, gx2] at HN1 hv
  rw [gy1, gy2] at HN3 hv
  rw [gsd] at HN2 hlt hv hl
  obtain ⟨L1, gL1⟩ : ∃ z, lI L = z := ⟨_, rfl⟩
  rw [gL1] at HN1 HN2 HN3 hl
  obtain ⟨L2, gL2⟩ : ∃ z, L1.drop 1 = z := ⟨_, rfl⟩
  rw [gL2] at HN2 HN3 hl
  clear h hb gx1 gx2 gy1 gy2 gsd gL1 gL2
  have Hv := Lib.hid hv
  have Hl := Lib.hid hl
  clear hv hl
  go_enter Try.func94, Try.ntmps94
  go_upto_region 1 with fail
  obtain ⟨w0, gw0⟩ : ∃ z, w.alloc (.cells #[.int .i64 0, .int .i64 0, .int .i64 0, .int .i64 0, .int .i64 0] 51) = z := ⟨_, rfl⟩
  obtain ⟨b, gb⟩ : ∃ z, w.heap.size = z := ⟨_, rfl⟩
  rw [gw0] at HX0 HK0 HC0 ⊢
  rw [gb] at HX0 Hgb ⊢
  have Gb := Lib.hid gb
  clear gw0 gb
  go_upto_region 2 with (first
    | (go_at_call 93
       refine (HN1.out _ HC0.out).mono ?_
       rintro e w1 ⟨rfl, hcu⟩
       have HX1 := Lib.hid ((hcu.2.whole HX0.out (fun e => by have h1 : b = g := e; have := Hgb.out; omega)).al (.cells #[.int .i64 x1, .int .i64 x2, .int .i64 0, .int .i64 0, .int .i64 0] 51))
       have HK1 := Lib.hid ((HK0.out.trans hcu.2).alloc (.cells #[.int .i64 x1, .int .i64 x2, .int .i64 0, .int .i64 0, .int .i64 0] 51))
       have HC1 := Lib.hid (hcu.1.al (.cells #[.int .i64 x1, .int .i64 x2, .int .i64 0, .int .i64 0, .int .i64 0] 51))
       have HY1 : RowKit.Hid (Whole (w1.alloc (.cells #[.int .i64 x1, .int .i64 x2, .int .i64 0, .int .i64 0, .int .i64 0] 51)) w1.heap.size 51 [.int .i64 x1, .int .i64 x2, .int .i64 0, .int .i64 0, .int .i64 0]) := Lib.hid (Whole.new_ _ _ [_, _, _, _, _])
       have Hgb5 : RowKit.Hid (g < w1.heap.size ∧ b < w1.heap.size) := Lib.hid ⟨hcu.1.lt, (hcu.2.whole HX0.out (fun e => by have h1 : b = g := e; have := Hgb.out; omega)).lt⟩
       clear hcu))
  obtain ⟨w2, gw2⟩ : ∃ z, w1.alloc (.cells #[.int .i64 x1, .int .i64 x2, .int .i64 0, .int .i64 0, .int .i64 0] 51) = z := ⟨_, rfl⟩
  obtain ⟨b5, gb5⟩ : ∃ z, w1.heap.size = z := ⟨_, rfl⟩
  rw [gw2] at HX1 HC1 HK1 HY1 ⊢
  rw [gb5] at HY1 Hgb5 ⊢
  clear gw2 gb5 HX0 HC0 HK0
  go_upto_region 3 with (first
    | (go_at_call 73
       refine (HN2.out _ HC1.out).mono ?_
       rintro e w3 ⟨rfl, hcu, hgr⟩
       have HX3 := Lib.hid ((gk hgr).whole HX1.out (fun e => by have h1 : b = g := e; have := Hgb.out; omega))
       have HY3 := Lib.hid ((gk hgr).whole HY1.out (fun e => by have h1 : b5 = g := e; have := Hgb5.out; omega))
       have HK3 := Lib.hid (HK1.out.trans (gk hgr))
       have HC3 := Lib.hid hcu
       clear hcu hgr))
  by_cases hs : 0 < sd
  · have hv := Hv.out
    have hl := Hl.out
    rw [if_pos hs] at hv hl
    have Hv2 := Lib.hid hv
    have Hl2 := Lib.hid hl
    have ht1 : (0 : Int) < (sd : Int) := by omega
    have hw : IntKind.i64.wrap ((sd : Int) - 1) = (sd : Int) - 1 := IntWalk.i64_in _ (by omega)
    clear hv hl hlt
    go_upto_region 5 with (first
      | (go_at_call 93
         refine (HN3.out _ HC3.out).mono ?_
         rintro e w4 ⟨rfl, hcu⟩
         have HX4 := Lib.hid (hcu.2.whole HX3.out (fun e => by have h1 : b = g := e; have := Hgb.out; omega))
         have HY4 := Lib.hid (hcu.2.whole HY3.out (fun e => by have h1 : b5 = g := e; have := Hgb5.out; omega))
         have HK4 := Lib.hid (HK3.out.trans hcu.2)
         have HC4 := Lib.hid hcu.1
         have p2 := HY4.out.cell (i := 2) rfl
         have p3 := HY4.out.cell (i := 3) rfl
         have p4 := HY4.out.cell (i := 4) rfl
         have r2 := HY4.out.free 2
         have r3 := HY4.out.free 3
         have r4 := HY4.out.free 4
         clear hcu))
    clear p2 p3 p4 r2 r3 r4
    have HY5 := Lib.hid (((HY4.out.set_ 2 (.int .i64 y1)).set_ 3 (.int .i64 y2)).set_ 4 (.int .i64 ((sd : Int) - 1)))
    have HC5 := Lib.hid (((HC4.out.poke (i := 2) Hgb5.out.1 (.int .i64 y1)).poke (i := 3) Hgb5.out.1 (.int .i64 y2)).poke (i := 4) Hgb5.out.1 (.int .i64 ((sd : Int) - 1)))
    have HX5 := Lib.hid (((HX4.out.far (p := ⟨b5, 2, none⟩) (by show b ≠ b5; have := Hgb5.out.2; omega) (.int .i64 y1)).far (p := ⟨b5, 3, none⟩) (by show b ≠ b5; have := Hgb5.out.2; omega) (.int .i64 y2)).far (p := ⟨b5, 4, none⟩) (by show b ≠ b5; have := Hgb5.out.2; omega) (.int .i64 ((sd : Int) - 1)))
    have hb5 : w.heap.size ≤ b5 := by have := Gb.out; have := Hgb5.out.2; omega
    have HK5 := Lib.hid (kept_poke (i := 4) (kept_poke (i := 3) (kept_poke (i := 2) HK4.out hb5 (.int .i64 y1)) hb5 (.int .i64 y2)) hb5 (.int .i64 ((sd : Int) - 1)))
    obtain ⟨w5, gw5⟩ : ∃ z, ((w4.setCell ⟨b5, 2, none⟩ (.int .i64 y1)).setCell ⟨b5, 3, none⟩ (.int .i64 y2)).setCell ⟨b5, 4, none⟩ (.int .i64 ((sd : Int) - 1)) = z := ⟨_, rfl⟩
    rw [gw5] at HY5 HC5 HX5 HK5 ⊢
    clear gw5 hb5 HX4 HY4 HK4 HC4 ht1 hw
    refine wp_region_lit ?_
    refine wl_load (some 20) rfl (by rfl) 51 (.tmp 3) rfl b5 rfl 51 [.int .i64 x1, .int .i64 x2, .int .i64 y1, .int .i64 y2, .int .i64 ((sd : Int) - 1)] _ HY5.out Try.underlying51 rfl (by kernel_rfl) ?_
    simp only [Act.put, stA_, st0_, st1_]
    refine wpList_store_row rfl 51 (.tmp 2) (.tmp 20) rfl b #[.int .i64 x1, .int .i64 x2, .int .i64 y1, .int .i64 y2, .int .i64 ((sd : Int) - 1)] rfl rfl 51 #[.int .i64 0, .int .i64 0, .int .i64 0, .int .i64 0, .int .i64 0] HX5.out (by kernel_rfl) rfl (by simp [Value.oneCell']) ?_
    have HX6 : RowKit.Hid (Whole (w5.setRow b #[.int .i64 x1, .int .i64 x2, .int .i64 y1, .int .i64 y2, .int .i64 ((sd : Int) - 1)]) b 51 [.int .i64 x1, .int .i64 x2, .int .i64 y1, .int .i64 y2, .int .i64 ((sd : Int) - 1)]) := Lib.hid (Whole.row HX5.out [_, _, _, _, _])
    have HC6 := Lib.hid (HC5.out.row Hgb.out #[.int .i64 x1, .int .i64 x2, .int .i64 y1, .int .i64 y2, .int .i64 ((sd : Int) - 1)])
    have HK6 := Lib.hid (kept_in HK5.out (Nat.le_of_eq Gb.out) (kept_row (S := fun i => i = b) rfl #[.int .i64 x1, .int .i64 x2, .int .i64 y1, .int .i64 y2, .int .i64 ((sd : Int) - 1)]))
    go_wp2
    exact ret_whole rfl b rfl HX6.out Try.underlying51 rfl (by kernel_rfl) rfl ⟨by rw [Hv2.out]; rfl, by rw [Hl2.out]; exact HC6.out, HK6.out⟩
  · have hv := Hv.out
    have hl := Hl.out
    rw [if_neg hs] at hv hl
    have Hv2 := Lib.hid hv
    have Hl2 := Lib.hid hl
    obtain rfl : sd = 0 := by omega
    clear hv hl hlt hs
    go_upto_region 5 with fail
    refine wp_region_lit ?_
    refine wl_load (some 20) rfl (by rfl) 51 (.tmp 3) rfl b5 rfl 51 [.int .i64 x1, .int .i64 x2, .int .i64 0, .int .i64 0, .int .i64 0] _ HY3.out Try.underlying51 rfl (by kernel_rfl) ?_
    simp only [Act.put, stA_, st0_, st1_]
    refine wpList_store_row rfl 51 (.tmp 2) (.tmp 20) rfl b #[.int .i64 x1, .int .i64 x2, .int .i64 0, .int .i64 0, .int .i64 0] rfl rfl 51 #[.int .i64 0, .int .i64 0, .int .i64 0, .int .i64 0, .int .i64 0] HX3.out (by kernel_rfl) rfl (by simp [Value.oneCell']) ?_
    have HX6 : RowKit.Hid (Whole (w3.setRow b #[.int .i64 x1, .int .i64 x2, .int .i64 0, .int .i64 0, .int .i64 0]) b 51 [.int .i64 x1, .int .i64 x2, .int .i64 0, .int .i64 0, .int .i64 0]) := Lib.hid (Whole.row HX3.out [_, _, _, _, _])
    have HC6 := Lib.hid (HC3.out.row Hgb.out #[.int .i64 x1, .int .i64 x2, .int .i64 0, .int .i64 0, .int .i64 0])
    have HK6 := Lib.hid (kept_in HK3.out (Nat.le_of_eq Gb.out) (kept_row (S := fun i => i = b) rfl #[.int .i64 x1, .int .i64 x2, .int .i64 0, .int .i64 0, .int .i64 0]))
    go_wp2
    exact ret_whole rfl b rfl HX6.out Try.underlying51 rfl (by kernel_rfl) rfl ⟨by rw [Hv2.out]; rfl, by rw [Hl2.out]; exact HC6.out, HK6.out⟩
set_option maxRecDepth 100000 in
set_option maxHeartbeats 4000000 in
theorem rtext_rd (lo g : Nat) (L : List Nat) (w : World) (h : CuAt lo w g L) (hb : ∀ b ∈ L, b < 256) :
    Calls Try.prog 95 #[.pointer (some ⟨g, 0, none⟩)] w fun e w' => e = .returned (.string (txT L)) ∧ Cu1 lo w w' g (leT L) := by
  have HT := Lib.hid (takentext_any lo g (1 + c1 L) L w h hb rfl)
  have hlt := byte_lt hb
  obtain ⟨A, n, c, h1, h2, h3, h4, h5⟩ := h
  have hl : L.length = n := h2.rlen f8_len (by decide)
  have l0 := h1.cell (i := 0) (v := .slice A n c) rfl
  by_cases h0 : 0 < n
  · obtain ⟨bb, off, rfl, -, hp⟩ := byte_at h2 h0
    obtain ⟨x, gx⟩ : ∃ z, c1 L = z := ⟨_, rfl⟩
    have hx : L[0]? = some x := by
      cases L with
      | nil => simp at hl; omega
      | cons a l => rw [← gx]; rfl
    have b0 := hp 0 x hx
    simp only [Nat.add_zero] at b0
    rw [gx] at HT hlt
    have hw1 : IntKind.i64.wrap (x : Int) = (x : Int) := IntWalk.i64_in _ (by omega)
    have hw2 : IntKind.i64.wrap (1 + (x : Int)) = ((1 + x : Nat) : Int) := by rw [IntWalk.i64_in _ (by omega)]; omega
    have ht : (0 : Int) < (n : Int) := by omega
    obtain ⟨k, gk1⟩ : ∃ z, 1 + x = z := ⟨_, rfl⟩
    rw [gk1] at HT hw2
    clear hl hx hp h1 h2 h3 h4 h5 hlt gx gk1 hb
    go_enter Try.func95, Try.ntmps95
    go_wp2_with (first
      | (go_at_call 105
         refine HT.out.mono ?_
         rintro e w1 ⟨rfl, hcu⟩
         have HC := Lib.hid hcu
         clear hcu))
    go_ret
    exact ⟨rfl, HC.out⟩
  · obtain rfl : n = 0 := by omega
    obtain rfl : L = [] := List.eq_nil_of_length_eq_zero hl
    clear hl h1 h2 h3 h4 h5 hlt h0 hb
    go_enter Try.func95, Try.ntmps95
    go_wp2_with (first
      | (go_at_call 105
         refine HT.out.mono ?_
         rintro e w1 ⟨rfl, hcu⟩
         have HC := Lib.hid hcu
         clear hcu))
    go_ret
    exact ⟨rfl, HC.out⟩
end Go.Proofs.Ytinfbaflkjghhaa
