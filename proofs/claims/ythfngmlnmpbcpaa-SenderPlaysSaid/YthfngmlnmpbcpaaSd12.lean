/- The document's own sender: Push. -/
import Derived.Test.YthfngmlnmpbcpaaSd11
namespace Go.Proofs.Ythfngmlnmpbcpaa
open Go.RowKit
set_option linter.unusedSimpArgs false
set_option linter.unusedVariables false

set_option maxRecDepth 100000 in
set_option maxHeartbeats 1000000 in
theorem rpush_full {g win ack c : Nat} {TL : List (List Nat)} {A : Option Addr} {es : List Sl} (w : World) (h : RfIn w g win ack TL A c es) (ha : ack ≤ 200000) (hn : TL.length ≤ 200000) (hal : ack ≤ TL.length) (A1 : Option Addr) (n1 c1 : Nat) (hf : win ≤ TL.length - ack) :
    Calls Try.prog 16 #[.pointer (some ⟨g, 0, none⟩), .slice A1 n1 c1] w fun e w' => e = .returned (.tuple #[.int .i64 0, .int .i64 20]) ∧ Below w.heap.size w w' := by
  obtain ⟨d, gd⟩ : ∃ d, TL.length - ack = d := ⟨_, rfl⟩
  have hD := h.below ((Below.refl _ _).drew)
  have ld0 : ∀ w', Kept Nil_ w.drew w' → w'.cell? ⟨g, 0, none⟩ = some (.int .i64 (win : Int)) := fun w' hk => hk.nil_cell (hD.box.cell (i := 0) rfl)
  have ld1 : ∀ w', Kept Nil_ w.drew w' → w'.cell? ⟨g, 1, none⟩ = some (.int .i64 (ack : Int)) := fun w' hk => hk.nil_cell (hD.box.cell (i := 1) rfl)
  have ld2 : ∀ w', Kept Nil_ w.drew w' → w'.cell? ⟨g, 2, none⟩ = some (.slice A TL.length c) := fun w' hk => hk.nil_cell (hD.box.cell (i := 2) rfl)
  have hsub : (TL.length : Int) - (ack : Int) = (d : Int) := by omega
  have hwd : IntKind.i64.wrap (d : Int) = (d : Int) := IntWalk.i64_in _ (by omega)
  clear hD
  have t1 : decide (win ≤ d) = true := decide_eq_true (by omega)
  clear h gd
  go_enter Try.func16, Try.ntmps16
  go_upto_region 1 with fail
  refine wp_region_reg (Nil_) (by kernel_rfl) ?_
  apply wpR_next 0 (some 6)
  · simp only [List.getElem?_toArray, List.getElem?_cons_succ, List.getElem?_cons_zero]; exact rfl
  · rfl
  · kernel_rfl
  · kernel_rfl
  · kernel_rfl
  · exact fun _ _ _ _ h => h
  apply Exists.intro
  apply And.intro
  · apply yr_run; rfl; intro w' hw'; go_simp; (try with_reducible rfl)
  simp only [Act.put, List.setIfInBounds_toArray, List.set_cons_zero, List.set_cons_succ]
  apply wpR_next 1 (some 7)
  · simp only [List.getElem?_toArray, List.getElem?_cons_succ, List.getElem?_cons_zero]; exact rfl
  · rfl
  · kernel_rfl
  · kernel_rfl
  · kernel_rfl
  · exact fun _ _ _ _ h => h
  apply Exists.intro
  apply And.intro
  · apply yr_run; rfl; intro w' hw'; go_simp; (try with_reducible rfl)
  simp only [Act.put, List.setIfInBounds_toArray, List.set_cons_zero, List.set_cons_succ]
  apply wpR_next 2 (some 8)
  · simp only [List.getElem?_toArray, List.getElem?_cons_succ, List.getElem?_cons_zero]; exact rfl
  · rfl
  · kernel_rfl
  · kernel_rfl
  · kernel_rfl
  · exact fun _ _ _ _ h => h
  apply Exists.intro
  apply And.intro
  · apply yr_run; rfl; intro w' hw'; go_simp; (try with_reducible rfl)
  simp only [Act.put, List.setIfInBounds_toArray, List.set_cons_zero, List.set_cons_succ]
  apply wpR_next 3 (some 9)
  · simp only [List.getElem?_toArray, List.getElem?_cons_succ, List.getElem?_cons_zero]; exact rfl
  · rfl
  · kernel_rfl
  · kernel_rfl
  · kernel_rfl
  · exact fun _ _ _ _ h => h
  apply Exists.intro
  apply And.intro
  · apply yr_run; rfl; intro w' hw'; go_simp; (try with_reducible rfl)
  simp only [Act.put, List.setIfInBounds_toArray, List.set_cons_zero, List.set_cons_succ]
  apply wpR_next 4 (some 10)
  · simp only [List.getElem?_toArray, List.getElem?_cons_succ, List.getElem?_cons_zero]; exact rfl
  · rfl
  · kernel_rfl
  · kernel_rfl
  · kernel_rfl
  · exact fun _ _ _ _ h => h
  apply Exists.intro
  apply And.intro
  · apply yr_run; rfl; intro w' hw'; go_simp; (try with_reducible rfl)
  simp only [Act.put, List.setIfInBounds_toArray, List.set_cons_zero, List.set_cons_succ]
  apply wpR_next 5 (some 11)
  · simp only [List.getElem?_toArray, List.getElem?_cons_succ, List.getElem?_cons_zero]; exact rfl
  · rfl
  · kernel_rfl
  · kernel_rfl
  · kernel_rfl
  · exact fun _ _ _ _ h => h
  apply Exists.intro
  apply And.intro
  · apply yr_run; rfl; intro w' hw'; go_simp; (try with_reducible rfl)
  simp only [Act.put, List.setIfInBounds_toArray, List.set_cons_zero, List.set_cons_succ]
  apply wpR_next 6 (some 12)
  · simp only [List.getElem?_toArray, List.getElem?_cons_succ, List.getElem?_cons_zero]; exact rfl
  · rfl
  · kernel_rfl
  · kernel_rfl
  · kernel_rfl
  · exact fun _ _ _ _ h => h
  apply Exists.intro
  apply And.intro
  · apply yr_run; rfl; intro w' hw'; go_simp; (try with_reducible rfl)
  simp only [Act.put, List.setIfInBounds_toArray, List.set_cons_zero, List.set_cons_succ]
  apply wpR_next 7 (some 13)
  · simp only [List.getElem?_toArray, List.getElem?_cons_succ, List.getElem?_cons_zero]; exact rfl
  · rfl
  · kernel_rfl
  · kernel_rfl
  · kernel_rfl
  · exact fun _ _ _ _ h => h
  apply Exists.intro
  apply And.intro
  · apply yr_run; rfl; intro w' hw'; go_simp; (try with_reducible rfl)
  simp only [Act.put, List.setIfInBounds_toArray, List.set_cons_zero, List.set_cons_succ]
  apply wpR_next 8 (some 14)
  · simp only [List.getElem?_toArray, List.getElem?_cons_succ, List.getElem?_cons_zero]; exact rfl
  · rfl
  · kernel_rfl
  · kernel_rfl
  · kernel_rfl
  · exact fun _ _ _ _ h => h
  apply Exists.intro
  apply And.intro
  · apply yr_run; rfl; intro w' hw'; go_simp; (try with_reducible rfl)
  simp only [Act.put, List.setIfInBounds_toArray, List.set_cons_zero, List.set_cons_succ]
  apply wpR_next 9 (some 15)
  · simp only [List.getElem?_toArray, List.getElem?_cons_succ, List.getElem?_cons_zero]; exact rfl
  · rfl
  · kernel_rfl
  · kernel_rfl
  · kernel_rfl
  · exact fun _ _ _ _ h => h
  apply Exists.intro
  apply And.intro
  · apply yr_run; rfl; intro w' hw'; go_simp; (try with_reducible rfl)
  simp only [Act.put, List.setIfInBounds_toArray, List.set_cons_zero, List.set_cons_succ]
  apply wpR_next 10 (some 16)
  · simp only [List.getElem?_toArray, List.getElem?_cons_succ, List.getElem?_cons_zero]; exact rfl
  · rfl
  · kernel_rfl
  · kernel_rfl
  · kernel_rfl
  · exact fun _ _ _ _ h => h
  apply Exists.intro
  apply And.intro
  · apply yr_run; rfl; intro w' hw'; go_simp; (try with_reducible rfl)
  simp only [Act.put, List.setIfInBounds_toArray, List.set_cons_zero, List.set_cons_succ]
  apply wpR_next 11 (some 17)
  · simp only [List.getElem?_toArray, List.getElem?_cons_succ, List.getElem?_cons_zero]; exact rfl
  · rfl
  · kernel_rfl
  · kernel_rfl
  · kernel_rfl
  · exact fun _ _ _ _ h => h
  apply Exists.intro
  apply And.intro
  · apply yr_run; rfl; intro w' hw'; go_simp; (try with_reducible rfl)
  simp only [Act.put, List.setIfInBounds_toArray, List.set_cons_zero, List.set_cons_succ]
  apply wpR_next 12 (some 18)
  · simp only [List.getElem?_toArray, List.getElem?_cons_succ, List.getElem?_cons_zero]; exact rfl
  · rfl
  · kernel_rfl
  · kernel_rfl
  · kernel_rfl
  · exact fun _ _ _ _ h => h
  apply Exists.intro
  apply And.intro
  · apply yr_run; rfl; intro w' hw'; go_simp; (try with_reducible rfl)
  simp only [Act.put, List.setIfInBounds_toArray, List.set_cons_zero, List.set_cons_succ]
  apply wpR_next 13 (some 19)
  · simp only [List.getElem?_toArray, List.getElem?_cons_succ, List.getElem?_cons_zero]; exact rfl
  · rfl
  · kernel_rfl
  · kernel_rfl
  · kernel_rfl
  · exact fun _ _ _ _ h => h
  apply Exists.intro
  apply And.intro
  · apply yr_run; rfl; intro w' hw'; go_simp; (try with_reducible rfl)
  simp only [Act.put, List.setIfInBounds_toArray, List.set_cons_zero, List.set_cons_succ]
  apply wpR_next 14 (some 20)
  · simp only [List.getElem?_toArray, List.getElem?_cons_succ, List.getElem?_cons_zero]; exact rfl
  · rfl
  · kernel_rfl
  · kernel_rfl
  · kernel_rfl
  · exact fun _ _ _ _ h => h
  apply Exists.intro
  apply And.intro
  · apply yr_run; rfl; intro w' hw'; go_simp; (try with_reducible rfl)
  simp only [Act.put, List.setIfInBounds_toArray, List.set_cons_zero, List.set_cons_succ]
  refine wpR_done (by kernel_rfl) ?_ _
  intro W7 hw7
  have HB7 : RowKit.Hid (Below w.heap.size w W7) := Lib.hid (((Below.refl w.heap.size w).drew).trans (hw7.mono (Nat.le_refl _)))
  clear hw7 ld0 ld1 ld2
  go_wp2
  refine bodyPost_ret (v := .tuple #[.int .i64 0, .int .i64 20]) (by simp [results, Try.results16, go_sem]) rfl ⟨rfl, HB7.out⟩
set_option maxRecDepth 100000 in
set_option maxHeartbeats 1000000 in
theorem rpush_yes {g win ack c : Nat} {TL : List (List Nat)} {A : Option Addr} {es : List Sl} (w : World) (h : RfIn w g win ack TL A c es) (ha : ack ≤ 200000) (hn : TL.length ≤ 200000) (hal : ack ≤ TL.length) (A1 : Option Addr) (c1 : Nat) (L : List Nat) (hr : RdS w w.heap.size 1 A1 L.length c1 (rowsV f8 L)) (h256 : ∀ b ∈ L, b < 256) (h60 : L.length ≤ 60) (hf : TL.length - ack < win) :
    Calls Try.prog 16 #[.pointer (some ⟨g, 0, none⟩), .slice A1 L.length c1] w fun e w' => e = .returned (.tuple #[.int .i64 ((TL.length + 1 : Nat) : Int), .int .i64 0]) ∧
      ∃ A' c' es', RfIn w' g win ack (TL ++ [L]) A' c' es' ∧ Kept (fun b => b = g) w w' ∧ (∀ a', A' = some a' → w.heap.size ≤ a'.block) ∧ ∃ Ap cp, es' = es ++ [(Ap, L.length, cp)] ∧ ∀ a', Ap = some a' → 0 < L.length → w.heap.size ≤ a'.block := by
  obtain ⟨d, gd⟩ : ∃ d, TL.length - ack = d := ⟨_, rfl⟩
  have hD := h.below ((Below.refl _ _).drew)
  have ld0 : ∀ w', Kept Nil_ w.drew w' → w'.cell? ⟨g, 0, none⟩ = some (.int .i64 (win : Int)) := fun w' hk => hk.nil_cell (hD.box.cell (i := 0) rfl)
  have ld1 : ∀ w', Kept Nil_ w.drew w' → w'.cell? ⟨g, 1, none⟩ = some (.int .i64 (ack : Int)) := fun w' hk => hk.nil_cell (hD.box.cell (i := 1) rfl)
  have ld2 : ∀ w', Kept Nil_ w.drew w' → w'.cell? ⟨g, 2, none⟩ = some (.slice A TL.length c) := fun w' hk => hk.nil_cell (hD.box.cell (i := 2) rfl)
  have hsub : (TL.length : Int) - (ack : Int) = (d : Int) := by omega
  have hwd : IntKind.i64.wrap (d : Int) = (d : Int) := IntWalk.i64_in _ (by omega)
  clear hD
  have t1 : decide (win ≤ d) = false := decide_eq_false (by omega)
  have t2 : ¬ win ≤ d := by omega
  obtain ⟨i0, hi, hz0, hz1, hz2⟩ := info_parts_ info_u8
  obtain ⟨i1, hi', hz0', hz1', hz2'⟩ := info_parts_ info_sl
  have H := Lib.hid h
  have Hr := Lib.hid hr
  have H256 := Lib.hid h256
  clear h hr h256 gd hf
  go_enter Try.func16, Try.ntmps16
  go_upto_region 1 with fail
  refine wp_region_reg (Nil_) (by kernel_rfl) ?_
  apply wpR_next 0 (some 6)
  · simp only [List.getElem?_toArray, List.getElem?_cons_succ, List.getElem?_cons_zero]; exact rfl
  · rfl
  · kernel_rfl
  · kernel_rfl
  · kernel_rfl
  · exact fun _ _ _ _ h => h
  apply Exists.intro
  apply And.intro
  · apply yr_run; rfl; intro w' hw'; go_simp; (try with_reducible rfl)
  simp only [Act.put, List.setIfInBounds_toArray, List.set_cons_zero, List.set_cons_succ]
  apply wpR_next 1 (some 7)
  · simp only [List.getElem?_toArray, List.getElem?_cons_succ, List.getElem?_cons_zero]; exact rfl
  · rfl
  · kernel_rfl
  · kernel_rfl
  · kernel_rfl
  · exact fun _ _ _ _ h => h
  apply Exists.intro
  apply And.intro
  · apply yr_run; rfl; intro w' hw'; go_simp; (try with_reducible rfl)
  simp only [Act.put, List.setIfInBounds_toArray, List.set_cons_zero, List.set_cons_succ]
  apply wpR_next 2 (some 8)
  · simp only [List.getElem?_toArray, List.getElem?_cons_succ, List.getElem?_cons_zero]; exact rfl
  · rfl
  · kernel_rfl
  · kernel_rfl
  · kernel_rfl
  · exact fun _ _ _ _ h => h
  apply Exists.intro
  apply And.intro
  · apply yr_run; rfl; intro w' hw'; go_simp; (try with_reducible rfl)
  simp only [Act.put, List.setIfInBounds_toArray, List.set_cons_zero, List.set_cons_succ]
  apply wpR_next 3 (some 9)
  · simp only [List.getElem?_toArray, List.getElem?_cons_succ, List.getElem?_cons_zero]; exact rfl
  · rfl
  · kernel_rfl
  · kernel_rfl
  · kernel_rfl
  · exact fun _ _ _ _ h => h
  apply Exists.intro
  apply And.intro
  · apply yr_run; rfl; intro w' hw'; go_simp; (try with_reducible rfl)
  simp only [Act.put, List.setIfInBounds_toArray, List.set_cons_zero, List.set_cons_succ]
  apply wpR_next 4 (some 10)
  · simp only [List.getElem?_toArray, List.getElem?_cons_succ, List.getElem?_cons_zero]; exact rfl
  · rfl
  · kernel_rfl
  · kernel_rfl
  · kernel_rfl
  · exact fun _ _ _ _ h => h
  apply Exists.intro
  apply And.intro
  · apply yr_run; rfl; intro w' hw'; go_simp; (try with_reducible rfl)
  simp only [Act.put, List.setIfInBounds_toArray, List.set_cons_zero, List.set_cons_succ]
  apply wpR_next 5 (some 11)
  · simp only [List.getElem?_toArray, List.getElem?_cons_succ, List.getElem?_cons_zero]; exact rfl
  · rfl
  · kernel_rfl
  · kernel_rfl
  · kernel_rfl
  · exact fun _ _ _ _ h => h
  apply Exists.intro
  apply And.intro
  · apply yr_run; rfl; intro w' hw'; go_simp; (try with_reducible rfl)
  simp only [Act.put, List.setIfInBounds_toArray, List.set_cons_zero, List.set_cons_succ]
  apply wpR_next 6 (some 12)
  · simp only [List.getElem?_toArray, List.getElem?_cons_succ, List.getElem?_cons_zero]; exact rfl
  · rfl
  · kernel_rfl
  · kernel_rfl
  · kernel_rfl
  · exact fun _ _ _ _ h => h
  apply Exists.intro
  apply And.intro
  · apply yr_run; rfl; intro w' hw'; go_simp; (try with_reducible rfl)
  simp only [Act.put, List.setIfInBounds_toArray, List.set_cons_zero, List.set_cons_succ]
  apply wpR_next 7 (some 13)
  · simp only [List.getElem?_toArray, List.getElem?_cons_succ, List.getElem?_cons_zero]; exact rfl
  · rfl
  · kernel_rfl
  · kernel_rfl
  · kernel_rfl
  · exact fun _ _ _ _ h => h
  apply Exists.intro
  apply And.intro
  · apply yr_run; rfl; intro w' hw'; go_simp; (try with_reducible rfl)
  simp only [Act.put, List.setIfInBounds_toArray, List.set_cons_zero, List.set_cons_succ]
  apply wpR_next 8 (some 14)
  · simp only [List.getElem?_toArray, List.getElem?_cons_succ, List.getElem?_cons_zero]; exact rfl
  · rfl
  · kernel_rfl
  · kernel_rfl
  · kernel_rfl
  · exact fun _ _ _ _ h => h
  apply Exists.intro
  apply And.intro
  · apply yr_run; rfl; intro w' hw'; go_simp; (try with_reducible rfl)
  simp only [Act.put, List.setIfInBounds_toArray, List.set_cons_zero, List.set_cons_succ]
  apply wpR_next 9 (some 15)
  · simp only [List.getElem?_toArray, List.getElem?_cons_succ, List.getElem?_cons_zero]; exact rfl
  · rfl
  · kernel_rfl
  · kernel_rfl
  · kernel_rfl
  · exact fun _ _ _ _ h => h
  apply Exists.intro
  apply And.intro
  · apply yr_run; rfl; intro w' hw'; go_simp; (try with_reducible rfl)
  simp only [Act.put, List.setIfInBounds_toArray, List.set_cons_zero, List.set_cons_succ]
  apply wpR_next 10 (some 16)
  · simp only [List.getElem?_toArray, List.getElem?_cons_succ, List.getElem?_cons_zero]; exact rfl
  · rfl
  · kernel_rfl
  · kernel_rfl
  · kernel_rfl
  · exact fun _ _ _ _ h => h
  apply Exists.intro
  apply And.intro
  · apply yr_run; rfl; intro w' hw'; go_simp; (try with_reducible rfl)
  simp only [Act.put, List.setIfInBounds_toArray, List.set_cons_zero, List.set_cons_succ]
  apply wpR_next 11 (some 17)
  · simp only [List.getElem?_toArray, List.getElem?_cons_succ, List.getElem?_cons_zero]; exact rfl
  · rfl
  · kernel_rfl
  · kernel_rfl
  · kernel_rfl
  · exact fun _ _ _ _ h => h
  apply Exists.intro
  apply And.intro
  · apply yr_run; rfl; intro w' hw'; go_simp; (try with_reducible rfl)
  simp only [Act.put, List.setIfInBounds_toArray, List.set_cons_zero, List.set_cons_succ]
  apply wpR_next 12 (some 18)
  · simp only [List.getElem?_toArray, List.getElem?_cons_succ, List.getElem?_cons_zero]; exact rfl
  · rfl
  · kernel_rfl
  · kernel_rfl
  · kernel_rfl
  · exact fun _ _ _ _ h => h
  apply Exists.intro
  apply And.intro
  · apply yr_run; rfl; intro w' hw'; go_simp; (try with_reducible rfl)
  simp only [Act.put, List.setIfInBounds_toArray, List.set_cons_zero, List.set_cons_succ]
  apply wpR_next 13 (some 19)
  · simp only [List.getElem?_toArray, List.getElem?_cons_succ, List.getElem?_cons_zero]; exact rfl
  · rfl
  · kernel_rfl
  · kernel_rfl
  · kernel_rfl
  · exact fun _ _ _ _ h => h
  apply Exists.intro
  apply And.intro
  · apply yr_run; rfl; intro w' hw'; go_simp; (try with_reducible rfl)
  simp only [Act.put, List.setIfInBounds_toArray, List.set_cons_zero, List.set_cons_succ]
  apply wpR_next 14 (some 20)
  · simp only [List.getElem?_toArray, List.getElem?_cons_succ, List.getElem?_cons_zero]; exact rfl
  · rfl
  · kernel_rfl
  · kernel_rfl
  · kernel_rfl
  · exact fun _ _ _ _ h => h
  apply Exists.intro
  apply And.intro
  · apply yr_run; rfl; intro w' hw'; go_simp; (try with_reducible rfl)
  simp only [Act.put, List.setIfInBounds_toArray, List.set_cons_zero, List.set_cons_succ]
  refine wpR_done (by kernel_rfl) ?_ _
  intro W1 hw1
  have HX1 : RowKit.Hid (Below w.heap.size w W1) := Lib.hid (((Below.refl w.heap.size w).drew).trans (hw1.mono (Nat.le_refl _)))
  have H1 := Lib.hid (H.out.below HX1.out)
  have Hr1 := Lib.hid (Hr.out.bl HX1.out)
  clear hw1 ld0 ld1 ld2 hsub hwd H Hr
  have H2 := Lib.hid (H1.out.below (below1 W1 (.cells #[] 32)))
  have lc := H2.out.box.cell (i := 2) rfl
  have HRow := Lib.hid H2.out.row
  have hes := H2.out.eslen
  go_wp2_with (first
    | (at_builtin
       refine wpList_push2 rfl (.tmp 22) (.tmp 26) _ rfl _ 32 i1 _ 1 24 Try.underlying34 hi' hz0' hz1' hz2' rfl (by decide) _ _ _ rfl (Ow.new_ (cs := #[]) (Below.refl _ _) (Nat.le_refl _) (Nat.le_refl _) (Nat.zero_le _) rfl) _ _ _ _ _ rfl HRow.out (slc_all _) (by unfold maxLen; omega) (by omega) ?_
       intro v1 W4 how1 hb4 hgr
       rw [Nat.zero_add, List.nil_append] at how1
       obtain ⟨Aa, ca, gv1, -⟩ := how1.rds
       subst gv1
       have HO1 := Lib.hid how1
       have HRb := Lib.hid ((Hr1.out.bl how1.below).al (.cells #[] 5))
       clear how1 hb4 hgr)
    | (at_builtin
       refine wpList_push2 rfl (.tmp 28) (.tmp 29) _ rfl _ 5 i0 _ 1 1 Try.underlying32 hi hz0 hz1 hz2 rfl (by decide) _ _ _ rfl (Ow.new_ (cs := #[]) (Below.refl _ _) (Nat.le_refl _) (Nat.le_refl _) (Nat.zero_le _) rfl) _ _ _ _ _ rfl HRb.out (f8_all _) (by unfold maxLen; omega) (by omega) ?_
       intro v2 W5 how2 hb5 hgr
       rw [Nat.zero_add, List.nil_append] at how2
       obtain ⟨Ap, cp, gv2, -⟩ := how2.rds
       subst gv2
       have HO2 := Lib.hid how2
       have HO1b := Lib.hid (HO1.out.up (how2.below.trans ((below1 W5 (.cells #[.slice Ap L.length cp] 32)).mono how2.below.size)))
       have HNw : RowKit.Hid (RdS (W5.alloc (.cells #[.slice Ap L.length cp] 32)) (W5.alloc (.cells #[.slice Ap L.length cp] 32)).heap.size 1 (some ⟨W5.heap.size, 0, none⟩) 1 1 (rowsV slc [(Ap, L.length, cp)])) := Lib.hid (RdS.of_whole (Whole.new_ _ _ [_]) rfl)
       clear how2 hb5 hgr)
    | (at_builtin
       refine wpList_push2 rfl (.tmp 27) (.tmp 31) _ rfl _ 32 i1 _ 1 24 Try.underlying34 hi' hz0' hz1' hz2' rfl (by decide) _ _ _ rfl HO1b.out _ _ _ _ _ rfl HNw.out (slc_all _) (by unfold maxLen; omega) (by omega) ?_
       intro v3 W6 how3 hb6 hgr
       rw [← rowsV_app] at how3
       obtain ⟨A', c', gv3, hr6⟩ := how3.rds
       subst gv3
       have HO3 := Lib.hid how3
       have HR3 := Lib.hid hr6
       have HKg : RowKit.Hid (Kept (fun b => some b = (Value.slice Aa TL.length ca).ownBlock) (W5.alloc (.cells #[.slice Ap L.length cp] 32)) W6) := Lib.hid ⟨hgr.os, hgr.tape, hgr.output, hgr.size, fun i hi hne => hgr.block i hi hne⟩
       have HBx := Lib.hid (H1.out.below how3.below)
       have lb6 := HBx.out.box.cell (i := 2) rfl
       have fb6 := HBx.out.box.free 2
       clear how3 hb6 hgr hr6))
  have hl : (TL ++ [L]).length = TL.length + 1 := by simp
  have hg1 := H1.out.box.lt
  obtain ⟨Aq, cq, eq_, hrq⟩ := HO2.out.rds
  injection eq_ with q1 _ q3
  subst q1 q3
  have hk6 : Kept (fun b => b = g) W6 (W6.setCell ⟨g, 2, none⟩ (.slice A' (TL.length + 1) c')) := (Kept.refl (fun b => b = g) W6).setCell (p := ⟨g, 2, none⟩) (.inl rfl) _
  have hL6 := (hrq.al (.cells #[.slice Ap L.length cp] 32)).kept_ne HKg.out (fun a' ha' hn' e => by
    have h1 := (HO1.out.own.lt a'.block e.symm).2
    have h2 := (HO2.out.own.lt a'.block (by subst ha'; rfl)).1
    omega)
  have hLg : ∀ a', Ap = some a' → 0 < L.length → a'.block ≠ g := fun a' ha' hn' e => by
    have h2 := (HO2.out.own.lt a'.block (by subst ha'; rfl)).1
    have h3 := HO1.out.below.size
    omega
  have hAg : ∀ a', A' = some a' → 0 < (TL ++ [L]).length → a'.block ≠ g := fun a' ha' _ e => by
    have h2 := (HO3.out.own.lt a'.block (by subst ha'; rfl)).1
    omega
  refine bodyPost_ret (v := .tuple #[.int .i64 ((TL.length + 1 : Nat) : Int), .int .i64 0]) (by simp [results, Try.results16, go_sem]) rfl ⟨rfl, A', c', es ++ [(Ap, L.length, cp)], ⟨by rw [hl]; exact HBx.out.box.set_ 2 _, by rw [hl]; exact HR3.out.kept_ne hk6 (fun a' ha' hn' => hAg a' ha' (by omega)), hAg, fun i L' hL' => ?_⟩, (Kept.of_below (bel_bl HX1.out HO3.out.below)).trans hk6, fun a' ha' => Nat.le_trans HX1.out.size (HO3.out.own.lt a'.block (by subst ha'; rfl)).1, Ap, cp, rfl, fun a' ha' _ => Nat.le_trans HX1.out.size (Nat.le_trans HO1.out.below.size (HO2.out.own.lt a'.block (by subst ha'; rfl)).1)⟩
  rcases Nat.lt_or_ge i TL.length with hi2 | hi2
  · rw [List.getElem?_append_left hi2] at hL'
    obtain ⟨a0, m0, q1, q2, q3, q4, q5⟩ := HBx.out.each i L' hL'
    exact ⟨a0, m0, by rw [List.getElem?_append_left (by omega)]; exact q1, q2.kept_ne hk6 (fun a' ha' hn' e => q5 a' ha' hn' e), q3, q4, q5⟩
  · have hlt := (List.getElem?_eq_some_iff.1 hL').1
    rw [hl] at hlt
    obtain rfl : i = TL.length := by omega
    rw [List.getElem?_append_right (Nat.le_refl _), Nat.sub_self] at hL'
    simp at hL'
    subst hL'
    exact ⟨Ap, cp, by rw [List.getElem?_append_right (by omega), hes, Nat.sub_self]; rfl, hL6.kept_ne hk6 (fun a' ha' hn' => hLg a' ha' hn'), H256.out, h60, hLg⟩
end Go.Proofs.Ythfngmlnmpbcpaa
