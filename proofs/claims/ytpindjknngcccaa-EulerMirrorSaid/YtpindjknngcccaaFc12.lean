/- The document's Darts. -/
import Derived.Test.YtpindjknngcccaaFcD
namespace Go.Proofs.Ytpindjknngcccaa
open Go.RowKit
set_option linter.unusedSimpArgs false
set_option linter.unusedVariables false

set_option maxRecDepth 100000 in
set_option maxHeartbeats 4000000 in
theorem rdarts5_any (A : Option Addr) (n c : Nat) (Vs : List VC) (B : Option Addr) (m k : Nat) (Es : List EC) (w : World) (h : DgIn w A n c Vs B m k Es) (hm : m ≤ 1000000) :
    Calls Try.prog 68 #[.agg #[.slice A n c, .slice B m k]] w fun e w' => ∃ A' c', e = .returned (.slice A' (2 * m) c') ∧ w'.ownsRow w.heap.size 39 3 (.slice A' (2 * m) c') (2 * m) (dartsV (dsE Es)) ∧ Below w.heap.size w w' := by
  have HE := Lib.hid h.e
  have Hle := Lib.hid (h.e.rlen eC_len (by decide))
  obtain ⟨i0, hi0, hz0, hz1, hz2⟩ := info_partsD info_dartD
  clear h
  go_enter Try.func68, Try.ntmps68
  go_upto_region 1 with fail
  have hx0 : Whole (w.alloc (.cells #[.slice A n c, .slice B m k] 25)) (w.heap.size) 25 [.slice A n c, .slice B m k] := (Whole.new_ w 25 [.slice A n c, .slice B m k])
  have hbl : Below w.heap.size w (w.alloc (.cells #[.slice A n c, .slice B m k] 25)) := (below1 w (.cells #[.slice A n c, .slice B m k] 25))
  have hsz : w.heap.size + 1 ≤ ((w.alloc (.cells #[.slice A n c, .slice B m k] 25))).heap.size := by simp
  obtain ⟨W0, gW0⟩ : ∃ z, (w.alloc (.cells #[.slice A n c, .slice B m k] 25)) = z := ⟨_, rfl⟩
  rw [gW0] at hx0 hbl hsz
  obtain ⟨b0, gb0⟩ : ∃ z, w.heap.size = z := ⟨_, rfl⟩
  rw [gb0] at hx0
  have HX0 := Lib.hid hx0
  have HB0 := Lib.hid hbl
  have HS0 := Lib.hid hsz
  have Gb0 := Lib.hid gb0
  have Lb0 : RowKit.Hid (w.heap.size ≤ b0) := Lib.hid (by omega)
  rw [gW0, gb0]
  clear gW0 hbl hsz hx0 gb0
  have HX1 := Lib.hid (HX0.out.al (.cells #[] 39))
  have HO1 : RowKit.Hid (Ow w (b0 + 1) 39 3 (.slice (some ⟨W0.heap.size, 0, none⟩) 0 0) 0 [] (W0.alloc (.cells #[] 39))) := Lib.hid (Ow.new_ (cs := #[]) HB0.out (by have := Lb0.out; omega) (by have := HX0.out.lt; omega) (by unfold maxLen; omega) rfl)
  go_wp2
  clear HX0 HB0
  obtain ⟨W1, gW1⟩ : ∃ z, W0.alloc (.cells #[] 39) = z := ⟨_, rfl⟩
  obtain ⟨g1, gg1⟩ : ∃ z, W0.heap.size = z := ⟨_, rfl⟩
  rw [gW1] at HX1 HO1 ⊢
  rw [gg1] at HO1 ⊢
  clear gW1 gg1
  go_loopw [3, 4] (fun sl si wr => ∃ (i : Nat) (A2 : Option Addr) (c2 : Nat), i ≤ m ∧ si = .int .i64 i ∧ sl = .slice A2 (2 * i) c2 ∧ RowKit.Hid (Whole wr b0 25 [.slice A n c, .slice B m k]) ∧ RowKit.Hid (Ow w (b0 + 1) 39 3 (.slice A2 (2 * i) c2) (2 * i) (dartsV (dsE (Es.take i))) wr)) (fun _ si _ => m - (intOf si).toNat)
  case atStart => exact ⟨0, _, _, by omega, rfl, rfl, HX1, HO1⟩
  case round =>
    clear HX1 HO1
    obtain ⟨i, A2, c2, hi, rfl, rfl, HX, HO⟩ := hrel
    obtain ⟨wo, gwo⟩ : ∃ z, wr = z := ⟨_, rfl⟩
    rw [gwo] at HX HO ⊢
    clear gwo
    have c1 := HX.out.cell (i := 1) rfl
    by_cases him : i < m
    · obtain ⟨x, hx⟩ : ∃ x, Es[i]? = some x := ⟨_, List.getElem?_eq_getElem (by have := Hle.out; omega)⟩
      have hdn := dsE_next Es i x hx
      obtain ⟨bb, off, rfl, hbB, hpl⟩ := HE.out.place eC_len (by decide) (by omega)
      have HB := Lib.hid HO.out.below
      have hbw := HB.out
      have q0 := hpl i _ hx 0 _ rfl
      have q1 := hpl i _ hx 1 _ rfl
      have q2 := hpl i _ hx 2 _ rfl
      have q3 := hpl i _ hx 3 _ rfl
      simp only [Addr.add_lit, Nat.add_zero] at q0 q1 q2 q3
      have l0 := (hbw.cell (p := ⟨bb, off + i * 4, none⟩) hbB).trans q0
      have l1 := (hbw.cell (p := ⟨bb, off + i * 4 + 1, none⟩) hbB).trans q1
      have l2 := (hbw.cell (p := ⟨bb, off + i * 4 + 2, none⟩) hbB).trans q2
      have l3 := (hbw.cell (p := ⟨bb, off + i * 4 + 3, none⟩) hbB).trans q3
      clear hbw q0 q1 q2 q3
      obtain ⟨⟨i1, i2⟩, lb, at_⟩ := x
      replace hdn : dsE (Es.take (i + 1)) = dsE (Es.take i) ++ [(i1, i2, 0), (i1, i2, 1)] := hdn
      have q0 : wo.cell? ⟨bb, off + i * 4, none⟩ = some (.int .i64 i1) := l0
      have q1 : wo.cell? ⟨bb, off + i * 4 + 1, none⟩ = some (.int .i64 i2) := l1
      have Hbb : RowKit.Hid (bb < b0 + 1) := Lib.hid (by have := Lb0.out; omega)
      have HOd := Lib.hid (HO.out.up ((Below.refl _ _).drew))
      have HXd := Lib.hid HX.out.dr
      have HDn := Lib.hid hdn
      clear l0 l1 l2 l3 hx hbB hpl hdn
      go_upto_region 5 with fail
      have ld1 : ∀ w', Kept (From_ (b0 + 1)) wo.drew w' → w'.cell? ⟨b0, 1, none⟩ = some (.slice (some ⟨bb, off, none⟩) m k) := fun w' h => h.from_cell (Nat.lt_succ_self _) (HXd.out.cell (i := 1) rfl)
      have ld2 : ∀ w', Kept (From_ (b0 + 1)) wo.drew w' → w'.cell? ⟨bb, off + i * 4, none⟩ = some (.int .i64 i1) := fun w' h => h.from_cell Hbb.out (show wo.drew.cell? _ = _ from q0)
      have ld3 : ∀ w', Kept (From_ (b0 + 1)) wo.drew w' → w'.cell? ⟨bb, off + i * 4 + 1, none⟩ = some (.int .i64 i2) := fun w' h => h.from_cell Hbb.out (show wo.drew.cell? _ = _ from q1)
      clear q0 q1 c1 HX HO HB
      refine wp_region_reg (From_ (b0 + 1)) (by kernel_rfl) ?_
      apply wpR_next 0 (some 13)
      · simp only [List.getElem?_toArray, List.getElem?_cons_succ, List.getElem?_cons_zero]; exact rfl
      · rfl
      · kernel_rfl
      · kernel_rfl
      · kernel_rfl
      · exact fun _ _ _ _ h => h
      apply Exists.intro
      apply And.intro
      · apply yr_run; rfl; intro w' hw'; go_simp; (try with_reducible rfl)
      simp only [Act.put, List.setIfInBounds_toArray, List.set_cons_zero, List.set_cons_succ]
      apply wpR_next 1 (some 14)
      · simp only [List.getElem?_toArray, List.getElem?_cons_succ, List.getElem?_cons_zero]; exact rfl
      · rfl
      · kernel_rfl
      · kernel_rfl
      · kernel_rfl
      · exact fun _ _ _ _ h => h
      apply Exists.intro
      apply And.intro
      · apply yr_run; rfl; intro w' hw'; go_simp; (try with_reducible rfl)
      simp only [Act.put, List.setIfInBounds_toArray, List.set_cons_zero, List.set_cons_succ]
      apply wpR_next 2 (some 15)
      · simp only [List.getElem?_toArray, List.getElem?_cons_succ, List.getElem?_cons_zero]; exact rfl
      · rfl
      · kernel_rfl
      · kernel_rfl
      · kernel_rfl
      · exact fun _ _ _ _ h => h
      apply Exists.intro
      apply And.intro
      · apply yr_run; rfl; intro w' hw'; go_simp; (try with_reducible rfl)
      simp only [Act.put, List.setIfInBounds_toArray, List.set_cons_zero, List.set_cons_succ]
      apply wpR_next 3 (some 16)
      · simp only [List.getElem?_toArray, List.getElem?_cons_succ, List.getElem?_cons_zero]; exact rfl
      · rfl
      · kernel_rfl
      · kernel_rfl
      · kernel_rfl
      · exact fun _ _ _ _ h => h
      apply Exists.intro
      apply And.intro
      · apply yr_run; rfl; intro w' hw'; go_simp; (try with_reducible rfl)
      simp only [Act.put, List.setIfInBounds_toArray, List.set_cons_zero, List.set_cons_succ]
      apply wpR_next 4 (some 17)
      · simp only [List.getElem?_toArray, List.getElem?_cons_succ, List.getElem?_cons_zero]; exact rfl
      · rfl
      · kernel_rfl
      · kernel_rfl
      · kernel_rfl
      · exact fun _ _ _ _ h => h
      apply Exists.intro
      apply And.intro
      · apply yr_run; rfl; intro w' hw'; go_simp; (try with_reducible rfl)
      simp only [Act.put, List.setIfInBounds_toArray, List.set_cons_zero, List.set_cons_succ]
      apply wpR_next 5 (some 18)
      · simp only [List.getElem?_toArray, List.getElem?_cons_succ, List.getElem?_cons_zero]; exact rfl
      · rfl
      · kernel_rfl
      · kernel_rfl
      · kernel_rfl
      · exact fun _ _ _ _ h => h
      apply Exists.intro
      apply And.intro
      · apply yr_run; rfl; intro w' hw'; go_simp; (try with_reducible rfl)
      simp only [Act.put, List.setIfInBounds_toArray, List.set_cons_zero, List.set_cons_succ]
      apply wpR_next 6 (some 19)
      · simp only [List.getElem?_toArray, List.getElem?_cons_succ, List.getElem?_cons_zero]; exact rfl
      · rfl
      · kernel_rfl
      · kernel_rfl
      · kernel_rfl
      · exact fun _ _ _ _ h => h
      apply Exists.intro
      apply And.intro
      · apply yr_run; rfl; intro w' hw'; go_simp; (try with_reducible rfl)
      simp only [Act.put, List.setIfInBounds_toArray, List.set_cons_zero, List.set_cons_succ]
      apply wpR_next 7 (some 20)
      · simp only [List.getElem?_toArray, List.getElem?_cons_succ, List.getElem?_cons_zero]; exact rfl
      · rfl
      · kernel_rfl
      · kernel_rfl
      · kernel_rfl
      · exact fun _ _ _ _ h => h
      apply Exists.intro
      apply And.intro
      · apply yr_run; rfl; intro w' hw'; go_simp; (try with_reducible rfl)
      simp only [Act.put, List.setIfInBounds_toArray, List.set_cons_zero, List.set_cons_succ]
      apply wpR_next 8 (some 21)
      · simp only [List.getElem?_toArray, List.getElem?_cons_succ, List.getElem?_cons_zero]; exact rfl
      · rfl
      · kernel_rfl
      · kernel_rfl
      · kernel_rfl
      · exact fun _ _ _ _ h => h
      apply Exists.intro
      apply And.intro
      · apply yr_run; rfl; intro w' hw'; go_simp; (try with_reducible rfl)
      simp only [Act.put, List.setIfInBounds_toArray, List.set_cons_zero, List.set_cons_succ]
      apply wpR_next 9 (some 22)
      · simp only [List.getElem?_toArray, List.getElem?_cons_succ, List.getElem?_cons_zero]; exact rfl
      · rfl
      · kernel_rfl
      · kernel_rfl
      · kernel_rfl
      · exact fun _ _ _ _ h => h
      apply Exists.intro
      apply And.intro
      · apply yr_run; rfl; intro w' hw'; go_simp; (try with_reducible rfl)
      simp only [Act.put, List.setIfInBounds_toArray, List.set_cons_zero, List.set_cons_succ]
      apply wpR_next 10 (some 23)
      · simp only [List.getElem?_toArray, List.getElem?_cons_succ, List.getElem?_cons_zero]; exact rfl
      · rfl
      · kernel_rfl
      · kernel_rfl
      · kernel_rfl
      · exact fun _ _ _ _ h => h
      apply Exists.intro
      apply And.intro
      · apply yr_run; rfl; intro w' hw'; go_simp; (try with_reducible rfl)
      simp only [Act.put, List.setIfInBounds_toArray, List.set_cons_zero, List.set_cons_succ]
      apply wpR_next 11 (some 24)
      · simp only [List.getElem?_toArray, List.getElem?_cons_succ, List.getElem?_cons_zero]; exact rfl
      · rfl
      · kernel_rfl
      · kernel_rfl
      · kernel_rfl
      · exact fun _ _ _ _ h => h
      apply Exists.intro
      apply And.intro
      · apply yr_run; rfl; intro w' hw'; go_simp; (try with_reducible rfl)
      simp only [Act.put, List.setIfInBounds_toArray, List.set_cons_zero, List.set_cons_succ]
      apply wpR_next 12 (some 25)
      · simp only [List.getElem?_toArray, List.getElem?_cons_succ, List.getElem?_cons_zero]; exact rfl
      · rfl
      · kernel_rfl
      · kernel_rfl
      · kernel_rfl
      · exact fun _ _ _ _ h => h
      apply Exists.intro
      apply And.intro
      · apply yr_run; rfl; intro w' hw'; go_simp; (try with_reducible rfl)
      simp only [Act.put, List.setIfInBounds_toArray, List.set_cons_zero, List.set_cons_succ]
      apply wpR_next 13 (some 26)
      · simp only [List.getElem?_toArray, List.getElem?_cons_succ, List.getElem?_cons_zero]; exact rfl
      · rfl
      · kernel_rfl
      · kernel_rfl
      · kernel_rfl
      · exact fun _ _ _ _ h => h
      apply Exists.intro
      apply And.intro
      · apply yr_run; rfl; intro w' hw'; go_simp; (try with_reducible rfl)
      simp only [Act.put, List.setIfInBounds_toArray, List.set_cons_zero, List.set_cons_succ]
      apply wpR_next 14 (some 27)
      · simp only [List.getElem?_toArray, List.getElem?_cons_succ, List.getElem?_cons_zero]; exact rfl
      · rfl
      · kernel_rfl
      · kernel_rfl
      · kernel_rfl
      · exact fun _ _ _ _ h => h
      apply Exists.intro
      apply And.intro
      · apply yr_run; rfl; intro w' hw'; go_simp; (try with_reducible rfl)
      simp only [Act.put, List.setIfInBounds_toArray, List.set_cons_zero, List.set_cons_succ]
      apply wpR_run 15 (some 28)
      · simp only [List.getElem?_toArray, List.getElem?_cons_succ, List.getElem?_cons_zero]; exact rfl
      · rfl
      · kernel_rfl
      · rfl
      intro w' hw'
      refine ⟨.slice (some ⟨w'.heap.size, 0, none⟩) 2 2, w'.alloc (.cells #[.int .i64 i1, .int .i64 i2, .int .i64 0, .int .i64 i1, .int .i64 i2, .int .i64 1] 39), exec_buildSlice 40 39 2 #[(0, .tmp 20), (1, .tmp 27)] (by rfl) Try.underlying40 _ (by kernel_rfl), Kept.of_below (below1 _ _), ?_⟩
      have HL : RowKit.Hid (RdS (w'.alloc (.cells #[.int .i64 i1, .int .i64 i2, .int .i64 0, .int .i64 i1, .int .i64 i2, .int .i64 1] 39)) (w'.alloc (.cells #[.int .i64 i1, .int .i64 i2, .int .i64 0, .int .i64 i1, .int .i64 i2, .int .i64 1] 39)).heap.size 3 (some ⟨w'.heap.size, 0, none⟩) 2 2 (dartsV [(i1, i2, 0), (i1, i2, 1)])) := Lib.hid (RdS.of_whole (Whole.new_ _ _ _) rfl)
      have HOe := Lib.hid (HOd.out.up (bel_al hw' (.cells #[.int .i64 i1, .int .i64 i2, .int .i64 0, .int .i64 i1, .int .i64 i2, .int .i64 1] 39)))
      have HXe := Lib.hid ((HXd.out.bl hw').al (.cells #[.int .i64 i1, .int .i64 i2, .int .i64 0, .int .i64 i1, .int .i64 i2, .int .i64 1] 39))
      obtain ⟨W3, gW3⟩ : ∃ z, w'.alloc (.cells #[.int .i64 i1, .int .i64 i2, .int .i64 0, .int .i64 i1, .int .i64 i2, .int .i64 1] 39) = z := ⟨_, rfl⟩
      obtain ⟨g3, gg3⟩ : ∃ z, w'.heap.size = z := ⟨_, rfl⟩
      rw [gW3] at HL HOe HXe ⊢
      rw [gg3] at HL ⊢
      clear hw' gW3 gg3 HOd HXd
      simp only [Act.put, List.setIfInBounds_toArray, List.set_cons_zero, List.set_cons_succ]
      apply wpR_run 16 (some 29)
      · simp only [List.getElem?_toArray, List.getElem?_cons_succ, List.getElem?_cons_zero]; exact rfl
      · rfl
      · kernel_rfl
      · rfl
      intro w' hw'
      obtain ⟨v8, w'', hrun, how8, hb8⟩ := Ow.app (P := Try.prog) 40 40 39 i0 _ 3 24 (b0 + 1) Try.underlying40 hi0 hz0 hz1 hz2 rfl (by decide) _ (2 * i) _ (HOe.out.up hw') _ _ 2 _ _ (HL.out.bl hw') (by simp [dartsV, Value.oneCell']) (by unfold maxLen; omega) (by omega)
      obtain ⟨A8, c8, rfl, -⟩ := how8.rds
      refine ⟨_, w'', exec_append (by rfl) (by rfl) (by rfl) hrun, Kept.of_from hb8, ?_⟩
      have HO9 : RowKit.Hid (Ow w (b0 + 1) 39 3 (.slice A8 (2 * i + 2) c8) (2 * i + 2) (dartsV (dsE (Es.take (i + 1)))) w'') := Lib.hid (by
        rw [HDn.out, dartsV_app]
        exact how8)
      have HX9 := Lib.hid ((Kept.of_from hb8).whole (HXe.out.bl hw') (by unfold From_; omega))
      obtain ⟨W4, gW4⟩ : ∃ z, w'' = z := ⟨_, rfl⟩
      rw [gW4] at HO9 HX9 ⊢
      clear hw' hrun hb8 how8 gW4 HL HOe HXe
      simp only [Act.put, List.setIfInBounds_toArray, List.set_cons_zero, List.set_cons_succ]
      apply wpR_next 17 (some 3)
      · simp only [List.getElem?_toArray, List.getElem?_cons_succ, List.getElem?_cons_zero]; exact rfl
      · rfl
      · kernel_rfl
      · kernel_rfl
      · kernel_rfl
      · exact fun _ _ _ _ h => h
      apply Exists.intro
      apply And.intro
      · apply yr_run; rfl; intro w' hw'; go_simp; (try with_reducible rfl)
      simp only [Act.put, List.setIfInBounds_toArray, List.set_cons_zero, List.set_cons_succ]
      refine wpR_done (by kernel_rfl) ?_ _
      intro W8 hw8
      have HO10 := Lib.hid (HO9.out.up hw8)
      have HX10 := Lib.hid (HX9.out.bl hw8)
      clear hw8 HO9 HX9
      go_wp2
      go_roundw
      case rel => exact ⟨i + 1, A8, c8, by omega, by go_num, by rw [show 2 * (i + 1) = 2 * i + 2 by omega], HX10, by rw [show 2 * (i + 1) = 2 * i + 2 by omega]; exact HO10⟩
      case measure => simp [intOf]; omega
    · obtain rfl : m = i := by omega
      have hO := HO.out
      rw [List.take_of_length_le (by have := Hle.out; omega)] at hO
      have HO2 := Lib.hid hO
      clear hO HO HX
      go_wp2
      go_ret
      exact ⟨A2, c2, rfl, own_base HO2.out.own (by have := Lb0.out; omega), HO2.out.below⟩
end Go.Proofs.Ytpindjknngcccaa
