/- The document's rise, IDs, Names. -/
import Derived.Test.YtdhglhcpgmfpoaaDg18
namespace Go.Proofs.Ytdhglhcpgmfpoaa
open Go.RowKit
set_option linter.unusedSimpArgs false
set_option linter.unusedVariables false

set_option maxRecDepth 100000 in
set_option maxHeartbeats 4000000 in
theorem rrise_any (A : Option Addr) (n c : Nat) (L : List (Int × Int)) (w : World) (h : RdS w w.heap.size 2 A n c (rowsV idC L)) (hn : n ≤ 1000000) :
    Calls Try.prog 46 #[.slice A n c] w fun e w' => e = .returned (.bool (riseF none L)) ∧ Below w.heap.size w w' := by
  have H := Lib.hid h
  have Hl := Lib.hid (h.rlen idC_len (by decide))
  obtain ⟨b, gb⟩ : ∃ z, riseF none L = z := ⟨_, rfl⟩
  rw [gb]
  have HG0 := Lib.hid gb
  clear h gb
  go_enter Try.func46, Try.ntmps46
  go_wp2
  go_loopw [3] (fun si wr => ∃ (j : Nat) (o : Option (Int × Int)), j ≤ n ∧ si = .int .i64 j ∧ RowKit.Hid (Below w.heap.size w wr) ∧ RowKit.Hid ((o = none ↔ j = 0) ∧ ∀ y, o = some y → L[j - 1]? = some y) ∧ RowKit.Hid (riseF o (L.drop j) = b)) (fun si _ => n - (intOf si).toNat)
  case atStart => exact ⟨0, none, by omega, rfl, Lib.hid (Below.refl _ _), Lib.hid ⟨by simp, fun y h => (by cases h)⟩, HG0⟩
  case round =>
    clear HG0
    obtain ⟨j, o, hj, rfl, HB, HO, HG⟩ := hrel
    obtain ⟨wo, gwo⟩ : ∃ z, wr = z := ⟨_, rfl⟩
    rw [gwo] at HB ⊢
    clear gwo
    by_cases hjn : j < n
    · obtain ⟨x, hx⟩ : ∃ x, L[j]? = some x := ⟨_, List.getElem?_eq_getElem (by have := Hl.out; omega)⟩
      have hdr : L.drop j = x :: L.drop (j + 1) := by
        rw [List.drop_eq_getElem_cons (List.getElem?_eq_some_iff.1 hx).1, (List.getElem?_eq_some_iff.1 hx).2]
      have hg2 := HG.out
      rw [hdr] at hg2
      have HG2 := Lib.hid hg2
      have HXo : RowKit.Hid ((some x = none ↔ j + 1 = 0) ∧ ∀ y, some x = some y → L[j + 1 - 1]? = some y) := Lib.hid ⟨by simp, fun y e => by rw [← e]; exact hx⟩
      obtain ⟨bb, off, rfl, hbB, hpl⟩ := H.out.place idC_len (by decide) (by omega)
      have HbB := Lib.hid hbB
      have HPL := Lib.hid hpl
      have hbw := HB.out
      have q0 := hpl j _ hx 0 _ rfl
      have q1 := hpl j _ hx 1 _ rfl
      simp only [Addr.add_lit, Nat.add_zero] at q0 q1
      have l0 := (hbw.cell (p := ⟨bb, off + j * 2, none⟩) hbB).trans q0
      have l1 := (hbw.cell (p := ⟨bb, off + j * 2 + 1, none⟩) hbB).trans q1
      clear hbw
      obtain ⟨i1, i2⟩ := x
      have Q := Lib.hid (And.intro q0 q1)
      clear hx hdr hg2 hbB hpl q0 q1 HG
      go_wp2_with fail
      refine (rmay_any i1 i2 _).mono ?_
      rintro e W2 ⟨rfl, hb⟩
      have HB2 := Lib.hid (bel_bl HB.out hb)
      clear hb l0 l1 HB
      obtain ⟨bm, gbm⟩ : ∃ z, mayI i1 i2 = z := ⟨_, rfl⟩
      rw [gbm]
      have Gbm := Lib.hid gbm
      clear gbm
      cases bm with
      | false =>
        have hb0 : b = false := by
          rw [← HG2.out]; simp [riseF, Gbm.out]
        subst hb0
        go_upto_region 5 with fail
        refine wp_region_reg (Nil_) (by kernel_rfl) ?_
        apply wpR_next 0 (some 16)
        · simp only [List.getElem?_toArray, List.getElem?_cons_succ, List.getElem?_cons_zero]; exact rfl
        · rfl
        · kernel_rfl
        · kernel_rfl
        · kernel_rfl
        · exact fun _ _ _ _ h => h
        apply Exists.intro
        apply And.intro
        · apply yr_run; rfl; intro w' hw'; go_simp; (try with_reducible rfl)
        simp only [Act.put, List.setIfInBounds_toArray, List.set_cons_zero, List.set_cons_succ]
        apply wpR_next 1 (some 17)
        · simp only [List.getElem?_toArray, List.getElem?_cons_succ, List.getElem?_cons_zero]; exact rfl
        · rfl
        · kernel_rfl
        · kernel_rfl
        · kernel_rfl
        · exact fun _ _ _ _ h => h
        apply Exists.intro
        apply And.intro
        · apply yr_run; rfl; intro w' hw'; go_simp; (try with_reducible rfl)
        simp only [Act.put, List.setIfInBounds_toArray, List.set_cons_zero, List.set_cons_succ]
        apply wpR_next 2 (some 18)
        · simp only [List.getElem?_toArray, List.getElem?_cons_succ, List.getElem?_cons_zero]; exact rfl
        · rfl
        · kernel_rfl
        · kernel_rfl
        · kernel_rfl
        · exact fun _ _ _ _ h => h
        apply Exists.intro
        apply And.intro
        · apply yr_run; rfl; intro w' hw'; go_simp; (try with_reducible rfl)
        simp only [Act.put, List.setIfInBounds_toArray, List.set_cons_zero, List.set_cons_succ]
        apply wpR_next 3 (some 19)
        · simp only [List.getElem?_toArray, List.getElem?_cons_succ, List.getElem?_cons_zero]; exact rfl
        · rfl
        · kernel_rfl
        · kernel_rfl
        · kernel_rfl
        · exact fun _ _ _ _ h => h
        apply Exists.intro
        apply And.intro
        · exact yr_skip (by rfl)
        simp only [Act.put, List.setIfInBounds_toArray, List.set_cons_zero, List.set_cons_succ]
        apply wpR_next 4 (some 20)
        · simp only [List.getElem?_toArray, List.getElem?_cons_succ, List.getElem?_cons_zero]; exact rfl
        · rfl
        · kernel_rfl
        · kernel_rfl
        · kernel_rfl
        · exact fun _ _ _ _ h => h
        apply Exists.intro
        apply And.intro
        · exact yr_skip (by rfl)
        simp only [Act.put, List.setIfInBounds_toArray, List.set_cons_zero, List.set_cons_succ]
        apply wpR_next 5 (some 21)
        · simp only [List.getElem?_toArray, List.getElem?_cons_succ, List.getElem?_cons_zero]; exact rfl
        · rfl
        · kernel_rfl
        · kernel_rfl
        · kernel_rfl
        · exact fun _ _ _ _ h => h
        apply Exists.intro
        apply And.intro
        · exact yr_skip (by rfl)
        simp only [Act.put, List.setIfInBounds_toArray, List.set_cons_zero, List.set_cons_succ]
        apply wpR_next 6 (some 22)
        · simp only [List.getElem?_toArray, List.getElem?_cons_succ, List.getElem?_cons_zero]; exact rfl
        · rfl
        · kernel_rfl
        · kernel_rfl
        · kernel_rfl
        · exact fun _ _ _ _ h => h
        apply Exists.intro
        apply And.intro
        · exact yr_skip (by rfl)
        simp only [Act.put, List.setIfInBounds_toArray, List.set_cons_zero, List.set_cons_succ]
        apply wpR_next 7 (some 23)
        · simp only [List.getElem?_toArray, List.getElem?_cons_succ, List.getElem?_cons_zero]; exact rfl
        · rfl
        · kernel_rfl
        · kernel_rfl
        · kernel_rfl
        · exact fun _ _ _ _ h => h
        apply Exists.intro
        apply And.intro
        · exact yr_skip (by rfl)
        simp only [Act.put, List.setIfInBounds_toArray, List.set_cons_zero, List.set_cons_succ]
        apply wpR_next 8 (some 24)
        · simp only [List.getElem?_toArray, List.getElem?_cons_succ, List.getElem?_cons_zero]; exact rfl
        · rfl
        · kernel_rfl
        · kernel_rfl
        · kernel_rfl
        · exact fun _ _ _ _ h => h
        apply Exists.intro
        apply And.intro
        · exact yr_skip (by rfl)
        simp only [Act.put, List.setIfInBounds_toArray, List.set_cons_zero, List.set_cons_succ]
        apply wpR_next 9 (some 25)
        · simp only [List.getElem?_toArray, List.getElem?_cons_succ, List.getElem?_cons_zero]; exact rfl
        · rfl
        · kernel_rfl
        · kernel_rfl
        · kernel_rfl
        · exact fun _ _ _ _ h => h
        apply Exists.intro
        apply And.intro
        · exact yr_skip (by rfl)
        simp only [Act.put, List.setIfInBounds_toArray, List.set_cons_zero, List.set_cons_succ]
        apply wpR_next 10 (some 26)
        · simp only [List.getElem?_toArray, List.getElem?_cons_succ, List.getElem?_cons_zero]; exact rfl
        · rfl
        · kernel_rfl
        · kernel_rfl
        · kernel_rfl
        · exact fun _ _ _ _ h => h
        apply Exists.intro
        apply And.intro
        · exact yr_skip (by rfl)
        simp only [Act.put, List.setIfInBounds_toArray, List.set_cons_zero, List.set_cons_succ]
        apply wpR_next 11 (some 27)
        · simp only [List.getElem?_toArray, List.getElem?_cons_succ, List.getElem?_cons_zero]; exact rfl
        · rfl
        · kernel_rfl
        · kernel_rfl
        · kernel_rfl
        · exact fun _ _ _ _ h => h
        apply Exists.intro
        apply And.intro
        · exact yr_skip (by rfl)
        simp only [Act.put, List.setIfInBounds_toArray, List.set_cons_zero, List.set_cons_succ]
        apply wpR_next 12 (some 28)
        · simp only [List.getElem?_toArray, List.getElem?_cons_succ, List.getElem?_cons_zero]; exact rfl
        · rfl
        · kernel_rfl
        · kernel_rfl
        · kernel_rfl
        · exact fun _ _ _ _ h => h
        apply Exists.intro
        apply And.intro
        · exact yr_skip (by rfl)
        simp only [Act.put, List.setIfInBounds_toArray, List.set_cons_zero, List.set_cons_succ]
        apply wpR_next 13 (some 29)
        · simp only [List.getElem?_toArray, List.getElem?_cons_succ, List.getElem?_cons_zero]; exact rfl
        · rfl
        · kernel_rfl
        · kernel_rfl
        · kernel_rfl
        · exact fun _ _ _ _ h => h
        apply Exists.intro
        apply And.intro
        · exact yr_skip (by rfl)
        simp only [Act.put, List.setIfInBounds_toArray, List.set_cons_zero, List.set_cons_succ]
        apply wpR_next 14 (some 30)
        · simp only [List.getElem?_toArray, List.getElem?_cons_succ, List.getElem?_cons_zero]; exact rfl
        · rfl
        · kernel_rfl
        · kernel_rfl
        · kernel_rfl
        · exact fun _ _ _ _ h => h
        apply Exists.intro
        apply And.intro
        · exact yr_skip (by rfl)
        simp only [Act.put, List.setIfInBounds_toArray, List.set_cons_zero, List.set_cons_succ]
        apply wpR_next 15 (some 31)
        · simp only [List.getElem?_toArray, List.getElem?_cons_succ, List.getElem?_cons_zero]; exact rfl
        · rfl
        · kernel_rfl
        · kernel_rfl
        · kernel_rfl
        · exact fun _ _ _ _ h => h
        apply Exists.intro
        apply And.intro
        · exact yr_skip (by rfl)
        simp only [Act.put, List.setIfInBounds_toArray, List.set_cons_zero, List.set_cons_succ]
        apply wpR_next 16 (some 32)
        · simp only [List.getElem?_toArray, List.getElem?_cons_succ, List.getElem?_cons_zero]; exact rfl
        · rfl
        · kernel_rfl
        · kernel_rfl
        · kernel_rfl
        · exact fun _ _ _ _ h => h
        apply Exists.intro
        apply And.intro
        · exact yr_skip (by rfl)
        simp only [Act.put, List.setIfInBounds_toArray, List.set_cons_zero, List.set_cons_succ]
        apply wpR_next 17 (some 33)
        · simp only [List.getElem?_toArray, List.getElem?_cons_succ, List.getElem?_cons_zero]; exact rfl
        · rfl
        · kernel_rfl
        · kernel_rfl
        · kernel_rfl
        · exact fun _ _ _ _ h => h
        apply Exists.intro
        apply And.intro
        · exact yr_skip (by rfl)
        simp only [Act.put, List.setIfInBounds_toArray, List.set_cons_zero, List.set_cons_succ]
        apply wpR_next 18 (some 34)
        · simp only [List.getElem?_toArray, List.getElem?_cons_succ, List.getElem?_cons_zero]; exact rfl
        · rfl
        · kernel_rfl
        · kernel_rfl
        · kernel_rfl
        · exact fun _ _ _ _ h => h
        apply Exists.intro
        apply And.intro
        · apply yr_run; rfl; intro w' hw'; go_simp; (try with_reducible rfl)
        simp only [Act.put, List.setIfInBounds_toArray, List.set_cons_zero, List.set_cons_succ]
        refine wpR_done (by kernel_rfl) ?_ _
        intro W3 hw3
        have HB3 := Lib.hid (bel_bl (bel_dr HB2.out) hw3)
        clear hw3
        go_wp2
        go_ret
        exact ⟨rfl, HB3.out⟩
      | true =>
        rcases Nat.eq_zero_or_pos j with rfl | hj0
        · obtain rfl : o = none := HO.out.1.2 rfl
          have HG3 : RowKit.Hid (riseF (some (i1, i2)) (L.drop (0 + 1)) = b) := Lib.hid (by rw [← HG2.out]; simp [riseF, Gbm.out])
          rw [show ((0 : Nat) : Int) = 0 from rfl]
          go_upto_region 5 with fail
          refine wp_region_reg (Nil_) (by kernel_rfl) ?_
          apply wpR_next 0 (some 16)
          · simp only [List.getElem?_toArray, List.getElem?_cons_succ, List.getElem?_cons_zero]; exact rfl
          · rfl
          · kernel_rfl
          · kernel_rfl
          · kernel_rfl
          · exact fun _ _ _ _ h => h
          apply Exists.intro
          apply And.intro
          · apply yr_run; rfl; intro w' hw'; go_simp; (try with_reducible rfl)
          simp only [Act.put, List.setIfInBounds_toArray, List.set_cons_zero, List.set_cons_succ]
          apply wpR_next 1 (some 17)
          · simp only [List.getElem?_toArray, List.getElem?_cons_succ, List.getElem?_cons_zero]; exact rfl
          · rfl
          · kernel_rfl
          · kernel_rfl
          · kernel_rfl
          · exact fun _ _ _ _ h => h
          apply Exists.intro
          apply And.intro
          · apply yr_run; rfl; intro w' hw'; go_simp; (try with_reducible rfl)
          simp only [Act.put, List.setIfInBounds_toArray, List.set_cons_zero, List.set_cons_succ]
          apply wpR_next 2 (some 18)
          · simp only [List.getElem?_toArray, List.getElem?_cons_succ, List.getElem?_cons_zero]; exact rfl
          · rfl
          · kernel_rfl
          · kernel_rfl
          · kernel_rfl
          · exact fun _ _ _ _ h => h
          apply Exists.intro
          apply And.intro
          · apply yr_run; rfl; intro w' hw'; go_simp; (try with_reducible rfl)
          simp only [Act.put, List.setIfInBounds_toArray, List.set_cons_zero, List.set_cons_succ]
          apply wpR_next 3 (some 19)
          · simp only [List.getElem?_toArray, List.getElem?_cons_succ, List.getElem?_cons_zero]; exact rfl
          · rfl
          · kernel_rfl
          · kernel_rfl
          · kernel_rfl
          · exact fun _ _ _ _ h => h
          apply Exists.intro
          apply And.intro
          · apply yr_run; rfl; intro w' hw'; go_simp; (try with_reducible rfl)
          simp only [Act.put, List.setIfInBounds_toArray, List.set_cons_zero, List.set_cons_succ]
          apply wpR_next 4 (some 20)
          · simp only [List.getElem?_toArray, List.getElem?_cons_succ, List.getElem?_cons_zero]; exact rfl
          · rfl
          · kernel_rfl
          · kernel_rfl
          · kernel_rfl
          · exact fun _ _ _ _ h => h
          apply Exists.intro
          apply And.intro
          · apply yr_run; rfl; intro w' hw'; go_simp; (try with_reducible rfl)
          simp only [Act.put, List.setIfInBounds_toArray, List.set_cons_zero, List.set_cons_succ]
          apply wpR_next 5 (some 21)
          · simp only [List.getElem?_toArray, List.getElem?_cons_succ, List.getElem?_cons_zero]; exact rfl
          · rfl
          · kernel_rfl
          · kernel_rfl
          · kernel_rfl
          · exact fun _ _ _ _ h => h
          apply Exists.intro
          apply And.intro
          · apply yr_run; rfl; intro w' hw'; go_simp; (try with_reducible rfl)
          simp only [Act.put, List.setIfInBounds_toArray, List.set_cons_zero, List.set_cons_succ]
          apply wpR_next 6 (some 22)
          · simp only [List.getElem?_toArray, List.getElem?_cons_succ, List.getElem?_cons_zero]; exact rfl
          · rfl
          · kernel_rfl
          · kernel_rfl
          · kernel_rfl
          · exact fun _ _ _ _ h => h
          apply Exists.intro
          apply And.intro
          · exact yr_skip (by rfl)
          simp only [Act.put, List.setIfInBounds_toArray, List.set_cons_zero, List.set_cons_succ]
          apply wpR_next 7 (some 23)
          · simp only [List.getElem?_toArray, List.getElem?_cons_succ, List.getElem?_cons_zero]; exact rfl
          · rfl
          · kernel_rfl
          · kernel_rfl
          · kernel_rfl
          · exact fun _ _ _ _ h => h
          apply Exists.intro
          apply And.intro
          · exact yr_skip (by rfl)
          simp only [Act.put, List.setIfInBounds_toArray, List.set_cons_zero, List.set_cons_succ]
          apply wpR_next 8 (some 24)
          · simp only [List.getElem?_toArray, List.getElem?_cons_succ, List.getElem?_cons_zero]; exact rfl
          · rfl
          · kernel_rfl
          · kernel_rfl
          · kernel_rfl
          · exact fun _ _ _ _ h => h
          apply Exists.intro
          apply And.intro
          · exact yr_skip (by rfl)
          simp only [Act.put, List.setIfInBounds_toArray, List.set_cons_zero, List.set_cons_succ]
          apply wpR_next 9 (some 25)
          · simp only [List.getElem?_toArray, List.getElem?_cons_succ, List.getElem?_cons_zero]; exact rfl
          · rfl
          · kernel_rfl
          · kernel_rfl
          · kernel_rfl
          · exact fun _ _ _ _ h => h
          apply Exists.intro
          apply And.intro
          · exact yr_skip (by rfl)
          simp only [Act.put, List.setIfInBounds_toArray, List.set_cons_zero, List.set_cons_succ]
          apply wpR_next 10 (some 26)
          · simp only [List.getElem?_toArray, List.getElem?_cons_succ, List.getElem?_cons_zero]; exact rfl
          · rfl
          · kernel_rfl
          · kernel_rfl
          · kernel_rfl
          · exact fun _ _ _ _ h => h
          apply Exists.intro
          apply And.intro
          · exact yr_skip (by rfl)
          simp only [Act.put, List.setIfInBounds_toArray, List.set_cons_zero, List.set_cons_succ]
          apply wpR_next 11 (some 27)
          · simp only [List.getElem?_toArray, List.getElem?_cons_succ, List.getElem?_cons_zero]; exact rfl
          · rfl
          · kernel_rfl
          · kernel_rfl
          · kernel_rfl
          · exact fun _ _ _ _ h => h
          apply Exists.intro
          apply And.intro
          · exact yr_skip (by rfl)
          simp only [Act.put, List.setIfInBounds_toArray, List.set_cons_zero, List.set_cons_succ]
          apply wpR_next 12 (some 28)
          · simp only [List.getElem?_toArray, List.getElem?_cons_succ, List.getElem?_cons_zero]; exact rfl
          · rfl
          · kernel_rfl
          · kernel_rfl
          · kernel_rfl
          · exact fun _ _ _ _ h => h
          apply Exists.intro
          apply And.intro
          · exact yr_skip (by rfl)
          simp only [Act.put, List.setIfInBounds_toArray, List.set_cons_zero, List.set_cons_succ]
          apply wpR_next 13 (some 29)
          · simp only [List.getElem?_toArray, List.getElem?_cons_succ, List.getElem?_cons_zero]; exact rfl
          · rfl
          · kernel_rfl
          · kernel_rfl
          · kernel_rfl
          · exact fun _ _ _ _ h => h
          apply Exists.intro
          apply And.intro
          · exact yr_skip (by rfl)
          simp only [Act.put, List.setIfInBounds_toArray, List.set_cons_zero, List.set_cons_succ]
          apply wpR_next 14 (some 30)
          · simp only [List.getElem?_toArray, List.getElem?_cons_succ, List.getElem?_cons_zero]; exact rfl
          · rfl
          · kernel_rfl
          · kernel_rfl
          · kernel_rfl
          · exact fun _ _ _ _ h => h
          apply Exists.intro
          apply And.intro
          · exact yr_skip (by rfl)
          simp only [Act.put, List.setIfInBounds_toArray, List.set_cons_zero, List.set_cons_succ]
          apply wpR_next 15 (some 31)
          · simp only [List.getElem?_toArray, List.getElem?_cons_succ, List.getElem?_cons_zero]; exact rfl
          · rfl
          · kernel_rfl
          · kernel_rfl
          · kernel_rfl
          · exact fun _ _ _ _ h => h
          apply Exists.intro
          apply And.intro
          · exact yr_skip (by rfl)
          simp only [Act.put, List.setIfInBounds_toArray, List.set_cons_zero, List.set_cons_succ]
          apply wpR_next 16 (some 32)
          · simp only [List.getElem?_toArray, List.getElem?_cons_succ, List.getElem?_cons_zero]; exact rfl
          · rfl
          · kernel_rfl
          · kernel_rfl
          · kernel_rfl
          · exact fun _ _ _ _ h => h
          apply Exists.intro
          apply And.intro
          · exact yr_skip (by rfl)
          simp only [Act.put, List.setIfInBounds_toArray, List.set_cons_zero, List.set_cons_succ]
          apply wpR_next 17 (some 33)
          · simp only [List.getElem?_toArray, List.getElem?_cons_succ, List.getElem?_cons_zero]; exact rfl
          · rfl
          · kernel_rfl
          · kernel_rfl
          · kernel_rfl
          · exact fun _ _ _ _ h => h
          apply Exists.intro
          apply And.intro
          · apply yr_run; rfl; intro w' hw'; go_simp; (try with_reducible rfl)
          simp only [Act.put, List.setIfInBounds_toArray, List.set_cons_zero, List.set_cons_succ]
          apply wpR_next 18 (some 34)
          · simp only [List.getElem?_toArray, List.getElem?_cons_succ, List.getElem?_cons_zero]; exact rfl
          · rfl
          · kernel_rfl
          · kernel_rfl
          · kernel_rfl
          · exact fun _ _ _ _ h => h
          apply Exists.intro
          apply And.intro
          · apply yr_run; rfl; intro w' hw'; go_simp; (try with_reducible rfl)
          simp only [Act.put, List.setIfInBounds_toArray, List.set_cons_zero, List.set_cons_succ]
          refine wpR_done (by kernel_rfl) ?_ _
          intro W3 hw3
          have HB3 := Lib.hid (bel_bl (bel_dr HB2.out) hw3)
          clear hw3 HG2 HO
          go_wp2
          go_roundw
          case rel => exact ⟨0 + 1, some (i1, i2), by omega, by go_num, HB3, HXo, HG3⟩
          case measure => simp [intOf]; omega
        · obtain ⟨y, rfl⟩ : ∃ y, o = some y := by
            cases o with
            | none => have := HO.out.1.1 rfl; omega
            | some y => exact ⟨y, rfl⟩
          have hy := HO.out.2 y rfl
          obtain ⟨j1, rfl⟩ : ∃ j1, j = j1 + 1 := ⟨j - 1, by omega⟩
          rw [Nat.add_sub_cancel] at hy
          obtain ⟨y1, y2⟩ := y
          have p0 := HPL.out j1 _ hy 0 _ rfl
          have p1 := HPL.out j1 _ hy 1 _ rfl
          simp only [Addr.add_lit, Nat.add_zero] at p0 p1
          obtain ⟨jj, gjj⟩ : ∃ z, j1 + 1 = z := ⟨_, rfl⟩
          rw [gjj] at Q HXo HG2 ⊢
          have hsub : IntKind.i64.wrap ((jj : Int) - 1) = (j1 : Int) := by rw [← gjj]; exact (IntWalk.i64_in _ (by omega)).trans (by omega)
          have hj1n : j1 < n := by omega
          have hjj0 : 0 < jj := by omega
          have hjjn : jj < n := by omega
          have hjI : decide ((0 : Int) < (jj : Int)) = true := decide_eq_true (by omega)
          have Gjj := Lib.hid gjj
          clear gjj hj hjn hj0 HO hy
          obtain ⟨ox, gox⟩ : ∃ z, ordI y1 y2 i1 i2 = z := ⟨_, rfl⟩
          have Gox := Lib.hid gox
          have hOr := Lib.hid (fun w' => rorder_any y1 y2 i1 i2 w')
          rw [gox] at hOr
          clear gox
          go_upto_region 5 with fail
          have ldx0 : ∀ w', Kept Nil_ W2.drew w' → w'.cell? ⟨bb, off + jj * 2, none⟩ = some (.int .i64 i1) := fun w' h => h.nil_cell ((HB2.out.drew.cell (p := ⟨bb, off + jj * 2, none⟩) HbB.out).trans Q.out.1)
          have ldx1 : ∀ w', Kept Nil_ W2.drew w' → w'.cell? ⟨bb, off + jj * 2 + 1, none⟩ = some (.int .i64 i2) := fun w' h => h.nil_cell ((HB2.out.drew.cell (p := ⟨bb, off + jj * 2 + 1, none⟩) HbB.out).trans Q.out.2)
          have ldy0 : ∀ w', Kept Nil_ W2.drew w' → w'.cell? ⟨bb, off + j1 * 2, none⟩ = some (.int .i64 y1) := fun w' h => h.nil_cell ((HB2.out.drew.cell (p := ⟨bb, off + j1 * 2, none⟩) HbB.out).trans p0)
          have ldy1 : ∀ w', Kept Nil_ W2.drew w' → w'.cell? ⟨bb, off + j1 * 2 + 1, none⟩ = some (.int .i64 y2) := fun w' h => h.nil_cell ((HB2.out.drew.cell (p := ⟨bb, off + j1 * 2 + 1, none⟩) HbB.out).trans p1)
          clear p0 p1 Q
          refine wp_region_reg (Nil_) (by kernel_rfl) ?_
          apply wpR_next 0 (some 16)
          · simp only [List.getElem?_toArray, List.getElem?_cons_succ, List.getElem?_cons_zero]; exact rfl
          · rfl
          · kernel_rfl
          · kernel_rfl
          · kernel_rfl
          · exact fun _ _ _ _ h => h
          apply Exists.intro
          apply And.intro
          · apply yr_run; rfl; intro w' hw'; go_simp; (try with_reducible rfl)
          simp only [Act.put, List.setIfInBounds_toArray, List.set_cons_zero, List.set_cons_succ]
          apply wpR_next 1 (some 17)
          · simp only [List.getElem?_toArray, List.getElem?_cons_succ, List.getElem?_cons_zero]; exact rfl
          · rfl
          · kernel_rfl
          · kernel_rfl
          · kernel_rfl
          · exact fun _ _ _ _ h => h
          apply Exists.intro
          apply And.intro
          · apply yr_run; rfl; intro w' hw'; go_simp; (try with_reducible rfl)
          simp only [Act.put, List.setIfInBounds_toArray, List.set_cons_zero, List.set_cons_succ]
          apply wpR_next 2 (some 18)
          · simp only [List.getElem?_toArray, List.getElem?_cons_succ, List.getElem?_cons_zero]; exact rfl
          · rfl
          · kernel_rfl
          · kernel_rfl
          · kernel_rfl
          · exact fun _ _ _ _ h => h
          apply Exists.intro
          apply And.intro
          · apply yr_run; rfl; intro w' hw'; go_simp; (try with_reducible rfl)
          simp only [Act.put, List.setIfInBounds_toArray, List.set_cons_zero, List.set_cons_succ]
          apply wpR_next 3 (some 19)
          · simp only [List.getElem?_toArray, List.getElem?_cons_succ, List.getElem?_cons_zero]; exact rfl
          · rfl
          · kernel_rfl
          · kernel_rfl
          · kernel_rfl
          · exact fun _ _ _ _ h => h
          apply Exists.intro
          apply And.intro
          · apply yr_run; rfl; intro w' hw'; go_simp; (try with_reducible rfl)
          simp only [Act.put, List.setIfInBounds_toArray, List.set_cons_zero, List.set_cons_succ]
          apply wpR_next 4 (some 20)
          · simp only [List.getElem?_toArray, List.getElem?_cons_succ, List.getElem?_cons_zero]; exact rfl
          · rfl
          · kernel_rfl
          · kernel_rfl
          · kernel_rfl
          · exact fun _ _ _ _ h => h
          apply Exists.intro
          apply And.intro
          · apply yr_run; rfl; intro w' hw'; go_simp; (try with_reducible rfl)
          simp only [Act.put, List.setIfInBounds_toArray, List.set_cons_zero, List.set_cons_succ]
          apply wpR_next 5 (some 21)
          · simp only [List.getElem?_toArray, List.getElem?_cons_succ, List.getElem?_cons_zero]; exact rfl
          · rfl
          · kernel_rfl
          · kernel_rfl
          · kernel_rfl
          · exact fun _ _ _ _ h => h
          apply Exists.intro
          apply And.intro
          · apply yr_run; rfl; intro w' hw'; go_simp; (try with_reducible rfl)
          simp only [Act.put, List.setIfInBounds_toArray, List.set_cons_zero, List.set_cons_succ]
          apply wpR_next 6 (some 22)
          · simp only [List.getElem?_toArray, List.getElem?_cons_succ, List.getElem?_cons_zero]; exact rfl
          · rfl
          · kernel_rfl
          · kernel_rfl
          · kernel_rfl
          · exact fun _ _ _ _ h => h
          apply Exists.intro
          apply And.intro
          · apply yr_run; rfl; intro w' hw'; go_simp; (try with_reducible rfl)
          simp only [Act.put, List.setIfInBounds_toArray, List.set_cons_zero, List.set_cons_succ]
          apply wpR_next 7 (some 23)
          · simp only [List.getElem?_toArray, List.getElem?_cons_succ, List.getElem?_cons_zero]; exact rfl
          · rfl
          · kernel_rfl
          · kernel_rfl
          · kernel_rfl
          · exact fun _ _ _ _ h => h
          apply Exists.intro
          apply And.intro
          · apply yr_run; rfl; intro w' hw'; go_simp; (try with_reducible rfl)
          simp only [Act.put, List.setIfInBounds_toArray, List.set_cons_zero, List.set_cons_succ]
          apply wpR_next 8 (some 24)
          · simp only [List.getElem?_toArray, List.getElem?_cons_succ, List.getElem?_cons_zero]; exact rfl
          · rfl
          · kernel_rfl
          · kernel_rfl
          · kernel_rfl
          · exact fun _ _ _ _ h => h
          apply Exists.intro
          apply And.intro
          · apply yr_run; rfl; intro w' hw'; go_simp; (try with_reducible rfl)
          simp only [Act.put, List.setIfInBounds_toArray, List.set_cons_zero, List.set_cons_succ]
          apply wpR_next 9 (some 25)
          · simp only [List.getElem?_toArray, List.getElem?_cons_succ, List.getElem?_cons_zero]; exact rfl
          · rfl
          · kernel_rfl
          · kernel_rfl
          · kernel_rfl
          · exact fun _ _ _ _ h => h
          apply Exists.intro
          apply And.intro
          · apply yr_run; rfl; intro w' hw'; go_simp; (try with_reducible rfl)
          simp only [Act.put, List.setIfInBounds_toArray, List.set_cons_zero, List.set_cons_succ]
          apply wpR_next 10 (some 26)
          · simp only [List.getElem?_toArray, List.getElem?_cons_succ, List.getElem?_cons_zero]; exact rfl
          · rfl
          · kernel_rfl
          · kernel_rfl
          · kernel_rfl
          · exact fun _ _ _ _ h => h
          apply Exists.intro
          apply And.intro
          · apply yr_run; rfl; intro w' hw'; go_simp; (try with_reducible rfl)
          simp only [Act.put, List.setIfInBounds_toArray, List.set_cons_zero, List.set_cons_succ]
          apply wpR_next 11 (some 27)
          · simp only [List.getElem?_toArray, List.getElem?_cons_succ, List.getElem?_cons_zero]; exact rfl
          · rfl
          · kernel_rfl
          · kernel_rfl
          · kernel_rfl
          · exact fun _ _ _ _ h => h
          apply Exists.intro
          apply And.intro
          · apply yr_run; rfl; intro w' hw'; go_simp; (try with_reducible rfl)
          simp only [Act.put, List.setIfInBounds_toArray, List.set_cons_zero, List.set_cons_succ]
          apply wpR_next 12 (some 28)
          · simp only [List.getElem?_toArray, List.getElem?_cons_succ, List.getElem?_cons_zero]; exact rfl
          · rfl
          · kernel_rfl
          · kernel_rfl
          · kernel_rfl
          · exact fun _ _ _ _ h => h
          apply Exists.intro
          apply And.intro
          · apply yr_run; rfl; intro w' hw'; go_simp; (try with_reducible rfl)
          simp only [Act.put, List.setIfInBounds_toArray, List.set_cons_zero, List.set_cons_succ]
          apply wpR_next 13 (some 29)
          · simp only [List.getElem?_toArray, List.getElem?_cons_succ, List.getElem?_cons_zero]; exact rfl
          · rfl
          · kernel_rfl
          · kernel_rfl
          · kernel_rfl
          · exact fun _ _ _ _ h => h
          apply Exists.intro
          apply And.intro
          · apply yr_run; rfl; intro w' hw'; go_simp; (try with_reducible rfl)
          simp only [Act.put, List.setIfInBounds_toArray, List.set_cons_zero, List.set_cons_succ]
          apply wpR_next 14 (some 30)
          · simp only [List.getElem?_toArray, List.getElem?_cons_succ, List.getElem?_cons_zero]; exact rfl
          · rfl
          · kernel_rfl
          · kernel_rfl
          · kernel_rfl
          · exact fun _ _ _ _ h => h
          apply Exists.intro
          apply And.intro
          · apply yr_run; rfl; intro w' hw'; go_simp; (try with_reducible rfl)
          simp only [Act.put, List.setIfInBounds_toArray, List.set_cons_zero, List.set_cons_succ]
          apply wpR_next 15 (some 31)
          · simp only [List.getElem?_toArray, List.getElem?_cons_succ, List.getElem?_cons_zero]; exact rfl
          · rfl
          · kernel_rfl
          · kernel_rfl
          · kernel_rfl
          · exact fun _ _ _ _ h => h
          apply Exists.intro
          apply And.intro
          · apply yr_call; rfl; rotate_left; intro w' hw'; exact hOr.out w'; intro w'; go_simp
          simp only [Act.put, List.setIfInBounds_toArray, List.set_cons_zero, List.set_cons_succ]
          apply wpR_next 16 (some 32)
          · simp only [List.getElem?_toArray, List.getElem?_cons_succ, List.getElem?_cons_zero]; exact rfl
          · rfl
          · kernel_rfl
          · kernel_rfl
          · kernel_rfl
          · exact fun _ _ _ _ h => h
          apply Exists.intro
          apply And.intro
          · apply yr_run; rfl; intro w' hw'; go_simp; (try with_reducible rfl)
          simp only [Act.put, List.setIfInBounds_toArray, List.set_cons_zero, List.set_cons_succ]
          apply wpR_next 17 (some 33)
          · simp only [List.getElem?_toArray, List.getElem?_cons_succ, List.getElem?_cons_zero]; exact rfl
          · rfl
          · kernel_rfl
          · kernel_rfl
          · kernel_rfl
          · exact fun _ _ _ _ h => h
          apply Exists.intro
          apply And.intro
          · apply yr_run; rfl; intro w' hw'; go_simp; (try with_reducible rfl)
          simp only [Act.put, List.setIfInBounds_toArray, List.set_cons_zero, List.set_cons_succ]
          apply wpR_next 18 (some 34)
          · simp only [List.getElem?_toArray, List.getElem?_cons_succ, List.getElem?_cons_zero]; exact rfl
          · rfl
          · kernel_rfl
          · kernel_rfl
          · kernel_rfl
          · exact fun _ _ _ _ h => h
          apply Exists.intro
          apply And.intro
          · apply yr_run; rfl; intro w' hw'; go_simp; (try with_reducible rfl)
          simp only [Act.put, List.setIfInBounds_toArray, List.set_cons_zero, List.set_cons_succ]
          refine wpR_done (by kernel_rfl) ?_ _
          intro W3 hw3
          have HB3 := Lib.hid (bel_bl (bel_dr HB2.out) hw3)
          clear hw3 ldx0 ldx1 ldy0 ldy1 hOr hsub
          by_cases hox : 0 ≤ ox
          · have hb0 : b = false := by
              rw [← HG2.out]
              have : ¬ ordI y1 y2 i1 i2 < 0 := by rw [Gox.out]; omega
              simp [riseF, Gbm.out, this]
            subst hb0
            clear HG2
            go_wp2
            go_ret
            exact ⟨rfl, HB3.out⟩
          · have HG3 : RowKit.Hid (riseF (some (i1, i2)) (L.drop (jj + 1)) = b) := Lib.hid (by
              rw [← HG2.out]
              have : ordI y1 y2 i1 i2 < 0 := by rw [Gox.out]; omega
              simp [riseF, Gbm.out, this])
            clear HG2
            go_wp2
            go_roundw
            case rel => exact ⟨jj + 1, some (i1, i2), by omega, by go_num, HB3, HXo, HG3⟩
            case measure => have := Gjj.out; simp [intOf]; omega
    · obtain rfl : n = j := by omega
      have hq : b = true := by
        rw [← HG.out, List.drop_eq_nil_of_le (by have := Hl.out; omega)]
        rfl
      subst hq
      clear HG HO
      go_wp2
      go_ret
      exact ⟨rfl, HB.out⟩
theorem neq_id (x y : Int × Int) (W : World) : (binOp .neq 34 (.agg (idC x).toArray) (.agg (idC y).toArray)).run Try.prog W = .ok (.bool (!decide (x = y))) W := by
  obtain ⟨a1, a2⟩ := x
  obtain ⟨b1, b2⟩ := y
  by_cases h1 : a1 = b1 <;> by_cases h2 : a2 = b2 <;> simp [go_sem, idC, h1, h2]
set_option maxRecDepth 100000 in
set_option maxHeartbeats 4000000 in
theorem rids_any (A : Option Addr) (n c : Nat) (Vs : List (Int × Int)) (A' : Option Addr) (n' c' : Nat) (Ws : List (Int × Int)) (w : World) (h : RdS w w.heap.size 2 A n c (rowsV idC Vs)) (h' : RdS w w.heap.size 2 A' n' c' (rowsV idC Ws))
    (hn : n ≤ 1000000) :
    Calls Try.prog 25 #[.slice A n c, .slice A' n' c'] w fun e w' => e = .returned (.bool (decide (Vs = Ws))) ∧ Below w.heap.size w w' := by
  have Hu := Lib.hid h
  have Hv := Lib.hid h'
  have Hlu := Lib.hid (h.rlen idC_len (by decide))
  have Hlv := Lib.hid (h'.rlen idC_len (by decide))
  obtain ⟨b, gb⟩ : ∃ z, decide (Vs = Ws) = z := ⟨_, rfl⟩
  rw [gb]
  have HG := Lib.hid gb
  clear h h' gb
  by_cases hnn : n = n'
  · subst hnn
    go_enter Try.func25, Try.ntmps25
    go_wp2
    go_loopw [5] (fun si wr => ∃ j : Nat, j ≤ n ∧ si = .int .i64 j ∧ RowKit.Hid (Below w.heap.size w wr) ∧ RowKit.Hid (decide (Vs.drop j = Ws.drop j) = b)) (fun si _ => n - (intOf si).toNat)
    case atStart => exact ⟨0, by omega, rfl, Lib.hid (Below.refl _ _), HG⟩
    case round =>
      clear HG
      obtain ⟨j, hj, rfl, HB, HG⟩ := hrel
      obtain ⟨wo, gwo⟩ : ∃ z, wr = z := ⟨_, rfl⟩
      rw [gwo] at HB ⊢
      clear gwo
      by_cases hjn : j < n
      · obtain ⟨xu, hxu⟩ : ∃ x, Vs[j]? = some x := ⟨_, List.getElem?_eq_getElem (by have := Hlu.out; omega)⟩
        obtain ⟨xv, hxv⟩ : ∃ x, Ws[j]? = some x := ⟨_, List.getElem?_eq_getElem (by have := Hlv.out; omega)⟩
        have hg := HG.out
        rw [List.drop_eq_getElem_cons (List.getElem?_eq_some_iff.1 hxu).1, (List.getElem?_eq_some_iff.1 hxu).2, List.drop_eq_getElem_cons (List.getElem?_eq_some_iff.1 hxv).1, (List.getElem?_eq_some_iff.1 hxv).2] at hg
        simp only [List.cons.injEq] at hg
        have HG2 := Lib.hid hg
        have hne := fun W => neq_id xu xv W
        obtain ⟨bs, gbs⟩ : ∃ z, decide (xu = xv) = z := ⟨_, rfl⟩
        rw [gbs] at hne
        have Gbs := Lib.hid gbs
        obtain ⟨bbu, offu, rfl, hbBu, hplu⟩ := Hu.out.place idC_len (by decide) (by omega)
        obtain ⟨bbv, offv, rfl, hbBv, hplv⟩ := Hv.out.place idC_len (by decide) (by omega)
        have HCu := Lib.hid (cells_at (bel_dr HB.out) hbBu (hplu j xu hxu))
        have HCv := Lib.hid (cells_at (bel_dr HB.out) hbBv (hplv j xv hxv))
        clear hxu hxv hg hplu hplv hbBu hbBv HG gbs
        go_upto_region 6 with fail
        refine wp_region_reg (Nil_) (by kernel_rfl) ?_
        apply wpR_next 0 (some 17)
        · simp only [List.getElem?_toArray, List.getElem?_cons_succ, List.getElem?_cons_zero]; exact rfl
        · rfl
        · kernel_rfl
        · kernel_rfl
        · kernel_rfl
        · exact fun _ _ _ _ h => h
        apply Exists.intro
        apply And.intro
        · apply yr_run; rfl; intro w' hw'; go_simp; (try with_reducible rfl)
        simp only [Act.put, List.setIfInBounds_toArray, List.set_cons_zero, List.set_cons_succ]
        apply wpR_next 1 (some 18)
        · simp only [List.getElem?_toArray, List.getElem?_cons_succ, List.getElem?_cons_zero]; exact rfl
        · rfl
        · kernel_rfl
        · kernel_rfl
        · kernel_rfl
        · exact fun _ _ _ _ h => h
        apply Exists.intro
        apply And.intro
        · apply yr_run; rfl; intro w' hw'; go_simp; (try with_reducible rfl)
        simp only [Act.put, List.setIfInBounds_toArray, List.set_cons_zero, List.set_cons_succ]
        apply wpR_next 2 (some 19)
        · simp only [List.getElem?_toArray, List.getElem?_cons_succ, List.getElem?_cons_zero]; exact rfl
        · rfl
        · kernel_rfl
        · kernel_rfl
        · kernel_rfl
        · exact fun _ _ _ _ h => h
        apply Exists.intro
        apply And.intro
        · apply yr_run; rfl; intro w' hw'; go_simp; (try with_reducible rfl)
        simp only [Act.put, List.setIfInBounds_toArray, List.set_cons_zero, List.set_cons_succ]
        apply wpR_next 3 (some 20)
        · simp only [List.getElem?_toArray, List.getElem?_cons_succ, List.getElem?_cons_zero]; exact rfl
        · rfl
        · kernel_rfl
        · kernel_rfl
        · kernel_rfl
        · exact fun _ _ _ _ h => h
        apply Exists.intro
        apply And.intro
        · exact yr_load_at (by rfl) 34 (.tmp 19) rfl ⟨bbu, offu + j * 2, none⟩ rfl (idC xu) _ HCu.out Try.underlying34 rfl (by kernel_rfl)
        simp only [Act.put, List.setIfInBounds_toArray, List.set_cons_zero, List.set_cons_succ]
        apply wpR_next 4 (some 21)
        · simp only [List.getElem?_toArray, List.getElem?_cons_succ, List.getElem?_cons_zero]; exact rfl
        · rfl
        · kernel_rfl
        · kernel_rfl
        · kernel_rfl
        · exact fun _ _ _ _ h => h
        apply Exists.intro
        apply And.intro
        · apply yr_run; rfl; intro w' hw'; go_simp; (try with_reducible rfl)
        simp only [Act.put, List.setIfInBounds_toArray, List.set_cons_zero, List.set_cons_succ]
        apply wpR_next 5 (some 22)
        · simp only [List.getElem?_toArray, List.getElem?_cons_succ, List.getElem?_cons_zero]; exact rfl
        · rfl
        · kernel_rfl
        · kernel_rfl
        · kernel_rfl
        · exact fun _ _ _ _ h => h
        apply Exists.intro
        apply And.intro
        · apply yr_run; rfl; intro w' hw'; go_simp; (try with_reducible rfl)
        simp only [Act.put, List.setIfInBounds_toArray, List.set_cons_zero, List.set_cons_succ]
        apply wpR_next 6 (some 23)
        · simp only [List.getElem?_toArray, List.getElem?_cons_succ, List.getElem?_cons_zero]; exact rfl
        · rfl
        · kernel_rfl
        · kernel_rfl
        · kernel_rfl
        · exact fun _ _ _ _ h => h
        apply Exists.intro
        apply And.intro
        · apply yr_run; rfl; intro w' hw'; go_simp; (try with_reducible rfl)
        simp only [Act.put, List.setIfInBounds_toArray, List.set_cons_zero, List.set_cons_succ]
        apply wpR_next 7 (some 24)
        · simp only [List.getElem?_toArray, List.getElem?_cons_succ, List.getElem?_cons_zero]; exact rfl
        · rfl
        · kernel_rfl
        · kernel_rfl
        · kernel_rfl
        · exact fun _ _ _ _ h => h
        apply Exists.intro
        apply And.intro
        · exact yr_load_at (by rfl) 34 (.tmp 23) rfl ⟨bbv, offv + j * 2, none⟩ rfl (idC xv) _ HCv.out Try.underlying34 rfl (by kernel_rfl)
        simp only [Act.put, List.setIfInBounds_toArray, List.set_cons_zero, List.set_cons_succ]
        apply wpR_next 8 (some 25)
        · simp only [List.getElem?_toArray, List.getElem?_cons_succ, List.getElem?_cons_zero]; exact rfl
        · rfl
        · kernel_rfl
        · kernel_rfl
        · kernel_rfl
        · exact fun _ _ _ _ h => h
        apply Exists.intro
        apply And.intro
        · exact yr_run (by rfl) (fun w' hw' => exec_binop_agg .neq 34 (.tmp 20) (.tmp 24) 34 rfl rfl rfl (by kernel_rfl) (hne w'))
        simp only [Act.put, List.setIfInBounds_toArray, List.set_cons_zero, List.set_cons_succ]
        refine wpR_done (by kernel_rfl) ?_ _
        intro W3 hw3
        have HB3 : RowKit.Hid (Below w.heap.size w W3) := Lib.hid (bel_bl (bel_dr HB.out) hw3)
        clear hw3 hne HCu HCv
        cases bs with
        | false =>
          have hq : b = false := by
            rw [← HG2.out]
            exact decide_eq_false (fun e => of_decide_eq_false Gbs.out e.1)
          clear HG2
          go_wp2
          go_ret
          exact ⟨by subst hq; rfl, HB3.out⟩
        | true =>
          have HG3 : RowKit.Hid (decide (Vs.drop (j + 1) = Ws.drop (j + 1)) = b) := Lib.hid (by
            rw [← HG2.out, decide_eq_decide]
            exact ⟨fun e => ⟨of_decide_eq_true Gbs.out, e⟩, fun e => e.2⟩)
          clear HG2
          go_wp2
          go_roundw
          case rel => exact ⟨j + 1, by omega, by go_num, HB3, HG3⟩
          case measure => simp [intOf]; omega
      · obtain rfl : n = j := by omega
        have hq : b = true := by
          rw [← HG.out, List.drop_eq_nil_of_le (by have := Hlu.out; omega), List.drop_eq_nil_of_le (by have := Hlv.out; omega)]
          rfl
        clear HG
        go_wp2
        go_ret
        exact ⟨by subst hq; rfl, HB.out⟩
  · have hq : b = false := by
      rw [← HG.out]
      refine decide_eq_false (fun e => hnn ?_)
      have := congrArg List.length e
      have h1 := Hlu.out
      have h2 := Hlv.out
      omega
    have hne : ((n : Int) != (n' : Int)) = true := by simp; omega
    clear HG
    go_enter Try.func25, Try.ntmps25
    go_wp2
    go_ret
    exact ⟨by subst hq; rfl, Below.refl _ _⟩
set_option maxRecDepth 100000 in
set_option maxHeartbeats 4000000 in
theorem rnames_any (A : Option Addr) (n c : Nat) (Vs : List VC) (B : Option Addr) (m k : Nat) (Es : List EC) (w : World) (h : DgIn w A n c Vs B m k Es) (hn : n ≤ 1000000) (hm : m ≤ 1000000) :
    Calls Try.prog 27 #[.agg #[.slice A n c, .slice B m k]] w fun e w' => ∃ A' c', e = .returned (.slice A' (n + m) c') ∧ Ow w (w.heap.size + 1) 34 2 (.slice A' (n + m) c') (n + m) (rowsV idC (Vs.map (·.1) ++ Es.map (·.1))) w' := by
  have HV := Lib.hid h.v
  have HE := Lib.hid h.e
  have Hlv := Lib.hid (h.v.rlen vC_len (by decide))
  have Hle := Lib.hid (h.e.rlen eC_len (by decide))
  obtain ⟨i0, hi, hz0, hz1, hz2⟩ := info_partsD info_idD
  clear h
  go_enter Try.func27, Try.ntmps27
  go_wp2
  have hx0 := (Whole.new_ w 25 [.slice A n c, .slice B m k]).alloc (.cells #[] 34)
  have hbl := below1 w (.cells #[.slice A n c, .slice B m k] 25)
  have hO0 : Ow w (w.heap.size + 1) 34 2 (.slice (some ⟨(w.alloc (.cells #[.slice A n c, .slice B m k] 25)).heap.size, 0, none⟩) 0 0) 0 [] ((w.alloc (.cells #[.slice A n c, .slice B m k] 25)).alloc (.cells #[] 34)) := Ow.new_ (cs := #[]) hbl (by omega) (by simp) (Nat.zero_le _) rfl
  rw [show (w.alloc (.cells #[.slice A n c, .slice B m k] 25)).heap.size = w.heap.size + 1 by simp] at hO0
  obtain ⟨W0, gW0⟩ : ∃ z, (w.alloc (.cells #[.slice A n c, .slice B m k] 25)).alloc (.cells #[] 34) = z := ⟨_, rfl⟩
  rw [gW0] at hx0 hO0
  have HO0 : RowKit.Hid (Ow w (w.heap.size + 1) 34 2 (.slice (some ⟨w.heap.size + 1, 0, none⟩) 0 0) 0 (rowsV idC ([] ++ (Vs.take 0).map (·.1))) W0) := Lib.hid hO0
  obtain ⟨B2, gB2⟩ : ∃ z, w.heap.size + 1 = z := ⟨_, rfl⟩
  obtain ⟨b0, gb0⟩ : ∃ z, w.heap.size = z := ⟨_, rfl⟩
  have h0B : b0 < B2 := by omega
  rw [gB2] at HO0
  rw [gb0] at hx0
  have HX0 := Lib.hid hx0
  have GB2 := Lib.hid gB2
  rw [gW0, gB2, gb0]
  clear hx0 hbl hO0 gW0 gB2 gb0
  go_loopw [3, 4] (fun v si wr => ∃ j : Nat, j ≤ n ∧ si = .int .i64 j ∧ RowKit.Hid (Ow w B2 34 2 v j (rowsV idC ([] ++ (Vs.take j).map (·.1))) wr) ∧ RowKit.Hid (Whole wr b0 25 [.slice A n c, .slice B m k])) (fun _ si _ => n - (intOf si).toNat)
  case atStart => exact ⟨0, by omega, rfl, HO0, HX0⟩
  case round =>
    clear HO0 HX0
    obtain ⟨j, hj, rfl, HO, HX⟩ := hrel
    obtain ⟨wo, gwo⟩ : ∃ z, wr = z := ⟨_, rfl⟩
    rw [gwo] at HO HX ⊢
    clear gwo
    have cb := HX.out.cell (i := 0) rfl
    by_cases hjn : j < n
    · obtain ⟨x, hx⟩ : ∃ x, Vs[j]? = some x := ⟨_, List.getElem?_eq_getElem (by have := Hlv.out; omega)⟩
      obtain ⟨bb, off, rfl, hbB, hpl⟩ := HV.out.place vC_len (by decide) (by omega)
      have hbw := HO.out.below
      have q0 := hpl j _ hx 0 _ rfl
      have q1 := hpl j _ hx 1 _ rfl
      have q2 := hpl j _ hx 2 _ rfl
      have q3 := hpl j _ hx 3 _ rfl
      have q4 := hpl j _ hx 4 _ rfl
      simp only [Addr.add_lit, Nat.add_zero] at q0 q1 q2 q3 q4
      have l0 := (hbw.cell (p := ⟨bb, off + j * 5, none⟩) hbB).trans q0
      have l1 := (hbw.cell (p := ⟨bb, off + j * 5 + 1, none⟩) hbB).trans q1
      have l2 := (hbw.cell (p := ⟨bb, off + j * 5 + 2, none⟩) hbB).trans q2
      have l3 := (hbw.cell (p := ⟨bb, off + j * 5 + 3, none⟩) hbB).trans q3
      have l4 := (hbw.cell (p := ⟨bb, off + j * 5 + 4, none⟩) hbB).trans q4
      have HNx := Lib.hid (names_next (·.1) [] Vs j x hx)
      obtain ⟨⟨i1, i2⟩, ⟨rA, rn, rc, rL⟩, lb, at_⟩ := x
      clear hx hpl q0 q1 q2 q3 q4 hbB hbw
      go_wp2_with (first
        | (at_builtin
           refine wpList_push2 rfl (.tmp 14) (.tmp 21) _ rfl _ 34 i0 _ 2 16 Try.underlying50 hi hz0 hz1 hz2 rfl (by decide) _ _ _ rfl (by exact HO.out.up (below1 _ _)) _ (some ⟨wo.heap.size, 0, none⟩) 1 1 [.int .i64 i1, .int .i64 i2] rfl (by exact RdS.of_whole (Whole.new_ _ _ _) rfl) (by simp [Value.oneCell']) (by unfold maxLen; omega) (by omega) ?_
           intro v1 w1 how1 hb1 hgr
           have HO1 : RowKit.Hid (Ow w B2 34 2 v1 (j + 1) (rowsV idC ([] ++ (Vs.take (j + 1)).map (·.1))) w1) := Lib.hid (by
             have h9 := HNx.out
             rw [← h9]
             exact how1)
           have HX1 : RowKit.Hid (Whole w1 b0 25 [.slice (some ⟨bb, off, none⟩) n c, .slice B m k]) := Lib.hid ((HX.out.alloc _).grown hgr (HO.out.low_ne h0B))
           clear how1 hb1 hgr))
      go_roundw
      case rel => exact ⟨j + 1, by omega, by go_num, HO1, HX1⟩
      case measure => simp [intOf]; omega
    · obtain rfl : n = j := by omega
      have HO2 : RowKit.Hid (Ow w B2 34 2 u3 (n + 0) (rowsV idC (Vs.map (·.1) ++ (Es.take 0).map (·.1))) wo) := Lib.hid (by
        have h9 := HO.out
        rw [List.take_of_length_le (by have := Hlv.out; omega), List.nil_append] at h9
        simpa using h9)
      have c1 := HX.out.cell (i := 1) rfl
      clear HO
      go_wp2
      clear c1
      go_loopw [3, 5] (fun v si wr => ∃ j : Nat, j ≤ m ∧ si = .int .i64 j ∧ RowKit.Hid (Ow w B2 34 2 v (n + j) (rowsV idC (Vs.map (·.1) ++ (Es.take j).map (·.1))) wr) ∧ RowKit.Hid (Whole wr b0 25 [.slice A n c, .slice B m k])) (fun _ si _ => m - (intOf si).toNat)
      case atStart => exact ⟨0, by omega, rfl, HO2, HX⟩
      case round =>
        clear HO2 HX
        obtain ⟨j, hj2, rfl, HO, HX⟩ := hrel
        obtain ⟨wi, gwi⟩ : ∃ z, wr = z := ⟨_, rfl⟩
        rw [gwi] at HO HX ⊢
        clear gwi
        have cb := HX.out.cell (i := 1) rfl
        by_cases hjm : j < m
        · obtain ⟨x, hx⟩ : ∃ x, Es[j]? = some x := ⟨_, List.getElem?_eq_getElem (by have := Hle.out; omega)⟩
          obtain ⟨bb, off, rfl, hbB, hpl⟩ := HE.out.place eC_len (by decide) (by omega)
          have hbw := HO.out.below
          have q0 := hpl j _ hx 0 _ rfl
          have q1 := hpl j _ hx 1 _ rfl
          have q2 := hpl j _ hx 2 _ rfl
          have q3 := hpl j _ hx 3 _ rfl
          simp only [Addr.add_lit, Nat.add_zero] at q0 q1 q2 q3
          have l0 := (hbw.cell (p := ⟨bb, off + j * 4, none⟩) hbB).trans q0
          have l1 := (hbw.cell (p := ⟨bb, off + j * 4 + 1, none⟩) hbB).trans q1
          have l2 := (hbw.cell (p := ⟨bb, off + j * 4 + 2, none⟩) hbB).trans q2
          have l3 := (hbw.cell (p := ⟨bb, off + j * 4 + 3, none⟩) hbB).trans q3
          have HNx := Lib.hid (names_next (·.1) (Vs.map (·.1)) Es j x hx)
          obtain ⟨⟨i1, i2⟩, lb, at_⟩ := x
          clear hx hpl q0 q1 q2 q3 hbB hbw
          go_wp2_with (first
            | (at_builtin
               refine wpList_push2 rfl (.tmp 30) (.tmp 37) _ rfl _ 34 i0 _ 2 16 Try.underlying50 hi hz0 hz1 hz2 rfl (by decide) _ _ _ rfl (by exact HO.out.up (below1 _ _)) _ (some ⟨wi.heap.size, 0, none⟩) 1 1 [.int .i64 i1, .int .i64 i2] rfl (by exact RdS.of_whole (Whole.new_ _ _ _) rfl) (by simp [Value.oneCell']) (by unfold maxLen; omega) (by omega) ?_
               intro v1 w1 how1 hb1 hgr
               have HO1 : RowKit.Hid (Ow w B2 34 2 v1 (n + (j + 1)) (rowsV idC (Vs.map (·.1) ++ (Es.take (j + 1)).map (·.1))) w1) := Lib.hid (by
                 have h9 := HNx.out
                 rw [← h9]
                 exact how1)
               have HX1 : RowKit.Hid (Whole w1 b0 25 [.slice A n c, .slice (some ⟨bb, off, none⟩) m k]) := Lib.hid ((HX.out.alloc _).grown hgr (HO.out.low_ne h0B))
               clear how1 hb1 hgr))
          go_roundw
          case rel => exact ⟨j + 1, by omega, by go_num, HO1, HX1⟩
          case measure => simp [intOf]; omega
        · obtain rfl : m = j := by omega
          have ho := HO.out
          rw [List.take_of_length_le (by have := Hle.out; omega)] at ho
          obtain ⟨A', c', rfl, -⟩ := ho.rds
          have HO3 := Lib.hid ho
          clear HO ho
          go_wp2
          go_ret
          refine ⟨A', c', rfl, ?_⟩
          first | exact HO3.out | (rw [GB2.out]; exact HO3.out)
end Go.Proofs.Ytdhglhcpgmfpoaa
