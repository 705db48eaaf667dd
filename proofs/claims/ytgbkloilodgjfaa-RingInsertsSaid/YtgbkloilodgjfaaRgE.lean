/- Rings changed: the contracts of ring.Remove, Swap. -/
import Derived.Test.YtgbkloilodgjfaaRgD
namespace Go.Proofs.Ytgbkloilodgjfaa
open Go.RowKit
set_option linter.unusedSimpArgs false

set_option maxRecDepth 100000 in
set_option maxHeartbeats 1000000 in
theorem rremove_any (A : Option Addr) (n c : Nat) (L : List D) (d : D) (w : World) (h : RdS w w.heap.size 3 A n c (dartsV L)) (hn : n ≤ 999000) :
    Calls Try.prog 37 #[.slice A n c, .agg #[.int .i64 d.1, .int .i64 d.2.1, .int .i64 d.2.2]] w (GivesR w (turnD (remR L d))) := by
  have HI := Lib.hid (fun W h => rindex_any A n c L d W h (by omega))
  have HT := Lib.hid (fun W g t hg hr => turn_of A n c L W g t hg hr (by omega))
  have H := Lib.hid h
  have hl := h.dlen
  have hb0 : Below w.heap.size w (w.alloc (.cells #[.int .i64 d.1, .int .i64 d.2.1, .int .i64 d.2.2] 46)) := below1 _ _
  have B0 := Lib.hid hb0
  clear h hb0
  by_cases hd : d ∈ L
  · obtain ⟨i1, i2⟩ := idxD_mem hd
    rw [i1] at HI
    have e1 : remR L d = L.take (L.idxOf d) ++ L.drop (L.idxOf d + 1) := by rw [remR, if_pos hd]
    obtain ⟨k, gk⟩ : ∃ v, L.idxOf d = v := ⟨_, rfl⟩
    rw [gk] at HI e1 i2
    have hk : k + 1 ≤ n := by omega
    have E1 := Lib.hid e1
    obtain ⟨k1, gk1⟩ : ∃ v, k + 1 = v := ⟨_, rfl⟩
    have hw1 : IntKind.i64.wrap ((k : Int) + 1) = (k1 : Int) := (IntWalk.i64_in _ (by omega)).trans (by omega)
    rw [gk1] at hk E1
    obtain ⟨X1, hs1, hx1⟩ := sl_h A n c k (by omega) H.out.le
    obtain ⟨X2, hs2, hx2⟩ := sl_l A n c k1 hk H.out.le
    have RX1 := Lib.hid (fun W B => hx1 W B L)
    have RX2 := Lib.hid (fun W B => hx2 W B L)
    have hkk : k ≤ n := by omega
    have GK1 := Lib.hid gk1
    clear hl e1 i1 i2 gk hd gk1 hx1 hx2
    go_enter Try.func37, Try.ntmps37
    go_upto_region 4 with (first
      | (go_at_call 33; refine (HI.out _ (by exact H.out.up B0.out B0.out.size)).mono ?_; rintro e w2 ⟨rfl, hb2⟩; have B2 := Lib.hid (below_after1 hb2); clear hb2))
    have hE : RowKit.Hid (Below w.heap.size w w2.drew) := B2.out.drew
    refine wp_region_reg (Nil_) (by kernel_rfl) ?_
    apply wpR_next 0 (some 14)
    · simp only [List.getElem?_toArray, List.getElem?_cons_succ, List.getElem?_cons_zero]; exact rfl
    · rfl
    · kernel_rfl
    · kernel_rfl
    · kernel_rfl
    · exact fun _ _ _ _ h => h
    apply Exists.intro
    apply And.intro
    · apply yr_run; rfl; intro w' hw'; go_simp; (try with_reducible rfl)
    simp only [Act.put, List.setIfInBounds_toArray, List.set_cons_zero, List.set_cons_succ]
    apply wpR_next 1 (some 15)
    · simp only [List.getElem?_toArray, List.getElem?_cons_succ, List.getElem?_cons_zero]; exact rfl
    · rfl
    · kernel_rfl
    · kernel_rfl
    · kernel_rfl
    · exact fun _ _ _ _ h => h
    apply Exists.intro
    apply And.intro
    · apply yr_run; rfl; intro w' hw'; go_simp; (try with_reducible rfl)
    simp only [Act.put, List.setIfInBounds_toArray, List.set_cons_zero, List.set_cons_succ]
    apply wpR_next 2 (some 16)
    · simp only [List.getElem?_toArray, List.getElem?_cons_succ, List.getElem?_cons_zero]; exact rfl
    · rfl
    · kernel_rfl
    · kernel_rfl
    · kernel_rfl
    · exact fun _ _ _ _ h => h
    apply Exists.intro
    apply And.intro
    · apply yr_run; rfl; intro w' hw'; go_simp; (try with_reducible rfl)
    simp only [Act.put, List.setIfInBounds_toArray, List.set_cons_zero, List.set_cons_succ]
    apply wpR_next 3 (some 17)
    · simp only [List.getElem?_toArray, List.getElem?_cons_succ, List.getElem?_cons_zero]; exact rfl
    · rfl
    · kernel_rfl
    · kernel_rfl
    · kernel_rfl
    · exact fun _ _ _ _ h => h
    apply Exists.intro
    apply And.intro
    · apply yr_run; rfl; intro w' hw'; go_simp; (try with_reducible rfl)
    simp only [Act.put, List.setIfInBounds_toArray, List.set_cons_zero, List.set_cons_succ]
    apply wpR_next 4 (some 18)
    · simp only [List.getElem?_toArray, List.getElem?_cons_succ, List.getElem?_cons_zero]; exact rfl
    · rfl
    · kernel_rfl
    · kernel_rfl
    · kernel_rfl
    · exact fun _ _ _ _ h => h
    apply Exists.intro
    apply And.intro
    · apply yr_run; rfl; intro w' hw'; go_simp; (try with_reducible rfl)
    simp only [Act.put, List.setIfInBounds_toArray, List.set_cons_zero, List.set_cons_succ]
    apply wpR_next 5 (some 19)
    · simp only [List.getElem?_toArray, List.getElem?_cons_succ, List.getElem?_cons_zero]; exact rfl
    · rfl
    · kernel_rfl
    · kernel_rfl
    · kernel_rfl
    · exact fun _ _ _ _ h => h
    apply Exists.intro
    apply And.intro
    · apply yr_run; rfl; intro w' hw'; go_simp; (try with_reducible rfl)
    simp only [Act.put, List.setIfInBounds_toArray, List.set_cons_zero, List.set_cons_succ]
    apply wpR_next 6 (some 20)
    · simp only [List.getElem?_toArray, List.getElem?_cons_succ, List.getElem?_cons_zero]; exact rfl
    · rfl
    · kernel_rfl
    · kernel_rfl
    · kernel_rfl
    · exact fun _ _ _ _ h => h
    apply Exists.intro
    apply And.intro
    · apply yr_run; rfl; intro w' hw'; go_simp; (try with_reducible rfl)
    simp only [Act.put, List.setIfInBounds_toArray, List.set_cons_zero, List.set_cons_succ]
    apply wpR_run 7 (some 21)
    · simp only [List.getElem?_toArray, List.getElem?_cons_succ, List.getElem?_cons_zero]; exact rfl
    · rfl
    · kernel_rfl
    · rfl
    intro w' hw'
    apply Exists.intro
    apply Exists.intro
    apply And.intro
    · go_simp; exact ⟨rfl, rfl⟩
    apply And.intro
    · exact Kept.of_below (below1 _ _)
    obtain ⟨g2, gg2⟩ : ∃ x, w'.heap.size = x := ⟨_, rfl⟩
    obtain ⟨W2, gW2⟩ : ∃ x, w'.alloc (.cells #[.slice X1 k c, .slice X2 (n - k1) (c - k1)] 42) = x := ⟨_, rfl⟩
    have hP2 : RowKit.Hid (Whole W2 g2 42 [.slice X1 k c, .slice X2 (n - k1) (c - k1)]) := (by rw [← gW2, ← gg2]; exact Whole.new_ w' _ [.slice X1 k c, .slice X2 (n - k1) (c - k1)])
    have hE2 : RowKit.Hid (Below w.heap.size w W2) := (by rw [← gW2]; exact (hE.out.trans (hw'.mono hE.out.size)).alloc (Nat.le_trans hE.out.size hw'.size) _)
    rw [gW2, gg2]
    clear gW2 gg2 hw'
    simp only [Act.put, List.setIfInBounds_toArray, List.set_cons_zero, List.set_cons_succ]
    apply wpR_call 8 (some 22)
    · simp only [List.getElem?_toArray, List.getElem?_cons_succ, List.getElem?_cons_zero]; exact rfl
    · rfl
    · kernel_rfl
    · rfl
    · intro w'; go_simp; first | done | exact ⟨rfl, rfl⟩ | with_reducible rfl
    intro w' hw'
    have hE3 := hE2.out.trans (hw'.mono hE2.out.size)
    have r := H.out.up hE3 hE3.size
    refine (turn_parts2 X1 X2 k c (n - k1) (c - k1) g2 _ (L.take k) (L.drop k1) w' (hP2.out.below hw') (RX1.out _ _ r) (RX2.out _ _ r) (by have := GK1.out; omega)).mono ?_
    rintro e w5 ⟨A3, c3, rfl, hr3, hb3⟩
    have HG : RowKit.Hid (∃ A3' c3', Ending.returned (Value.slice A3 (turnD (L.take k ++ L.drop k1)).length c3) = .returned (.slice A3' (turnD (L.take k ++ L.drop k1)).length c3') ∧ RdS w5 w5.heap.size 3 A3' (turnD (L.take k ++ L.drop k1)).length c3' (dartsV (turnD (L.take k ++ L.drop k1))) ∧ Below w.heap.size w w5) := ⟨A3, c3, rfl, hr3, hE3.trans (hb3.mono hE3.size)⟩
    refine ⟨_, rfl, Kept.of_below hb3, ?_⟩
    clear hr3 hb3 hw' hE3 r
    simp only [Act.put, List.setIfInBounds_toArray, List.set_cons_zero, List.set_cons_succ]
    apply wpR_next 9 (some 4)
    · simp only [List.getElem?_toArray, List.getElem?_cons_succ, List.getElem?_cons_zero]; exact rfl
    · rfl
    · kernel_rfl
    · kernel_rfl
    · kernel_rfl
    · exact fun _ _ _ _ h => h
    apply Exists.intro
    apply And.intro
    · apply yr_run; rfl; intro w' hw'; go_simp; (try with_reducible rfl)
    simp only [Act.put, List.setIfInBounds_toArray, List.set_cons_zero, List.set_cons_succ]
    refine wpR_done (by kernel_rfl) ?_ _
    intro w' hw'
    go_wp2
    go_ret
    obtain ⟨A3, c3, hv, hr3, hb3⟩ := HG.out
    rw [E1.out]
    exact ⟨A3, c3, hv, hr3.up hw' hw'.size, hb3.trans (hw'.mono hb3.size)⟩
  · have e1 : remR L d = L := by rw [remR, if_neg hd]
    rw [idxD_no hd] at HI
    have E1 := Lib.hid e1
    clear hl e1 hd
    go_enter Try.func37, Try.ntmps37
    go_wp2_with (first
      | (go_at_call 33; refine (HI.out _ (by exact H.out.up B0.out B0.out.size)).mono ?_; rintro e w2 ⟨rfl, hb2⟩; have B2 := Lib.hid (below_after1 hb2); clear hb2)
      | (go_at_call 50; refine (HT.out _ _ 42 (by exact Whole.new_ _ _ _) (by exact (H.out.up B2.out B2.out.size).up (below1 _ _) (by simp))).mono ?_; rintro e w3 ⟨A2, c2, rfl, hr3, hb3⟩))
    go_ret
    rw [E1.out]
    exact ⟨A2, c2, rfl, hr3, (B2.out.alloc B2.out.size _).trans (hb3.mono (by have := B2.out.size; simp; omega))⟩

set_option maxRecDepth 100000 in
set_option maxHeartbeats 1000000 in
theorem rswap_any (A : Option Addr) (n c : Nat) (L : List D) (a d : D) (w : World) (h : RdS w w.heap.size 3 A n c (dartsV L)) (hn : n ≤ 999000) :
    Calls Try.prog 39 #[.slice A n c, .agg #[.int .i64 a.1, .int .i64 a.2.1, .int .i64 a.2.2], .agg #[.int .i64 d.1, .int .i64 d.2.1, .int .i64 d.2.2]] w (GivesR w (turnD (swpR L a d))) := by
  have HI := Lib.hid (fun x W h => rindex_any A n c L x W h (by omega))
  have HT := Lib.hid (fun W g t hg hr => turn_of A n c L W g t hg hr (by omega))
  have H := Lib.hid h
  have hl := h.dlen
  obtain ⟨W0, gW0⟩ : ∃ x, (w.alloc (.cells #[.int .i64 a.1, .int .i64 a.2.1, .int .i64 a.2.2] 46)).alloc (.cells #[.int .i64 d.1, .int .i64 d.2.1, .int .i64 d.2.2] 46) = x := ⟨_, rfl⟩
  have hb0 : Below w.heap.size w W0 := by rw [← gW0]; exact below2 _ _ _
  have hA0 : Whole W0 w.heap.size 46 (dartsV [a]) := by rw [← gW0]; exact (Whole.new_ w _ (dartsV [a])).alloc _
  have hD0 : Whole W0 (w.heap.size + 1) 46 (dartsV [d]) := by
    rw [← gW0]
    exact Whole.new2 (cs := dartsV [d]) (by simp)
  have B0 := Lib.hid hb0
  have DD := Lib.hid hD0
  have a0 := hA0.cell (i := 0) rfl
  have a1 := hA0.cell (i := 1) rfl
  have a2 := hA0.cell (i := 2) rfl
  have d0 := hD0.cell (i := 0) rfl
  have d1 := hD0.cell (i := 1) rfl
  have d2 := hD0.cell (i := 2) rfl
  have GW := Lib.hid gW0
  have HIa := Lib.hid (HI.out a)
  have HId := Lib.hid (HI.out d)
  have tok : True := trivial
  clear h gW0 hb0 hA0 hD0 HI
  by_cases ha : a ∈ L
  · obtain ⟨i1, i2⟩ := idxD_mem ha
    rw [i1] at HIa
    obtain ⟨k, gk⟩ : ∃ v, L.idxOf a = v := ⟨_, rfl⟩
    rw [gk] at HIa i2
    have hk : k + 1 ≤ n := by omega
    by_cases hd : d ∈ L
    · have e1 : swpR L a d = L := by rw [swpR, if_neg (fun h => h.2 hd)]
      obtain ⟨j1, j2⟩ := idxD_mem hd
      rw [j1] at HId
      obtain ⟨j, gj⟩ : ∃ v, L.idxOf d = v := ⟨_, rfl⟩
      rw [gj] at HId
      have E1 := Lib.hid e1
      clear hl e1 ha hd i1 j1 j2 gk gj
      go_enter Try.func39, Try.ntmps39
      go_upto_region 1 with fail
      rw [GW.out]
      go_wp2_with (first
        | (go_at_call 33; have _t := tok; refine (HIa.out _ (by exact H.out.up B0.out B0.out.size)).mono ?_; rintro e w2 ⟨rfl, hb2⟩; have B2 := Lib.hid (B0.out.trans (hb2.mono B0.out.size)); have D2 := Lib.hid (DD.out.below hb2); have q0 := D2.out.cell (i := 0) rfl; have q1 := D2.out.cell (i := 1) rfl; have q2 := D2.out.cell (i := 2) rfl; clear hb2 tok)
        | (go_at_call 33; refine (HId.out _ (by exact H.out.up B2.out B2.out.size)).mono ?_; rintro e w3 ⟨rfl, hb3⟩; have B3 := Lib.hid (B2.out.trans (hb3.mono B2.out.size)); clear hb3)
        | (go_at_call 50; refine (HT.out _ _ 42 (by exact Whole.new_ _ _ _) (by exact (H.out.up B3.out B3.out.size).up (below1 _ _) (by simp))).mono ?_; rintro e w4 ⟨A2, c2, rfl, hr3, hb4⟩))
      go_ret
      rw [E1.out]
      exact ⟨A2, c2, rfl, hr3, (B3.out.alloc B3.out.size _).trans (hb4.mono (by have := B3.out.size; simp; omega))⟩
    · have e1 : swpR L a d = L.take k ++ d :: L.drop (k + 1) := by rw [swpR, if_pos ⟨ha, hd⟩, gk]
      rw [idxD_no hd] at HId
      have E1 := Lib.hid e1
      obtain ⟨k1, gk1⟩ : ∃ v, k + 1 = v := ⟨_, rfl⟩
      have hw1 : IntKind.i64.wrap ((k : Int) + 1) = (k1 : Int) := (IntWalk.i64_in _ (by omega)).trans (by omega)
      rw [gk1] at hk E1
      obtain ⟨X1, hs1, hx1⟩ := sl_h A n c k (by omega) H.out.le
      obtain ⟨X2, hs2, hx2⟩ := sl_l A n c k1 hk H.out.le
      have RX1 := Lib.hid (fun W B => hx1 W B L)
      have RX2 := Lib.hid (fun W B => hx2 W B L)
      have hkk : k ≤ n := by omega
      have GK1 := Lib.hid gk1
      clear hl e1 i1 i2 gk ha hd gk1 hx1 hx2
      go_enter Try.func39, Try.ntmps39
      go_upto_region 1 with fail
      rw [GW.out]
      go_upto_region 4 with (first
        | (go_at_call 33; have _t := tok; refine (HIa.out _ (by exact H.out.up B0.out B0.out.size)).mono ?_; rintro e w2 ⟨rfl, hb2⟩; have B2 := Lib.hid (B0.out.trans (hb2.mono B0.out.size)); have D2 := Lib.hid (DD.out.below hb2); have q0 := D2.out.cell (i := 0) rfl; have q1 := D2.out.cell (i := 1) rfl; have q2 := D2.out.cell (i := 2) rfl; clear hb2 tok)
        | (go_at_call 33; refine (HId.out _ (by exact H.out.up B2.out B2.out.size)).mono ?_; rintro e w3 ⟨rfl, hb3⟩; have B3 := Lib.hid (B2.out.trans (hb3.mono B2.out.size)); have D3 := Lib.hid (D2.out.below hb3); clear hb3))
      have f0 : ∀ w', Kept Nil_ w3.drew w' → w'.cell? ⟨w.heap.size + 1, 0, none⟩ = some (.int .i64 d.1) := fun w' h => h.nil_cell (D3.out.drew.cell rfl)
      have f1 : ∀ w', Kept Nil_ w3.drew w' → w'.cell? ⟨w.heap.size + 1, 1, none⟩ = some (.int .i64 d.2.1) := fun w' h => h.nil_cell (D3.out.drew.cell rfl)
      have f2 : ∀ w', Kept Nil_ w3.drew w' → w'.cell? ⟨w.heap.size + 1, 2, none⟩ = some (.int .i64 d.2.2) := fun w' h => h.nil_cell (D3.out.drew.cell rfl)
      have hE : RowKit.Hid (Below w.heap.size w w3.drew) := B3.out.drew
      clear q0 q1 q2 d0 d1 d2 a0 a1 a2
      refine wp_region_reg (Nil_) (by kernel_rfl) ?_
      apply wpR_next 0 (some 22)
      · simp only [List.getElem?_toArray, List.getElem?_cons_succ, List.getElem?_cons_zero]; exact rfl
      · rfl
      · kernel_rfl
      · kernel_rfl
      · kernel_rfl
      · exact fun _ _ _ _ h => h
      apply Exists.intro
      apply And.intro
      · apply yr_run; rfl; intro w' hw'; go_simp; (try with_reducible rfl)
      simp only [Act.put, List.setIfInBounds_toArray, List.set_cons_zero, List.set_cons_succ]
      apply wpR_next 1 (some 23)
      · simp only [List.getElem?_toArray, List.getElem?_cons_succ, List.getElem?_cons_zero]; exact rfl
      · rfl
      · kernel_rfl
      · kernel_rfl
      · kernel_rfl
      · exact fun _ _ _ _ h => h
      apply Exists.intro
      apply And.intro
      · apply yr_run; rfl; intro w' hw'; go_simp; (try with_reducible rfl)
      simp only [Act.put, List.setIfInBounds_toArray, List.set_cons_zero, List.set_cons_succ]
      apply wpR_next 2 (some 24)
      · simp only [List.getElem?_toArray, List.getElem?_cons_succ, List.getElem?_cons_zero]; exact rfl
      · rfl
      · kernel_rfl
      · kernel_rfl
      · kernel_rfl
      · exact fun _ _ _ _ h => h
      apply Exists.intro
      apply And.intro
      · apply yr_run; rfl; intro w' hw'; go_simp; (try with_reducible rfl)
      simp only [Act.put, List.setIfInBounds_toArray, List.set_cons_zero, List.set_cons_succ]
      apply wpR_next 3 (some 25)
      · simp only [List.getElem?_toArray, List.getElem?_cons_succ, List.getElem?_cons_zero]; exact rfl
      · rfl
      · kernel_rfl
      · kernel_rfl
      · kernel_rfl
      · exact fun _ _ _ _ h => h
      apply Exists.intro
      apply And.intro
      · apply yr_run; rfl; intro w' hw'; go_simp; (try with_reducible rfl)
      simp only [Act.put, List.setIfInBounds_toArray, List.set_cons_zero, List.set_cons_succ]
      apply wpR_next 5 (some 27)
      · simp only [List.getElem?_toArray, List.getElem?_cons_succ, List.getElem?_cons_zero]; exact rfl
      · rfl
      · kernel_rfl
      · kernel_rfl
      · kernel_rfl
      · exact fun _ _ _ _ h => h
      apply Exists.intro
      apply And.intro
      · apply yr_run; rfl; intro w' hw'; go_simp; (try with_reducible rfl)
      simp only [Act.put, List.setIfInBounds_toArray, List.set_cons_zero, List.set_cons_succ]
      apply wpR_next 6 (some 28)
      · simp only [List.getElem?_toArray, List.getElem?_cons_succ, List.getElem?_cons_zero]; exact rfl
      · rfl
      · kernel_rfl
      · kernel_rfl
      · kernel_rfl
      · exact fun _ _ _ _ h => h
      apply Exists.intro
      apply And.intro
      · apply yr_run; rfl; intro w' hw'; go_simp; (try with_reducible rfl)
      simp only [Act.put, List.setIfInBounds_toArray, List.set_cons_zero, List.set_cons_succ]
      apply wpR_next 7 (some 29)
      · simp only [List.getElem?_toArray, List.getElem?_cons_succ, List.getElem?_cons_zero]; exact rfl
      · rfl
      · kernel_rfl
      · kernel_rfl
      · kernel_rfl
      · exact fun _ _ _ _ h => h
      apply Exists.intro
      apply And.intro
      · apply yr_run; rfl; intro w' hw'; go_simp; (try with_reducible rfl)
      simp only [Act.put, List.setIfInBounds_toArray, List.set_cons_zero, List.set_cons_succ]
      apply wpR_next 8 (some 30)
      · simp only [List.getElem?_toArray, List.getElem?_cons_succ, List.getElem?_cons_zero]; exact rfl
      · rfl
      · kernel_rfl
      · kernel_rfl
      · kernel_rfl
      · exact fun _ _ _ _ h => h
      apply Exists.intro
      apply And.intro
      · apply yr_run; rfl; intro w' hw'; go_simp; (try with_reducible rfl)
      simp only [Act.put, List.setIfInBounds_toArray, List.set_cons_zero, List.set_cons_succ]
      apply wpR_run 4 (some 26)
      · simp only [List.getElem?_toArray, List.getElem?_cons_succ, List.getElem?_cons_zero]; exact rfl
      · rfl
      · kernel_rfl
      · rfl
      intro w' hw'
      apply Exists.intro
      apply Exists.intro
      apply And.intro
      · go_simp; exact ⟨rfl, rfl⟩
      apply And.intro
      · exact Kept.of_below (below1 _ _)
      obtain ⟨g1, gg1⟩ : ∃ x, w'.heap.size = x := ⟨_, rfl⟩
      obtain ⟨W1, gW1⟩ : ∃ x, w'.alloc (.cells #[.int .i64 d.1, .int .i64 d.2.1, .int .i64 d.2.2] 46) = x := ⟨_, rfl⟩
      have hD1 : RowKit.Hid (Whole W1 g1 46 (dartsV [d])) := (by rw [← gW1, ← gg1]; exact Whole.new_ w' _ (dartsV [d]))
      have hE1 : RowKit.Hid (Below w.heap.size w W1) := (by rw [← gW1]; exact (hE.out.trans (hw'.mono hE.out.size)).alloc (Nat.le_trans hE.out.size hw'.size) _)
      rw [gW1, gg1]
      clear gW1 gg1 hw'
      simp only [Act.put, List.setIfInBounds_toArray, List.set_cons_zero, List.set_cons_succ]
      apply wpR_run 9 (some 31)
      · simp only [List.getElem?_toArray, List.getElem?_cons_succ, List.getElem?_cons_zero]; exact rfl
      · rfl
      · kernel_rfl
      · rfl
      intro w' hw'
      apply Exists.intro
      apply Exists.intro
      apply And.intro
      · go_simp; exact ⟨rfl, rfl⟩
      apply And.intro
      · exact Kept.of_below (below1 _ _)
      obtain ⟨g2, gg2⟩ : ∃ x, w'.heap.size = x := ⟨_, rfl⟩
      obtain ⟨W2, gW2⟩ : ∃ x, w'.alloc (.cells #[.slice X1 k c, .slice (some ⟨g1, 0, none⟩) 1 1, .slice X2 (n - k1) (c - k1)] 42) = x := ⟨_, rfl⟩
      have hD2 : RowKit.Hid (Whole W2 g1 46 (dartsV [d])) := (by rw [← gW2]; exact (hD1.out.below hw').alloc _)
      have hP2 : RowKit.Hid (Whole W2 g2 42 [.slice X1 k c, .slice (some ⟨g1, 0, none⟩) 1 1, .slice X2 (n - k1) (c - k1)]) := (by rw [← gW2, ← gg2]; exact Whole.new_ w' _ [.slice X1 k c, .slice (some ⟨g1, 0, none⟩) 1 1, .slice X2 (n - k1) (c - k1)])
      have hE2 : RowKit.Hid (Below w.heap.size w W2) := (by rw [← gW2]; exact (hE1.out.trans (hw'.mono hE1.out.size)).alloc (Nat.le_trans hE1.out.size hw'.size) _)
      rw [gW2, gg2]
      clear gW2 gg2 hw'
      simp only [Act.put, List.setIfInBounds_toArray, List.set_cons_zero, List.set_cons_succ]
      apply wpR_call 10 (some 32)
      · simp only [List.getElem?_toArray, List.getElem?_cons_succ, List.getElem?_cons_zero]; exact rfl
      · rfl
      · kernel_rfl
      · rfl
      · intro w'; go_simp; first | done | exact ⟨rfl, rfl⟩ | with_reducible rfl
      intro w' hw'
      have hE3 := hE2.out.trans (hw'.mono hE2.out.size)
      have r := H.out.up hE3 hE3.size
      refine (turn_parts3 X1 X2 k c (n - k1) (c - k1) g2 g1 _ _ (L.take k) (L.drop k1) d w' (hP2.out.below hw') (hD2.out.below hw') (RX1.out _ _ r) (RX2.out _ _ r) (by have := GK1.out; omega)).mono ?_
      rintro e w5 ⟨A3, c3, rfl, hr3, hb3⟩
      have HG : RowKit.Hid (∃ A3' c3', Ending.returned (Value.slice A3 (turnD (L.take k ++ d :: L.drop k1)).length c3) = .returned (.slice A3' (turnD (L.take k ++ d :: L.drop k1)).length c3') ∧ RdS w5 w5.heap.size 3 A3' (turnD (L.take k ++ d :: L.drop k1)).length c3' (dartsV (turnD (L.take k ++ d :: L.drop k1))) ∧ Below w.heap.size w w5) := ⟨A3, c3, rfl, hr3, hE3.trans (hb3.mono hE3.size)⟩
      refine ⟨_, rfl, Kept.of_below hb3, ?_⟩
      clear hr3 hb3 hw' hE3 r
      simp only [Act.put, List.setIfInBounds_toArray, List.set_cons_zero, List.set_cons_succ]
      apply wpR_next 11 (some 6)
      · simp only [List.getElem?_toArray, List.getElem?_cons_succ, List.getElem?_cons_zero]; exact rfl
      · rfl
      · kernel_rfl
      · kernel_rfl
      · kernel_rfl
      · exact fun _ _ _ _ h => h
      apply Exists.intro
      apply And.intro
      · apply yr_run; rfl; intro w' hw'; go_simp; (try with_reducible rfl)
      simp only [Act.put, List.setIfInBounds_toArray, List.set_cons_zero, List.set_cons_succ]
      refine wpR_done (by kernel_rfl) ?_ _
      intro w' hw'
      go_wp2
      go_ret
      obtain ⟨A3, c3, hv, hr3, hb3⟩ := HG.out
      rw [E1.out]
      exact ⟨A3, c3, hv, hr3.up hw' hw'.size, hb3.trans (hw'.mono hb3.size)⟩
  · have e1 : swpR L a d = L := by rw [swpR, if_neg (fun h => ha h.1)]
    rw [idxD_no ha] at HIa
    have E1 := Lib.hid e1
    clear hl e1 ha
    go_enter Try.func39, Try.ntmps39
    go_upto_region 1 with fail
    rw [GW.out]
    go_wp2_with (first
      | (go_at_call 33; have _t := tok; refine (HIa.out _ (by exact H.out.up B0.out B0.out.size)).mono ?_; rintro e w2 ⟨rfl, hb2⟩; have B2 := Lib.hid (B0.out.trans (hb2.mono B0.out.size)); clear hb2 tok)
      | (go_at_call 50; refine (HT.out _ _ 42 (by exact Whole.new_ _ _ _) (by exact (H.out.up B2.out B2.out.size).up (below1 _ _) (by simp))).mono ?_; rintro e w4 ⟨A2, c2, rfl, hr3, hb4⟩))
    go_ret
    rw [E1.out]
    exact ⟨A2, c2, rfl, hr3, (B2.out.alloc B2.out.size _).trans (hb4.mono (by have := B2.out.size; simp; omega))⟩
end Go.Proofs.Ytgbkloilodgjfaa
