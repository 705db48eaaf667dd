/- Rings changed: the contracts of ring.Insert, Remove, Swap. -/
import Derived.Test.YtgbkloilodgjfaaRgC
namespace Go.Proofs.Ytgbkloilodgjfaa
open Go.RowKit
set_option linter.unusedSimpArgs false

def insR (L : List D) (a d : D) : List D := if d ∈ L then L else L.take ((max (idxD L a) 0).toNat + 1) ++ d :: L.drop ((max (idxD L a) 0).toNat + 1)
def remR (L : List D) (d : D) : List D := if d ∈ L then L.take (L.idxOf d) ++ L.drop (L.idxOf d + 1) else L
def swpR (L : List D) (o d : D) : List D := if o ∈ L ∧ ¬ d ∈ L then L.take (L.idxOf o) ++ d :: L.drop (L.idxOf o + 1) else L

theorem idxD_bd (L : List D) (d : D) : -1 ≤ idxD L d ∧ idxD L d < L.length + 1 ∧ (0 ≤ idxD L d ↔ d ∈ L) ∧ (0 < L.length → idxD L d < L.length) := by
  by_cases h : d ∈ L
  · obtain ⟨e1, e2⟩ := idxD_mem h
    rw [e1]
    refine ⟨by omega, by omega, ⟨fun _ => h, fun _ => by omega⟩, fun _ => by omega⟩
  · rw [idxD_no h]
    refine ⟨by omega, by omega, ⟨fun h' => absurd h' (by omega), fun h' => absurd h' h⟩, fun _ => by omega⟩

theorem turn_parts3 (A A2 : Option Addr) (n c n2 c2 g g1 : Nat) (t t1 : TypeId) (L L2 : List D) (d : D) (w : World) (hg : Whole w g t [.slice A n c, .slice (some ⟨g1, 0, none⟩) 1 1, .slice A2 n2 c2]) (h1 : Whole w g1 t1 (dartsV [d])) (hr : RdS w w.heap.size 3 A n c (dartsV L)) (hr2 : RdS w w.heap.size 3 A2 n2 c2 (dartsV L2)) (hn : n + n2 ≤ 999999) :
    Calls Try.prog 50 #[.slice (some ⟨g, 0, none⟩) 3 3] w (GivesR w (turnD (L ++ d :: L2))) := by
  have h := turned_any (some ⟨g, 0, none⟩) 3 3 [L, [d], L2] w (parts3 hg hr (RdS.whole3 h1) hr2) (by omega) (by have := hr.dlen; have := hr2.dlen; simp; omega)
  simpa using h
theorem turn_parts2 (A A2 : Option Addr) (n c n2 c2 g : Nat) (t : TypeId) (L L2 : List D) (w : World) (hg : Whole w g t [.slice A n c, .slice A2 n2 c2]) (hr : RdS w w.heap.size 3 A n c (dartsV L)) (hr2 : RdS w w.heap.size 3 A2 n2 c2 (dartsV L2)) (hn : n + n2 ≤ 999999) :
    Calls Try.prog 50 #[.slice (some ⟨g, 0, none⟩) 2 2] w (GivesR w (turnD (L ++ L2))) := by
  have h := turned_any (some ⟨g, 0, none⟩) 2 2 [L, L2] w (parts2 hg hr hr2) (by omega) (by have := hr.dlen; have := hr2.dlen; simp; omega)
  simpa using h

set_option maxRecDepth 100000 in
set_option maxHeartbeats 1000000 in
theorem rinsert_any (A : Option Addr) (n c : Nat) (L : List D) (a d : D) (w : World) (h : RdS w w.heap.size 3 A n c (dartsV L)) (hn : n ≤ 999000) :
    Calls Try.prog 35 #[.slice A n c, .agg #[.int .i64 a.1, .int .i64 a.2.1, .int .i64 a.2.2], .agg #[.int .i64 d.1, .int .i64 d.2.1, .int .i64 d.2.2]] w (GivesR w (turnD (insR L a d))) := by
  have HI := Lib.hid (fun x W h => rindex_any A n c L x W h (by omega))
  have HT := Lib.hid (fun W g t hg hr => turn_of A n c L W g t hg hr (by omega))
  have H := Lib.hid h
  have hl := h.dlen
  obtain ⟨W0, gW0⟩ : ∃ x, (w.alloc (.cells #[.int .i64 a.1, .int .i64 a.2.1, .int .i64 a.2.2] 46)).alloc (.cells #[.int .i64 d.1, .int .i64 d.2.1, .int .i64 d.2.2] 46) = x := ⟨_, rfl⟩
  have hb0 : Below w.heap.size w W0 := by rw [← gW0]; exact below2 _ _ _
  have hA0 : Whole W0 w.heap.size 46 (dartsV [a]) := by rw [← gW0]; exact (Whole.new_ w _ (dartsV [a])).alloc _
  have hD0 : Whole W0 (w.heap.size + 1) 46 (dartsV [d]) := by
    rw [← gW0]
    have := Whole.new_ (w.alloc (.cells #[.int .i64 a.1, .int .i64 a.2.1, .int .i64 a.2.2] 46)) 46 (dartsV [d])
    simpa [dartsV] using this
  have B0 := Lib.hid hb0
  have AA := Lib.hid hA0
  have DD := Lib.hid hD0
  have a0 := hA0.cell (i := 0) rfl
  have a1 := hA0.cell (i := 1) rfl
  have a2 := hA0.cell (i := 2) rfl
  have d0 := hD0.cell (i := 0) rfl
  have d1 := hD0.cell (i := 1) rfl
  have d2 := hD0.cell (i := 2) rfl
  have GW := Lib.hid gW0
  clear h gW0 hb0 hA0 hD0
  by_cases h0 : n = 0
  · subst h0
    have hL : L = [] := List.eq_nil_of_length_eq_zero hl
    subst hL
    have HT1 := Lib.hid (fun (W : World) (g : Nat) (t : TypeId) (g1 : Nat) (t1 : TypeId) (hg : Whole W g t [.slice (some ⟨g1, 0, none⟩) 1 1]) (h1 : Whole W g1 t1 (dartsV [d])) => turn_of (some ⟨g1, 0, none⟩) 1 1 [d] W g t hg (RdS.whole3 h1) (by omega))
    clear hl
    go_enter Try.func35, Try.ntmps35
    go_wp2_with (first
      | (go_at_call 50; refine (HT1.out _ _ 42 _ 46 (by exact Whole.new2 (by simp)) (by exact (Whole.new2 (cs := dartsV [d]) (by simp)).alloc _)).mono ?_; rintro e w2 ⟨A2, c2, rfl, hr2, hb2⟩))
    go_ret
    have e1 : insR [] a d = [d] := by simp [insR]
    rw [e1]
    exact ⟨A2, c2, rfl, hr2, (((below2 _ _ _).alloc (by simp <;> omega) _).alloc (by simp <;> omega) _).trans (hb2.mono (by simp; omega))⟩
  · by_cases hd : d ∈ L
    · have e1 : insR L a d = L := by rw [insR, if_pos hd]
      obtain ⟨i1, i2⟩ := idxD_mem hd
      have HI1 := Lib.hid (HI.out d)
      rw [i1] at HI1
      obtain ⟨k, gk⟩ : ∃ v, L.idxOf d = v := ⟨_, rfl⟩
      rw [gk] at HI1
      have E1 := Lib.hid e1
      have hn0 : ((n : Int) == 0) = false := by simpa using h0
      clear hl e1 i1 i2 gk hd h0
      go_enter Try.func35, Try.ntmps35
      go_upto_region 1 with fail
      rw [GW.out]
      go_wp2_with (first
        | (go_at_call 33; refine (HI1.out _ (by exact H.out.up B0.out B0.out.size)).mono ?_; rintro e w2 ⟨rfl, hb2⟩; have B2 := Lib.hid (B0.out.trans (hb2.mono B0.out.size)); clear hb2)
        | (go_at_call 50; refine (HT.out _ _ 42 (by exact Whole.new_ _ _ _) (by exact (H.out.up B2.out B2.out.size).up (below1 _ _) (by simp))).mono ?_; rintro e w3 ⟨A2, c2, rfl, hr3, hb3⟩))
      go_ret
      rw [E1.out]
      exact ⟨A2, c2, rfl, hr3, (B2.out.alloc B2.out.size _).trans (hb3.mono (by have := B2.out.size; simp; omega))⟩
    · have e1 : insR L a d = L.take ((max (idxD L a) 0).toNat + 1) ++ d :: L.drop ((max (idxD L a) 0).toNat + 1) := by rw [insR, if_neg hd]
      have HI1 := Lib.hid (HI.out d)
      rw [idxD_no hd] at HI1
      have HI2 := Lib.hid (HI.out a)
      obtain ⟨i1, i2, i3, i4⟩ := idxD_bd L a
      obtain ⟨k, gk⟩ : ∃ v, idxD L a = v := ⟨_, rfl⟩
      rw [gk] at HI2 e1 i1 i2 i4
      have hkk : ∃ j : Nat, max k 0 = (j : Int) ∧ j + 1 ≤ n := ⟨(max k 0).toNat, by omega, by omega⟩
      obtain ⟨j, hj, hj2⟩ := hkk
      rw [hj, Int.toNat_natCast] at e1
      obtain ⟨j1, gj1⟩ : ∃ v, j + 1 = v := ⟨_, rfl⟩
      rw [gj1] at e1 hj2
      have hj3 : (j : Int) + 1 = (j1 : Int) := by omega
      have E1 := Lib.hid e1
      have hn0 : ((n : Int) == 0) = false := by simpa using h0
      obtain ⟨X1, hs1, hx1⟩ := sl_h A n c j1 hj2 H.out.le
      obtain ⟨X2, hs2, hx2⟩ := sl_l A n c j1 hj2 H.out.le
      have RX1 := Lib.hid (fun W B => hx1 W B L)
      have RX2 := Lib.hid (fun W B => hx2 W B L)
      have HJ := Lib.hid hj
      have HJ3 := Lib.hid hj3
      have GJ1 := Lib.hid gj1
      have HKJ : RowKit.Hid (0 ≤ k → k = j) := fun h => by have := HJ.out; omega
      have HK0 : RowKit.Hid (¬ 0 ≤ k → (0 : Int) = j) := fun h => by have := HJ.out; omega
      have tok : True := trivial
      have hkb : k ≤ 1000000 := by omega
      clear hl e1 i2 i3 i4 gk hd hj hj3 gj1 hx1 hx2 h0
      go_enter Try.func35, Try.ntmps35
      go_upto_region 1 with fail
      rw [GW.out]
      go_upto_region 5 with (first
        | (go_at_call 33; have _t := tok; refine (HI1.out _ (by exact H.out.up B0.out B0.out.size)).mono ?_; rintro e w2 ⟨rfl, hb2⟩; have B2 := Lib.hid (B0.out.trans (hb2.mono B0.out.size)); have A2 := Lib.hid (AA.out.below hb2); have D2 := Lib.hid (DD.out.below hb2); have q0 := A2.out.cell (i := 0) rfl; have q1 := A2.out.cell (i := 1) rfl; have q2 := A2.out.cell (i := 2) rfl; clear hb2 tok))
      go_cut [7] (fun v x => v = .int .i64 (j1 : Int) ∧ Below w.heap.size w x ∧ Whole x (w.heap.size + 1) 46 (dartsV [d]))
      case first =>
        by_cases hk0 : 0 ≤ k
        · have e := HKJ.out hk0
          have hk1 : k + 1 = j1 := by have := HJ3.out; omega
          have HK1 := Lib.hid hk1
          clear hk1 e
          go_wp2_with (first
            | (go_at_call 33; refine (HI2.out _ (by exact H.out.up B2.out B2.out.size)).mono ?_; rintro e w3 ⟨rfl, hb3⟩; have B3 := Lib.hid (B2.out.trans (hb3.mono B2.out.size)); have D3 := Lib.hid (D2.out.below hb3); clear hb3))
          go_meet
          exact ⟨by rw [HK1.out], B3.out, D3.out⟩
        · have e := HK0.out (by omega)
          have hk1 : (1 : Int) = j1 := by have := HJ3.out; omega
          have HK1 := Lib.hid hk1
          clear hk1 e
          go_wp2_with (first
            | (go_at_call 33; refine (HI2.out _ (by exact H.out.up B2.out B2.out.size)).mono ?_; rintro e w3 ⟨rfl, hb3⟩; have B3 := Lib.hid (B2.out.trans (hb3.mono B2.out.size)); have D3 := Lib.hid (D2.out.below hb3); clear hb3))
          go_meet
          exact ⟨by rw [HK1.out], B3.out, D3.out⟩
      case rest =>
      obtain ⟨rfl, hbc, hdc⟩ := hcut
      have BC := Lib.hid hbc
      have DC := Lib.hid hdc
      clear hbc hdc a0 a1 a2 d0 d1 d2 q0 q1 q2
      go_upto_region 6 with fail
      have f0 : ∀ w', Kept Nil_ wc.drew w' → w'.cell? ⟨w.heap.size + 1, 0, none⟩ = some (.int .i64 d.1) := fun w' h => h.nil_cell (DC.out.drew.cell rfl)
      have f1 : ∀ w', Kept Nil_ wc.drew w' → w'.cell? ⟨w.heap.size + 1, 1, none⟩ = some (.int .i64 d.2.1) := fun w' h => h.nil_cell (DC.out.drew.cell rfl)
      have f2 : ∀ w', Kept Nil_ wc.drew w' → w'.cell? ⟨w.heap.size + 1, 2, none⟩ = some (.int .i64 d.2.2) := fun w' h => h.nil_cell (DC.out.drew.cell rfl)
      have hE : RowKit.Hid (Below w.heap.size w wc.drew) := BC.out.drew
      refine wp_region_reg (Nil_) (by kernel_rfl) ?_
      apply wpR_next 0 (some 27)
      · simp only [List.getElem?_toArray, List.getElem?_cons_succ, List.getElem?_cons_zero]; exact rfl
      · rfl
      · kernel_rfl
      · kernel_rfl
      · kernel_rfl
      · exact fun _ _ _ _ h => h
      apply Exists.intro
      apply And.intro
      · apply yr_run; rfl; intro w' hw'; go_simp; (try with_reducible rfl)
      simp only [Act.put, List.setIfInBounds_toArray, List.set_cons_zero, List.set_cons_succ]
      apply wpR_next 1 (some 28)
      · simp only [List.getElem?_toArray, List.getElem?_cons_succ, List.getElem?_cons_zero]; exact rfl
      · rfl
      · kernel_rfl
      · kernel_rfl
      · kernel_rfl
      · exact fun _ _ _ _ h => h
      apply Exists.intro
      apply And.intro
      · apply yr_run; rfl; intro w' hw'; go_simp; (try with_reducible rfl)
      simp only [Act.put, List.setIfInBounds_toArray, List.set_cons_zero, List.set_cons_succ]
      apply wpR_next 2 (some 29)
      · simp only [List.getElem?_toArray, List.getElem?_cons_succ, List.getElem?_cons_zero]; exact rfl
      · rfl
      · kernel_rfl
      · kernel_rfl
      · kernel_rfl
      · exact fun _ _ _ _ h => h
      apply Exists.intro
      apply And.intro
      · apply yr_run; rfl; intro w' hw'; go_simp; (try with_reducible rfl)
      simp only [Act.put, List.setIfInBounds_toArray, List.set_cons_zero, List.set_cons_succ]
      apply wpR_next 3 (some 30)
      · simp only [List.getElem?_toArray, List.getElem?_cons_succ, List.getElem?_cons_zero]; exact rfl
      · rfl
      · kernel_rfl
      · kernel_rfl
      · kernel_rfl
      · exact fun _ _ _ _ h => h
      apply Exists.intro
      apply And.intro
      · apply yr_run; rfl; intro w' hw'; go_simp; (try with_reducible rfl)
      simp only [Act.put, List.setIfInBounds_toArray, List.set_cons_zero, List.set_cons_succ]
      apply wpR_next 5 (some 32)
      · simp only [List.getElem?_toArray, List.getElem?_cons_succ, List.getElem?_cons_zero]; exact rfl
      · rfl
      · kernel_rfl
      · kernel_rfl
      · kernel_rfl
      · exact fun _ _ _ _ h => h
      apply Exists.intro
      apply And.intro
      · apply yr_run; rfl; intro w' hw'; go_simp; (try with_reducible rfl)
      simp only [Act.put, List.setIfInBounds_toArray, List.set_cons_zero, List.set_cons_succ]
      apply wpR_next 6 (some 33)
      · simp only [List.getElem?_toArray, List.getElem?_cons_succ, List.getElem?_cons_zero]; exact rfl
      · rfl
      · kernel_rfl
      · kernel_rfl
      · kernel_rfl
      · exact fun _ _ _ _ h => h
      apply Exists.intro
      apply And.intro
      · apply yr_run; rfl; intro w' hw'; go_simp; (try with_reducible rfl)
      simp only [Act.put, List.setIfInBounds_toArray, List.set_cons_zero, List.set_cons_succ]
      apply wpR_next 7 (some 34)
      · simp only [List.getElem?_toArray, List.getElem?_cons_succ, List.getElem?_cons_zero]; exact rfl
      · rfl
      · kernel_rfl
      · kernel_rfl
      · kernel_rfl
      · exact fun _ _ _ _ h => h
      apply Exists.intro
      apply And.intro
      · apply yr_run; rfl; intro w' hw'; go_simp; (try with_reducible rfl)
      simp only [Act.put, List.setIfInBounds_toArray, List.set_cons_zero, List.set_cons_succ]
      apply wpR_run 4 (some 31)
      · simp only [List.getElem?_toArray, List.getElem?_cons_succ, List.getElem?_cons_zero]; exact rfl
      · rfl
      · kernel_rfl
      · rfl
      intro w' hw'
      apply Exists.intro
      apply Exists.intro
      apply And.intro
      · go_simp; exact ⟨rfl, rfl⟩
      apply And.intro
      · exact Kept.of_below (below1 _ _)
      obtain ⟨g1, gg1⟩ : ∃ x, w'.heap.size = x := ⟨_, rfl⟩
      obtain ⟨W1, gW1⟩ : ∃ x, w'.alloc (.cells #[.int .i64 d.1, .int .i64 d.2.1, .int .i64 d.2.2] 46) = x := ⟨_, rfl⟩
      have hD1 : RowKit.Hid (Whole W1 g1 46 (dartsV [d])) := (by rw [← gW1, ← gg1]; exact Whole.new_ w' _ (dartsV [d]))
      have hE1 : RowKit.Hid (Below w.heap.size w W1) := (by rw [← gW1]; exact (hE.out.trans (hw'.mono hE.out.size)).alloc (Nat.le_trans hE.out.size hw'.size) _)
      rw [gW1, gg1]
      clear gW1 gg1 hw'
      simp only [Act.put, List.setIfInBounds_toArray, List.set_cons_zero, List.set_cons_succ]
      apply wpR_run 8 (some 35)
      · simp only [List.getElem?_toArray, List.getElem?_cons_succ, List.getElem?_cons_zero]; exact rfl
      · rfl
      · kernel_rfl
      · rfl
      intro w' hw'
      apply Exists.intro
      apply Exists.intro
      apply And.intro
      · go_simp; exact ⟨rfl, rfl⟩
      apply And.intro
      · exact Kept.of_below (below1 _ _)
      obtain ⟨g2, gg2⟩ : ∃ x, w'.heap.size = x := ⟨_, rfl⟩
      obtain ⟨W2, gW2⟩ : ∃ x, w'.alloc (.cells #[.slice X1 j1 c, .slice (some ⟨g1, 0, none⟩) 1 1, .slice X2 (n - j1) (c - j1)] 42) = x := ⟨_, rfl⟩
      have hD2 : RowKit.Hid (Whole W2 g1 46 (dartsV [d])) := (by rw [← gW2]; exact (hD1.out.below hw').alloc _)
      have hP2 : RowKit.Hid (Whole W2 g2 42 [.slice X1 j1 c, .slice (some ⟨g1, 0, none⟩) 1 1, .slice X2 (n - j1) (c - j1)]) := (by rw [← gW2, ← gg2]; exact Whole.new_ w' _ [.slice X1 j1 c, .slice (some ⟨g1, 0, none⟩) 1 1, .slice X2 (n - j1) (c - j1)])
      have hE2 : RowKit.Hid (Below w.heap.size w W2) := (by rw [← gW2]; exact (hE1.out.trans (hw'.mono hE1.out.size)).alloc (Nat.le_trans hE1.out.size hw'.size) _)
      rw [gW2, gg2]
      clear gW2 gg2 hw'
      simp only [Act.put, List.setIfInBounds_toArray, List.set_cons_zero, List.set_cons_succ]
      apply wpR_call 9 (some 36)
      · simp only [List.getElem?_toArray, List.getElem?_cons_succ, List.getElem?_cons_zero]; exact rfl
      · rfl
      · kernel_rfl
      · rfl
      · intro w'; go_simp; first | done | exact ⟨rfl, rfl⟩ | with_reducible rfl
      intro w' hw'
      have hE3 := hE2.out.trans (hw'.mono hE2.out.size)
      have r := H.out.up hE3 hE3.size
      refine (turn_parts3 X1 X2 j1 c (n - j1) (c - j1) g2 g1 _ _ (L.take j1) (L.drop j1) d w' (hP2.out.below hw') (hD2.out.below hw') (RX1.out _ _ r) (RX2.out _ _ r) (by omega)).mono ?_
      rintro e w5 ⟨A3, c3, rfl, hr3, hb3⟩
      have HG : RowKit.Hid (∃ A3' c3', Ending.returned (Value.slice A3 (turnD (L.take j1 ++ d :: L.drop j1)).length c3) = .returned (.slice A3' (turnD (L.take j1 ++ d :: L.drop j1)).length c3') ∧ RdS w5 w5.heap.size 3 A3' (turnD (L.take j1 ++ d :: L.drop j1)).length c3' (dartsV (turnD (L.take j1 ++ d :: L.drop j1))) ∧ Below w.heap.size w w5) := ⟨A3, c3, rfl, hr3, hE3.trans (hb3.mono hE3.size)⟩
      refine ⟨_, rfl, Kept.of_below hb3, ?_⟩
      clear hr3 hb3 hw' hE3 r
      simp only [Act.put, List.setIfInBounds_toArray, List.set_cons_zero, List.set_cons_succ]
      apply wpR_next 10 (some 6)
      · simp only [List.getElem?_toArray, List.getElem?_cons_succ, List.getElem?_cons_zero]; exact rfl
      · rfl
      · kernel_rfl
      · kernel_rfl
      · kernel_rfl
      · exact fun _ _ _ _ h => h
      apply Exists.intro
      apply And.intro
      · apply yr_run; rfl; intro w' hw'; go_simp; (try with_reducible rfl)
      simp only [Act.put, List.setIfInBounds_toArray, List.set_cons_zero, List.set_cons_succ]
      refine wpR_done (by kernel_rfl) ?_ _
      intro w' hw'
      go_wp2
      go_ret
      obtain ⟨A3, c3, hv, hr3, hb3⟩ := HG.out
      rw [E1.out]
      exact ⟨A3, c3, hv, hr3.up hw' hw'.size, hb3.trans (hw'.mono hb3.size)⟩
end Go.Proofs.Ytgbkloilodgjfaa
