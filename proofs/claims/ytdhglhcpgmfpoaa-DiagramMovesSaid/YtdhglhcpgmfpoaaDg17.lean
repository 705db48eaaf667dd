/- The document's MayAttr, Vertex, Edge, At, times. -/
import Derived.Test.YtdhglhcpgmfpoaaDg15
import Derived.Test.YtdhglhcpgmfpoaaRgFt
namespace Go.Proofs.Ytdhglhcpgmfpoaa
open Go.RowKit
set_option linter.unusedSimpArgs false
set_option linter.unusedVariables false

set_option maxRecDepth 100000 in
theorem rmayattr_any (n : Int) : Pure 17 #[.int .i64 n] (.bool (mayA n)) := fun w => by
  unfold mayA
  by_cases h1 : -1099511627776 ≤ n
  · by_cases h2 : n ≤ 1099511627776
    · rw [decide_eq_true ⟨h1, h2⟩]
      go_enter Try.func17, Try.ntmps17
      go_wp2
      go_ret
      exact ⟨rfl, Below.refl _ _⟩
    · rw [decide_eq_false (fun h => h2 h.2)]
      go_enter Try.func17, Try.ntmps17
      go_wp2
      go_ret
      exact ⟨rfl, Below.refl _ _⟩
  · rw [decide_eq_false (fun h => h1 h.1)]
    go_enter Try.func17, Try.ntmps17
    go_wp2
    go_ret
    exact ⟨rfl, Below.refl _ _⟩
set_option maxRecDepth 100000 in
set_option maxHeartbeats 4000000 in
theorem rfindV (A : Option Addr) (n c : Nat) (Vs : List VC) (B : Option Addr) (m k : Nat) (Es : List EC) (x1 x2 : Int) (w : World) (h : RdS w w.heap.size 5 A n c (rowsV vC Vs)) (hn : n ≤ 1000000) :
    Calls Try.prog 19 #[.agg #[.slice A n c, .slice B m k], .agg #[.int .i64 x1, .int .i64 x2]] w fun e w' => e = .returned (.tuple #[.agg (vC (fndV Vs (x1, x2)).1).toArray, .bool (fndV Vs (x1, x2)).2]) ∧ Below w.heap.size w w' := by
  have H := Lib.hid h
  have Hl := Lib.hid (h.rlen vC_len (by decide))
  obtain ⟨⟨r, ok⟩, gr⟩ : ∃ z, fndV Vs (x1, x2) = z := ⟨_, rfl⟩
  rw [gr]
  have HG := Lib.hid gr
  clear h gr
  go_enter Try.func19, Try.ntmps19
  go_wp2
  have hx0 : Whole (((w.alloc (.cells #[.slice A n c, .slice B m k] 25)).alloc (.cells #[.int .i64 x1, .int .i64 x2] 34)).alloc (.cells #[.int .i64 0, .int .i64 0, .slice none 0 0, .string { data := #[] }, .int .i64 0] 39)) (w.heap.size) 25 [.slice A n c, .slice B m k] := (((Whole.new_ w 25 [.slice A n c, .slice B m k]).alloc (.cells #[.int .i64 x1, .int .i64 x2] 34)).alloc (.cells #[.int .i64 0, .int .i64 0, .slice none 0 0, .string { data := #[] }, .int .i64 0] 39))
  have hx1 : Whole (((w.alloc (.cells #[.slice A n c, .slice B m k] 25)).alloc (.cells #[.int .i64 x1, .int .i64 x2] 34)).alloc (.cells #[.int .i64 0, .int .i64 0, .slice none 0 0, .string { data := #[] }, .int .i64 0] 39)) (w.heap.size + 1) 34 [.int .i64 x1, .int .i64 x2] := ((Whole.new2 (w := (w.alloc (.cells #[.slice A n c, .slice B m k] 25))) (by simp)).alloc (.cells #[.int .i64 0, .int .i64 0, .slice none 0 0, .string { data := #[] }, .int .i64 0] 39))
  have hx2 : Whole (((w.alloc (.cells #[.slice A n c, .slice B m k] 25)).alloc (.cells #[.int .i64 x1, .int .i64 x2] 34)).alloc (.cells #[.int .i64 0, .int .i64 0, .slice none 0 0, .string { data := #[] }, .int .i64 0] 39)) (w.heap.size + 1 + 1) 39 [.int .i64 0, .int .i64 0, .slice none 0 0, .string { data := #[] }, .int .i64 0] := (Whole.new2 (w := ((w.alloc (.cells #[.slice A n c, .slice B m k] 25)).alloc (.cells #[.int .i64 x1, .int .i64 x2] 34))) (by simp))
  have hbl : Below w.heap.size w (((w.alloc (.cells #[.slice A n c, .slice B m k] 25)).alloc (.cells #[.int .i64 x1, .int .i64 x2] 34)).alloc (.cells #[.int .i64 0, .int .i64 0, .slice none 0 0, .string { data := #[] }, .int .i64 0] 39)) := (bel_al (bel_al (below1 w (.cells #[.slice A n c, .slice B m k] 25)) (.cells #[.int .i64 x1, .int .i64 x2] 34)) (.cells #[.int .i64 0, .int .i64 0, .slice none 0 0, .string { data := #[] }, .int .i64 0] 39))
  have hsz : w.heap.size + 1 + 1 + 1 ≤ ((((w.alloc (.cells #[.slice A n c, .slice B m k] 25)).alloc (.cells #[.int .i64 x1, .int .i64 x2] 34)).alloc (.cells #[.int .i64 0, .int .i64 0, .slice none 0 0, .string { data := #[] }, .int .i64 0] 39))).heap.size := by simp
  obtain ⟨W0, gW0⟩ : ∃ z, (((w.alloc (.cells #[.slice A n c, .slice B m k] 25)).alloc (.cells #[.int .i64 x1, .int .i64 x2] 34)).alloc (.cells #[.int .i64 0, .int .i64 0, .slice none 0 0, .string { data := #[] }, .int .i64 0] 39)) = z := ⟨_, rfl⟩
  rw [gW0] at hx0 hx1 hx2 hbl hsz
  obtain ⟨b2, gb2⟩ : ∃ z, w.heap.size + 1 + 1 = z := ⟨_, rfl⟩
  rw [gb2] at hx2
  obtain ⟨b1, gb1⟩ : ∃ z, w.heap.size + 1 = z := ⟨_, rfl⟩
  rw [gb1] at hx1
  obtain ⟨b0, gb0⟩ : ∃ z, w.heap.size = z := ⟨_, rfl⟩
  rw [gb0] at hx0
  have HX0 := Lib.hid hx0
  have HX1 := Lib.hid hx1
  have HX2 := Lib.hid hx2
  have HB0 := Lib.hid hbl
  have HS0 := Lib.hid hsz
  have Gb0 := Lib.hid gb0
  have Lb0 : RowKit.Hid (w.heap.size ≤ b0) := Lib.hid (by omega)
  have Gb1 := Lib.hid gb1
  have Lb1 : RowKit.Hid (w.heap.size ≤ b1) := Lib.hid (by omega)
  have Gb2 := Lib.hid gb2
  have Lb2 : RowKit.Hid (w.heap.size ≤ b2) := Lib.hid (by omega)
  have N01 : RowKit.Hid (b0 ≠ b1) := Lib.hid (by omega)
  have N02 : RowKit.Hid (b0 ≠ b2) := Lib.hid (by omega)
  have N12 : RowKit.Hid (b1 ≠ b2) := Lib.hid (by omega)
  rw [gW0, gb2, gb1, gb0]
  clear gW0 hbl hsz hx0 hx1 hx2 gb0 gb1 gb2
  go_loopw [6] (fun si wr => ∃ j : Nat, j ≤ n ∧ si = .int .i64 j ∧ RowKit.Hid (Below w.heap.size w wr) ∧ RowKit.Hid (Whole wr b0 25 [.slice A n c, .slice B m k]) ∧ RowKit.Hid (Whole wr b1 34 [.int .i64 x1, .int .i64 x2]) ∧ RowKit.Hid (Whole wr b2 39 [.int .i64 0, .int .i64 0, .slice none 0 0, .string { data := #[] }, .int .i64 0]) ∧ RowKit.Hid (fndV (Vs.drop j) (x1, x2) = (r, ok))) (fun si _ => n - (intOf si).toNat)
  case atStart => exact ⟨0, by omega, rfl, HB0, HX0, HX1, HX2, HG⟩
  case round =>
    clear HB0 HX0 HX1 HX2 HG
    obtain ⟨j, hj, rfl, HB, HX0, HX1, HX2, HG⟩ := hrel
    obtain ⟨wo, gwo⟩ : ∃ z, wr = z := ⟨_, rfl⟩
    rw [gwo] at HB HX0 HX1 HX2 ⊢
    clear gwo
    by_cases hjn : j < n
    · obtain ⟨x, hx⟩ : ∃ x, Vs[j]? = some x := ⟨_, List.getElem?_eq_getElem (by have := Hl.out; omega)⟩
      have hdr : Vs.drop j = x :: Vs.drop (j + 1) := by
        rw [List.drop_eq_getElem_cons (List.getElem?_eq_some_iff.1 hx).1, (List.getElem?_eq_some_iff.1 hx).2]
      have hg2 := HG.out
      rw [hdr] at hg2
      have HG2 := Lib.hid hg2
      obtain ⟨bb, off, rfl, hbB, hpl⟩ := H.out.place vC_len (by decide) (by omega)
      have Hbo : RowKit.Hid (bb < wo.heap.size) := Lib.hid (Nat.lt_of_lt_of_le hbB HB.out.size)
      have hbw := HB.out
      have q0 := hpl j _ hx 0 _ rfl
      have q1 := hpl j _ hx 1 _ rfl
      have q2 := hpl j _ hx 2 _ rfl
      have q3 := hpl j _ hx 3 _ rfl
      have q4 := hpl j _ hx 4 _ rfl
      simp only [Addr.add_lit, Nat.add_zero] at q0 q1 q2 q3 q4
      have l0 := (hbw.cell (p := ⟨bb, off + j * 5, none⟩) hbB).trans q0
      have l1 := (hbw.cell (p := ⟨bb, off + j * 5 + 1, none⟩) hbB).trans q1
      have l2 := (hbw.cell (p := ⟨bb, off + j * 5 + 2, none⟩) hbB).trans q2
      have l3 := (hbw.cell (p := ⟨bb, off + j * 5 + 3, none⟩) hbB).trans q3
      have l4 := (hbw.cell (p := ⟨bb, off + j * 5 + 4, none⟩) hbB).trans q4
      clear hbw q0 q1 q2 q3 q4
      obtain ⟨⟨i1, i2⟩, ⟨rA, rn, rc, rL⟩, lb, at_⟩ := x
      have HE := Lib.hid (And.intro l0 (And.intro l1 (And.intro l2 (And.intro l3 l4))))
      have cb := HX0.out.cell (i := 0) rfl
      clear hx hdr hg2 hpl hbB HG
      have ldl0 := l0
      go_upto_region 4 with fail
      clear cb ldl0
      have ldb : ∀ w', Kept Nil_ wo.drew w' → w'.cell? ⟨b0, 0, none⟩ = some (.slice (some ⟨bb, off, none⟩) n c) := fun w' h => h.nil_cell (HX0.out.dr.cell (i := 0) rfl)
      have ldx : ∀ w', Kept Nil_ wo.drew w' → w'.cell? ⟨b1, 0, none⟩ = some (.int .i64 x1) := fun w' h => h.nil_cell (HX1.out.dr.cell (i := 0) rfl)
      have ldy : ∀ w', Kept Nil_ wo.drew w' → w'.cell? ⟨b1, 1, none⟩ = some (.int .i64 x2) := fun w' h => h.nil_cell (HX1.out.dr.cell (i := 1) rfl)
      have lde : ∀ w', Kept Nil_ wo.drew w' → w'.cell? ⟨bb, off + j * 5, none⟩ = some (.int .i64 i1) := fun w' h => h.nil_cell (l0)
      have ldf : ∀ w', Kept Nil_ wo.drew w' → w'.cell? ⟨bb, off + j * 5 + 1, none⟩ = some (.int .i64 i2) := fun w' h => h.nil_cell (l1)
      clear l0 l1 l2 l3 l4
      have heq := fun W => eq_id i1 i2 x1 x2 W
      obtain ⟨bq, gbq⟩ : ∃ z, (i1 == x1 && i2 == x2) = z := ⟨_, rfl⟩
      rw [gbq] at heq
      have Gbq := Lib.hid gbq
      clear gbq
      refine wp_region_reg (Nil_) (by kernel_rfl) ?_
      apply wpR_next 0 (some 14)
      · simp only [List.getElem?_toArray, List.getElem?_cons_succ, List.getElem?_cons_zero]; exact rfl
      · rfl
      · kernel_rfl
      · kernel_rfl
      · kernel_rfl
      · exact fun _ _ _ _ h => h
      apply Exists.intro
      apply And.intro
      · apply yr_run; rfl; intro w' hw'; go_simp; (try with_reducible rfl)
      simp only [Act.put, List.setIfInBounds_toArray, List.set_cons_zero, List.set_cons_succ]
      apply wpR_next 1 (some 15)
      · simp only [List.getElem?_toArray, List.getElem?_cons_succ, List.getElem?_cons_zero]; exact rfl
      · rfl
      · kernel_rfl
      · kernel_rfl
      · kernel_rfl
      · exact fun _ _ _ _ h => h
      apply Exists.intro
      apply And.intro
      · apply yr_run; rfl; intro w' hw'; go_simp; (try with_reducible rfl)
      simp only [Act.put, List.setIfInBounds_toArray, List.set_cons_zero, List.set_cons_succ]
      apply wpR_next 2 (some 16)
      · simp only [List.getElem?_toArray, List.getElem?_cons_succ, List.getElem?_cons_zero]; exact rfl
      · rfl
      · kernel_rfl
      · kernel_rfl
      · kernel_rfl
      · exact fun _ _ _ _ h => h
      apply Exists.intro
      apply And.intro
      · apply yr_run; rfl; intro w' hw'; go_simp; (try with_reducible rfl)
      simp only [Act.put, List.setIfInBounds_toArray, List.set_cons_zero, List.set_cons_succ]
      apply wpR_next 3 (some 17)
      · simp only [List.getElem?_toArray, List.getElem?_cons_succ, List.getElem?_cons_zero]; exact rfl
      · rfl
      · kernel_rfl
      · kernel_rfl
      · kernel_rfl
      · exact fun _ _ _ _ h => h
      apply Exists.intro
      apply And.intro
      · apply yr_run; rfl; intro w' hw'; go_simp; (try with_reducible rfl)
      simp only [Act.put, List.setIfInBounds_toArray, List.set_cons_zero, List.set_cons_succ]
      apply wpR_next 4 (some 18)
      · simp only [List.getElem?_toArray, List.getElem?_cons_succ, List.getElem?_cons_zero]; exact rfl
      · rfl
      · kernel_rfl
      · kernel_rfl
      · kernel_rfl
      · exact fun _ _ _ _ h => h
      apply Exists.intro
      apply And.intro
      · apply yr_run; rfl; intro w' hw'; go_simp; (try with_reducible rfl)
      simp only [Act.put, List.setIfInBounds_toArray, List.set_cons_zero, List.set_cons_succ]
      apply wpR_next 5 (some 19)
      · simp only [List.getElem?_toArray, List.getElem?_cons_succ, List.getElem?_cons_zero]; exact rfl
      · rfl
      · kernel_rfl
      · kernel_rfl
      · kernel_rfl
      · exact fun _ _ _ _ h => h
      apply Exists.intro
      apply And.intro
      · apply yr_run; rfl; intro w' hw'; go_simp; (try with_reducible rfl)
      simp only [Act.put, List.setIfInBounds_toArray, List.set_cons_zero, List.set_cons_succ]
      apply wpR_next 6 (some 20)
      · simp only [List.getElem?_toArray, List.getElem?_cons_succ, List.getElem?_cons_zero]; exact rfl
      · rfl
      · kernel_rfl
      · kernel_rfl
      · kernel_rfl
      · exact fun _ _ _ _ h => h
      apply Exists.intro
      apply And.intro
      · apply yr_run; rfl; intro w' hw'; go_simp; (try with_reducible rfl)
      simp only [Act.put, List.setIfInBounds_toArray, List.set_cons_zero, List.set_cons_succ]
      apply wpR_next 7 (some 21)
      · simp only [List.getElem?_toArray, List.getElem?_cons_succ, List.getElem?_cons_zero]; exact rfl
      · rfl
      · kernel_rfl
      · kernel_rfl
      · kernel_rfl
      · exact fun _ _ _ _ h => h
      apply Exists.intro
      apply And.intro
      · apply yr_run; rfl; intro w' hw'; go_simp; (try with_reducible rfl)
      simp only [Act.put, List.setIfInBounds_toArray, List.set_cons_zero, List.set_cons_succ]
      refine wpR_done (by kernel_rfl) ?_ _
      intro W3 hw3
      have HX03 := Lib.hid (HX0.out.dr.bl hw3)
      have HX13 := Lib.hid (HX1.out.dr.bl hw3)
      have HX23 := Lib.hid (HX2.out.dr.bl hw3)
      have HE3 : RowKit.Hid (Below wo.heap.size wo W3) := Lib.hid (bel_bl (bel_dr (Below.refl _ _)) hw3)
      have HB3 := Lib.hid (bel_bl HB.out HE3.out)
      clear hw3 ldb ldx ldy lde ldf HB HX0 HX1 HX2 heq
      cases bq with
      | true =>
        have hq := Gbq.out
        rw [Bool.and_eq_true, beq_iff_eq, beq_iff_eq] at hq
        have hg := HG2.out
        rw [fndV, fnd_yes _ _ _ _ _ (by rw [hq.1, hq.2])] at hg
        injection hg with hg1 hg2
        subst hg1 hg2
        obtain ⟨l0, l1, l2, l3, l4⟩ := HE.out
        have hB3 := HE3.out
        have hbo := Hbo.out
        have cb := HX03.out.cell (i := 0) rfl
        have f0 := HX23.out.free 0
        have k0 := HX23.out.cell (i := 0) rfl
        have y0 := (hB3.cell (p := ⟨bb, off + j * 5, none⟩) hbo).trans l0
        have f1 := HX23.out.free 1
        have k1 := HX23.out.cell (i := 1) rfl
        have y1 := (hB3.cell (p := ⟨bb, off + j * 5 + 1, none⟩) hbo).trans l1
        have f2 := HX23.out.free 2
        have k2 := HX23.out.cell (i := 2) rfl
        have y2 := (hB3.cell (p := ⟨bb, off + j * 5 + 2, none⟩) hbo).trans l2
        have f3 := HX23.out.free 3
        have k3 := HX23.out.cell (i := 3) rfl
        have y3 := (hB3.cell (p := ⟨bb, off + j * 5 + 3, none⟩) hbo).trans l3
        have f4 := HX23.out.free 4
        have k4 := HX23.out.cell (i := 4) rfl
        have y4 := (hB3.cell (p := ⟨bb, off + j * 5 + 4, none⟩) hbo).trans l4
        have HY := Lib.hid (((((HX23.out.set_ 0 (.int .i64 i1)).set_ 1 (.int .i64 i2)).set_ 2 (.slice rA rn rc)).set_ 3 (.string lb)).set_ 4 (.int .i64 at_))
        have HBf := Lib.hid (((((HB3.out.setCell (p := ⟨b2, 0, none⟩) Lb2.out (.int .i64 i1)).setCell (p := ⟨b2, 1, none⟩) Lb2.out (.int .i64 i2)).setCell (p := ⟨b2, 2, none⟩) Lb2.out (.slice rA rn rc)).setCell (p := ⟨b2, 3, none⟩) Lb2.out (.string lb)).setCell (p := ⟨b2, 4, none⟩) Lb2.out (.int .i64 at_))
        clear HX23 HG2 HB3 hq l0 l1 l2 l3 l4 HE hB3 HE3
        go_wp2
        exact ret_whole2 rfl b2 rfl rfl HY.out Try.underlying39 rfl (by kernel_rfl) rfl ⟨rfl, HBf.out⟩
      | false =>
        have hg := HG2.out
        rw [fndV, fnd_no _ _ _ _ _ (fun e => by
          have e1 : i1 = x1 := congrArg Prod.fst e
          have e2 : i2 = x2 := congrArg Prod.snd e
          have := Gbq.out
          rw [e1, e2] at this
          simp at this)] at hg
        have HG4 := Lib.hid hg
        clear hg HG2 HE HE3
        go_wp2
        go_roundw
        case rel => exact ⟨j + 1, by omega, by go_num, HB3, HX03, HX13, HX23, HG4⟩
        case measure => simp [intOf]; omega
    · obtain rfl : n = j := by omega
      have hg := HG.out
      rw [List.drop_eq_nil_of_le (by have := Hl.out; omega)] at hg
      replace hg : (zV, false) = (r, ok) := hg
      injection hg with hg1 hg2
      subst hg1 hg2
      have cb := HX0.out.cell (i := 0) rfl
      have f0 := HX2.out.free 0
      have k0 := HX2.out.cell (i := 0) rfl
      have f1 := HX2.out.free 1
      have k1 := HX2.out.cell (i := 1) rfl
      have f2 := HX2.out.free 2
      have k2 := HX2.out.cell (i := 2) rfl
      have f3 := HX2.out.free 3
      have k3 := HX2.out.cell (i := 3) rfl
      have f4 := HX2.out.free 4
      have k4 := HX2.out.cell (i := 4) rfl
      have HY := Lib.hid (((((HX2.out.set_ 0 (.int .i64 0)).set_ 1 (.int .i64 0)).set_ 2 (.slice none 0 0)).set_ 3 (.string { data := #[] })).set_ 4 (.int .i64 0))
      have HBf := Lib.hid (((((HB.out.setCell (p := ⟨b2, 0, none⟩) Lb2.out (.int .i64 0)).setCell (p := ⟨b2, 1, none⟩) Lb2.out (.int .i64 0)).setCell (p := ⟨b2, 2, none⟩) Lb2.out (.slice none 0 0)).setCell (p := ⟨b2, 3, none⟩) Lb2.out (.string { data := #[] })).setCell (p := ⟨b2, 4, none⟩) Lb2.out (.int .i64 0))
      clear HG HX2
      go_wp2
      exact ret_whole2 rfl b2 rfl rfl HY.out Try.underlying39 rfl (by kernel_rfl) rfl ⟨rfl, HBf.out⟩
set_option maxRecDepth 100000 in
set_option maxHeartbeats 4000000 in
theorem rfindE (A : Option Addr) (n c : Nat) (Vs : List VC) (B : Option Addr) (m k : Nat) (Es : List EC) (x1 x2 : Int) (w : World) (h : RdS w w.heap.size 4 B m k (rowsV eC Es)) (hn : m ≤ 1000000) :
    Calls Try.prog 21 #[.agg #[.slice A n c, .slice B m k], .agg #[.int .i64 x1, .int .i64 x2]] w fun e w' => e = .returned (.tuple #[.agg (eC (fndE Es (x1, x2)).1).toArray, .bool (fndE Es (x1, x2)).2]) ∧ Below w.heap.size w w' := by
  have H := Lib.hid h
  have Hl := Lib.hid (h.rlen eC_len (by decide))
  obtain ⟨⟨r, ok⟩, gr⟩ : ∃ z, fndE Es (x1, x2) = z := ⟨_, rfl⟩
  rw [gr]
  have HG := Lib.hid gr
  clear h gr
  go_enter Try.func21, Try.ntmps21
  go_wp2
  have hx0 : Whole (((w.alloc (.cells #[.slice A n c, .slice B m k] 25)).alloc (.cells #[.int .i64 x1, .int .i64 x2] 34)).alloc (.cells #[.int .i64 0, .int .i64 0, .string { data := #[] }, .int .i64 0] 43)) (w.heap.size) 25 [.slice A n c, .slice B m k] := (((Whole.new_ w 25 [.slice A n c, .slice B m k]).alloc (.cells #[.int .i64 x1, .int .i64 x2] 34)).alloc (.cells #[.int .i64 0, .int .i64 0, .string { data := #[] }, .int .i64 0] 43))
  have hx1 : Whole (((w.alloc (.cells #[.slice A n c, .slice B m k] 25)).alloc (.cells #[.int .i64 x1, .int .i64 x2] 34)).alloc (.cells #[.int .i64 0, .int .i64 0, .string { data := #[] }, .int .i64 0] 43)) (w.heap.size + 1) 34 [.int .i64 x1, .int .i64 x2] := ((Whole.new2 (w := (w.alloc (.cells #[.slice A n c, .slice B m k] 25))) (by simp)).alloc (.cells #[.int .i64 0, .int .i64 0, .string { data := #[] }, .int .i64 0] 43))
  have hx2 : Whole (((w.alloc (.cells #[.slice A n c, .slice B m k] 25)).alloc (.cells #[.int .i64 x1, .int .i64 x2] 34)).alloc (.cells #[.int .i64 0, .int .i64 0, .string { data := #[] }, .int .i64 0] 43)) (w.heap.size + 1 + 1) 43 [.int .i64 0, .int .i64 0, .string { data := #[] }, .int .i64 0] := (Whole.new2 (w := ((w.alloc (.cells #[.slice A n c, .slice B m k] 25)).alloc (.cells #[.int .i64 x1, .int .i64 x2] 34))) (by simp))
  have hbl : Below w.heap.size w (((w.alloc (.cells #[.slice A n c, .slice B m k] 25)).alloc (.cells #[.int .i64 x1, .int .i64 x2] 34)).alloc (.cells #[.int .i64 0, .int .i64 0, .string { data := #[] }, .int .i64 0] 43)) := (bel_al (bel_al (below1 w (.cells #[.slice A n c, .slice B m k] 25)) (.cells #[.int .i64 x1, .int .i64 x2] 34)) (.cells #[.int .i64 0, .int .i64 0, .string { data := #[] }, .int .i64 0] 43))
  have hsz : w.heap.size + 1 + 1 + 1 ≤ ((((w.alloc (.cells #[.slice A n c, .slice B m k] 25)).alloc (.cells #[.int .i64 x1, .int .i64 x2] 34)).alloc (.cells #[.int .i64 0, .int .i64 0, .string { data := #[] }, .int .i64 0] 43))).heap.size := by simp
  obtain ⟨W0, gW0⟩ : ∃ z, (((w.alloc (.cells #[.slice A n c, .slice B m k] 25)).alloc (.cells #[.int .i64 x1, .int .i64 x2] 34)).alloc (.cells #[.int .i64 0, .int .i64 0, .string { data := #[] }, .int .i64 0] 43)) = z := ⟨_, rfl⟩
  rw [gW0] at hx0 hx1 hx2 hbl hsz
  obtain ⟨b2, gb2⟩ : ∃ z, w.heap.size + 1 + 1 = z := ⟨_, rfl⟩
  rw [gb2] at hx2
  obtain ⟨b1, gb1⟩ : ∃ z, w.heap.size + 1 = z := ⟨_, rfl⟩
  rw [gb1] at hx1
  obtain ⟨b0, gb0⟩ : ∃ z, w.heap.size = z := ⟨_, rfl⟩
  rw [gb0] at hx0
  have HX0 := Lib.hid hx0
  have HX1 := Lib.hid hx1
  have HX2 := Lib.hid hx2
  have HB0 := Lib.hid hbl
  have HS0 := Lib.hid hsz
  have Gb0 := Lib.hid gb0
  have Lb0 : RowKit.Hid (w.heap.size ≤ b0) := Lib.hid (by omega)
  have Gb1 := Lib.hid gb1
  have Lb1 : RowKit.Hid (w.heap.size ≤ b1) := Lib.hid (by omega)
  have Gb2 := Lib.hid gb2
  have Lb2 : RowKit.Hid (w.heap.size ≤ b2) := Lib.hid (by omega)
  have N01 : RowKit.Hid (b0 ≠ b1) := Lib.hid (by omega)
  have N02 : RowKit.Hid (b0 ≠ b2) := Lib.hid (by omega)
  have N12 : RowKit.Hid (b1 ≠ b2) := Lib.hid (by omega)
  rw [gW0, gb2, gb1, gb0]
  clear gW0 hbl hsz hx0 hx1 hx2 gb0 gb1 gb2
  go_loopw [6] (fun si wr => ∃ j : Nat, j ≤ m ∧ si = .int .i64 j ∧ RowKit.Hid (Below w.heap.size w wr) ∧ RowKit.Hid (Whole wr b0 25 [.slice A n c, .slice B m k]) ∧ RowKit.Hid (Whole wr b1 34 [.int .i64 x1, .int .i64 x2]) ∧ RowKit.Hid (Whole wr b2 43 [.int .i64 0, .int .i64 0, .string { data := #[] }, .int .i64 0]) ∧ RowKit.Hid (fndE (Es.drop j) (x1, x2) = (r, ok))) (fun si _ => m - (intOf si).toNat)
  case atStart => exact ⟨0, by omega, rfl, HB0, HX0, HX1, HX2, HG⟩
  case round =>
    clear HB0 HX0 HX1 HX2 HG
    obtain ⟨j, hj, rfl, HB, HX0, HX1, HX2, HG⟩ := hrel
    obtain ⟨wo, gwo⟩ : ∃ z, wr = z := ⟨_, rfl⟩
    rw [gwo] at HB HX0 HX1 HX2 ⊢
    clear gwo
    by_cases hjn : j < m
    · obtain ⟨x, hx⟩ : ∃ x, Es[j]? = some x := ⟨_, List.getElem?_eq_getElem (by have := Hl.out; omega)⟩
      have hdr : Es.drop j = x :: Es.drop (j + 1) := by
        rw [List.drop_eq_getElem_cons (List.getElem?_eq_some_iff.1 hx).1, (List.getElem?_eq_some_iff.1 hx).2]
      have hg2 := HG.out
      rw [hdr] at hg2
      have HG2 := Lib.hid hg2
      obtain ⟨bb, off, rfl, hbB, hpl⟩ := H.out.place eC_len (by decide) (by omega)
      have Hbo : RowKit.Hid (bb < wo.heap.size) := Lib.hid (Nat.lt_of_lt_of_le hbB HB.out.size)
      have hbw := HB.out
      have q0 := hpl j _ hx 0 _ rfl
      have q1 := hpl j _ hx 1 _ rfl
      have q2 := hpl j _ hx 2 _ rfl
      have q3 := hpl j _ hx 3 _ rfl
      simp only [Addr.add_lit, Nat.add_zero] at q0 q1 q2 q3
      have l0 := (hbw.cell (p := ⟨bb, off + j * 4, none⟩) hbB).trans q0
      have l1 := (hbw.cell (p := ⟨bb, off + j * 4 + 1, none⟩) hbB).trans q1
      have l2 := (hbw.cell (p := ⟨bb, off + j * 4 + 2, none⟩) hbB).trans q2
      have l3 := (hbw.cell (p := ⟨bb, off + j * 4 + 3, none⟩) hbB).trans q3
      clear hbw q0 q1 q2 q3
      obtain ⟨⟨i1, i2⟩, lb, at_⟩ := x
      have HE := Lib.hid (And.intro l0 (And.intro l1 (And.intro l2 l3)))
      have cb := HX0.out.cell (i := 1) rfl
      clear hx hdr hg2 hpl hbB HG
      have ldl0 := l0
      go_upto_region 4 with fail
      clear cb ldl0
      have ldb : ∀ w', Kept Nil_ wo.drew w' → w'.cell? ⟨b0, 1, none⟩ = some (.slice (some ⟨bb, off, none⟩) m k) := fun w' h => h.nil_cell (HX0.out.dr.cell (i := 1) rfl)
      have ldx : ∀ w', Kept Nil_ wo.drew w' → w'.cell? ⟨b1, 0, none⟩ = some (.int .i64 x1) := fun w' h => h.nil_cell (HX1.out.dr.cell (i := 0) rfl)
      have ldy : ∀ w', Kept Nil_ wo.drew w' → w'.cell? ⟨b1, 1, none⟩ = some (.int .i64 x2) := fun w' h => h.nil_cell (HX1.out.dr.cell (i := 1) rfl)
      have lde : ∀ w', Kept Nil_ wo.drew w' → w'.cell? ⟨bb, off + j * 4, none⟩ = some (.int .i64 i1) := fun w' h => h.nil_cell (l0)
      have ldf : ∀ w', Kept Nil_ wo.drew w' → w'.cell? ⟨bb, off + j * 4 + 1, none⟩ = some (.int .i64 i2) := fun w' h => h.nil_cell (l1)
      clear l0 l1 l2 l3
      have heq := fun W => eq_id i1 i2 x1 x2 W
      obtain ⟨bq, gbq⟩ : ∃ z, (i1 == x1 && i2 == x2) = z := ⟨_, rfl⟩
      rw [gbq] at heq
      have Gbq := Lib.hid gbq
      clear gbq
      refine wp_region_reg (Nil_) (by kernel_rfl) ?_
      apply wpR_next 0 (some 14)
      · simp only [List.getElem?_toArray, List.getElem?_cons_succ, List.getElem?_cons_zero]; exact rfl
      · rfl
      · kernel_rfl
      · kernel_rfl
      · kernel_rfl
      · exact fun _ _ _ _ h => h
      apply Exists.intro
      apply And.intro
      · apply yr_run; rfl; intro w' hw'; go_simp; (try with_reducible rfl)
      simp only [Act.put, List.setIfInBounds_toArray, List.set_cons_zero, List.set_cons_succ]
      apply wpR_next 1 (some 15)
      · simp only [List.getElem?_toArray, List.getElem?_cons_succ, List.getElem?_cons_zero]; exact rfl
      · rfl
      · kernel_rfl
      · kernel_rfl
      · kernel_rfl
      · exact fun _ _ _ _ h => h
      apply Exists.intro
      apply And.intro
      · apply yr_run; rfl; intro w' hw'; go_simp; (try with_reducible rfl)
      simp only [Act.put, List.setIfInBounds_toArray, List.set_cons_zero, List.set_cons_succ]
      apply wpR_next 2 (some 16)
      · simp only [List.getElem?_toArray, List.getElem?_cons_succ, List.getElem?_cons_zero]; exact rfl
      · rfl
      · kernel_rfl
      · kernel_rfl
      · kernel_rfl
      · exact fun _ _ _ _ h => h
      apply Exists.intro
      apply And.intro
      · apply yr_run; rfl; intro w' hw'; go_simp; (try with_reducible rfl)
      simp only [Act.put, List.setIfInBounds_toArray, List.set_cons_zero, List.set_cons_succ]
      apply wpR_next 3 (some 17)
      · simp only [List.getElem?_toArray, List.getElem?_cons_succ, List.getElem?_cons_zero]; exact rfl
      · rfl
      · kernel_rfl
      · kernel_rfl
      · kernel_rfl
      · exact fun _ _ _ _ h => h
      apply Exists.intro
      apply And.intro
      · apply yr_run; rfl; intro w' hw'; go_simp; (try with_reducible rfl)
      simp only [Act.put, List.setIfInBounds_toArray, List.set_cons_zero, List.set_cons_succ]
      apply wpR_next 4 (some 18)
      · simp only [List.getElem?_toArray, List.getElem?_cons_succ, List.getElem?_cons_zero]; exact rfl
      · rfl
      · kernel_rfl
      · kernel_rfl
      · kernel_rfl
      · exact fun _ _ _ _ h => h
      apply Exists.intro
      apply And.intro
      · apply yr_run; rfl; intro w' hw'; go_simp; (try with_reducible rfl)
      simp only [Act.put, List.setIfInBounds_toArray, List.set_cons_zero, List.set_cons_succ]
      apply wpR_next 5 (some 19)
      · simp only [List.getElem?_toArray, List.getElem?_cons_succ, List.getElem?_cons_zero]; exact rfl
      · rfl
      · kernel_rfl
      · kernel_rfl
      · kernel_rfl
      · exact fun _ _ _ _ h => h
      apply Exists.intro
      apply And.intro
      · apply yr_run; rfl; intro w' hw'; go_simp; (try with_reducible rfl)
      simp only [Act.put, List.setIfInBounds_toArray, List.set_cons_zero, List.set_cons_succ]
      apply wpR_next 6 (some 20)
      · simp only [List.getElem?_toArray, List.getElem?_cons_succ, List.getElem?_cons_zero]; exact rfl
      · rfl
      · kernel_rfl
      · kernel_rfl
      · kernel_rfl
      · exact fun _ _ _ _ h => h
      apply Exists.intro
      apply And.intro
      · apply yr_run; rfl; intro w' hw'; go_simp; (try with_reducible rfl)
      simp only [Act.put, List.setIfInBounds_toArray, List.set_cons_zero, List.set_cons_succ]
      apply wpR_next 7 (some 21)
      · simp only [List.getElem?_toArray, List.getElem?_cons_succ, List.getElem?_cons_zero]; exact rfl
      · rfl
      · kernel_rfl
      · kernel_rfl
      · kernel_rfl
      · exact fun _ _ _ _ h => h
      apply Exists.intro
      apply And.intro
      · apply yr_run; rfl; intro w' hw'; go_simp; (try with_reducible rfl)
      simp only [Act.put, List.setIfInBounds_toArray, List.set_cons_zero, List.set_cons_succ]
      refine wpR_done (by kernel_rfl) ?_ _
      intro W3 hw3
      have HX03 := Lib.hid (HX0.out.dr.bl hw3)
      have HX13 := Lib.hid (HX1.out.dr.bl hw3)
      have HX23 := Lib.hid (HX2.out.dr.bl hw3)
      have HE3 : RowKit.Hid (Below wo.heap.size wo W3) := Lib.hid (bel_bl (bel_dr (Below.refl _ _)) hw3)
      have HB3 := Lib.hid (bel_bl HB.out HE3.out)
      clear hw3 ldb ldx ldy lde ldf HB HX0 HX1 HX2 heq
      cases bq with
      | true =>
        have hq := Gbq.out
        rw [Bool.and_eq_true, beq_iff_eq, beq_iff_eq] at hq
        have hg := HG2.out
        rw [fndE, fnd_yes _ _ _ _ _ (by rw [hq.1, hq.2])] at hg
        injection hg with hg1 hg2
        subst hg1 hg2
        obtain ⟨l0, l1, l2, l3⟩ := HE.out
        have hB3 := HE3.out
        have hbo := Hbo.out
        have cb := HX03.out.cell (i := 1) rfl
        have f0 := HX23.out.free 0
        have k0 := HX23.out.cell (i := 0) rfl
        have y0 := (hB3.cell (p := ⟨bb, off + j * 4, none⟩) hbo).trans l0
        have f1 := HX23.out.free 1
        have k1 := HX23.out.cell (i := 1) rfl
        have y1 := (hB3.cell (p := ⟨bb, off + j * 4 + 1, none⟩) hbo).trans l1
        have f2 := HX23.out.free 2
        have k2 := HX23.out.cell (i := 2) rfl
        have y2 := (hB3.cell (p := ⟨bb, off + j * 4 + 2, none⟩) hbo).trans l2
        have f3 := HX23.out.free 3
        have k3 := HX23.out.cell (i := 3) rfl
        have y3 := (hB3.cell (p := ⟨bb, off + j * 4 + 3, none⟩) hbo).trans l3
        have HY := Lib.hid ((((HX23.out.set_ 0 (.int .i64 i1)).set_ 1 (.int .i64 i2)).set_ 2 (.string lb)).set_ 3 (.int .i64 at_))
        have HBf := Lib.hid ((((HB3.out.setCell (p := ⟨b2, 0, none⟩) Lb2.out (.int .i64 i1)).setCell (p := ⟨b2, 1, none⟩) Lb2.out (.int .i64 i2)).setCell (p := ⟨b2, 2, none⟩) Lb2.out (.string lb)).setCell (p := ⟨b2, 3, none⟩) Lb2.out (.int .i64 at_))
        clear HX23 HG2 HB3 hq l0 l1 l2 l3 HE hB3 HE3
        go_wp2
        exact ret_whole2 rfl b2 rfl rfl HY.out Try.underlying43 rfl (by kernel_rfl) rfl ⟨rfl, HBf.out⟩
      | false =>
        have hg := HG2.out
        rw [fndE, fnd_no _ _ _ _ _ (fun e => by
          have e1 : i1 = x1 := congrArg Prod.fst e
          have e2 : i2 = x2 := congrArg Prod.snd e
          have := Gbq.out
          rw [e1, e2] at this
          simp at this)] at hg
        have HG4 := Lib.hid hg
        clear hg HG2 HE HE3
        go_wp2
        go_roundw
        case rel => exact ⟨j + 1, by omega, by go_num, HB3, HX03, HX13, HX23, HG4⟩
        case measure => simp [intOf]; omega
    · obtain rfl : m = j := by omega
      have hg := HG.out
      rw [List.drop_eq_nil_of_le (by have := Hl.out; omega)] at hg
      replace hg : (zE, false) = (r, ok) := hg
      injection hg with hg1 hg2
      subst hg1 hg2
      have cb := HX0.out.cell (i := 1) rfl
      have f0 := HX2.out.free 0
      have k0 := HX2.out.cell (i := 0) rfl
      have f1 := HX2.out.free 1
      have k1 := HX2.out.cell (i := 1) rfl
      have f2 := HX2.out.free 2
      have k2 := HX2.out.cell (i := 2) rfl
      have f3 := HX2.out.free 3
      have k3 := HX2.out.cell (i := 3) rfl
      have HY := Lib.hid ((((HX2.out.set_ 0 (.int .i64 0)).set_ 1 (.int .i64 0)).set_ 2 (.string { data := #[] })).set_ 3 (.int .i64 0))
      have HBf := Lib.hid ((((HB.out.setCell (p := ⟨b2, 0, none⟩) Lb2.out (.int .i64 0)).setCell (p := ⟨b2, 1, none⟩) Lb2.out (.int .i64 0)).setCell (p := ⟨b2, 2, none⟩) Lb2.out (.string { data := #[] })).setCell (p := ⟨b2, 3, none⟩) Lb2.out (.int .i64 0))
      clear HG HX2
      go_wp2
      exact ret_whole2 rfl b2 rfl rfl HY.out Try.underlying43 rfl (by kernel_rfl) rfl ⟨rfl, HBf.out⟩
end Go.Proofs.Ytdhglhcpgmfpoaa
