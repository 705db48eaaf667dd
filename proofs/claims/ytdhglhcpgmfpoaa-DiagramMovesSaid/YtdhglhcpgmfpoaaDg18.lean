/- The document's At, times. -/
import Derived.Test.YtdhglhcpgmfpoaaDg17
namespace Go.Proofs.Ytdhglhcpgmfpoaa
open Go.RowKit
set_option linter.unusedSimpArgs false
set_option linter.unusedVariables false

set_option maxRecDepth 100000 in
set_option maxHeartbeats 4000000 in
theorem rat_any (A : Option Addr) (n c : Nat) (Vs : List VC) (B : Option Addr) (m k : Nat) (Es : List EC) (x1 x2 x3 : Int) (w : World) (h : DgIn w A n c Vs B m k Es) (hn : n ≤ 1000000) (hr : ∀ y ∈ Vs, y.2.1.2.1 ≤ 1000000) :
    Calls Try.prog 23 #[.agg #[.slice A n c, .slice B m k], .agg #[.int .i64 x1, .int .i64 x2, .int .i64 x3]] w fun e w' =>
      e = .returned (.tuple #[.agg #[.int .i64 (atV Vs (x1, x2, x3)).1.1, .int .i64 (atV Vs (x1, x2, x3)).1.2], .bool (atV Vs (x1, x2, x3)).2]) ∧ Below w.heap.size w w' := by
  have H := Lib.hid h.v
  have HRg := Lib.hid h.r
  have Hhr := Lib.hid hr
  have Hl := Lib.hid (h.v.rlen vC_len (by decide))
  obtain ⟨⟨⟨r1, r2⟩, r3⟩, gr⟩ : ∃ z, atV Vs (x1, x2, x3) = z := ⟨_, rfl⟩
  rw [gr]
  have HG := Lib.hid gr
  clear h hr gr
  go_enter Try.func23, Try.ntmps23
  go_wp2
  have hx0 : Whole (((w.alloc (.cells #[.slice A n c, .slice B m k] 25)).alloc (.cells #[.int .i64 x1, .int .i64 x2, .int .i64 x3] 36)).alloc (.cells #[.int .i64 0, .int .i64 0] 34)) (w.heap.size) 25 [.slice A n c, .slice B m k] := (((Whole.new_ w 25 [.slice A n c, .slice B m k]).alloc (.cells #[.int .i64 x1, .int .i64 x2, .int .i64 x3] 36)).alloc (.cells #[.int .i64 0, .int .i64 0] 34))
  have hx1 : Whole (((w.alloc (.cells #[.slice A n c, .slice B m k] 25)).alloc (.cells #[.int .i64 x1, .int .i64 x2, .int .i64 x3] 36)).alloc (.cells #[.int .i64 0, .int .i64 0] 34)) (w.heap.size + 1) 36 [.int .i64 x1, .int .i64 x2, .int .i64 x3] := ((Whole.new2 (w := (w.alloc (.cells #[.slice A n c, .slice B m k] 25))) (by simp)).alloc (.cells #[.int .i64 0, .int .i64 0] 34))
  have hx2 : Whole (((w.alloc (.cells #[.slice A n c, .slice B m k] 25)).alloc (.cells #[.int .i64 x1, .int .i64 x2, .int .i64 x3] 36)).alloc (.cells #[.int .i64 0, .int .i64 0] 34)) (w.heap.size + 1 + 1) 34 [.int .i64 0, .int .i64 0] := (Whole.new2 (w := ((w.alloc (.cells #[.slice A n c, .slice B m k] 25)).alloc (.cells #[.int .i64 x1, .int .i64 x2, .int .i64 x3] 36))) (by simp))
  have hbl : Below w.heap.size w (((w.alloc (.cells #[.slice A n c, .slice B m k] 25)).alloc (.cells #[.int .i64 x1, .int .i64 x2, .int .i64 x3] 36)).alloc (.cells #[.int .i64 0, .int .i64 0] 34)) := (bel_al (bel_al (below1 w (.cells #[.slice A n c, .slice B m k] 25)) (.cells #[.int .i64 x1, .int .i64 x2, .int .i64 x3] 36)) (.cells #[.int .i64 0, .int .i64 0] 34))
  have hsz : w.heap.size + 1 + 1 + 1 ≤ ((((w.alloc (.cells #[.slice A n c, .slice B m k] 25)).alloc (.cells #[.int .i64 x1, .int .i64 x2, .int .i64 x3] 36)).alloc (.cells #[.int .i64 0, .int .i64 0] 34))).heap.size := by simp
  obtain ⟨W0, gW0⟩ : ∃ z, (((w.alloc (.cells #[.slice A n c, .slice B m k] 25)).alloc (.cells #[.int .i64 x1, .int .i64 x2, .int .i64 x3] 36)).alloc (.cells #[.int .i64 0, .int .i64 0] 34)) = z := ⟨_, rfl⟩
  rw [gW0] at hx0 hx1 hx2 hbl hsz
  obtain ⟨b2, gb2⟩ : ∃ z, w.heap.size + 1 + 1 = z := ⟨_, rfl⟩
  rw [gb2] at hx2
  obtain ⟨b1, gb1⟩ : ∃ z, w.heap.size + 1 = z := ⟨_, rfl⟩
  rw [gb1] at hx1
  obtain ⟨b0, gb0⟩ : ∃ z, w.heap.size = z := ⟨_, rfl⟩
  rw [gb0] at hx0
  have HX0 := Lib.hid hx0
  have HX1 := Lib.hid hx1
  have HX2 := Lib.hid hx2
  have HB0 := Lib.hid hbl
  have HS0 := Lib.hid hsz
  have Gb0 := Lib.hid gb0
  have Lb0 : RowKit.Hid (w.heap.size ≤ b0) := Lib.hid (by omega)
  have Gb1 := Lib.hid gb1
  have Lb1 : RowKit.Hid (w.heap.size ≤ b1) := Lib.hid (by omega)
  have Gb2 := Lib.hid gb2
  have Lb2 : RowKit.Hid (w.heap.size ≤ b2) := Lib.hid (by omega)
  have N01 : RowKit.Hid (b0 ≠ b1) := Lib.hid (by omega)
  have N02 : RowKit.Hid (b0 ≠ b2) := Lib.hid (by omega)
  have N12 : RowKit.Hid (b1 ≠ b2) := Lib.hid (by omega)
  rw [gW0, gb2, gb1, gb0]
  clear gW0 hbl hsz hx0 hx1 hx2 gb0 gb1 gb2
  go_loopw [6] (fun si wr => ∃ j : Nat, j ≤ n ∧ si = .int .i64 j ∧ RowKit.Hid (Below w.heap.size w wr) ∧ RowKit.Hid (Whole wr b0 25 [.slice A n c, .slice B m k]) ∧ RowKit.Hid (Whole wr b1 36 [.int .i64 x1, .int .i64 x2, .int .i64 x3]) ∧ RowKit.Hid (Whole wr b2 34 [.int .i64 0, .int .i64 0]) ∧ RowKit.Hid (atV (Vs.drop j) (x1, x2, x3) = ((r1, r2), r3))) (fun si _ => n - (intOf si).toNat)
  case atStart => exact ⟨0, by omega, rfl, HB0, HX0, HX1, HX2, HG⟩
  case round =>
    clear HB0 HX0 HX1 HX2 HG
    obtain ⟨j, hj, rfl, HB, HX0, HX1, HX2, HG⟩ := hrel
    obtain ⟨wo, gwo⟩ : ∃ z, wr = z := ⟨_, rfl⟩
    rw [gwo] at HB HX0 HX1 HX2 ⊢
    clear gwo
    by_cases hjn : j < n
    · obtain ⟨x, hx⟩ : ∃ x, Vs[j]? = some x := ⟨_, List.getElem?_eq_getElem (by have := Hl.out; omega)⟩
      have hdr : Vs.drop j = x :: Vs.drop (j + 1) := by
        rw [List.drop_eq_getElem_cons (List.getElem?_eq_some_iff.1 hx).1, (List.getElem?_eq_some_iff.1 hx).2]
      have hg2 := HG.out
      rw [hdr] at hg2
      have HG2 := Lib.hid hg2
      have hrg := HRg.out x (List.mem_of_getElem? hx)
      have hrn := Hhr.out x (List.mem_of_getElem? hx)
      obtain ⟨bb, off, rfl, hbB, hpl⟩ := H.out.place vC_len (by decide) (by omega)
      have Hbo : RowKit.Hid (bb < wo.heap.size) := Lib.hid (Nat.lt_of_lt_of_le hbB HB.out.size)
      have hbw := HB.out
      have q0 := hpl j _ hx 0 _ rfl
      have q1 := hpl j _ hx 1 _ rfl
      have q2 := hpl j _ hx 2 _ rfl
      have q3 := hpl j _ hx 3 _ rfl
      have q4 := hpl j _ hx 4 _ rfl
      simp only [Addr.add_lit, Nat.add_zero] at q0 q1 q2 q3 q4
      have l0 := (hbw.cell (p := ⟨bb, off + j * 5, none⟩) hbB).trans q0
      have l1 := (hbw.cell (p := ⟨bb, off + j * 5 + 1, none⟩) hbB).trans q1
      have l2 := (hbw.cell (p := ⟨bb, off + j * 5 + 2, none⟩) hbB).trans q2
      have l3 := (hbw.cell (p := ⟨bb, off + j * 5 + 3, none⟩) hbB).trans q3
      have l4 := (hbw.cell (p := ⟨bb, off + j * 5 + 4, none⟩) hbB).trans q4
      clear hbw q0 q1 q2 q3 q4
      obtain ⟨⟨i1, i2⟩, ⟨rA, rn, rc, rL⟩, lb, at_⟩ := x
      have hR : RdS w w.heap.size 3 rA rn rc (dartsV rL) := hrg.2
      replace hrn : rn ≤ 1000000 := hrn
      have hI : ∀ w', Kept Nil_ wo.drew w' → Calls Try.prog 52 #[.slice rA rn rc, .agg #[.int .i64 x1, .int .i64 x2, .int .i64 x3]] w' fun e w'' => e = .returned (.int .i64 (idxD rL (x1, x2, x3))) ∧ Below w'.heap.size w' w'' :=
        fun w' hk => rfindex_any rA rn rc rL (x1, x2, x3) w' ((hR.bl (bel_dr HB.out)).bl (hk.below (Nat.le_refl _) (fun _ _ h => h))) (by omega)
      have HI := Lib.hid hI
      have HE := Lib.hid (And.intro l0 l1)
      have cb := HX0.out.cell (i := 0) rfl
      clear hx hdr hg2 hpl hbB HG hrg hR hI l0 l1 l3 l4
      obtain ⟨ix, gix⟩ : ∃ z, idxD rL (x1, x2, x3) = z := ⟨_, rfl⟩
      rw [gix] at HI
      have Gix := Lib.hid gix
      clear gix
      go_upto_region 4 with fail
      clear cb
      have ldb : ∀ w', Kept Nil_ wo.drew w' → w'.cell? ⟨b0, 0, none⟩ = some (.slice (some ⟨bb, off, none⟩) n c) := fun w' h => h.nil_cell (HX0.out.dr.cell (i := 0) rfl)
      have ldx : ∀ w', Kept Nil_ wo.drew w' → w'.cell? ⟨b1, 0, none⟩ = some (.int .i64 x1) := fun w' h => h.nil_cell (HX1.out.dr.cell (i := 0) rfl)
      have ldy : ∀ w', Kept Nil_ wo.drew w' → w'.cell? ⟨b1, 1, none⟩ = some (.int .i64 x2) := fun w' h => h.nil_cell (HX1.out.dr.cell (i := 1) rfl)
      have ldz : ∀ w', Kept Nil_ wo.drew w' → w'.cell? ⟨b1, 2, none⟩ = some (.int .i64 x3) := fun w' h => h.nil_cell (HX1.out.dr.cell (i := 2) rfl)
      have ldr : ∀ w', Kept Nil_ wo.drew w' → w'.cell? ⟨bb, off + j * 5 + 2, none⟩ = some (.slice rA rn rc) := fun w' h => h.nil_cell (l2)
      clear l2
      refine wp_region_reg (Nil_) (by kernel_rfl) ?_
      apply wpR_next 0 (some 14)
      · simp only [List.getElem?_toArray, List.getElem?_cons_succ, List.getElem?_cons_zero]; exact rfl
      · rfl
      · kernel_rfl
      · kernel_rfl
      · kernel_rfl
      · exact fun _ _ _ _ h => h
      apply Exists.intro
      apply And.intro
      · apply yr_run; rfl; intro w' hw'; go_simp; (try with_reducible rfl)
      simp only [Act.put, List.setIfInBounds_toArray, List.set_cons_zero, List.set_cons_succ]
      apply wpR_next 1 (some 15)
      · simp only [List.getElem?_toArray, List.getElem?_cons_succ, List.getElem?_cons_zero]; exact rfl
      · rfl
      · kernel_rfl
      · kernel_rfl
      · kernel_rfl
      · exact fun _ _ _ _ h => h
      apply Exists.intro
      apply And.intro
      · apply yr_run; rfl; intro w' hw'; go_simp; (try with_reducible rfl)
      simp only [Act.put, List.setIfInBounds_toArray, List.set_cons_zero, List.set_cons_succ]
      apply wpR_next 2 (some 16)
      · simp only [List.getElem?_toArray, List.getElem?_cons_succ, List.getElem?_cons_zero]; exact rfl
      · rfl
      · kernel_rfl
      · kernel_rfl
      · kernel_rfl
      · exact fun _ _ _ _ h => h
      apply Exists.intro
      apply And.intro
      · apply yr_run; rfl; intro w' hw'; go_simp; (try with_reducible rfl)
      simp only [Act.put, List.setIfInBounds_toArray, List.set_cons_zero, List.set_cons_succ]
      apply wpR_next 3 (some 17)
      · simp only [List.getElem?_toArray, List.getElem?_cons_succ, List.getElem?_cons_zero]; exact rfl
      · rfl
      · kernel_rfl
      · kernel_rfl
      · kernel_rfl
      · exact fun _ _ _ _ h => h
      apply Exists.intro
      apply And.intro
      · apply yr_run; rfl; intro w' hw'; go_simp; (try with_reducible rfl)
      simp only [Act.put, List.setIfInBounds_toArray, List.set_cons_zero, List.set_cons_succ]
      apply wpR_next 4 (some 18)
      · simp only [List.getElem?_toArray, List.getElem?_cons_succ, List.getElem?_cons_zero]; exact rfl
      · rfl
      · kernel_rfl
      · kernel_rfl
      · kernel_rfl
      · exact fun _ _ _ _ h => h
      apply Exists.intro
      apply And.intro
      · apply yr_run; rfl; intro w' hw'; go_simp; (try with_reducible rfl)
      simp only [Act.put, List.setIfInBounds_toArray, List.set_cons_zero, List.set_cons_succ]
      apply wpR_next 5 (some 19)
      · simp only [List.getElem?_toArray, List.getElem?_cons_succ, List.getElem?_cons_zero]; exact rfl
      · rfl
      · kernel_rfl
      · kernel_rfl
      · kernel_rfl
      · exact fun _ _ _ _ h => h
      apply Exists.intro
      apply And.intro
      · apply yr_run; rfl; intro w' hw'; go_simp; (try with_reducible rfl)
      simp only [Act.put, List.setIfInBounds_toArray, List.set_cons_zero, List.set_cons_succ]
      apply wpR_next 6 (some 20)
      · simp only [List.getElem?_toArray, List.getElem?_cons_succ, List.getElem?_cons_zero]; exact rfl
      · rfl
      · kernel_rfl
      · kernel_rfl
      · kernel_rfl
      · exact fun _ _ _ _ h => h
      apply Exists.intro
      apply And.intro
      · apply yr_run; rfl; intro w' hw'; go_simp; (try with_reducible rfl)
      simp only [Act.put, List.setIfInBounds_toArray, List.set_cons_zero, List.set_cons_succ]
      apply wpR_next 7 (some 21)
      · simp only [List.getElem?_toArray, List.getElem?_cons_succ, List.getElem?_cons_zero]; exact rfl
      · rfl
      · kernel_rfl
      · kernel_rfl
      · kernel_rfl
      · exact fun _ _ _ _ h => h
      apply Exists.intro
      apply And.intro
      · apply yr_call; rfl; rotate_left; intro w' hw'; exact HI.out w' hw'; intro w'; go_simp
      simp only [Act.put, List.setIfInBounds_toArray, List.set_cons_zero, List.set_cons_succ]
      apply wpR_next 8 (some 22)
      · simp only [List.getElem?_toArray, List.getElem?_cons_succ, List.getElem?_cons_zero]; exact rfl
      · rfl
      · kernel_rfl
      · kernel_rfl
      · kernel_rfl
      · exact fun _ _ _ _ h => h
      apply Exists.intro
      apply And.intro
      · apply yr_run; rfl; intro w' hw'; go_simp; (try with_reducible rfl)
      simp only [Act.put, List.setIfInBounds_toArray, List.set_cons_zero, List.set_cons_succ]
      refine wpR_done (by kernel_rfl) ?_ _
      intro W3 hw3
      have HX03 := Lib.hid (HX0.out.dr.bl hw3)
      have HX13 := Lib.hid (HX1.out.dr.bl hw3)
      have HX23 := Lib.hid (HX2.out.dr.bl hw3)
      have HE3 : RowKit.Hid (Below wo.heap.size wo W3) := Lib.hid (bel_bl (bel_dr (Below.refl _ _)) hw3)
      have HB3 := Lib.hid (bel_bl HB.out HE3.out)
      clear hw3 ldb ldx ldy ldz ldr HB HX0 HX1 HX2 HI
      by_cases hmem : (x1, x2, x3) ∈ rL
      · have e1 : idxD rL (x1, x2, x3) = (rL.idxOf (x1, x2, x3) : Int) := by rw [idxD, if_pos hmem]
        have h0 : 0 ≤ ix := by rw [← Gix.out, e1]; omega
        have hG := HG2.out
        rw [atV_yes _ _ _ hmem] at hG
        simp only [Prod.mk.injEq] at hG
        obtain ⟨⟨rfl, rfl⟩, rfl⟩ := hG
        obtain ⟨l0, l1⟩ := HE.out
        have y0 := (HE3.out.cell (p := ⟨bb, off + j * 5, none⟩) Hbo.out).trans l0
        have y1 := (HE3.out.cell (p := ⟨bb, off + j * 5 + 1, none⟩) Hbo.out).trans l1
        have cb := HX03.out.cell (i := 0) rfl
        have f0 := HX23.out.free 0
        have f1 := HX23.out.free 1
        have k0 := HX23.out.cell (i := 0) rfl
        have k1 := HX23.out.cell (i := 1) rfl
        have HY := Lib.hid ((HX23.out.set_ 0 (.int .i64 i1)).set_ 1 (.int .i64 i2))
        have HBf := Lib.hid ((HB3.out.setCell (p := ⟨b2, 0, none⟩) Lb2.out (.int .i64 i1)).setCell (p := ⟨b2, 1, none⟩) Lb2.out (.int .i64 i2))
        clear HX23 HG2 HB3 HE HE3 l0 l1
        go_wp2
        exact ret_whole2 rfl b2 rfl rfl HY.out Try.underlying34 rfl (by kernel_rfl) rfl ⟨rfl, HBf.out⟩
      · have h0 : ¬ 0 ≤ ix := by rw [← Gix.out, show idxD rL (x1, x2, x3) = -1 by rw [idxD, if_neg hmem]]; omega
        have hG := HG2.out
        rw [atV_no _ _ _ hmem] at hG
        have HG4 := Lib.hid hG
        clear hG HG2 HE HE3
        go_wp2
        go_roundw
        case rel => exact ⟨j + 1, by omega, by go_num, HB3, HX03, HX13, HX23, HG4⟩
        case measure => simp [intOf]; omega
    · obtain rfl : n = j := by omega
      have hG := HG.out
      rw [List.drop_eq_nil_of_le (by have := Hl.out; omega)] at hG
      replace hG : (((0 : Int), (0 : Int)), false) = ((r1, r2), r3) := hG
      simp only [Prod.mk.injEq] at hG
      obtain ⟨⟨rfl, rfl⟩, rfl⟩ := hG
      have cb := HX0.out.cell (i := 0) rfl
      have f0 := HX2.out.free 0
      have f1 := HX2.out.free 1
      have k0 := HX2.out.cell (i := 0) rfl
      have k1 := HX2.out.cell (i := 1) rfl
      have HY := Lib.hid ((HX2.out.set_ 0 (.int .i64 0)).set_ 1 (.int .i64 0))
      have HBf := Lib.hid ((HB.out.setCell (p := ⟨b2, 0, none⟩) Lb2.out (.int .i64 0)).setCell (p := ⟨b2, 1, none⟩) Lb2.out (.int .i64 0))
      clear HG HX2
      go_wp2
      exact ret_whole2 rfl b2 rfl rfl HY.out Try.underlying34 rfl (by kernel_rfl) rfl ⟨rfl, HBf.out⟩
def timesV (Vs : List VC) (x : D) : Nat := (ringsOf Vs).count x
theorem timesV_next (Vs : List VC) (x : D) (j : Nat) (v : VC) (h : Vs[j]? = some v) : timesV (Vs.take (j + 1)) x = timesV (Vs.take j) x + v.2.1.2.2.2.count x := by
  have : Vs.take (j + 1) = Vs.take j ++ [v] := by rw [List.take_add_one, h]; rfl
  rw [timesV, timesV, this, ringsOf, List.flatMap_append, List.count_append]
  simp [ringsOf]
theorem count_next (L : List D) (x : D) (q : Nat) (d : D) (h : L[q]? = some d) : (L.take (q + 1)).count x = (L.take q).count x + if d = x then 1 else 0 := by
  have : L.take (q + 1) = L.take q ++ [d] := by rw [List.take_add_one, h]; rfl
  rw [this, List.count_append, List.count_singleton]
  simp
set_option maxRecDepth 100000 in
set_option maxHeartbeats 4000000 in
theorem rtimes_any (A : Option Addr) (n c : Nat) (Vs : List VC) (B : Option Addr) (m k : Nat) (Es : List EC) (x1 x2 x3 : Int) (w : World) (h : DgIn w A n c Vs B m k Es) (hn : n ≤ 1000000) (hr : ∀ y ∈ Vs, y.2.1.2.1 ≤ 1000000) :
    Calls Try.prog 70 #[.agg #[.slice A n c, .slice B m k], .agg #[.int .i64 x1, .int .i64 x2, .int .i64 x3]] w fun e w' => e = .returned (.int .i64 (timesV Vs (x1, x2, x3) : Nat)) ∧ Below w.heap.size w w' := by
  have H := Lib.hid h.v
  have HRg := Lib.hid h.r
  have Hhr := Lib.hid hr
  have Hl := Lib.hid (h.v.rlen vC_len (by decide))
  obtain ⟨T, gT⟩ : ∃ z, timesV Vs (x1, x2, x3) = z := ⟨_, rfl⟩
  rw [gT]
  have GT := Lib.hid gT
  clear h hr gT
  go_enter Try.func70, Try.ntmps70
  go_wp2
  have hx0 : Whole ((w.alloc (.cells #[.slice A n c, .slice B m k] 25)).alloc (.cells #[.int .i64 x1, .int .i64 x2, .int .i64 x3] 36)) (w.heap.size) 25 [.slice A n c, .slice B m k] := ((Whole.new_ w 25 [.slice A n c, .slice B m k]).alloc (.cells #[.int .i64 x1, .int .i64 x2, .int .i64 x3] 36))
  have hx1 : Whole ((w.alloc (.cells #[.slice A n c, .slice B m k] 25)).alloc (.cells #[.int .i64 x1, .int .i64 x2, .int .i64 x3] 36)) (w.heap.size + 1) 36 [.int .i64 x1, .int .i64 x2, .int .i64 x3] := (Whole.new2 (w := (w.alloc (.cells #[.slice A n c, .slice B m k] 25))) (by simp))
  have hbl : Below w.heap.size w ((w.alloc (.cells #[.slice A n c, .slice B m k] 25)).alloc (.cells #[.int .i64 x1, .int .i64 x2, .int .i64 x3] 36)) := (bel_al (below1 w (.cells #[.slice A n c, .slice B m k] 25)) (.cells #[.int .i64 x1, .int .i64 x2, .int .i64 x3] 36))
  have hsz : w.heap.size + 1 + 1 ≤ (((w.alloc (.cells #[.slice A n c, .slice B m k] 25)).alloc (.cells #[.int .i64 x1, .int .i64 x2, .int .i64 x3] 36))).heap.size := by simp
  obtain ⟨W0, gW0⟩ : ∃ z, ((w.alloc (.cells #[.slice A n c, .slice B m k] 25)).alloc (.cells #[.int .i64 x1, .int .i64 x2, .int .i64 x3] 36)) = z := ⟨_, rfl⟩
  rw [gW0] at hx0 hx1 hbl hsz
  obtain ⟨b1, gb1⟩ : ∃ z, w.heap.size + 1 = z := ⟨_, rfl⟩
  rw [gb1] at hx1
  obtain ⟨b0, gb0⟩ : ∃ z, w.heap.size = z := ⟨_, rfl⟩
  rw [gb0] at hx0
  have HX0 := Lib.hid hx0
  have HX1 := Lib.hid hx1
  have HB0 := Lib.hid hbl
  have HS0 := Lib.hid hsz
  have Gb0 := Lib.hid gb0
  have Lb0 : RowKit.Hid (w.heap.size ≤ b0) := Lib.hid (by omega)
  have Gb1 := Lib.hid gb1
  have Lb1 : RowKit.Hid (w.heap.size ≤ b1) := Lib.hid (by omega)
  have N01 : RowKit.Hid (b0 ≠ b1) := Lib.hid (by omega)
  rw [gW0, gb1, gb0]
  clear gW0 hbl hsz hx0 hx1 gb0 gb1
  go_loopw [5, 6] (fun sn si wr => ∃ j t : Nat, j ≤ n ∧ t ≤ j * 1000000 ∧ si = .int .i64 j ∧ sn = .int .i64 t ∧ RowKit.Hid (Below w.heap.size w wr) ∧ RowKit.Hid (Whole wr b0 25 [.slice A n c, .slice B m k]) ∧ RowKit.Hid (Whole wr b1 36 [.int .i64 x1, .int .i64 x2, .int .i64 x3]) ∧ RowKit.Hid (timesV (Vs.take j) (x1, x2, x3) = t)) (fun _ si _ => n - (intOf si).toNat)
  case atStart => exact ⟨0, 0, by omega, by omega, rfl, rfl, HB0, HX0, HX1, Lib.hid rfl⟩
  case round =>
    clear HB0 HX0 HX1
    obtain ⟨j, t, hj, ht, rfl, rfl, HB, HX0, HX1, HG⟩ := hrel
    obtain ⟨wo, gwo⟩ : ∃ z, wr = z := ⟨_, rfl⟩
    rw [gwo] at HB HX0 HX1 ⊢
    clear gwo
    by_cases hjn : j < n
    · obtain ⟨x, hx⟩ : ∃ x, Vs[j]? = some x := ⟨_, List.getElem?_eq_getElem (by have := Hl.out; omega)⟩
      have HNx := Lib.hid (timesV_next Vs (x1, x2, x3) j x hx)
      have hrg := HRg.out x (List.mem_of_getElem? hx)
      have hrn := Hhr.out x (List.mem_of_getElem? hx)
      obtain ⟨bb, off, rfl, hbB, hpl⟩ := H.out.place vC_len (by decide) (by omega)
      have q2 := hpl j _ hx 2 _ rfl
      simp only [Addr.add_lit, Nat.add_zero] at q2
      obtain ⟨⟨i1, i2⟩, ⟨rA, rn, rc, rL⟩, lb, at_⟩ := x
      have hR0 : RdS w w.heap.size 3 rA rn rc (dartsV rL) := hrg.2
      replace q2 : w.cell? ⟨bb, off + j * 5 + 2, none⟩ = some (.slice rA rn rc) := q2
      rw [dartsV_rows] at hR0
      have HR := Lib.hid hR0
      have Hrl := Lib.hid (hR0.rlen dC_len (by decide))
      replace hrn : rn ≤ 1000000 := hrn
      replace HNx : RowKit.Hid (timesV (Vs.take (j + 1)) (x1, x2, x3) = timesV (Vs.take j) (x1, x2, x3) + rL.count (x1, x2, x3)) := HNx
      have Q2 := Lib.hid q2
      have HbB := Lib.hid hbB
      have cb := HX0.out.cell (i := 0) rfl
      clear hx hpl hbB hrg hR0 q2
      go_wp2
      clear cb
      go_loopw [5, 7] (fun sn si wr => ∃ q t' : Nat, q ≤ rn ∧ t' ≤ t + q ∧ si = .int .i64 q ∧ sn = .int .i64 t' ∧ RowKit.Hid (Below w.heap.size w wr) ∧ RowKit.Hid (Whole wr b0 25 [.slice (some ⟨bb, off, none⟩) n c, .slice B m k]) ∧ RowKit.Hid (Whole wr b1 36 [.int .i64 x1, .int .i64 x2, .int .i64 x3]) ∧ RowKit.Hid (t + (rL.take q).count (x1, x2, x3) = t')) (fun _ si _ => rn - (intOf si).toNat)
      case atStart => exact ⟨0, t, by omega, by omega, rfl, rfl, HB, HX0, HX1, Lib.hid (by simp)⟩
      case round =>
        clear HB HX0 HX1
        obtain ⟨q, t', hq, ht', rfl, rfl, HZ, HY0, HY1, HI⟩ := hrel
        obtain ⟨wi, gwi⟩ : ∃ z, wr = z := ⟨_, rfl⟩
        rw [gwi] at HZ HY0 HY1 ⊢
        clear gwi
        have y2 := (HZ.out.cell (p := ⟨bb, off + j * 5 + 2, none⟩) HbB.out).trans Q2.out
        have cb := HY0.out.cell (i := 0) rfl
        by_cases hqn : q < rn
        · obtain ⟨d, hd⟩ : ∃ d, rL[q]? = some d := ⟨_, List.getElem?_eq_getElem (by have := Hrl.out; omega)⟩
          have hcn := count_next rL (x1, x2, x3) q d hd
          obtain ⟨rb, ro, rfl, hrB, hrpl⟩ := HR.out.place dC_len (by decide) (by omega)
          have p0 := hrpl q _ hd 0 _ rfl
          have p1 := hrpl q _ hd 1 _ rfl
          have p2 := hrpl q _ hd 2 _ rfl
          simp only [Addr.add_lit, Nat.add_zero] at p0 p1 p2
          have e0 := (HZ.out.cell (p := ⟨rb, ro + q * 3, none⟩) hrB).trans p0
          have e1 := (HZ.out.cell (p := ⟨rb, ro + q * 3 + 1, none⟩) hrB).trans p1
          have e2 := (HZ.out.cell (p := ⟨rb, ro + q * 3 + 2, none⟩) hrB).trans p2
          obtain ⟨d1, d2, d3⟩ := d
          have HCn := Lib.hid hcn
          clear hd hcn hrB hrpl p0 p1 p2
          go_upto_region 8 with fail
          clear cb
          have ldb : ∀ w', Kept Nil_ wi.drew w' → w'.cell? ⟨b0, 0, none⟩ = some (.slice (some ⟨bb, off, none⟩) n c) := fun w' h => h.nil_cell (HY0.out.dr.cell (i := 0) rfl)
          have ldx : ∀ w', Kept Nil_ wi.drew w' → w'.cell? ⟨b1, 0, none⟩ = some (.int .i64 x1) := fun w' h => h.nil_cell (HY1.out.dr.cell (i := 0) rfl)
          have ldy : ∀ w', Kept Nil_ wi.drew w' → w'.cell? ⟨b1, 1, none⟩ = some (.int .i64 x2) := fun w' h => h.nil_cell (HY1.out.dr.cell (i := 1) rfl)
          have ldz : ∀ w', Kept Nil_ wi.drew w' → w'.cell? ⟨b1, 2, none⟩ = some (.int .i64 x3) := fun w' h => h.nil_cell (HY1.out.dr.cell (i := 2) rfl)
          have ldr : ∀ w', Kept Nil_ wi.drew w' → w'.cell? ⟨bb, off + j * 5 + 2, none⟩ = some (.slice (some ⟨rb, ro, none⟩) rn rc) := fun w' h => h.nil_cell (y2)
          have ld0 : ∀ w', Kept Nil_ wi.drew w' → w'.cell? ⟨rb, ro + q * 3, none⟩ = some (.int .i64 d1) := fun w' h => h.nil_cell (e0)
          have ld1 : ∀ w', Kept Nil_ wi.drew w' → w'.cell? ⟨rb, ro + q * 3 + 1, none⟩ = some (.int .i64 d2) := fun w' h => h.nil_cell (e1)
          have ld2 : ∀ w', Kept Nil_ wi.drew w' → w'.cell? ⟨rb, ro + q * 3 + 2, none⟩ = some (.int .i64 d3) := fun w' h => h.nil_cell (e2)
          clear y2 e0 e1 e2
          have heq := fun W => eq_dart_run (d1, d2, d3) (x1, x2, x3) W
          obtain ⟨bq, gbq⟩ : ∃ z, decide ((d1, d2, d3) = (x1, x2, x3)) = z := ⟨_, rfl⟩
          rw [gbq] at heq
          have Gbq := Lib.hid gbq
          clear gbq
          refine wp_region_reg (Nil_) (by kernel_rfl) ?_
          apply wpR_next 0 (some 26)
          · simp only [List.getElem?_toArray, List.getElem?_cons_succ, List.getElem?_cons_zero]; exact rfl
          · rfl
          · kernel_rfl
          · kernel_rfl
          · kernel_rfl
          · exact fun _ _ _ _ h => h
          apply Exists.intro
          apply And.intro
          · apply yr_run; rfl; intro w' hw'; go_simp; (try with_reducible rfl)
          simp only [Act.put, List.setIfInBounds_toArray, List.set_cons_zero, List.set_cons_succ]
          apply wpR_next 1 (some 27)
          · simp only [List.getElem?_toArray, List.getElem?_cons_succ, List.getElem?_cons_zero]; exact rfl
          · rfl
          · kernel_rfl
          · kernel_rfl
          · kernel_rfl
          · exact fun _ _ _ _ h => h
          apply Exists.intro
          apply And.intro
          · apply yr_run; rfl; intro w' hw'; go_simp; (try with_reducible rfl)
          simp only [Act.put, List.setIfInBounds_toArray, List.set_cons_zero, List.set_cons_succ]
          apply wpR_next 2 (some 28)
          · simp only [List.getElem?_toArray, List.getElem?_cons_succ, List.getElem?_cons_zero]; exact rfl
          · rfl
          · kernel_rfl
          · kernel_rfl
          · kernel_rfl
          · exact fun _ _ _ _ h => h
          apply Exists.intro
          apply And.intro
          · apply yr_run; rfl; intro w' hw'; go_simp; (try with_reducible rfl)
          simp only [Act.put, List.setIfInBounds_toArray, List.set_cons_zero, List.set_cons_succ]
          apply wpR_next 3 (some 29)
          · simp only [List.getElem?_toArray, List.getElem?_cons_succ, List.getElem?_cons_zero]; exact rfl
          · rfl
          · kernel_rfl
          · kernel_rfl
          · kernel_rfl
          · exact fun _ _ _ _ h => h
          apply Exists.intro
          apply And.intro
          · apply yr_run; rfl; intro w' hw'; go_simp; (try with_reducible rfl)
          simp only [Act.put, List.setIfInBounds_toArray, List.set_cons_zero, List.set_cons_succ]
          apply wpR_next 4 (some 30)
          · simp only [List.getElem?_toArray, List.getElem?_cons_succ, List.getElem?_cons_zero]; exact rfl
          · rfl
          · kernel_rfl
          · kernel_rfl
          · kernel_rfl
          · exact fun _ _ _ _ h => h
          apply Exists.intro
          apply And.intro
          · apply yr_run; rfl; intro w' hw'; go_simp; (try with_reducible rfl)
          simp only [Act.put, List.setIfInBounds_toArray, List.set_cons_zero, List.set_cons_succ]
          apply wpR_next 5 (some 31)
          · simp only [List.getElem?_toArray, List.getElem?_cons_succ, List.getElem?_cons_zero]; exact rfl
          · rfl
          · kernel_rfl
          · kernel_rfl
          · kernel_rfl
          · exact fun _ _ _ _ h => h
          apply Exists.intro
          apply And.intro
          · apply yr_run; rfl; intro w' hw'; go_simp; (try with_reducible rfl)
          simp only [Act.put, List.setIfInBounds_toArray, List.set_cons_zero, List.set_cons_succ]
          apply wpR_next 6 (some 32)
          · simp only [List.getElem?_toArray, List.getElem?_cons_succ, List.getElem?_cons_zero]; exact rfl
          · rfl
          · kernel_rfl
          · kernel_rfl
          · kernel_rfl
          · exact fun _ _ _ _ h => h
          apply Exists.intro
          apply And.intro
          · apply yr_run; rfl; intro w' hw'; go_simp; (try with_reducible rfl)
          simp only [Act.put, List.setIfInBounds_toArray, List.set_cons_zero, List.set_cons_succ]
          apply wpR_next 7 (some 33)
          · simp only [List.getElem?_toArray, List.getElem?_cons_succ, List.getElem?_cons_zero]; exact rfl
          · rfl
          · kernel_rfl
          · kernel_rfl
          · kernel_rfl
          · exact fun _ _ _ _ h => h
          apply Exists.intro
          apply And.intro
          · apply yr_run; rfl; intro w' hw'; go_simp; (try with_reducible rfl)
          simp only [Act.put, List.setIfInBounds_toArray, List.set_cons_zero, List.set_cons_succ]
          apply wpR_next 8 (some 34)
          · simp only [List.getElem?_toArray, List.getElem?_cons_succ, List.getElem?_cons_zero]; exact rfl
          · rfl
          · kernel_rfl
          · kernel_rfl
          · kernel_rfl
          · exact fun _ _ _ _ h => h
          apply Exists.intro
          apply And.intro
          · apply yr_run; rfl; intro w' hw'; go_simp; (try with_reducible rfl)
          simp only [Act.put, List.setIfInBounds_toArray, List.set_cons_zero, List.set_cons_succ]
          apply wpR_next 9 (some 35)
          · simp only [List.getElem?_toArray, List.getElem?_cons_succ, List.getElem?_cons_zero]; exact rfl
          · rfl
          · kernel_rfl
          · kernel_rfl
          · kernel_rfl
          · exact fun _ _ _ _ h => h
          apply Exists.intro
          apply And.intro
          · apply yr_run; rfl; intro w' hw'; go_simp; (try with_reducible rfl)
          simp only [Act.put, List.setIfInBounds_toArray, List.set_cons_zero, List.set_cons_succ]
          apply wpR_next 10 (some 36)
          · simp only [List.getElem?_toArray, List.getElem?_cons_succ, List.getElem?_cons_zero]; exact rfl
          · rfl
          · kernel_rfl
          · kernel_rfl
          · kernel_rfl
          · exact fun _ _ _ _ h => h
          apply Exists.intro
          apply And.intro
          · exact yr_run (by rfl) (fun w' hw' => exec_binop_agg .eql 36 (.tmp 34) (.tmp 35) 36 rfl rfl rfl (by kernel_rfl) (heq w'))
          simp only [Act.put, List.setIfInBounds_toArray, List.set_cons_zero, List.set_cons_succ]
          refine wpR_done (by kernel_rfl) ?_ _
          intro W3 hw3
          have HX03 := Lib.hid (HY0.out.dr.bl hw3)
          have HX13 := Lib.hid (HY1.out.dr.bl hw3)
          have HB3 := Lib.hid (bel_bl (bel_dr HZ.out) hw3)
          clear hw3 ldb ldx ldy ldz ldr ld0 ld1 ld2 HZ HY0 HY1 heq
          cases bq with
          | true =>
            have HI3 : RowKit.Hid (t + (rL.take (q + 1)).count (x1, x2, x3) = t' + 1) := Lib.hid (by
              have h1 := HCn.out
              rw [if_pos (of_decide_eq_true Gbq.out)] at h1
              have h2 := HI.out
              omega)
            clear HI
            go_wp2
            go_roundw
            case rel => exact ⟨q + 1, t' + 1, by omega, by omega, by go_num, by go_num, HB3, HX03, HX13, HI3⟩
            case measure => simp [intOf]; omega
          | false =>
            have HI3 : RowKit.Hid (t + (rL.take (q + 1)).count (x1, x2, x3) = t') := Lib.hid (by
              have h1 := HCn.out
              rw [if_neg (of_decide_eq_false Gbq.out)] at h1
              have h2 := HI.out
              omega)
            clear HI
            go_wp2
            go_roundw
            case rel => exact ⟨q + 1, t', by omega, by omega, by go_num, by first | rfl | go_num, HB3, HX03, HX13, HI3⟩
            case measure => simp [intOf]; omega
        · obtain rfl : rn = q := by omega
          have HG3 : RowKit.Hid (timesV (Vs.take (j + 1)) (x1, x2, x3) = t') := Lib.hid (by
            rw [HNx.out, HG.out]
            have h1 := HI.out
            rw [List.take_of_length_le (by have := Hrl.out; omega)] at h1
            exact h1)
          clear HI HG
          go_wp2
          go_roundw
          case rel => exact ⟨j + 1, t', by omega, by omega, by go_num, rfl, HZ, HY0, HY1, HG3⟩
          case measure => simp [intOf]; omega
    · obtain rfl : n = j := by omega
      have hT : T = t := by
        have h1 := HG.out
        rw [List.take_of_length_le (by have := Hl.out; omega), GT.out] at h1
        exact h1
      subst hT
      have cb := HX0.out.cell (i := 0) rfl
      clear HG GT
      go_wp2
      go_ret
      exact ⟨rfl, HB.out⟩
end Go.Proofs.Ytdhglhcpgmfpoaa
