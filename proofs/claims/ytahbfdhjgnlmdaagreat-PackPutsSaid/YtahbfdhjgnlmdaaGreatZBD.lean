/- Several texts in one. -/
import Derived.Test.YtahbfdhjgnlmdaaGreatZBC

/- The document's At, times. -/
namespace Go.Proofs.YtahbfdhjgnlmdaaGreat
open Go.RowKit
set_option linter.unusedSimpArgs false
set_option linter.unusedVariables false

set_option maxRecDepth 100000 in
set_option maxHeartbeats 4000000 in
theorem rat_any (A : Option Addr) (n c : Nat) (Vs : List VC) (B : Option Addr) (m k : Nat) (Es : List EC) (x1 x2 x3 : Int) (w : World) (h : DgIn w A n c Vs B m k Es) (hn : n ≤ 140737488355328) (hr : ∀ y ∈ Vs, y.2.1.2.1 ≤ 5864062014634) :
    Calls Tryz.prog 95 #[.agg #[.slice A n c, .slice B m k], .agg #[.int .i64 x1, .int .i64 x2, .int .i64 x3]] w fun e w' =>
      e = .returned (.tuple #[.agg #[.int .i64 (atV Vs (x1, x2, x3)).1.1, .int .i64 (atV Vs (x1, x2, x3)).1.2], .bool (atV Vs (x1, x2, x3)).2]) ∧ Below w.heap.size w w' := by
  have H := Lib.hid h.v
  have HRg := Lib.hid h.r
  have Hhr := Lib.hid hr
  have Hl := Lib.hid (h.v.rlen vC_len (by decide))
  obtain ⟨⟨⟨r1, r2⟩, r3⟩, gr⟩ : ∃ z, atV Vs (x1, x2, x3) = z := ⟨_, rfl⟩
  rw [gr]
  have HG := Lib.hid gr
  clear h hr gr
  go_enter Tryz.func95, Tryz.ntmps95
  go_wp2
  have hx0 : Whole (((w.alloc (.cells #[.slice A n c, .slice B m k] 25)).alloc (.cells #[.int .i64 x1, .int .i64 x2, .int .i64 x3] 49)).alloc (.cells #[.int .i64 0, .int .i64 0] 41)) (w.heap.size) 25 [.slice A n c, .slice B m k] := (((Whole.new_ w 25 [.slice A n c, .slice B m k]).alloc (.cells #[.int .i64 x1, .int .i64 x2, .int .i64 x3] 49)).alloc (.cells #[.int .i64 0, .int .i64 0] 41))
  have hx1 : Whole (((w.alloc (.cells #[.slice A n c, .slice B m k] 25)).alloc (.cells #[.int .i64 x1, .int .i64 x2, .int .i64 x3] 49)).alloc (.cells #[.int .i64 0, .int .i64 0] 41)) (w.heap.size + 1) 49 [.int .i64 x1, .int .i64 x2, .int .i64 x3] := ((Whole.new2 (w := (w.alloc (.cells #[.slice A n c, .slice B m k] 25))) (by simp)).alloc (.cells #[.int .i64 0, .int .i64 0] 41))
  have hx2 : Whole (((w.alloc (.cells #[.slice A n c, .slice B m k] 25)).alloc (.cells #[.int .i64 x1, .int .i64 x2, .int .i64 x3] 49)).alloc (.cells #[.int .i64 0, .int .i64 0] 41)) (w.heap.size + 1 + 1) 41 [.int .i64 0, .int .i64 0] := (Whole.new2 (w := ((w.alloc (.cells #[.slice A n c, .slice B m k] 25)).alloc (.cells #[.int .i64 x1, .int .i64 x2, .int .i64 x3] 49))) (by simp))
  have hbl : Below w.heap.size w (((w.alloc (.cells #[.slice A n c, .slice B m k] 25)).alloc (.cells #[.int .i64 x1, .int .i64 x2, .int .i64 x3] 49)).alloc (.cells #[.int .i64 0, .int .i64 0] 41)) := (bel_al (bel_al (below1 w (.cells #[.slice A n c, .slice B m k] 25)) (.cells #[.int .i64 x1, .int .i64 x2, .int .i64 x3] 49)) (.cells #[.int .i64 0, .int .i64 0] 41))
  have hsz : w.heap.size + 1 + 1 + 1 ≤ ((((w.alloc (.cells #[.slice A n c, .slice B m k] 25)).alloc (.cells #[.int .i64 x1, .int .i64 x2, .int .i64 x3] 49)).alloc (.cells #[.int .i64 0, .int .i64 0] 41))).heap.size := by simp
  obtain ⟨W0, gW0⟩ : ∃ z, (((w.alloc (.cells #[.slice A n c, .slice B m k] 25)).alloc (.cells #[.int .i64 x1, .int .i64 x2, .int .i64 x3] 49)).alloc (.cells #[.int .i64 0, .int .i64 0] 41)) = z := ⟨_, rfl⟩
  rw [gW0] at hx0 hx1 hx2 hbl hsz
  obtain ⟨b2, gb2⟩ : ∃ z, w.heap.size + 1 + 1 = z := ⟨_, rfl⟩
  rw [gb2] at hx2
  obtain ⟨b1, gb1⟩ : ∃ z, w.heap.size + 1 = z := ⟨_, rfl⟩
  rw [gb1] at hx1
  obtain ⟨b0, gb0⟩ : ∃ z, w.heap.size = z := ⟨_, rfl⟩
  rw [gb0] at hx0
  have HX0 := Lib.hid hx0
  have HX1 := Lib.hid hx1
  have HX2 := Lib.hid hx2
  have HB0 := Lib.hid hbl
  have HS0 := Lib.hid hsz
  have Gb0 := Lib.hid gb0
  have Lb0 : RowKit.Hid (w.heap.size ≤ b0) := Lib.hid (by omega)
  have Gb1 := Lib.hid gb1
  have Lb1 : RowKit.Hid (w.heap.size ≤ b1) := Lib.hid (by omega)
  have Gb2 := Lib.hid gb2
  have Lb2 : RowKit.Hid (w.heap.size ≤ b2) := Lib.hid (by omega)
  have N01 : RowKit.Hid (b0 ≠ b1) := Lib.hid (by omega)
  have N02 : RowKit.Hid (b0 ≠ b2) := Lib.hid (by omega)
  have N12 : RowKit.Hid (b1 ≠ b2) := Lib.hid (by omega)
  rw [gW0, gb2, gb1, gb0]
  clear gW0 hbl hsz hx0 hx1 hx2 gb0 gb1 gb2
  go_loopw [6] (fun si wr => ∃ j : Nat, j ≤ n ∧ si = .int .i64 j ∧ RowKit.Hid (Below w.heap.size w wr) ∧ RowKit.Hid (Whole wr b0 25 [.slice A n c, .slice B m k]) ∧ RowKit.Hid (Whole wr b1 49 [.int .i64 x1, .int .i64 x2, .int .i64 x3]) ∧ RowKit.Hid (Whole wr b2 41 [.int .i64 0, .int .i64 0]) ∧ RowKit.Hid (atV (Vs.drop j) (x1, x2, x3) = ((r1, r2), r3))) (fun si _ => n - (intOf si).toNat)
  case atStart => exact ⟨0, by omega, rfl, HB0, HX0, HX1, HX2, HG⟩
  case round =>
    clear HB0 HX0 HX1 HX2 HG
    obtain ⟨j, hj, rfl, HB, HX0, HX1, HX2, HG⟩ := hrel
    obtain ⟨wo, gwo⟩ : ∃ z, wr = z := ⟨_, rfl⟩
    rw [gwo] at HB HX0 HX1 HX2 ⊢
    clear gwo
    by_cases hjn : j < n
    · obtain ⟨x, hx⟩ : ∃ x, Vs[j]? = some x := ⟨_, List.getElem?_eq_getElem (by have := Hl.out; omega)⟩
      have hdr : Vs.drop j = x :: Vs.drop (j + 1) := by
        rw [List.drop_eq_getElem_cons (List.getElem?_eq_some_iff.1 hx).1, (List.getElem?_eq_some_iff.1 hx).2]
      have hg2 := HG.out
      rw [hdr] at hg2
      have HG2 := Lib.hid hg2
      have hrg := HRg.out x (List.mem_of_getElem? hx)
      have hrn := Hhr.out x (List.mem_of_getElem? hx)
      obtain ⟨bb, off, rfl, hbB, hpl⟩ := H.out.place vC_len (by decide) (by omega)
      have Hbo : RowKit.Hid (bb < wo.heap.size) := Lib.hid (Nat.lt_of_lt_of_le hbB HB.out.size)
      have hbw := HB.out
      have q0 := hpl j _ hx 0 _ rfl
      have q1 := hpl j _ hx 1 _ rfl
      have q2 := hpl j _ hx 2 _ rfl
      have q3 := hpl j _ hx 3 _ rfl
      have q4 := hpl j _ hx 4 _ rfl
      simp only [Addr.add_lit, Nat.add_zero] at q0 q1 q2 q3 q4
      have l0 := (hbw.cell (p := ⟨bb, off + j * 5, none⟩) hbB).trans q0
      have l1 := (hbw.cell (p := ⟨bb, off + j * 5 + 1, none⟩) hbB).trans q1
      have l2 := (hbw.cell (p := ⟨bb, off + j * 5 + 2, none⟩) hbB).trans q2
      have l3 := (hbw.cell (p := ⟨bb, off + j * 5 + 3, none⟩) hbB).trans q3
      have l4 := (hbw.cell (p := ⟨bb, off + j * 5 + 4, none⟩) hbB).trans q4
      clear hbw q0 q1 q2 q3 q4
      obtain ⟨⟨i1, i2⟩, ⟨rA, rn, rc, rL⟩, lb, at_⟩ := x
      have hR : RdS w w.heap.size 3 rA rn rc (dartsV rL) := hrg.2
      replace hrn : rn ≤ 5864062014634 := hrn
      have hI : ∀ w', Kept Nil_ wo.drew w' → Calls Tryz.prog 82 #[.slice rA rn rc, .agg #[.int .i64 x1, .int .i64 x2, .int .i64 x3]] w' fun e w'' => e = .returned (.int .i64 (idxD rL (x1, x2, x3))) ∧ Below w'.heap.size w' w'' :=
        fun w' hk => rfindex_any rA rn rc rL (x1, x2, x3) w' ((hR.bl (bel_dr HB.out)).bl (hk.below (Nat.le_refl _) (fun _ _ h => h))) (by omega)
      have HI := Lib.hid hI
      have HE := Lib.hid (And.intro l0 l1)
      have cb := HX0.out.cell (i := 0) rfl
      clear hx hdr hg2 hpl hbB HG hrg hR hI l0 l1 l3 l4
      obtain ⟨ix, gix⟩ : ∃ z, idxD rL (x1, x2, x3) = z := ⟨_, rfl⟩
      rw [gix] at HI
      have Gix := Lib.hid gix
      clear gix
      go_upto_region 4 with fail
      clear cb
      have ldb : ∀ w', Kept Nil_ wo.drew w' → w'.cell? ⟨b0, 0, none⟩ = some (.slice (some ⟨bb, off, none⟩) n c) := fun w' h => h.nil_cell (HX0.out.dr.cell (i := 0) rfl)
      have ldx : ∀ w', Kept Nil_ wo.drew w' → w'.cell? ⟨b1, 0, none⟩ = some (.int .i64 x1) := fun w' h => h.nil_cell (HX1.out.dr.cell (i := 0) rfl)
      have ldy : ∀ w', Kept Nil_ wo.drew w' → w'.cell? ⟨b1, 1, none⟩ = some (.int .i64 x2) := fun w' h => h.nil_cell (HX1.out.dr.cell (i := 1) rfl)
      have ldz : ∀ w', Kept Nil_ wo.drew w' → w'.cell? ⟨b1, 2, none⟩ = some (.int .i64 x3) := fun w' h => h.nil_cell (HX1.out.dr.cell (i := 2) rfl)
      have ldr : ∀ w', Kept Nil_ wo.drew w' → w'.cell? ⟨bb, off + j * 5 + 2, none⟩ = some (.slice rA rn rc) := fun w' h => h.nil_cell (l2)
      clear l2
      refine wp_region_reg (Nil_) (by kernel_rfl) ?_
      apply wpR_next 0 (some 14)
      · simp only [List.getElem?_toArray, List.getElem?_cons_succ, List.getElem?_cons_zero]; exact rfl
      · rfl
      · kernel_rfl
      · kernel_rfl
      · kernel_rfl
      · exact fun _ _ _ _ h => h
      apply Exists.intro
      apply And.intro
      · apply yr_run; rfl; intro w' hw'; go_simp; (try with_reducible rfl)
      simp only [Act.put, List.setIfInBounds_toArray, List.set_cons_zero, List.set_cons_succ]
      apply wpR_next 1 (some 15)
      · simp only [List.getElem?_toArray, List.getElem?_cons_succ, List.getElem?_cons_zero]; exact rfl
      · rfl
      · kernel_rfl
      · kernel_rfl
      · kernel_rfl
      · exact fun _ _ _ _ h => h
      apply Exists.intro
      apply And.intro
      · apply yr_run; rfl; intro w' hw'; go_simp; (try with_reducible rfl)
      simp only [Act.put, List.setIfInBounds_toArray, List.set_cons_zero, List.set_cons_succ]
      apply wpR_next 2 (some 16)
      · simp only [List.getElem?_toArray, List.getElem?_cons_succ, List.getElem?_cons_zero]; exact rfl
      · rfl
      · kernel_rfl
      · kernel_rfl
      · kernel_rfl
      · exact fun _ _ _ _ h => h
      apply Exists.intro
      apply And.intro
      · apply yr_run; rfl; intro w' hw'; go_simp; (try with_reducible rfl)
      simp only [Act.put, List.setIfInBounds_toArray, List.set_cons_zero, List.set_cons_succ]
      apply wpR_next 3 (some 17)
      · simp only [List.getElem?_toArray, List.getElem?_cons_succ, List.getElem?_cons_zero]; exact rfl
      · rfl
      · kernel_rfl
      · kernel_rfl
      · kernel_rfl
      · exact fun _ _ _ _ h => h
      apply Exists.intro
      apply And.intro
      · apply yr_run; rfl; intro w' hw'; go_simp; (try with_reducible rfl)
      simp only [Act.put, List.setIfInBounds_toArray, List.set_cons_zero, List.set_cons_succ]
      apply wpR_next 4 (some 18)
      · simp only [List.getElem?_toArray, List.getElem?_cons_succ, List.getElem?_cons_zero]; exact rfl
      · rfl
      · kernel_rfl
      · kernel_rfl
      · kernel_rfl
      · exact fun _ _ _ _ h => h
      apply Exists.intro
      apply And.intro
      · apply yr_run; rfl; intro w' hw'; go_simp; (try with_reducible rfl)
      simp only [Act.put, List.setIfInBounds_toArray, List.set_cons_zero, List.set_cons_succ]
      apply wpR_next 5 (some 19)
      · simp only [List.getElem?_toArray, List.getElem?_cons_succ, List.getElem?_cons_zero]; exact rfl
      · rfl
      · kernel_rfl
      · kernel_rfl
      · kernel_rfl
      · exact fun _ _ _ _ h => h
      apply Exists.intro
      apply And.intro
      · apply yr_run; rfl; intro w' hw'; go_simp; (try with_reducible rfl)
      simp only [Act.put, List.setIfInBounds_toArray, List.set_cons_zero, List.set_cons_succ]
      apply wpR_next 6 (some 20)
      · simp only [List.getElem?_toArray, List.getElem?_cons_succ, List.getElem?_cons_zero]; exact rfl
      · rfl
      · kernel_rfl
      · kernel_rfl
      · kernel_rfl
      · exact fun _ _ _ _ h => h
      apply Exists.intro
      apply And.intro
      · apply yr_run; rfl; intro w' hw'; go_simp; (try with_reducible rfl)
      simp only [Act.put, List.setIfInBounds_toArray, List.set_cons_zero, List.set_cons_succ]
      apply wpR_next 7 (some 21)
      · simp only [List.getElem?_toArray, List.getElem?_cons_succ, List.getElem?_cons_zero]; exact rfl
      · rfl
      · kernel_rfl
      · kernel_rfl
      · kernel_rfl
      · exact fun _ _ _ _ h => h
      apply Exists.intro
      apply And.intro
      · apply yr_call; rfl; rotate_left; intro w' hw'; exact HI.out w' hw'; intro w'; go_simp
      simp only [Act.put, List.setIfInBounds_toArray, List.set_cons_zero, List.set_cons_succ]
      apply wpR_next 8 (some 22)
      · simp only [List.getElem?_toArray, List.getElem?_cons_succ, List.getElem?_cons_zero]; exact rfl
      · rfl
      · kernel_rfl
      · kernel_rfl
      · kernel_rfl
      · exact fun _ _ _ _ h => h
      apply Exists.intro
      apply And.intro
      · apply yr_run; rfl; intro w' hw'; go_simp; (try with_reducible rfl)
      simp only [Act.put, List.setIfInBounds_toArray, List.set_cons_zero, List.set_cons_succ]
      refine wpR_done (by kernel_rfl) ?_ _
      intro W3 hw3
      have HX03 := Lib.hid (HX0.out.dr.bl hw3)
      have HX13 := Lib.hid (HX1.out.dr.bl hw3)
      have HX23 := Lib.hid (HX2.out.dr.bl hw3)
      have HE3 : RowKit.Hid (Below wo.heap.size wo W3) := Lib.hid (bel_bl (bel_dr (Below.refl _ _)) hw3)
      have HB3 := Lib.hid (bel_bl HB.out HE3.out)
      clear hw3 ldb ldx ldy ldz ldr HB HX0 HX1 HX2 HI
      by_cases hmem : (x1, x2, x3) ∈ rL
      · have e1 : idxD rL (x1, x2, x3) = (rL.idxOf (x1, x2, x3) : Int) := by rw [idxD, if_pos hmem]
        have h0 : 0 ≤ ix := by rw [← Gix.out, e1]; omega
        have hG := HG2.out
        rw [atV_yes _ _ _ hmem] at hG
        simp only [Prod.mk.injEq] at hG
        obtain ⟨⟨rfl, rfl⟩, rfl⟩ := hG
        obtain ⟨l0, l1⟩ := HE.out
        have y0 := (HE3.out.cell (p := ⟨bb, off + j * 5, none⟩) Hbo.out).trans l0
        have y1 := (HE3.out.cell (p := ⟨bb, off + j * 5 + 1, none⟩) Hbo.out).trans l1
        have cb := HX03.out.cell (i := 0) rfl
        have f0 := HX23.out.free 0
        have f1 := HX23.out.free 1
        have k0 := HX23.out.cell (i := 0) rfl
        have k1 := HX23.out.cell (i := 1) rfl
        have HY := Lib.hid ((HX23.out.set_ 0 (.int .i64 i1)).set_ 1 (.int .i64 i2))
        have HBf := Lib.hid ((HB3.out.setCell (p := ⟨b2, 0, none⟩) Lb2.out (.int .i64 i1)).setCell (p := ⟨b2, 1, none⟩) Lb2.out (.int .i64 i2))
        clear HX23 HG2 HB3 HE HE3 l0 l1
        go_wp2
        exact ret_whole2 rfl b2 rfl rfl HY.out Tryz.underlying41 rfl (by kernel_rfl) rfl ⟨rfl, HBf.out⟩
      · have h0 : ¬ 0 ≤ ix := by rw [← Gix.out, show idxD rL (x1, x2, x3) = -1 by rw [idxD, if_neg hmem]]; omega
        have hG := HG2.out
        rw [atV_no _ _ _ hmem] at hG
        have HG4 := Lib.hid hG
        clear hG HG2 HE HE3
        go_wp2
        go_roundw
        case rel => exact ⟨j + 1, by omega, by go_num, HB3, HX03, HX13, HX23, HG4⟩
        case measure => simp [intOf]; omega
    · obtain rfl : n = j := by omega
      have hG := HG.out
      rw [List.drop_eq_nil_of_le (by have := Hl.out; omega)] at hG
      replace hG : (((0 : Int), (0 : Int)), false) = ((r1, r2), r3) := hG
      simp only [Prod.mk.injEq] at hG
      obtain ⟨⟨rfl, rfl⟩, rfl⟩ := hG
      have cb := HX0.out.cell (i := 0) rfl
      have f0 := HX2.out.free 0
      have f1 := HX2.out.free 1
      have k0 := HX2.out.cell (i := 0) rfl
      have k1 := HX2.out.cell (i := 1) rfl
      have HY := Lib.hid ((HX2.out.set_ 0 (.int .i64 0)).set_ 1 (.int .i64 0))
      have HBf := Lib.hid ((HB.out.setCell (p := ⟨b2, 0, none⟩) Lb2.out (.int .i64 0)).setCell (p := ⟨b2, 1, none⟩) Lb2.out (.int .i64 0))
      clear HG HX2
      go_wp2
      exact ret_whole2 rfl b2 rfl rfl HY.out Tryz.underlying41 rfl (by kernel_rfl) rfl ⟨rfl, HBf.out⟩
def timesV (Vs : List VC) (x : D) : Nat := (ringsOf Vs).count x
theorem timesV_next (Vs : List VC) (x : D) (j : Nat) (v : VC) (h : Vs[j]? = some v) : timesV (Vs.take (j + 1)) x = timesV (Vs.take j) x + v.2.1.2.2.2.count x := by
  have : Vs.take (j + 1) = Vs.take j ++ [v] := by rw [List.take_add_one, h]; rfl
  rw [timesV, timesV, this, ringsOf, List.flatMap_append, List.count_append]
  simp [ringsOf]
theorem count_next (L : List D) (x : D) (q : Nat) (d : D) (h : L[q]? = some d) : (L.take (q + 1)).count x = (L.take q).count x + if d = x then 1 else 0 := by
  have : L.take (q + 1) = L.take q ++ [d] := by rw [List.take_add_one, h]; rfl
  rw [this, List.count_append, List.count_singleton]
  simp
set_option maxRecDepth 100000 in
set_option maxHeartbeats 4000000 in
theorem rtimes_any (A : Option Addr) (n c : Nat) (Vs : List VC) (B : Option Addr) (m k : Nat) (Es : List EC) (x1 x2 x3 : Int) (w : World) (h : DgIn w A n c Vs B m k Es) (hn : n ≤ 10000) (hr : ∀ y ∈ Vs, y.2.1.2.1 ≤ 5864062014634) :
    Calls Tryz.prog 63 #[.agg #[.slice A n c, .slice B m k], .agg #[.int .i64 x1, .int .i64 x2, .int .i64 x3]] w fun e w' => e = .returned (.int .i64 (timesV Vs (x1, x2, x3) : Nat)) ∧ Below w.heap.size w w' := by
  have H := Lib.hid h.v
  have HRg := Lib.hid h.r
  have Hhr := Lib.hid hr
  have Hl := Lib.hid (h.v.rlen vC_len (by decide))
  obtain ⟨T, gT⟩ : ∃ z, timesV Vs (x1, x2, x3) = z := ⟨_, rfl⟩
  rw [gT]
  have GT := Lib.hid gT
  clear h hr gT
  go_enter Tryz.func63, Tryz.ntmps63
  go_wp2
  have hx0 : Whole ((w.alloc (.cells #[.slice A n c, .slice B m k] 25)).alloc (.cells #[.int .i64 x1, .int .i64 x2, .int .i64 x3] 49)) (w.heap.size) 25 [.slice A n c, .slice B m k] := ((Whole.new_ w 25 [.slice A n c, .slice B m k]).alloc (.cells #[.int .i64 x1, .int .i64 x2, .int .i64 x3] 49))
  have hx1 : Whole ((w.alloc (.cells #[.slice A n c, .slice B m k] 25)).alloc (.cells #[.int .i64 x1, .int .i64 x2, .int .i64 x3] 49)) (w.heap.size + 1) 49 [.int .i64 x1, .int .i64 x2, .int .i64 x3] := (Whole.new2 (w := (w.alloc (.cells #[.slice A n c, .slice B m k] 25))) (by simp))
  have hbl : Below w.heap.size w ((w.alloc (.cells #[.slice A n c, .slice B m k] 25)).alloc (.cells #[.int .i64 x1, .int .i64 x2, .int .i64 x3] 49)) := (bel_al (below1 w (.cells #[.slice A n c, .slice B m k] 25)) (.cells #[.int .i64 x1, .int .i64 x2, .int .i64 x3] 49))
  have hsz : w.heap.size + 1 + 1 ≤ (((w.alloc (.cells #[.slice A n c, .slice B m k] 25)).alloc (.cells #[.int .i64 x1, .int .i64 x2, .int .i64 x3] 49))).heap.size := by simp
  obtain ⟨W0, gW0⟩ : ∃ z, ((w.alloc (.cells #[.slice A n c, .slice B m k] 25)).alloc (.cells #[.int .i64 x1, .int .i64 x2, .int .i64 x3] 49)) = z := ⟨_, rfl⟩
  rw [gW0] at hx0 hx1 hbl hsz
  obtain ⟨b1, gb1⟩ : ∃ z, w.heap.size + 1 = z := ⟨_, rfl⟩
  rw [gb1] at hx1
  obtain ⟨b0, gb0⟩ : ∃ z, w.heap.size = z := ⟨_, rfl⟩
  rw [gb0] at hx0
  have HX0 := Lib.hid hx0
  have HX1 := Lib.hid hx1
  have HB0 := Lib.hid hbl
  have HS0 := Lib.hid hsz
  have Gb0 := Lib.hid gb0
  have Lb0 : RowKit.Hid (w.heap.size ≤ b0) := Lib.hid (by omega)
  have Gb1 := Lib.hid gb1
  have Lb1 : RowKit.Hid (w.heap.size ≤ b1) := Lib.hid (by omega)
  have N01 : RowKit.Hid (b0 ≠ b1) := Lib.hid (by omega)
  rw [gW0, gb1, gb0]
  clear gW0 hbl hsz hx0 hx1 gb0 gb1
  go_loopw [5, 6] (fun sn si wr => ∃ j t : Nat, j ≤ n ∧ t ≤ j * 5864062014634 ∧ si = .int .i64 j ∧ sn = .int .i64 t ∧ RowKit.Hid (Below w.heap.size w wr) ∧ RowKit.Hid (Whole wr b0 25 [.slice A n c, .slice B m k]) ∧ RowKit.Hid (Whole wr b1 49 [.int .i64 x1, .int .i64 x2, .int .i64 x3]) ∧ RowKit.Hid (timesV (Vs.take j) (x1, x2, x3) = t)) (fun _ si _ => n - (intOf si).toNat)
  case atStart => exact ⟨0, 0, by omega, by omega, rfl, rfl, HB0, HX0, HX1, Lib.hid rfl⟩
  case round =>
    clear HB0 HX0 HX1
    obtain ⟨j, t, hj, ht, rfl, rfl, HB, HX0, HX1, HG⟩ := hrel
    obtain ⟨wo, gwo⟩ : ∃ z, wr = z := ⟨_, rfl⟩
    rw [gwo] at HB HX0 HX1 ⊢
    clear gwo
    by_cases hjn : j < n
    · obtain ⟨x, hx⟩ : ∃ x, Vs[j]? = some x := ⟨_, List.getElem?_eq_getElem (by have := Hl.out; omega)⟩
      have HNx := Lib.hid (timesV_next Vs (x1, x2, x3) j x hx)
      have hrg := HRg.out x (List.mem_of_getElem? hx)
      have hrn := Hhr.out x (List.mem_of_getElem? hx)
      obtain ⟨bb, off, rfl, hbB, hpl⟩ := H.out.place vC_len (by decide) (by omega)
      have q2 := hpl j _ hx 2 _ rfl
      simp only [Addr.add_lit, Nat.add_zero] at q2
      obtain ⟨⟨i1, i2⟩, ⟨rA, rn, rc, rL⟩, lb, at_⟩ := x
      have hR0 : RdS w w.heap.size 3 rA rn rc (dartsV rL) := hrg.2
      replace q2 : w.cell? ⟨bb, off + j * 5 + 2, none⟩ = some (.slice rA rn rc) := q2
      rw [dartsV_rows] at hR0
      have HR := Lib.hid hR0
      have Hrl := Lib.hid (hR0.rlen dC_len (by decide))
      replace hrn : rn ≤ 5864062014634 := hrn
      replace HNx : RowKit.Hid (timesV (Vs.take (j + 1)) (x1, x2, x3) = timesV (Vs.take j) (x1, x2, x3) + rL.count (x1, x2, x3)) := HNx
      have Q2 := Lib.hid q2
      have HbB := Lib.hid hbB
      have cb := HX0.out.cell (i := 0) rfl
      clear hx hpl hbB hrg hR0 q2
      go_wp2
      clear cb
      go_loopw [5, 7] (fun sn si wr => ∃ q t' : Nat, q ≤ rn ∧ t' ≤ t + q ∧ si = .int .i64 q ∧ sn = .int .i64 t' ∧ RowKit.Hid (Below w.heap.size w wr) ∧ RowKit.Hid (Whole wr b0 25 [.slice (some ⟨bb, off, none⟩) n c, .slice B m k]) ∧ RowKit.Hid (Whole wr b1 49 [.int .i64 x1, .int .i64 x2, .int .i64 x3]) ∧ RowKit.Hid (t + (rL.take q).count (x1, x2, x3) = t')) (fun _ si _ => rn - (intOf si).toNat)
      case atStart => exact ⟨0, t, by omega, by omega, rfl, rfl, HB, HX0, HX1, Lib.hid (by simp)⟩
      case round =>
        clear HB HX0 HX1
        obtain ⟨q, t', hq, ht', rfl, rfl, HZ, HY0, HY1, HI⟩ := hrel
        obtain ⟨wi, gwi⟩ : ∃ z, wr = z := ⟨_, rfl⟩
        rw [gwi] at HZ HY0 HY1 ⊢
        clear gwi
        have y2 := (HZ.out.cell (p := ⟨bb, off + j * 5 + 2, none⟩) HbB.out).trans Q2.out
        have cb := HY0.out.cell (i := 0) rfl
        by_cases hqn : q < rn
        · obtain ⟨d, hd⟩ : ∃ d, rL[q]? = some d := ⟨_, List.getElem?_eq_getElem (by have := Hrl.out; omega)⟩
          have hcn := count_next rL (x1, x2, x3) q d hd
          obtain ⟨rb, ro, rfl, hrB, hrpl⟩ := HR.out.place dC_len (by decide) (by omega)
          have p0 := hrpl q _ hd 0 _ rfl
          have p1 := hrpl q _ hd 1 _ rfl
          have p2 := hrpl q _ hd 2 _ rfl
          simp only [Addr.add_lit, Nat.add_zero] at p0 p1 p2
          have e0 := (HZ.out.cell (p := ⟨rb, ro + q * 3, none⟩) hrB).trans p0
          have e1 := (HZ.out.cell (p := ⟨rb, ro + q * 3 + 1, none⟩) hrB).trans p1
          have e2 := (HZ.out.cell (p := ⟨rb, ro + q * 3 + 2, none⟩) hrB).trans p2
          obtain ⟨d1, d2, d3⟩ := d
          have HCn := Lib.hid hcn
          clear hd hcn hrB hrpl p0 p1 p2
          go_upto_region 8 with fail
          clear cb
          have ldb : ∀ w', Kept Nil_ wi.drew w' → w'.cell? ⟨b0, 0, none⟩ = some (.slice (some ⟨bb, off, none⟩) n c) := fun w' h => h.nil_cell (HY0.out.dr.cell (i := 0) rfl)
          have ldx : ∀ w', Kept Nil_ wi.drew w' → w'.cell? ⟨b1, 0, none⟩ = some (.int .i64 x1) := fun w' h => h.nil_cell (HY1.out.dr.cell (i := 0) rfl)
          have ldy : ∀ w', Kept Nil_ wi.drew w' → w'.cell? ⟨b1, 1, none⟩ = some (.int .i64 x2) := fun w' h => h.nil_cell (HY1.out.dr.cell (i := 1) rfl)
          have ldz : ∀ w', Kept Nil_ wi.drew w' → w'.cell? ⟨b1, 2, none⟩ = some (.int .i64 x3) := fun w' h => h.nil_cell (HY1.out.dr.cell (i := 2) rfl)
          have ldr : ∀ w', Kept Nil_ wi.drew w' → w'.cell? ⟨bb, off + j * 5 + 2, none⟩ = some (.slice (some ⟨rb, ro, none⟩) rn rc) := fun w' h => h.nil_cell (y2)
          have ld0 : ∀ w', Kept Nil_ wi.drew w' → w'.cell? ⟨rb, ro + q * 3, none⟩ = some (.int .i64 d1) := fun w' h => h.nil_cell (e0)
          have ld1 : ∀ w', Kept Nil_ wi.drew w' → w'.cell? ⟨rb, ro + q * 3 + 1, none⟩ = some (.int .i64 d2) := fun w' h => h.nil_cell (e1)
          have ld2 : ∀ w', Kept Nil_ wi.drew w' → w'.cell? ⟨rb, ro + q * 3 + 2, none⟩ = some (.int .i64 d3) := fun w' h => h.nil_cell (e2)
          clear y2 e0 e1 e2
          have heq := fun W => eq_dart_run (d1, d2, d3) (x1, x2, x3) W
          obtain ⟨bq, gbq⟩ : ∃ z, decide ((d1, d2, d3) = (x1, x2, x3)) = z := ⟨_, rfl⟩
          rw [gbq] at heq
          have Gbq := Lib.hid gbq
          clear gbq
          refine wp_region_reg (Nil_) (by kernel_rfl) ?_
          apply wpR_next 0 (some 26)
          · simp only [List.getElem?_toArray, List.getElem?_cons_succ, List.getElem?_cons_zero]; exact rfl
          · rfl
          · kernel_rfl
          · kernel_rfl
          · kernel_rfl
          · exact fun _ _ _ _ h => h
          apply Exists.intro
          apply And.intro
          · apply yr_run; rfl; intro w' hw'; go_simp; (try with_reducible rfl)
          simp only [Act.put, List.setIfInBounds_toArray, List.set_cons_zero, List.set_cons_succ]
          apply wpR_next 1 (some 27)
          · simp only [List.getElem?_toArray, List.getElem?_cons_succ, List.getElem?_cons_zero]; exact rfl
          · rfl
          · kernel_rfl
          · kernel_rfl
          · kernel_rfl
          · exact fun _ _ _ _ h => h
          apply Exists.intro
          apply And.intro
          · apply yr_run; rfl; intro w' hw'; go_simp; (try with_reducible rfl)
          simp only [Act.put, List.setIfInBounds_toArray, List.set_cons_zero, List.set_cons_succ]
          apply wpR_next 2 (some 28)
          · simp only [List.getElem?_toArray, List.getElem?_cons_succ, List.getElem?_cons_zero]; exact rfl
          · rfl
          · kernel_rfl
          · kernel_rfl
          · kernel_rfl
          · exact fun _ _ _ _ h => h
          apply Exists.intro
          apply And.intro
          · apply yr_run; rfl; intro w' hw'; go_simp; (try with_reducible rfl)
          simp only [Act.put, List.setIfInBounds_toArray, List.set_cons_zero, List.set_cons_succ]
          apply wpR_next 3 (some 29)
          · simp only [List.getElem?_toArray, List.getElem?_cons_succ, List.getElem?_cons_zero]; exact rfl
          · rfl
          · kernel_rfl
          · kernel_rfl
          · kernel_rfl
          · exact fun _ _ _ _ h => h
          apply Exists.intro
          apply And.intro
          · apply yr_run; rfl; intro w' hw'; go_simp; (try with_reducible rfl)
          simp only [Act.put, List.setIfInBounds_toArray, List.set_cons_zero, List.set_cons_succ]
          apply wpR_next 4 (some 30)
          · simp only [List.getElem?_toArray, List.getElem?_cons_succ, List.getElem?_cons_zero]; exact rfl
          · rfl
          · kernel_rfl
          · kernel_rfl
          · kernel_rfl
          · exact fun _ _ _ _ h => h
          apply Exists.intro
          apply And.intro
          · apply yr_run; rfl; intro w' hw'; go_simp; (try with_reducible rfl)
          simp only [Act.put, List.setIfInBounds_toArray, List.set_cons_zero, List.set_cons_succ]
          apply wpR_next 5 (some 31)
          · simp only [List.getElem?_toArray, List.getElem?_cons_succ, List.getElem?_cons_zero]; exact rfl
          · rfl
          · kernel_rfl
          · kernel_rfl
          · kernel_rfl
          · exact fun _ _ _ _ h => h
          apply Exists.intro
          apply And.intro
          · apply yr_run; rfl; intro w' hw'; go_simp; (try with_reducible rfl)
          simp only [Act.put, List.setIfInBounds_toArray, List.set_cons_zero, List.set_cons_succ]
          apply wpR_next 6 (some 32)
          · simp only [List.getElem?_toArray, List.getElem?_cons_succ, List.getElem?_cons_zero]; exact rfl
          · rfl
          · kernel_rfl
          · kernel_rfl
          · kernel_rfl
          · exact fun _ _ _ _ h => h
          apply Exists.intro
          apply And.intro
          · apply yr_run; rfl; intro w' hw'; go_simp; (try with_reducible rfl)
          simp only [Act.put, List.setIfInBounds_toArray, List.set_cons_zero, List.set_cons_succ]
          apply wpR_next 7 (some 33)
          · simp only [List.getElem?_toArray, List.getElem?_cons_succ, List.getElem?_cons_zero]; exact rfl
          · rfl
          · kernel_rfl
          · kernel_rfl
          · kernel_rfl
          · exact fun _ _ _ _ h => h
          apply Exists.intro
          apply And.intro
          · apply yr_run; rfl; intro w' hw'; go_simp; (try with_reducible rfl)
          simp only [Act.put, List.setIfInBounds_toArray, List.set_cons_zero, List.set_cons_succ]
          apply wpR_next 8 (some 34)
          · simp only [List.getElem?_toArray, List.getElem?_cons_succ, List.getElem?_cons_zero]; exact rfl
          · rfl
          · kernel_rfl
          · kernel_rfl
          · kernel_rfl
          · exact fun _ _ _ _ h => h
          apply Exists.intro
          apply And.intro
          · apply yr_run; rfl; intro w' hw'; go_simp; (try with_reducible rfl)
          simp only [Act.put, List.setIfInBounds_toArray, List.set_cons_zero, List.set_cons_succ]
          apply wpR_next 9 (some 35)
          · simp only [List.getElem?_toArray, List.getElem?_cons_succ, List.getElem?_cons_zero]; exact rfl
          · rfl
          · kernel_rfl
          · kernel_rfl
          · kernel_rfl
          · exact fun _ _ _ _ h => h
          apply Exists.intro
          apply And.intro
          · apply yr_run; rfl; intro w' hw'; go_simp; (try with_reducible rfl)
          simp only [Act.put, List.setIfInBounds_toArray, List.set_cons_zero, List.set_cons_succ]
          apply wpR_next 10 (some 36)
          · simp only [List.getElem?_toArray, List.getElem?_cons_succ, List.getElem?_cons_zero]; exact rfl
          · rfl
          · kernel_rfl
          · kernel_rfl
          · kernel_rfl
          · exact fun _ _ _ _ h => h
          apply Exists.intro
          apply And.intro
          · exact yr_run (by rfl) (fun w' hw' => exec_binop_agg .eql 49 (.tmp 34) (.tmp 35) 49 rfl rfl rfl (by kernel_rfl) (heq w'))
          simp only [Act.put, List.setIfInBounds_toArray, List.set_cons_zero, List.set_cons_succ]
          refine wpR_done (by kernel_rfl) ?_ _
          intro W3 hw3
          have HX03 := Lib.hid (HY0.out.dr.bl hw3)
          have HX13 := Lib.hid (HY1.out.dr.bl hw3)
          have HB3 := Lib.hid (bel_bl (bel_dr HZ.out) hw3)
          clear hw3 ldb ldx ldy ldz ldr ld0 ld1 ld2 HZ HY0 HY1 heq
          cases bq with
          | true =>
            have HI3 : RowKit.Hid (t + (rL.take (q + 1)).count (x1, x2, x3) = t' + 1) := Lib.hid (by
              have h1 := HCn.out
              rw [if_pos (of_decide_eq_true Gbq.out)] at h1
              have h2 := HI.out
              omega)
            clear HI
            go_wp2
            go_roundw
            case rel => exact ⟨q + 1, t' + 1, by omega, by omega, by go_num, by go_num, HB3, HX03, HX13, HI3⟩
            case measure => simp [intOf]; omega
          | false =>
            have HI3 : RowKit.Hid (t + (rL.take (q + 1)).count (x1, x2, x3) = t') := Lib.hid (by
              have h1 := HCn.out
              rw [if_neg (of_decide_eq_false Gbq.out)] at h1
              have h2 := HI.out
              omega)
            clear HI
            go_wp2
            go_roundw
            case rel => exact ⟨q + 1, t', by omega, by omega, by go_num, by first | rfl | go_num, HB3, HX03, HX13, HI3⟩
            case measure => simp [intOf]; omega
        · obtain rfl : rn = q := by omega
          have HG3 : RowKit.Hid (timesV (Vs.take (j + 1)) (x1, x2, x3) = t') := Lib.hid (by
            rw [HNx.out, HG.out]
            have h1 := HI.out
            rw [List.take_of_length_le (by have := Hrl.out; omega)] at h1
            exact h1)
          clear HI HG
          go_wp2
          go_roundw
          case rel => exact ⟨j + 1, t', by omega, by omega, by go_num, rfl, HZ, HY0, HY1, HG3⟩
          case measure => simp [intOf]; omega
    · obtain rfl : n = j := by omega
      have hT : T = t := by
        have h1 := HG.out
        rw [List.take_of_length_le (by have := Hl.out; omega), GT.out] at h1
        exact h1
      subst hT
      have cb := HX0.out.cell (i := 0) rfl
      clear HG GT
      go_wp2
      go_ret
      exact ⟨rfl, HB.out⟩
end Go.Proofs.YtahbfdhjgnlmdaaGreat

/- The document's rise, IDs, Names. -/
namespace Go.Proofs.YtahbfdhjgnlmdaaGreat
open Go.RowKit
set_option linter.unusedSimpArgs false
set_option linter.unusedVariables false

set_option maxRecDepth 100000 in
set_option maxHeartbeats 4000000 in
theorem rrise_any (A : Option Addr) (n c : Nat) (L : List (Int × Int)) (w : World) (h : RdS w w.heap.size 2 A n c (rowsV idC L)) (hn : n ≤ 1000000) :
    Calls Tryz.prog 38 #[.slice A n c] w fun e w' => e = .returned (.bool (riseF none L)) ∧ Below w.heap.size w w' := by
  have H := Lib.hid h
  have Hl := Lib.hid (h.rlen idC_len (by decide))
  obtain ⟨b, gb⟩ : ∃ z, riseF none L = z := ⟨_, rfl⟩
  rw [gb]
  have HG0 := Lib.hid gb
  clear h gb
  go_enter Tryz.func38, Tryz.ntmps38
  go_wp2
  go_loopw [3] (fun si wr => ∃ (j : Nat) (o : Option (Int × Int)), j ≤ n ∧ si = .int .i64 j ∧ RowKit.Hid (Below w.heap.size w wr) ∧ RowKit.Hid ((o = none ↔ j = 0) ∧ ∀ y, o = some y → L[j - 1]? = some y) ∧ RowKit.Hid (riseF o (L.drop j) = b)) (fun si _ => n - (intOf si).toNat)
  case atStart => exact ⟨0, none, by omega, rfl, Lib.hid (Below.refl _ _), Lib.hid ⟨by simp, fun y h => (by cases h)⟩, HG0⟩
  case round =>
    clear HG0
    obtain ⟨j, o, hj, rfl, HB, HO, HG⟩ := hrel
    obtain ⟨wo, gwo⟩ : ∃ z, wr = z := ⟨_, rfl⟩
    rw [gwo] at HB ⊢
    clear gwo
    by_cases hjn : j < n
    · obtain ⟨x, hx⟩ : ∃ x, L[j]? = some x := ⟨_, List.getElem?_eq_getElem (by have := Hl.out; omega)⟩
      have hdr : L.drop j = x :: L.drop (j + 1) := by
        rw [List.drop_eq_getElem_cons (List.getElem?_eq_some_iff.1 hx).1, (List.getElem?_eq_some_iff.1 hx).2]
      have hg2 := HG.out
      rw [hdr] at hg2
      have HG2 := Lib.hid hg2
      have HXo : RowKit.Hid ((some x = none ↔ j + 1 = 0) ∧ ∀ y, some x = some y → L[j + 1 - 1]? = some y) := Lib.hid ⟨by simp, fun y e => by rw [← e]; exact hx⟩
      obtain ⟨bb, off, rfl, hbB, hpl⟩ := H.out.place idC_len (by decide) (by omega)
      have HbB := Lib.hid hbB
      have HPL := Lib.hid hpl
      have hbw := HB.out
      have q0 := hpl j _ hx 0 _ rfl
      have q1 := hpl j _ hx 1 _ rfl
      simp only [Addr.add_lit, Nat.add_zero] at q0 q1
      have l0 := (hbw.cell (p := ⟨bb, off + j * 2, none⟩) hbB).trans q0
      have l1 := (hbw.cell (p := ⟨bb, off + j * 2 + 1, none⟩) hbB).trans q1
      clear hbw
      obtain ⟨i1, i2⟩ := x
      have Q := Lib.hid (And.intro q0 q1)
      clear hx hdr hg2 hbB hpl q0 q1 HG
      go_wp2_with fail
      refine (rmay_any i1 i2 _).mono ?_
      rintro e W2 ⟨rfl, hb⟩
      have HB2 := Lib.hid (bel_bl HB.out hb)
      clear hb l0 l1 HB
      obtain ⟨bm, gbm⟩ : ∃ z, mayI i1 i2 = z := ⟨_, rfl⟩
      rw [gbm]
      have Gbm := Lib.hid gbm
      clear gbm
      cases bm with
      | false =>
        have hb0 : b = false := by
          rw [← HG2.out]; simp [riseF, Gbm.out]
        subst hb0
        go_upto_region 5 with fail
        refine wp_region_reg (Nil_) (by kernel_rfl) ?_
        apply wpR_next 0 (some 16)
        · simp only [List.getElem?_toArray, List.getElem?_cons_succ, List.getElem?_cons_zero]; exact rfl
        · rfl
        · kernel_rfl
        · kernel_rfl
        · kernel_rfl
        · exact fun _ _ _ _ h => h
        apply Exists.intro
        apply And.intro
        · apply yr_run; rfl; intro w' hw'; go_simp; (try with_reducible rfl)
        simp only [Act.put, List.setIfInBounds_toArray, List.set_cons_zero, List.set_cons_succ]
        apply wpR_next 1 (some 17)
        · simp only [List.getElem?_toArray, List.getElem?_cons_succ, List.getElem?_cons_zero]; exact rfl
        · rfl
        · kernel_rfl
        · kernel_rfl
        · kernel_rfl
        · exact fun _ _ _ _ h => h
        apply Exists.intro
        apply And.intro
        · apply yr_run; rfl; intro w' hw'; go_simp; (try with_reducible rfl)
        simp only [Act.put, List.setIfInBounds_toArray, List.set_cons_zero, List.set_cons_succ]
        apply wpR_next 2 (some 18)
        · simp only [List.getElem?_toArray, List.getElem?_cons_succ, List.getElem?_cons_zero]; exact rfl
        · rfl
        · kernel_rfl
        · kernel_rfl
        · kernel_rfl
        · exact fun _ _ _ _ h => h
        apply Exists.intro
        apply And.intro
        · apply yr_run; rfl; intro w' hw'; go_simp; (try with_reducible rfl)
        simp only [Act.put, List.setIfInBounds_toArray, List.set_cons_zero, List.set_cons_succ]
        apply wpR_next 3 (some 19)
        · simp only [List.getElem?_toArray, List.getElem?_cons_succ, List.getElem?_cons_zero]; exact rfl
        · rfl
        · kernel_rfl
        · kernel_rfl
        · kernel_rfl
        · exact fun _ _ _ _ h => h
        apply Exists.intro
        apply And.intro
        · exact yr_skip (by rfl)
        simp only [Act.put, List.setIfInBounds_toArray, List.set_cons_zero, List.set_cons_succ]
        apply wpR_next 4 (some 20)
        · simp only [List.getElem?_toArray, List.getElem?_cons_succ, List.getElem?_cons_zero]; exact rfl
        · rfl
        · kernel_rfl
        · kernel_rfl
        · kernel_rfl
        · exact fun _ _ _ _ h => h
        apply Exists.intro
        apply And.intro
        · exact yr_skip (by rfl)
        simp only [Act.put, List.setIfInBounds_toArray, List.set_cons_zero, List.set_cons_succ]
        apply wpR_next 5 (some 21)
        · simp only [List.getElem?_toArray, List.getElem?_cons_succ, List.getElem?_cons_zero]; exact rfl
        · rfl
        · kernel_rfl
        · kernel_rfl
        · kernel_rfl
        · exact fun _ _ _ _ h => h
        apply Exists.intro
        apply And.intro
        · exact yr_skip (by rfl)
        simp only [Act.put, List.setIfInBounds_toArray, List.set_cons_zero, List.set_cons_succ]
        apply wpR_next 6 (some 22)
        · simp only [List.getElem?_toArray, List.getElem?_cons_succ, List.getElem?_cons_zero]; exact rfl
        · rfl
        · kernel_rfl
        · kernel_rfl
        · kernel_rfl
        · exact fun _ _ _ _ h => h
        apply Exists.intro
        apply And.intro
        · exact yr_skip (by rfl)
        simp only [Act.put, List.setIfInBounds_toArray, List.set_cons_zero, List.set_cons_succ]
        apply wpR_next 7 (some 23)
        · simp only [List.getElem?_toArray, List.getElem?_cons_succ, List.getElem?_cons_zero]; exact rfl
        · rfl
        · kernel_rfl
        · kernel_rfl
        · kernel_rfl
        · exact fun _ _ _ _ h => h
        apply Exists.intro
        apply And.intro
        · exact yr_skip (by rfl)
        simp only [Act.put, List.setIfInBounds_toArray, List.set_cons_zero, List.set_cons_succ]
        apply wpR_next 8 (some 24)
        · simp only [List.getElem?_toArray, List.getElem?_cons_succ, List.getElem?_cons_zero]; exact rfl
        · rfl
        · kernel_rfl
        · kernel_rfl
        · kernel_rfl
        · exact fun _ _ _ _ h => h
        apply Exists.intro
        apply And.intro
        · exact yr_skip (by rfl)
        simp only [Act.put, List.setIfInBounds_toArray, List.set_cons_zero, List.set_cons_succ]
        apply wpR_next 9 (some 25)
        · simp only [List.getElem?_toArray, List.getElem?_cons_succ, List.getElem?_cons_zero]; exact rfl
        · rfl
        · kernel_rfl
        · kernel_rfl
        · kernel_rfl
        · exact fun _ _ _ _ h => h
        apply Exists.intro
        apply And.intro
        · exact yr_skip (by rfl)
        simp only [Act.put, List.setIfInBounds_toArray, List.set_cons_zero, List.set_cons_succ]
        apply wpR_next 10 (some 26)
        · simp only [List.getElem?_toArray, List.getElem?_cons_succ, List.getElem?_cons_zero]; exact rfl
        · rfl
        · kernel_rfl
        · kernel_rfl
        · kernel_rfl
        · exact fun _ _ _ _ h => h
        apply Exists.intro
        apply And.intro
        · exact yr_skip (by rfl)
        simp only [Act.put, List.setIfInBounds_toArray, List.set_cons_zero, List.set_cons_succ]
        apply wpR_next 11 (some 27)
        · simp only [List.getElem?_toArray, List.getElem?_cons_succ, List.getElem?_cons_zero]; exact rfl
        · rfl
        · kernel_rfl
        · kernel_rfl
        · kernel_rfl
        · exact fun _ _ _ _ h => h
        apply Exists.intro
        apply And.intro
        · exact yr_skip (by rfl)
        simp only [Act.put, List.setIfInBounds_toArray, List.set_cons_zero, List.set_cons_succ]
        apply wpR_next 12 (some 28)
        · simp only [List.getElem?_toArray, List.getElem?_cons_succ, List.getElem?_cons_zero]; exact rfl
        · rfl
        · kernel_rfl
        · kernel_rfl
        · kernel_rfl
        · exact fun _ _ _ _ h => h
        apply Exists.intro
        apply And.intro
        · exact yr_skip (by rfl)
        simp only [Act.put, List.setIfInBounds_toArray, List.set_cons_zero, List.set_cons_succ]
        apply wpR_next 13 (some 29)
        · simp only [List.getElem?_toArray, List.getElem?_cons_succ, List.getElem?_cons_zero]; exact rfl
        · rfl
        · kernel_rfl
        · kernel_rfl
        · kernel_rfl
        · exact fun _ _ _ _ h => h
        apply Exists.intro
        apply And.intro
        · exact yr_skip (by rfl)
        simp only [Act.put, List.setIfInBounds_toArray, List.set_cons_zero, List.set_cons_succ]
        apply wpR_next 14 (some 30)
        · simp only [List.getElem?_toArray, List.getElem?_cons_succ, List.getElem?_cons_zero]; exact rfl
        · rfl
        · kernel_rfl
        · kernel_rfl
        · kernel_rfl
        · exact fun _ _ _ _ h => h
        apply Exists.intro
        apply And.intro
        · exact yr_skip (by rfl)
        simp only [Act.put, List.setIfInBounds_toArray, List.set_cons_zero, List.set_cons_succ]
        apply wpR_next 15 (some 31)
        · simp only [List.getElem?_toArray, List.getElem?_cons_succ, List.getElem?_cons_zero]; exact rfl
        · rfl
        · kernel_rfl
        · kernel_rfl
        · kernel_rfl
        · exact fun _ _ _ _ h => h
        apply Exists.intro
        apply And.intro
        · exact yr_skip (by rfl)
        simp only [Act.put, List.setIfInBounds_toArray, List.set_cons_zero, List.set_cons_succ]
        apply wpR_next 16 (some 32)
        · simp only [List.getElem?_toArray, List.getElem?_cons_succ, List.getElem?_cons_zero]; exact rfl
        · rfl
        · kernel_rfl
        · kernel_rfl
        · kernel_rfl
        · exact fun _ _ _ _ h => h
        apply Exists.intro
        apply And.intro
        · exact yr_skip (by rfl)
        simp only [Act.put, List.setIfInBounds_toArray, List.set_cons_zero, List.set_cons_succ]
        apply wpR_next 17 (some 33)
        · simp only [List.getElem?_toArray, List.getElem?_cons_succ, List.getElem?_cons_zero]; exact rfl
        · rfl
        · kernel_rfl
        · kernel_rfl
        · kernel_rfl
        · exact fun _ _ _ _ h => h
        apply Exists.intro
        apply And.intro
        · exact yr_skip (by rfl)
        simp only [Act.put, List.setIfInBounds_toArray, List.set_cons_zero, List.set_cons_succ]
        apply wpR_next 18 (some 34)
        · simp only [List.getElem?_toArray, List.getElem?_cons_succ, List.getElem?_cons_zero]; exact rfl
        · rfl
        · kernel_rfl
        · kernel_rfl
        · kernel_rfl
        · exact fun _ _ _ _ h => h
        apply Exists.intro
        apply And.intro
        · apply yr_run; rfl; intro w' hw'; go_simp; (try with_reducible rfl)
        simp only [Act.put, List.setIfInBounds_toArray, List.set_cons_zero, List.set_cons_succ]
        refine wpR_done (by kernel_rfl) ?_ _
        intro W3 hw3
        have HB3 := Lib.hid (bel_bl (bel_dr HB2.out) hw3)
        clear hw3
        go_wp2
        go_ret
        exact ⟨rfl, HB3.out⟩
      | true =>
        rcases Nat.eq_zero_or_pos j with rfl | hj0
        · obtain rfl : o = none := HO.out.1.2 rfl
          have HG3 : RowKit.Hid (riseF (some (i1, i2)) (L.drop (0 + 1)) = b) := Lib.hid (by rw [← HG2.out]; simp [riseF, Gbm.out])
          rw [show ((0 : Nat) : Int) = 0 from rfl]
          go_upto_region 5 with fail
          refine wp_region_reg (Nil_) (by kernel_rfl) ?_
          apply wpR_next 0 (some 16)
          · simp only [List.getElem?_toArray, List.getElem?_cons_succ, List.getElem?_cons_zero]; exact rfl
          · rfl
          · kernel_rfl
          · kernel_rfl
          · kernel_rfl
          · exact fun _ _ _ _ h => h
          apply Exists.intro
          apply And.intro
          · apply yr_run; rfl; intro w' hw'; go_simp; (try with_reducible rfl)
          simp only [Act.put, List.setIfInBounds_toArray, List.set_cons_zero, List.set_cons_succ]
          apply wpR_next 1 (some 17)
          · simp only [List.getElem?_toArray, List.getElem?_cons_succ, List.getElem?_cons_zero]; exact rfl
          · rfl
          · kernel_rfl
          · kernel_rfl
          · kernel_rfl
          · exact fun _ _ _ _ h => h
          apply Exists.intro
          apply And.intro
          · apply yr_run; rfl; intro w' hw'; go_simp; (try with_reducible rfl)
          simp only [Act.put, List.setIfInBounds_toArray, List.set_cons_zero, List.set_cons_succ]
          apply wpR_next 2 (some 18)
          · simp only [List.getElem?_toArray, List.getElem?_cons_succ, List.getElem?_cons_zero]; exact rfl
          · rfl
          · kernel_rfl
          · kernel_rfl
          · kernel_rfl
          · exact fun _ _ _ _ h => h
          apply Exists.intro
          apply And.intro
          · apply yr_run; rfl; intro w' hw'; go_simp; (try with_reducible rfl)
          simp only [Act.put, List.setIfInBounds_toArray, List.set_cons_zero, List.set_cons_succ]
          apply wpR_next 3 (some 19)
          · simp only [List.getElem?_toArray, List.getElem?_cons_succ, List.getElem?_cons_zero]; exact rfl
          · rfl
          · kernel_rfl
          · kernel_rfl
          · kernel_rfl
          · exact fun _ _ _ _ h => h
          apply Exists.intro
          apply And.intro
          · apply yr_run; rfl; intro w' hw'; go_simp; (try with_reducible rfl)
          simp only [Act.put, List.setIfInBounds_toArray, List.set_cons_zero, List.set_cons_succ]
          apply wpR_next 4 (some 20)
          · simp only [List.getElem?_toArray, List.getElem?_cons_succ, List.getElem?_cons_zero]; exact rfl
          · rfl
          · kernel_rfl
          · kernel_rfl
          · kernel_rfl
          · exact fun _ _ _ _ h => h
          apply Exists.intro
          apply And.intro
          · apply yr_run; rfl; intro w' hw'; go_simp; (try with_reducible rfl)
          simp only [Act.put, List.setIfInBounds_toArray, List.set_cons_zero, List.set_cons_succ]
          apply wpR_next 5 (some 21)
          · simp only [List.getElem?_toArray, List.getElem?_cons_succ, List.getElem?_cons_zero]; exact rfl
          · rfl
          · kernel_rfl
          · kernel_rfl
          · kernel_rfl
          · exact fun _ _ _ _ h => h
          apply Exists.intro
          apply And.intro
          · apply yr_run; rfl; intro w' hw'; go_simp; (try with_reducible rfl)
          simp only [Act.put, List.setIfInBounds_toArray, List.set_cons_zero, List.set_cons_succ]
          apply wpR_next 6 (some 22)
          · simp only [List.getElem?_toArray, List.getElem?_cons_succ, List.getElem?_cons_zero]; exact rfl
          · rfl
          · kernel_rfl
          · kernel_rfl
          · kernel_rfl
          · exact fun _ _ _ _ h => h
          apply Exists.intro
          apply And.intro
          · exact yr_skip (by rfl)
          simp only [Act.put, List.setIfInBounds_toArray, List.set_cons_zero, List.set_cons_succ]
          apply wpR_next 7 (some 23)
          · simp only [List.getElem?_toArray, List.getElem?_cons_succ, List.getElem?_cons_zero]; exact rfl
          · rfl
          · kernel_rfl
          · kernel_rfl
          · kernel_rfl
          · exact fun _ _ _ _ h => h
          apply Exists.intro
          apply And.intro
          · exact yr_skip (by rfl)
          simp only [Act.put, List.setIfInBounds_toArray, List.set_cons_zero, List.set_cons_succ]
          apply wpR_next 8 (some 24)
          · simp only [List.getElem?_toArray, List.getElem?_cons_succ, List.getElem?_cons_zero]; exact rfl
          · rfl
          · kernel_rfl
          · kernel_rfl
          · kernel_rfl
          · exact fun _ _ _ _ h => h
          apply Exists.intro
          apply And.intro
          · exact yr_skip (by rfl)
          simp only [Act.put, List.setIfInBounds_toArray, List.set_cons_zero, List.set_cons_succ]
          apply wpR_next 9 (some 25)
          · simp only [List.getElem?_toArray, List.getElem?_cons_succ, List.getElem?_cons_zero]; exact rfl
          · rfl
          · kernel_rfl
          · kernel_rfl
          · kernel_rfl
          · exact fun _ _ _ _ h => h
          apply Exists.intro
          apply And.intro
          · exact yr_skip (by rfl)
          simp only [Act.put, List.setIfInBounds_toArray, List.set_cons_zero, List.set_cons_succ]
          apply wpR_next 10 (some 26)
          · simp only [List.getElem?_toArray, List.getElem?_cons_succ, List.getElem?_cons_zero]; exact rfl
          · rfl
          · kernel_rfl
          · kernel_rfl
          · kernel_rfl
          · exact fun _ _ _ _ h => h
          apply Exists.intro
          apply And.intro
          · exact yr_skip (by rfl)
          simp only [Act.put, List.setIfInBounds_toArray, List.set_cons_zero, List.set_cons_succ]
          apply wpR_next 11 (some 27)
          · simp only [List.getElem?_toArray, List.getElem?_cons_succ, List.getElem?_cons_zero]; exact rfl
          · rfl
          · kernel_rfl
          · kernel_rfl
          · kernel_rfl
          · exact fun _ _ _ _ h => h
          apply Exists.intro
          apply And.intro
          · exact yr_skip (by rfl)
          simp only [Act.put, List.setIfInBounds_toArray, List.set_cons_zero, List.set_cons_succ]
          apply wpR_next 12 (some 28)
          · simp only [List.getElem?_toArray, List.getElem?_cons_succ, List.getElem?_cons_zero]; exact rfl
          · rfl
          · kernel_rfl
          · kernel_rfl
          · kernel_rfl
          · exact fun _ _ _ _ h => h
          apply Exists.intro
          apply And.intro
          · exact yr_skip (by rfl)
          simp only [Act.put, List.setIfInBounds_toArray, List.set_cons_zero, List.set_cons_succ]
          apply wpR_next 13 (some 29)
          · simp only [List.getElem?_toArray, List.getElem?_cons_succ, List.getElem?_cons_zero]; exact rfl
          · rfl
          · kernel_rfl
          · kernel_rfl
          · kernel_rfl
          · exact fun _ _ _ _ h => h
          apply Exists.intro
          apply And.intro
          · exact yr_skip (by rfl)
          simp only [Act.put, List.setIfInBounds_toArray, List.set_cons_zero, List.set_cons_succ]
          apply wpR_next 14 (some 30)
          · simp only [List.getElem?_toArray, List.getElem?_cons_succ, List.getElem?_cons_zero]; exact rfl
          · rfl
          · kernel_rfl
          · kernel_rfl
          · kernel_rfl
          · exact fun _ _ _ _ h => h
          apply Exists.intro
          apply And.intro
          · exact yr_skip (by rfl)
          simp only [Act.put, List.setIfInBounds_toArray, List.set_cons_zero, List.set_cons_succ]
          apply wpR_next 15 (some 31)
          · simp only [List.getElem?_toArray, List.getElem?_cons_succ, List.getElem?_cons_zero]; exact rfl
          · rfl
          · kernel_rfl
          · kernel_rfl
          · kernel_rfl
          · exact fun _ _ _ _ h => h
          apply Exists.intro
          apply And.intro
          · exact yr_skip (by rfl)
          simp only [Act.put, List.setIfInBounds_toArray, List.set_cons_zero, List.set_cons_succ]
          apply wpR_next 16 (some 32)
          · simp only [List.getElem?_toArray, List.getElem?_cons_succ, List.getElem?_cons_zero]; exact rfl
          · rfl
          · kernel_rfl
          · kernel_rfl
          · kernel_rfl
          · exact fun _ _ _ _ h => h
          apply Exists.intro
          apply And.intro
          · exact yr_skip (by rfl)
          simp only [Act.put, List.setIfInBounds_toArray, List.set_cons_zero, List.set_cons_succ]
          apply wpR_next 17 (some 33)
          · simp only [List.getElem?_toArray, List.getElem?_cons_succ, List.getElem?_cons_zero]; exact rfl
          · rfl
          · kernel_rfl
          · kernel_rfl
          · kernel_rfl
          · exact fun _ _ _ _ h => h
          apply Exists.intro
          apply And.intro
          · apply yr_run; rfl; intro w' hw'; go_simp; (try with_reducible rfl)
          simp only [Act.put, List.setIfInBounds_toArray, List.set_cons_zero, List.set_cons_succ]
          apply wpR_next 18 (some 34)
          · simp only [List.getElem?_toArray, List.getElem?_cons_succ, List.getElem?_cons_zero]; exact rfl
          · rfl
          · kernel_rfl
          · kernel_rfl
          · kernel_rfl
          · exact fun _ _ _ _ h => h
          apply Exists.intro
          apply And.intro
          · apply yr_run; rfl; intro w' hw'; go_simp; (try with_reducible rfl)
          simp only [Act.put, List.setIfInBounds_toArray, List.set_cons_zero, List.set_cons_succ]
          refine wpR_done (by kernel_rfl) ?_ _
          intro W3 hw3
          have HB3 := Lib.hid (bel_bl (bel_dr HB2.out) hw3)
          clear hw3 HG2 HO
          go_wp2
          go_roundw
          case rel => exact ⟨0 + 1, some (i1, i2), by omega, by go_num, HB3, HXo, HG3⟩
          case measure => simp [intOf]; omega
        · obtain ⟨y, rfl⟩ : ∃ y, o = some y := by
            cases o with
            | none => have := HO.out.1.1 rfl; omega
            | some y => exact ⟨y, rfl⟩
          have hy := HO.out.2 y rfl
          obtain ⟨j1, rfl⟩ : ∃ j1, j = j1 + 1 := ⟨j - 1, by omega⟩
          rw [Nat.add_sub_cancel] at hy
          obtain ⟨y1, y2⟩ := y
          have p0 := HPL.out j1 _ hy 0 _ rfl
          have p1 := HPL.out j1 _ hy 1 _ rfl
          simp only [Addr.add_lit, Nat.add_zero] at p0 p1
          obtain ⟨jj, gjj⟩ : ∃ z, j1 + 1 = z := ⟨_, rfl⟩
          rw [gjj] at Q HXo HG2 ⊢
          have hsub : IntKind.i64.wrap ((jj : Int) - 1) = (j1 : Int) := by rw [← gjj]; exact (IntWalk.i64_in _ (by omega)).trans (by omega)
          have hj1n : j1 < n := by omega
          have hjj0 : 0 < jj := by omega
          have hjjn : jj < n := by omega
          have hjI : decide ((0 : Int) < (jj : Int)) = true := decide_eq_true (by omega)
          have Gjj := Lib.hid gjj
          clear gjj hj hjn hj0 HO hy
          obtain ⟨ox, gox⟩ : ∃ z, ordI y1 y2 i1 i2 = z := ⟨_, rfl⟩
          have Gox := Lib.hid gox
          have hOr := Lib.hid (fun w' => rorder_any y1 y2 i1 i2 w')
          rw [gox] at hOr
          clear gox
          go_upto_region 5 with fail
          have ldx0 : ∀ w', Kept Nil_ W2.drew w' → w'.cell? ⟨bb, off + jj * 2, none⟩ = some (.int .i64 i1) := fun w' h => h.nil_cell ((HB2.out.drew.cell (p := ⟨bb, off + jj * 2, none⟩) HbB.out).trans Q.out.1)
          have ldx1 : ∀ w', Kept Nil_ W2.drew w' → w'.cell? ⟨bb, off + jj * 2 + 1, none⟩ = some (.int .i64 i2) := fun w' h => h.nil_cell ((HB2.out.drew.cell (p := ⟨bb, off + jj * 2 + 1, none⟩) HbB.out).trans Q.out.2)
          have ldy0 : ∀ w', Kept Nil_ W2.drew w' → w'.cell? ⟨bb, off + j1 * 2, none⟩ = some (.int .i64 y1) := fun w' h => h.nil_cell ((HB2.out.drew.cell (p := ⟨bb, off + j1 * 2, none⟩) HbB.out).trans p0)
          have ldy1 : ∀ w', Kept Nil_ W2.drew w' → w'.cell? ⟨bb, off + j1 * 2 + 1, none⟩ = some (.int .i64 y2) := fun w' h => h.nil_cell ((HB2.out.drew.cell (p := ⟨bb, off + j1 * 2 + 1, none⟩) HbB.out).trans p1)
          clear p0 p1 Q
          refine wp_region_reg (Nil_) (by kernel_rfl) ?_
          apply wpR_next 0 (some 16)
          · simp only [List.getElem?_toArray, List.getElem?_cons_succ, List.getElem?_cons_zero]; exact rfl
          · rfl
          · kernel_rfl
          · kernel_rfl
          · kernel_rfl
          · exact fun _ _ _ _ h => h
          apply Exists.intro
          apply And.intro
          · apply yr_run; rfl; intro w' hw'; go_simp; (try with_reducible rfl)
          simp only [Act.put, List.setIfInBounds_toArray, List.set_cons_zero, List.set_cons_succ]
          apply wpR_next 1 (some 17)
          · simp only [List.getElem?_toArray, List.getElem?_cons_succ, List.getElem?_cons_zero]; exact rfl
          · rfl
          · kernel_rfl
          · kernel_rfl
          · kernel_rfl
          · exact fun _ _ _ _ h => h
          apply Exists.intro
          apply And.intro
          · apply yr_run; rfl; intro w' hw'; go_simp; (try with_reducible rfl)
          simp only [Act.put, List.setIfInBounds_toArray, List.set_cons_zero, List.set_cons_succ]
          apply wpR_next 2 (some 18)
          · simp only [List.getElem?_toArray, List.getElem?_cons_succ, List.getElem?_cons_zero]; exact rfl
          · rfl
          · kernel_rfl
          · kernel_rfl
          · kernel_rfl
          · exact fun _ _ _ _ h => h
          apply Exists.intro
          apply And.intro
          · apply yr_run; rfl; intro w' hw'; go_simp; (try with_reducible rfl)
          simp only [Act.put, List.setIfInBounds_toArray, List.set_cons_zero, List.set_cons_succ]
          apply wpR_next 3 (some 19)
          · simp only [List.getElem?_toArray, List.getElem?_cons_succ, List.getElem?_cons_zero]; exact rfl
          · rfl
          · kernel_rfl
          · kernel_rfl
          · kernel_rfl
          · exact fun _ _ _ _ h => h
          apply Exists.intro
          apply And.intro
          · apply yr_run; rfl; intro w' hw'; go_simp; (try with_reducible rfl)
          simp only [Act.put, List.setIfInBounds_toArray, List.set_cons_zero, List.set_cons_succ]
          apply wpR_next 4 (some 20)
          · simp only [List.getElem?_toArray, List.getElem?_cons_succ, List.getElem?_cons_zero]; exact rfl
          · rfl
          · kernel_rfl
          · kernel_rfl
          · kernel_rfl
          · exact fun _ _ _ _ h => h
          apply Exists.intro
          apply And.intro
          · apply yr_run; rfl; intro w' hw'; go_simp; (try with_reducible rfl)
          simp only [Act.put, List.setIfInBounds_toArray, List.set_cons_zero, List.set_cons_succ]
          apply wpR_next 5 (some 21)
          · simp only [List.getElem?_toArray, List.getElem?_cons_succ, List.getElem?_cons_zero]; exact rfl
          · rfl
          · kernel_rfl
          · kernel_rfl
          · kernel_rfl
          · exact fun _ _ _ _ h => h
          apply Exists.intro
          apply And.intro
          · apply yr_run; rfl; intro w' hw'; go_simp; (try with_reducible rfl)
          simp only [Act.put, List.setIfInBounds_toArray, List.set_cons_zero, List.set_cons_succ]
          apply wpR_next 6 (some 22)
          · simp only [List.getElem?_toArray, List.getElem?_cons_succ, List.getElem?_cons_zero]; exact rfl
          · rfl
          · kernel_rfl
          · kernel_rfl
          · kernel_rfl
          · exact fun _ _ _ _ h => h
          apply Exists.intro
          apply And.intro
          · apply yr_run; rfl; intro w' hw'; go_simp; (try with_reducible rfl)
          simp only [Act.put, List.setIfInBounds_toArray, List.set_cons_zero, List.set_cons_succ]
          apply wpR_next 7 (some 23)
          · simp only [List.getElem?_toArray, List.getElem?_cons_succ, List.getElem?_cons_zero]; exact rfl
          · rfl
          · kernel_rfl
          · kernel_rfl
          · kernel_rfl
          · exact fun _ _ _ _ h => h
          apply Exists.intro
          apply And.intro
          · apply yr_run; rfl; intro w' hw'; go_simp; (try with_reducible rfl)
          simp only [Act.put, List.setIfInBounds_toArray, List.set_cons_zero, List.set_cons_succ]
          apply wpR_next 8 (some 24)
          · simp only [List.getElem?_toArray, List.getElem?_cons_succ, List.getElem?_cons_zero]; exact rfl
          · rfl
          · kernel_rfl
          · kernel_rfl
          · kernel_rfl
          · exact fun _ _ _ _ h => h
          apply Exists.intro
          apply And.intro
          · apply yr_run; rfl; intro w' hw'; go_simp; (try with_reducible rfl)
          simp only [Act.put, List.setIfInBounds_toArray, List.set_cons_zero, List.set_cons_succ]
          apply wpR_next 9 (some 25)
          · simp only [List.getElem?_toArray, List.getElem?_cons_succ, List.getElem?_cons_zero]; exact rfl
          · rfl
          · kernel_rfl
          · kernel_rfl
          · kernel_rfl
          · exact fun _ _ _ _ h => h
          apply Exists.intro
          apply And.intro
          · apply yr_run; rfl; intro w' hw'; go_simp; (try with_reducible rfl)
          simp only [Act.put, List.setIfInBounds_toArray, List.set_cons_zero, List.set_cons_succ]
          apply wpR_next 10 (some 26)
          · simp only [List.getElem?_toArray, List.getElem?_cons_succ, List.getElem?_cons_zero]; exact rfl
          · rfl
          · kernel_rfl
          · kernel_rfl
          · kernel_rfl
          · exact fun _ _ _ _ h => h
          apply Exists.intro
          apply And.intro
          · apply yr_run; rfl; intro w' hw'; go_simp; (try with_reducible rfl)
          simp only [Act.put, List.setIfInBounds_toArray, List.set_cons_zero, List.set_cons_succ]
          apply wpR_next 11 (some 27)
          · simp only [List.getElem?_toArray, List.getElem?_cons_succ, List.getElem?_cons_zero]; exact rfl
          · rfl
          · kernel_rfl
          · kernel_rfl
          · kernel_rfl
          · exact fun _ _ _ _ h => h
          apply Exists.intro
          apply And.intro
          · apply yr_run; rfl; intro w' hw'; go_simp; (try with_reducible rfl)
          simp only [Act.put, List.setIfInBounds_toArray, List.set_cons_zero, List.set_cons_succ]
          apply wpR_next 12 (some 28)
          · simp only [List.getElem?_toArray, List.getElem?_cons_succ, List.getElem?_cons_zero]; exact rfl
          · rfl
          · kernel_rfl
          · kernel_rfl
          · kernel_rfl
          · exact fun _ _ _ _ h => h
          apply Exists.intro
          apply And.intro
          · apply yr_run; rfl; intro w' hw'; go_simp; (try with_reducible rfl)
          simp only [Act.put, List.setIfInBounds_toArray, List.set_cons_zero, List.set_cons_succ]
          apply wpR_next 13 (some 29)
          · simp only [List.getElem?_toArray, List.getElem?_cons_succ, List.getElem?_cons_zero]; exact rfl
          · rfl
          · kernel_rfl
          · kernel_rfl
          · kernel_rfl
          · exact fun _ _ _ _ h => h
          apply Exists.intro
          apply And.intro
          · apply yr_run; rfl; intro w' hw'; go_simp; (try with_reducible rfl)
          simp only [Act.put, List.setIfInBounds_toArray, List.set_cons_zero, List.set_cons_succ]
          apply wpR_next 14 (some 30)
          · simp only [List.getElem?_toArray, List.getElem?_cons_succ, List.getElem?_cons_zero]; exact rfl
          · rfl
          · kernel_rfl
          · kernel_rfl
          · kernel_rfl
          · exact fun _ _ _ _ h => h
          apply Exists.intro
          apply And.intro
          · apply yr_run; rfl; intro w' hw'; go_simp; (try with_reducible rfl)
          simp only [Act.put, List.setIfInBounds_toArray, List.set_cons_zero, List.set_cons_succ]
          apply wpR_next 15 (some 31)
          · simp only [List.getElem?_toArray, List.getElem?_cons_succ, List.getElem?_cons_zero]; exact rfl
          · rfl
          · kernel_rfl
          · kernel_rfl
          · kernel_rfl
          · exact fun _ _ _ _ h => h
          apply Exists.intro
          apply And.intro
          · apply yr_call; rfl; rotate_left; intro w' hw'; exact hOr.out w'; intro w'; go_simp
          simp only [Act.put, List.setIfInBounds_toArray, List.set_cons_zero, List.set_cons_succ]
          apply wpR_next 16 (some 32)
          · simp only [List.getElem?_toArray, List.getElem?_cons_succ, List.getElem?_cons_zero]; exact rfl
          · rfl
          · kernel_rfl
          · kernel_rfl
          · kernel_rfl
          · exact fun _ _ _ _ h => h
          apply Exists.intro
          apply And.intro
          · apply yr_run; rfl; intro w' hw'; go_simp; (try with_reducible rfl)
          simp only [Act.put, List.setIfInBounds_toArray, List.set_cons_zero, List.set_cons_succ]
          apply wpR_next 17 (some 33)
          · simp only [List.getElem?_toArray, List.getElem?_cons_succ, List.getElem?_cons_zero]; exact rfl
          · rfl
          · kernel_rfl
          · kernel_rfl
          · kernel_rfl
          · exact fun _ _ _ _ h => h
          apply Exists.intro
          apply And.intro
          · apply yr_run; rfl; intro w' hw'; go_simp; (try with_reducible rfl)
          simp only [Act.put, List.setIfInBounds_toArray, List.set_cons_zero, List.set_cons_succ]
          apply wpR_next 18 (some 34)
          · simp only [List.getElem?_toArray, List.getElem?_cons_succ, List.getElem?_cons_zero]; exact rfl
          · rfl
          · kernel_rfl
          · kernel_rfl
          · kernel_rfl
          · exact fun _ _ _ _ h => h
          apply Exists.intro
          apply And.intro
          · apply yr_run; rfl; intro w' hw'; go_simp; (try with_reducible rfl)
          simp only [Act.put, List.setIfInBounds_toArray, List.set_cons_zero, List.set_cons_succ]
          refine wpR_done (by kernel_rfl) ?_ _
          intro W3 hw3
          have HB3 := Lib.hid (bel_bl (bel_dr HB2.out) hw3)
          clear hw3 ldx0 ldx1 ldy0 ldy1 hOr hsub
          by_cases hox : 0 ≤ ox
          · have hb0 : b = false := by
              rw [← HG2.out]
              have : ¬ ordI y1 y2 i1 i2 < 0 := by rw [Gox.out]; omega
              simp [riseF, Gbm.out, this]
            subst hb0
            clear HG2
            go_wp2
            go_ret
            exact ⟨rfl, HB3.out⟩
          · have HG3 : RowKit.Hid (riseF (some (i1, i2)) (L.drop (jj + 1)) = b) := Lib.hid (by
              rw [← HG2.out]
              have : ordI y1 y2 i1 i2 < 0 := by rw [Gox.out]; omega
              simp [riseF, Gbm.out, this])
            clear HG2
            go_wp2
            go_roundw
            case rel => exact ⟨jj + 1, some (i1, i2), by omega, by go_num, HB3, HXo, HG3⟩
            case measure => have := Gjj.out; simp [intOf]; omega
    · obtain rfl : n = j := by omega
      have hq : b = true := by
        rw [← HG.out, List.drop_eq_nil_of_le (by have := Hl.out; omega)]
        rfl
      subst hq
      clear HG HO
      go_wp2
      go_ret
      exact ⟨rfl, HB.out⟩
set_option maxRecDepth 100000 in
set_option maxHeartbeats 4000000 in
theorem rnames_any (A : Option Addr) (n c : Nat) (Vs : List VC) (B : Option Addr) (m k : Nat) (Es : List EC) (w : World) (h : DgIn w A n c Vs B m k Es) (hn : n ≤ 1000000) (hm : m ≤ 1000000) :
    Calls Tryz.prog 37 #[.agg #[.slice A n c, .slice B m k]] w fun e w' => ∃ A' c', e = .returned (.slice A' (n + m) c') ∧ Ow w (w.heap.size + 1) 41 2 (.slice A' (n + m) c') (n + m) (rowsV idC (Vs.map (·.1) ++ Es.map (·.1))) w' := by
  have HV := Lib.hid h.v
  have HE := Lib.hid h.e
  have Hlv := Lib.hid (h.v.rlen vC_len (by decide))
  have Hle := Lib.hid (h.e.rlen eC_len (by decide))
  obtain ⟨i0, hi, hz0, hz1, hz2⟩ := info_partsD info_idD
  clear h
  go_enter Tryz.func37, Tryz.ntmps37
  go_wp2
  have hx0 := (Whole.new_ w 25 [.slice A n c, .slice B m k]).alloc (.cells #[] 41)
  have hbl := below1 w (.cells #[.slice A n c, .slice B m k] 25)
  have hO0 : Ow w (w.heap.size + 1) 41 2 (.slice (some ⟨(w.alloc (.cells #[.slice A n c, .slice B m k] 25)).heap.size, 0, none⟩) 0 0) 0 [] ((w.alloc (.cells #[.slice A n c, .slice B m k] 25)).alloc (.cells #[] 41)) := Ow.new_ (cs := #[]) hbl (by omega) (by simp) (Nat.zero_le _) rfl
  rw [show (w.alloc (.cells #[.slice A n c, .slice B m k] 25)).heap.size = w.heap.size + 1 by simp] at hO0
  obtain ⟨W0, gW0⟩ : ∃ z, (w.alloc (.cells #[.slice A n c, .slice B m k] 25)).alloc (.cells #[] 41) = z := ⟨_, rfl⟩
  rw [gW0] at hx0 hO0
  have HO0 : RowKit.Hid (Ow w (w.heap.size + 1) 41 2 (.slice (some ⟨w.heap.size + 1, 0, none⟩) 0 0) 0 (rowsV idC ([] ++ (Vs.take 0).map (·.1))) W0) := Lib.hid hO0
  obtain ⟨B2, gB2⟩ : ∃ z, w.heap.size + 1 = z := ⟨_, rfl⟩
  obtain ⟨b0, gb0⟩ : ∃ z, w.heap.size = z := ⟨_, rfl⟩
  have h0B : b0 < B2 := by omega
  rw [gB2] at HO0
  rw [gb0] at hx0
  have HX0 := Lib.hid hx0
  have GB2 := Lib.hid gB2
  rw [gW0, gB2, gb0]
  clear hx0 hbl hO0 gW0 gB2 gb0
  go_loopw [3, 4] (fun v si wr => ∃ j : Nat, j ≤ n ∧ si = .int .i64 j ∧ RowKit.Hid (Ow w B2 41 2 v j (rowsV idC ([] ++ (Vs.take j).map (·.1))) wr) ∧ RowKit.Hid (Whole wr b0 25 [.slice A n c, .slice B m k])) (fun _ si _ => n - (intOf si).toNat)
  case atStart => exact ⟨0, by omega, rfl, HO0, HX0⟩
  case round =>
    clear HO0 HX0
    obtain ⟨j, hj, rfl, HO, HX⟩ := hrel
    obtain ⟨wo, gwo⟩ : ∃ z, wr = z := ⟨_, rfl⟩
    rw [gwo] at HO HX ⊢
    clear gwo
    have cb := HX.out.cell (i := 0) rfl
    by_cases hjn : j < n
    · obtain ⟨x, hx⟩ : ∃ x, Vs[j]? = some x := ⟨_, List.getElem?_eq_getElem (by have := Hlv.out; omega)⟩
      obtain ⟨bb, off, rfl, hbB, hpl⟩ := HV.out.place vC_len (by decide) (by omega)
      have hbw := HO.out.below
      have q0 := hpl j _ hx 0 _ rfl
      have q1 := hpl j _ hx 1 _ rfl
      have q2 := hpl j _ hx 2 _ rfl
      have q3 := hpl j _ hx 3 _ rfl
      have q4 := hpl j _ hx 4 _ rfl
      simp only [Addr.add_lit, Nat.add_zero] at q0 q1 q2 q3 q4
      have l0 := (hbw.cell (p := ⟨bb, off + j * 5, none⟩) hbB).trans q0
      have l1 := (hbw.cell (p := ⟨bb, off + j * 5 + 1, none⟩) hbB).trans q1
      have l2 := (hbw.cell (p := ⟨bb, off + j * 5 + 2, none⟩) hbB).trans q2
      have l3 := (hbw.cell (p := ⟨bb, off + j * 5 + 3, none⟩) hbB).trans q3
      have l4 := (hbw.cell (p := ⟨bb, off + j * 5 + 4, none⟩) hbB).trans q4
      have HNx := Lib.hid (names_next (·.1) [] Vs j x hx)
      obtain ⟨⟨i1, i2⟩, ⟨rA, rn, rc, rL⟩, lb, at_⟩ := x
      clear hx hpl q0 q1 q2 q3 q4 hbB hbw
      go_wp2_with (first
        | (at_builtin
           refine wpList_push2 rfl (.tmp 14) (.tmp 21) _ rfl _ 41 i0 _ 2 16 Tryz.underlying73 hi hz0 hz1 hz2 rfl (by decide) _ _ _ rfl (by exact HO.out.up (below1 _ _)) _ (some ⟨wo.heap.size, 0, none⟩) 1 1 [.int .i64 i1, .int .i64 i2] rfl (by exact RdS.of_whole (Whole.new_ _ _ _) rfl) (by simp [Value.oneCell']) (by unfold maxLen; omega) (by omega) ?_
           intro v1 w1 how1 hb1 hgr
           have HO1 : RowKit.Hid (Ow w B2 41 2 v1 (j + 1) (rowsV idC ([] ++ (Vs.take (j + 1)).map (·.1))) w1) := Lib.hid (by
             have h9 := HNx.out
             rw [← h9]
             exact how1)
           have HX1 : RowKit.Hid (Whole w1 b0 25 [.slice (some ⟨bb, off, none⟩) n c, .slice B m k]) := Lib.hid ((HX.out.alloc _).grown hgr (HO.out.low_ne h0B))
           clear how1 hb1 hgr))
      go_roundw
      case rel => exact ⟨j + 1, by omega, by go_num, HO1, HX1⟩
      case measure => simp [intOf]; omega
    · obtain rfl : n = j := by omega
      have HO2 : RowKit.Hid (Ow w B2 41 2 u3 (n + 0) (rowsV idC (Vs.map (·.1) ++ (Es.take 0).map (·.1))) wo) := Lib.hid (by
        have h9 := HO.out
        rw [List.take_of_length_le (by have := Hlv.out; omega), List.nil_append] at h9
        simpa using h9)
      have c1 := HX.out.cell (i := 1) rfl
      clear HO
      go_wp2
      clear c1
      go_loopw [3, 5] (fun v si wr => ∃ j : Nat, j ≤ m ∧ si = .int .i64 j ∧ RowKit.Hid (Ow w B2 41 2 v (n + j) (rowsV idC (Vs.map (·.1) ++ (Es.take j).map (·.1))) wr) ∧ RowKit.Hid (Whole wr b0 25 [.slice A n c, .slice B m k])) (fun _ si _ => m - (intOf si).toNat)
      case atStart => exact ⟨0, by omega, rfl, HO2, HX⟩
      case round =>
        clear HO2 HX
        obtain ⟨j, hj2, rfl, HO, HX⟩ := hrel
        obtain ⟨wi, gwi⟩ : ∃ z, wr = z := ⟨_, rfl⟩
        rw [gwi] at HO HX ⊢
        clear gwi
        have cb := HX.out.cell (i := 1) rfl
        by_cases hjm : j < m
        · obtain ⟨x, hx⟩ : ∃ x, Es[j]? = some x := ⟨_, List.getElem?_eq_getElem (by have := Hle.out; omega)⟩
          obtain ⟨bb, off, rfl, hbB, hpl⟩ := HE.out.place eC_len (by decide) (by omega)
          have hbw := HO.out.below
          have q0 := hpl j _ hx 0 _ rfl
          have q1 := hpl j _ hx 1 _ rfl
          have q2 := hpl j _ hx 2 _ rfl
          have q3 := hpl j _ hx 3 _ rfl
          simp only [Addr.add_lit, Nat.add_zero] at q0 q1 q2 q3
          have l0 := (hbw.cell (p := ⟨bb, off + j * 4, none⟩) hbB).trans q0
          have l1 := (hbw.cell (p := ⟨bb, off + j * 4 + 1, none⟩) hbB).trans q1
          have l2 := (hbw.cell (p := ⟨bb, off + j * 4 + 2, none⟩) hbB).trans q2
          have l3 := (hbw.cell (p := ⟨bb, off + j * 4 + 3, none⟩) hbB).trans q3
          have HNx := Lib.hid (names_next (·.1) (Vs.map (·.1)) Es j x hx)
          obtain ⟨⟨i1, i2⟩, lb, at_⟩ := x
          clear hx hpl q0 q1 q2 q3 hbB hbw
          go_wp2_with (first
            | (at_builtin
               refine wpList_push2 rfl (.tmp 30) (.tmp 37) _ rfl _ 41 i0 _ 2 16 Tryz.underlying73 hi hz0 hz1 hz2 rfl (by decide) _ _ _ rfl (by exact HO.out.up (below1 _ _)) _ (some ⟨wi.heap.size, 0, none⟩) 1 1 [.int .i64 i1, .int .i64 i2] rfl (by exact RdS.of_whole (Whole.new_ _ _ _) rfl) (by simp [Value.oneCell']) (by unfold maxLen; omega) (by omega) ?_
               intro v1 w1 how1 hb1 hgr
               have HO1 : RowKit.Hid (Ow w B2 41 2 v1 (n + (j + 1)) (rowsV idC (Vs.map (·.1) ++ (Es.take (j + 1)).map (·.1))) w1) := Lib.hid (by
                 have h9 := HNx.out
                 rw [← h9]
                 exact how1)
               have HX1 : RowKit.Hid (Whole w1 b0 25 [.slice A n c, .slice (some ⟨bb, off, none⟩) m k]) := Lib.hid ((HX.out.alloc _).grown hgr (HO.out.low_ne h0B))
               clear how1 hb1 hgr))
          go_roundw
          case rel => exact ⟨j + 1, by omega, by go_num, HO1, HX1⟩
          case measure => simp [intOf]; omega
        · obtain rfl : m = j := by omega
          have ho := HO.out
          rw [List.take_of_length_le (by have := Hle.out; omega)] at ho
          obtain ⟨A', c', rfl, -⟩ := ho.rds
          have HO3 := Lib.hid ho
          clear HO ho
          go_wp2
          go_ret
          refine ⟨A', c', rfl, ?_⟩
          first | exact HO3.out | (rw [GB2.out]; exact HO3.out)
end Go.Proofs.YtahbfdhjgnlmdaaGreat

/- The document's rings. -/
namespace Go.Proofs.YtahbfdhjgnlmdaaGreat
open Go.RowKit
set_option linter.unusedSimpArgs false
set_option linter.unusedVariables false


def sideOk (d : D) : Bool := decide (0 ≤ d.2.2) && decide (d.2.2 ≤ 1)
def dartOk (Es : List EC) (d : D) : Bool := (fndE Es (d.1, d.2.1)).2 && sideOk d
def vertOk (Es : List EC) (v : VC) : Bool := turnOk v && v.2.1.2.2.2.all (dartOk Es)
def edgeAt (Vs : List VC) (e : EC) : Nat → Bool
  | 0 => decide (timesV Vs (e.1.1, e.1.2, 0) = 1) && decide (timesV Vs (e.1.1, e.1.2, 1) = 1)
  | 1 => decide (timesV Vs (e.1.1, e.1.2, 1) = 1)
  | _ => true
def ringsF (Vs : List VC) (Es : List EC) : Bool := Vs.all (vertOk Es) && Es.all (fun e => edgeAt Vs e 0)
theorem edgeAt_next (Vs : List VC) (e : EC) (q : Nat) (h : q < 2) : edgeAt Vs e q = (decide (timesV Vs (e.1.1, e.1.2, (q : Int)) = 1) && edgeAt Vs e (q + 1)) := by
  obtain rfl | rfl : q = 0 ∨ q = 1 := by omega
  · rfl
  · simp [edgeAt]
theorem bel_kept {w wo W : World} {B : Nat} (h : Below w.heap.size w wo) (hB : w.heap.size ≤ B) (hk : Kept (From_ B) wo W) : Below w.heap.size w W :=
  ⟨hk.os.trans h.os, hk.tape.trans h.tape, hk.output.trans h.output, Nat.le_trans h.size hk.size, fun i hi => (hk.block i (Nat.lt_of_lt_of_le hi h.size) (fun e => by unfold From_ at e; omega)).trans (h.block i hi)⟩
set_option maxRecDepth 100000 in
set_option maxHeartbeats 4000000 in
theorem rrings_any (A : Option Addr) (n c : Nat) (Vs : List VC) (B : Option Addr) (m k : Nat) (Es : List EC) (w : World) (h : DgIn w A n c Vs B m k Es) (hn : n ≤ 10000) (hm : m ≤ 140737488355328) (hr : ∀ y ∈ Vs, y.2.1.2.1 ≤ 5864062014634) :
    Calls Tryz.prog 39 #[.agg #[.slice A n c, .slice B m k]] w fun e w' => e = .returned (.bool (ringsF Vs Es)) ∧ Below w.heap.size w w' := by
  have H := Lib.hid h.v
  have HE := Lib.hid h.e
  have HRg := Lib.hid h.r
  have Hhr := Lib.hid hr
  have Hl := Lib.hid (h.v.rlen vC_len (by decide))
  have Hle := Lib.hid (h.e.rlen eC_len (by decide))
  have HFe := Lib.hid (fun x1 x2 W (hb : Below w.heap.size w W) => rfindE A n c Vs B m k Es x1 x2 W (h.e.bl hb) hm)
  have HTi := Lib.hid (fun x1 x2 x3 W (hb : Below w.heap.size w W) => rtimes_any A n c Vs B m k Es x1 x2 x3 W (h.below hb) hn hr)
  obtain ⟨b, gb⟩ : ∃ z, ringsF Vs Es = z := ⟨_, rfl⟩
  rw [gb]
  have HG0 : RowKit.Hid (((Vs.drop 0).all (vertOk Es) && Es.all (fun e => edgeAt Vs e 0)) = b) := Lib.hid gb
  clear h hr gb
  go_enter Tryz.func39, Tryz.ntmps39
  go_wp2
  have hx0 : Whole (w.alloc (.cells #[.slice A n c, .slice B m k] 25)) (w.heap.size) 25 [.slice A n c, .slice B m k] := (Whole.new_ w 25 [.slice A n c, .slice B m k])
  have hbl : Below w.heap.size w (w.alloc (.cells #[.slice A n c, .slice B m k] 25)) := (below1 w (.cells #[.slice A n c, .slice B m k] 25))
  have hsz : w.heap.size + 1 ≤ ((w.alloc (.cells #[.slice A n c, .slice B m k] 25))).heap.size := by simp
  obtain ⟨W0, gW0⟩ : ∃ z, (w.alloc (.cells #[.slice A n c, .slice B m k] 25)) = z := ⟨_, rfl⟩
  rw [gW0] at hx0 hbl hsz
  obtain ⟨b0, gb0⟩ : ∃ z, w.heap.size = z := ⟨_, rfl⟩
  rw [gb0] at hx0
  have HX0 := Lib.hid hx0
  have HB0 := Lib.hid hbl
  have HS0 := Lib.hid hsz
  have Gb0 := Lib.hid gb0
  have Lb0 : RowKit.Hid (w.heap.size ≤ b0) := Lib.hid (by omega)
  rw [gW0, gb0]
  clear gW0 hbl hsz hx0 gb0
  go_loopw [3] (fun si wr => ∃ j : Nat, j ≤ n ∧ si = .int .i64 j ∧ RowKit.Hid (Below w.heap.size w wr) ∧ RowKit.Hid (Whole wr b0 25 [.slice A n c, .slice B m k]) ∧ RowKit.Hid (((Vs.drop j).all (vertOk Es) && Es.all (fun e => edgeAt Vs e 0)) = b)) (fun si _ => n - (intOf si).toNat)
  case atStart => exact ⟨0, by omega, rfl, HB0, HX0, HG0⟩
  case round =>
    clear HB0 HX0 HG0
    obtain ⟨j, hj, rfl, HB, HX0, HG⟩ := hrel
    obtain ⟨wo, gwo⟩ : ∃ z, wr = z := ⟨_, rfl⟩
    rw [gwo] at HB HX0 ⊢
    clear gwo
    have cb := HX0.out.cell (i := 0) rfl
    by_cases hjn : j < n
    · obtain ⟨x, hx⟩ : ∃ x, Vs[j]? = some x := ⟨_, List.getElem?_eq_getElem (by have := Hl.out; omega)⟩
      have hdr : Vs.drop j = x :: Vs.drop (j + 1) := by
        rw [List.drop_eq_getElem_cons (List.getElem?_eq_some_iff.1 hx).1, (List.getElem?_eq_some_iff.1 hx).2]
      have hg2 := HG.out
      rw [hdr] at hg2
      obtain ⟨bR, gbR⟩ : ∃ z, ((Vs.drop (j + 1)).all (vertOk Es) && Es.all (fun e => edgeAt Vs e 0)) = z := ⟨_, rfl⟩
      have hg3 : (vertOk Es x && bR) = b := by
        rw [← hg2, ← gbR, List.all_cons, Bool.and_assoc]
      have HbR := Lib.hid gbR
      have hrg := HRg.out x (List.mem_of_getElem? hx)
      have hrn := Hhr.out x (List.mem_of_getElem? hx)
      obtain ⟨bb, off, rfl, hbB, hpl⟩ := H.out.place vC_len (by decide) (by omega)
      have q1 := hpl j _ hx 2 _ rfl
      simp only [Addr.add_lit, Nat.add_zero] at q1
      obtain ⟨⟨i1, i2⟩, ⟨rA, rn, rc, rL⟩, lb, at_⟩ := x
      have l2 : wo.cell? ⟨bb, off + j * 5 + 2, none⟩ = some (.slice rA rn rc) := (HB.out.cell (p := ⟨bb, off + j * 5 + 2, none⟩) hbB).trans q1
      have hR : RdS w w.heap.size 3 rA rn rc (dartsV rL) := hrg.2
      replace hrn : rn ≤ 5864062014634 := hrn
      replace hg3 : ((decide (rL = turnD rL) && rL.all (dartOk Es)) && bR) = b := hg3
      have HG3 := Lib.hid hg3
      have hrl := hR.dlen
      have HT := Lib.hid (fun W (hb : Below w.heap.size w W) => rfturn_any rA rn rc rL W (hR.bl hb) hrn)
      have HD := Lib.hid (fun W (hb : Below w.heap.size w W) A2 c2 (h2 : RdS W W.heap.size 3 A2 (turnD rL).length c2 (dartsV (turnD rL))) => rdarts_any rA A2 rn (turnD rL).length rc c2 rL (turnD rL) W (hR.bl hb) h2 (by omega))
      have HR := Lib.hid (dartsV_rows rL ▸ hR)
      have Hrl := Lib.hid hrl
      obtain ⟨bt, gbt⟩ : ∃ z, decide (rL = turnD rL) = z := ⟨_, rfl⟩
      rw [gbt] at HG3 HD
      obtain ⟨tn, gtn⟩ : ∃ z, (turnD rL).length = z := ⟨_, rfl⟩
      have HT2 : RowKit.Hid (∀ W, Below w.heap.size w W → Calls Tryz.prog 61 #[.slice rA rn rc] W fun e w' => ∃ A2 c2, e = .returned (.slice A2 tn c2) ∧ RdS w' w'.heap.size 3 A2 tn c2 (dartsV (turnD rL)) ∧ Below W.heap.size W w') := Lib.hid (by rw [← gtn]; exact HT.out)
      rw [gtn] at HD
      clear hx hdr hg2 hg3 hbB hpl hrg hR hrl HG q1 HT gbt gbR gtn
      go_wp2_with fail
      refine (HT2.out _ HB.out).mono ?_
      rintro e W2 ⟨A2, c2, rfl, hr2, hb⟩
      have HB2 := Lib.hid (bel_bl HB.out hb)
      have HX02 := Lib.hid (HX0.out.bl hb)
      have HR2 := Lib.hid hr2
      clear hb hr2 HB HX0 HT2 cb l2
      go_wp2_with fail
      refine (HD.out _ HB2.out _ _ HR2.out).mono ?_
      rintro e W3 ⟨rfl, hb⟩
      have HB3 := Lib.hid (bel_bl HB2.out hb)
      have HX03 := Lib.hid (HX02.out.bl hb)
      clear hb HB2 HX02 HD HR2
      cases bt with
      | false =>
        have hb0 : b = false := by rw [← HG3.out]; simp
        subst hb0
        clear HG3
        go_wp2
        go_ret
        exact ⟨rfl, HB3.out⟩
      | true =>
        have HI0 : RowKit.Hid (((rL.drop 0).all (dartOk Es) && bR) = b) := Lib.hid (by
          have h1 := HG3.out
          rw [Bool.true_and] at h1
          exact h1)
        clear HG3
        go_wp2
        go_loopw [6] (fun si wr => ∃ q : Nat, q ≤ rn ∧ si = .int .i64 q ∧ RowKit.Hid (Below w.heap.size w wr) ∧ RowKit.Hid (Whole wr b0 25 [.slice (some ⟨bb, off, none⟩) n c, .slice B m k]) ∧ RowKit.Hid (((rL.drop q).all (dartOk Es) && bR) = b)) (fun si _ => rn - (intOf si).toNat)
        case atStart => exact ⟨0, by omega, rfl, HB3, HX03, HI0⟩
        case round =>
          clear HB3 HX03 HI0
          obtain ⟨q, hq, rfl, HZ, HY0, HI⟩ := hrel
          obtain ⟨wi, gwi⟩ : ∃ z, wr = z := ⟨_, rfl⟩
          rw [gwi] at HZ HY0 ⊢
          clear gwi
          by_cases hqn : q < rn
          · obtain ⟨d, hd⟩ : ∃ d, rL[q]? = some d := ⟨_, List.getElem?_eq_getElem (by have := Hrl.out; omega)⟩
            have hdr : rL.drop q = d :: rL.drop (q + 1) := by
              rw [List.drop_eq_getElem_cons (List.getElem?_eq_some_iff.1 hd).1, (List.getElem?_eq_some_iff.1 hd).2]
            have hi := HI.out
            rw [hdr, List.all_cons, Bool.and_assoc] at hi
            have HI2 := Lib.hid hi
            obtain ⟨rb, ro, rfl, hrB, hrpl⟩ := HR.out.place dC_len (by decide) (by omega)
            have p0 := hrpl q _ hd 0 _ rfl
            have p1 := hrpl q _ hd 1 _ rfl
            have p2 := hrpl q _ hd 2 _ rfl
            simp only [Addr.add_lit, Nat.add_zero] at p0 p1 p2
            have e0 := (HZ.out.cell (p := ⟨rb, ro + q * 3, none⟩) hrB).trans p0
            have e1 := (HZ.out.cell (p := ⟨rb, ro + q * 3 + 1, none⟩) hrB).trans p1
            obtain ⟨d1, d2, d3⟩ := d
            have P2 : RowKit.Hid (∀ W, Below w.heap.size w W → W.cell? ⟨rb, ro + q * 3 + 2, none⟩ = some (.int .i64 d3)) := Lib.hid (fun W hb => (hb.cell (p := ⟨rb, ro + q * 3 + 2, none⟩) hrB).trans p2)
            obtain ⟨⟨ed, ok⟩, ged⟩ : ∃ z, fndE Es (d1, d2) = z := ⟨_, rfl⟩
            obtain ⟨B2, gB2⟩ : ∃ z, wi.heap.size = z := ⟨_, rfl⟩
            have HBw := Lib.hid gB2
            have HEd : RowKit.Hid (∀ w', Kept (From_ B2) wi.drew w' → Calls Tryz.prog 62 #[.agg #[.slice (some ⟨bb, off, none⟩) n c, .slice B m k], .agg #[.int .i64 d1, .int .i64 d2]] w' fun e w'' => e = .returned (.tuple #[.agg (eC ed).toArray, .bool ok]) ∧ Below w'.heap.size w' w'') := Lib.hid (fun w' hk => by
              have := HFe.out d1 d2 w' (bel_kept (bel_dr HZ.out) (by rw [← gB2]; exact HZ.out.size) hk)
              rw [ged] at this
              exact this)
            have HI3 : RowKit.Hid (((ok && sideOk (d1, d2, d3)) && ((rL.drop (q + 1)).all (dartOk Es) && bR)) = b) := Lib.hid (by
              have h1 := HI2.out
              rw [dartOk] at h1
              simp only [ged] at h1
              exact h1)
            clear hd hdr hi HI2 HI hrpl p0 p1 p2 ged
            go_upto_region 11 with fail
            have ldb : ∀ w', Kept (From_ B2) wi.drew w' → w'.cell? ⟨b0, 0, none⟩ = some (.slice (some ⟨bb, off, none⟩) n c) := fun w' h => h.from_cell (Nat.lt_of_lt_of_eq HY0.out.lt HBw.out) (HY0.out.dr.cell (i := 0) rfl)
            have ldc : ∀ w', Kept (From_ B2) wi.drew w' → w'.cell? ⟨b0, 1, none⟩ = some (.slice B m k) := fun w' h => h.from_cell (Nat.lt_of_lt_of_eq HY0.out.lt HBw.out) (HY0.out.dr.cell (i := 1) rfl)
            have ld0 : ∀ w', Kept (From_ B2) wi.drew w' → w'.cell? ⟨rb, ro + q * 3, none⟩ = some (.int .i64 d1) := fun w' h => h.from_cell (Nat.lt_of_lt_of_eq (Nat.lt_of_lt_of_le hrB HZ.out.size) HBw.out) (e0)
            have ld1 : ∀ w', Kept (From_ B2) wi.drew w' → w'.cell? ⟨rb, ro + q * 3 + 1, none⟩ = some (.int .i64 d2) := fun w' h => h.from_cell (Nat.lt_of_lt_of_eq (Nat.lt_of_lt_of_le hrB HZ.out.size) HBw.out) (e1)
            clear e0 e1
            refine wp_region_reg (From_ B2) (by kernel_rfl) ?_
            apply wpR_next 0 (some 37)
            · simp only [List.getElem?_toArray, List.getElem?_cons_succ, List.getElem?_cons_zero]; exact rfl
            · rfl
            · kernel_rfl
            · kernel_rfl
            · kernel_rfl
            · exact fun _ _ _ _ h => h
            apply Exists.intro
            apply And.intro
            · apply yr_run; rfl; intro w' hw'; go_simp; (try with_reducible rfl)
            simp only [Act.put, List.setIfInBounds_toArray, List.set_cons_zero, List.set_cons_succ]
            apply wpR_next 1 (some 38)
            · simp only [List.getElem?_toArray, List.getElem?_cons_succ, List.getElem?_cons_zero]; exact rfl
            · rfl
            · kernel_rfl
            · kernel_rfl
            · kernel_rfl
            · exact fun _ _ _ _ h => h
            apply Exists.intro
            apply And.intro
            · apply yr_run; rfl; intro w' hw'; go_simp; (try with_reducible rfl)
            simp only [Act.put, List.setIfInBounds_toArray, List.set_cons_zero, List.set_cons_succ]
            apply wpR_next 2 (some 39)
            · simp only [List.getElem?_toArray, List.getElem?_cons_succ, List.getElem?_cons_zero]; exact rfl
            · rfl
            · kernel_rfl
            · kernel_rfl
            · kernel_rfl
            · exact fun _ _ _ _ h => h
            apply Exists.intro
            apply And.intro
            · apply yr_run; rfl; intro w' hw'; go_simp; (try with_reducible rfl)
            simp only [Act.put, List.setIfInBounds_toArray, List.set_cons_zero, List.set_cons_succ]
            apply wpR_next 3 (some 40)
            · simp only [List.getElem?_toArray, List.getElem?_cons_succ, List.getElem?_cons_zero]; exact rfl
            · rfl
            · kernel_rfl
            · kernel_rfl
            · kernel_rfl
            · exact fun _ _ _ _ h => h
            apply Exists.intro
            apply And.intro
            · apply yr_run; rfl; intro w' hw'; go_simp; (try with_reducible rfl)
            simp only [Act.put, List.setIfInBounds_toArray, List.set_cons_zero, List.set_cons_succ]
            apply wpR_next 4 (some 41)
            · simp only [List.getElem?_toArray, List.getElem?_cons_succ, List.getElem?_cons_zero]; exact rfl
            · rfl
            · kernel_rfl
            · kernel_rfl
            · kernel_rfl
            · exact fun _ _ _ _ h => h
            apply Exists.intro
            apply And.intro
            · apply yr_run; rfl; intro w' hw'; go_simp; (try with_reducible rfl)
            simp only [Act.put, List.setIfInBounds_toArray, List.set_cons_zero, List.set_cons_succ]
            apply wpR_next 5 (some 42)
            · simp only [List.getElem?_toArray, List.getElem?_cons_succ, List.getElem?_cons_zero]; exact rfl
            · rfl
            · kernel_rfl
            · kernel_rfl
            · kernel_rfl
            · exact fun _ _ _ _ h => h
            apply Exists.intro
            apply And.intro
            · apply yr_run; rfl; intro w' hw'; go_simp; (try with_reducible rfl)
            simp only [Act.put, List.setIfInBounds_toArray, List.set_cons_zero, List.set_cons_succ]
            apply wpR_next 6 (some 43)
            · simp only [List.getElem?_toArray, List.getElem?_cons_succ, List.getElem?_cons_zero]; exact rfl
            · rfl
            · kernel_rfl
            · kernel_rfl
            · kernel_rfl
            · exact fun _ _ _ _ h => h
            apply Exists.intro
            apply And.intro
            · apply yr_call; rfl; rotate_left; intro w' hw'; exact HEd.out w' hw'; intro w'; go_simp
            simp only [Act.put, List.setIfInBounds_toArray, List.set_cons_zero, List.set_cons_succ]
            apply wpR_next 7 (some 36)
            · simp only [List.getElem?_toArray, List.getElem?_cons_succ, List.getElem?_cons_zero]; exact rfl
            · rfl
            · kernel_rfl
            · kernel_rfl
            · kernel_rfl
            · exact fun _ _ _ _ h => h
            apply Exists.intro
            apply And.intro
            · apply yr_run; rfl; intro w' hw'; go_simp; (try with_reducible rfl)
            simp only [Act.put, List.setIfInBounds_toArray, List.set_cons_zero, List.set_cons_succ]
            apply wpR_next 8 (some 44)
            · simp only [List.getElem?_toArray, List.getElem?_cons_succ, List.getElem?_cons_zero]; exact rfl
            · rfl
            · kernel_rfl
            · kernel_rfl
            · kernel_rfl
            · exact fun _ _ _ _ h => h
            apply Exists.intro
            apply And.intro
            · apply yr_run; rfl; intro w' hw'; go_simp; (try with_reducible rfl)
            simp only [Act.put, List.setIfInBounds_toArray, List.set_cons_zero, List.set_cons_succ]
            apply wpR_next 9 (some 45)
            · simp only [List.getElem?_toArray, List.getElem?_cons_succ, List.getElem?_cons_zero]; exact rfl
            · rfl
            · kernel_rfl
            · kernel_rfl
            · kernel_rfl
            · exact fun _ _ _ _ h => h
            apply Exists.intro
            apply And.intro
            · apply yr_run; rfl; intro w' hw'; go_simp; (try with_reducible rfl)
            simp only [Act.put, List.setIfInBounds_toArray, List.set_cons_zero, List.set_cons_succ]
            apply wpR_run 10 (some 7)
            · simp only [List.getElem?_toArray, List.getElem?_cons_succ, List.getElem?_cons_zero]; exact rfl
            · rfl
            · kernel_rfl
            · rfl
            intro w' hw'
            refine ⟨.pointer (some ⟨w'.heap.size, 0, none⟩), w'.alloc (.cells #[.int .i64 0, .int .i64 0, .string { data := #[] }, .int .i64 0] 43), ?_, Kept.of_below (below1 _ _), ?_⟩
            · go_simp
            have HK1 : RowKit.Hid (Kept (From_ B2) wi.drew (w'.alloc (.cells #[.int .i64 0, .int .i64 0, .string { data := #[] }, .int .i64 0] 43))) := Lib.hid ((Kept.of_ext hw').trans (Kept.of_below (below1 _ _)))
            have HW1 : RowKit.Hid (Whole (w'.alloc (.cells #[.int .i64 0, .int .i64 0, .string { data := #[] }, .int .i64 0] 43)) w'.heap.size 43 [.int .i64 0, .int .i64 0, .string { data := #[] }, .int .i64 0]) := Lib.hid (Whole.new_ _ _ [.int .i64 0, .int .i64 0, .string { data := #[] }, .int .i64 0])
            have HL1 : RowKit.Hid (B2 ≤ w'.heap.size) := Lib.hid (by have := hw'.size; have h2 : wi.drew.heap.size = wi.heap.size := rfl; have := HBw.out; omega)
            obtain ⟨W5, gW5⟩ : ∃ z, w'.alloc (.cells #[.int .i64 0, .int .i64 0, .string { data := #[] }, .int .i64 0] 43) = z := ⟨_, rfl⟩
            obtain ⟨g5, gg5⟩ : ∃ z, w'.heap.size = z := ⟨_, rfl⟩
            rw [gW5] at HK1 HW1 ⊢
            rw [gg5] at HW1 HL1 ⊢
            clear hw' gW5 gg5
            simp only [Act.put, List.setIfInBounds_toArray, List.set_cons_zero, List.set_cons_succ]
            apply wpR_store 11
            · simp only [List.getElem?_toArray, List.getElem?_cons_succ, List.getElem?_cons_zero]; exact rfl
            · rfl
            · kernel_rfl
            · rfl
            intro w' hw'
            refine ⟨w'.setRow g5 (eC ed).toArray, store_row_run 43 (.tmp 7) (.tmp 44) rfl g5 rfl (eC ed) rfl 43 [.int .i64 0, .int .i64 0, .string { data := #[] }, .int .i64 0] (HW1.out.bl hw') (by kernel_rfl) rfl (by simp [eC, Value.oneCell']), kept_row (show B2 ≤ g5 from HL1.out) _, ?_⟩
            have HK2 : RowKit.Hid (Kept (From_ B2) wi.drew (w'.setRow g5 (eC ed).toArray)) := Lib.hid ((HK1.out.trans (Kept.of_ext hw')).trans (kept_row (show B2 ≤ g5 from HL1.out) _))
            obtain ⟨W6, gW6⟩ : ∃ z, w'.setRow g5 (eC ed).toArray = z := ⟨_, rfl⟩
            rw [gW6] at HK2 ⊢
            clear hw' gW6 HK1 HW1
            try simp only [Act.put, List.setIfInBounds_toArray, List.set_cons_zero, List.set_cons_succ]
            apply wpR_next 12 (some 8)
            · simp only [List.getElem?_toArray, List.getElem?_cons_succ, List.getElem?_cons_zero]; exact rfl
            · rfl
            · kernel_rfl
            · kernel_rfl
            · kernel_rfl
            · exact fun _ _ _ _ h => h
            apply Exists.intro
            apply And.intro
            · apply yr_run; rfl; intro w' hw'; go_simp; (try with_reducible rfl)
            simp only [Act.put, List.setIfInBounds_toArray, List.set_cons_zero, List.set_cons_succ]
            refine wpR_done (by kernel_rfl) ?_ _
            intro W7 hw7
            have hk7 := HK2.out.trans (Kept.of_ext hw7)
            have HB7 := Lib.hid (bel_kept (bel_dr HZ.out) (by rw [← HBw.out]; exact HZ.out.size) hk7)
            have HX07 := Lib.hid (hk7.whole HY0.out.dr (fun e => by have := HY0.out.lt; have := HBw.out; unfold From_ at e; omega))
            have c2 := P2.out _ HB7.out
            clear hw7 hk7 HK2 HL1 HZ HY0 ldb ldc ld0 ld1 HEd P2
            by_cases hs0 : 0 ≤ d3
            · by_cases hs1 : d3 ≤ 1
              · have hso : sideOk (d1, d2, d3) = true := by simp [sideOk, hs0, hs1]
                cases ok with
                | false =>
                  have hb0 : b = false := by rw [← HI3.out]; rfl
                  subst hb0
                  clear HI3
                  go_wp2
                  go_ret
                  exact ⟨rfl, HB7.out⟩
                | true =>
                  have HI4 : RowKit.Hid (((rL.drop (q + 1)).all (dartOk Es) && bR) = b) := Lib.hid (by
                    have h1 := HI3.out
                    rw [hso, Bool.and_self, Bool.true_and] at h1
                    exact h1)
                  clear HI3
                  go_wp2
                  go_roundw
                  case rel => exact ⟨q + 1, by omega, by go_num, HB7, HX07, HI4⟩
                  case measure => simp [intOf]; omega
              · have hso : sideOk (d1, d2, d3) = false := by simp [sideOk, hs1]
                have hb0 : b = false := by rw [← HI3.out, hso]; simp
                subst hb0
                clear HI3
                have hs1' : 1 < d3 := by omega
                cases ok with
                | false =>
                  go_wp2
                  go_ret
                  exact ⟨rfl, HB7.out⟩
                | true =>
                  go_wp2
                  go_ret
                  exact ⟨rfl, HB7.out⟩
            · have hso : sideOk (d1, d2, d3) = false := by simp [sideOk, hs0]
              have hb0 : b = false := by rw [← HI3.out, hso]; simp
              subst hb0
              clear HI3
              have hs0' : d3 < 0 := by omega
              cases ok with
              | false =>
                go_wp2
                go_ret
                exact ⟨rfl, HB7.out⟩
              | true =>
                go_wp2
                go_ret
                exact ⟨rfl, HB7.out⟩
          · obtain rfl : rn = q := by omega
            have HG4 : RowKit.Hid (((Vs.drop (j + 1)).all (vertOk Es) && Es.all (fun e => edgeAt Vs e 0)) = b) := Lib.hid (by
              have h1 := HI.out
              rw [List.drop_eq_nil_of_le (by have := Hrl.out; omega)] at h1
              rw [HbR.out, ← h1]
              rfl)
            clear HI
            go_wp2
            go_roundw
            case rel => exact ⟨j + 1, by omega, by go_num, HZ, HY0, HG4⟩
            case measure => simp [intOf]; omega
    · obtain rfl : n = j := by omega
      have HE0 : RowKit.Hid (((Es.drop 0).all (fun e => edgeAt Vs e 0)) = b) := Lib.hid (by
        have h1 := HG.out
        rw [List.drop_eq_nil_of_le (by have := Hl.out; omega)] at h1
        exact h1)
      clear HG
      go_wp2
      clear cb
      go_loopw [9] (fun si wr => ∃ q : Nat, q ≤ m ∧ si = .int .i64 q ∧ RowKit.Hid (Below w.heap.size w wr) ∧ RowKit.Hid (Whole wr b0 25 [.slice A n c, .slice B m k]) ∧ RowKit.Hid (((Es.drop q).all (fun e => edgeAt Vs e 0)) = b)) (fun si _ => m - (intOf si).toNat)
      case atStart => exact ⟨0, by omega, rfl, HB, HX0, HE0⟩
      case round =>
        clear HB HX0 HE0
        obtain ⟨q, hq, rfl, HB, HX0, HG⟩ := hrel
        obtain ⟨wo, gwo⟩ : ∃ z, wr = z := ⟨_, rfl⟩
        rw [gwo] at HB HX0 ⊢
        clear gwo
        have cb := HX0.out.cell (i := 1) rfl
        by_cases hqm : q < m
        · obtain ⟨x, hx⟩ : ∃ x, Es[q]? = some x := ⟨_, List.getElem?_eq_getElem (by have := Hle.out; omega)⟩
          have hdr : Es.drop q = x :: Es.drop (q + 1) := by
            rw [List.drop_eq_getElem_cons (List.getElem?_eq_some_iff.1 hx).1, (List.getElem?_eq_some_iff.1 hx).2]
          have hg2 := HG.out
          rw [hdr, List.all_cons] at hg2
          obtain ⟨bR, gbR⟩ : ∃ z, (Es.drop (q + 1)).all (fun e => edgeAt Vs e 0) = z := ⟨_, rfl⟩
          rw [gbR] at hg2
          have HbR := Lib.hid gbR
          have HI0 := Lib.hid hg2
          obtain ⟨bb, off, rfl, hbB, hpl⟩ := HE.out.place eC_len (by decide) (by omega)
          have q0 := hpl q _ hx 0 _ rfl
          have q1 := hpl q _ hx 1 _ rfl
          simp only [Addr.add_lit, Nat.add_zero] at q0 q1
          have Q0 := Lib.hid (And.intro q0 q1)
          have HbB := Lib.hid hbB
          have HNx := Lib.hid (fun t ht => edgeAt_next Vs x t ht)
          clear hx hdr hg2 gbR hbB hpl q0 q1 HG
          go_wp2
          clear cb
          go_loopw [10] (fun si wr => ∃ t : Nat, t ≤ 2 ∧ si = .int .i64 t ∧ RowKit.Hid (Below w.heap.size w wr) ∧ RowKit.Hid (Whole wr b0 25 [.slice A n c, .slice (some ⟨bb, off, none⟩) m k]) ∧ RowKit.Hid ((edgeAt Vs x t && bR) = b)) (fun si _ => 2 - (intOf si).toNat)
          case atStart => exact ⟨0, by omega, rfl, HB, HX0, HI0⟩
          case round =>
            clear HB HX0 HI0
            obtain ⟨t, ht, rfl, HZ, HY0, HI⟩ := hrel
            obtain ⟨wi, gwi⟩ : ∃ z, wr = z := ⟨_, rfl⟩
            rw [gwi] at HZ HY0 ⊢
            clear gwi
            by_cases ht2 : t < 2
            · have hi := HI.out
              rw [HNx.out t ht2] at hi
              obtain ⟨⟨i1, i2⟩, lb, at_⟩ := x
              have htI : (t : Int) < 2 := by omega
              have e0 := (HZ.out.cell (p := ⟨bb, off + q * 4, none⟩) HbB.out).trans Q0.out.1
              have e1 := (HZ.out.cell (p := ⟨bb, off + q * 4 + 1, none⟩) HbB.out).trans Q0.out.2
              dsimp only at hi e0 e1
              have HT : RowKit.Hid (∀ w', Kept Nil_ wi.drew w' → Calls Tryz.prog 63 #[.agg #[.slice A n c, .slice (some ⟨bb, off, none⟩) m k], .agg #[.int .i64 i1, .int .i64 i2, .int .i64 (t : Int)]] w' fun e w'' => e = .returned (.int .i64 (timesV Vs (i1, i2, (t : Int)) : Nat)) ∧ Below w'.heap.size w' w'') :=
                Lib.hid (fun w' hk => HTi.out i1 i2 t w' (bel_bl (bel_dr HZ.out) (hk.below (Nat.le_refl _) (fun _ _ h => h))))
              obtain ⟨tv, gtv⟩ : ∃ z, timesV Vs (i1, i2, (t : Int)) = z := ⟨_, rfl⟩
              rw [gtv] at HT hi
              have HI2 := Lib.hid hi
              clear hi gtv HI
              go_upto_region 20 with fail
              have ldb : ∀ w', Kept Nil_ wi.drew w' → w'.cell? ⟨b0, 0, none⟩ = some (.slice A n c) := fun w' h => h.nil_cell (HY0.out.dr.cell (i := 0) rfl)
              have ldc : ∀ w', Kept Nil_ wi.drew w' → w'.cell? ⟨b0, 1, none⟩ = some (.slice (some ⟨bb, off, none⟩) m k) := fun w' h => h.nil_cell (HY0.out.dr.cell (i := 1) rfl)
              have ld0 : ∀ w', Kept Nil_ wi.drew w' → w'.cell? ⟨bb, off + q * 4, none⟩ = some (.int .i64 i1) := fun w' h => h.nil_cell (e0)
              have ld1 : ∀ w', Kept Nil_ wi.drew w' → w'.cell? ⟨bb, off + q * 4 + 1, none⟩ = some (.int .i64 i2) := fun w' h => h.nil_cell (e1)
              clear e0 e1
              refine wp_region_reg (Nil_) (by kernel_rfl) ?_
              apply wpR_next 0 (some 75)
              · simp only [List.getElem?_toArray, List.getElem?_cons_succ, List.getElem?_cons_zero]; exact rfl
              · rfl
              · kernel_rfl
              · kernel_rfl
              · kernel_rfl
              · exact fun _ _ _ _ h => h
              apply Exists.intro
              apply And.intro
              · apply yr_run; rfl; intro w' hw'; go_simp; (try with_reducible rfl)
              simp only [Act.put, List.setIfInBounds_toArray, List.set_cons_zero, List.set_cons_succ]
              apply wpR_next 1 (some 76)
              · simp only [List.getElem?_toArray, List.getElem?_cons_succ, List.getElem?_cons_zero]; exact rfl
              · rfl
              · kernel_rfl
              · kernel_rfl
              · kernel_rfl
              · exact fun _ _ _ _ h => h
              apply Exists.intro
              apply And.intro
              · apply yr_run; rfl; intro w' hw'; go_simp; (try with_reducible rfl)
              simp only [Act.put, List.setIfInBounds_toArray, List.set_cons_zero, List.set_cons_succ]
              apply wpR_next 2 (some 77)
              · simp only [List.getElem?_toArray, List.getElem?_cons_succ, List.getElem?_cons_zero]; exact rfl
              · rfl
              · kernel_rfl
              · kernel_rfl
              · kernel_rfl
              · exact fun _ _ _ _ h => h
              apply Exists.intro
              apply And.intro
              · apply yr_run; rfl; intro w' hw'; go_simp; (try with_reducible rfl)
              simp only [Act.put, List.setIfInBounds_toArray, List.set_cons_zero, List.set_cons_succ]
              apply wpR_next 3 (some 78)
              · simp only [List.getElem?_toArray, List.getElem?_cons_succ, List.getElem?_cons_zero]; exact rfl
              · rfl
              · kernel_rfl
              · kernel_rfl
              · kernel_rfl
              · exact fun _ _ _ _ h => h
              apply Exists.intro
              apply And.intro
              · apply yr_run; rfl; intro w' hw'; go_simp; (try with_reducible rfl)
              simp only [Act.put, List.setIfInBounds_toArray, List.set_cons_zero, List.set_cons_succ]
              apply wpR_next 4 (some 79)
              · simp only [List.getElem?_toArray, List.getElem?_cons_succ, List.getElem?_cons_zero]; exact rfl
              · rfl
              · kernel_rfl
              · kernel_rfl
              · kernel_rfl
              · exact fun _ _ _ _ h => h
              apply Exists.intro
              apply And.intro
              · apply yr_run; rfl; intro w' hw'; go_simp; (try with_reducible rfl)
              simp only [Act.put, List.setIfInBounds_toArray, List.set_cons_zero, List.set_cons_succ]
              apply wpR_next 5 (some 80)
              · simp only [List.getElem?_toArray, List.getElem?_cons_succ, List.getElem?_cons_zero]; exact rfl
              · rfl
              · kernel_rfl
              · kernel_rfl
              · kernel_rfl
              · exact fun _ _ _ _ h => h
              apply Exists.intro
              apply And.intro
              · apply yr_run; rfl; intro w' hw'; go_simp; (try with_reducible rfl)
              simp only [Act.put, List.setIfInBounds_toArray, List.set_cons_zero, List.set_cons_succ]
              apply wpR_next 6 (some 81)
              · simp only [List.getElem?_toArray, List.getElem?_cons_succ, List.getElem?_cons_zero]; exact rfl
              · rfl
              · kernel_rfl
              · kernel_rfl
              · kernel_rfl
              · exact fun _ _ _ _ h => h
              apply Exists.intro
              apply And.intro
              · apply yr_run; rfl; intro w' hw'; go_simp; (try with_reducible rfl)
              simp only [Act.put, List.setIfInBounds_toArray, List.set_cons_zero, List.set_cons_succ]
              apply wpR_next 7 (some 82)
              · simp only [List.getElem?_toArray, List.getElem?_cons_succ, List.getElem?_cons_zero]; exact rfl
              · rfl
              · kernel_rfl
              · kernel_rfl
              · kernel_rfl
              · exact fun _ _ _ _ h => h
              apply Exists.intro
              apply And.intro
              · apply yr_run; rfl; intro w' hw'; go_simp; (try with_reducible rfl)
              simp only [Act.put, List.setIfInBounds_toArray, List.set_cons_zero, List.set_cons_succ]
              apply wpR_next 8 (some 83)
              · simp only [List.getElem?_toArray, List.getElem?_cons_succ, List.getElem?_cons_zero]; exact rfl
              · rfl
              · kernel_rfl
              · kernel_rfl
              · kernel_rfl
              · exact fun _ _ _ _ h => h
              apply Exists.intro
              apply And.intro
              · apply yr_run; rfl; intro w' hw'; go_simp; (try with_reducible rfl)
              simp only [Act.put, List.setIfInBounds_toArray, List.set_cons_zero, List.set_cons_succ]
              apply wpR_next 9 (some 84)
              · simp only [List.getElem?_toArray, List.getElem?_cons_succ, List.getElem?_cons_zero]; exact rfl
              · rfl
              · kernel_rfl
              · kernel_rfl
              · kernel_rfl
              · exact fun _ _ _ _ h => h
              apply Exists.intro
              apply And.intro
              · apply yr_call; rfl; rotate_left; intro w' hw'; exact HT.out w' hw'; intro w'; go_simp
              simp only [Act.put, List.setIfInBounds_toArray, List.set_cons_zero, List.set_cons_succ]
              apply wpR_next 10 (some 85)
              · simp only [List.getElem?_toArray, List.getElem?_cons_succ, List.getElem?_cons_zero]; exact rfl
              · rfl
              · kernel_rfl
              · kernel_rfl
              · kernel_rfl
              · exact fun _ _ _ _ h => h
              apply Exists.intro
              apply And.intro
              · apply yr_run; rfl; intro w' hw'; go_simp; (try with_reducible rfl)
              simp only [Act.put, List.setIfInBounds_toArray, List.set_cons_zero, List.set_cons_succ]
              refine wpR_done (by kernel_rfl) ?_ _
              intro W7 hw7
              have HB7 := Lib.hid (bel_bl (bel_dr HZ.out) hw7)
              have HX07 := Lib.hid (HY0.out.dr.bl hw7)
              clear hw7 HZ HY0 ldb ldc ld0 ld1 HT
              by_cases htv : tv = 1
              · have htI2 : ((tv : Int) != 1) = false := by subst htv; rfl
                have HI4 : RowKit.Hid ((edgeAt Vs ((i1, i2), lb, at_) (t + 1) && bR) = b) := Lib.hid (by
                  have h1 := HI2.out
                  rw [decide_eq_true htv, Bool.true_and] at h1
                  exact h1)
                clear HI2 htv
                go_wp2
                go_roundw
                case rel => exact ⟨t + 1, by omega, by go_num, HB7, HX07, HI4⟩
                case measure => simp [intOf]; omega
              · have htI2 : ((tv : Int) != 1) = true := by simp; omega
                have hb0 : b = false := by rw [← HI2.out, decide_eq_false htv]; rfl
                subst hb0
                clear HI2 htv
                go_wp2
                go_ret
                exact ⟨rfl, HB7.out⟩
            · obtain rfl : t = 2 := by omega
              have HG4 : RowKit.Hid ((Es.drop (q + 1)).all (fun e => edgeAt Vs e 0) = b) := Lib.hid (by rw [HbR.out, ← HI.out]; rfl)
              clear HI
              rw [show ((2 : Nat) : Int) = 2 from rfl]
              go_wp2
              go_roundw
              case rel => exact ⟨q + 1, by omega, by go_num, HZ, HY0, HG4⟩
              case measure => simp [intOf]; omega
        · obtain rfl : m = q := by omega
          have hb0 : b = true := by
            rw [← HG.out, List.drop_eq_nil_of_le (by have := Hle.out; omega)]
            rfl
          subst hb0
          clear HG
          go_wp2
          go_ret
          exact ⟨rfl, HB.out⟩
end Go.Proofs.YtahbfdhjgnlmdaaGreat
