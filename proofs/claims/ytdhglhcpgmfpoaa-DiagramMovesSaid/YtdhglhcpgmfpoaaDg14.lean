/- find, Vertex, Edge. -/
import Derived.Test.YtdhglhcpgmfpoaaDg13
import Derived.Test.YtdhglhcpgmfpoaaBase
namespace Go.Proofs.Ytdhglhcpgmfpoaa
open Go.RowKit
set_option linter.unusedSimpArgs false
set_option linter.unusedVariables false


def fnd {α : Type} (nm : α → Int × Int) (z : α) (L : List α) (x : Int × Int) : α × Bool := match L.find? (fun v => decide (nm v = x)) with | some v => (v, true) | none => (z, false)
theorem fnd_yes {α : Type} (nm : α → Int × Int) (z v : α) (r : List α) (x : Int × Int) (h : nm v = x) : fnd nm z (v :: r) x = (v, true) := by simp [fnd, h]
theorem fnd_no {α : Type} (nm : α → Int × Int) (z v : α) (r : List α) (x : Int × Int) (h : ¬ nm v = x) : fnd nm z (v :: r) x = fnd nm z r x := by simp [fnd, h]
theorem fnd_nil {α : Type} (nm : α → Int × Int) (z : α) (x : Int × Int) : fnd nm z [] x = (z, false) := rfl
def zV : VC := ((0, 0), (none, 0, 0, []), ⟨#[]⟩, 0)
def zE : EC := ((0, 0), ⟨#[]⟩, 0)
def fndV (L : List VC) (x : Int × Int) := fnd (fun v : VC => v.1) zV L x
def fndE (L : List EC) (x : Int × Int) := fnd (fun v : EC => v.1) zE L x
theorem fnd_mem {α : Type} (nm : α → Int × Int) (z : α) (L : List α) (x : Int × Int) : (fnd nm z L x).1 ∈ L ∨ fnd nm z L x = (z, false) := by
  unfold fnd
  split
  · rename_i v h; exact .inl (List.mem_of_find?_eq_some h)
  · exact .inr rfl
set_option maxRecDepth 100000 in
set_option maxHeartbeats 4000000 in
theorem findV (A : Option Addr) (n c : Nat) (L : List VC) (x1 x2 : Int) (w : World) (h : RdS w w.heap.size 5 A n c (rowsV vC L)) (hn : n ≤ 1000000) :
    Calls Try.prog 48 #[.slice A n c, .func (.func 35) #[] #[], .agg #[.int .i64 x1, .int .i64 x2]] w fun e w' => e = .returned (.tuple #[.agg (vC (fndV L (x1, x2)).1).toArray, .bool (fndV L (x1, x2)).2]) ∧ Below w.heap.size w w' := by
  have H := Lib.hid h
  have Hl := Lib.hid (h.rlen vC_len (by decide))
  obtain ⟨⟨r, ok⟩, gr⟩ : ∃ z, fndV L (x1, x2) = z := ⟨_, rfl⟩
  rw [gr]
  have HG := Lib.hid gr
  clear h gr
  go_enter Try.func48, Try.ntmps48
  go_wp2
  have hx0 : Whole ((w.alloc (.cells #[.int .i64 x1, .int .i64 x2] 34)).alloc (.cells #[.int .i64 0, .int .i64 0, .slice none 0 0, .string { data := #[] }, .int .i64 0] 39)) (w.heap.size) 34 [.int .i64 x1, .int .i64 x2] := ((Whole.new_ w 34 [.int .i64 x1, .int .i64 x2]).alloc (.cells #[.int .i64 0, .int .i64 0, .slice none 0 0, .string { data := #[] }, .int .i64 0] 39))
  have hx1 : Whole ((w.alloc (.cells #[.int .i64 x1, .int .i64 x2] 34)).alloc (.cells #[.int .i64 0, .int .i64 0, .slice none 0 0, .string { data := #[] }, .int .i64 0] 39)) (w.heap.size + 1) 39 [.int .i64 0, .int .i64 0, .slice none 0 0, .string { data := #[] }, .int .i64 0] := (Whole.new2 (w := (w.alloc (.cells #[.int .i64 x1, .int .i64 x2] 34))) (by simp))
  have hbl : Below w.heap.size w ((w.alloc (.cells #[.int .i64 x1, .int .i64 x2] 34)).alloc (.cells #[.int .i64 0, .int .i64 0, .slice none 0 0, .string { data := #[] }, .int .i64 0] 39)) := (bel_al (below1 w (.cells #[.int .i64 x1, .int .i64 x2] 34)) (.cells #[.int .i64 0, .int .i64 0, .slice none 0 0, .string { data := #[] }, .int .i64 0] 39))
  have hsz : w.heap.size + 1 + 1 ≤ (((w.alloc (.cells #[.int .i64 x1, .int .i64 x2] 34)).alloc (.cells #[.int .i64 0, .int .i64 0, .slice none 0 0, .string { data := #[] }, .int .i64 0] 39))).heap.size := by simp
  obtain ⟨W0, gW0⟩ : ∃ z, ((w.alloc (.cells #[.int .i64 x1, .int .i64 x2] 34)).alloc (.cells #[.int .i64 0, .int .i64 0, .slice none 0 0, .string { data := #[] }, .int .i64 0] 39)) = z := ⟨_, rfl⟩
  rw [gW0] at hx0 hx1 hbl hsz
  obtain ⟨b1, gb1⟩ : ∃ z, w.heap.size + 1 = z := ⟨_, rfl⟩
  rw [gb1] at hx1
  obtain ⟨b0, gb0⟩ : ∃ z, w.heap.size = z := ⟨_, rfl⟩
  rw [gb0] at hx0
  have HX0 := Lib.hid hx0
  have HX1 := Lib.hid hx1
  have HB0 := Lib.hid hbl
  have HS0 := Lib.hid hsz
  have Gb0 := Lib.hid gb0
  have Lb0 : RowKit.Hid (w.heap.size ≤ b0) := Lib.hid (by omega)
  have Gb1 := Lib.hid gb1
  have Lb1 : RowKit.Hid (w.heap.size ≤ b1) := Lib.hid (by omega)
  have N01 : RowKit.Hid (b0 ≠ b1) := Lib.hid (by omega)
  rw [gW0, gb1, gb0]
  clear gW0 hbl hsz hx0 hx1 gb0 gb1
  go_loopw [13] (fun si wr => ∃ j : Nat, j ≤ n ∧ si = .int .i64 j ∧ RowKit.Hid (Below w.heap.size w wr) ∧ RowKit.Hid (Whole wr b0 34 [.int .i64 x1, .int .i64 x2]) ∧ RowKit.Hid (Whole wr b1 39 [.int .i64 0, .int .i64 0, .slice none 0 0, .string { data := #[] }, .int .i64 0]) ∧ RowKit.Hid (fndV (L.drop j) (x1, x2) = (r, ok))) (fun si _ => n - (intOf si).toNat)
  case atStart => exact ⟨0, by omega, rfl, HB0, HX0, HX1, HG⟩
  case round =>
    clear HB0 HX0 HX1 HG
    obtain ⟨j, hj, rfl, HB, HX0, HX1, HG⟩ := hrel
    obtain ⟨wo, gwo⟩ : ∃ z, wr = z := ⟨_, rfl⟩
    rw [gwo] at HB HX0 HX1 ⊢
    clear gwo
    by_cases hjn : j < n
    · obtain ⟨x, hx⟩ : ∃ x, L[j]? = some x := ⟨_, List.getElem?_eq_getElem (by have := Hl.out; omega)⟩
      have hdr : L.drop j = x :: L.drop (j + 1) := by
        rw [List.drop_eq_getElem_cons (List.getElem?_eq_some_iff.1 hx).1, (List.getElem?_eq_some_iff.1 hx).2]
      have hg2 := HG.out
      rw [hdr] at hg2
      have HG2 := Lib.hid hg2
      obtain ⟨bb, off, rfl, hbB, hpl⟩ := H.out.place vC_len (by decide) (by omega)
      have hbw := HB.out
      have q0 := hpl j _ hx 0 _ rfl
      have q1 := hpl j _ hx 1 _ rfl
      have q2 := hpl j _ hx 2 _ rfl
      have q3 := hpl j _ hx 3 _ rfl
      have q4 := hpl j _ hx 4 _ rfl
      simp only [Addr.add_lit, Nat.add_zero] at q0 q1 q2 q3 q4
      have l0 := (hbw.cell (p := ⟨bb, off + j * 5, none⟩) hbB).trans q0
      have l1 := (hbw.cell (p := ⟨bb, off + j * 5 + 1, none⟩) hbB).trans q1
      have l2 := (hbw.cell (p := ⟨bb, off + j * 5 + 2, none⟩) hbB).trans q2
      have l3 := (hbw.cell (p := ⟨bb, off + j * 5 + 3, none⟩) hbB).trans q3
      have l4 := (hbw.cell (p := ⟨bb, off + j * 5 + 4, none⟩) hbB).trans q4
      clear hbw q0 q1 q2 q3 q4
      have hnm := fun W => nameV x W
      obtain ⟨⟨i1, i2⟩, ⟨rA, rn, rc, rL⟩, lb, at_⟩ := x
      have HNm : RowKit.Hid (∀ W, Calls Try.prog 35 #[.agg #[.int .i64 i1, .int .i64 i2, .slice rA rn rc, .string lb, .int .i64 at_]] W fun e w' => e = .returned (.agg #[.int .i64 i1, .int .i64 i2]) ∧ Below W.heap.size W w') := Lib.hid hnm
      clear hx hdr hg2 hpl hbB HG hnm
      go_upto_region 4 with fail
      have HX9 := Lib.hid (Whole.new_ wo 39 [.int .i64 i1, .int .i64 i2, .slice rA rn rc, .string lb, .int .i64 at_])
      have HX01 := Lib.hid (HX0.out.alloc (.cells #[.int .i64 i1, .int .i64 i2, .slice rA rn rc, .string lb, .int .i64 at_] 39))
      have HX11 := Lib.hid (HX1.out.alloc (.cells #[.int .i64 i1, .int .i64 i2, .slice rA rn rc, .string lb, .int .i64 at_] 39))
      have HB1 := Lib.hid (bel_al HB.out (.cells #[.int .i64 i1, .int .i64 i2, .slice rA rn rc, .string lb, .int .i64 at_] 39))
      obtain ⟨W1, gW1⟩ : ∃ z, wo.alloc (.cells #[.int .i64 i1, .int .i64 i2, .slice rA rn rc, .string lb, .int .i64 at_] 39) = z := ⟨_, rfl⟩
      obtain ⟨g9, gg9⟩ : ∃ z, wo.heap.size = z := ⟨_, rfl⟩
      replace HX9 : RowKit.Hid (Whole W1 g9 39 [.int .i64 i1, .int .i64 i2, .slice rA rn rc, .string lb, .int .i64 at_]) := Lib.hid (by rw [← gW1, ← gg9]; exact HX9.out)
      replace HX01 : RowKit.Hid (Whole W1 b0 34 [.int .i64 x1, .int .i64 x2]) := Lib.hid (by rw [← gW1]; exact HX01.out)
      replace HX11 : RowKit.Hid (Whole W1 b1 39 [.int .i64 0, .int .i64 0, .slice none 0 0, .string { data := #[] }, .int .i64 0]) := Lib.hid (by rw [← gW1]; exact HX11.out)
      replace HB1 : RowKit.Hid (Below w.heap.size w W1) := Lib.hid (by rw [← gW1]; exact HB1.out)
      rw [gW1, gg9]
      clear gW1 gg9 HB HX0 HX1 l0 l1 l2 l3 l4
      have ld0 : ∀ w', Kept Nil_ W1.drew w' → w'.cell? ⟨b0, 0, none⟩ = some (.int .i64 x1) := fun w' h => h.nil_cell (HX01.out.dr.cell (i := 0) rfl)
      have ld1 : ∀ w', Kept Nil_ W1.drew w' → w'.cell? ⟨b0, 1, none⟩ = some (.int .i64 x2) := fun w' h => h.nil_cell (HX01.out.dr.cell (i := 1) rfl)
      have heq := fun W => eq_id i1 i2 x1 x2 W
      obtain ⟨bq, gbq⟩ : ∃ z, (i1 == x1 && i2 == x2) = z := ⟨_, rfl⟩
      rw [gbq] at heq
      have Gbq := Lib.hid gbq
      clear gbq
      refine wp_region_reg (Nil_) (by kernel_rfl) ?_
      apply wpR_next 0 (some 17)
      · simp only [List.getElem?_toArray, List.getElem?_cons_succ, List.getElem?_cons_zero]; exact rfl
      · rfl
      · kernel_rfl
      · kernel_rfl
      · kernel_rfl
      · exact fun _ _ _ _ h => h
      apply Exists.intro
      apply And.intro
      · apply yr_run; rfl; intro w' hw'; go_simp; (try with_reducible rfl)
      simp only [Act.put, List.setIfInBounds_toArray, List.set_cons_zero, List.set_cons_succ]
      apply wpR_next 1 (some 18)
      · simp only [List.getElem?_toArray, List.getElem?_cons_succ, List.getElem?_cons_zero]; exact rfl
      · rfl
      · kernel_rfl
      · kernel_rfl
      · kernel_rfl
      · exact fun _ _ _ _ h => h
      apply Exists.intro
      apply And.intro
      · exact yr_load (by rfl) 39 (.tmp 9) rfl g9 rfl 39 [.int .i64 i1, .int .i64 i2, .slice rA rn rc, .string lb, .int .i64 at_] _ (fun w' h => h.whole HX9.out.dr (fun h => h)) Try.underlying39 rfl (by kernel_rfl)
      simp only [Act.put, List.setIfInBounds_toArray, List.set_cons_zero, List.set_cons_succ]
      apply wpR_next 2 (some 19)
      · simp only [List.getElem?_toArray, List.getElem?_cons_succ, List.getElem?_cons_zero]; exact rfl
      · rfl
      · kernel_rfl
      · kernel_rfl
      · kernel_rfl
      · exact fun _ _ _ _ h => h
      apply Exists.intro
      apply And.intro
      · apply yr_call; rfl; rotate_left; intro w' hw'; exact HNm.out w'; intro w'; go_simp
      simp only [Act.put, List.setIfInBounds_toArray, List.set_cons_zero, List.set_cons_succ]
      apply wpR_next 3 (some 20)
      · simp only [List.getElem?_toArray, List.getElem?_cons_succ, List.getElem?_cons_zero]; exact rfl
      · rfl
      · kernel_rfl
      · kernel_rfl
      · kernel_rfl
      · exact fun _ _ _ _ h => h
      apply Exists.intro
      apply And.intro
      · apply yr_run; rfl; intro w' hw'; go_simp; (try with_reducible rfl)
      simp only [Act.put, List.setIfInBounds_toArray, List.set_cons_zero, List.set_cons_succ]
      apply wpR_next 4 (some 21)
      · simp only [List.getElem?_toArray, List.getElem?_cons_succ, List.getElem?_cons_zero]; exact rfl
      · rfl
      · kernel_rfl
      · kernel_rfl
      · kernel_rfl
      · exact fun _ _ _ _ h => h
      apply Exists.intro
      apply And.intro
      · apply yr_run; rfl; intro w' hw'; go_simp; (try with_reducible rfl)
      simp only [Act.put, List.setIfInBounds_toArray, List.set_cons_zero, List.set_cons_succ]
      refine wpR_done (by kernel_rfl) ?_ _
      intro W3 hw3
      have HB3 := Lib.hid (bel_bl (bel_dr HB1.out) hw3)
      have HX03 := Lib.hid (HX01.out.dr.bl hw3)
      have HX13 := Lib.hid (HX11.out.dr.bl hw3)
      have HY3 := Lib.hid (HX9.out.dr.bl hw3)
      clear hw3 ld0 ld1 HB1 HX01 HX11 HX9 heq
      cases bq with
      | true =>
        have hq := Gbq.out
        rw [Bool.and_eq_true, beq_iff_eq, beq_iff_eq] at hq
        have hg := HG2.out
        rw [fndV, fnd_yes _ _ _ _ _ (by rw [hq.1, hq.2])] at hg
        injection hg with hg1 hg2
        subst hg1 hg2
        have f0 := HX13.out.free 0
        have y0 := HY3.out.cell (i := 0) rfl
        have k0 := HX13.out.cell (i := 0) rfl
        have f1 := HX13.out.free 1
        have y1 := HY3.out.cell (i := 1) rfl
        have k1 := HX13.out.cell (i := 1) rfl
        have f2 := HX13.out.free 2
        have y2 := HY3.out.cell (i := 2) rfl
        have k2 := HX13.out.cell (i := 2) rfl
        have f3 := HX13.out.free 3
        have y3 := HY3.out.cell (i := 3) rfl
        have k3 := HX13.out.cell (i := 3) rfl
        have f4 := HX13.out.free 4
        have y4 := HY3.out.cell (i := 4) rfl
        have k4 := HX13.out.cell (i := 4) rfl
        have HY := Lib.hid (((((HX13.out.set_ 0 (.int .i64 i1)).set_ 1 (.int .i64 i2)).set_ 2 (.slice rA rn rc)).set_ 3 (.string lb)).set_ 4 (.int .i64 at_))
        have HBf := Lib.hid (((((HB3.out.setCell (p := ⟨b1, 0, none⟩) Lb1.out (.int .i64 i1)).setCell (p := ⟨b1, 1, none⟩) Lb1.out (.int .i64 i2)).setCell (p := ⟨b1, 2, none⟩) Lb1.out (.slice rA rn rc)).setCell (p := ⟨b1, 3, none⟩) Lb1.out (.string lb)).setCell (p := ⟨b1, 4, none⟩) Lb1.out (.int .i64 at_))
        clear HX13 HG2 HB3 hq
        go_wp2
        exact ret_whole2 rfl b1 rfl rfl HY.out Try.underlying39 rfl (by kernel_rfl) rfl ⟨rfl, HBf.out⟩
      | false =>
        have hg := HG2.out
        rw [fndV, fnd_no _ _ _ _ _ (fun e => by
          have e1 : i1 = x1 := congrArg Prod.fst e
          have e2 : i2 = x2 := congrArg Prod.snd e
          have := Gbq.out
          rw [e1, e2] at this
          simp at this)] at hg
        have HG4 := Lib.hid hg
        clear hg HG2 HY3
        go_wp2
        go_roundw
        case rel => exact ⟨j + 1, by omega, by go_num, HB3, HX03, HX13, HG4⟩
        case measure => simp [intOf]; omega
    · obtain rfl : n = j := by omega
      have hg := HG.out
      rw [List.drop_eq_nil_of_le (by have := Hl.out; omega)] at hg
      replace hg : (zV, false) = (r, ok) := hg
      injection hg with hg1 hg2
      subst hg1 hg2
      have HX14 := Lib.hid (HX1.out.alloc (.cells #[.int .i64 0, .int .i64 0, .slice none 0 0, .string { data := #[] }, .int .i64 0] 39))
      have HB4 := Lib.hid (bel_al HB.out (.cells #[.int .i64 0, .int .i64 0, .slice none 0 0, .string { data := #[] }, .int .i64 0] 39))
      have f0 := HX14.out.free 0
      have k0 := HX14.out.cell (i := 0) rfl
      have f1 := HX14.out.free 1
      have k1 := HX14.out.cell (i := 1) rfl
      have f2 := HX14.out.free 2
      have k2 := HX14.out.cell (i := 2) rfl
      have f3 := HX14.out.free 3
      have k3 := HX14.out.cell (i := 3) rfl
      have f4 := HX14.out.free 4
      have k4 := HX14.out.cell (i := 4) rfl
      have HY := Lib.hid (((((HX14.out.set_ 0 (.int .i64 0)).set_ 1 (.int .i64 0)).set_ 2 (.slice none 0 0)).set_ 3 (.string { data := #[] })).set_ 4 (.int .i64 0))
      have HBf := Lib.hid (((((HB4.out.setCell (p := ⟨b1, 0, none⟩) Lb1.out (.int .i64 0)).setCell (p := ⟨b1, 1, none⟩) Lb1.out (.int .i64 0)).setCell (p := ⟨b1, 2, none⟩) Lb1.out (.slice none 0 0)).setCell (p := ⟨b1, 3, none⟩) Lb1.out (.string { data := #[] })).setCell (p := ⟨b1, 4, none⟩) Lb1.out (.int .i64 0))
      clear HG HX1 HX14 HB4
      go_wp2
      exact ret_whole2 rfl b1 rfl rfl HY.out Try.underlying39 rfl (by kernel_rfl) rfl ⟨rfl, HBf.out⟩
set_option maxRecDepth 100000 in
set_option maxHeartbeats 4000000 in
theorem findE (A : Option Addr) (n c : Nat) (L : List EC) (x1 x2 : Int) (w : World) (h : RdS w w.heap.size 4 A n c (rowsV eC L)) (hn : n ≤ 1000000) :
    Calls Try.prog 50 #[.slice A n c, .func (.func 37) #[] #[], .agg #[.int .i64 x1, .int .i64 x2]] w fun e w' => e = .returned (.tuple #[.agg (eC (fndE L (x1, x2)).1).toArray, .bool (fndE L (x1, x2)).2]) ∧ Below w.heap.size w w' := by
  have H := Lib.hid h
  have Hl := Lib.hid (h.rlen eC_len (by decide))
  obtain ⟨⟨r, ok⟩, gr⟩ : ∃ z, fndE L (x1, x2) = z := ⟨_, rfl⟩
  rw [gr]
  have HG := Lib.hid gr
  clear h gr
  go_enter Try.func50, Try.ntmps50
  go_wp2
  have hx0 : Whole ((w.alloc (.cells #[.int .i64 x1, .int .i64 x2] 34)).alloc (.cells #[.int .i64 0, .int .i64 0, .string { data := #[] }, .int .i64 0] 43)) (w.heap.size) 34 [.int .i64 x1, .int .i64 x2] := ((Whole.new_ w 34 [.int .i64 x1, .int .i64 x2]).alloc (.cells #[.int .i64 0, .int .i64 0, .string { data := #[] }, .int .i64 0] 43))
  have hx1 : Whole ((w.alloc (.cells #[.int .i64 x1, .int .i64 x2] 34)).alloc (.cells #[.int .i64 0, .int .i64 0, .string { data := #[] }, .int .i64 0] 43)) (w.heap.size + 1) 43 [.int .i64 0, .int .i64 0, .string { data := #[] }, .int .i64 0] := (Whole.new2 (w := (w.alloc (.cells #[.int .i64 x1, .int .i64 x2] 34))) (by simp))
  have hbl : Below w.heap.size w ((w.alloc (.cells #[.int .i64 x1, .int .i64 x2] 34)).alloc (.cells #[.int .i64 0, .int .i64 0, .string { data := #[] }, .int .i64 0] 43)) := (bel_al (below1 w (.cells #[.int .i64 x1, .int .i64 x2] 34)) (.cells #[.int .i64 0, .int .i64 0, .string { data := #[] }, .int .i64 0] 43))
  have hsz : w.heap.size + 1 + 1 ≤ (((w.alloc (.cells #[.int .i64 x1, .int .i64 x2] 34)).alloc (.cells #[.int .i64 0, .int .i64 0, .string { data := #[] }, .int .i64 0] 43))).heap.size := by simp
  obtain ⟨W0, gW0⟩ : ∃ z, ((w.alloc (.cells #[.int .i64 x1, .int .i64 x2] 34)).alloc (.cells #[.int .i64 0, .int .i64 0, .string { data := #[] }, .int .i64 0] 43)) = z := ⟨_, rfl⟩
  rw [gW0] at hx0 hx1 hbl hsz
  obtain ⟨b1, gb1⟩ : ∃ z, w.heap.size + 1 = z := ⟨_, rfl⟩
  rw [gb1] at hx1
  obtain ⟨b0, gb0⟩ : ∃ z, w.heap.size = z := ⟨_, rfl⟩
  rw [gb0] at hx0
  have HX0 := Lib.hid hx0
  have HX1 := Lib.hid hx1
  have HB0 := Lib.hid hbl
  have HS0 := Lib.hid hsz
  have Gb0 := Lib.hid gb0
  have Lb0 : RowKit.Hid (w.heap.size ≤ b0) := Lib.hid (by omega)
  have Gb1 := Lib.hid gb1
  have Lb1 : RowKit.Hid (w.heap.size ≤ b1) := Lib.hid (by omega)
  have N01 : RowKit.Hid (b0 ≠ b1) := Lib.hid (by omega)
  rw [gW0, gb1, gb0]
  clear gW0 hbl hsz hx0 hx1 gb0 gb1
  go_loopw [13] (fun si wr => ∃ j : Nat, j ≤ n ∧ si = .int .i64 j ∧ RowKit.Hid (Below w.heap.size w wr) ∧ RowKit.Hid (Whole wr b0 34 [.int .i64 x1, .int .i64 x2]) ∧ RowKit.Hid (Whole wr b1 43 [.int .i64 0, .int .i64 0, .string { data := #[] }, .int .i64 0]) ∧ RowKit.Hid (fndE (L.drop j) (x1, x2) = (r, ok))) (fun si _ => n - (intOf si).toNat)
  case atStart => exact ⟨0, by omega, rfl, HB0, HX0, HX1, HG⟩
  case round =>
    clear HB0 HX0 HX1 HG
    obtain ⟨j, hj, rfl, HB, HX0, HX1, HG⟩ := hrel
    obtain ⟨wo, gwo⟩ : ∃ z, wr = z := ⟨_, rfl⟩
    rw [gwo] at HB HX0 HX1 ⊢
    clear gwo
    by_cases hjn : j < n
    · obtain ⟨x, hx⟩ : ∃ x, L[j]? = some x := ⟨_, List.getElem?_eq_getElem (by have := Hl.out; omega)⟩
      have hdr : L.drop j = x :: L.drop (j + 1) := by
        rw [List.drop_eq_getElem_cons (List.getElem?_eq_some_iff.1 hx).1, (List.getElem?_eq_some_iff.1 hx).2]
      have hg2 := HG.out
      rw [hdr] at hg2
      have HG2 := Lib.hid hg2
      obtain ⟨bb, off, rfl, hbB, hpl⟩ := H.out.place eC_len (by decide) (by omega)
      have hbw := HB.out
      have q0 := hpl j _ hx 0 _ rfl
      have q1 := hpl j _ hx 1 _ rfl
      have q2 := hpl j _ hx 2 _ rfl
      have q3 := hpl j _ hx 3 _ rfl
      simp only [Addr.add_lit, Nat.add_zero] at q0 q1 q2 q3
      have l0 := (hbw.cell (p := ⟨bb, off + j * 4, none⟩) hbB).trans q0
      have l1 := (hbw.cell (p := ⟨bb, off + j * 4 + 1, none⟩) hbB).trans q1
      have l2 := (hbw.cell (p := ⟨bb, off + j * 4 + 2, none⟩) hbB).trans q2
      have l3 := (hbw.cell (p := ⟨bb, off + j * 4 + 3, none⟩) hbB).trans q3
      clear hbw q0 q1 q2 q3
      have hnm := fun W => nameE x W
      obtain ⟨⟨i1, i2⟩, lb, at_⟩ := x
      have HNm : RowKit.Hid (∀ W, Calls Try.prog 37 #[.agg #[.int .i64 i1, .int .i64 i2, .string lb, .int .i64 at_]] W fun e w' => e = .returned (.agg #[.int .i64 i1, .int .i64 i2]) ∧ Below W.heap.size W w') := Lib.hid hnm
      clear hx hdr hg2 hpl hbB HG hnm
      go_upto_region 4 with fail
      have HX9 := Lib.hid (Whole.new_ wo 43 [.int .i64 i1, .int .i64 i2, .string lb, .int .i64 at_])
      have HX01 := Lib.hid (HX0.out.alloc (.cells #[.int .i64 i1, .int .i64 i2, .string lb, .int .i64 at_] 43))
      have HX11 := Lib.hid (HX1.out.alloc (.cells #[.int .i64 i1, .int .i64 i2, .string lb, .int .i64 at_] 43))
      have HB1 := Lib.hid (bel_al HB.out (.cells #[.int .i64 i1, .int .i64 i2, .string lb, .int .i64 at_] 43))
      obtain ⟨W1, gW1⟩ : ∃ z, wo.alloc (.cells #[.int .i64 i1, .int .i64 i2, .string lb, .int .i64 at_] 43) = z := ⟨_, rfl⟩
      obtain ⟨g9, gg9⟩ : ∃ z, wo.heap.size = z := ⟨_, rfl⟩
      replace HX9 : RowKit.Hid (Whole W1 g9 43 [.int .i64 i1, .int .i64 i2, .string lb, .int .i64 at_]) := Lib.hid (by rw [← gW1, ← gg9]; exact HX9.out)
      replace HX01 : RowKit.Hid (Whole W1 b0 34 [.int .i64 x1, .int .i64 x2]) := Lib.hid (by rw [← gW1]; exact HX01.out)
      replace HX11 : RowKit.Hid (Whole W1 b1 43 [.int .i64 0, .int .i64 0, .string { data := #[] }, .int .i64 0]) := Lib.hid (by rw [← gW1]; exact HX11.out)
      replace HB1 : RowKit.Hid (Below w.heap.size w W1) := Lib.hid (by rw [← gW1]; exact HB1.out)
      rw [gW1, gg9]
      clear gW1 gg9 HB HX0 HX1 l0 l1 l2 l3 
      have ld0 : ∀ w', Kept Nil_ W1.drew w' → w'.cell? ⟨b0, 0, none⟩ = some (.int .i64 x1) := fun w' h => h.nil_cell (HX01.out.dr.cell (i := 0) rfl)
      have ld1 : ∀ w', Kept Nil_ W1.drew w' → w'.cell? ⟨b0, 1, none⟩ = some (.int .i64 x2) := fun w' h => h.nil_cell (HX01.out.dr.cell (i := 1) rfl)
      have heq := fun W => eq_id i1 i2 x1 x2 W
      obtain ⟨bq, gbq⟩ : ∃ z, (i1 == x1 && i2 == x2) = z := ⟨_, rfl⟩
      rw [gbq] at heq
      have Gbq := Lib.hid gbq
      clear gbq
      refine wp_region_reg (Nil_) (by kernel_rfl) ?_
      apply wpR_next 0 (some 17)
      · simp only [List.getElem?_toArray, List.getElem?_cons_succ, List.getElem?_cons_zero]; exact rfl
      · rfl
      · kernel_rfl
      · kernel_rfl
      · kernel_rfl
      · exact fun _ _ _ _ h => h
      apply Exists.intro
      apply And.intro
      · apply yr_run; rfl; intro w' hw'; go_simp; (try with_reducible rfl)
      simp only [Act.put, List.setIfInBounds_toArray, List.set_cons_zero, List.set_cons_succ]
      apply wpR_next 1 (some 18)
      · simp only [List.getElem?_toArray, List.getElem?_cons_succ, List.getElem?_cons_zero]; exact rfl
      · rfl
      · kernel_rfl
      · kernel_rfl
      · kernel_rfl
      · exact fun _ _ _ _ h => h
      apply Exists.intro
      apply And.intro
      · exact yr_load (by rfl) 43 (.tmp 9) rfl g9 rfl 43 [.int .i64 i1, .int .i64 i2, .string lb, .int .i64 at_] _ (fun w' h => h.whole HX9.out.dr (fun h => h)) Try.underlying43 rfl (by kernel_rfl)
      simp only [Act.put, List.setIfInBounds_toArray, List.set_cons_zero, List.set_cons_succ]
      apply wpR_next 2 (some 19)
      · simp only [List.getElem?_toArray, List.getElem?_cons_succ, List.getElem?_cons_zero]; exact rfl
      · rfl
      · kernel_rfl
      · kernel_rfl
      · kernel_rfl
      · exact fun _ _ _ _ h => h
      apply Exists.intro
      apply And.intro
      · apply yr_call; rfl; rotate_left; intro w' hw'; exact HNm.out w'; intro w'; go_simp
      simp only [Act.put, List.setIfInBounds_toArray, List.set_cons_zero, List.set_cons_succ]
      apply wpR_next 3 (some 20)
      · simp only [List.getElem?_toArray, List.getElem?_cons_succ, List.getElem?_cons_zero]; exact rfl
      · rfl
      · kernel_rfl
      · kernel_rfl
      · kernel_rfl
      · exact fun _ _ _ _ h => h
      apply Exists.intro
      apply And.intro
      · apply yr_run; rfl; intro w' hw'; go_simp; (try with_reducible rfl)
      simp only [Act.put, List.setIfInBounds_toArray, List.set_cons_zero, List.set_cons_succ]
      apply wpR_next 4 (some 21)
      · simp only [List.getElem?_toArray, List.getElem?_cons_succ, List.getElem?_cons_zero]; exact rfl
      · rfl
      · kernel_rfl
      · kernel_rfl
      · kernel_rfl
      · exact fun _ _ _ _ h => h
      apply Exists.intro
      apply And.intro
      · apply yr_run; rfl; intro w' hw'; go_simp; (try with_reducible rfl)
      simp only [Act.put, List.setIfInBounds_toArray, List.set_cons_zero, List.set_cons_succ]
      refine wpR_done (by kernel_rfl) ?_ _
      intro W3 hw3
      have HB3 := Lib.hid (bel_bl (bel_dr HB1.out) hw3)
      have HX03 := Lib.hid (HX01.out.dr.bl hw3)
      have HX13 := Lib.hid (HX11.out.dr.bl hw3)
      have HY3 := Lib.hid (HX9.out.dr.bl hw3)
      clear hw3 ld0 ld1 HB1 HX01 HX11 HX9 heq
      cases bq with
      | true =>
        have hq := Gbq.out
        rw [Bool.and_eq_true, beq_iff_eq, beq_iff_eq] at hq
        have hg := HG2.out
        rw [fndE, fnd_yes _ _ _ _ _ (by rw [hq.1, hq.2])] at hg
        injection hg with hg1 hg2
        subst hg1 hg2
        have f0 := HX13.out.free 0
        have y0 := HY3.out.cell (i := 0) rfl
        have k0 := HX13.out.cell (i := 0) rfl
        have f1 := HX13.out.free 1
        have y1 := HY3.out.cell (i := 1) rfl
        have k1 := HX13.out.cell (i := 1) rfl
        have f2 := HX13.out.free 2
        have y2 := HY3.out.cell (i := 2) rfl
        have k2 := HX13.out.cell (i := 2) rfl
        have f3 := HX13.out.free 3
        have y3 := HY3.out.cell (i := 3) rfl
        have k3 := HX13.out.cell (i := 3) rfl
        have HY := Lib.hid ((((HX13.out.set_ 0 (.int .i64 i1)).set_ 1 (.int .i64 i2)).set_ 2 (.string lb)).set_ 3 (.int .i64 at_))
        have HBf := Lib.hid ((((HB3.out.setCell (p := ⟨b1, 0, none⟩) Lb1.out (.int .i64 i1)).setCell (p := ⟨b1, 1, none⟩) Lb1.out (.int .i64 i2)).setCell (p := ⟨b1, 2, none⟩) Lb1.out (.string lb)).setCell (p := ⟨b1, 3, none⟩) Lb1.out (.int .i64 at_))
        clear HX13 HG2 HB3 hq
        go_wp2
        exact ret_whole2 rfl b1 rfl rfl HY.out Try.underlying43 rfl (by kernel_rfl) rfl ⟨rfl, HBf.out⟩
      | false =>
        have hg := HG2.out
        rw [fndE, fnd_no _ _ _ _ _ (fun e => by
          have e1 : i1 = x1 := congrArg Prod.fst e
          have e2 : i2 = x2 := congrArg Prod.snd e
          have := Gbq.out
          rw [e1, e2] at this
          simp at this)] at hg
        have HG4 := Lib.hid hg
        clear hg HG2 HY3
        go_wp2
        go_roundw
        case rel => exact ⟨j + 1, by omega, by go_num, HB3, HX03, HX13, HG4⟩
        case measure => simp [intOf]; omega
    · obtain rfl : n = j := by omega
      have hg := HG.out
      rw [List.drop_eq_nil_of_le (by have := Hl.out; omega)] at hg
      replace hg : (zE, false) = (r, ok) := hg
      injection hg with hg1 hg2
      subst hg1 hg2
      have HX14 := Lib.hid (HX1.out.alloc (.cells #[.int .i64 0, .int .i64 0, .string { data := #[] }, .int .i64 0] 43))
      have HB4 := Lib.hid (bel_al HB.out (.cells #[.int .i64 0, .int .i64 0, .string { data := #[] }, .int .i64 0] 43))
      have f0 := HX14.out.free 0
      have k0 := HX14.out.cell (i := 0) rfl
      have f1 := HX14.out.free 1
      have k1 := HX14.out.cell (i := 1) rfl
      have f2 := HX14.out.free 2
      have k2 := HX14.out.cell (i := 2) rfl
      have f3 := HX14.out.free 3
      have k3 := HX14.out.cell (i := 3) rfl
      have HY := Lib.hid ((((HX14.out.set_ 0 (.int .i64 0)).set_ 1 (.int .i64 0)).set_ 2 (.string { data := #[] })).set_ 3 (.int .i64 0))
      have HBf := Lib.hid ((((HB4.out.setCell (p := ⟨b1, 0, none⟩) Lb1.out (.int .i64 0)).setCell (p := ⟨b1, 1, none⟩) Lb1.out (.int .i64 0)).setCell (p := ⟨b1, 2, none⟩) Lb1.out (.string { data := #[] })).setCell (p := ⟨b1, 3, none⟩) Lb1.out (.int .i64 0))
      clear HG HX1 HX14 HB4
      go_wp2
      exact ret_whole2 rfl b1 rfl rfl HY.out Try.underlying43 rfl (by kernel_rfl) rfl ⟨rfl, HBf.out⟩
set_option maxRecDepth 100000 in
set_option maxHeartbeats 4000000 in
theorem edge_any (A : Option Addr) (n c : Nat) (Vs : List VC) (B : Option Addr) (m k : Nat) (Es : List EC) (x1 x2 : Int) (w : World) (h : RdS w w.heap.size 4 B m k (rowsV eC Es)) (hm : m ≤ 1000000) :
    Calls Try.prog 20 #[.agg #[.slice A n c, .slice B m k], .agg #[.int .i64 x1, .int .i64 x2]] w fun e w' => e = .returned (.tuple #[.agg (eC (fndE Es (x1, x2)).1).toArray, .bool (fndE Es (x1, x2)).2]) ∧ Below w.heap.size w w' := by
  have HF := Lib.hid (fun W (hb : Below w.heap.size w W) => findE B m k Es x1 x2 W (h.bl hb) hm)
  obtain ⟨⟨r, ok⟩, gr⟩ : ∃ z, fndE Es (x1, x2) = z := ⟨_, rfl⟩
  rw [gr] at HF ⊢
  obtain ⟨⟨i1, i2⟩, lb, at_⟩ := r
  clear h gr
  replace HF : RowKit.Hid (∀ W, Below w.heap.size w W → Calls Try.prog 50 #[.slice B m k, .func (.func 37) #[] #[], .agg #[.int .i64 x1, .int .i64 x2]] W fun e w' => e = .returned (.tuple #[.agg #[.int .i64 i1, .int .i64 i2, .string lb, .int .i64 at_], .bool ok]) ∧ Below W.heap.size W w') := HF
  go_enter Try.func20, Try.ntmps20
  go_wp2_with fail
  have hx0 : Whole (((w.alloc (.cells #[.slice A n c, .slice B m k] 25)).alloc (.cells #[.int .i64 x1, .int .i64 x2] 34)).alloc (.cells #[.int .i64 0, .int .i64 0, .string { data := #[] }, .int .i64 0] 43)) (w.heap.size) 25 [.slice A n c, .slice B m k] := (((Whole.new_ w 25 [.slice A n c, .slice B m k]).alloc (.cells #[.int .i64 x1, .int .i64 x2] 34)).alloc (.cells #[.int .i64 0, .int .i64 0, .string { data := #[] }, .int .i64 0] 43))
  have hx1 : Whole (((w.alloc (.cells #[.slice A n c, .slice B m k] 25)).alloc (.cells #[.int .i64 x1, .int .i64 x2] 34)).alloc (.cells #[.int .i64 0, .int .i64 0, .string { data := #[] }, .int .i64 0] 43)) (w.heap.size + 1) 34 [.int .i64 x1, .int .i64 x2] := ((Whole.new2 (w := (w.alloc (.cells #[.slice A n c, .slice B m k] 25))) (by simp)).alloc (.cells #[.int .i64 0, .int .i64 0, .string { data := #[] }, .int .i64 0] 43))
  have hx2 : Whole (((w.alloc (.cells #[.slice A n c, .slice B m k] 25)).alloc (.cells #[.int .i64 x1, .int .i64 x2] 34)).alloc (.cells #[.int .i64 0, .int .i64 0, .string { data := #[] }, .int .i64 0] 43)) (w.heap.size + 1 + 1) 43 [.int .i64 0, .int .i64 0, .string { data := #[] }, .int .i64 0] := (Whole.new2 (w := ((w.alloc (.cells #[.slice A n c, .slice B m k] 25)).alloc (.cells #[.int .i64 x1, .int .i64 x2] 34))) (by simp))
  have hbl : Below w.heap.size w (((w.alloc (.cells #[.slice A n c, .slice B m k] 25)).alloc (.cells #[.int .i64 x1, .int .i64 x2] 34)).alloc (.cells #[.int .i64 0, .int .i64 0, .string { data := #[] }, .int .i64 0] 43)) := (bel_al (bel_al (below1 w (.cells #[.slice A n c, .slice B m k] 25)) (.cells #[.int .i64 x1, .int .i64 x2] 34)) (.cells #[.int .i64 0, .int .i64 0, .string { data := #[] }, .int .i64 0] 43))
  have hsz : w.heap.size + 1 + 1 + 1 ≤ ((((w.alloc (.cells #[.slice A n c, .slice B m k] 25)).alloc (.cells #[.int .i64 x1, .int .i64 x2] 34)).alloc (.cells #[.int .i64 0, .int .i64 0, .string { data := #[] }, .int .i64 0] 43))).heap.size := by simp
  obtain ⟨W0, gW0⟩ : ∃ z, (((w.alloc (.cells #[.slice A n c, .slice B m k] 25)).alloc (.cells #[.int .i64 x1, .int .i64 x2] 34)).alloc (.cells #[.int .i64 0, .int .i64 0, .string { data := #[] }, .int .i64 0] 43)) = z := ⟨_, rfl⟩
  rw [gW0] at hx0 hx1 hx2 hbl hsz
  obtain ⟨b2, gb2⟩ : ∃ z, w.heap.size + 1 + 1 = z := ⟨_, rfl⟩
  rw [gb2] at hx2
  obtain ⟨b1, gb1⟩ : ∃ z, w.heap.size + 1 = z := ⟨_, rfl⟩
  rw [gb1] at hx1
  obtain ⟨b0, gb0⟩ : ∃ z, w.heap.size = z := ⟨_, rfl⟩
  rw [gb0] at hx0
  have HX0 := Lib.hid hx0
  have HX1 := Lib.hid hx1
  have HX2 := Lib.hid hx2
  have HB0 := Lib.hid hbl
  have HS0 := Lib.hid hsz
  have Gb0 := Lib.hid gb0
  have Lb0 : RowKit.Hid (w.heap.size ≤ b0) := Lib.hid (by omega)
  have Gb1 := Lib.hid gb1
  have Lb1 : RowKit.Hid (w.heap.size ≤ b1) := Lib.hid (by omega)
  have Gb2 := Lib.hid gb2
  have Lb2 : RowKit.Hid (w.heap.size ≤ b2) := Lib.hid (by omega)
  have N01 : RowKit.Hid (b0 ≠ b1) := Lib.hid (by omega)
  have N02 : RowKit.Hid (b0 ≠ b2) := Lib.hid (by omega)
  have N12 : RowKit.Hid (b1 ≠ b2) := Lib.hid (by omega)
  try rw [gW0, gb2, gb1, gb0]
  clear gW0 hbl hsz hx0 hx1 hx2 gb0 gb1 gb2
  refine (HF.out _ HB0.out).mono ?_
  rintro e W3 ⟨rfl, hb⟩
  have HB3 := Lib.hid (bel_bl HB0.out hb)
  have HX23 := Lib.hid (HX2.out.bl hb)
  have f0 := HX23.out.free 0
  have k0 := HX23.out.cell (i := 0) rfl
  have f1 := HX23.out.free 1
  have k1 := HX23.out.cell (i := 1) rfl
  have f2 := HX23.out.free 2
  have k2 := HX23.out.cell (i := 2) rfl
  have f3 := HX23.out.free 3
  have k3 := HX23.out.cell (i := 3) rfl
  have HY := Lib.hid ((((HX23.out.set_ 0 (.int .i64 i1)).set_ 1 (.int .i64 i2)).set_ 2 (.string lb)).set_ 3 (.int .i64 at_))
  have HBf := Lib.hid ((((HB3.out.setCell (p := ⟨b2, 0, none⟩) Lb2.out (.int .i64 i1)).setCell (p := ⟨b2, 1, none⟩) Lb2.out (.int .i64 i2)).setCell (p := ⟨b2, 2, none⟩) Lb2.out (.string lb)).setCell (p := ⟨b2, 3, none⟩) Lb2.out (.int .i64 at_))
  clear hb HX23 HX2 HX0 HX1 HB0 HF
  go_wp2
  exact ret_whole2 rfl b2 rfl rfl HY.out Try.underlying43 rfl (by kernel_rfl) rfl ⟨rfl, HBf.out⟩
end Go.Proofs.Ytdhglhcpgmfpoaa
