/- Several texts in one. -/
import Derived.Test.YtkhklhipiiehbaaADA
import Derived.Deep.CutBlock
import Derived.Shelf.Spec.SlicesInsert
import Derived.Shelf.Spec.SlicesInsertGrow

/- The document's example of layer 11. -/
namespace Go.Proofs.Ytkhklhipiiehbaa
open Go.RowKit
set_option linter.unusedSimpArgs false
set_option linter.unusedVariables false

def shVs (r : Nat) : List VC := [((1, 9), (some ⟨r, 0, none⟩, 1, 1, [(1, 1, 0)]), ByteArray.empty, 0)]
def shGs : List Gn := [((1, 2, 0), (1, 1, 0)), ((1, 3, 0), (1, 2, 0))]
theorem sh_res3 (r : Nat) : resG (stV (shVs r)) shGs 2 (1, 3, 0) = (1, 1, 0) := (show _ = resG (stV (shVs 0)) shGs 2 (1, 3, 0) from rfl).trans (by kernel_rfl)
theorem sh_res4 (r : Nat) : resG (stV (shVs r)) shGs 2 (1, 4, 0) = (0, 0, 0) := (show _ = resG (stV (shVs 0)) shGs 2 (1, 4, 0) from rfl).trans (by kernel_rfl)
/-- The example's state in memory. -/
structure ShIn (w : World) (gr gv gg gs : Nat) : Prop where
  r : Whole w gr 32 [.int .i64 1, .int .i64 1, .int .i64 0]
  v : Whole w gv 53 [.int .i64 1, .int .i64 9, .slice (some ⟨gr, 0, none⟩) 1 1, .string { data := #[] }, .int .i64 0]
  g : Whole w gg 36 [.int .i64 1, .int .i64 2, .int .i64 0, .int .i64 1, .int .i64 1, .int .i64 0, .int .i64 1, .int .i64 3, .int .i64 0, .int .i64 1, .int .i64 2, .int .i64 0]
  s : Whole w gs 28 [.slice (some ⟨gv, 0, none⟩) 1 1, .slice none 0 0, .slice (some ⟨gg, 0, none⟩) 2 2]
theorem ShIn.dg {w : World} {gr gv gg gs : Nat} (h : ShIn w gr gv gg gs) : DgIn w (some ⟨gv, 0, none⟩) 1 1 (shVs gr) none 0 0 [] :=
  ⟨RdS.of_whole (t := 53) h.v rfl, RdS.no _ _ _, fun x hx => by
    obtain rfl := List.mem_singleton.1 hx
    exact ⟨by show 1 ≤ maxLen; unfold maxLen; omega, RdS.whole3 (t := 32) (L := [(1, 1, 0)]) h.r⟩⟩
theorem ShIn.res {w : World} {gr gv gg gs : Nat} (h : ShIn w gr gv gg gs) (d : D) (r : D) (hr : resG (stV (shVs gr)) shGs 2 d = r) (W : World) (hb : Below w.heap.size w W) : Calls Try.prog 10 #[.agg #[.slice (some ⟨gv, 0, none⟩) 1 1, .slice none 0 0, .slice (some ⟨gg, 0, none⟩) 2 2], .agg #[.int .i64 d.1, .int .i64 d.2.1, .int .i64 d.2.2]] W fun e w' => e = .returned (.agg #[.int .i64 r.1, .int .i64 r.2.1, .int .i64 r.2.2]) ∧ Below W.heap.size W w' := by
  have e := res_any (some ⟨gv, 0, none⟩) 1 1 (shVs gr) none 0 0 [] (some ⟨gg, 0, none⟩) 2 2 shGs d W (h.dg.below hb) (by omega) (fun y hy => by
    obtain rfl := List.mem_singleton.1 hy
    show 1 ≤ 1000000
    omega) (RdS.of_whole (t := 36) (h.g.below hb) rfl) (by omega)
  rw [hr] at e
  exact e
set_option maxRecDepth 100000 in
set_option maxHeartbeats 4000000 in
theorem shown11_any (w : World) : Calls Try.prog 7 #[] w fun e w' => e = .returned (.bool true) ∧ Below w.heap.size w w' := by
  go_enter Try.func7, Try.ntmps7
  go_wp2_with fail
  refine (dart11_any _ _).mono ?_
  rintro e w1 ⟨rfl, hb1⟩
  have HB1 := Lib.hid hb1
  clear hb1
  go_wp2_with fail
  refine (dart11_any _ _).mono ?_
  rintro e w2 ⟨rfl, hb2⟩
  have HB2 := Lib.hid (bel_bl (bel_al (bel_al HB1.out (.cells #[.int .i64 1, .int .i64 1, .int .i64 0] 32)) (.cells #[.int .i64 1, .int .i64 9, .slice (some ⟨w1.heap.size, 0, none⟩) 1 1, .string { data := #[] }, .int .i64 0] 53)) hb2)
  have HR2 : RowKit.Hid (Whole w2 w1.heap.size 32 [.int .i64 1, .int .i64 1, .int .i64 0]) := Lib.hid (((Whole.new_ w1 32 [.int .i64 1, .int .i64 1, .int .i64 0]).alloc _).below hb2)
  have HV2 : RowKit.Hid (Whole w2 (w1.heap.size + 1) 53 [.int .i64 1, .int .i64 9, .slice (some ⟨w1.heap.size, 0, none⟩) 1 1, .string { data := #[] }, .int .i64 0]) := Lib.hid ((Whole.new2 (w := w1.alloc (.cells #[.int .i64 1, .int .i64 1, .int .i64 0] 32)) (by simp)).below hb2)
  obtain ⟨gr, ggr⟩ : ∃ z, w1.heap.size = z := ⟨_, rfl⟩
  rw [ggr] at HR2 HV2 ⊢
  obtain ⟨gv, ggv⟩ : ∃ z, gr + 1 = z := ⟨_, rfl⟩
  rw [ggv] at HV2 ⊢
  clear hb2 HB1 ggr ggv
  go_wp2_with fail
  refine (dart11_any _ _).mono ?_
  rintro e w3 ⟨rfl, hb3⟩
  have HB3 := Lib.hid (bel_bl HB2.out hb3)
  have HR3 := Lib.hid (HR2.out.below hb3)
  have HV3 := Lib.hid (HV2.out.below hb3)
  clear hb3 HB2 HR2 HV2
  go_wp2_with fail
  refine (dart11_any _ _).mono ?_
  rintro e w4 ⟨rfl, hb4⟩
  have HB4 := Lib.hid (bel_bl HB3.out hb4)
  have HR4 := Lib.hid (HR3.out.below hb4)
  have HV4 := Lib.hid (HV3.out.below hb4)
  clear hb4 HB3 HR3 HV3
  go_wp2_with fail
  refine (dart11_any _ _).mono ?_
  rintro e w5 ⟨rfl, hb5⟩
  have HB5 := Lib.hid (bel_bl HB4.out hb5)
  have HR5 := Lib.hid (HR4.out.below hb5)
  have HV5 := Lib.hid (HV4.out.below hb5)
  clear hb5 HB4 HR4 HV4
  go_upto_region 2 with fail
  obtain ⟨gg, ggg⟩ : ∃ z, w5.heap.size = z := ⟨_, rfl⟩
  obtain ⟨gs, ggs⟩ : ∃ z, gg + 1 = z := ⟨_, rfl⟩
  have HS : RowKit.Hid (ShIn ((w5.alloc (.cells #[.int .i64 1, .int .i64 2, .int .i64 0, .int .i64 1, .int .i64 1, .int .i64 0, .int .i64 1, .int .i64 3, .int .i64 0, .int .i64 1, .int .i64 2, .int .i64 0] 36)).alloc (.cells #[.slice (some ⟨gv, 0, none⟩) 1 1, .slice none 0 0, .slice (some ⟨gg, 0, none⟩) 2 2] 28)) gr gv gg gs) := Lib.hid ⟨(HR5.out.alloc _).alloc _, (HV5.out.alloc _).alloc _, (Whole.new2 ggg.symm).alloc _, Whole.new2 (by simp; omega)⟩
  have HB6 := Lib.hid (bel_al (bel_al HB5.out (.cells #[.int .i64 1, .int .i64 2, .int .i64 0, .int .i64 1, .int .i64 1, .int .i64 0, .int .i64 1, .int .i64 3, .int .i64 0, .int .i64 1, .int .i64 2, .int .i64 0] 36)) (.cells #[.slice (some ⟨gv, 0, none⟩) 1 1, .slice none 0 0, .slice (some ⟨gg, 0, none⟩) 2 2] 28))
  rw [ggg, ggs]
  obtain ⟨W, gW⟩ : ∃ z, (w5.alloc (.cells #[.int .i64 1, .int .i64 2, .int .i64 0, .int .i64 1, .int .i64 1, .int .i64 0, .int .i64 1, .int .i64 3, .int .i64 0, .int .i64 1, .int .i64 2, .int .i64 0] 36)).alloc (.cells #[.slice (some ⟨gv, 0, none⟩) 1 1, .slice none 0 0, .slice (some ⟨gg, 0, none⟩) 2 2] 28) = z := ⟨_, rfl⟩
  rw [gW] at HS HB6 ⊢
  clear ggg ggs gW HB5 HR5 HV5
  have hk : ∀ w', Kept Nil_ W.drew w' → Below W.heap.size W w' := fun w' h => bel_bl (bel_dr (Below.refl _ _)) (h.below (Nat.le_refl _) (fun _ _ h => h))
  have HD : RowKit.Hid (∀ n w', Calls Try.prog 20 #[.int .i64 n] w' fun e w'' => e = .returned (.agg #[.int .i64 1, .int .i64 n, .int .i64 0]) ∧ Below w'.heap.size w' w'') := Lib.hid dart11_any
  have HR3 : RowKit.Hid (∀ w', Kept Nil_ W.drew w' → Calls Try.prog 10 #[.agg #[.slice (some ⟨gv, 0, none⟩) 1 1, .slice none 0 0, .slice (some ⟨gg, 0, none⟩) 2 2], .agg #[.int .i64 1, .int .i64 3, .int .i64 0]] w' fun e w'' => e = .returned (.agg #[.int .i64 1, .int .i64 1, .int .i64 0]) ∧ Below w'.heap.size w' w'') := Lib.hid (fun w' h => HS.out.res (1, 3, 0) (1, 1, 0) (sh_res3 gr) w' (hk w' h))
  have HR4 : RowKit.Hid (∀ w', Kept Nil_ W.drew w' → Calls Try.prog 10 #[.agg #[.slice (some ⟨gv, 0, none⟩) 1 1, .slice none 0 0, .slice (some ⟨gg, 0, none⟩) 2 2], .agg #[.int .i64 1, .int .i64 4, .int .i64 0]] w' fun e w'' => e = .returned (.agg #[.int .i64 0, .int .i64 0, .int .i64 0]) ∧ Below w'.heap.size w' w'') := Lib.hid (fun w' h => HS.out.res (1, 4, 0) (0, 0, 0) (sh_res4 gr) w' (hk w' h))
  have ld0 : ∀ w', Kept Nil_ W.drew w' → w'.cell? ⟨gs, 0, none⟩ = some (.slice (some ⟨gv, 0, none⟩) 1 1) := fun w' h => h.nil_cell (HS.out.s.dr.cell (i := 0) rfl)
  have ld1 : ∀ w', Kept Nil_ W.drew w' → w'.cell? ⟨gs, 1, none⟩ = some (.slice none 0 0) := fun w' h => h.nil_cell (HS.out.s.dr.cell (i := 1) rfl)
  have ld2 : ∀ w', Kept Nil_ W.drew w' → w'.cell? ⟨gs, 2, none⟩ = some (.slice (some ⟨gg, 0, none⟩) 2 2) := fun w' h => h.nil_cell (HS.out.s.dr.cell (i := 2) rfl)
  have heq1 : ∀ W, (binOp .eql 32 (.agg #[.int .i64 1, .int .i64 1, .int .i64 0]) (.agg #[.int .i64 1, .int .i64 1, .int .i64 0])).run Try.prog W = .ok (.bool true) W := fun W => by
    have e := eq_dart_run (1, 1, 0) (1, 1, 0) W
    rw [decide_eq_true rfl] at e
    exact e
  have heq2 : ∀ W, (binOp .eql 32 (.agg #[.int .i64 0, .int .i64 0, .int .i64 0]) (.agg #[.int .i64 0, .int .i64 0, .int .i64 0])).run Try.prog W = .ok (.bool true) W := fun W => by
    have e := eq_dart_run (0, 0, 0) (0, 0, 0) W
    rw [decide_eq_true rfl] at e
    exact e
  clear hk HS
  refine wp_region_reg (Nil_) (by kernel_rfl) ?_
  apply wpR_next 0 (some 16)
  · simp only [List.getElem?_toArray, List.getElem?_cons_succ, List.getElem?_cons_zero]; exact rfl
  · rfl
  · kernel_rfl
  · kernel_rfl
  · kernel_rfl
  · exact fun _ _ _ _ h => h
  apply Exists.intro
  apply And.intro
  · apply yr_run; rfl; intro w' hw'; go_simp; (try with_reducible rfl)
  simp only [Act.put, List.setIfInBounds_toArray, List.set_cons_zero, List.set_cons_succ]
  apply wpR_next 1 (some 17)
  · simp only [List.getElem?_toArray, List.getElem?_cons_succ, List.getElem?_cons_zero]; exact rfl
  · rfl
  · kernel_rfl
  · kernel_rfl
  · kernel_rfl
  · exact fun _ _ _ _ h => h
  apply Exists.intro
  apply And.intro
  · apply yr_call; rfl; rotate_left; intro w' hw'; exact HD.out 3 w'; intro w'; go_simp
  simp only [Act.put, List.setIfInBounds_toArray, List.set_cons_zero, List.set_cons_succ]
  apply wpR_next 2 (some 18)
  · simp only [List.getElem?_toArray, List.getElem?_cons_succ, List.getElem?_cons_zero]; exact rfl
  · rfl
  · kernel_rfl
  · kernel_rfl
  · kernel_rfl
  · exact fun _ _ _ _ h => h
  apply Exists.intro
  apply And.intro
  · apply yr_call; rfl; rotate_left; intro w' hw'; exact HR3.out w' hw'; intro w'; go_simp
  simp only [Act.put, List.setIfInBounds_toArray, List.set_cons_zero, List.set_cons_succ]
  apply wpR_next 3 (some 19)
  · simp only [List.getElem?_toArray, List.getElem?_cons_succ, List.getElem?_cons_zero]; exact rfl
  · rfl
  · kernel_rfl
  · kernel_rfl
  · kernel_rfl
  · exact fun _ _ _ _ h => h
  apply Exists.intro
  apply And.intro
  · apply yr_call; rfl; rotate_left; intro w' hw'; exact HD.out 1 w'; intro w'; go_simp
  simp only [Act.put, List.setIfInBounds_toArray, List.set_cons_zero, List.set_cons_succ]
  apply wpR_next 4 (some 20)
  · simp only [List.getElem?_toArray, List.getElem?_cons_succ, List.getElem?_cons_zero]; exact rfl
  · rfl
  · kernel_rfl
  · kernel_rfl
  · kernel_rfl
  · exact fun _ _ _ _ h => h
  apply Exists.intro
  apply And.intro
  · exact yr_run (by rfl) (fun w' hw' => exec_binop_agg .eql 32 (.tmp 18) (.tmp 19) 32 rfl rfl rfl (by kernel_rfl) (heq1 w'))
  simp only [Act.put, List.setIfInBounds_toArray, List.set_cons_zero, List.set_cons_succ]
  apply wpR_next 5 (some 21)
  · simp only [List.getElem?_toArray, List.getElem?_cons_succ, List.getElem?_cons_zero]; exact rfl
  · rfl
  · kernel_rfl
  · kernel_rfl
  · kernel_rfl
  · exact fun _ _ _ _ h => h
  apply Exists.intro
  apply And.intro
  · apply yr_run; rfl; intro w' hw'; go_simp; (try with_reducible rfl)
  simp only [Act.put, List.setIfInBounds_toArray, List.set_cons_zero, List.set_cons_succ]
  apply wpR_next 6 (some 22)
  · simp only [List.getElem?_toArray, List.getElem?_cons_succ, List.getElem?_cons_zero]; exact rfl
  · rfl
  · kernel_rfl
  · kernel_rfl
  · kernel_rfl
  · exact fun _ _ _ _ h => h
  apply Exists.intro
  apply And.intro
  · apply yr_run; rfl; intro w' hw'; go_simp; (try with_reducible rfl)
  simp only [Act.put, List.setIfInBounds_toArray, List.set_cons_zero, List.set_cons_succ]
  apply wpR_next 7 (some 23)
  · simp only [List.getElem?_toArray, List.getElem?_cons_succ, List.getElem?_cons_zero]; exact rfl
  · rfl
  · kernel_rfl
  · kernel_rfl
  · kernel_rfl
  · exact fun _ _ _ _ h => h
  apply Exists.intro
  apply And.intro
  · apply yr_call; rfl; rotate_left; intro w' hw'; exact HD.out 4 w'; intro w'; go_simp
  simp only [Act.put, List.setIfInBounds_toArray, List.set_cons_zero, List.set_cons_succ]
  apply wpR_next 8 (some 24)
  · simp only [List.getElem?_toArray, List.getElem?_cons_succ, List.getElem?_cons_zero]; exact rfl
  · rfl
  · kernel_rfl
  · kernel_rfl
  · kernel_rfl
  · exact fun _ _ _ _ h => h
  apply Exists.intro
  apply And.intro
  · apply yr_call; rfl; rotate_left; intro w' hw'; exact HR4.out w' hw'; intro w'; go_simp
  simp only [Act.put, List.setIfInBounds_toArray, List.set_cons_zero, List.set_cons_succ]
  apply wpR_next 9 (some 25)
  · simp only [List.getElem?_toArray, List.getElem?_cons_succ, List.getElem?_cons_zero]; exact rfl
  · rfl
  · kernel_rfl
  · kernel_rfl
  · kernel_rfl
  · exact fun _ _ _ _ h => h
  apply Exists.intro
  apply And.intro
  · apply yr_run; rfl; intro w' hw'; go_simp; (try with_reducible rfl)
  simp only [Act.put, List.setIfInBounds_toArray, List.set_cons_zero, List.set_cons_succ]
  apply wpR_next 10 (some 26)
  · simp only [List.getElem?_toArray, List.getElem?_cons_succ, List.getElem?_cons_zero]; exact rfl
  · rfl
  · kernel_rfl
  · kernel_rfl
  · kernel_rfl
  · exact fun _ _ _ _ h => h
  apply Exists.intro
  apply And.intro
  · exact yr_run (by rfl) (fun w' hw' => exec_binop_agg .eql 32 (.tmp 24) (.tmp 25) 32 rfl rfl rfl (by kernel_rfl) (heq2 w'))
  simp only [Act.put, List.setIfInBounds_toArray, List.set_cons_zero, List.set_cons_succ]
  apply wpR_next 11 (some 27)
  · simp only [List.getElem?_toArray, List.getElem?_cons_succ, List.getElem?_cons_zero]; exact rfl
  · rfl
  · kernel_rfl
  · kernel_rfl
  · kernel_rfl
  · exact fun _ _ _ _ h => h
  apply Exists.intro
  apply And.intro
  · apply yr_run; rfl; intro w' hw'; go_simp; (try with_reducible rfl)
  simp only [Act.put, List.setIfInBounds_toArray, List.set_cons_zero, List.set_cons_succ]
  apply wpR_next 12 (some 0)
  · simp only [List.getElem?_toArray, List.getElem?_cons_succ, List.getElem?_cons_zero]; exact rfl
  · rfl
  · kernel_rfl
  · kernel_rfl
  · kernel_rfl
  · exact fun _ _ _ _ h => h
  apply Exists.intro
  apply And.intro
  · apply yr_run; rfl; intro w' hw'; go_simp; (try with_reducible rfl)
  simp only [Act.put, List.setIfInBounds_toArray, List.set_cons_zero, List.set_cons_succ]
  refine wpR_done (by kernel_rfl) ?_ _
  intro W3 hw3
  have HB7 := Lib.hid (bel_bl (bel_bl HB6.out (bel_dr (Below.refl _ _))) hw3)
  clear hw3 ld0 ld1 ld2 heq1 heq2 HD HR3 HR4 HB6
  go_wp2
  go_ret
  exact ⟨rfl, HB7.out⟩
end Go.Proofs.Ytkhklhipiiehbaa

/- AnchorChains. -/
namespace Go.Proofs.Ytkhklhipiiehbaa
open Go.RowKit
set_option linter.unusedSimpArgs false
set_option linter.unusedVariables false

theorem info_gone : (Try.prog.info? 36).map (fun i => (i.zero, i.size, i.bytes)) = some (some (.agg #[.int .i64 0, .int .i64 0, .int .i64 0, .int .i64 0, .int .i64 0, .int .i64 0]), 6, 48) := by kernel_rfl
def chVs (r : Nat) : List VC := [((1, 1), (some ⟨r, 0, none⟩, 1, 1, [(1, 1, 0)]), ByteArray.empty, 0)]
/-- Between two rounds: the row of darts that are gone grows. -/
structure ChIn (w : World) (B2 gr gv gs : Nat) (n : Nat) (rd : Bool) (i : Nat) (u : Value) (wr : World) : Prop where
  ow : Ow w B2 36 6 u i (rowsV gnC (chainG n rd i)) wr
  r : Whole wr gr 32 [.int .i64 1, .int .i64 1, .int .i64 0]
  v : Whole wr gv 53 [.int .i64 1, .int .i64 1, .slice (some ⟨gr, 0, none⟩) 1 1, .string { data := #[] }, .int .i64 0]
  s : Whole wr gs 28 [.slice (some ⟨gv, 0, none⟩) 1 1, .slice none 0 0, u]
section
variable {w wr wr' : World} {B2 gr gv gs n i : Nat} {rd : Bool} {u : Value}
theorem ChIn.below (h : ChIn w B2 gr gv gs n rd i u wr) (hb : Below wr.heap.size wr wr') : ChIn w B2 gr gv gs n rd i u wr' :=
  ⟨h.ow.up hb, h.r.below hb, h.v.below hb, h.s.below hb⟩
theorem ChIn.store (h : ChIn w B2 gr gv gs n rd i u wr) (hr : gr ≠ gs) (hv : gv ≠ gs) (hs : gs < B2) (hl : w.heap.size ≤ gs) {u' : Value} {j : Nat} (ho : Ow w B2 36 6 u' j (rowsV gnC (chainG n rd j)) wr') (hb : Below B2 wr wr') (h0 : gr < B2) (h1 : gv < B2) : ChIn w B2 gr gv gs n rd j u' (wr'.setCell ⟨gs, 2, none⟩ u') :=
  ⟨ho.set_far (ho.low_ne hs) hl u', (h.r.at_ (hb.block _ h0)).set_far' hr u', (h.v.at_ (hb.block _ h1)).set_far' hv u', (h.s.at_ (hb.block _ hs)).set_ 2 u'⟩
theorem ChIn.far (h : ChIn w B2 gr gv gs n rd i u wr) {g j : Nat} (hg : wr.heap.size ≤ g ∨ (gr ≠ g ∧ gv ≠ g ∧ gs ≠ g ∧ some g ≠ u.ownBlock ∧ w.heap.size ≤ g)) (hw : w.heap.size ≤ g) (x : Value) : ChIn w B2 gr gv gs n rd i u (wr.setCell ⟨g, j, none⟩ x) := by
  have h1 := h.r.lt
  have h2 := h.v.lt
  have h3 := h.s.lt
  have h4 : some g ≠ u.ownBlock := hg.elim (fun q => h.ow.ne_ q) (fun q => q.2.2.2.1)
  exact ⟨h.ow.set_far h4 hw x, h.r.set_far' (by omega) x, h.v.set_far' (by omega) x, h.s.set_far' (by omega) x⟩
theorem ChIn.dg (h : ChIn w B2 gr gv gs n rd i u wr) : DgIn wr (some ⟨gv, 0, none⟩) 1 1 (chVs gr) none 0 0 [] :=
  ⟨RdS.of_whole (t := 53) h.v rfl, RdS.no _ _ _, fun x hx => by
    obtain rfl := List.mem_singleton.1 hx
    exact ⟨by show 1 ≤ maxLen; unfold maxLen; omega, RdS.whole3 (t := 32) (L := [(1, 1, 0)]) h.r⟩⟩
end
end Go.Proofs.Ytkhklhipiiehbaa

/- The law's few: a state of few vertices, edges and darts that are gone. -/
namespace Go.Proofs.Ytkhklhipiiehbaa
open Go.RowKit
set_option linter.unusedSimpArgs false
set_option linter.unusedVariables false

theorem rows_one11 {α : Type} (f : α → List Value) (x : α) : rowsV f [x] = f x := by simp [rowsV]
theorem rowsV_one11 {α : Type} (f : α → List Value) (h : ∀ x, ∀ u ∈ f x, u.oneCell' = true) : ∀ L, ∀ u ∈ rowsV f L, u.oneCell' = true
  | [], u, hu => by cases hu
  | x :: L, u, hu => by
    rcases List.mem_append.1 (show u ∈ f x ++ rowsV f L from hu) with q | q
    · exact h x u q
    · exact rowsV_one11 f h L u q
end Go.Proofs.Ytkhklhipiiehbaa

/- The law's rising: those of a row that rise by darts. -/
namespace Go.Proofs.Ytkhklhipiiehbaa
open Go.RowKit
set_option linter.unusedSimpArgs false
set_option linter.unusedVariables false

def ordG (y x : Gn) : Int := ordD y.1.1 y.1.2.1 y.1.2.2 x.1.1 x.1.2.1 x.1.2.2
end Go.Proofs.Ytkhklhipiiehbaa

/- The document's own Index, Turn, Next, Prev of rings. -/
namespace Go.Proofs.Ytkhklhipiiehbaa
open Go.RowKit
set_option linter.unusedSimpArgs false

end Go.Proofs.Ytkhklhipiiehbaa

/- The document's MayAttr, Vertex, Edge, At, times. -/
namespace Go.Proofs.Ytkhklhipiiehbaa
open Go.RowKit
set_option linter.unusedSimpArgs false
set_option linter.unusedVariables false

end Go.Proofs.Ytkhklhipiiehbaa

/- The document's At, times. -/
namespace Go.Proofs.Ytkhklhipiiehbaa
open Go.RowKit
set_option linter.unusedSimpArgs false
set_option linter.unusedVariables false

end Go.Proofs.Ytkhklhipiiehbaa

/- The document's rise, IDs, Names. -/
namespace Go.Proofs.Ytkhklhipiiehbaa
open Go.RowKit
set_option linter.unusedSimpArgs false
set_option linter.unusedVariables false

end Go.Proofs.Ytkhklhipiiehbaa

/- The document's rings. -/
namespace Go.Proofs.Ytkhklhipiiehbaa
open Go.RowKit
set_option linter.unusedSimpArgs false
set_option linter.unusedVariables false


end Go.Proofs.Ytkhklhipiiehbaa

/- The document's Form. -/
namespace Go.Proofs.Ytkhklhipiiehbaa
open Go.RowKit
set_option linter.unusedSimpArgs false
set_option linter.unusedVariables false


end Go.Proofs.Ytkhklhipiiehbaa

/- What the document asks of rings is what the program asks: each dart of an edge once, and no other. -/
namespace Go.Proofs.Ytkhklhipiiehbaa
open Go.RowKit
set_option linter.unusedSimpArgs false
set_option linter.unusedVariables false

end Go.Proofs.Ytkhklhipiiehbaa

/- The document's Same. -/
namespace Go.Proofs.Ytkhklhipiiehbaa
open Go.RowKit
set_option linter.unusedSimpArgs false
set_option linter.unusedVariables false

end Go.Proofs.Ytkhklhipiiehbaa

/- Clone. -/
namespace Go.Proofs.Ytkhklhipiiehbaa
open Go.RowKit
set_option linter.unusedSimpArgs false
set_option linter.unusedVariables false


/-- Rings of one's own, each behind the one ahead, from block lo on. -/
structure RgsOwn (W : World) (lo : Nat) (Ws : List VC) : Prop where
  own : ∀ x ∈ Ws, W.ownsRow lo 32 3 (.slice x.2.1.1 x.2.1.2.1 x.2.1.2.2.1) x.2.1.2.1 (dartsV x.2.1.2.2.2)
  rise : ∀ (i j : Nat) (x y : VC) (a b : Addr), i < j → Ws[i]? = some x → Ws[j]? = some y → x.2.1.1 = some a → y.2.1.1 = some b → a.block < b.block
/-- A diagram of one's own. -/
structure Cl (W : World) (lo : Nat) (A : Option Addr) (n c : Nat) (Ws : List VC) (B : Option Addr) (m k : Nat) (Es : List EC) : Prop where
  v : W.ownsRow lo 53 5 (.slice A n c) n (rowsV vC Ws)
  e : W.ownsRow lo 65 4 (.slice B m k) m (rowsV eC Es)
  r : RgsOwn W lo Ws
theorem Cl.dg {W : World} {lo : Nat} {A : Option Addr} {n c : Nat} {Ws : List VC} {B : Option Addr} {m k : Nat} {Es : List EC} (h : Cl W lo A n c Ws B m k Es) : DgIn W A n c Ws B m k Es :=
  ⟨own_rds h.v, own_rds h.e, fun x hx => ⟨own_cap (h.r.own x hx), own_rds (h.r.own x hx)⟩⟩
theorem RgsOwn.up {W W' : World} {lo : Nat} {Ws : List VC} (h : RgsOwn W lo Ws) (hb : Below W.heap.size W W') : RgsOwn W' lo Ws :=
  ⟨fun x hx => own_up (h.own x hx) hb, h.rise⟩
theorem Cl.up {W W' : World} {lo : Nat} {A : Option Addr} {n c : Nat} {Ws : List VC} {B : Option Addr} {m k : Nat} {Es : List EC} (h : Cl W lo A n c Ws B m k Es) (hb : Below W.heap.size W W') : Cl W' lo A n c Ws B m k Es :=
  ⟨own_up h.v hb, own_up h.e hb, h.r.up hb⟩
theorem RgsOwn.cells {W : World} {lo g : Nat} {Ws : List VC} {T : TypeId} {cs : List Value} (h : RgsOwn W lo Ws) (hw : Whole W g T cs) (hT : T ≠ 32) (o : Nat) (vs : List Value) : RgsOwn (W.setCells g o vs) lo Ws :=
  ⟨fun x hx => own_cells_far (h.own x hx) (own_ne (h.own x hx) hw hT) o vs, h.rise⟩
theorem RgsOwn.nil_ (W : World) (lo : Nat) : RgsOwn W lo [] := ⟨fun x hx => (by cases hx), fun i j x y a b _ h => (by simp at h)⟩
end Go.Proofs.Ytkhklhipiiehbaa

/- Words for the laws over diagrams. -/
namespace Go.Proofs.Ytkhklhipiiehbaa
open Go.RowKit
set_option linter.unusedSimpArgs false
set_option linter.unusedVariables false

section
variable {w w' : World} {A B : Option Addr} {n c m k : Nat} {Vs : List VC} {Es : List EC}
theorem DgIn.bl (h : DgIn w A n c Vs B m k Es) (hb : Below w.heap.size w w') : DgIn w' A n c Vs B m k Es := h.below hb
theorem DgIn.al (h : DgIn w A n c Vs B m k Es) (o : Obj) : DgIn (w.alloc o) A n c Vs B m k Es := h.below (below1 w o)
theorem DgIn.dr (h : DgIn w A n c Vs B m k Es) : DgIn w.drew A n c Vs B m k Es := h.below (below_drewN w.heap.size w 1)
theorem DgIn.far (h : DgIn w A n c Vs B m k Es) (g i : Nat) (u : Value) (ha : ∀ a, A = some a → 0 < n → a.block ≠ g) (hb : ∀ a, B = some a → 0 < m → a.block ≠ g) (hr : ∀ x ∈ Vs, ∀ a, x.2.1.1 = some a → 0 < x.2.1.2.1 → a.block ≠ g) :
    DgIn (w.setCell ⟨g, i, none⟩ u) A n c Vs B m k Es := by
  have hs : (w.setCell ⟨g, i, none⟩ u).heap.size = w.heap.size := by simp [World.setCell]
  exact ⟨by rw [hs]; exact h.v.far_ ha u, by rw [hs]; exact h.e.far_ hb u, fun x hx => ⟨(h.r x hx).1, by rw [hs]; exact (h.r x hx).2.far_ (hr x hx) u⟩⟩
end
theorem RgOk.bl {w w' : World} {r : Rg} (h : RgOk w r) (hb : Below w.heap.size w w') : RgOk w' r := h.below hb
theorem RgOk.al {w : World} {r : Rg} (h : RgOk w r) (o : Obj) : RgOk (w.alloc o) r := h.below (below1 w o)
theorem RgOk.dr {w : World} {r : Rg} (h : RgOk w r) : RgOk w.drew r := h.below (below_drewN w.heap.size w 1)
structure GoodD (Vs : List VC) (Es : List EC) : Prop where
  v : ∀ x ∈ Vs, ∀ d ∈ x.2.1.2.2.2, wfD d
  e : ∀ e ∈ Es, wfD (e.1.1, e.1.2, 0) ∧ wfD (e.1.1, e.1.2, 1)
  lv : ∀ x ∈ Vs, x.2.2.1.size ≤ maxLen
  le : ∀ x ∈ Es, x.2.1.size ≤ maxLen
theorem fewV_ring (v : VC) : (fewV v).2.1.1 = v.2.1.1 ∧ (fewV v).2.1.2.1 ≤ 30 ∧ (fewV v).2.1.2.1 ≤ v.2.1.2.1 ∧ (fewV v).1 = v.1 ∧ (fewV v).2.2 = v.2.2 ∧ ∀ d ∈ (fewV v).2.1.2.2.2, d ∈ v.2.1.2.2.2 := by
  unfold fewV
  split
  · exact ⟨rfl, Nat.le_refl _, by show 30 ≤ _; omega, rfl, rfl, fun d hd => List.mem_of_mem_take hd⟩
  · exact ⟨rfl, by omega, Nat.le_refl _, rfl, rfl, fun d hd => hd⟩
theorem GoodD.few {Vs : List VC} {Es : List EC} (h : GoodD Vs Es) : GoodD ((Vs.take 30).map fewV) (Es.take 50) := by
  refine ⟨fun x hx d hd => ?_, fun e he => h.e e (List.mem_of_mem_take he), fun x hx => ?_, fun e he => h.le e (List.mem_of_mem_take he)⟩
  · obtain ⟨y, hy, rfl⟩ := List.mem_map.1 hx
    exact h.v y (List.mem_of_mem_take hy) d ((fewV_ring y).2.2.2.2.2 d hd)
  · obtain ⟨y, hy, rfl⟩ := List.mem_map.1 hx
    have := h.lv y (List.mem_of_mem_take hy)
    rw [(fewV_ring y).2.2.2.2.1]
    exact this
/-- What few tells. -/
structure FewD (w0 W W' : World) (A : Option Addr) (n c : Nat) (Vs : List VC) (B : Option Addr) (m k : Nat) (Es : List EC) : Prop where
  dg : DgIn W' A n c Vs B m k Es
  good : GoodD Vs Es
  n30 : n ≤ 30
  m50 : m ≤ 50
  r30 : ∀ x ∈ Vs, x.2.1.2.1 ≤ 30
  low : ∀ x ∈ Vs, ∀ a, x.2.1.1 = some a → 0 < x.2.1.2.1 → a.block < w0.heap.size
  fresh : FwNew W A n c B m k
  lenv : Vs.length = n
  lene : Es.length = m
/-- The diagram that few told is put into a variable of the call's own. -/
theorem FewD.put {w0 W W' : World} {A B : Option Addr} {n c m k g : Nat} {Vs : List VC} {Es : List EC} (h : FewD w0 W W' A n c Vs B m k Es) (hg0 : w0.heap.size ≤ g) (hg : g < W.heap.size) (u v : Value) :
    DgIn ((W'.setCell ⟨g, 0, none⟩ u).setCell ⟨g, 1, none⟩ v) A n c Vs B m k Es := by
  have ha : ∀ a, A = some a → 0 < n → a.block ≠ g := fun a e h0 => by have := h.fresh.2.2.1 a e h0; omega
  have hb : ∀ a, B = some a → 0 < m → a.block ≠ g := fun a e h0 => by have := h.fresh.2.2.2 a e h0; omega
  have hr : ∀ x ∈ Vs, ∀ a, x.2.1.1 = some a → 0 < x.2.1.2.1 → a.block ≠ g := fun x hx a e h0 => by have := h.low x hx a e h0; omega
  exact (h.dg.far g 0 u ha hb hr).far g 1 v ha hb hr
/-- Another one, of before, behind a store to a variable. -/
theorem DgIn.put {W : World} {A B : Option Addr} {n c m k g : Nat} {Vs : List VC} {Es : List EC} (h : DgIn W A n c Vs B m k Es) (ha : ∀ a, A = some a → 0 < n → a.block ≠ g) (hb : ∀ a, B = some a → 0 < m → a.block ≠ g) (hr : ∀ x ∈ Vs, ∀ a, x.2.1.1 = some a → 0 < x.2.1.2.1 → a.block ≠ g) (u v : Value) :
    DgIn ((W.setCell ⟨g, 0, none⟩ u).setCell ⟨g, 1, none⟩ v) A n c Vs B m k Es := (h.far g 0 u ha hb hr).far g 1 v ha hb hr
end Go.Proofs.Ytkhklhipiiehbaa

/- The law's state: what few and rising leave, and what is told of it. -/
namespace Go.Proofs.Ytkhklhipiiehbaa
open Go.RowKit
set_option linter.unusedSimpArgs false
set_option linter.unusedVariables false

/-- A diagram none of whose blocks is b0. -/
structure DgAway (W : World) (b0 : Nat) (A : Option Addr) (n c : Nat) (V : List VC) (B : Option Addr) (m k : Nat) (E : List EC) : Prop where
  dg : DgIn W A n c V B m k E
  n26 : n ≤ 26
  r82 : ∀ y ∈ V, y.2.1.2.1 ≤ 82
  ha : ∀ a, A = some a → 0 < n → a.block ≠ b0
  hb : ∀ a, B = some a → 0 < m → a.block ≠ b0
  hr : ∀ x ∈ V, ∀ a, x.2.1.1 = some a → 0 < x.2.1.2.1 → a.block ≠ b0
/-- Darts that are gone, none of whose blocks is b0. -/
structure GnAway (W : World) (b0 : Nat) (C : Option Addr) (g gc : Nat) (G : List Gn) : Prop where
  gn : RdS W W.heap.size 6 C g gc (rowsV gnC G)
  ha : ∀ a, C = some a → 0 < g → a.block ≠ b0
section
variable {W W' w0 : World} {b0 : Nat} {A B C : Option Addr} {n c m k g gc : Nat} {V : List VC} {E : List EC} {G : List Gn}
theorem DgAway.below (h : DgAway W b0 A n c V B m k E) (hb : Below W.heap.size W W') : DgAway W' b0 A n c V B m k E := ⟨h.dg.below hb, h.n26, h.r82, h.ha, h.hb, h.hr⟩
theorem DgAway.set (h : DgAway W b0 A n c V B m k E) (i : Nat) (u : Value) : DgAway (W.setCell ⟨b0, i, none⟩ u) b0 A n c V B m k E := ⟨h.dg.far b0 i u h.ha h.hb h.hr, h.n26, h.r82, h.ha, h.hb, h.hr⟩
theorem GnAway.below (h : GnAway W b0 C g gc G) (hb : Below W.heap.size W W') : GnAway W' b0 C g gc G := ⟨h.gn.bl hb, h.ha⟩
theorem GnAway.set (h : GnAway W b0 C g gc G) (i : Nat) (u : Value) : GnAway (W.setCell ⟨b0, i, none⟩ u) b0 C g gc G := ⟨(h.gn.far_ h.ha u).up (Below.refl _ _) (by simp [World.setCell]), h.ha⟩
theorem GnAway.take (h : GnAway W b0 C g gc G) (N : Nat) (hN : N ≤ g) : GnAway W b0 C N gc (G.take N) := ⟨by
  have e := h.gn.take_ N hN
  rw [← rowsV_take gnC gnC_len] at e
  exact e, fun a ha h0 => h.ha a ha (by omega)⟩
/-- The law's state. -/
structure StIn (W : World) (b0 : Nat) (A : Option Addr) (n c : Nat) (V : List VC) (B : Option Addr) (m k : Nat) (E : List EC) (C : Option Addr) (g gc : Nat) (G : List Gn) : Prop where
  dg : DgIn W A n c V B m k E
  gn : RdS W W.heap.size 6 C g gc (rowsV gnC G)
  box : Whole W b0 28 [.slice A n c, .slice B m k, .slice C g gc]
  n26 : n ≤ 26
  r82 : ∀ y ∈ V, y.2.1.2.1 ≤ 82
  g390 : g ≤ 390
theorem StIn.below (h : StIn W b0 A n c V B m k E C g gc G) (hb : Below W.heap.size W W') : StIn W' b0 A n c V B m k E C g gc G := ⟨h.dg.below hb, h.gn.bl hb, h.box.below hb, h.n26, h.r82, h.g390⟩
theorem StIn.len (h : StIn W b0 A n c V B m k E C g gc G) : G.length = g := h.gn.rlen gnC_len (by decide)
end
end Go.Proofs.Ytkhklhipiiehbaa

/- AnchorNear. -/
namespace Go.Proofs.Ytkhklhipiiehbaa
open Go.RowKit
set_option linter.unusedSimpArgs false
set_option linter.unusedVariables false

section
variable {W W' w0 : World} {b0 : Nat} {A B C : Option Addr} {n c m k g gc : Nat} {V : List VC} {E : List EC} {G : List Gn} {x1 x2 d1 d2 d3 z1 z2 z3 i1 i2 at_ ix : Int} {rA : Option Addr} {rn rc : Nat} {rL : List D} {lb : ByteArray} {ok : Bool}
end
end Go.Proofs.Ytkhklhipiiehbaa

/- slices.BinarySearchFunc: where a dart that is gone stands. -/
namespace Go.Proofs.Ytkhklhipiiehbaa
open Go.RowKit
set_option linter.unusedSimpArgs false
set_option linter.unusedVariables false

set_option maxRecDepth 100000 in
theorem addcmp_any (x : Gn) (d1 d2 d3 : Int) (w : World) : Calls Try.prog 24 #[.agg #[.int .i64 x.1.1, .int .i64 x.1.2.1, .int .i64 x.1.2.2, .int .i64 x.2.1, .int .i64 x.2.2.1, .int .i64 x.2.2.2], .agg #[.int .i64 d1, .int .i64 d2, .int .i64 d3]] w fun e w' => e = .returned (.int .i64 (ordD x.1.1 x.1.2.1 x.1.2.2 d1 d2 d3)) ∧ Below w.heap.size w w' := by
  have HO := Lib.hid (orderdart_any x.1.1 x.1.2.1 x.1.2.2 d1 d2 d3)
  go_enter Try.func24, Try.ntmps24
  go_wp2_with (first
    | (go_at_call 25
       refine (HO.out _).mono ?_
       rintro e w2 ⟨rfl, hb⟩
       have HB := Lib.hid (bel_bl (bel_al (below1 w (.cells #[.int .i64 x.1.1, .int .i64 x.1.2.1, .int .i64 x.1.2.2, .int .i64 x.2.1, .int .i64 x.2.2.1, .int .i64 x.2.2.2] 36)) (.cells #[.int .i64 d1, .int .i64 d2, .int .i64 d3] 32)) hb)
       clear hb))
  go_ret
  exact ⟨rfl, HB.out⟩
set_option maxRecDepth 100000 in
set_option maxHeartbeats 4000000 in
theorem bsearch_any (A : Option Addr) (n c : Nat) (G : List Gn) (d1 d2 d3 : Int) (w : World) (h : RdS w w.heap.size 6 A n c (rowsV gnC G)) (hn : n ≤ 1000000) (cf : Nat → Int) (hcf : ∀ t x, G[t]? = some x → ordD x.1.1 x.1.2.1 x.1.2.2 d1 d2 d3 = cf t) (hmono : ∀ a b, a ≤ b → b < n → cf b < 0 → cf a < 0) :
    Calls Try.prog 23 #[.slice A n c, .agg #[.int .i64 d1, .int .i64 d2, .int .i64 d3], .func (.func 24) #[] #[]] w fun e w' => ∃ i : Nat, i ≤ n ∧ (∀ t, t < i → cf t < 0) ∧ (∀ t, i ≤ t → t < n → 0 ≤ cf t) ∧ e = .returned (.tuple #[.int .i64 (i : Int), .bool (decide (i < n) && decide (cf i = 0))]) ∧ Below w.heap.size w w' := by
  have H := Lib.hid h
  have Hl := Lib.hid (h.rlen gnC_len (by decide))
  have HM := Lib.hid hmono
  have he : Ent 24 := ent_of Try.func24 (by kernel_rfl) rfl
  clear h hmono
  go_enter Try.func23, Try.ntmps23
  go_wp2
  have hx0 := Whole.new_ w 32 [.int .i64 d1, .int .i64 d2, .int .i64 d3]
  have hbl := below1 w (.cells #[.int .i64 d1, .int .i64 d2, .int .i64 d3] 32)
  obtain ⟨W0, gW0⟩ : ∃ z, w.alloc (.cells #[.int .i64 d1, .int .i64 d2, .int .i64 d3] 32) = z := ⟨_, rfl⟩
  replace hx0 : Whole W0 w.heap.size 32 [.int .i64 d1, .int .i64 d2, .int .i64 d3] := gW0 ▸ hx0
  rw [gW0] at hbl ⊢
  obtain ⟨b0, gb0⟩ : ∃ z, w.heap.size = z := ⟨_, rfl⟩
  rw [gb0] at hx0 ⊢
  have HX0 := Lib.hid hx0
  have HB0 := Lib.hid hbl
  clear gW0 gb0 hx0 hbl
  go_loopw [9, 10] (fun s9 s10 wr => ∃ lo hi : Nat, s9 = .int .i64 lo ∧ s10 = .int .i64 hi ∧ lo ≤ hi ∧ hi ≤ n ∧ RowKit.Hid (Whole wr b0 32 [.int .i64 d1, .int .i64 d2, .int .i64 d3]) ∧ RowKit.Hid (Below w.heap.size w wr) ∧ RowKit.Hid ((∀ t, t < lo → cf t < 0) ∧ (∀ t, hi ≤ t → t < n → 0 ≤ cf t))) (fun s9 s10 _ => (intOf s10).toNat - (intOf s9).toNat)
  case atStart => exact ⟨0, n, rfl, rfl, Nat.zero_le _, Nat.le_refl _, HX0, HB0, Lib.hid ⟨fun t ht => absurd ht (Nat.not_lt_zero _), fun t h1 h2 => by omega⟩⟩
  case round =>
    clear HX0 HB0
    obtain ⟨lo, hi, rfl, rfl, hlh, hin, HX, HB, HI⟩ := hrel
    obtain ⟨wo, gwo⟩ : ∃ z, wr = z := ⟨_, rfl⟩
    rw [gwo] at HX HB ⊢
    clear gwo
    by_cases hlt : lo < hi
    · obtain ⟨m, gm⟩ : ∃ m, (lo + hi) / 2 = m := ⟨_, rfl⟩
      have hm1 : lo ≤ m := by omega
      have hm2 : m < hi := by omega
      have hmn : m < n := by omega
      have e1 : ((lo : Int) + (hi : Int)) / 2 = (m : Int) := by omega
      obtain ⟨x, hx⟩ : ∃ x, G[m]? = some x := ⟨_, List.getElem?_eq_getElem (by have := Hl.out; omega)⟩
      obtain ⟨b, off, rfl, hbB, hpl⟩ := H.out.place gnC_len (by decide) (by omega)
      have hbw := HB.out
      have q0 := hpl m _ hx 0 _ rfl
      have q1 := hpl m _ hx 1 _ rfl
      have q2 := hpl m _ hx 2 _ rfl
      have q3 := hpl m _ hx 3 _ rfl
      have q4 := hpl m _ hx 4 _ rfl
      have q5 := hpl m _ hx 5 _ rfl
      simp only [Addr.add_lit, Nat.add_zero] at q0 q1 q2 q3 q4 q5
      have l0 := (hbw.cell (p := ⟨b, off + m * 6, none⟩) hbB).trans q0
      have l1 := (hbw.cell (p := ⟨b, off + m * 6 + 1, none⟩) hbB).trans q1
      have l2 := (hbw.cell (p := ⟨b, off + m * 6 + 2, none⟩) hbB).trans q2
      have l3 := (hbw.cell (p := ⟨b, off + m * 6 + 3, none⟩) hbB).trans q3
      have l4 := (hbw.cell (p := ⟨b, off + m * 6 + 4, none⟩) hbB).trans q4
      have l5 := (hbw.cell (p := ⟨b, off + m * 6 + 5, none⟩) hbB).trans q5
      have hcx := hcf m x hx
      obtain ⟨ov, gov⟩ : ∃ z, ordD x.1.1 x.1.2.1 x.1.2.2 d1 d2 d3 = z := ⟨_, rfl⟩
      rw [gov] at hcx
      have HC0 := addcmp_any x d1 d2 d3
      rw [gov] at HC0
      have HC : RowKit.Hid (∀ w', Calls Try.prog 24 #[.agg #[.int .i64 x.1.1, .int .i64 x.1.2.1, .int .i64 x.1.2.2, .int .i64 x.2.1, .int .i64 x.2.2.1, .int .i64 x.2.2.2], .agg #[.int .i64 d1, .int .i64 d2, .int .i64 d3]] w' fun e w'' => e = .returned (.int .i64 ov) ∧ Below w'.heap.size w' w'') := Lib.hid HC0
      have Hcx : RowKit.Hid (ov = cf m) := Lib.hid hcx
      clear hx hpl hbB hbw q0 q1 q2 q3 q4 q5 hcx gov HC0
      go_upto_region 5 with fail
      have ld0 : ∀ w', Kept Nil_ wo.drew w' → w'.cell? ⟨b, off + m * 6, none⟩ = some (.int .i64 x.1.1) := fun w' h => h.nil_cell (l0)
      have ld1 : ∀ w', Kept Nil_ wo.drew w' → w'.cell? ⟨b, off + m * 6 + 1, none⟩ = some (.int .i64 x.1.2.1) := fun w' h => h.nil_cell (l1)
      have ld2 : ∀ w', Kept Nil_ wo.drew w' → w'.cell? ⟨b, off + m * 6 + 2, none⟩ = some (.int .i64 x.1.2.2) := fun w' h => h.nil_cell (l2)
      have ld3 : ∀ w', Kept Nil_ wo.drew w' → w'.cell? ⟨b, off + m * 6 + 3, none⟩ = some (.int .i64 x.2.1) := fun w' h => h.nil_cell (l3)
      have ld4 : ∀ w', Kept Nil_ wo.drew w' → w'.cell? ⟨b, off + m * 6 + 4, none⟩ = some (.int .i64 x.2.2.1) := fun w' h => h.nil_cell (l4)
      have ld5 : ∀ w', Kept Nil_ wo.drew w' → w'.cell? ⟨b, off + m * 6 + 5, none⟩ = some (.int .i64 x.2.2.2) := fun w' h => h.nil_cell (l5)
      have lx0 : ∀ w', Kept Nil_ wo.drew w' → w'.cell? ⟨b0, 0, none⟩ = some (.int .i64 d1) := fun w' h => h.nil_cell (HX.out.dr.cell (i := 0) rfl)
      have lx1 : ∀ w', Kept Nil_ wo.drew w' → w'.cell? ⟨b0, 1, none⟩ = some (.int .i64 d2) := fun w' h => h.nil_cell (HX.out.dr.cell (i := 1) rfl)
      have lx2 : ∀ w', Kept Nil_ wo.drew w' → w'.cell? ⟨b0, 2, none⟩ = some (.int .i64 d3) := fun w' h => h.nil_cell (HX.out.dr.cell (i := 2) rfl)
      clear l0 l1 l2 l3 l4 l5
      by_cases hneg : ov < 0
      · have hq : decide (ov < 0) = true := decide_eq_true hneg
        have HI2 : RowKit.Hid ((∀ t, t < m + 1 → cf t < 0) ∧ (∀ t, hi ≤ t → t < n → 0 ≤ cf t)) := Lib.hid ⟨fun t ht => HM.out t m (by omega) (by omega) (by rw [← Hcx.out]; exact hneg), HI.out.2⟩
        clear hneg HI Hcx
        refine wp_region_reg (Nil_) (by kernel_rfl) ?_
        apply wpR_next 0 (some 24)
        · simp only [List.getElem?_toArray, List.getElem?_cons_succ, List.getElem?_cons_zero]; exact rfl
        · rfl
        · kernel_rfl
        · kernel_rfl
        · kernel_rfl
        · exact fun _ _ _ _ h => h
        apply Exists.intro
        apply And.intro
        · apply yr_run; rfl; intro w' hw'; go_simp; (try with_reducible rfl)
        simp only [Act.put, List.setIfInBounds_toArray, List.set_cons_zero, List.set_cons_succ]
        apply wpR_next 1 (some 25)
        · simp only [List.getElem?_toArray, List.getElem?_cons_succ, List.getElem?_cons_zero]; exact rfl
        · rfl
        · kernel_rfl
        · kernel_rfl
        · kernel_rfl
        · exact fun _ _ _ _ h => h
        apply Exists.intro
        apply And.intro
        · apply yr_run; rfl; intro w' hw'; go_simp; (try with_reducible rfl)
        simp only [Act.put, List.setIfInBounds_toArray, List.set_cons_zero, List.set_cons_succ]
        apply wpR_next 2 (some 26)
        · simp only [List.getElem?_toArray, List.getElem?_cons_succ, List.getElem?_cons_zero]; exact rfl
        · rfl
        · kernel_rfl
        · kernel_rfl
        · kernel_rfl
        · exact fun _ _ _ _ h => h
        apply Exists.intro
        apply And.intro
        · apply yr_run; rfl; intro w' hw'; go_simp; (try with_reducible rfl)
        simp only [Act.put, List.setIfInBounds_toArray, List.set_cons_zero, List.set_cons_succ]
        apply wpR_next 3 (some 27)
        · simp only [List.getElem?_toArray, List.getElem?_cons_succ, List.getElem?_cons_zero]; exact rfl
        · rfl
        · kernel_rfl
        · kernel_rfl
        · kernel_rfl
        · exact fun _ _ _ _ h => h
        apply Exists.intro
        apply And.intro
        · apply yr_run; rfl; intro w' hw'; go_simp; (try with_reducible rfl)
        simp only [Act.put, List.setIfInBounds_toArray, List.set_cons_zero, List.set_cons_succ]
        apply wpR_next 4 (some 28)
        · simp only [List.getElem?_toArray, List.getElem?_cons_succ, List.getElem?_cons_zero]; exact rfl
        · rfl
        · kernel_rfl
        · kernel_rfl
        · kernel_rfl
        · exact fun _ _ _ _ h => h
        apply Exists.intro
        apply And.intro
        · apply yr_run; rfl; intro w' hw'; go_simp; (try with_reducible rfl)
        simp only [Act.put, List.setIfInBounds_toArray, List.set_cons_zero, List.set_cons_succ]
        apply wpR_next 5 (some 29)
        · simp only [List.getElem?_toArray, List.getElem?_cons_succ, List.getElem?_cons_zero]; exact rfl
        · rfl
        · kernel_rfl
        · kernel_rfl
        · kernel_rfl
        · exact fun _ _ _ _ h => h
        apply Exists.intro
        apply And.intro
        · apply yr_run; rfl; intro w' hw'; go_simp; (try with_reducible rfl)
        simp only [Act.put, List.setIfInBounds_toArray, List.set_cons_zero, List.set_cons_succ]
        apply wpR_next 6 (some 30)
        · simp only [List.getElem?_toArray, List.getElem?_cons_succ, List.getElem?_cons_zero]; exact rfl
        · rfl
        · kernel_rfl
        · kernel_rfl
        · kernel_rfl
        · exact fun _ _ _ _ h => h
        apply Exists.intro
        apply And.intro
        · apply yr_call; rfl; rotate_left; intro w' hw'; exact HC.out w'; intro w'; go_simp
        simp only [Act.put, List.setIfInBounds_toArray, List.set_cons_zero, List.set_cons_succ]
        apply wpR_next 7 (some 31)
        · simp only [List.getElem?_toArray, List.getElem?_cons_succ, List.getElem?_cons_zero]; exact rfl
        · rfl
        · kernel_rfl
        · kernel_rfl
        · kernel_rfl
        · exact fun _ _ _ _ h => h
        apply Exists.intro
        apply And.intro
        · apply yr_run; rfl; intro w' hw'; go_simp; (try with_reducible rfl)
        simp only [Act.put, List.setIfInBounds_toArray, List.set_cons_zero, List.set_cons_succ]
        refine wpR_done (by kernel_rfl) ?_ _
        intro W3 hw3
        have HB3 := Lib.hid (bel_bl (bel_dr HB.out) hw3)
        have HX3 := Lib.hid (HX.out.dr.bl hw3)
        clear hw3 HB HX ld0 ld1 ld2 ld3 ld4 ld5 lx0 lx1 lx2 HC
        go_wp2
        go_roundw
        case rel => exact ⟨m + 1, hi, by go_num, rfl, by omega, hin, HX3, HB3, HI2⟩
        case measure => simp [intOf]; omega
      · have hq : decide (ov < 0) = false := decide_eq_false hneg
        have HI2 : RowKit.Hid ((∀ t, t < lo → cf t < 0) ∧ (∀ t, m ≤ t → t < n → 0 ≤ cf t)) := Lib.hid ⟨HI.out.1, fun t ht htn => Int.not_lt.1 fun h => by have := HM.out m t ht htn h; rw [← Hcx.out] at this; omega⟩
        clear hneg HI Hcx
        refine wp_region_reg (Nil_) (by kernel_rfl) ?_
        apply wpR_next 0 (some 24)
        · simp only [List.getElem?_toArray, List.getElem?_cons_succ, List.getElem?_cons_zero]; exact rfl
        · rfl
        · kernel_rfl
        · kernel_rfl
        · kernel_rfl
        · exact fun _ _ _ _ h => h
        apply Exists.intro
        apply And.intro
        · apply yr_run; rfl; intro w' hw'; go_simp; (try with_reducible rfl)
        simp only [Act.put, List.setIfInBounds_toArray, List.set_cons_zero, List.set_cons_succ]
        apply wpR_next 1 (some 25)
        · simp only [List.getElem?_toArray, List.getElem?_cons_succ, List.getElem?_cons_zero]; exact rfl
        · rfl
        · kernel_rfl
        · kernel_rfl
        · kernel_rfl
        · exact fun _ _ _ _ h => h
        apply Exists.intro
        apply And.intro
        · apply yr_run; rfl; intro w' hw'; go_simp; (try with_reducible rfl)
        simp only [Act.put, List.setIfInBounds_toArray, List.set_cons_zero, List.set_cons_succ]
        apply wpR_next 2 (some 26)
        · simp only [List.getElem?_toArray, List.getElem?_cons_succ, List.getElem?_cons_zero]; exact rfl
        · rfl
        · kernel_rfl
        · kernel_rfl
        · kernel_rfl
        · exact fun _ _ _ _ h => h
        apply Exists.intro
        apply And.intro
        · apply yr_run; rfl; intro w' hw'; go_simp; (try with_reducible rfl)
        simp only [Act.put, List.setIfInBounds_toArray, List.set_cons_zero, List.set_cons_succ]
        apply wpR_next 3 (some 27)
        · simp only [List.getElem?_toArray, List.getElem?_cons_succ, List.getElem?_cons_zero]; exact rfl
        · rfl
        · kernel_rfl
        · kernel_rfl
        · kernel_rfl
        · exact fun _ _ _ _ h => h
        apply Exists.intro
        apply And.intro
        · apply yr_run; rfl; intro w' hw'; go_simp; (try with_reducible rfl)
        simp only [Act.put, List.setIfInBounds_toArray, List.set_cons_zero, List.set_cons_succ]
        apply wpR_next 4 (some 28)
        · simp only [List.getElem?_toArray, List.getElem?_cons_succ, List.getElem?_cons_zero]; exact rfl
        · rfl
        · kernel_rfl
        · kernel_rfl
        · kernel_rfl
        · exact fun _ _ _ _ h => h
        apply Exists.intro
        apply And.intro
        · apply yr_run; rfl; intro w' hw'; go_simp; (try with_reducible rfl)
        simp only [Act.put, List.setIfInBounds_toArray, List.set_cons_zero, List.set_cons_succ]
        apply wpR_next 5 (some 29)
        · simp only [List.getElem?_toArray, List.getElem?_cons_succ, List.getElem?_cons_zero]; exact rfl
        · rfl
        · kernel_rfl
        · kernel_rfl
        · kernel_rfl
        · exact fun _ _ _ _ h => h
        apply Exists.intro
        apply And.intro
        · apply yr_run; rfl; intro w' hw'; go_simp; (try with_reducible rfl)
        simp only [Act.put, List.setIfInBounds_toArray, List.set_cons_zero, List.set_cons_succ]
        apply wpR_next 6 (some 30)
        · simp only [List.getElem?_toArray, List.getElem?_cons_succ, List.getElem?_cons_zero]; exact rfl
        · rfl
        · kernel_rfl
        · kernel_rfl
        · kernel_rfl
        · exact fun _ _ _ _ h => h
        apply Exists.intro
        apply And.intro
        · apply yr_call; rfl; rotate_left; intro w' hw'; exact HC.out w'; intro w'; go_simp
        simp only [Act.put, List.setIfInBounds_toArray, List.set_cons_zero, List.set_cons_succ]
        apply wpR_next 7 (some 31)
        · simp only [List.getElem?_toArray, List.getElem?_cons_succ, List.getElem?_cons_zero]; exact rfl
        · rfl
        · kernel_rfl
        · kernel_rfl
        · kernel_rfl
        · exact fun _ _ _ _ h => h
        apply Exists.intro
        apply And.intro
        · apply yr_run; rfl; intro w' hw'; go_simp; (try with_reducible rfl)
        simp only [Act.put, List.setIfInBounds_toArray, List.set_cons_zero, List.set_cons_succ]
        refine wpR_done (by kernel_rfl) ?_ _
        intro W3 hw3
        have HB3 := Lib.hid (bel_bl (bel_dr HB.out) hw3)
        have HX3 := Lib.hid (HX.out.dr.bl hw3)
        clear hw3 HB HX ld0 ld1 ld2 ld3 ld4 ld5 lx0 lx1 lx2 HC
        go_wp2
        go_roundw
        case rel => exact ⟨lo, m, rfl, by first | rfl | go_num, by omega, by omega, HX3, HB3, HI2⟩
        case measure => simp [intOf]; omega
    · obtain rfl : hi = lo := by omega
      by_cases hn1 : hi < n
      · have e2 : (hi : Int) < (n : Int) := by omega
        have e3 : ¬ (hi : Int) < (hi : Int) := by omega
        obtain ⟨x, hx⟩ : ∃ x, G[hi]? = some x := ⟨_, List.getElem?_eq_getElem (by have := Hl.out; omega)⟩
        obtain ⟨b, off, rfl, hbB, hpl⟩ := H.out.place gnC_len (by decide) (by omega)
        have hbw := HB.out
        have q0 := hpl hi _ hx 0 _ rfl
        have q1 := hpl hi _ hx 1 _ rfl
        have q2 := hpl hi _ hx 2 _ rfl
        have q3 := hpl hi _ hx 3 _ rfl
        have q4 := hpl hi _ hx 4 _ rfl
        have q5 := hpl hi _ hx 5 _ rfl
        simp only [Addr.add_lit, Nat.add_zero] at q0 q1 q2 q3 q4 q5
        have l0 := (hbw.cell (p := ⟨b, off + hi * 6, none⟩) hbB).trans q0
        have l1 := (hbw.cell (p := ⟨b, off + hi * 6 + 1, none⟩) hbB).trans q1
        have l2 := (hbw.cell (p := ⟨b, off + hi * 6 + 2, none⟩) hbB).trans q2
        have l3 := (hbw.cell (p := ⟨b, off + hi * 6 + 3, none⟩) hbB).trans q3
        have l4 := (hbw.cell (p := ⟨b, off + hi * 6 + 4, none⟩) hbB).trans q4
        have l5 := (hbw.cell (p := ⟨b, off + hi * 6 + 5, none⟩) hbB).trans q5
        have hcx := hcf hi x hx
        obtain ⟨ov, gov⟩ : ∃ z, ordD x.1.1 x.1.2.1 x.1.2.2 d1 d2 d3 = z := ⟨_, rfl⟩
        rw [gov] at hcx
        have HC0 := addcmp_any x d1 d2 d3
        rw [gov] at HC0
        have HC : RowKit.Hid (∀ w', Calls Try.prog 24 #[.agg #[.int .i64 x.1.1, .int .i64 x.1.2.1, .int .i64 x.1.2.2, .int .i64 x.2.1, .int .i64 x.2.2.1, .int .i64 x.2.2.2], .agg #[.int .i64 d1, .int .i64 d2, .int .i64 d3]] w' fun e w'' => e = .returned (.int .i64 ov) ∧ Below w'.heap.size w' w'') := Lib.hid HC0
        have Hcx : RowKit.Hid (ov = cf hi) := Lib.hid hcx
        clear hx hpl hbB hbw q0 q1 q2 q3 q4 q5 hcx gov HC0
        obtain ⟨bq, gbq⟩ : ∃ z, (ov == 0) = z := ⟨_, rfl⟩
        have hfin : (decide (hi < n) && decide (cf hi = 0)) = bq := by
          rw [decide_eq_true hn1, ← Hcx.out, ← gbq, Bool.true_and, Bool.eq_iff_iff, decide_eq_true_iff, beq_iff_eq]
        have Hfin := Lib.hid hfin
        clear hfin
        go_upto_region 8 with fail
        have ld0 : ∀ w', Kept Nil_ wo.drew w' → w'.cell? ⟨b, off + hi * 6, none⟩ = some (.int .i64 x.1.1) := fun w' h => h.nil_cell (l0)
        have ld1 : ∀ w', Kept Nil_ wo.drew w' → w'.cell? ⟨b, off + hi * 6 + 1, none⟩ = some (.int .i64 x.1.2.1) := fun w' h => h.nil_cell (l1)
        have ld2 : ∀ w', Kept Nil_ wo.drew w' → w'.cell? ⟨b, off + hi * 6 + 2, none⟩ = some (.int .i64 x.1.2.2) := fun w' h => h.nil_cell (l2)
        have ld3 : ∀ w', Kept Nil_ wo.drew w' → w'.cell? ⟨b, off + hi * 6 + 3, none⟩ = some (.int .i64 x.2.1) := fun w' h => h.nil_cell (l3)
        have ld4 : ∀ w', Kept Nil_ wo.drew w' → w'.cell? ⟨b, off + hi * 6 + 4, none⟩ = some (.int .i64 x.2.2.1) := fun w' h => h.nil_cell (l4)
        have ld5 : ∀ w', Kept Nil_ wo.drew w' → w'.cell? ⟨b, off + hi * 6 + 5, none⟩ = some (.int .i64 x.2.2.2) := fun w' h => h.nil_cell (l5)
        have lx0 : ∀ w', Kept Nil_ wo.drew w' → w'.cell? ⟨b0, 0, none⟩ = some (.int .i64 d1) := fun w' h => h.nil_cell (HX.out.dr.cell (i := 0) rfl)
        have lx1 : ∀ w', Kept Nil_ wo.drew w' → w'.cell? ⟨b0, 1, none⟩ = some (.int .i64 d2) := fun w' h => h.nil_cell (HX.out.dr.cell (i := 1) rfl)
        have lx2 : ∀ w', Kept Nil_ wo.drew w' → w'.cell? ⟨b0, 2, none⟩ = some (.int .i64 d3) := fun w' h => h.nil_cell (HX.out.dr.cell (i := 2) rfl)
        clear l0 l1 l2 l3 l4 l5
        refine wp_region_reg (Nil_) (by kernel_rfl) ?_
        apply wpR_next 0 (some 35)
        · simp only [List.getElem?_toArray, List.getElem?_cons_succ, List.getElem?_cons_zero]; exact rfl
        · rfl
        · kernel_rfl
        · kernel_rfl
        · kernel_rfl
        · exact fun _ _ _ _ h => h
        apply Exists.intro
        apply And.intro
        · apply yr_run; rfl; intro w' hw'; go_simp; (try with_reducible rfl)
        simp only [Act.put, List.setIfInBounds_toArray, List.set_cons_zero, List.set_cons_succ]
        apply wpR_next 1 (some 36)
        · simp only [List.getElem?_toArray, List.getElem?_cons_succ, List.getElem?_cons_zero]; exact rfl
        · rfl
        · kernel_rfl
        · kernel_rfl
        · kernel_rfl
        · exact fun _ _ _ _ h => h
        apply Exists.intro
        apply And.intro
        · apply yr_run; rfl; intro w' hw'; go_simp; (try with_reducible rfl)
        simp only [Act.put, List.setIfInBounds_toArray, List.set_cons_zero, List.set_cons_succ]
        apply wpR_next 2 (some 37)
        · simp only [List.getElem?_toArray, List.getElem?_cons_succ, List.getElem?_cons_zero]; exact rfl
        · rfl
        · kernel_rfl
        · kernel_rfl
        · kernel_rfl
        · exact fun _ _ _ _ h => h
        apply Exists.intro
        apply And.intro
        · apply yr_run; rfl; intro w' hw'; go_simp; (try with_reducible rfl)
        simp only [Act.put, List.setIfInBounds_toArray, List.set_cons_zero, List.set_cons_succ]
        apply wpR_next 3 (some 38)
        · simp only [List.getElem?_toArray, List.getElem?_cons_succ, List.getElem?_cons_zero]; exact rfl
        · rfl
        · kernel_rfl
        · kernel_rfl
        · kernel_rfl
        · exact fun _ _ _ _ h => h
        apply Exists.intro
        apply And.intro
        · apply yr_run; rfl; intro w' hw'; go_simp; (try with_reducible rfl)
        simp only [Act.put, List.setIfInBounds_toArray, List.set_cons_zero, List.set_cons_succ]
        apply wpR_next 4 (some 39)
        · simp only [List.getElem?_toArray, List.getElem?_cons_succ, List.getElem?_cons_zero]; exact rfl
        · rfl
        · kernel_rfl
        · kernel_rfl
        · kernel_rfl
        · exact fun _ _ _ _ h => h
        apply Exists.intro
        apply And.intro
        · apply yr_run; rfl; intro w' hw'; go_simp; (try with_reducible rfl)
        simp only [Act.put, List.setIfInBounds_toArray, List.set_cons_zero, List.set_cons_succ]
        apply wpR_next 5 (some 40)
        · simp only [List.getElem?_toArray, List.getElem?_cons_succ, List.getElem?_cons_zero]; exact rfl
        · rfl
        · kernel_rfl
        · kernel_rfl
        · kernel_rfl
        · exact fun _ _ _ _ h => h
        apply Exists.intro
        apply And.intro
        · apply yr_run; rfl; intro w' hw'; go_simp; (try with_reducible rfl)
        simp only [Act.put, List.setIfInBounds_toArray, List.set_cons_zero, List.set_cons_succ]
        apply wpR_next 6 (some 41)
        · simp only [List.getElem?_toArray, List.getElem?_cons_succ, List.getElem?_cons_zero]; exact rfl
        · rfl
        · kernel_rfl
        · kernel_rfl
        · kernel_rfl
        · exact fun _ _ _ _ h => h
        apply Exists.intro
        apply And.intro
        · apply yr_run; rfl; intro w' hw'; go_simp; (try with_reducible rfl)
        simp only [Act.put, List.setIfInBounds_toArray, List.set_cons_zero, List.set_cons_succ]
        apply wpR_next 7 (some 42)
        · simp only [List.getElem?_toArray, List.getElem?_cons_succ, List.getElem?_cons_zero]; exact rfl
        · rfl
        · kernel_rfl
        · kernel_rfl
        · kernel_rfl
        · exact fun _ _ _ _ h => h
        apply Exists.intro
        apply And.intro
        · apply yr_run; rfl; intro w' hw'; go_simp; (try with_reducible rfl)
        simp only [Act.put, List.setIfInBounds_toArray, List.set_cons_zero, List.set_cons_succ]
        apply wpR_next 8 (some 43)
        · simp only [List.getElem?_toArray, List.getElem?_cons_succ, List.getElem?_cons_zero]; exact rfl
        · rfl
        · kernel_rfl
        · kernel_rfl
        · kernel_rfl
        · exact fun _ _ _ _ h => h
        apply Exists.intro
        apply And.intro
        · apply yr_run; rfl; intro w' hw'; go_simp; (try with_reducible rfl)
        simp only [Act.put, List.setIfInBounds_toArray, List.set_cons_zero, List.set_cons_succ]
        apply wpR_next 9 (some 44)
        · simp only [List.getElem?_toArray, List.getElem?_cons_succ, List.getElem?_cons_zero]; exact rfl
        · rfl
        · kernel_rfl
        · kernel_rfl
        · kernel_rfl
        · exact fun _ _ _ _ h => h
        apply Exists.intro
        apply And.intro
        · apply yr_run; rfl; intro w' hw'; go_simp; (try with_reducible rfl)
        simp only [Act.put, List.setIfInBounds_toArray, List.set_cons_zero, List.set_cons_succ]
        apply wpR_next 10 (some 45)
        · simp only [List.getElem?_toArray, List.getElem?_cons_succ, List.getElem?_cons_zero]; exact rfl
        · rfl
        · kernel_rfl
        · kernel_rfl
        · kernel_rfl
        · exact fun _ _ _ _ h => h
        apply Exists.intro
        apply And.intro
        · apply yr_run; rfl; intro w' hw'; go_simp; (try with_reducible rfl)
        simp only [Act.put, List.setIfInBounds_toArray, List.set_cons_zero, List.set_cons_succ]
        apply wpR_next 11 (some 46)
        · simp only [List.getElem?_toArray, List.getElem?_cons_succ, List.getElem?_cons_zero]; exact rfl
        · rfl
        · kernel_rfl
        · kernel_rfl
        · kernel_rfl
        · exact fun _ _ _ _ h => h
        apply Exists.intro
        apply And.intro
        · apply yr_call; rfl; rotate_left; intro w' hw'; exact HC.out w'; intro w'; go_simp
        simp only [Act.put, List.setIfInBounds_toArray, List.set_cons_zero, List.set_cons_succ]
        apply wpR_next 12 (some 47)
        · simp only [List.getElem?_toArray, List.getElem?_cons_succ, List.getElem?_cons_zero]; exact rfl
        · rfl
        · kernel_rfl
        · kernel_rfl
        · kernel_rfl
        · exact fun _ _ _ _ h => h
        apply Exists.intro
        apply And.intro
        · apply yr_run; rfl; intro w' hw'; go_simp; (try with_reducible rfl)
        simp only [Act.put, List.setIfInBounds_toArray, List.set_cons_zero, List.set_cons_succ]
        apply wpR_next 13 (some 48)
        · simp only [List.getElem?_toArray, List.getElem?_cons_succ, List.getElem?_cons_zero]; exact rfl
        · rfl
        · kernel_rfl
        · kernel_rfl
        · kernel_rfl
        · exact fun _ _ _ _ h => h
        apply Exists.intro
        apply And.intro
        · apply yr_run; rfl; intro w' hw'; go_simp; (try with_reducible rfl)
        simp only [Act.put, List.setIfInBounds_toArray, List.set_cons_zero, List.set_cons_succ]
        apply wpR_next 14 (some 6)
        · simp only [List.getElem?_toArray, List.getElem?_cons_succ, List.getElem?_cons_zero]; exact rfl
        · rfl
        · kernel_rfl
        · kernel_rfl
        · kernel_rfl
        · exact fun _ _ _ _ h => h
        apply Exists.intro
        apply And.intro
        · apply yr_run; rfl; intro w' hw'; go_simp; (try with_reducible rfl)
        simp only [Act.put, List.setIfInBounds_toArray, List.set_cons_zero, List.set_cons_succ]
        apply wpR_next 15 (some 7)
        · simp only [List.getElem?_toArray, List.getElem?_cons_succ, List.getElem?_cons_zero]; exact rfl
        · rfl
        · kernel_rfl
        · kernel_rfl
        · kernel_rfl
        · exact fun _ _ _ _ h => h
        apply Exists.intro
        apply And.intro
        · apply yr_run; rfl; intro w' hw'; go_simp; (try with_reducible rfl)
        simp only [Act.put, List.setIfInBounds_toArray, List.set_cons_zero, List.set_cons_succ]
        refine wpR_done (by kernel_rfl) ?_ _
        intro W3 hw3
        have HB3 := Lib.hid (bel_bl (bel_dr HB.out) hw3)
        clear hw3 HB HX ld0 ld1 ld2 ld3 ld4 ld5 lx0 lx1 lx2 HC
        go_wp2
        refine bodyPost_ret (v := .tuple #[.int .i64 (hi : Int), .bool bq]) (by simp [results, Try.results23, go_sem]) rfl ?_
        exact ⟨hi, hin, HI.out.1, HI.out.2, by rw [Hfin.out], HB3.out⟩
      · have e2 : ¬ (hi : Int) < (n : Int) := by omega
        have e3 : ¬ (hi : Int) < (hi : Int) := by omega
        have hfin : (decide (hi < n) && decide (cf hi = 0)) = false := by rw [decide_eq_false hn1]; rfl
        have Hfin := Lib.hid hfin
        clear hfin
        go_upto_region 8 with fail
        refine wp_region_reg (Nil_) (by kernel_rfl) ?_
        apply wpR_next 0 (some 35)
        · simp only [List.getElem?_toArray, List.getElem?_cons_succ, List.getElem?_cons_zero]; exact rfl
        · rfl
        · kernel_rfl
        · kernel_rfl
        · kernel_rfl
        · exact fun _ _ _ _ h => h
        apply Exists.intro
        apply And.intro
        · apply yr_run; rfl; intro w' hw'; go_simp; (try with_reducible rfl)
        simp only [Act.put, List.setIfInBounds_toArray, List.set_cons_zero, List.set_cons_succ]
        apply wpR_next 1 (some 36)
        · simp only [List.getElem?_toArray, List.getElem?_cons_succ, List.getElem?_cons_zero]; exact rfl
        · rfl
        · kernel_rfl
        · kernel_rfl
        · kernel_rfl
        · exact fun _ _ _ _ h => h
        apply Exists.intro
        apply And.intro
        · apply yr_run; rfl; intro w' hw'; go_simp; (try with_reducible rfl)
        simp only [Act.put, List.setIfInBounds_toArray, List.set_cons_zero, List.set_cons_succ]
        apply wpR_next 2 (some 37)
        · simp only [List.getElem?_toArray, List.getElem?_cons_succ, List.getElem?_cons_zero]; exact rfl
        · rfl
        · kernel_rfl
        · kernel_rfl
        · kernel_rfl
        · exact fun _ _ _ _ h => h
        apply Exists.intro
        apply And.intro
        · apply yr_run; rfl; intro w' hw'; go_simp; (try with_reducible rfl)
        simp only [Act.put, List.setIfInBounds_toArray, List.set_cons_zero, List.set_cons_succ]
        apply wpR_next 3 (some 38)
        · simp only [List.getElem?_toArray, List.getElem?_cons_succ, List.getElem?_cons_zero]; exact rfl
        · rfl
        · kernel_rfl
        · kernel_rfl
        · kernel_rfl
        · exact fun _ _ _ _ h => h
        apply Exists.intro
        apply And.intro
        · apply yr_run; rfl; intro w' hw'; go_simp; (try with_reducible rfl)
        simp only [Act.put, List.setIfInBounds_toArray, List.set_cons_zero, List.set_cons_succ]
        apply wpR_next 4 (some 39)
        · simp only [List.getElem?_toArray, List.getElem?_cons_succ, List.getElem?_cons_zero]; exact rfl
        · rfl
        · kernel_rfl
        · kernel_rfl
        · kernel_rfl
        · exact fun _ _ _ _ h => h
        apply Exists.intro
        apply And.intro
        · apply yr_run; rfl; intro w' hw'; go_simp; (try with_reducible rfl)
        simp only [Act.put, List.setIfInBounds_toArray, List.set_cons_zero, List.set_cons_succ]
        apply wpR_next 5 (some 40)
        · simp only [List.getElem?_toArray, List.getElem?_cons_succ, List.getElem?_cons_zero]; exact rfl
        · rfl
        · kernel_rfl
        · kernel_rfl
        · kernel_rfl
        · exact fun _ _ _ _ h => h
        apply Exists.intro
        apply And.intro
        · exact yr_skip (by rfl)
        simp only [Act.put, List.setIfInBounds_toArray, List.set_cons_zero, List.set_cons_succ]
        apply wpR_next 6 (some 41)
        · simp only [List.getElem?_toArray, List.getElem?_cons_succ, List.getElem?_cons_zero]; exact rfl
        · rfl
        · kernel_rfl
        · kernel_rfl
        · kernel_rfl
        · exact fun _ _ _ _ h => h
        apply Exists.intro
        apply And.intro
        · exact yr_skip (by rfl)
        simp only [Act.put, List.setIfInBounds_toArray, List.set_cons_zero, List.set_cons_succ]
        apply wpR_next 7 (some 42)
        · simp only [List.getElem?_toArray, List.getElem?_cons_succ, List.getElem?_cons_zero]; exact rfl
        · rfl
        · kernel_rfl
        · kernel_rfl
        · kernel_rfl
        · exact fun _ _ _ _ h => h
        apply Exists.intro
        apply And.intro
        · exact yr_skip (by rfl)
        simp only [Act.put, List.setIfInBounds_toArray, List.set_cons_zero, List.set_cons_succ]
        apply wpR_next 8 (some 43)
        · simp only [List.getElem?_toArray, List.getElem?_cons_succ, List.getElem?_cons_zero]; exact rfl
        · rfl
        · kernel_rfl
        · kernel_rfl
        · kernel_rfl
        · exact fun _ _ _ _ h => h
        apply Exists.intro
        apply And.intro
        · exact yr_skip (by rfl)
        simp only [Act.put, List.setIfInBounds_toArray, List.set_cons_zero, List.set_cons_succ]
        apply wpR_next 9 (some 44)
        · simp only [List.getElem?_toArray, List.getElem?_cons_succ, List.getElem?_cons_zero]; exact rfl
        · rfl
        · kernel_rfl
        · kernel_rfl
        · kernel_rfl
        · exact fun _ _ _ _ h => h
        apply Exists.intro
        apply And.intro
        · exact yr_skip (by rfl)
        simp only [Act.put, List.setIfInBounds_toArray, List.set_cons_zero, List.set_cons_succ]
        apply wpR_next 10 (some 45)
        · simp only [List.getElem?_toArray, List.getElem?_cons_succ, List.getElem?_cons_zero]; exact rfl
        · rfl
        · kernel_rfl
        · kernel_rfl
        · kernel_rfl
        · exact fun _ _ _ _ h => h
        apply Exists.intro
        apply And.intro
        · exact yr_skip (by rfl)
        simp only [Act.put, List.setIfInBounds_toArray, List.set_cons_zero, List.set_cons_succ]
        apply wpR_next 11 (some 46)
        · simp only [List.getElem?_toArray, List.getElem?_cons_succ, List.getElem?_cons_zero]; exact rfl
        · rfl
        · kernel_rfl
        · kernel_rfl
        · kernel_rfl
        · exact fun _ _ _ _ h => h
        apply Exists.intro
        apply And.intro
        · exact yr_skip (by rfl)
        simp only [Act.put, List.setIfInBounds_toArray, List.set_cons_zero, List.set_cons_succ]
        apply wpR_next 12 (some 47)
        · simp only [List.getElem?_toArray, List.getElem?_cons_succ, List.getElem?_cons_zero]; exact rfl
        · rfl
        · kernel_rfl
        · kernel_rfl
        · kernel_rfl
        · exact fun _ _ _ _ h => h
        apply Exists.intro
        apply And.intro
        · exact yr_skip (by rfl)
        simp only [Act.put, List.setIfInBounds_toArray, List.set_cons_zero, List.set_cons_succ]
        apply wpR_next 13 (some 48)
        · simp only [List.getElem?_toArray, List.getElem?_cons_succ, List.getElem?_cons_zero]; exact rfl
        · rfl
        · kernel_rfl
        · kernel_rfl
        · kernel_rfl
        · exact fun _ _ _ _ h => h
        apply Exists.intro
        apply And.intro
        · apply yr_run; rfl; intro w' hw'; go_simp; (try with_reducible rfl)
        simp only [Act.put, List.setIfInBounds_toArray, List.set_cons_zero, List.set_cons_succ]
        apply wpR_next 14 (some 6)
        · simp only [List.getElem?_toArray, List.getElem?_cons_succ, List.getElem?_cons_zero]; exact rfl
        · rfl
        · kernel_rfl
        · kernel_rfl
        · kernel_rfl
        · exact fun _ _ _ _ h => h
        apply Exists.intro
        apply And.intro
        · apply yr_run; rfl; intro w' hw'; go_simp; (try with_reducible rfl)
        simp only [Act.put, List.setIfInBounds_toArray, List.set_cons_zero, List.set_cons_succ]
        apply wpR_next 15 (some 7)
        · simp only [List.getElem?_toArray, List.getElem?_cons_succ, List.getElem?_cons_zero]; exact rfl
        · rfl
        · kernel_rfl
        · kernel_rfl
        · kernel_rfl
        · exact fun _ _ _ _ h => h
        apply Exists.intro
        apply And.intro
        · apply yr_run; rfl; intro w' hw'; go_simp; (try with_reducible rfl)
        simp only [Act.put, List.setIfInBounds_toArray, List.set_cons_zero, List.set_cons_succ]
        refine wpR_done (by kernel_rfl) ?_ _
        intro W3 hw3
        have HB3 := Lib.hid (bel_bl (bel_dr HB.out) hw3)
        clear hw3 HB HX
        go_wp2
        refine bodyPost_ret (v := .tuple #[.int .i64 (hi : Int), .bool false]) (by simp [results, Try.results23, go_sem]) rfl ?_
        exact ⟨hi, hin, HI.out.1, HI.out.2, by rw [Hfin.out], HB3.out⟩
end Go.Proofs.Ytkhklhipiiehbaa

/- slices.Insert over darts that are gone: at the end. -/
namespace Go.Proofs.Ytkhklhipiiehbaa
open Go.RowKit
set_option linter.unusedSimpArgs false
set_option linter.unusedVariables false

/-- copy over elements of s cells: all is read before anything is written. -/
theorem run_copy_sz {P : Program} (w : World) (dT sT ty elem : TypeId) (s b o dLen dCap : Nat) (a : Addr) (sLen sCap m : Nat) (cs : List Value)
    (hu : P.underlying dT = some (.slice elem)) (hs : (P.info? elem).map (·.size) = some s) (hm : Nat.min sLen dLen = m) (hn : m * s = cs.length)
    (hsrc : ∀ j v, cs[j]? = some v → w.cell? (a.add j) = some v) (hc : ∀ j, j < cs.length → (w.cell? ⟨b, o + j, none⟩).isSome = true) (hf : ∀ j, j < cs.length → w.frozen? ⟨b, o + j, none⟩ = false) (h1 : ∀ v ∈ cs, v.oneCell' = true) :
    (Builtin.copy_ #[dT, sT] ty #[.slice (some ⟨b, o, none⟩) dLen dCap, .slice (some a) sLen sCap]).run P w = .ok (goInt m) (w.setCells b o cs) := by
  have hl := run_loadCells_list (P := P) w a cs hsrc
  have hst := run_storeCells_cells (P := P) b o cs 0 w (by simpa using hc) (by simpa using hf) h1
  cases hq : P.info? elem with
  | none => simp [hq] at hs
  | some i =>
    have hi : i.size = s := by simpa [hq] using hs
    simp [Builtin.copy_, run_underlying hu, Builtin.lenOf, Builtin.firstCells, sizeOf, typeInfo, hq, hi, hm, hn, hl, hst]
set_option maxRecDepth 100000 in
set_option maxHeartbeats 4000000 in
theorem insert_end {w W : World} {B : Nat} {A : Option Addr} {n c vb : Nat} {G : List Gn} (x : Gn) (hO : Ow w B 36 6 (.slice A n c) n (rowsV gnC G) W) (hx : RdS W W.heap.size 6 (some ⟨vb, 0, none⟩) 1 1 (rowsV gnC [x])) (hn : n ≤ 1000) :
    Calls Try.prog 26 #[.slice A n c, .int .i64 (n : Int), .slice (some ⟨vb, 0, none⟩) 1 1] W fun e w' => ∃ A' c', e = .returned (.slice A' (n + 1) c') ∧ Ow w B 36 6 (.slice A' (n + 1) c') (n + 1) (rowsV gnC (G ++ [x])) w' := by
  obtain ⟨iG, hiG, z0iG, z1iG, z2iG⟩ := info_partsD info_gone
  have HO := Lib.hid hO
  have HL := Lib.hid hx
  have hnc : n ≤ c := (own_rds hO.own).le
  have hcm := own_cap hO.own
  unfold maxLen at hcm
  have e1 : ((n : Int) == (n : Int)) = true := by simp
  clear hO hx
  by_cases hcn : c = n
  · go_enter Try.func26, Try.ntmps26
    go_wp2_with (first
      | (at_builtin
         refine wpList_push2 rfl (.tmp 23) (.tmp 24) _ rfl _ 36 iG _ 6 48 Try.underlying26 hiG z0iG z1iG z2iG rfl (by decide) _ _ _ rfl HO.out _ _ _ _ _ rfl HL.out (rowsV_one11 gnC gnC_one [x]) (by unfold maxLen; omega) (by omega) ?_
         intro v5 W5 how5 hb5 hgr5
         obtain ⟨A5, c5, rfl, -⟩ := how5.rds
         have HO5 := Lib.hid how5
         clear how5 hb5 hgr5))
    go_ret
    exact ⟨_, _, rfl, by rw [rowsV_app]; exact HO5.out⟩
  · go_enter Try.func26, Try.ntmps26
    go_wp2_with (first
      | (at_builtin
         refine wpList_push2 rfl (.tmp 23) (.tmp 24) _ rfl _ 36 iG _ 6 48 Try.underlying26 hiG z0iG z1iG z2iG rfl (by decide) _ _ _ rfl HO.out _ _ _ _ _ rfl HL.out (rowsV_one11 gnC gnC_one [x]) (by unfold maxLen; omega) (by omega) ?_
         intro v5 W5 how5 hb5 hgr5
         obtain ⟨A5, c5, rfl, -⟩ := how5.rds
         have HO5 := Lib.hid how5
         clear how5 hb5 hgr5))
    go_ret
    exact ⟨_, _, rfl, by rw [rowsV_app]; exact HO5.out⟩
end Go.Proofs.Ytkhklhipiiehbaa

/- slices.Insert over darts that are gone: where there is room. -/
namespace Go.Proofs.Ytkhklhipiiehbaa
open Go.RowKit
set_option linter.unusedSimpArgs false
set_option linter.unusedVariables false

theorem ins_put (rows junk new : List Value) (i n : Nat) (hr : rows.length = n * 6) (hi : i < n) (hj : 6 ≤ junk.length) (hn : new.length = 6) :
    putR (putR (rows ++ junk) ((i + 1) * 6) (rows.drop (i * 6))) (i * 6) new = (rows.take (i * 6) ++ (new ++ rows.drop (i * 6))) ++ junk.drop 6 := by
  obtain ⟨P, hP⟩ : ∃ P, rows.take (i * 6) = P := ⟨_, rfl⟩
  obtain ⟨S, hS⟩ : ∃ S, rows.drop (i * 6) = S := ⟨_, rfl⟩
  have hPS : rows = P ++ S := by rw [← hP, ← hS, List.take_append_drop]
  have hPl : P.length = i * 6 := by rw [← hP, List.length_take]; omega
  have hSl : S.length = (n - i) * 6 := by rw [← hS, List.length_drop]; omega
  rw [hP, hS, hPS]
  have e1 : putR (P ++ S ++ junk) ((i + 1) * 6) S = P ++ ((S ++ junk).take 6 ++ (S ++ junk.drop 6)) := by
    unfold putR
    rw [List.append_assoc P S junk, List.take_append, List.drop_append, hPl]
    rw [List.take_of_length_le (by omega), List.drop_of_length_le (by omega), List.nil_append, List.append_assoc]
    rw [show (i + 1) * 6 - i * 6 = 6 by omega]
    congr 2
    rw [List.drop_append, List.drop_of_length_le (by omega), List.nil_append]
    rw [show (i + 1) * 6 + S.length - i * 6 - S.length = 6 by omega]
  rw [e1]
  unfold putR
  have hl6 : ((S ++ junk).take 6).length = 6 := by rw [List.length_take, List.length_append]; omega
  rw [List.take_append, List.drop_append, hPl, hn, Nat.sub_self, List.take_zero, List.append_nil, List.take_of_length_le (by omega), List.drop_of_length_le (by omega), List.nil_append]
  rw [show i * 6 + 6 - i * 6 = 6 by omega, List.drop_append, hl6, List.drop_of_length_le (by omega), List.nil_append, Nat.sub_self, List.drop_zero]
  simp [List.append_assoc]
theorem shape_whole {W : World} {g : Nat} {t : TypeId} {cs : List Value} (h : Whole W g t cs) : W.shape? g = some (t, cs.length) := by
  have h2 : W.heap[g]? = some (.cells cs.toArray t) := h
  simp [World.shape?, h2]
theorem some_whole {W : World} {g : Nat} {t : TypeId} {cs : List Value} (h : Whole W g t cs) {j : Nat} (hj : j < cs.length) : (W.cell? ⟨g, j, none⟩).isSome = true := by
  rw [h.cell (i := j) (List.getElem?_eq_getElem hj)]
  rfl
theorem gnC_mul {G : List Gn} (i : Nat) : (rowsV gnC G).take (i * 6) = rowsV gnC (G.take i) ∧ (rowsV gnC G).drop (i * 6) = rowsV gnC (G.drop i) := ⟨(rowsV_take gnC gnC_len G i).symm, (rowsV_drop gnC gnC_len G i).symm⟩
set_option maxRecDepth 100000 in
set_option maxHeartbeats 4000000 in
theorem insert_room {w W : World} {B : Nat} {A : Option Addr} {n c vb i : Nat} {G : List Gn} (x : Gn) (hO : Ow w B 36 6 (.slice A n c) n (rowsV gnC G) W) (hx : Whole W vb 36 (gnC x)) (hne : some vb ≠ (Value.slice A n c).ownBlock) (hn : n ≤ 1000) (hi : i < n) (hroom : n + 1 ≤ c) :
    Calls Try.prog 26 #[.slice A n c, .int .i64 (i : Int), .slice (some ⟨vb, 0, none⟩) 1 1] W fun e w' => ∃ A' c', e = .returned (.slice A' (n + 1) c') ∧ Ow w B 36 6 (.slice A' (n + 1) c') (n + 1) (rowsV gnC (G.take i ++ x :: G.drop i)) w' := by
  obtain ⟨iG, hiG, z0iG, z1iG, z2iG⟩ := info_partsD info_gone
  obtain ⟨b, junk, rfl, hlo, hW, hcl, hnc, hcm, hxl⟩ := own_place hO.own (by omega)
  have hvb : vb ≠ b := fun e => hne (by rw [e]; rfl)
  have hjl : (c - n) * 6 = junk.length := by rw [List.length_append, hxl] at hcl; rw [Nat.sub_mul]; omega
  have hj6 : 6 ≤ junk.length := by rw [← hjl]; omega
  unfold maxLen at hcm
  have hal : (rowsV gnC G ++ junk).length = c * 6 := hcl
  have hdl : (n - i) * 6 = ((rowsV gnC G).drop (i * 6)).length := by rw [List.length_drop, hxl, ← Nat.sub_mul]
  have hsz : (Try.prog.info? 36).map (·.size) = some 6 := by rw [hiG]; simp [z1iG]
  have hso : ∀ w, (Go.sizeOf 36).run Try.prog w = .ok 6 w := fun w => by simp [sizeOf, typeInfo, hiG, z1iG]
  have hov : ∀ lb cb, (callFunc 32 #[.slice (some ⟨vb, 0, none⟩) 1 1, .slice (some ⟨b, (i + 1) * 6, none⟩) lb cb]).run Try.prog W = .ok (.value (.bool false)) W := fun lb cb => by
    rw [run_callFunc_extern Try.func32 (by kernel_rfl) (by kernel_rfl) (by kernel_rfl) (e := Extern.SlicesOverlaps.overlaps #[26, 26] #[4]) (by kernel_rfl),
      Lib.run_overlaps_apart W 26 4 36 Try.underlying26 6 hso ⟨vb, 0, none⟩ ⟨b, (i + 1) * 6, none⟩ 1 1 lb cb hvb 36 36 _ _ (shape_whole hx) (shape_whole hW) (by rw [hcl]; omega) (hx.free 0) (hx.free _)]
    rfl
  have h1c : ∀ v ∈ (rowsV gnC G).drop (i * 6), v.oneCell' = true := fun v hv => rowsV_one11 gnC gnC_one G v (List.mem_of_mem_drop hv)
  have hcp1 : ∀ ty dc sc, (Builtin.copy_ #[26, 26] ty #[.slice (some ⟨b, (i + 1) * 6, none⟩) (n - i) dc, .slice (some ⟨b, i * 6, none⟩) (n + 1 - i) sc]).run Try.prog W.drew = .ok (goInt (n - i : Nat)) (W.drew.setCells b ((i + 1) * 6) ((rowsV gnC G).drop (i * 6))) := fun ty dc sc =>
    run_copy_sz W.drew _ _ ty 36 6 b ((i + 1) * 6) (n - i) dc ⟨b, i * 6, none⟩ (n + 1 - i) sc (n - i) _ Try.underlying26 hsz (by simp only [Nat.min_def]; split <;> omega) hdl
      (fun j v hj => by
        rw [Addr.add_lit]
        rw [List.getElem?_drop] at hj
        exact hW.dr.cell (i := i * 6 + j) (by rw [List.getElem?_append_left (by have := (List.getElem?_eq_some_iff.1 hj).1; omega)]; exact hj))
      (fun j hj => some_whole hW.dr (by rw [← hdl] at hj; rw [hal]; omega)) (fun j hj => hW.dr.free _) h1c
  have hW1 := hW.dr.cells_ ((rowsV gnC G).drop (i * 6)) ((i + 1) * 6) W.drew _ (by rw [← hdl, hal]; omega)
  obtain ⟨W1, gW1⟩ : ∃ z, W.drew.setCells b ((i + 1) * 6) ((rowsV gnC G).drop (i * 6)) = z := ⟨_, rfl⟩
  have hx1 : Whole W1 vb 36 (gnC x) := gW1 ▸ hx.dr.cells_far hvb _ _
  have hb1 : Below w.heap.size w W1 := gW1 ▸ below_setCells hO.below.drew (Nat.le_trans hO.lo hlo) _ _
  have hs1 : W1.heap.size = W.heap.size := by rw [← gW1, setCells_size]; rfl
  rw [gW1] at hcp1 hW1
  have hpl : (putR (rowsV gnC G ++ junk) ((i + 1) * 6) ((rowsV gnC G).drop (i * 6))).length = c * 6 := by rw [putR_length _ _ _ (by rw [← hdl, hal]; omega), hal]
  have hcp2 : ∀ ty dc, (Builtin.copy_ #[26, 26] ty #[.slice (some ⟨b, i * 6, none⟩) (n + 1 - i) dc, .slice (some ⟨vb, 0, none⟩) 1 1]).run Try.prog W1 = .ok (goInt (1 : Nat)) (W1.setCells b (i * 6) (gnC x)) := fun ty dc =>
    run_copy_sz W1 _ _ ty 36 6 b (i * 6) (n + 1 - i) dc ⟨vb, 0, none⟩ 1 1 1 _ Try.underlying26 hsz (by simp only [Nat.min_def]; split <;> omega) rfl
      (fun j v hj => by
        rw [Addr.add_lit, Nat.zero_add]
        exact hx1.cell hj)
      (fun j hj => some_whole hW1 (by rw [hpl]; rw [gnC_len] at hj; omega)) (fun j hj => hW1.free _) (gnC_one x)
  have hW2 := hW1.cells_ (gnC x) (i * 6) W1 _ (by rw [hpl, gnC_len]; omega)
  rw [ins_put (rowsV gnC G) junk (gnC x) i n hxl hi hj6 (gnC_len x), (gnC_mul i).1, (gnC_mul i).2] at hW2
  have hrows : rowsV gnC (G.take i) ++ (gnC x ++ rowsV gnC (G.drop i)) = rowsV gnC (G.take i ++ x :: G.drop i) := by rw [rowsV_app]; rfl
  rw [hrows] at hW2
  have hGl : G.length = n := (own_rds hO.own).rlen gnC_len (by decide)
  have hrl : (rowsV gnC (G.take i ++ x :: G.drop i)).length = (n + 1) * 6 := by
    rw [← hrows, List.length_append, List.length_append, ← (gnC_mul i).1, ← (gnC_mul i).2, List.length_take, List.length_drop, hxl, gnC_len]
    omega
  have HF : RowKit.Hid (Ow w B 36 6 (.slice (some ⟨b, 0, none⟩) (n + 1) c) (n + 1) (rowsV gnC (G.take i ++ x :: G.drop i)) (W1.setCells b (i * 6) (gnC x))) := Lib.hid
    ⟨own_mk (junk := junk.drop 6) hW2 hlo (by rw [List.length_append, hrl, List.length_drop, ← hjl]; omega) hroom (by unfold maxLen; omega) hrl,
     below_setCells hb1 (Nat.le_trans hO.lo hlo) _ _, hO.lo, by rw [setCells_size, hs1]; exact hO.hi⟩
  have hz2 : ¬ ((i : Int) = (n : Int)) := by omega
  have hw1 : IntKind.i64.wrap ((i : Int) + 1) = (i : Int) + 1 := by rw [IntKind.wrap_i64]; omega
  have hw2 : IntKind.i64.wrap ((n : Int) + 1) = (n : Int) + 1 := by rw [IntKind.wrap_i64]; omega
  have hb1 : (0 : Int) ≤ (i : Int) + 1 := by omega
  have hin : i ≤ n := by omega
  have htn : ((i : Int) + 1).toNat = i + 1 := by omega
  have htn2 : ((n : Int) + 1).toNat = n + 1 := by omega
  have hb2 : ¬ (c = i + 1) := by omega
  have hb3 : (i : Int) ≤ (n : Int) + 1 := by omega
  have hb4 : ¬ (c = i) := by omega
  have hb5 : ¬ (c : Int) < (n : Int) + 1 := by omega
  have hb6 : (n : Int) + 1 ≤ (c : Int) := by omega
  have mixed : Try.prog.follows Departure.mixedOrders = true := by kernel_rfl
  clear hO hx hne hW hcl hxl hvb hjl hj6 hal hdl hsz hso h1c hW1 gW1 hx1 hpl hW2 hrows hGl hrl hs1
  go_enter Try.func26, Try.ntmps26
  go_wp2_with (simp only [hov])
  go_region_law_o (refine step_copy_runI rfl _ _ 26 26 rfl _ _ (by simp [Act.eval, Act.put]) (by simp [Act.eval, Act.put]) (hcp1 _ _ _) ?_)
  go_wp2_with (at_builtin; refine wpList_copy_runI _ rfl _ _ 26 26 rfl _ _ rfl rfl (hcp2 _ _) ?_)
  go_ret
  exact ⟨_, _, rfl, HF.out⟩
end Go.Proofs.Ytkhklhipiiehbaa

/- slices.Insert over darts that are gone: where there is no room. -/
namespace Go.Proofs.Ytkhklhipiiehbaa
open Go.RowKit
set_option linter.unusedSimpArgs false
set_option linter.unusedVariables false

theorem grow_put (P Z new S : List Value) (i : Nat) (hP : P.length = i * 6) (hn : new.length = 6) (hZ : 6 + S.length ≤ Z.length) :
    putR (putR (P ++ Z) (i * 6) new) ((i + 1) * 6) S = (P ++ (new ++ S)) ++ Z.drop (6 + S.length) := by
  have e1 : putR (P ++ Z) (i * 6) new = (P ++ new) ++ Z.drop 6 := by
    unfold putR
    rw [List.take_append, List.drop_append, hP, hn, Nat.sub_self, List.take_zero, List.append_nil, List.take_of_length_le (by omega), List.drop_of_length_le (by omega), List.nil_append]
    rw [show i * 6 + 6 - i * 6 = 6 by omega, List.append_assoc]
  have hl : (P ++ new).length = (i + 1) * 6 := by rw [List.length_append, hP, hn]; omega
  rw [e1]
  unfold putR
  rw [List.take_append, List.drop_append, hl, Nat.sub_self, List.take_zero, List.append_nil, List.take_of_length_le (by omega), List.drop_of_length_le (by omega), List.nil_append]
  rw [show (i + 1) * 6 + S.length - (i + 1) * 6 = S.length by omega, List.drop_drop]
  simp [List.append_assoc]
theorem zeros6 (k : Nat) : (Builtin.zeroCells (Value.agg #[.int .i64 0, .int .i64 0, .int .i64 0, .int .i64 0, .int .i64 0, .int .i64 0]).cells k).size = k * 6 := by
  simp [Builtin.zeroCells, Value.cells]
set_option maxRecDepth 100000 in
set_option maxHeartbeats 4000000 in
theorem insert_grow {w W : World} {B : Nat} {A : Option Addr} {n vb i : Nat} {G : List Gn} (x : Gn) (hO : Ow w B 36 6 (.slice A n n) n (rowsV gnC G) W) (hx : Whole W vb 36 (gnC x)) (hn : n ≤ 1000) (hi : i < n) :
    Calls Try.prog 26 #[.slice A n n, .int .i64 (i : Int), .slice (some ⟨vb, 0, none⟩) 1 1] W fun e w' => ∃ A' c', e = .returned (.slice A' (n + 1) c') ∧ Ow w B 36 6 (.slice A' (n + 1) c') (n + 1) (rowsV gnC (G.take i ++ x :: G.drop i)) w' := by
  obtain ⟨iG, hiG, z0iG, z1iG, z2iG⟩ := info_partsD info_gone
  obtain ⟨b, junk, rfl, hlo, hW, hcl, hnc, hcm, hxl⟩ := own_place hO.own (by omega)
  have hdl : (n - i) * 6 = ((rowsV gnC G).drop (i * 6)).length := by rw [List.length_drop, hxl, ← Nat.sub_mul]
  have hpl : ((rowsV gnC G).take (i * 6)).length = i * 6 := by rw [List.length_take, hxl]; omega
  have hsz : (Try.prog.info? 36).map (·.size) = some 6 := by rw [hiG]; simp [z1iG]
  have hik : i + (n + 1 - i) = n + 1 := by omega
  have hkk : (n : Int) + 1 - (i : Int) = ((n + 1 - i : Nat) : Int) := by omega
  have h1c : ∀ v ∈ (rowsV gnC G).drop (i * 6), v.oneCell' = true := fun v hv => rowsV_one11 gnC gnC_one G v (List.mem_of_mem_drop hv)
  have hold : (Builtin.firstCells iG.size i (.slice (some ⟨b, 0, none⟩) i n)).run Try.prog W.drew = .ok ((rowsV gnC G).take (i * 6)).toArray W.drew := by
    rw [z1iG]
    exact run_firstCells_some W.drew 6 i ⟨b, 0, none⟩ i n _ hpl (fun j v hj => by
      rw [Addr.add_lit, Nat.zero_add]
      rw [List.getElem?_take] at hj
      split at hj
      · exact hW.dr.cell (i := j) (by rw [List.getElem?_append_left (List.getElem?_eq_some_iff.1 hj).1]; exact hj)
      · cases hj)
  obtain ⟨g, hg⟩ : ∃ g, W.heap.size = g := ⟨_, rfl⟩
  obtain ⟨GC, hGC⟩ : ∃ z, grownCap W (n + 1) n 36 = z := ⟨_, rfl⟩
  have hGn : n + 1 ≤ GC := by rw [← hGC]; exact grownCap_ge W _ _ _
  have hG63 : GC ≤ maxLen := by rw [← hGC]; exact grownCap_le_maxLen W (n + 1) n 36 (by unfold maxLen; omega)
  obtain ⟨ROW, hROW⟩ : ∃ z, ((rowsV gnC G).take (i * 6)).toArray ++ Builtin.zeroCells (Value.agg #[.int .i64 0, .int .i64 0, .int .i64 0, .int .i64 0, .int .i64 0, .int .i64 0]).cells (n + 1 - i) ++ Builtin.zeroCells (Value.agg #[.int .i64 0, .int .i64 0, .int .i64 0, .int .i64 0, .int .i64 0, .int .i64 0]).cells (GC - (n + 1)) = z := ⟨_, rfl⟩
  have hrz : ∀ ty, (Builtin.append_ #[26, 3] ty #[.slice (some ⟨b, 0, none⟩) i n, .int .i64 ((n : Int) + 1 - (i : Int))]).run Try.prog W = .ok (.slice (some ⟨g, 0, none⟩) (n + 1) GC) (W.drew.alloc (.cells ROW 36)) := fun ty => by
    have h := Lib.run_append_grow_zeros W 26 3 ty 36 iG _ .i64 .i64 Try.underlying26 Try.underlying3 hiG z0iG (some ⟨b, 0, none⟩) i n _ hold (n + 1 - i) (by omega) (by omega) (by omega) (by omega) (by rw [z2iG]; omega) (by rw [z2iG, hik]; exact growslice_fits (by omega) (by omega))
    rw [hik, hg, hGC, hROW] at h
    rw [hkk]
    exact h
  obtain ⟨Z, hZ⟩ : ∃ Z, (Builtin.zeroCells (Value.agg #[.int .i64 0, .int .i64 0, .int .i64 0, .int .i64 0, .int .i64 0, .int .i64 0]).cells (n + 1 - i) ++ Builtin.zeroCells (Value.agg #[.int .i64 0, .int .i64 0, .int .i64 0, .int .i64 0, .int .i64 0, .int .i64 0]).cells (GC - (n + 1))).toList = Z := ⟨_, rfl⟩
  have hZl : Z.length = (GC - i) * 6 := by
    rw [← hZ, Array.length_toList, Array.size_append, zeros6, zeros6]
    omega
  have hRl : ROW = ((rowsV gnC G).take (i * 6) ++ Z).toArray := by
    rw [← hROW, ← hZ]
    simp
  have hbg : b ≠ g := by have := hW.lt; omega
  have hvg : vb ≠ g := by have := hx.lt; omega
  obtain ⟨P, hP⟩ : ∃ P, (rowsV gnC G).take (i * 6) = P := ⟨_, rfl⟩
  obtain ⟨S, hS⟩ : ∃ S, (rowsV gnC G).drop (i * 6) = S := ⟨_, rfl⟩
  rw [hP] at hpl hRl
  rw [hS] at hdl h1c
  have hPZ : (P ++ Z).length = GC * 6 := by rw [List.length_append, hpl, hZl]; omega
  have hN1 : Whole (W.drew.alloc (.cells ROW 36)) g 36 (P ++ Z) := by
    rw [hRl]
    exact Whole.new2 hg.symm
  have hX1 : Whole (W.drew.alloc (.cells ROW 36)) vb 36 (gnC x) := hx.dr.alloc _
  have hB1 : Whole (W.drew.alloc (.cells ROW 36)) b 36 (rowsV gnC G ++ junk) := hW.dr.alloc _
  have hW0 := hO.below.size
  have hl1 : Below w.heap.size w (W.drew.alloc (.cells ROW 36)) := bel_al (bel_dr hO.below) _
  have hz1 : (W.drew.alloc (.cells ROW 36)).heap.size = W.heap.size + 1 := by simp
  obtain ⟨V1, gV1⟩ : ∃ z, W.drew.alloc (.cells ROW 36) = z := ⟨_, rfl⟩
  rw [gV1] at hN1 hX1 hB1 hl1 hz1 hrz
  have hcpA : ∀ V, V = V1 → ∀ ty dc, (Builtin.copy_ #[26, 26] ty #[.slice (some ⟨g, i * 6, none⟩) (n + 1 - i) dc, .slice (some ⟨vb, 0, none⟩) 1 1]).run Try.prog V = .ok (goInt (1 : Nat)) (V1.setCells g (i * 6) (gnC x)) := fun V hV ty dc => by
    subst hV
    exact run_copy_sz V _ _ ty 36 6 g (i * 6) (n + 1 - i) dc ⟨vb, 0, none⟩ 1 1 1 _ Try.underlying26 hsz (by simp only [Nat.min_def]; split <;> omega) rfl
      (fun j v hj => by
        rw [Addr.add_lit, Nat.zero_add]
        exact hX1.cell hj)
      (fun j hj => some_whole hN1 (by rw [hPZ]; rw [gnC_len] at hj; omega)) (fun j hj => hN1.free _) (gnC_one x)
  have hN2 := hN1.cells_ (gnC x) (i * 6) V1 _ (by rw [hPZ, gnC_len]; omega)
  have hB2 : Whole (V1.setCells g (i * 6) (gnC x)) b 36 (rowsV gnC G ++ junk) := hB1.cells_far hbg _ _
  have hl2 : Below w.heap.size w (V1.setCells g (i * 6) (gnC x)) := below_setCells hl1 (by omega) _ _
  have hz2 : (V1.setCells g (i * 6) (gnC x)).heap.size = W.heap.size + 1 := by rw [setCells_size, hz1]
  obtain ⟨V2, gV2⟩ : ∃ z, V1.setCells g (i * 6) (gnC x) = z := ⟨_, rfl⟩
  rw [gV2] at hN2 hB2 hl2 hz2 hcpA
  have hp2 : (putR (P ++ Z) (i * 6) (gnC x)).length = GC * 6 := by rw [putR_length _ _ _ (by rw [hPZ, gnC_len]; omega), hPZ]
  have hcpB : ∀ ty dc sc, (Builtin.copy_ #[26, 26] ty #[.slice (some ⟨g, (i + 1) * 6, none⟩) (n - i) dc, .slice (some ⟨b, i * 6, none⟩) (n - i) sc]).run Try.prog V2.drew = .ok (goInt (n - i : Nat)) (V2.drew.setCells g ((i + 1) * 6) S) := fun ty dc sc =>
    run_copy_sz V2.drew _ _ ty 36 6 g ((i + 1) * 6) (n - i) dc ⟨b, i * 6, none⟩ (n - i) sc (n - i) _ Try.underlying26 hsz (by simp only [Nat.min_def]; split <;> omega) hdl
      (fun j v hj => by
        rw [Addr.add_lit]
        rw [← hS, List.getElem?_drop] at hj
        exact hB2.dr.cell (i := i * 6 + j) (by rw [List.getElem?_append_left (List.getElem?_eq_some_iff.1 hj).1]; exact hj))
      (fun j hj => some_whole hN2.dr (by rw [← hdl] at hj; rw [hp2]; omega)) (fun j hj => hN2.dr.free _) h1c
  have hN3 := hN2.dr.cells_ S ((i + 1) * 6) V2.drew _ (by rw [← hdl, hp2]; omega)
  rw [grow_put P Z (gnC x) S i hpl (gnC_len x) (by rw [← hdl, hZl]; omega)] at hN3
  have hrows : P ++ (gnC x ++ S) = rowsV gnC (G.take i ++ x :: G.drop i) := by rw [← hP, ← hS, (gnC_mul i).1, (gnC_mul i).2, rowsV_app]; rfl
  have hrl : (P ++ (gnC x ++ S)).length = (n + 1) * 6 := by rw [List.length_append, List.length_append, hpl, gnC_len, ← hdl]; omega
  have hzl : (Z.drop (6 + S.length)).length = (GC - (n + 1)) * 6 := by rw [List.length_drop, hZl, ← hdl]; omega
  have HF : RowKit.Hid (Ow w B 36 6 (.slice (some ⟨g, 0, none⟩) (n + 1) GC) (n + 1) (rowsV gnC (G.take i ++ x :: G.drop i)) (V2.drew.setCells g ((i + 1) * 6) S)) := Lib.hid (by
    rw [← hrows]
    exact ⟨own_mk (junk := Z.drop (6 + S.length)) hN3 (by have := hO.hi; omega) (by rw [List.length_append, hrl, hzl]; omega) hGn hG63 hrl, below_setCells (bel_dr hl2) (by omega) _ _, hO.lo, by rw [setCells_size]; show B ≤ V2.heap.size; have := hO.hi; omega⟩)
  have hz3 : ¬ ((i : Int) = (n : Int)) := by omega
  have hw1 : IntKind.i64.wrap ((i : Int) + 1) = (i : Int) + 1 := by rw [IntKind.wrap_i64]; omega
  have hw2 : IntKind.i64.wrap ((n : Int) + 1) = (n : Int) + 1 := by rw [IntKind.wrap_i64]; omega
  have hw3 : IntKind.i64.wrap ((n : Int) + 1 - (i : Int)) = (n : Int) + 1 - (i : Int) := by rw [IntKind.wrap_i64]; omega
  have hb1 : (0 : Int) ≤ (i : Int) + 1 := by omega
  have hin : i ≤ n := by omega
  have htn : ((i : Int) + 1).toNat = i + 1 := by omega
  have hb2 : ¬ (GC = i + 1) := by omega
  have hb3 : (i : Int) ≤ (n : Int) := by omega
  have hb4 : ¬ (n = i) := by omega
  have hb5 : ¬ (GC = i) := by omega
  have hb6 : (n : Int) < (n : Int) + 1 := by omega
  unfold maxLen at hG63
  have mixed : Try.prog.follows Departure.mixedOrders = true := by kernel_rfl
  subst gV1
  have hcpC : ∀ ty dc, (Builtin.copy_ #[26, 26] ty #[.slice (some ⟨g, i * 6, none⟩) (n + 1 - i) dc, .slice (some ⟨vb, 0, none⟩) 1 1]).run Try.prog (W.alloc (.cells ROW 36)).drew = .ok (goInt (1 : Nat)) V2 := fun ty dc => hcpA _ rfl ty dc
  clear hcpA gV2
  clear hO hx hW hcl hxl hvg hbg hdl hsz h1c hold hpl hik hkk hROW hZl hRl hZ hPZ hN1 hX1 hB1 hl1 hz1 hN2 hB2 hl2 hz2 hp2 hN3 hrows hrl hzl hP hS hGC hW0
  go_enter Try.func26, Try.ntmps26
  go_wp2_with (first
    | (at_builtin; refine Lib.wpList_append_run _ rfl _ _ _ _ rfl _ _ rfl rfl _ _ (hrz _) ?_)
    | (at_builtin; refine wpList_copy_runI _ rfl _ _ 26 26 rfl _ _ rfl rfl (hcpC _ _) ?_))
  go_region_law_o (refine step_copy_runI rfl _ _ 26 26 rfl _ _ (by simp [Act.eval, Act.put]) (by simp [Act.eval, Act.put]) (hcpB _ _ _) ?_)
  go_wp2
  go_ret
  exact ⟨_, _, rfl, HF.out⟩
end Go.Proofs.Ytkhklhipiiehbaa

/- slices.Insert and slices.Clone over darts that are gone. -/
namespace Go.Proofs.Ytkhklhipiiehbaa
open Go.RowKit
set_option linter.unusedSimpArgs false
set_option linter.unusedVariables false

theorem insert_any {w W : World} {B : Nat} {A : Option Addr} {n c vb i : Nat} {G : List Gn} (x : Gn) (hO : Ow w B 36 6 (.slice A n c) n (rowsV gnC G) W) (hx : Whole W vb 36 (gnC x)) (hne : some vb ≠ (Value.slice A n c).ownBlock) (hn : n ≤ 1000) (hi : i ≤ n) :
    Calls Try.prog 26 #[.slice A n c, .int .i64 (i : Int), .slice (some ⟨vb, 0, none⟩) 1 1] W fun e w' => ∃ A' c', e = .returned (.slice A' (n + 1) c') ∧ Ow w B 36 6 (.slice A' (n + 1) c') (n + 1) (rowsV gnC (G.take i ++ x :: G.drop i)) w' := by
  have hnc : n ≤ c := (own_rds hO.own).le
  have hGl : G.length = n := (own_rds hO.own).rlen gnC_len (by decide)
  rcases Nat.lt_or_ge i n with h | h
  · rcases Nat.lt_or_ge n c with h2 | h2
    · exact insert_room x hO hx hne hn h h2
    · obtain rfl : n = c := by omega
      exact insert_grow x hO hx hn h
  · obtain rfl : n = i := by omega
    rw [List.take_of_length_le (by omega), List.drop_of_length_le (by omega)]
    exact insert_end x hO (by rw [rows_one11]; exact RdS.of_whole hx rfl) hn
set_option maxRecDepth 100000 in
theorem cloneGs (A : Option Addr) (n c : Nat) (xs : List Value) (w : World) (h : RdS w w.heap.size 6 A n c xs) (h1 : ∀ u ∈ xs, u.oneCell' = true) (hn : n ≤ 1000000) :
    Calls Try.prog 22 #[.slice A n c] w fun e w' => ∃ A' c', e = .returned (.slice A' n c') ∧ Ow w w.heap.size 36 6 (.slice A' n c') n xs w' := by
  obtain ⟨i0, hi, hz0, hz1, hz2⟩ := info_partsD info_gone
  cases A with
  | none =>
    obtain ⟨rfl, rfl⟩ := h.none_ rfl
    have hnil : xs = [] := List.eq_nil_of_length_eq_zero (by simpa using h.len)
    subst hnil
    have hnil : ∀ w', (binOp .eql 26 (.slice none 0 0) (.slice none 0 0)).run Try.prog w' = .ok (.bool true) w' := fun w' => Lib.run_eql_slice_nil w' _ _ _ _ _ _ _ Try.underlying26
    clear h h1
    go_enter Try.func22, Try.ntmps22
    go_wp2
    go_ret
    exact ⟨_, _, rfl, Ow.nil_ (Below.refl _ _) (Nat.le_refl _) (Nat.le_refl _)⟩
  | some a =>
    have H := Lib.hid (h.al (.cells #[] 36))
    have HO : RowKit.Hid (Ow w w.heap.size 36 6 (.slice (some ⟨w.heap.size, 0, none⟩) 0 0) 0 [] (w.alloc (.cells #[] 36))) := Lib.hid (Ow.new_ (cs := #[]) (Below.refl _ _) (Nat.le_refl _) (Nat.le_refl _) (Nat.zero_le _) rfl)
    have hnil : ∀ w', (binOp .eql 26 (.slice (some a) n c) (.slice none 0 0)).run Try.prog w' = .ok (.bool false) w' := fun w' => Lib.run_eql_slice_nil w' _ _ _ _ _ _ _ Try.underlying26
    clear h
    go_enter Try.func22, Try.ntmps22
    go_wp2_with (first
      | (at_builtin
         refine wpList_push2 rfl (.tmp 5) (.tmp 6) _ rfl _ 36 i0 _ 6 48 Try.underlying26 hi hz0 hz1 hz2 rfl (by decide) _ _ _ rfl (by exact HO.out) _ (some a) n c xs rfl (by exact H.out) h1 (by unfold maxLen; omega) (by omega) ?_
         intro v1 w1 how1 hb1 hgr
         rw [Nat.zero_add, List.nil_append] at how1
         obtain ⟨Aq, cq, rfl, -⟩ := how1.rds
         have HO1 := Lib.hid how1
         clear how1 hb1 hgr))
    go_ret
    exact ⟨_, _, rfl, HO1.out⟩
end Go.Proofs.Ytkhklhipiiehbaa

/- Add. -/
namespace Go.Proofs.Ytkhklhipiiehbaa
open Go.RowKit
set_option linter.unusedSimpArgs false
set_option linter.unusedVariables false

/-- Where there is room: in its place, in the stead of one of the same dart. -/
def addG : List Gn → Gn → List Gn
  | [], x => [x]
  | y :: G, x => if ordG y x < 0 then y :: addG G x else if ordG y x = 0 then x :: G else x :: y :: G
theorem addG_at : ∀ (G : List Gn) (x : Gn) (i : Nat) (cf : Nat → Int), (∀ t y, G[t]? = some y → ordG y x = cf t) → i ≤ G.length → (∀ t, t < i → cf t < 0) → (∀ t, i ≤ t → t < G.length → 0 ≤ cf t) →
    addG G x = if i < G.length ∧ cf i = 0 then G.set i x else G.take i ++ x :: G.drop i
  | [], x, i, cf, hc, hi, h1, h2 => by
    obtain rfl : i = 0 := by simpa using hi
    rw [if_neg (fun q => by simp at q)]
    rfl
  | y :: G, x, i, cf, hc, hi, h1, h2 => by
    have h0 : ordG y x = cf 0 := hc 0 y rfl
    cases i with
    | zero =>
      have h3 : 0 ≤ cf 0 := h2 0 (Nat.le_refl _) (by simp)
      show (if ordG y x < 0 then _ else _) = _
      rw [if_neg (by omega)]
      by_cases hz : cf 0 = 0
      · rw [if_pos (by omega), if_pos ⟨by simp, hz⟩]
        rfl
      · rw [if_neg (by omega), if_neg (fun q => hz q.2)]
        rfl
    | succ i =>
      have h3 : cf 0 < 0 := h1 0 (by omega)
      show (if ordG y x < 0 then _ else _) = _
      rw [if_pos (by omega), addG_at G x i (fun t => cf (t + 1)) (fun t z hz => hc (t + 1) z hz) (by simpa using hi) (fun t ht => h1 (t + 1) (by omega)) (fun t h4 h5 => h2 (t + 1) (by omega) (by simpa using h5))]
      by_cases hq : i < G.length ∧ cf (i + 1) = 0
      · rw [if_pos hq, if_pos ⟨by simpa using hq.1, hq.2⟩]
        rfl
      · rw [if_neg hq, if_neg (fun q => hq ⟨by simpa using q.1, q.2⟩)]
        rfl
theorem wl_store9 {P : Program} {ops : Array Oper} {Q : Exit → Act → World → Prop} {o : Oper} {rest : List Oper} {a : Act} {w w' : World} (hd : o.dst = none) (hw : Region.wanted o (yielded ops a.tmps) = true) (hrun : (execOp a.eval o).run P w = .ok .skip w')
    (h : wpList P ops Q rest a w') : wpList P ops Q (o :: rest) a w := by
  refine wpList_step fun K hK => ?_
  rw [if_pos hw]
  unfold Oper.wp
  rw [hrun, Oper.upon_skip, hd]
  exact hK _ _ h
set_option maxRecDepth 100000 in
set_option maxHeartbeats 4000000 in
theorem add_any (A : Option Addr) (n c : Nat) (G : List Gn) (x : Gn) (w : World) (h : RdS w w.heap.size 6 A n c (rowsV gnC G)) (hn : n ≤ 399) (cf : Nat → Int) (hcf : ∀ t y, G[t]? = some y → ordG y x = cf t) (hmono : ∀ a b, a ≤ b → b < n → cf b < 0 → cf a < 0) :
    Calls Try.prog 12 #[.slice A n c, .agg #[.int .i64 x.1.1, .int .i64 x.1.2.1, .int .i64 x.1.2.2, .int .i64 x.2.1, .int .i64 x.2.2.1, .int .i64 x.2.2.2]] w fun e w' => ∃ A' c', e = .returned (.slice A' (addG G x).length c') ∧ RdS w' w'.heap.size 6 A' (addG G x).length c' (rowsV gnC (addG G x)) ∧ Below w.heap.size w w' := by
  have H := Lib.hid h
  have Hl := Lib.hid (h.rlen gnC_len (by decide))
  have Hcf := Lib.hid hcf
  have HM := Lib.hid hmono
  obtain ⟨G2, gG2⟩ : ∃ z, addG G x = z := ⟨_, rfl⟩
  obtain ⟨N2, gN2⟩ : ∃ z, G2.length = z := ⟨_, rfl⟩
  rw [gG2, gN2]
  have HG2 := Lib.hid gG2
  have HN2 := Lib.hid gN2
  have q1 : decide ((400 : Int) ≤ (n : Int)) = false := decide_eq_false (by omega)
  have q2 : decide (400 ≤ n) = false := decide_eq_false (by omega)
  clear h hcf hmono gG2 gN2
  go_enter Try.func12, Try.ntmps12
  go_upto_if 20 with (first
    | (go_at_call 22
       refine (cloneGs A n c (rowsV gnC G) _ (by exact H.out.bl (below1 _ _)) (rowsV_one11 gnC gnC_one G) (by omega)).mono ?_
       rintro e w1 ⟨A1, c1, rfl, ho1⟩
       have HO1 := Lib.hid ho1
       have HX1 := Lib.hid ((Whole.new_ w 36 [.int .i64 x.1.1, .int .i64 x.1.2.1, .int .i64 x.1.2.2, .int .i64 x.2.1, .int .i64 x.2.2.1, .int .i64 x.2.2.2]).below ho1.below)
       have HB1 : RowKit.Hid (Below w.heap.size w w1) := Lib.hid (bel_bl (below1 w (.cells #[.int .i64 x.1.1, .int .i64 x.1.2.1, .int .i64 x.1.2.2, .int .i64 x.2.1, .int .i64 x.2.2.1, .int .i64 x.2.2.2] 36)) ho1.below)
       have l0 := HX1.out.cell (i := 0) rfl
       have l1 := HX1.out.cell (i := 1) rfl
       have l2 := HX1.out.cell (i := 2) rfl
       clear ho1)
    | (go_at_call 23
       refine (bsearch_any A n c G x.1.1 x.1.2.1 x.1.2.2 _ (by exact H.out.bl HB1.out) (by omega) cf Hcf.out HM.out).mono ?_
       rintro e w2 ⟨i, hin, hi1, hi2, rfl, hb2⟩
       have HI := Lib.hid (addG_at G x i cf Hcf.out (by rw [Hl.out]; exact hin) hi1 (by rw [Hl.out]; exact hi2))
       have HO2 := Lib.hid (HO1.out.up hb2)
       have HX2 := Lib.hid (HX1.out.below hb2)
       have HB2 := Lib.hid (bel_bl HB1.out hb2)
       clear hi1 hi2 hb2 HO1 HX1 HB1 l0 l1 l2 H Hcf HM))
  obtain ⟨bt, gbt⟩ : ∃ z, (decide (i < n) && decide (cf i = 0)) = z := ⟨_, rfl⟩
  rw [gbt]
  have Gbt := Lib.hid gbt
  clear gbt
  have l0 := HX2.out.cell (i := 0) rfl
  have l1 := HX2.out.cell (i := 1) rfl
  have l2 := HX2.out.cell (i := 2) rfl
  have l3 := HX2.out.cell (i := 3) rfl
  have l4 := HX2.out.cell (i := 4) rfl
  have l5 := HX2.out.cell (i := 5) rfl
  cases bt with
  | false =>
    have HGe : RowKit.Hid (G2 = G.take i ++ x :: G.drop i) := Lib.hid (by
      rw [← HG2.out, HI.out, if_neg]
      rintro ⟨q3, q4⟩
      have hb := Gbt.out
      rw [decide_eq_true (show i < n by rw [← Hl.out]; exact q3), decide_eq_true q4] at hb
      cases hb)
    clear HI
    go_wp2_with (first
      | (go_at_call 26
         refine (insert_any x (by exact HO2.out.up (below1 w2 _)) (by exact Whole.new_ w2 36 (gnC x)) (by exact Ow.ne_ HO2.out (Nat.le_refl _)) (by omega) hin).mono ?_
         rintro e w4 ⟨A4, c4, rfl, ho4⟩
         have HO4 := Lib.hid ho4
         clear ho4 HO2 HX2 HB2 l0 l1 l2 l3 l4 l5))
    have hN : N2 = n + 1 := by
      rw [← HN2.out, HGe.out, List.length_append, List.length_cons, List.length_take, List.length_drop, Hl.out]
      omega
    obtain ⟨_, _, he4, hr4⟩ := HO4.out.rds
    injection he4 with qa qb qc
    subst qa qc
    rw [← HGe.out] at hr4
    have HR4 := Lib.hid hr4
    have HB4 : RowKit.Hid (Below w.heap.size w w4) := Lib.hid (bel_bl (below1 w (.cells #[.int .i64 x.1.1, .int .i64 x.1.2.1, .int .i64 x.1.2.2, .int .i64 x.2.1, .int .i64 x.2.2.1, .int .i64 x.2.2.2] 36)) HO4.out.below)
    clear hr4 HO4
    subst hN
    go_wp2
    go_ret
    exact ⟨A4, c4, rfl, HR4.out, HB4.out⟩
  | true =>
    have hb := Gbt.out
    rw [Bool.and_eq_true, decide_eq_true_iff, decide_eq_true_iff] at hb
    have hlt := hb.1
    have HGe : RowKit.Hid (G2 = G.set i x) := Lib.hid (by
      rw [← HG2.out, HI.out, if_pos ⟨by rw [Hl.out]; exact hb.1, hb.2⟩])
    obtain ⟨p, hp⟩ : ∃ p, n - 1 = p := ⟨_, rfl⟩
    have e1 : (n : Int) - 1 = (p : Int) := by omega
    have e2 : IntKind.i64.wrap (p : Int) = (p : Int) := IntWalk.i64_in _ (by omega)
    have q3 : decide ((400 : Int) ≤ (p : Int)) = false := decide_eq_false (by omega)
    have q4 : decide (400 ≤ p) = false := decide_eq_false (by omega)
    obtain ⟨b, junk, rfl, hlo, hW, hcl, hnc, hcm, hxl⟩ := own_place HO2.out.own (by omega)
    have hN : N2 = n := by rw [← HN2.out, HGe.out, List.length_set, Hl.out]
    have hbl : Below w.heap.size w (w2.setCells b (i * 6) (gnC x)) := below_setCells HB2.out (by have := hlo; simp at this; omega) _ _
    have hW3 := hW.cells_ (gnC x) (i * 6) w2 _ (by rw [hcl, gnC_len]; omega)
    rw [rowsV_put gnC_len G junk i x (by rw [Hl.out]; exact hlt), ← HGe.out] at hW3
    have hl2 : (rowsV gnC G2).length = n * 6 := by rw [rowsV_length gnC gnC_len, HN2.out, hN]
    have hO3 := own_mk hW3 hlo (by rw [List.length_append, hl2, ← hcl, List.length_append, hxl]) hnc hcm hl2
    have HR3 := Lib.hid (own_rds hO3)
    have HB3 := Lib.hid hbl
    have HTh := Lib.hid (hW.there_ (i * 6) 6 (by rw [hcl]; omega))
    have hltI : (i : Int) < (n : Int) := by omega
    clear HI HGe hb hlo hW hcl hcm hxl hbl hW3 hl2 hO3 HO2 HB2 hp
    subst hN
    go_upto_region 9 with fail
    refine wp_region_lit ?_
    refine wl_read (v := ?_) (some 27) rfl (by rfl) ?_ ?_
    rotate_left
    · go_simp; (try with_reducible rfl)
    simp only [Act.put, List.setIfInBounds_toArray, List.set_cons_zero, List.set_cons_succ]
    refine wl_read (v := ?_) (some 28) rfl (by rfl) ?_ ?_
    rotate_left
    · go_simp; (try with_reducible rfl)
    simp only [Act.put, List.setIfInBounds_toArray, List.set_cons_zero, List.set_cons_succ]
    refine wl_load (some 29) rfl (by rfl) 36 (.tmp 3) rfl _ rfl 36 (gnC x) _ (by exact HX2.out) Try.underlying36 rfl (by kernel_rfl) ?_
    simp only [Act.put, List.setIfInBounds_toArray, List.set_cons_zero, List.set_cons_succ]
    refine wl_read (v := ?_) (some 30) rfl (by rfl) ?_ ?_
    rotate_left
    · go_simp; (try with_reducible rfl)
    simp only [Act.put, List.setIfInBounds_toArray, List.set_cons_zero, List.set_cons_succ]
    refine wl_store9 rfl (by rfl) (store_mid_run 36 (.tmp 30) (.tmp 29) rfl b (i * 6) rfl (gnC x) rfl HTh.out (by kernel_rfl) (gnC_one x)) ?_
    clear l0 l1 l2 l3 l4 l5 HX2 HTh
    go_wp2
    go_ret
    exact ⟨_, _, rfl, HR3.out, HB3.out⟩
end Go.Proofs.Ytkhklhipiiehbaa

/- Darts that are added, in numbers: what is found of them, and that they rise. -/
namespace Go.Proofs.Ytkhklhipiiehbaa
open Go.RowKit
set_option linter.unusedSimpArgs false
set_option linter.unusedVariables false

theorem ordG_zero (y x : Gn) : ordG y x = 0 ↔ y.1 = x.1 := by
  unfold ordG
  rw [ordD_zero]
  obtain ⟨⟨a, b, c⟩, y2⟩ := y
  obtain ⟨⟨d, e, f⟩, x2⟩ := x
  simp
theorem addG_len : ∀ (G : List Gn) (x : Gn), (addG G x).length ≤ G.length + 1
  | [], x => Nat.le_refl _
  | y :: G, x => by
    show (if ordG y x < 0 then y :: addG G x else if ordG y x = 0 then x :: G else x :: y :: G).length ≤ G.length + 1 + 1
    have := addG_len G x
    split
    · simp only [List.length_cons]; omega
    · split <;> simp
/-- Each one is less than the next. -/
def Rises : List Gn → Prop
  | [] => True
  | [_] => True
  | y :: z :: G => ordG y z < 0 ∧ Rises (z :: G)
theorem ordG_trans {a b c : Gn} (h : ordG a b ≤ 0) (k : ordG b c ≤ 0) : ordG a c ≤ 0 := ordD_trans _ _ _ _ _ _ _ _ _ h k
theorem ordG_neg (a b : Gn) : ordG b a = - ordG a b := ordD_neg _ _ _ _ _ _
theorem ordG_self (a : Gn) : ordG a a = 0 := (ordG_zero a a).2 rfl
theorem rises_tail {y : Gn} {G : List Gn} (h : Rises (y :: G)) : Rises G := by
  cases G with
  | nil => trivial
  | cons z G => exact h.2
theorem rises_first : ∀ (G : List Gn) {y z : Gn}, Rises (y :: G) → z ∈ y :: G → ordG y z ≤ 0
  | [], y, z, h, hz => by
    obtain rfl := List.mem_singleton.1 hz
    rw [ordG_self]
    exact Int.le_refl _
  | z1 :: G, y, z, h, hz => by
    rcases List.mem_cons.1 hz with rfl | hz
    · rw [ordG_self]; exact Int.le_refl _
    · exact ordG_trans (Int.le_of_lt h.1) (rises_first G h.2 hz)
theorem rises_le : ∀ (G : List Gn) (a b : Nat) {z y : Gn}, Rises G → a ≤ b → G[a]? = some z → G[b]? = some y → ordG z y ≤ 0
  | [], a, b, z, y, h, hab, hz, hy => by simp at hz
  | g :: G, 0, b, z, y, h, hab, hz, hy => by
    obtain rfl : g = z := by simpa using hz
    exact rises_first G h (List.mem_of_getElem? hy)
  | g :: G, a + 1, 0, z, y, h, hab, hz, hy => by omega
  | g :: G, a + 1, b + 1, z, y, h, hab, hz, hy => rises_le G a b (rises_tail h) (by omega) (by simpa using hz) (by simpa using hy)
/-- A row that rises is searched by halves. -/
theorem rises_mono {G : List Gn} (h : Rises G) (x : Gn) {a b : Nat} {z y : Gn} (hab : a ≤ b) (hz : G[a]? = some z) (hy : G[b]? = some y) (hb : ordG y x < 0) : ordG z x < 0 := by
  have h1 := rises_le G a b h hab hz hy
  have h2 := ordG_trans h1 (Int.le_of_lt hb)
  have h3 : ordG z x ≠ 0 := fun e => by
    have e1 := (ordG_zero z x).1 e
    have e2 : ordG y x = ordG y z := by unfold ordG; rw [e1]
    rw [e2, ordG_neg z y] at hb
    omega
  omega
/-- How the one that is added stands to each. -/
def cfG (G : List Gn) (x : Gn) (t : Nat) : Int := ordG (G.getD t (zD, zD)) x
theorem cfG_at (G : List Gn) (x : Gn) : ∀ t y, G[t]? = some y → ordG y x = cfG G x t := fun t y h => by
  unfold cfG
  rw [List.getD_eq_getElem?_getD, h]
  rfl
theorem cfG_mono {G : List Gn} (h : Rises G) (x : Gn) {n : Nat} (hn : G.length = n) : ∀ a b, a ≤ b → b < n → cfG G x b < 0 → cfG G x a < 0 := fun a b hab hb hc => by
  have ha := List.getElem?_eq_getElem (l := G) (i := a) (by omega)
  have hb2 := List.getElem?_eq_getElem (l := G) (i := b) (by omega)
  rw [← cfG_at G x b _ hb2] at hc
  rw [← cfG_at G x a _ ha]
  exact rises_mono h x hab ha hb2 hc
end Go.Proofs.Ytkhklhipiiehbaa

/- The law's state: darts added. -/
namespace Go.Proofs.Ytkhklhipiiehbaa
open Go.RowKit
set_option linter.unusedSimpArgs false
set_option linter.unusedVariables false

/-- Add on a row that rises, of at most 399. -/
theorem add_rises (A : Option Addr) (n c : Nat) (G : List Gn) (x : Gn) (w : World) (h : RdS w w.heap.size 6 A n c (rowsV gnC G)) (hn : n ≤ 399) (hr : Rises G) :
    Calls Try.prog 12 #[.slice A n c, .agg (gnC x).toArray] w fun e w' => ∃ A' N' c', N' ≤ n + 1 ∧ (addG G x).length = N' ∧ e = .returned (.slice A' N' c') ∧ RdS w' w'.heap.size 6 A' N' c' (rowsV gnC (addG G x)) ∧ Below w.heap.size w w' := by
  have hl : G.length = n := h.rlen gnC_len (by decide)
  refine (add_any A n c G x w h hn (cfG G x) (cfG_at G x) (cfG_mono hr x hl)).mono ?_
  rintro e w' ⟨A', c', rfl, hrd, hb⟩
  exact ⟨A', _, c', by have := addG_len G x; omega, rfl, rfl, hrd, hb⟩
variable {W : World} {b0 : Nat} {A B C : Option Addr} {n c m k g gc : Nat} {V : List VC} {E : List EC} {G : List Gn}
theorem StIn.add (h : StIn W b0 A n c V B m k E C g gc G) (hr : Rises G) (x : Gn) :
    Calls Try.prog 12 #[.slice C g gc, .agg (gnC x).toArray] W fun e w' => ∃ A' N' c', N' ≤ g + 1 ∧ (addG G x).length = N' ∧ e = .returned (.slice A' N' c') ∧ RdS w' w'.heap.size 6 A' N' c' (rowsV gnC (addG G x)) ∧ Below W.heap.size W w' :=
  add_rises C g gc G x W h.gn (by have := h.g390; omega) hr
end Go.Proofs.Ytkhklhipiiehbaa

/- Darts that are added one by one, in numbers: in whatever order, the same row. -/
namespace Go.Proofs.Ytkhklhipiiehbaa
open Go.RowKit
set_option linter.unusedSimpArgs false
set_option linter.unusedVariables false

/-- No dart of G is x's. -/
def FarG (G : List Gn) (x : Gn) : Prop := ∀ y ∈ G, ¬ y.1 = x.1
theorem addG_perm : ∀ (G : List Gn) (x : Gn), FarG G x → (addG G x).Perm (x :: G)
  | [], x, _ => List.Perm.refl _
  | y :: G, x, h => by
    show (if ordG y x < 0 then y :: addG G x else if ordG y x = 0 then x :: G else x :: y :: G).Perm _
    by_cases h1 : ordG y x < 0
    · rw [if_pos h1]
      exact ((addG_perm G x (fun z hz => h z (List.mem_cons_of_mem _ hz))).cons y).trans (List.Perm.swap x y G)
    · have h0 : ¬ ordG y x = 0 := fun e => h y List.mem_cons_self ((ordG_zero y x).1 e)
      rw [if_neg h1, if_neg h0]
theorem rises_pair : ∀ {G : List Gn}, Rises G → G.Pairwise (fun a b => ordG a b < 0)
  | [], _ => List.Pairwise.nil
  | y :: G, h => by
    refine List.Pairwise.cons (fun z hz => ?_) (rises_pair (rises_tail h))
    cases G with
    | nil => cases hz
    | cons g G =>
      have h1 := rises_first G h.2 hz
      have h2 := h.1
      have h3 := ordG_trans (Int.le_of_lt h2) h1
      have h4 : ordG y z ≠ 0 := fun e => by
        have e1 := (ordG_zero y z).1 e
        have e2 : ordG g z = ordG g y := by unfold ordG; rw [e1]
        rw [e2, ordG_neg y g] at h1
        omega
      omega
theorem rises_add : ∀ (G : List Gn) (x : Gn), Rises G → Rises (addG G x)
  | [], x, _ => trivial
  | [y], x, _ => by
    show Rises (if ordG y x < 0 then [y, x] else if ordG y x = 0 then [x] else [x, y])
    by_cases h1 : ordG y x < 0
    · rw [if_pos h1]; exact ⟨h1, trivial⟩
    · rw [if_neg h1]
      by_cases h0 : ordG y x = 0
      · rw [if_pos h0]; trivial
      · rw [if_neg h0]; exact ⟨by rw [ordG_neg y x]; omega, trivial⟩
  | y :: z :: G, x, h => by
    have h0 := rises_add (z :: G) x h.2
    show Rises (if ordG y x < 0 then y :: addG (z :: G) x else if ordG y x = 0 then x :: z :: G else x :: y :: z :: G)
    by_cases h1 : ordG y x < 0
    · rw [if_pos h1]
      have e : addG (z :: G) x = if ordG z x < 0 then z :: addG G x else if ordG z x = 0 then x :: G else x :: z :: G := rfl
      rw [e] at h0 ⊢
      split
      · rename_i h2; rw [if_pos h2] at h0; exact ⟨h.1, h0⟩
      · rename_i h2; rw [if_neg h2] at h0
        split
        · rename_i h3; rw [if_pos h3] at h0; exact ⟨h1, h0⟩
        · rename_i h3; rw [if_neg h3] at h0; exact ⟨h1, h0⟩
    · rw [if_neg h1]
      by_cases h2 : ordG y x = 0
      · rw [if_pos h2]
        have e1 := (ordG_zero y x).1 h2
        have e2 : ordG x z = ordG y z := by unfold ordG; rw [e1]
        exact ⟨by rw [e2]; exact h.1, h.2⟩
      · rw [if_neg h2]; exact ⟨by rw [ordG_neg y x]; omega, h⟩
/-- All of L, added one behind the other. -/
def addsG (A : List Gn) (L : List Gn) : List Gn := L.foldl addG A
theorem addsG_snoc (A L : List Gn) (x : Gn) : addsG A (L ++ [x]) = addG (addsG A L) x := by unfold addsG; rw [List.foldl_append]; rfl
theorem rises_adds : ∀ (L A : List Gn), Rises A → Rises (addsG A L)
  | [], A, h => h
  | x :: L, A, h => rises_adds L (addG A x) (rises_add A x h)
/-- Each dart once. -/
def OnceG (L : List Gn) : Prop := L.Pairwise (fun a b => ¬ a.1 = b.1)
theorem addsG_perm : ∀ (L A : List Gn), OnceG L → (∀ x ∈ L, FarG A x) → (addsG A L).Perm (L ++ A)
  | [], A, _, _ => List.Perm.refl _
  | x :: L, A, h, hf => by
    cases h with
    | cons h1 h2 =>
      have hp := addG_perm A x (hf x List.mem_cons_self)
      have h3 : ∀ z ∈ L, FarG (addG A x) z := fun z hz y hy => by
        rcases List.mem_cons.1 (hp.mem_iff.1 hy) with rfl | hy
        · exact h1 z hz
        · exact hf z (List.mem_cons_of_mem _ hz) y hy
      refine (addsG_perm L (addG A x) h2 h3).trans ?_
      refine ((hp.append_left L)).trans ?_
      exact List.perm_middle
theorem onceG_take {L : List Gn} (h : OnceG L) (k : Nat) : OnceG (L.take k) := List.Pairwise.sublist (List.take_sublist k L) h
theorem onceG_rev {L : List Gn} (h : OnceG L) : OnceG L.reverse := by
  unfold OnceG
  rw [List.pairwise_reverse]
  exact List.Pairwise.imp (fun h e => h e.symm) h
theorem adds_perm {L : List Gn} (h : OnceG L) : (addsG [] L).Perm L := by
  have := addsG_perm L [] h (fun x _ y hy => by cases hy)
  rwa [List.append_nil] at this
theorem adds_len {L : List Gn} (h : OnceG L) : (addsG [] L).length = L.length := (adds_perm h).length_eq
/-- In whatever order. -/
theorem adds_rev {L : List Gn} (h : OnceG L) : addsG [] L.reverse = addsG [] L := by
  refine List.Perm.eq_of_pairwise (le := fun a b => ordG a b < 0) (fun a b _ _ h1 h2 => ?_) (rises_pair (rises_adds _ [] trivial)) (rises_pair (rises_adds _ [] trivial)) (((adds_perm (onceG_rev h)).trans (List.reverse_perm L)).trans (adds_perm h).symm)
  rw [ordG_neg a b] at h2
  omega
theorem find_once : ∀ {G : List Gn} {y : Gn}, OnceG G → y ∈ G → findG G y.1 = (y.2, true)
  | [], _, _, h => by cases h
  | g :: G, y, h, hy => by
    cases h with
    | cons h1 h2 =>
      rcases List.mem_cons.1 hy with rfl | hy
      · rw [findG, if_pos rfl]
      · rw [findG, if_neg (h1 y hy)]
        exact find_once h2 hy
theorem rises_once {G : List Gn} (h : Rises G) : OnceG G := List.Pairwise.imp (fun {a b} h e => by have := (ordG_zero a b).2 e; omega) (rises_pair h)
theorem adds_find {L : List Gn} (h : OnceG L) {x : Gn} (hx : x ∈ L) : findG (addsG [] L) x.1 = (x.2, true) :=
  find_once (rises_once (rises_adds L [] trivial)) ((adds_perm h).mem_iff.2 hx)
theorem rises_at {G : List Gn} (h : Rises G) {i : Nat} {a b : Gn} (ha : G[i]? = some a) (hb : G[i + 1]? = some b) : ordG a b < 0 := by
  obtain ⟨h1, h2⟩ := List.getElem?_eq_some_iff.1 ha
  obtain ⟨h3, h4⟩ := List.getElem?_eq_some_iff.1 hb
  have := List.pairwise_iff_getElem.1 (rises_pair h) i (i + 1) h1 h3 (by omega)
  rwa [h2, h4] at this
theorem far_of_find : ∀ {G : List Gn} {d : D}, ¬ (findG G d).2 = true → ∀ y ∈ G, ¬ y.1 = d
  | [], _, _, _, h => by cases h
  | g :: G, d, hn, y, hy => by
    by_cases e : g.1 = d
    · rw [findG, if_pos e] at hn; exact absurd rfl hn
    · rw [findG, if_neg e] at hn
      rcases List.mem_cons.1 hy with rfl | hy
      · exact e
      · exact far_of_find hn y hy
theorem once_snoc {O : List Gn} {x : Gn} (h : OnceG O) (hn : ¬ (findG O x.1).2 = true) : OnceG (O ++ [x]) := by
  unfold OnceG
  rw [List.pairwise_append]
  refine ⟨h, List.pairwise_singleton _ _, fun a ha b hb => ?_⟩
  obtain rfl := List.mem_singleton.1 hb
  exact far_of_find hn a ha
theorem adds_take {L : List Gn} {i : Nat} {x : Gn} (hx : L[i]? = some x) : addsG [] (L.take (i + 1)) = addG (addsG [] (L.take i)) x := by
  rw [List.take_add_one, hx]
  exact addsG_snoc _ _ _
/-- One more, behind the others. -/
theorem adds_more {L : List Gn} (h : OnceG L) {i n : Nat} {x : Gn} (hl : L.length = n) (hi : i < n) (hx : L[i]? = some x) : (addG (addsG [] (L.take i)) x).length = i + 1 := by
  rw [← adds_take hx, adds_len (onceG_take h _), List.length_take]
  omega

end Go.Proofs.Ytkhklhipiiehbaa

/- The document's Find, and Same. -/
namespace Go.Proofs.Ytkhklhipiiehbaa
open Go.RowKit
set_option linter.unusedSimpArgs false
set_option linter.unusedVariables false

set_option maxRecDepth 100000 in
set_option maxHeartbeats 4000000 in
theorem rfind_any (A : Option Addr) (n c : Nat) (G : List Gn) (d : D) (w : World) (h : RdS w w.heap.size 6 A n c (rowsV gnC G)) (hn : n ≤ 1000000) :
    Calls Try.prog 17 #[.slice A n c, .agg #[.int .i64 d.1, .int .i64 d.2.1, .int .i64 d.2.2]] w fun e w' => e = .returned (.tuple #[.agg #[.int .i64 (findG G d).1.1, .int .i64 (findG G d).1.2.1, .int .i64 (findG G d).1.2.2], .bool (findG G d).2]) ∧ Below w.heap.size w w' := by
  have H := Lib.hid h
  have Hl := Lib.hid (h.rlen gnC_len (by decide))
  obtain ⟨⟨r, ok⟩, gr⟩ : ∃ z, findG G d = z := ⟨_, rfl⟩
  rw [gr]
  have HG := Lib.hid gr
  clear h gr
  go_enter Try.func17, Try.ntmps17
  go_wp2
  have hx0 : Whole ((w.alloc (.cells #[.int .i64 d.1, .int .i64 d.2.1, .int .i64 d.2.2] 32)).alloc (.cells #[.int .i64 0, .int .i64 0, .int .i64 0] 32)) (w.heap.size) 32 [.int .i64 d.1, .int .i64 d.2.1, .int .i64 d.2.2] := ((Whole.new_ w 32 [.int .i64 d.1, .int .i64 d.2.1, .int .i64 d.2.2]).alloc (.cells #[.int .i64 0, .int .i64 0, .int .i64 0] 32))
  have hx1 : Whole ((w.alloc (.cells #[.int .i64 d.1, .int .i64 d.2.1, .int .i64 d.2.2] 32)).alloc (.cells #[.int .i64 0, .int .i64 0, .int .i64 0] 32)) (w.heap.size + 1) 32 [.int .i64 0, .int .i64 0, .int .i64 0] := (Whole.new2 (w := (w.alloc (.cells #[.int .i64 d.1, .int .i64 d.2.1, .int .i64 d.2.2] 32))) (by simp))
  have hbl : Below w.heap.size w ((w.alloc (.cells #[.int .i64 d.1, .int .i64 d.2.1, .int .i64 d.2.2] 32)).alloc (.cells #[.int .i64 0, .int .i64 0, .int .i64 0] 32)) := (bel_al (below1 w (.cells #[.int .i64 d.1, .int .i64 d.2.1, .int .i64 d.2.2] 32)) (.cells #[.int .i64 0, .int .i64 0, .int .i64 0] 32))
  have hsz : w.heap.size + 1 + 1 ≤ (((w.alloc (.cells #[.int .i64 d.1, .int .i64 d.2.1, .int .i64 d.2.2] 32)).alloc (.cells #[.int .i64 0, .int .i64 0, .int .i64 0] 32))).heap.size := by simp
  obtain ⟨W0, gW0⟩ : ∃ z, ((w.alloc (.cells #[.int .i64 d.1, .int .i64 d.2.1, .int .i64 d.2.2] 32)).alloc (.cells #[.int .i64 0, .int .i64 0, .int .i64 0] 32)) = z := ⟨_, rfl⟩
  rw [gW0] at hx0 hx1 hbl hsz
  obtain ⟨b1, gb1⟩ : ∃ z, w.heap.size + 1 = z := ⟨_, rfl⟩
  rw [gb1] at hx1
  obtain ⟨b0, gb0⟩ : ∃ z, w.heap.size = z := ⟨_, rfl⟩
  rw [gb0] at hx0
  have HX0 := Lib.hid hx0
  have HX1 := Lib.hid hx1
  have HB0 := Lib.hid hbl
  have HS0 := Lib.hid hsz
  have Gb0 := Lib.hid gb0
  have Lb0 : RowKit.Hid (w.heap.size ≤ b0) := Lib.hid (by omega)
  have Gb1 := Lib.hid gb1
  have Lb1 : RowKit.Hid (w.heap.size ≤ b1) := Lib.hid (by omega)
  have N01 : RowKit.Hid (b0 ≠ b1) := Lib.hid (by omega)
  rw [gW0, gb1, gb0]
  clear gW0 hbl hsz hx0 hx1 gb0 gb1
  go_loopw [6] (fun si wr => ∃ j : Nat, j ≤ n ∧ si = .int .i64 j ∧ RowKit.Hid (Below w.heap.size w wr) ∧ RowKit.Hid (Whole wr b0 32 [.int .i64 d.1, .int .i64 d.2.1, .int .i64 d.2.2]) ∧ RowKit.Hid (Whole wr b1 32 [.int .i64 0, .int .i64 0, .int .i64 0]) ∧ RowKit.Hid (findG (G.drop j) d = (r, ok))) (fun si _ => n - (intOf si).toNat)
  case atStart => exact ⟨0, by omega, rfl, HB0, HX0, HX1, HG⟩
  case round =>
    clear HB0 HX0 HX1 HG
    obtain ⟨j, hj, rfl, HB, HX0, HX1, HG⟩ := hrel
    obtain ⟨wo, gwo⟩ : ∃ z, wr = z := ⟨_, rfl⟩
    rw [gwo] at HB HX0 HX1 ⊢
    clear gwo
    by_cases hjn : j < n
    · obtain ⟨x, hx⟩ : ∃ x, G[j]? = some x := ⟨_, List.getElem?_eq_getElem (by have := Hl.out; omega)⟩
      have hdr : G.drop j = x :: G.drop (j + 1) := by
        rw [List.drop_eq_getElem_cons (List.getElem?_eq_some_iff.1 hx).1, (List.getElem?_eq_some_iff.1 hx).2]
      have hg2 := HG.out
      rw [hdr] at hg2
      have HG2 := Lib.hid hg2
      obtain ⟨bb, off, rfl, hbB, hpl⟩ := H.out.place gnC_len (by decide) (by omega)
      have hbw := HB.out
      have q0 := hpl j _ hx 0 _ rfl
      have q1 := hpl j _ hx 1 _ rfl
      have q2 := hpl j _ hx 2 _ rfl
      have q3 := hpl j _ hx 3 _ rfl
      have q4 := hpl j _ hx 4 _ rfl
      have q5 := hpl j _ hx 5 _ rfl
      simp only [Addr.add_lit, Nat.add_zero] at q0 q1 q2 q3 q4 q5
      have l0 := (hbw.cell (p := ⟨bb, off + j * 6, none⟩) hbB).trans q0
      have l1 := (hbw.cell (p := ⟨bb, off + j * 6 + 1, none⟩) hbB).trans q1
      have l2 := (hbw.cell (p := ⟨bb, off + j * 6 + 2, none⟩) hbB).trans q2
      have l3 := (hbw.cell (p := ⟨bb, off + j * 6 + 3, none⟩) hbB).trans q3
      have l4 := (hbw.cell (p := ⟨bb, off + j * 6 + 4, none⟩) hbB).trans q4
      have l5 := (hbw.cell (p := ⟨bb, off + j * 6 + 5, none⟩) hbB).trans q5
      clear hbw q0 q1 q2 q3 q4 q5
      have ld0 : ∀ w', Kept Nil_ wo.drew w' → w'.cell? ⟨bb, off + j * 6, none⟩ = some (.int .i64 x.1.1) := fun w' h => h.nil_cell l0
      have ld1 : ∀ w', Kept Nil_ wo.drew w' → w'.cell? ⟨bb, off + j * 6 + 1, none⟩ = some (.int .i64 x.1.2.1) := fun w' h => h.nil_cell l1
      have ld2 : ∀ w', Kept Nil_ wo.drew w' → w'.cell? ⟨bb, off + j * 6 + 2, none⟩ = some (.int .i64 x.1.2.2) := fun w' h => h.nil_cell l2
      have lx0 : ∀ w', Kept Nil_ wo.drew w' → w'.cell? ⟨b0, 0, none⟩ = some (.int .i64 d.1) := fun w' h => h.nil_cell (HX0.out.dr.cell (i := 0) rfl)
      have lx1 : ∀ w', Kept Nil_ wo.drew w' → w'.cell? ⟨b0, 1, none⟩ = some (.int .i64 d.2.1) := fun w' h => h.nil_cell (HX0.out.dr.cell (i := 1) rfl)
      have lx2 : ∀ w', Kept Nil_ wo.drew w' → w'.cell? ⟨b0, 2, none⟩ = some (.int .i64 d.2.2) := fun w' h => h.nil_cell (HX0.out.dr.cell (i := 2) rfl)
      have hltI : (j : Int) < (n : Int) := by omega
      have hq := eq_dart_run x.1 d
      have L3 := Lib.hid l3
      have L4 := Lib.hid l4
      have L5 := Lib.hid l5
      clear hx hdr hg2 hpl HG l0 l1 l2 l3 l4 l5
      by_cases hd : x.1 = d
      · rw [decide_eq_true hd] at hq
        have hg := HG2.out
        rw [findG, if_pos hd] at hg
        injection hg with hg1 hg2
        subst hg1 hg2
        clear hd
        go_upto_region 4 with fail
        refine wp_region_reg (Nil_) (by kernel_rfl) ?_
        apply wpR_next 0 (some 13)
        · simp only [List.getElem?_toArray, List.getElem?_cons_succ, List.getElem?_cons_zero]; exact rfl
        · rfl
        · kernel_rfl
        · kernel_rfl
        · kernel_rfl
        · exact fun _ _ _ _ h => h
        apply Exists.intro
        apply And.intro
        · apply yr_run; rfl; intro w' hw'; go_simp; (try with_reducible rfl)
        simp only [Act.put, List.setIfInBounds_toArray, List.set_cons_zero, List.set_cons_succ]
        apply wpR_next 1 (some 14)
        · simp only [List.getElem?_toArray, List.getElem?_cons_succ, List.getElem?_cons_zero]; exact rfl
        · rfl
        · kernel_rfl
        · kernel_rfl
        · kernel_rfl
        · exact fun _ _ _ _ h => h
        apply Exists.intro
        apply And.intro
        · apply yr_run; rfl; intro w' hw'; go_simp; (try with_reducible rfl)
        simp only [Act.put, List.setIfInBounds_toArray, List.set_cons_zero, List.set_cons_succ]
        apply wpR_next 2 (some 15)
        · simp only [List.getElem?_toArray, List.getElem?_cons_succ, List.getElem?_cons_zero]; exact rfl
        · rfl
        · kernel_rfl
        · kernel_rfl
        · kernel_rfl
        · exact fun _ _ _ _ h => h
        apply Exists.intro
        apply And.intro
        · apply yr_run; rfl; intro w' hw'; go_simp; (try with_reducible rfl)
        simp only [Act.put, List.setIfInBounds_toArray, List.set_cons_zero, List.set_cons_succ]
        apply wpR_next 3 (some 16)
        · simp only [List.getElem?_toArray, List.getElem?_cons_succ, List.getElem?_cons_zero]; exact rfl
        · rfl
        · kernel_rfl
        · kernel_rfl
        · kernel_rfl
        · exact fun _ _ _ _ h => h
        apply Exists.intro
        apply And.intro
        · apply yr_run; rfl; intro w' hw'; go_simp; (try with_reducible rfl)
        simp only [Act.put, List.setIfInBounds_toArray, List.set_cons_zero, List.set_cons_succ]
        apply wpR_next 4 (some 17)
        · simp only [List.getElem?_toArray, List.getElem?_cons_succ, List.getElem?_cons_zero]; exact rfl
        · rfl
        · kernel_rfl
        · kernel_rfl
        · kernel_rfl
        · exact fun _ _ _ _ h => h
        apply Exists.intro
        apply And.intro
        · apply yr_run; rfl; intro w' hw'; go_simp; (try with_reducible rfl)
        simp only [Act.put, List.setIfInBounds_toArray, List.set_cons_zero, List.set_cons_succ]
        apply wpR_next 5 (some 18)
        · simp only [List.getElem?_toArray, List.getElem?_cons_succ, List.getElem?_cons_zero]; exact rfl
        · rfl
        · kernel_rfl
        · kernel_rfl
        · kernel_rfl
        · exact fun _ _ _ _ h => h
        apply Exists.intro
        apply And.intro
        · apply yr_run; rfl; intro w' hw'; go_simp; (try with_reducible rfl)
        simp only [Act.put, List.setIfInBounds_toArray, List.set_cons_zero, List.set_cons_succ]
        apply wpR_next 6 (some 19)
        · simp only [List.getElem?_toArray, List.getElem?_cons_succ, List.getElem?_cons_zero]; exact rfl
        · rfl
        · kernel_rfl
        · kernel_rfl
        · kernel_rfl
        · exact fun _ _ _ _ h => h
        apply Exists.intro
        apply And.intro
        · exact yr_run (by rfl) (fun w' hw' => exec_binop_agg .eql 32 (.tmp 17) (.tmp 18) 32 rfl rfl rfl (by kernel_rfl) (hq w'))
        simp only [Act.put, List.setIfInBounds_toArray, List.set_cons_zero, List.set_cons_succ]
        refine wpR_done (by kernel_rfl) ?_ _
        intro W3 hw3
        have hw4 := bel_bl (bel_dr (Below.refl wo.heap.size wo)) hw3
        have HBa := Lib.hid (bel_bl HB.out hw4)
        have HX03 := Lib.hid (HX0.out.below hw4)
        have HX13 := Lib.hid (HX1.out.below hw4)
        have l3 := (hw4.cell (p := ⟨bb, off + j * 6 + 3, none⟩) (by have := HB.out.size; exact Nat.lt_of_lt_of_le hbB this)).trans L3.out
        have l4 := (hw4.cell (p := ⟨bb, off + j * 6 + 4, none⟩) (by have := HB.out.size; exact Nat.lt_of_lt_of_le hbB this)).trans L4.out
        have l5 := (hw4.cell (p := ⟨bb, off + j * 6 + 5, none⟩) (by have := HB.out.size; exact Nat.lt_of_lt_of_le hbB this)).trans L5.out
        have f0 := HX13.out.free 0
        have f1 := HX13.out.free 1
        have f2 := HX13.out.free 2
        have k0 := HX13.out.cell (i := 0) rfl
        have k1 := HX13.out.cell (i := 1) rfl
        have k2 := HX13.out.cell (i := 2) rfl
        have HY := Lib.hid (((HX13.out.set_ 0 (.int .i64 x.2.1)).set_ 1 (.int .i64 x.2.2.1)).set_ 2 (.int .i64 x.2.2.2))
        have HBf := Lib.hid (((HBa.out.setCell (p := ⟨b1, 0, none⟩) Lb1.out (.int .i64 x.2.1)).setCell (p := ⟨b1, 1, none⟩) Lb1.out (.int .i64 x.2.2.1)).setCell (p := ⟨b1, 2, none⟩) Lb1.out (.int .i64 x.2.2.2))
        clear HX13 HX03 HBa HG2 hw3 hw4 HB HX0 HX1 ld0 ld1 ld2 lx0 lx1 lx2 hq L3 L4 L5
        go_wp2
        exact ret_whole2 rfl b1 rfl rfl HY.out Try.underlying32 rfl (by kernel_rfl) rfl ⟨rfl, HBf.out⟩
      · rw [decide_eq_false hd] at hq
        have hg := HG2.out
        rw [findG, if_neg hd] at hg
        have HG4 := Lib.hid hg
        clear hg hd
        go_upto_region 4 with fail
        refine wp_region_reg (Nil_) (by kernel_rfl) ?_
        apply wpR_next 0 (some 13)
        · simp only [List.getElem?_toArray, List.getElem?_cons_succ, List.getElem?_cons_zero]; exact rfl
        · rfl
        · kernel_rfl
        · kernel_rfl
        · kernel_rfl
        · exact fun _ _ _ _ h => h
        apply Exists.intro
        apply And.intro
        · apply yr_run; rfl; intro w' hw'; go_simp; (try with_reducible rfl)
        simp only [Act.put, List.setIfInBounds_toArray, List.set_cons_zero, List.set_cons_succ]
        apply wpR_next 1 (some 14)
        · simp only [List.getElem?_toArray, List.getElem?_cons_succ, List.getElem?_cons_zero]; exact rfl
        · rfl
        · kernel_rfl
        · kernel_rfl
        · kernel_rfl
        · exact fun _ _ _ _ h => h
        apply Exists.intro
        apply And.intro
        · apply yr_run; rfl; intro w' hw'; go_simp; (try with_reducible rfl)
        simp only [Act.put, List.setIfInBounds_toArray, List.set_cons_zero, List.set_cons_succ]
        apply wpR_next 2 (some 15)
        · simp only [List.getElem?_toArray, List.getElem?_cons_succ, List.getElem?_cons_zero]; exact rfl
        · rfl
        · kernel_rfl
        · kernel_rfl
        · kernel_rfl
        · exact fun _ _ _ _ h => h
        apply Exists.intro
        apply And.intro
        · apply yr_run; rfl; intro w' hw'; go_simp; (try with_reducible rfl)
        simp only [Act.put, List.setIfInBounds_toArray, List.set_cons_zero, List.set_cons_succ]
        apply wpR_next 3 (some 16)
        · simp only [List.getElem?_toArray, List.getElem?_cons_succ, List.getElem?_cons_zero]; exact rfl
        · rfl
        · kernel_rfl
        · kernel_rfl
        · kernel_rfl
        · exact fun _ _ _ _ h => h
        apply Exists.intro
        apply And.intro
        · apply yr_run; rfl; intro w' hw'; go_simp; (try with_reducible rfl)
        simp only [Act.put, List.setIfInBounds_toArray, List.set_cons_zero, List.set_cons_succ]
        apply wpR_next 4 (some 17)
        · simp only [List.getElem?_toArray, List.getElem?_cons_succ, List.getElem?_cons_zero]; exact rfl
        · rfl
        · kernel_rfl
        · kernel_rfl
        · kernel_rfl
        · exact fun _ _ _ _ h => h
        apply Exists.intro
        apply And.intro
        · apply yr_run; rfl; intro w' hw'; go_simp; (try with_reducible rfl)
        simp only [Act.put, List.setIfInBounds_toArray, List.set_cons_zero, List.set_cons_succ]
        apply wpR_next 5 (some 18)
        · simp only [List.getElem?_toArray, List.getElem?_cons_succ, List.getElem?_cons_zero]; exact rfl
        · rfl
        · kernel_rfl
        · kernel_rfl
        · kernel_rfl
        · exact fun _ _ _ _ h => h
        apply Exists.intro
        apply And.intro
        · apply yr_run; rfl; intro w' hw'; go_simp; (try with_reducible rfl)
        simp only [Act.put, List.setIfInBounds_toArray, List.set_cons_zero, List.set_cons_succ]
        apply wpR_next 6 (some 19)
        · simp only [List.getElem?_toArray, List.getElem?_cons_succ, List.getElem?_cons_zero]; exact rfl
        · rfl
        · kernel_rfl
        · kernel_rfl
        · kernel_rfl
        · exact fun _ _ _ _ h => h
        apply Exists.intro
        apply And.intro
        · exact yr_run (by rfl) (fun w' hw' => exec_binop_agg .eql 32 (.tmp 17) (.tmp 18) 32 rfl rfl rfl (by kernel_rfl) (hq w'))
        simp only [Act.put, List.setIfInBounds_toArray, List.set_cons_zero, List.set_cons_succ]
        refine wpR_done (by kernel_rfl) ?_ _
        intro W3 hw3
        have hw4 := bel_bl (bel_dr (Below.refl wo.heap.size wo)) hw3
        have HBa := Lib.hid (bel_bl HB.out hw4)
        have HX03 := Lib.hid (HX0.out.below hw4)
        have HX13 := Lib.hid (HX1.out.below hw4)
        clear HG2 hw3 hw4 HB HX0 HX1 ld0 ld1 ld2 lx0 lx1 lx2 hq L3 L4 L5
        go_wp2
        go_roundw
        case rel => exact ⟨j + 1, by omega, by go_num, HBa, HX03, HX13, HG4⟩
        case measure => simp [intOf]; omega
    · obtain rfl : n = j := by omega
      have hg := HG.out
      rw [List.drop_eq_nil_of_le (by have := Hl.out; omega)] at hg
      replace hg : (zD, false) = (r, ok) := hg
      injection hg with hg1 hg2
      subst hg1 hg2
      have f0 := HX1.out.free 0
      have f1 := HX1.out.free 1
      have f2 := HX1.out.free 2
      have k0 := HX1.out.cell (i := 0) rfl
      have k1 := HX1.out.cell (i := 1) rfl
      have k2 := HX1.out.cell (i := 2) rfl
      have HY := Lib.hid (((HX1.out.set_ 0 (.int .i64 0)).set_ 1 (.int .i64 0)).set_ 2 (.int .i64 0))
      have HBf := Lib.hid (((HB.out.setCell (p := ⟨b1, 0, none⟩) Lb1.out (.int .i64 0)).setCell (p := ⟨b1, 1, none⟩) Lb1.out (.int .i64 0)).setCell (p := ⟨b1, 2, none⟩) Lb1.out (.int .i64 0))
      clear HG HX1
      go_wp2
      exact ret_whole2 rfl b1 rfl rfl HY.out Try.underlying32 rfl (by kernel_rfl) rfl ⟨rfl, HBf.out⟩
theorem neq_gone_self (x : Gn) (W : World) : (binOp .neq 36 (.agg #[.int .i64 x.1.1, .int .i64 x.1.2.1, .int .i64 x.1.2.2, .int .i64 x.2.1, .int .i64 x.2.2.1, .int .i64 x.2.2.2]) (.agg #[.int .i64 x.1.1, .int .i64 x.1.2.1, .int .i64 x.1.2.2, .int .i64 x.2.1, .int .i64 x.2.2.1, .int .i64 x.2.2.2])).run Try.prog W = .ok (.bool false) W := by
  go_simp
set_option maxRecDepth 100000 in
set_option maxHeartbeats 4000000 in
theorem rsame_self (A : Option Addr) (c : Nat) (B : Option Addr) (k n : Nat) (G : List Gn) (w : World) (h : RdS w w.heap.size 6 A n c (rowsV gnC G)) (h' : RdS w w.heap.size 6 B n k (rowsV gnC G)) (hn : n ≤ 1000000) :
    Calls Try.prog 18 #[.slice A n c, .slice B n k] w fun e w' => e = .returned (.bool true) ∧ Below w.heap.size w w' := by
  have H := Lib.hid h
  have H' := Lib.hid h'
  have Hl := Lib.hid (h.rlen gnC_len (by decide))
  have HB0 : RowKit.Hid (Below w.heap.size w w) := Lib.hid (Below.refl _ _)
  clear h h'
  go_enter Try.func18, Try.ntmps18
  go_wp2
  go_loopw [5] (fun si wr => ∃ j : Nat, j ≤ n ∧ si = .int .i64 j ∧ RowKit.Hid (Below w.heap.size w wr)) (fun si _ => n - (intOf si).toNat)
  case atStart => exact ⟨0, by omega, rfl, HB0⟩
  case round =>
    clear HB0
    obtain ⟨j, hj, rfl, HB⟩ := hrel
    obtain ⟨wo, gwo⟩ : ∃ z, wr = z := ⟨_, rfl⟩
    rw [gwo] at HB ⊢
    clear gwo
    by_cases hjn : j < n
    · obtain ⟨x, hx⟩ : ∃ x, G[j]? = some x := ⟨_, List.getElem?_eq_getElem (by have := Hl.out; omega)⟩
      obtain ⟨bb, off, rfl, hbB, hpl⟩ := H.out.place gnC_len (by decide) (by omega)
      have hbw := HB.out
      have q0 := hpl j _ hx 0 _ rfl
      have q1 := hpl j _ hx 1 _ rfl
      have q2 := hpl j _ hx 2 _ rfl
      have q3 := hpl j _ hx 3 _ rfl
      have q4 := hpl j _ hx 4 _ rfl
      have q5 := hpl j _ hx 5 _ rfl
      simp only [Addr.add_lit, Nat.add_zero] at q0 q1 q2 q3 q4 q5
      have l0 := (hbw.cell (p := ⟨bb, off + j * 6, none⟩) hbB).trans q0
      have l1 := (hbw.cell (p := ⟨bb, off + j * 6 + 1, none⟩) hbB).trans q1
      have l2 := (hbw.cell (p := ⟨bb, off + j * 6 + 2, none⟩) hbB).trans q2
      have l3 := (hbw.cell (p := ⟨bb, off + j * 6 + 3, none⟩) hbB).trans q3
      have l4 := (hbw.cell (p := ⟨bb, off + j * 6 + 4, none⟩) hbB).trans q4
      have l5 := (hbw.cell (p := ⟨bb, off + j * 6 + 5, none⟩) hbB).trans q5
      clear hbw q0 q1 q2 q3 q4 q5
      obtain ⟨bb2, off2, rfl, hbB2, hpl2⟩ := H'.out.place gnC_len (by decide) (by omega)
      have hbw := HB.out
      have q0 := hpl2 j _ hx 0 _ rfl
      have q1 := hpl2 j _ hx 1 _ rfl
      have q2 := hpl2 j _ hx 2 _ rfl
      have q3 := hpl2 j _ hx 3 _ rfl
      have q4 := hpl2 j _ hx 4 _ rfl
      have q5 := hpl2 j _ hx 5 _ rfl
      simp only [Addr.add_lit, Nat.add_zero] at q0 q1 q2 q3 q4 q5
      have l20 := (hbw.cell (p := ⟨bb2, off2 + j * 6, none⟩) hbB2).trans q0
      have l21 := (hbw.cell (p := ⟨bb2, off2 + j * 6 + 1, none⟩) hbB2).trans q1
      have l22 := (hbw.cell (p := ⟨bb2, off2 + j * 6 + 2, none⟩) hbB2).trans q2
      have l23 := (hbw.cell (p := ⟨bb2, off2 + j * 6 + 3, none⟩) hbB2).trans q3
      have l24 := (hbw.cell (p := ⟨bb2, off2 + j * 6 + 4, none⟩) hbB2).trans q4
      have l25 := (hbw.cell (p := ⟨bb2, off2 + j * 6 + 5, none⟩) hbB2).trans q5
      clear hbw q0 q1 q2 q3 q4 q5
      have la0 : ∀ w', Kept Nil_ wo.drew w' → w'.cell? ⟨bb, off + j * 6, none⟩ = some (.int .i64 x.1.1) := fun w' h => h.nil_cell l0
      have la1 : ∀ w', Kept Nil_ wo.drew w' → w'.cell? ⟨bb, off + j * 6 + 1, none⟩ = some (.int .i64 x.1.2.1) := fun w' h => h.nil_cell l1
      have la2 : ∀ w', Kept Nil_ wo.drew w' → w'.cell? ⟨bb, off + j * 6 + 2, none⟩ = some (.int .i64 x.1.2.2) := fun w' h => h.nil_cell l2
      have la3 : ∀ w', Kept Nil_ wo.drew w' → w'.cell? ⟨bb, off + j * 6 + 3, none⟩ = some (.int .i64 x.2.1) := fun w' h => h.nil_cell l3
      have la4 : ∀ w', Kept Nil_ wo.drew w' → w'.cell? ⟨bb, off + j * 6 + 4, none⟩ = some (.int .i64 x.2.2.1) := fun w' h => h.nil_cell l4
      have la5 : ∀ w', Kept Nil_ wo.drew w' → w'.cell? ⟨bb, off + j * 6 + 5, none⟩ = some (.int .i64 x.2.2.2) := fun w' h => h.nil_cell l5
      have lb0 : ∀ w', Kept Nil_ wo.drew w' → w'.cell? ⟨bb2, off2 + j * 6, none⟩ = some (.int .i64 x.1.1) := fun w' h => h.nil_cell l20
      have lb1 : ∀ w', Kept Nil_ wo.drew w' → w'.cell? ⟨bb2, off2 + j * 6 + 1, none⟩ = some (.int .i64 x.1.2.1) := fun w' h => h.nil_cell l21
      have lb2 : ∀ w', Kept Nil_ wo.drew w' → w'.cell? ⟨bb2, off2 + j * 6 + 2, none⟩ = some (.int .i64 x.1.2.2) := fun w' h => h.nil_cell l22
      have lb3 : ∀ w', Kept Nil_ wo.drew w' → w'.cell? ⟨bb2, off2 + j * 6 + 3, none⟩ = some (.int .i64 x.2.1) := fun w' h => h.nil_cell l23
      have lb4 : ∀ w', Kept Nil_ wo.drew w' → w'.cell? ⟨bb2, off2 + j * 6 + 4, none⟩ = some (.int .i64 x.2.2.1) := fun w' h => h.nil_cell l24
      have lb5 : ∀ w', Kept Nil_ wo.drew w' → w'.cell? ⟨bb2, off2 + j * 6 + 5, none⟩ = some (.int .i64 x.2.2.2) := fun w' h => h.nil_cell l25
      have hltI : (j : Int) < (n : Int) := by omega
      have hq := neq_gone_self x
      clear hx hpl hpl2 l0 l1 l2 l3 l4 l5 l20 l21 l22 l23 l24 l25
      go_upto_region 6 with fail
      refine wp_region_reg (Nil_) (by kernel_rfl) ?_
      apply wpR_next 0 (some 17)
      · simp only [List.getElem?_toArray, List.getElem?_cons_succ, List.getElem?_cons_zero]; exact rfl
      · rfl
      · kernel_rfl
      · kernel_rfl
      · kernel_rfl
      · exact fun _ _ _ _ h => h
      apply Exists.intro
      apply And.intro
      · apply yr_run; rfl; intro w' hw'; go_simp; (try with_reducible rfl)
      simp only [Act.put, List.setIfInBounds_toArray, List.set_cons_zero, List.set_cons_succ]
      apply wpR_next 1 (some 18)
      · simp only [List.getElem?_toArray, List.getElem?_cons_succ, List.getElem?_cons_zero]; exact rfl
      · rfl
      · kernel_rfl
      · kernel_rfl
      · kernel_rfl
      · exact fun _ _ _ _ h => h
      apply Exists.intro
      apply And.intro
      · apply yr_run; rfl; intro w' hw'; go_simp; (try with_reducible rfl)
      simp only [Act.put, List.setIfInBounds_toArray, List.set_cons_zero, List.set_cons_succ]
      apply wpR_next 2 (some 19)
      · simp only [List.getElem?_toArray, List.getElem?_cons_succ, List.getElem?_cons_zero]; exact rfl
      · rfl
      · kernel_rfl
      · kernel_rfl
      · kernel_rfl
      · exact fun _ _ _ _ h => h
      apply Exists.intro
      apply And.intro
      · apply yr_run; rfl; intro w' hw'; go_simp; (try with_reducible rfl)
      simp only [Act.put, List.setIfInBounds_toArray, List.set_cons_zero, List.set_cons_succ]
      apply wpR_next 3 (some 20)
      · simp only [List.getElem?_toArray, List.getElem?_cons_succ, List.getElem?_cons_zero]; exact rfl
      · rfl
      · kernel_rfl
      · kernel_rfl
      · kernel_rfl
      · exact fun _ _ _ _ h => h
      apply Exists.intro
      apply And.intro
      · apply yr_run; rfl; intro w' hw'; go_simp; (try with_reducible rfl)
      simp only [Act.put, List.setIfInBounds_toArray, List.set_cons_zero, List.set_cons_succ]
      apply wpR_next 4 (some 21)
      · simp only [List.getElem?_toArray, List.getElem?_cons_succ, List.getElem?_cons_zero]; exact rfl
      · rfl
      · kernel_rfl
      · kernel_rfl
      · kernel_rfl
      · exact fun _ _ _ _ h => h
      apply Exists.intro
      apply And.intro
      · apply yr_run; rfl; intro w' hw'; go_simp; (try with_reducible rfl)
      simp only [Act.put, List.setIfInBounds_toArray, List.set_cons_zero, List.set_cons_succ]
      apply wpR_next 5 (some 22)
      · simp only [List.getElem?_toArray, List.getElem?_cons_succ, List.getElem?_cons_zero]; exact rfl
      · rfl
      · kernel_rfl
      · kernel_rfl
      · kernel_rfl
      · exact fun _ _ _ _ h => h
      apply Exists.intro
      apply And.intro
      · apply yr_run; rfl; intro w' hw'; go_simp; (try with_reducible rfl)
      simp only [Act.put, List.setIfInBounds_toArray, List.set_cons_zero, List.set_cons_succ]
      apply wpR_next 6 (some 23)
      · simp only [List.getElem?_toArray, List.getElem?_cons_succ, List.getElem?_cons_zero]; exact rfl
      · rfl
      · kernel_rfl
      · kernel_rfl
      · kernel_rfl
      · exact fun _ _ _ _ h => h
      apply Exists.intro
      apply And.intro
      · apply yr_run; rfl; intro w' hw'; go_simp; (try with_reducible rfl)
      simp only [Act.put, List.setIfInBounds_toArray, List.set_cons_zero, List.set_cons_succ]
      apply wpR_next 7 (some 24)
      · simp only [List.getElem?_toArray, List.getElem?_cons_succ, List.getElem?_cons_zero]; exact rfl
      · rfl
      · kernel_rfl
      · kernel_rfl
      · kernel_rfl
      · exact fun _ _ _ _ h => h
      apply Exists.intro
      apply And.intro
      · apply yr_run; rfl; intro w' hw'; go_simp; (try with_reducible rfl)
      simp only [Act.put, List.setIfInBounds_toArray, List.set_cons_zero, List.set_cons_succ]
      apply wpR_next 8 (some 25)
      · simp only [List.getElem?_toArray, List.getElem?_cons_succ, List.getElem?_cons_zero]; exact rfl
      · rfl
      · kernel_rfl
      · kernel_rfl
      · kernel_rfl
      · exact fun _ _ _ _ h => h
      apply Exists.intro
      apply And.intro
      · exact yr_run (by rfl) (fun w' hw' => exec_binop_agg .neq 36 (.tmp 20) (.tmp 24) 36 rfl rfl rfl (by kernel_rfl) (hq w'))
      simp only [Act.put, List.setIfInBounds_toArray, List.set_cons_zero, List.set_cons_succ]
      refine wpR_done (by kernel_rfl) ?_ _
      intro W3 hw3
      have HBa := Lib.hid (bel_bl HB.out (bel_bl (bel_dr (Below.refl wo.heap.size wo)) hw3))
      clear hw3 HB hq la0 la1 la2 la3 la4 la5 lb0 lb1 lb2 lb3 lb4 lb5
      go_wp2
      go_roundw
      case rel => exact ⟨j + 1, by omega, by go_num, HBa⟩
      case measure => simp [intOf]; omega
    · obtain rfl : n = j := by omega
      go_wp2
      go_ret
      exact ⟨rfl, HB.out⟩
end Go.Proofs.Ytkhklhipiiehbaa
