/- 'EulerLess' answers true for every diagram and every number.
   No condition beyond the row's own. -/
import Derived.Test.YtahbfdhjgnlmdaaZLH
import Derived.Test.YtahbfdhjgnlmdaaZLA
import Derived.Test.YtahbfdhjgnlmdaaRows
import Derived.Test.YtahbfdhjgnlmdaaZLE

/- EulerLess' walk. -/
namespace Go.Proofs.Ytahbfdhjgnlmdaa
open Go.RowKit
set_option linter.unusedSimpArgs false
set_option linter.unusedVariables false

set_option maxRecDepth 100000 in
set_option maxHeartbeats 4000000 in
theorem law_less (A : Option Addr) (n c : Nat) (Vs : List VC) (B : Option Addr) (m k : Nat) (Es : List EC) (x : Int) (w : World) (h : DgIn w A n c Vs B m k Es) (hg : GoodD Vs Es) (hn : n ≤ maxLen) (hm : m ≤ maxLen) :
    Calls Try.prog 3 #[.agg #[.slice A n c, .slice B m k], .int .i64 x] w fun e w' => e = .returned (.bool true) ∧ Below w.heap.size w w' := by
  have HW := Lib.hid (fun W hb => few7_step h hg hn hm W hb)
  obtain ⟨Va, gVa⟩ : ∃ z, (Vs.take 26).map few7V = z := ⟨_, rfl⟩
  obtain ⟨Ea, gEa⟩ : ∃ z, Es.take 42 = z := ⟨_, rfl⟩
  rw [gVa, gEa] at HW
  clear h hg hn hm gVa gEa
  go_enter Try.func3, Try.ntmps3
  go_wp2_with fail
  refine (shown07_any _).mono ?_
  rintro e w1 ⟨rfl, hb1⟩
  have D0_2 := Lib.hid ((show Whole (w.alloc (.cells #[.slice A n c, .slice B m k] 25)) (w.heap.size) (25) ([.slice A n c, .slice B m k]) from Whole.new2 (by first | rfl | simp)).bl hb1)
  have Bel_2 := Lib.hid (bel_bl (bel_al (Below.refl _ w) (.cells #[.slice A n c, .slice B m k] 25)) hb1)
  clear hb1
  have LO_D0_3 : RowKit.Hid (w.heap.size ≤ w.heap.size) := Lib.hid (by omega)
  have lw4 : (w1).cell? ⟨w.heap.size, 0, none⟩ = some (.slice A n c) := D0_2.out.cell (i := 0) rfl
  have lw5 : (w1).cell? ⟨w.heap.size, 1, none⟩ = some (.slice B m k) := D0_2.out.cell (i := 1) rfl
  go_wp2_with fail
  clear lw4 lw5
  have LTN_a_D0 : RowKit.Hid (w.heap.size < w1.heap.size) := Lib.hid (D0_2.out).lt
  refine (HW.out _ Bel_2.out).mono ?_
  rintro e w6 ⟨Aa, na, ca, Ba, ma, ka, rfl, hF, hb6⟩
  have Fa := Lib.hid hF
  clear hF
  have D0_7 := Lib.hid (D0_2.out.bl hb6)
  have Bel_7 := Lib.hid (bel_bl Bel_2.out hb6)
  clear D0_2 Bel_2
  clear hb6
  have lw8 : (w6).cell? ⟨w.heap.size, 0, none⟩ = some (.slice A n c) := D0_7.out.cell (i := 0) rfl
  have lw9 : (w6).cell? ⟨w.heap.size, 1, none⟩ = some (.slice B m k) := D0_7.out.cell (i := 1) rfl
  have fr0 := D0_7.out.free 0
  have fr1 := D0_7.out.free 1
  go_upto_region 3 with fail
  clear fr0 fr1 lw8 lw9
  obtain ⟨v10, gv10⟩ : ∃ x, (w6.setCell ⟨w.heap.size, 0, none⟩ (.slice Aa na ca)).setCell ⟨w.heap.size, 1, none⟩ (.slice Ba ma ka) = x := ⟨_, rfl⟩
  have D0_10 : RowKit.Hid (Whole v10 w.heap.size 25 [.slice Aa na ca, .slice Ba ma ka]) := Lib.hid (gv10 ▸ ((D0_7.out.set_ 0 (.slice Aa na ca)).set_ 1 (.slice Ba ma ka)))
  have Bel_10 : RowKit.Hid (Below w.heap.size w v10) := Lib.hid (gv10 ▸ ((Bel_7.out.setCell (p := ⟨w.heap.size, 0, none⟩) (by show w.heap.size ≤ w.heap.size; exact LO_D0_3.out) _).setCell (p := ⟨w.heap.size, 1, none⟩) (by show w.heap.size ≤ w.heap.size; exact LO_D0_3.out) _))
  have Da_10 : RowKit.Hid (DgIn v10 Aa na ca Va Ba ma ka Ea) := Lib.hid (gv10 ▸ Fa.out.put (g := w.heap.size) (by show w.heap.size ≤ w.heap.size; exact LO_D0_3.out) LTN_a_D0.out _ _)
  rw [gv10]
  clear gv10
  clear D0_7 Bel_7
  have Hr0 : RowKit.Hid (∀ x ∈ Va, x.2.1.2.1 ≤ 1000000) := Lib.hid (fun x hx => by have := Fa.out.r30 x hx; omega)
  have Hr1 : RowKit.Hid (∀ x ∈ Va, x.2.1.2.1 ≤ 900000) := Lib.hid (fun x hx => by have := Fa.out.r30 x hx; omega)
  have HFm := Lib.hid (rform7_any (A := Aa) (n := na) (c := ca) (B := Ba) (m := ma) (k := ka) Hr0.out Fa.out.good)
  have HLn : RowKit.Hid (Va.length = na ∧ Ea.length = ma) := Lib.hid (dg_lens Da_10.out)
  by_cases hfo : formD Va Ea = 0
  case neg =>
    obtain ⟨fo, gfo⟩ : ∃ z, formD Va Ea = z := ⟨_, rfl⟩
    rw [gfo] at HFm hfo
    have hfn : (fo != 0) = true := by simp [hfo]
    clear gfo
    have lw11 : (v10).cell? ⟨w.heap.size, 0, none⟩ = some (.slice Aa na ca) := D0_10.out.cell (i := 0) rfl
    have lw12 : (v10).cell? ⟨w.heap.size, 1, none⟩ = some (.slice Ba ma ka) := D0_10.out.cell (i := 1) rfl
    go_wp2_with fail
    clear lw11 lw12
    refine (HFm.out _ Da_10.out).mono ?_
    rintro e w13 ⟨rfl, hb13⟩
    have D0_14 := Lib.hid (D0_10.out.bl hb13)
    have Da_14 := Lib.hid (Da_10.out.bl hb13)
    have Bel_14 := Lib.hid (bel_bl Bel_10.out hb13)
    clear D0_10 Da_10 Bel_10
    clear hb13
    have lw15 : (w13).cell? ⟨w.heap.size, 0, none⟩ = some (.slice Aa na ca) := D0_14.out.cell (i := 0) rfl
    have lw16 : (w13).cell? ⟨w.heap.size, 1, none⟩ = some (.slice Ba ma ka) := D0_14.out.cell (i := 1) rfl
    go_wp2
    go_ret
    exact ⟨by first | rfl | simp, Bel_14.out⟩
  have HFq : RowKit.Hid (Formed Va Ea) := Lib.hid ((form0 Va Ea).1 hfo)
  rw [hfo] at HFm
  by_cases hx0 : x < 0
  case pos =>
    have d1 : decide (x < 0) = true := decide_eq_true hx0
    have lw11 : (v10).cell? ⟨w.heap.size, 0, none⟩ = some (.slice Aa na ca) := D0_10.out.cell (i := 0) rfl
    have lw12 : (v10).cell? ⟨w.heap.size, 1, none⟩ = some (.slice Ba ma ka) := D0_10.out.cell (i := 1) rfl
    go_wp2_with fail
    clear lw11 lw12
    refine (HFm.out _ Da_10.out).mono ?_
    rintro e w13 ⟨rfl, hb13⟩
    have D0_14 := Lib.hid (D0_10.out.bl hb13)
    have Da_14 := Lib.hid (Da_10.out.bl hb13)
    have Bel_14 := Lib.hid (bel_bl Bel_10.out hb13)
    clear D0_10 Da_10 Bel_10
    clear hb13
    have lw15 : (w13).cell? ⟨w.heap.size, 0, none⟩ = some (.slice Aa na ca) := D0_14.out.cell (i := 0) rfl
    have lw16 : (w13).cell? ⟨w.heap.size, 1, none⟩ = some (.slice Ba ma ka) := D0_14.out.cell (i := 1) rfl
    go_wp2
    go_ret
    exact ⟨by first | rfl | simp, Bel_14.out⟩
  by_cases hxm : (ma : Int) ≤ x
  case pos =>
    have d1 : decide (x < 0) = false := decide_eq_false hx0
    have d2 : decide ((ma : Int) ≤ x) = true := decide_eq_true hxm
    have lw11 : (v10).cell? ⟨w.heap.size, 0, none⟩ = some (.slice Aa na ca) := D0_10.out.cell (i := 0) rfl
    have lw12 : (v10).cell? ⟨w.heap.size, 1, none⟩ = some (.slice Ba ma ka) := D0_10.out.cell (i := 1) rfl
    go_wp2_with fail
    clear lw11 lw12
    refine (HFm.out _ Da_10.out).mono ?_
    rintro e w13 ⟨rfl, hb13⟩
    have D0_14 := Lib.hid (D0_10.out.bl hb13)
    have Da_14 := Lib.hid (Da_10.out.bl hb13)
    have Bel_14 := Lib.hid (bel_bl Bel_10.out hb13)
    clear D0_10 Da_10 Bel_10
    clear hb13
    have lw15 : (w13).cell? ⟨w.heap.size, 0, none⟩ = some (.slice Aa na ca) := D0_14.out.cell (i := 0) rfl
    have lw16 : (w13).cell? ⟨w.heap.size, 1, none⟩ = some (.slice Ba ma ka) := D0_14.out.cell (i := 1) rfl
    go_wp2
    go_ret
    exact ⟨by first | rfl | simp, Bel_14.out⟩
  obtain ⟨j, rfl⟩ : ∃ j : Nat, x = (j : Int) := ⟨x.toNat, by omega⟩
  have hjm : j < ma := by omega
  obtain ⟨eb, eo, gBa, hebB, -⟩ := (Da_10.out).e.place eC_len (by decide) (by omega)
  subst gBa
  obtain ⟨⟨⟨e1, e2⟩, el, et⟩, hej⟩ : ∃ e, Ea[j]? = some e := ⟨_, List.getElem?_eq_getElem (by have := HLn.out.2; omega)⟩
  have d1 : decide ((j : Int) < 0) = false := decide_eq_false (by omega)
  have d2 : decide ((ma : Int) ≤ (j : Int)) = false := decide_eq_false (by omega)
  have d3 : decide (ma ≤ j) = false := decide_eq_false (by omega)
  have hmk : ma ≤ ka := (Da_10.out).e.le
  obtain ⟨j1, gj1⟩ : ∃ z, j + 1 = z := ⟨_, rfl⟩
  have hw1 : IntKind.i64.wrap ((j : Int) + 1) = (j1 : Int) := by rw [IntWalk.i64_in _ (by have := Fa.out.m50; omega)]; omega
  obtain ⟨m5, gm5⟩ : ∃ z, ma - j1 = z := ⟨_, rfl⟩
  obtain ⟨k5, gk5⟩ : ∃ z, ka - j1 = z := ⟨_, rfl⟩
  obtain ⟨B5, gB5⟩ : ∃ z, (if ka = j1 then (some ⟨eb, eo, none⟩ : Option Addr) else (some (⟨eb, eo, none⟩ : Addr)).map (·.add (j1 * 4))) = z := ⟨_, rfl⟩
  obtain ⟨n6, gn6⟩ : ∃ z, j + m5 = z := ⟨_, rfl⟩
  have hsa : RdS v10 v10.heap.size 4 (some ⟨eb, eo, none⟩) j ka (rowsV eC (Ea.take j)) := by have h9 := (Da_10.out).e.take_ j (by omega); rwa [← rowsV_take eC eC_len] at h9
  have hsb : RdS v10 v10.heap.size 4 B5 m5 k5 (rowsV eC (Ea.drop j1)) := by have h9 := (Da_10.out).e.low_ (k := j1) (by omega); rwa [← rowsV_drop eC eC_len, gB5, gm5, gk5] at h9
  have HJa : RowKit.Hid (j ≤ ka) := Lib.hid (by omega)
  have HJb : RowKit.Hid (j1 ≤ ma) := Lib.hid (by omega)
  have GB5 := Lib.hid gB5
  have Gm5 := Lib.hid gm5
  have Gk5 := Lib.hid gk5
  have Gn6 := Lib.hid gn6
  have Gj1 := Lib.hid gj1
  have Hm42 : RowKit.Hid (ma ≤ 42 ∧ j < ma ∧ n6 + 1 = ma) := Lib.hid ⟨Fa.out.m50, hjm, by omega⟩
  have HLe : RowKit.Hid (rowsV eC (Ea.take j) ++ rowsV eC (Ea.drop j1) = rowsV eC (lessE j Ea)) := Lib.hid (by rw [← rowsV_app, ← gj1]; rfl)
  have Hej := Lib.hid hej
  have HGd : RowKit.Hid (GoodD Va Ea) := Lib.hid Fa.out.good
  have Hn24 : RowKit.Hid (na ≤ 30) := Lib.hid (by have := Fa.out.n30; omega)
  obtain ⟨i0, hi, hz0, hz1, hz2⟩ := info_partsD info_edge
  obtain ⟨iV, hiv, hzv0, hzv1, hzv2⟩ := info_partsD info_vertex
  clear hx0 hxm hfo hebB hmk gj1 gm5 gk5 gB5 gn6 hej hjm
  have SA_0 := Lib.hid hsa
  have SB_0 := Lib.hid hsb
  clear hsa hsb
  have lw11 : (v10).cell? ⟨w.heap.size, 0, none⟩ = some (.slice Aa na ca) := D0_10.out.cell (i := 0) rfl
  have lw12 : (v10).cell? ⟨w.heap.size, 1, none⟩ = some (.slice (some ⟨eb, eo, none⟩) ma ka) := D0_10.out.cell (i := 1) rfl
  go_wp2_with fail
  clear lw11 lw12
  refine (HFm.out _ Da_10.out).mono ?_
  rintro e w13 ⟨rfl, hb13⟩
  have D0_14 := Lib.hid (D0_10.out.bl hb13)
  have Da_14 := Lib.hid (Da_10.out.bl hb13)
  have SA_14 := Lib.hid (SA_0.out.bl hb13)
  have SB_14 := Lib.hid (SB_0.out.bl hb13)
  have Bel_14 := Lib.hid (bel_bl Bel_10.out hb13)
  clear D0_10 Da_10 SA_0 SB_0 Bel_10
  clear hb13
  have lw15 : (w13).cell? ⟨w.heap.size, 0, none⟩ = some (.slice Aa na ca) := D0_14.out.cell (i := 0) rfl
  have lw16 : (w13).cell? ⟨w.heap.size, 1, none⟩ = some (.slice (some ⟨eb, eo, none⟩) ma ka) := D0_14.out.cell (i := 1) rfl
  go_upto_region 5 with fail
  clear lw15 lw16 d1 d2 d3
  obtain ⟨W0, gW0⟩ : ∃ z, w13 = z := ⟨_, rfl⟩
  rw [gW0] at D0_14 Da_14 SA_14 SB_14 Bel_14 ⊢
  clear gW0
  obtain ⟨b0, gb0⟩ : ∃ z, w.heap.size = z := ⟨_, rfl⟩
  rw [gb0] at D0_14 ⊢
  clear gb0
  have HDd := Lib.hid (Da_14.out)
  have HXd := Lib.hid (D0_14.out)
  have HBw := Lib.hid (Bel_14.out)
  refine wp_behind2 (fun a a' w' => ∃ (A6 : Option Addr) (c6 g6 : Nat) (u31 u32 u33 u34 u35 u36 u37 u38 u39 u40 u41 u42 u43 : Value), a' = ((((((((((((((a.put (some 31) u31).put (some 32) u32).put (some 33) u33).put (some 34) u34).put (some 35) u35).put (some 36) u36).put (some 37) u37).put (some 38) u38).put (some 39) u39).put (some 40) u40).put (some 41) u41).put (some 42) u42).put (some 43) u43).put (some 6) (.pointer (some ⟨g6, 0, none⟩))) ∧ RowKit.Hid (Ext W0 w' ∧ W0.heap.size ≤ g6 ∧ Whole w' g6 25 [.slice none 0 0, .slice A6 n6 c6] ∧ w'.ownsRow W0.heap.size 33 4 (.slice A6 n6 c6) n6 (rowsV eC (lessE j Ea)))) ?_ ?_
  · have D0_17 := Lib.hid (D0_14.out.dr)
    have Da_17 := Lib.hid (Da_14.out.dr)
    have SA_17 := Lib.hid (SA_14.out.dr)
    have SB_17 := Lib.hid (SB_14.out.dr)
    have Bel_17 := Lib.hid (bel_dr Bel_14.out)
    have EX0 : RowKit.Hid (Ext W0.drew W0.drew) := Lib.hid (Ext.refl _)
    obtain ⟨B0, hB0⟩ : ∃ x, W0.drew.heap.size = x := ⟨_, rfl⟩
    have HB0 := Lib.hid hB0
    clear hB0
    have ldt0 : ∀ w', Kept (From_ B0) W0.drew w' → w'.cell? ⟨b0, 1, none⟩ = some (.slice (some ⟨eb, eo, none⟩) ma ka) := fun w' h => h.from_cell (Nat.lt_of_lt_of_eq (D0_17.out.lt) HB0.out) (D0_17.out.cell (i := 1) rfl)
    refine wp_region_reg (From_ B0) (by kernel_rfl) ?_
    apply wpR_next 1 (some 32)
    · simp only [List.getElem?_toArray, List.getElem?_cons_succ, List.getElem?_cons_zero]; exact rfl
    · rfl
    · kernel_rfl
    · kernel_rfl
    · kernel_rfl
    · first | exact fun _ _ _ _ h => Exit.noConfusion h.1 | exact fun _ _ _ _ h => h
    apply Exists.intro
    apply And.intro
    · apply yr_run; rfl; intro w' hw'; go_simp; (try with_reducible rfl)
    simp only [Act.put, List.setIfInBounds_toArray, List.set_cons_zero, List.set_cons_succ]
    apply wpR_next 2 (some 33)
    · simp only [List.getElem?_toArray, List.getElem?_cons_succ, List.getElem?_cons_zero]; exact rfl
    · rfl
    · kernel_rfl
    · kernel_rfl
    · kernel_rfl
    · first | exact fun _ _ _ _ h => Exit.noConfusion h.1 | exact fun _ _ _ _ h => h
    apply Exists.intro
    apply And.intro
    · apply yr_run; rfl; intro w' hw'; go_simp; (try with_reducible rfl)
    simp only [Act.put, List.setIfInBounds_toArray, List.set_cons_zero, List.set_cons_succ]
    apply wpR_next 3 (some 34)
    · simp only [List.getElem?_toArray, List.getElem?_cons_succ, List.getElem?_cons_zero]; exact rfl
    · rfl
    · kernel_rfl
    · kernel_rfl
    · kernel_rfl
    · first | exact fun _ _ _ _ h => Exit.noConfusion h.1 | exact fun _ _ _ _ h => h
    apply Exists.intro
    apply And.intro
    · apply yr_run; rfl; intro w' hw'; go_simp; (try with_reducible rfl)
    simp only [Act.put, List.setIfInBounds_toArray, List.set_cons_zero, List.set_cons_succ]
    apply wpR_next 4 (some 35)
    · simp only [List.getElem?_toArray, List.getElem?_cons_succ, List.getElem?_cons_zero]; exact rfl
    · rfl
    · kernel_rfl
    · kernel_rfl
    · kernel_rfl
    · first | exact fun _ _ _ _ h => Exit.noConfusion h.1 | exact fun _ _ _ _ h => h
    apply Exists.intro
    apply And.intro
    · apply yr_run; rfl; intro w' hw'; exact exec_slice_high 23 33 (.tmp 33) (.tmp 34) rfl Try.underlying23 (s := 4) (by kernel_rfl) rfl rfl HJa.out
    simp only [Act.put, List.setIfInBounds_toArray, List.set_cons_zero, List.set_cons_succ]
    apply wpR_next 6 (some 37)
    · simp only [List.getElem?_toArray, List.getElem?_cons_succ, List.getElem?_cons_zero]; exact rfl
    · rfl
    · kernel_rfl
    · kernel_rfl
    · kernel_rfl
    · first | exact fun _ _ _ _ h => Exit.noConfusion h.1 | exact fun _ _ _ _ h => h
    apply Exists.intro
    apply And.intro
    · apply yr_run; rfl; intro w' hw'; go_simp; (try with_reducible rfl)
    simp only [Act.put, List.setIfInBounds_toArray, List.set_cons_zero, List.set_cons_succ]
    apply wpR_next 7 (some 38)
    · simp only [List.getElem?_toArray, List.getElem?_cons_succ, List.getElem?_cons_zero]; exact rfl
    · rfl
    · kernel_rfl
    · kernel_rfl
    · kernel_rfl
    · first | exact fun _ _ _ _ h => Exit.noConfusion h.1 | exact fun _ _ _ _ h => h
    apply Exists.intro
    apply And.intro
    · apply yr_run; rfl; intro w' hw'; go_simp; (try with_reducible rfl)
    simp only [Act.put, List.setIfInBounds_toArray, List.set_cons_zero, List.set_cons_succ]
    apply wpR_next 8 (some 39)
    · simp only [List.getElem?_toArray, List.getElem?_cons_succ, List.getElem?_cons_zero]; exact rfl
    · rfl
    · kernel_rfl
    · kernel_rfl
    · kernel_rfl
    · first | exact fun _ _ _ _ h => Exit.noConfusion h.1 | exact fun _ _ _ _ h => h
    apply Exists.intro
    apply And.intro
    · apply yr_run; rfl; intro w' hw'; go_simp; (try with_reducible rfl)
    simp only [Act.put, List.setIfInBounds_toArray, List.set_cons_zero, List.set_cons_succ]
    apply wpR_next 9 (some 40)
    · simp only [List.getElem?_toArray, List.getElem?_cons_succ, List.getElem?_cons_zero]; exact rfl
    · rfl
    · kernel_rfl
    · kernel_rfl
    · kernel_rfl
    · first | exact fun _ _ _ _ h => Exit.noConfusion h.1 | exact fun _ _ _ _ h => h
    apply Exists.intro
    apply And.intro
    · apply yr_run; rfl; intro w' hw'; go_simp; (try with_reducible rfl)
    simp only [Act.put, List.setIfInBounds_toArray, List.set_cons_zero, List.set_cons_succ]
    apply wpR_next 10 (some 41)
    · simp only [List.getElem?_toArray, List.getElem?_cons_succ, List.getElem?_cons_zero]; exact rfl
    · rfl
    · kernel_rfl
    · kernel_rfl
    · kernel_rfl
    · first | exact fun _ _ _ _ h => Exit.noConfusion h.1 | exact fun _ _ _ _ h => h
    apply Exists.intro
    apply And.intro
    · apply yr_run; rfl; intro w' hw'; exact exec_slice_low_as 23 33 (.tmp 38) (.tmp 40) rfl Try.underlying23 (s := 4) (by kernel_rfl) rfl rfl HJb.out GB5.out Gm5.out Gk5.out
    simp only [Act.put, List.setIfInBounds_toArray, List.set_cons_zero, List.set_cons_succ]
    refine wpR_two 0 13 (by kernel_rfl) ?_ ?_
    · apply at_run 0 (some 31)
      · simp only [List.getElem?_toArray, List.getElem?_cons_succ, List.getElem?_cons_zero]; exact rfl
      · rfl
      · rfl
      intro w' hw'
      have E_1_2 := Lib.hid (Ext.trans EX0.out (hw'))
      refine ⟨.slice (some ⟨w'.heap.size, 0, none⟩) 0 0, w'.alloc (.cells #[] 33), ?_, Kept.of_below (below1 _ _), ?_⟩
      · go_simp
      have RR_n1_1 : RowKit.Hid (Ow W0.drew B0 33 4 (.slice (some ⟨w'.heap.size, 0, none⟩) 0 0) 0 [] (w'.alloc (.cells #[] 33))) := Lib.hid (Ow.new_ (e := 33) (size := 4) (cs := #[]) E_1_2.out (Nat.le_of_eq HB0.out) (by have h1 := E_1_2.out.size; have h2 := HB0.out; omega) (n := 0) (Nat.zero_le _) rfl)
      have E_1_3 := Lib.hid (Ext.trans E_1_2.out (below1 w' (.cells #[] 33)))
      have hkk : Kept (From_ B0) W0.drew (w'.alloc (.cells #[] 33)) := (Kept.of_ext hw').trans (Kept.of_below (below1 _ _))
      obtain ⟨v1_4, gv1_4⟩ : ∃ x, w'.alloc (.cells #[] 33) = x := ⟨_, rfl⟩
      rw [gv1_4] at RR_n1_1 E_1_3 hkk ⊢
      have ldt1_5 := fun w'' (h : Kept (From_ B0) v1_4 w'') => ldt0 w'' (hkk.trans h)
      clear ldt0
      clear gv1_4 hkk
      obtain ⟨g1_1, gg1_1⟩ : ∃ x, w'.heap.size = x := ⟨_, rfl⟩
      rw [gg1_1] at RR_n1_1  ⊢
      clear gg1_1 hw'
      try simp only [Act.put, List.setIfInBounds_toArray, List.set_cons_zero, List.set_cons_succ]
      refine wpR_two 5 13 (by kernel_rfl) ?_ ?_
      · apply at_run 5 (some 36)
        · simp only [List.getElem?_toArray, List.getElem?_cons_succ, List.getElem?_cons_zero]; exact rfl
        · rfl
        · rfl
        intro w' hw'
        have RR_2_7 := Lib.hid (Ow.up RR_n1_1.out (hw'))
        have E_2_7 := Lib.hid (Ext.trans E_1_3.out (hw'))
        obtain ⟨vv, w'', hrun, ho, hb, hg, hbk⟩ := Ow.app2 (P := Try.prog) 23 23 33 i0 _ 4 40 _ Try.underlying23 hi hz0 hz1 hz2 rfl (by decide) _ _ _ RR_2_7.out _ _ _ _ _ ((SA_17.out.bl E_2_7.out)) (rowsV_one eC eC_one _) (by have := Hm42.out; have := Gm5.out; unfold maxLen; omega) (by have := Hm42.out; have := Gm5.out; omega)
        refine ⟨vv, w'', exec_append (by rfl) (by rfl) (by rfl) hrun, Kept.of_from hb, ?_⟩
        have E_2_6 : RowKit.Hid (Ext W0.drew w'') := Lib.hid ho.below
        have hkk : Kept (From_ B0) v1_4 w'' := (Kept.of_ext hw').trans (Kept.of_from hb)
        obtain ⟨AA2_6, cc2_6, rfl, hrr⟩ := ho.rds
        have RR_2_6 := Lib.hid ho
        clear hrr
        obtain ⟨z2_6, gz2_6⟩ : ∃ x, w'' = x := ⟨_, rfl⟩
        rw [gz2_6] at RR_2_6 E_2_6 hkk ⊢
        have ldt2_8 := fun w'' (h : Kept (From_ B0) z2_6 w'') => ldt1_5 w'' (hkk.trans h)
        clear ldt1_5
        clear hkk hrun ho hb hg hbk gz2_6 hw'
        try simp only [Act.put, List.setIfInBounds_toArray, List.set_cons_zero, List.set_cons_succ]
        refine wpR_two 11 13 (by kernel_rfl) ?_ ?_
        · apply at_run 11 (some 42)
          · simp only [List.getElem?_toArray, List.getElem?_cons_succ, List.getElem?_cons_zero]; exact rfl
          · rfl
          · rfl
          intro w' hw'
          have RR_3_10 := Lib.hid (Ow.up RR_2_6.out (hw'))
          have E_3_10 := Lib.hid (Ext.trans E_2_6.out (hw'))
          obtain ⟨vv, w'', hrun, ho, hb, hg, hbk⟩ := Ow.app2 (P := Try.prog) 23 23 33 i0 _ 4 40 _ Try.underlying23 hi hz0 hz1 hz2 rfl (by decide) _ _ _ RR_3_10.out _ _ _ _ _ ((SB_17.out.bl E_3_10.out)) (rowsV_one eC eC_one _) (by have := Hm42.out; have := Gm5.out; unfold maxLen; omega) (by have := Hm42.out; have := Gm5.out; omega)
          refine ⟨vv, w'', exec_append (by rfl) (by rfl) (by rfl) hrun, Kept.of_from hb, ?_⟩
          have E_3_9 : RowKit.Hid (Ext W0.drew w'') := Lib.hid ho.below
          have hkk : Kept (From_ B0) z2_6 w'' := (Kept.of_ext hw').trans (Kept.of_from hb)
          obtain ⟨AA3_9, cc3_9, rfl, hrr⟩ := ho.rds
          have RR_3_9 := Lib.hid ho
          clear hrr
          obtain ⟨z3_9, gz3_9⟩ : ∃ x, w'' = x := ⟨_, rfl⟩
          rw [gz3_9] at RR_3_9 E_3_9 hkk ⊢
          have ldt3_11 := fun w'' (h : Kept (From_ B0) z3_9 w'') => ldt2_8 w'' (hkk.trans h)
          clear ldt2_8
          clear hkk hrun ho hb hg hbk gz3_9 hw'
          try simp only [Act.put, List.setIfInBounds_toArray, List.set_cons_zero, List.set_cons_succ]
          apply wpR_next 12 (some 43)
          · simp only [List.getElem?_toArray, List.getElem?_cons_succ, List.getElem?_cons_zero]; exact rfl
          · rfl
          · kernel_rfl
          · kernel_rfl
          · kernel_rfl
          · first | exact fun _ _ _ _ h => Exit.noConfusion h.1 | exact fun _ _ _ _ h => h
          apply Exists.intro
          apply And.intro
          · apply yr_run; rfl; intro w' hw'; go_simp; (try with_reducible rfl)
          simp only [Act.put, List.setIfInBounds_toArray, List.set_cons_zero, List.set_cons_succ]
          refine wpR_one 13 (by kernel_rfl) ?_
          apply at_run 13 (some 6)
          · simp only [List.getElem?_toArray, List.getElem?_cons_succ, List.getElem?_cons_zero]; exact rfl
          · rfl
          · rfl
          intro w' hw'
          have RR_3_13 := Lib.hid (Ow.up RR_3_9.out (hw'))
          have E_3_13 := Lib.hid (Ext.trans E_3_9.out (hw'))
          refine ⟨.pointer (some ⟨w'.heap.size, 0, none⟩), w'.alloc (.cells #[.slice none 0 0, .slice none 0 0] 25), ?_, Kept.of_below (below1 _ _), ?_⟩
          · go_simp
          have NE_R_V_3_12 : RowKit.Hid (some w'.heap.size ≠ _) := Lib.hid (Ow.ne_ RR_3_13.out (Nat.le_refl _))
          have LOv3_12 : RowKit.Hid (W0.drew.heap.size ≤ w'.heap.size) := Lib.hid E_3_13.out.size
          have RR_3_14 := Lib.hid (Ow.up RR_3_13.out (below1 w' (.cells #[.slice none 0 0, .slice none 0 0] 25)))
          have E_3_14 := Lib.hid (Ext.trans E_3_13.out (below1 w' (.cells #[.slice none 0 0, .slice none 0 0] 25)))
          have XV_n3_12 : RowKit.Hid (Whole (w'.alloc (.cells #[.slice none 0 0, .slice none 0 0] 25)) w'.heap.size 25 [.slice none 0 0, .slice none 0 0]) := Lib.hid (Whole.new_ _ _ [.slice none 0 0, .slice none 0 0])
          have hkk : Kept (From_ B0) z3_9 (w'.alloc (.cells #[.slice none 0 0, .slice none 0 0] 25)) := (Kept.of_ext hw').trans (Kept.of_below (below1 _ _))
          obtain ⟨v3_15, gv3_15⟩ : ∃ x, w'.alloc (.cells #[.slice none 0 0, .slice none 0 0] 25) = x := ⟨_, rfl⟩
          rw [gv3_15] at RR_3_14 XV_n3_12 E_3_14 hkk ⊢
          have ldt3_16 := fun w'' (h : Kept (From_ B0) v3_15 w'') => ldt3_11 w'' (hkk.trans h)
          clear ldt3_11
          clear gv3_15 hkk
          obtain ⟨g3_12, gg3_12⟩ : ∃ x, w'.heap.size = x := ⟨_, rfl⟩
          rw [gg3_12] at XV_n3_12 LOv3_12 NE_R_V_3_12 ⊢
          clear gg3_12 hw'
          try simp only [Act.put, List.setIfInBounds_toArray, List.set_cons_zero, List.set_cons_succ]
          refine wpR_one 14 (by kernel_rfl) ?_
          apply at_store 14
          · simp only [List.getElem?_toArray, List.getElem?_cons_succ, List.getElem?_cons_zero]; exact rfl
          · rfl
          · rfl
          intro w' hw'
          have RR_3_18 := Lib.hid (Ow.up RR_3_14.out (hw'))
          have XV_3_18 := Lib.hid (Whole.below XV_n3_12.out (hw'))
          have E_3_18 := Lib.hid (Ext.trans E_3_14.out (hw'))
          refine ⟨w'.setRow g3_12 #[.slice none 0 0, .slice AA3_9 (j + m5) cc3_9], store_row_run 25 (.tmp 6) (.tmp 43) rfl g3_12 rfl [.slice none 0 0, .slice AA3_9 (j + m5) cc3_9] rfl 25 [.slice none 0 0, .slice none 0 0] XV_3_18.out (by kernel_rfl) rfl (by simp [Value.oneCell']), kept_row (show B0 ≤ g3_12 by have h1 := LOv3_12.out; have h2 := HB0.out; omega) _, ?_⟩
          have OWN_3_17 := Lib.hid (own_row_far RR_3_18.out.own NE_R_V_3_12.out #[.slice none 0 0, .slice AA3_9 (j + m5) cc3_9])
          have E_r3_17 := Lib.hid (below_row E_3_18.out LOv3_12.out #[.slice none 0 0, .slice AA3_9 (j + m5) cc3_9])
          have XV_r3_17 : RowKit.Hid (Whole (w'.setRow g3_12 #[.slice none 0 0, .slice AA3_9 (j + m5) cc3_9]) g3_12 25 [.slice none 0 0, .slice AA3_9 (j + m5) cc3_9]) := Lib.hid (Whole.row XV_3_18.out [.slice none 0 0, .slice AA3_9 (j + m5) cc3_9])
          have hkk : Kept (From_ B0) v3_15 (w'.setRow g3_12 #[.slice none 0 0, .slice AA3_9 (j + m5) cc3_9]) := (Kept.of_ext hw').trans (kept_row (show B0 ≤ g3_12 by have h1 := LOv3_12.out; have h2 := HB0.out; omega) _)
          obtain ⟨v3_19, gv3_19⟩ : ∃ x, w'.setRow g3_12 #[.slice none 0 0, .slice AA3_9 (j + m5) cc3_9] = x := ⟨_, rfl⟩
          rw [gv3_19] at XV_r3_17 E_r3_17 OWN_3_17 hkk ⊢
          have ldt3_20 := fun w'' (h : Kept (From_ B0) v3_19 w'') => ldt3_16 w'' (hkk.trans h)
          clear ldt3_16
          clear gv3_19 hkk
          clear hw'
          try simp only [Act.put, List.setIfInBounds_toArray, List.set_cons_zero, List.set_cons_succ]
          refine wpR_done (by kernel_rfl) ?_ _
          intro wE hwE
          have ho6 := own_up OWN_3_17.out hwE
          have hx6 := XV_r3_17.out.bl hwE
          rw [List.nil_append, HLe.out] at ho6
          first | rw [Nat.zero_add, Gn6.out] at ho6 | rw [Gn6.out] at ho6
          first | rw [Nat.zero_add, Gn6.out] at hx6 | rw [Gn6.out] at hx6
          refine ⟨rfl, _, _, g3_12, _, _, _, _, _, _, _, _, _, _, _, _, _, rfl, Lib.hid ⟨?_, ?_, hx6, own_lo0 ho6 (by have := HB0.out; have h9 : W0.drew.heap.size = W0.heap.size := rfl; omega)⟩⟩
          · exact Ext.trans ((Below.refl _ _).drew) (Ext.trans E_r3_17.out hwE)
          · exact LOv3_12.out
        · apply at_run 13 (some 6)
          · simp only [List.getElem?_toArray, List.getElem?_cons_succ, List.getElem?_cons_zero]; exact rfl
          · rfl
          · rfl
          intro w' hw'
          have RR_4_22 := Lib.hid (Ow.up RR_2_6.out (hw'))
          have E_4_22 := Lib.hid (Ext.trans E_2_6.out (hw'))
          refine ⟨.pointer (some ⟨w'.heap.size, 0, none⟩), w'.alloc (.cells #[.slice none 0 0, .slice none 0 0] 25), ?_, Kept.of_below (below1 _ _), ?_⟩
          · go_simp
          have NE_R_V_4_21 : RowKit.Hid (some w'.heap.size ≠ _) := Lib.hid (Ow.ne_ RR_4_22.out (Nat.le_refl _))
          have LOv4_21 : RowKit.Hid (W0.drew.heap.size ≤ w'.heap.size) := Lib.hid E_4_22.out.size
          have RR_4_23 := Lib.hid (Ow.up RR_4_22.out (below1 w' (.cells #[.slice none 0 0, .slice none 0 0] 25)))
          have E_4_23 := Lib.hid (Ext.trans E_4_22.out (below1 w' (.cells #[.slice none 0 0, .slice none 0 0] 25)))
          have XV_n4_21 : RowKit.Hid (Whole (w'.alloc (.cells #[.slice none 0 0, .slice none 0 0] 25)) w'.heap.size 25 [.slice none 0 0, .slice none 0 0]) := Lib.hid (Whole.new_ _ _ [.slice none 0 0, .slice none 0 0])
          have hkk : Kept (From_ B0) z2_6 (w'.alloc (.cells #[.slice none 0 0, .slice none 0 0] 25)) := (Kept.of_ext hw').trans (Kept.of_below (below1 _ _))
          obtain ⟨v4_24, gv4_24⟩ : ∃ x, w'.alloc (.cells #[.slice none 0 0, .slice none 0 0] 25) = x := ⟨_, rfl⟩
          rw [gv4_24] at RR_4_23 XV_n4_21 E_4_23 hkk ⊢
          have ldt4_25 := fun w'' (h : Kept (From_ B0) v4_24 w'') => ldt2_8 w'' (hkk.trans h)
          clear ldt2_8
          clear gv4_24 hkk
          obtain ⟨g4_21, gg4_21⟩ : ∃ x, w'.heap.size = x := ⟨_, rfl⟩
          rw [gg4_21] at XV_n4_21 LOv4_21 NE_R_V_4_21 ⊢
          clear gg4_21 hw'
          try simp only [Act.put, List.setIfInBounds_toArray, List.set_cons_zero, List.set_cons_succ]
          refine wpR_one 11 (by kernel_rfl) ?_
          apply at_run 11 (some 42)
          · simp only [List.getElem?_toArray, List.getElem?_cons_succ, List.getElem?_cons_zero]; exact rfl
          · rfl
          · rfl
          intro w' hw'
          have RR_4_27 := Lib.hid (Ow.up RR_4_23.out (hw'))
          have XV_4_27 := Lib.hid (Whole.below XV_n4_21.out (hw'))
          have E_4_27 := Lib.hid (Ext.trans E_4_23.out (hw'))
          obtain ⟨vv, w'', hrun, ho, hb, hg, hbk⟩ := Ow.app2 (P := Try.prog) 23 23 33 i0 _ 4 40 _ Try.underlying23 hi hz0 hz1 hz2 rfl (by decide) _ _ _ RR_4_27.out _ _ _ _ _ ((SB_17.out.bl E_4_27.out)) (rowsV_one eC eC_one _) (by have := Hm42.out; have := Gm5.out; unfold maxLen; omega) (by have := Hm42.out; have := Gm5.out; omega)
          refine ⟨vv, w'', exec_append (by rfl) (by rfl) (by rfl) hrun, Kept.of_from hb, ?_⟩
          have XV_4_26 := Lib.hid (Whole.grown XV_4_27.out hg NE_R_V_4_21.out)
          have NE_R_V_4_26 := Lib.hid (Ow.ne2 NE_R_V_4_21.out XV_4_27.out.lt hbk)
          have E_4_26 : RowKit.Hid (Ext W0.drew w'') := Lib.hid ho.below
          have hkk : Kept (From_ B0) v4_24 w'' := (Kept.of_ext hw').trans (Kept.of_from hb)
          obtain ⟨AA4_26, cc4_26, rfl, hrr⟩ := ho.rds
          have RR_4_26 := Lib.hid ho
          clear hrr
          obtain ⟨z4_26, gz4_26⟩ : ∃ x, w'' = x := ⟨_, rfl⟩
          rw [gz4_26] at RR_4_26 XV_4_26 E_4_26 hkk ⊢
          have ldt4_28 := fun w'' (h : Kept (From_ B0) z4_26 w'') => ldt4_25 w'' (hkk.trans h)
          clear ldt4_25
          clear hkk hrun ho hb hg hbk gz4_26 hw'
          try simp only [Act.put, List.setIfInBounds_toArray, List.set_cons_zero, List.set_cons_succ]
          apply wpR_next 12 (some 43)
          · simp only [List.getElem?_toArray, List.getElem?_cons_succ, List.getElem?_cons_zero]; exact rfl
          · rfl
          · kernel_rfl
          · kernel_rfl
          · kernel_rfl
          · first | exact fun _ _ _ _ h => Exit.noConfusion h.1 | exact fun _ _ _ _ h => h
          apply Exists.intro
          apply And.intro
          · apply yr_run; rfl; intro w' hw'; go_simp; (try with_reducible rfl)
          simp only [Act.put, List.setIfInBounds_toArray, List.set_cons_zero, List.set_cons_succ]
          refine wpR_one 14 (by kernel_rfl) ?_
          apply at_store 14
          · simp only [List.getElem?_toArray, List.getElem?_cons_succ, List.getElem?_cons_zero]; exact rfl
          · rfl
          · rfl
          intro w' hw'
          have RR_4_30 := Lib.hid (Ow.up RR_4_26.out (hw'))
          have XV_4_30 := Lib.hid (Whole.below XV_4_26.out (hw'))
          have E_4_30 := Lib.hid (Ext.trans E_4_26.out (hw'))
          refine ⟨w'.setRow g4_21 #[.slice none 0 0, .slice AA4_26 (j + m5) cc4_26], store_row_run 25 (.tmp 6) (.tmp 43) rfl g4_21 rfl [.slice none 0 0, .slice AA4_26 (j + m5) cc4_26] rfl 25 [.slice none 0 0, .slice none 0 0] XV_4_30.out (by kernel_rfl) rfl (by simp [Value.oneCell']), kept_row (show B0 ≤ g4_21 by have h1 := LOv4_21.out; have h2 := HB0.out; omega) _, ?_⟩
          have OWN_4_29 := Lib.hid (own_row_far RR_4_30.out.own NE_R_V_4_26.out #[.slice none 0 0, .slice AA4_26 (j + m5) cc4_26])
          have E_r4_29 := Lib.hid (below_row E_4_30.out LOv4_21.out #[.slice none 0 0, .slice AA4_26 (j + m5) cc4_26])
          have XV_r4_29 : RowKit.Hid (Whole (w'.setRow g4_21 #[.slice none 0 0, .slice AA4_26 (j + m5) cc4_26]) g4_21 25 [.slice none 0 0, .slice AA4_26 (j + m5) cc4_26]) := Lib.hid (Whole.row XV_4_30.out [.slice none 0 0, .slice AA4_26 (j + m5) cc4_26])
          have hkk : Kept (From_ B0) z4_26 (w'.setRow g4_21 #[.slice none 0 0, .slice AA4_26 (j + m5) cc4_26]) := (Kept.of_ext hw').trans (kept_row (show B0 ≤ g4_21 by have h1 := LOv4_21.out; have h2 := HB0.out; omega) _)
          obtain ⟨v4_31, gv4_31⟩ : ∃ x, w'.setRow g4_21 #[.slice none 0 0, .slice AA4_26 (j + m5) cc4_26] = x := ⟨_, rfl⟩
          rw [gv4_31] at XV_r4_29 E_r4_29 OWN_4_29 hkk ⊢
          have ldt4_32 := fun w'' (h : Kept (From_ B0) v4_31 w'') => ldt4_28 w'' (hkk.trans h)
          clear ldt4_28
          clear gv4_31 hkk
          clear hw'
          try simp only [Act.put, List.setIfInBounds_toArray, List.set_cons_zero, List.set_cons_succ]
          refine wpR_done (by kernel_rfl) ?_ _
          intro wE hwE
          have ho6 := own_up OWN_4_29.out hwE
          have hx6 := XV_r4_29.out.bl hwE
          rw [List.nil_append, HLe.out] at ho6
          first | rw [Nat.zero_add, Gn6.out] at ho6 | rw [Gn6.out] at ho6
          first | rw [Nat.zero_add, Gn6.out] at hx6 | rw [Gn6.out] at hx6
          refine ⟨rfl, _, _, g4_21, _, _, _, _, _, _, _, _, _, _, _, _, _, rfl, Lib.hid ⟨?_, ?_, hx6, own_lo0 ho6 (by have := HB0.out; have h9 : W0.drew.heap.size = W0.heap.size := rfl; omega)⟩⟩
          · exact Ext.trans ((Below.refl _ _).drew) (Ext.trans E_r4_29.out hwE)
          · exact LOv4_21.out
      · apply at_run 13 (some 6)
        · simp only [List.getElem?_toArray, List.getElem?_cons_succ, List.getElem?_cons_zero]; exact rfl
        · rfl
        · rfl
        intro w' hw'
        have RR_5_34 := Lib.hid (Ow.up RR_n1_1.out (hw'))
        have E_5_34 := Lib.hid (Ext.trans E_1_3.out (hw'))
        refine ⟨.pointer (some ⟨w'.heap.size, 0, none⟩), w'.alloc (.cells #[.slice none 0 0, .slice none 0 0] 25), ?_, Kept.of_below (below1 _ _), ?_⟩
        · go_simp
        have NE_R_V_5_33 : RowKit.Hid (some w'.heap.size ≠ _) := Lib.hid (Ow.ne_ RR_5_34.out (Nat.le_refl _))
        have LOv5_33 : RowKit.Hid (W0.drew.heap.size ≤ w'.heap.size) := Lib.hid E_5_34.out.size
        have RR_5_35 := Lib.hid (Ow.up RR_5_34.out (below1 w' (.cells #[.slice none 0 0, .slice none 0 0] 25)))
        have E_5_35 := Lib.hid (Ext.trans E_5_34.out (below1 w' (.cells #[.slice none 0 0, .slice none 0 0] 25)))
        have XV_n5_33 : RowKit.Hid (Whole (w'.alloc (.cells #[.slice none 0 0, .slice none 0 0] 25)) w'.heap.size 25 [.slice none 0 0, .slice none 0 0]) := Lib.hid (Whole.new_ _ _ [.slice none 0 0, .slice none 0 0])
        have hkk : Kept (From_ B0) v1_4 (w'.alloc (.cells #[.slice none 0 0, .slice none 0 0] 25)) := (Kept.of_ext hw').trans (Kept.of_below (below1 _ _))
        obtain ⟨v5_36, gv5_36⟩ : ∃ x, w'.alloc (.cells #[.slice none 0 0, .slice none 0 0] 25) = x := ⟨_, rfl⟩
        rw [gv5_36] at RR_5_35 XV_n5_33 E_5_35 hkk ⊢
        have ldt5_37 := fun w'' (h : Kept (From_ B0) v5_36 w'') => ldt1_5 w'' (hkk.trans h)
        clear ldt1_5
        clear gv5_36 hkk
        obtain ⟨g5_33, gg5_33⟩ : ∃ x, w'.heap.size = x := ⟨_, rfl⟩
        rw [gg5_33] at XV_n5_33 LOv5_33 NE_R_V_5_33 ⊢
        clear gg5_33 hw'
        try simp only [Act.put, List.setIfInBounds_toArray, List.set_cons_zero, List.set_cons_succ]
        refine wpR_one 5 (by kernel_rfl) ?_
        apply at_run 5 (some 36)
        · simp only [List.getElem?_toArray, List.getElem?_cons_succ, List.getElem?_cons_zero]; exact rfl
        · rfl
        · rfl
        intro w' hw'
        have RR_5_39 := Lib.hid (Ow.up RR_5_35.out (hw'))
        have XV_5_39 := Lib.hid (Whole.below XV_n5_33.out (hw'))
        have E_5_39 := Lib.hid (Ext.trans E_5_35.out (hw'))
        obtain ⟨vv, w'', hrun, ho, hb, hg, hbk⟩ := Ow.app2 (P := Try.prog) 23 23 33 i0 _ 4 40 _ Try.underlying23 hi hz0 hz1 hz2 rfl (by decide) _ _ _ RR_5_39.out _ _ _ _ _ ((SA_17.out.bl E_5_39.out)) (rowsV_one eC eC_one _) (by have := Hm42.out; have := Gm5.out; unfold maxLen; omega) (by have := Hm42.out; have := Gm5.out; omega)
        refine ⟨vv, w'', exec_append (by rfl) (by rfl) (by rfl) hrun, Kept.of_from hb, ?_⟩
        have XV_5_38 := Lib.hid (Whole.grown XV_5_39.out hg NE_R_V_5_33.out)
        have NE_R_V_5_38 := Lib.hid (Ow.ne2 NE_R_V_5_33.out XV_5_39.out.lt hbk)
        have E_5_38 : RowKit.Hid (Ext W0.drew w'') := Lib.hid ho.below
        have hkk : Kept (From_ B0) v5_36 w'' := (Kept.of_ext hw').trans (Kept.of_from hb)
        obtain ⟨AA5_38, cc5_38, rfl, hrr⟩ := ho.rds
        have RR_5_38 := Lib.hid ho
        clear hrr
        obtain ⟨z5_38, gz5_38⟩ : ∃ x, w'' = x := ⟨_, rfl⟩
        rw [gz5_38] at RR_5_38 XV_5_38 E_5_38 hkk ⊢
        have ldt5_40 := fun w'' (h : Kept (From_ B0) z5_38 w'') => ldt5_37 w'' (hkk.trans h)
        clear ldt5_37
        clear hkk hrun ho hb hg hbk gz5_38 hw'
        try simp only [Act.put, List.setIfInBounds_toArray, List.set_cons_zero, List.set_cons_succ]
        refine wpR_one 11 (by kernel_rfl) ?_
        apply at_run 11 (some 42)
        · simp only [List.getElem?_toArray, List.getElem?_cons_succ, List.getElem?_cons_zero]; exact rfl
        · rfl
        · rfl
        intro w' hw'
        have RR_5_42 := Lib.hid (Ow.up RR_5_38.out (hw'))
        have XV_5_42 := Lib.hid (Whole.below XV_5_38.out (hw'))
        have E_5_42 := Lib.hid (Ext.trans E_5_38.out (hw'))
        obtain ⟨vv, w'', hrun, ho, hb, hg, hbk⟩ := Ow.app2 (P := Try.prog) 23 23 33 i0 _ 4 40 _ Try.underlying23 hi hz0 hz1 hz2 rfl (by decide) _ _ _ RR_5_42.out _ _ _ _ _ ((SB_17.out.bl E_5_42.out)) (rowsV_one eC eC_one _) (by have := Hm42.out; have := Gm5.out; unfold maxLen; omega) (by have := Hm42.out; have := Gm5.out; omega)
        refine ⟨vv, w'', exec_append (by rfl) (by rfl) (by rfl) hrun, Kept.of_from hb, ?_⟩
        have XV_5_41 := Lib.hid (Whole.grown XV_5_42.out hg NE_R_V_5_38.out)
        have NE_R_V_5_41 := Lib.hid (Ow.ne2 NE_R_V_5_38.out XV_5_42.out.lt hbk)
        have E_5_41 : RowKit.Hid (Ext W0.drew w'') := Lib.hid ho.below
        have hkk : Kept (From_ B0) z5_38 w'' := (Kept.of_ext hw').trans (Kept.of_from hb)
        obtain ⟨AA5_41, cc5_41, rfl, hrr⟩ := ho.rds
        have RR_5_41 := Lib.hid ho
        clear hrr
        obtain ⟨z5_41, gz5_41⟩ : ∃ x, w'' = x := ⟨_, rfl⟩
        rw [gz5_41] at RR_5_41 XV_5_41 E_5_41 hkk ⊢
        have ldt5_43 := fun w'' (h : Kept (From_ B0) z5_41 w'') => ldt5_40 w'' (hkk.trans h)
        clear ldt5_40
        clear hkk hrun ho hb hg hbk gz5_41 hw'
        try simp only [Act.put, List.setIfInBounds_toArray, List.set_cons_zero, List.set_cons_succ]
        apply wpR_next 12 (some 43)
        · simp only [List.getElem?_toArray, List.getElem?_cons_succ, List.getElem?_cons_zero]; exact rfl
        · rfl
        · kernel_rfl
        · kernel_rfl
        · kernel_rfl
        · first | exact fun _ _ _ _ h => Exit.noConfusion h.1 | exact fun _ _ _ _ h => h
        apply Exists.intro
        apply And.intro
        · apply yr_run; rfl; intro w' hw'; go_simp; (try with_reducible rfl)
        simp only [Act.put, List.setIfInBounds_toArray, List.set_cons_zero, List.set_cons_succ]
        refine wpR_one 14 (by kernel_rfl) ?_
        apply at_store 14
        · simp only [List.getElem?_toArray, List.getElem?_cons_succ, List.getElem?_cons_zero]; exact rfl
        · rfl
        · rfl
        intro w' hw'
        have RR_5_45 := Lib.hid (Ow.up RR_5_41.out (hw'))
        have XV_5_45 := Lib.hid (Whole.below XV_5_41.out (hw'))
        have E_5_45 := Lib.hid (Ext.trans E_5_41.out (hw'))
        refine ⟨w'.setRow g5_33 #[.slice none 0 0, .slice AA5_41 (j + m5) cc5_41], store_row_run 25 (.tmp 6) (.tmp 43) rfl g5_33 rfl [.slice none 0 0, .slice AA5_41 (j + m5) cc5_41] rfl 25 [.slice none 0 0, .slice none 0 0] XV_5_45.out (by kernel_rfl) rfl (by simp [Value.oneCell']), kept_row (show B0 ≤ g5_33 by have h1 := LOv5_33.out; have h2 := HB0.out; omega) _, ?_⟩
        have OWN_5_44 := Lib.hid (own_row_far RR_5_45.out.own NE_R_V_5_41.out #[.slice none 0 0, .slice AA5_41 (j + m5) cc5_41])
        have E_r5_44 := Lib.hid (below_row E_5_45.out LOv5_33.out #[.slice none 0 0, .slice AA5_41 (j + m5) cc5_41])
        have XV_r5_44 : RowKit.Hid (Whole (w'.setRow g5_33 #[.slice none 0 0, .slice AA5_41 (j + m5) cc5_41]) g5_33 25 [.slice none 0 0, .slice AA5_41 (j + m5) cc5_41]) := Lib.hid (Whole.row XV_5_45.out [.slice none 0 0, .slice AA5_41 (j + m5) cc5_41])
        have hkk : Kept (From_ B0) z5_41 (w'.setRow g5_33 #[.slice none 0 0, .slice AA5_41 (j + m5) cc5_41]) := (Kept.of_ext hw').trans (kept_row (show B0 ≤ g5_33 by have h1 := LOv5_33.out; have h2 := HB0.out; omega) _)
        obtain ⟨v5_46, gv5_46⟩ : ∃ x, w'.setRow g5_33 #[.slice none 0 0, .slice AA5_41 (j + m5) cc5_41] = x := ⟨_, rfl⟩
        rw [gv5_46] at XV_r5_44 E_r5_44 OWN_5_44 hkk ⊢
        have ldt5_47 := fun w'' (h : Kept (From_ B0) v5_46 w'') => ldt5_43 w'' (hkk.trans h)
        clear ldt5_43
        clear gv5_46 hkk
        clear hw'
        try simp only [Act.put, List.setIfInBounds_toArray, List.set_cons_zero, List.set_cons_succ]
        refine wpR_done (by kernel_rfl) ?_ _
        intro wE hwE
        have ho6 := own_up OWN_5_44.out hwE
        have hx6 := XV_r5_44.out.bl hwE
        rw [List.nil_append, HLe.out] at ho6
        first | rw [Nat.zero_add, Gn6.out] at ho6 | rw [Gn6.out] at ho6
        first | rw [Nat.zero_add, Gn6.out] at hx6 | rw [Gn6.out] at hx6
        refine ⟨rfl, _, _, g5_33, _, _, _, _, _, _, _, _, _, _, _, _, _, rfl, Lib.hid ⟨?_, ?_, hx6, own_lo0 ho6 (by have := HB0.out; have h9 : W0.drew.heap.size = W0.heap.size := rfl; omega)⟩⟩
        · exact Ext.trans ((Below.refl _ _).drew) (Ext.trans E_r5_44.out hwE)
        · exact LOv5_33.out
    · apply at_run 13 (some 6)
      · simp only [List.getElem?_toArray, List.getElem?_cons_succ, List.getElem?_cons_zero]; exact rfl
      · rfl
      · rfl
      intro w' hw'
      have E_6_49 := Lib.hid (Ext.trans EX0.out (hw'))
      refine ⟨.pointer (some ⟨w'.heap.size, 0, none⟩), w'.alloc (.cells #[.slice none 0 0, .slice none 0 0] 25), ?_, Kept.of_below (below1 _ _), ?_⟩
      · go_simp
      have LOv6_48 : RowKit.Hid (W0.drew.heap.size ≤ w'.heap.size) := Lib.hid E_6_49.out.size
      have E_6_50 := Lib.hid (Ext.trans E_6_49.out (below1 w' (.cells #[.slice none 0 0, .slice none 0 0] 25)))
      have XV_n6_48 : RowKit.Hid (Whole (w'.alloc (.cells #[.slice none 0 0, .slice none 0 0] 25)) w'.heap.size 25 [.slice none 0 0, .slice none 0 0]) := Lib.hid (Whole.new_ _ _ [.slice none 0 0, .slice none 0 0])
      have hkk : Kept (From_ B0) W0.drew (w'.alloc (.cells #[.slice none 0 0, .slice none 0 0] 25)) := (Kept.of_ext hw').trans (Kept.of_below (below1 _ _))
      obtain ⟨v6_51, gv6_51⟩ : ∃ x, w'.alloc (.cells #[.slice none 0 0, .slice none 0 0] 25) = x := ⟨_, rfl⟩
      rw [gv6_51] at XV_n6_48 E_6_50 hkk ⊢
      have ldt6_52 := fun w'' (h : Kept (From_ B0) v6_51 w'') => ldt0 w'' (hkk.trans h)
      clear ldt0
      clear gv6_51 hkk
      obtain ⟨g6_48, gg6_48⟩ : ∃ x, w'.heap.size = x := ⟨_, rfl⟩
      rw [gg6_48] at XV_n6_48 LOv6_48  ⊢
      clear gg6_48 hw'
      try simp only [Act.put, List.setIfInBounds_toArray, List.set_cons_zero, List.set_cons_succ]
      refine wpR_one 0 (by kernel_rfl) ?_
      apply at_run 0 (some 31)
      · simp only [List.getElem?_toArray, List.getElem?_cons_succ, List.getElem?_cons_zero]; exact rfl
      · rfl
      · rfl
      intro w' hw'
      have XV_6_54 := Lib.hid (Whole.below XV_n6_48.out (hw'))
      have E_6_54 := Lib.hid (Ext.trans E_6_50.out (hw'))
      refine ⟨.slice (some ⟨w'.heap.size, 0, none⟩) 0 0, w'.alloc (.cells #[] 33), ?_, Kept.of_below (below1 _ _), ?_⟩
      · go_simp
      have RR_n6_53 : RowKit.Hid (Ow W0.drew B0 33 4 (.slice (some ⟨w'.heap.size, 0, none⟩) 0 0) 0 [] (w'.alloc (.cells #[] 33))) := Lib.hid (Ow.new_ (e := 33) (size := 4) (cs := #[]) E_6_54.out (Nat.le_of_eq HB0.out) (by have h1 := E_6_54.out.size; have h2 := HB0.out; omega) (n := 0) (Nat.zero_le _) rfl)
      have NE_R_V_6_53 : RowKit.Hid (some g6_48 ≠ (Value.slice (some ⟨w'.heap.size, 0, none⟩) 0 0).ownBlock) := Lib.hid (fun e => by have h1 := Option.some.inj e; have h2 := XV_6_54.out.lt; have h3 : g6_48 = w'.heap.size := h1; omega)
      have XV_6_55 := Lib.hid (Whole.below XV_6_54.out (below1 w' (.cells #[] 33)))
      have E_6_55 := Lib.hid (Ext.trans E_6_54.out (below1 w' (.cells #[] 33)))
      have hkk : Kept (From_ B0) v6_51 (w'.alloc (.cells #[] 33)) := (Kept.of_ext hw').trans (Kept.of_below (below1 _ _))
      obtain ⟨v6_56, gv6_56⟩ : ∃ x, w'.alloc (.cells #[] 33) = x := ⟨_, rfl⟩
      rw [gv6_56] at RR_n6_53 XV_6_55 E_6_55 hkk ⊢
      have ldt6_57 := fun w'' (h : Kept (From_ B0) v6_56 w'') => ldt6_52 w'' (hkk.trans h)
      clear ldt6_52
      clear gv6_56 hkk
      obtain ⟨g6_53, gg6_53⟩ : ∃ x, w'.heap.size = x := ⟨_, rfl⟩
      rw [gg6_53] at RR_n6_53 NE_R_V_6_53 ⊢
      clear gg6_53 hw'
      try simp only [Act.put, List.setIfInBounds_toArray, List.set_cons_zero, List.set_cons_succ]
      refine wpR_one 5 (by kernel_rfl) ?_
      apply at_run 5 (some 36)
      · simp only [List.getElem?_toArray, List.getElem?_cons_succ, List.getElem?_cons_zero]; exact rfl
      · rfl
      · rfl
      intro w' hw'
      have RR_6_59 := Lib.hid (Ow.up RR_n6_53.out (hw'))
      have XV_6_59 := Lib.hid (Whole.below XV_6_55.out (hw'))
      have E_6_59 := Lib.hid (Ext.trans E_6_55.out (hw'))
      obtain ⟨vv, w'', hrun, ho, hb, hg, hbk⟩ := Ow.app2 (P := Try.prog) 23 23 33 i0 _ 4 40 _ Try.underlying23 hi hz0 hz1 hz2 rfl (by decide) _ _ _ RR_6_59.out _ _ _ _ _ ((SA_17.out.bl E_6_59.out)) (rowsV_one eC eC_one _) (by have := Hm42.out; have := Gm5.out; unfold maxLen; omega) (by have := Hm42.out; have := Gm5.out; omega)
      refine ⟨vv, w'', exec_append (by rfl) (by rfl) (by rfl) hrun, Kept.of_from hb, ?_⟩
      have XV_6_58 := Lib.hid (Whole.grown XV_6_59.out hg NE_R_V_6_53.out)
      have NE_R_V_6_58 := Lib.hid (Ow.ne2 NE_R_V_6_53.out XV_6_59.out.lt hbk)
      have E_6_58 : RowKit.Hid (Ext W0.drew w'') := Lib.hid ho.below
      have hkk : Kept (From_ B0) v6_56 w'' := (Kept.of_ext hw').trans (Kept.of_from hb)
      obtain ⟨AA6_58, cc6_58, rfl, hrr⟩ := ho.rds
      have RR_6_58 := Lib.hid ho
      clear hrr
      obtain ⟨z6_58, gz6_58⟩ : ∃ x, w'' = x := ⟨_, rfl⟩
      rw [gz6_58] at RR_6_58 XV_6_58 E_6_58 hkk ⊢
      have ldt6_60 := fun w'' (h : Kept (From_ B0) z6_58 w'') => ldt6_57 w'' (hkk.trans h)
      clear ldt6_57
      clear hkk hrun ho hb hg hbk gz6_58 hw'
      try simp only [Act.put, List.setIfInBounds_toArray, List.set_cons_zero, List.set_cons_succ]
      refine wpR_one 11 (by kernel_rfl) ?_
      apply at_run 11 (some 42)
      · simp only [List.getElem?_toArray, List.getElem?_cons_succ, List.getElem?_cons_zero]; exact rfl
      · rfl
      · rfl
      intro w' hw'
      have RR_6_62 := Lib.hid (Ow.up RR_6_58.out (hw'))
      have XV_6_62 := Lib.hid (Whole.below XV_6_58.out (hw'))
      have E_6_62 := Lib.hid (Ext.trans E_6_58.out (hw'))
      obtain ⟨vv, w'', hrun, ho, hb, hg, hbk⟩ := Ow.app2 (P := Try.prog) 23 23 33 i0 _ 4 40 _ Try.underlying23 hi hz0 hz1 hz2 rfl (by decide) _ _ _ RR_6_62.out _ _ _ _ _ ((SB_17.out.bl E_6_62.out)) (rowsV_one eC eC_one _) (by have := Hm42.out; have := Gm5.out; unfold maxLen; omega) (by have := Hm42.out; have := Gm5.out; omega)
      refine ⟨vv, w'', exec_append (by rfl) (by rfl) (by rfl) hrun, Kept.of_from hb, ?_⟩
      have XV_6_61 := Lib.hid (Whole.grown XV_6_62.out hg NE_R_V_6_58.out)
      have NE_R_V_6_61 := Lib.hid (Ow.ne2 NE_R_V_6_58.out XV_6_62.out.lt hbk)
      have E_6_61 : RowKit.Hid (Ext W0.drew w'') := Lib.hid ho.below
      have hkk : Kept (From_ B0) z6_58 w'' := (Kept.of_ext hw').trans (Kept.of_from hb)
      obtain ⟨AA6_61, cc6_61, rfl, hrr⟩ := ho.rds
      have RR_6_61 := Lib.hid ho
      clear hrr
      obtain ⟨z6_61, gz6_61⟩ : ∃ x, w'' = x := ⟨_, rfl⟩
      rw [gz6_61] at RR_6_61 XV_6_61 E_6_61 hkk ⊢
      have ldt6_63 := fun w'' (h : Kept (From_ B0) z6_61 w'') => ldt6_60 w'' (hkk.trans h)
      clear ldt6_60
      clear hkk hrun ho hb hg hbk gz6_61 hw'
      try simp only [Act.put, List.setIfInBounds_toArray, List.set_cons_zero, List.set_cons_succ]
      apply wpR_next 12 (some 43)
      · simp only [List.getElem?_toArray, List.getElem?_cons_succ, List.getElem?_cons_zero]; exact rfl
      · rfl
      · kernel_rfl
      · kernel_rfl
      · kernel_rfl
      · first | exact fun _ _ _ _ h => Exit.noConfusion h.1 | exact fun _ _ _ _ h => h
      apply Exists.intro
      apply And.intro
      · apply yr_run; rfl; intro w' hw'; go_simp; (try with_reducible rfl)
      simp only [Act.put, List.setIfInBounds_toArray, List.set_cons_zero, List.set_cons_succ]
      refine wpR_one 14 (by kernel_rfl) ?_
      apply at_store 14
      · simp only [List.getElem?_toArray, List.getElem?_cons_succ, List.getElem?_cons_zero]; exact rfl
      · rfl
      · rfl
      intro w' hw'
      have RR_6_65 := Lib.hid (Ow.up RR_6_61.out (hw'))
      have XV_6_65 := Lib.hid (Whole.below XV_6_61.out (hw'))
      have E_6_65 := Lib.hid (Ext.trans E_6_61.out (hw'))
      refine ⟨w'.setRow g6_48 #[.slice none 0 0, .slice AA6_61 (j + m5) cc6_61], store_row_run 25 (.tmp 6) (.tmp 43) rfl g6_48 rfl [.slice none 0 0, .slice AA6_61 (j + m5) cc6_61] rfl 25 [.slice none 0 0, .slice none 0 0] XV_6_65.out (by kernel_rfl) rfl (by simp [Value.oneCell']), kept_row (show B0 ≤ g6_48 by have h1 := LOv6_48.out; have h2 := HB0.out; omega) _, ?_⟩
      have OWN_6_64 := Lib.hid (own_row_far RR_6_65.out.own NE_R_V_6_61.out #[.slice none 0 0, .slice AA6_61 (j + m5) cc6_61])
      have E_r6_64 := Lib.hid (below_row E_6_65.out LOv6_48.out #[.slice none 0 0, .slice AA6_61 (j + m5) cc6_61])
      have XV_r6_64 : RowKit.Hid (Whole (w'.setRow g6_48 #[.slice none 0 0, .slice AA6_61 (j + m5) cc6_61]) g6_48 25 [.slice none 0 0, .slice AA6_61 (j + m5) cc6_61]) := Lib.hid (Whole.row XV_6_65.out [.slice none 0 0, .slice AA6_61 (j + m5) cc6_61])
      have hkk : Kept (From_ B0) z6_61 (w'.setRow g6_48 #[.slice none 0 0, .slice AA6_61 (j + m5) cc6_61]) := (Kept.of_ext hw').trans (kept_row (show B0 ≤ g6_48 by have h1 := LOv6_48.out; have h2 := HB0.out; omega) _)
      obtain ⟨v6_66, gv6_66⟩ : ∃ x, w'.setRow g6_48 #[.slice none 0 0, .slice AA6_61 (j + m5) cc6_61] = x := ⟨_, rfl⟩
      rw [gv6_66] at XV_r6_64 E_r6_64 OWN_6_64 hkk ⊢
      have ldt6_67 := fun w'' (h : Kept (From_ B0) v6_66 w'') => ldt6_63 w'' (hkk.trans h)
      clear ldt6_63
      clear gv6_66 hkk
      clear hw'
      try simp only [Act.put, List.setIfInBounds_toArray, List.set_cons_zero, List.set_cons_succ]
      refine wpR_done (by kernel_rfl) ?_ _
      intro wE hwE
      have ho6 := own_up OWN_6_64.out hwE
      have hx6 := XV_r6_64.out.bl hwE
      rw [List.nil_append, HLe.out] at ho6
      first | rw [Nat.zero_add, Gn6.out] at ho6 | rw [Gn6.out] at ho6
      first | rw [Nat.zero_add, Gn6.out] at hx6 | rw [Gn6.out] at hx6
      refine ⟨rfl, _, _, g6_48, _, _, _, _, _, _, _, _, _, _, _, _, _, rfl, Lib.hid ⟨?_, ?_, hx6, own_lo0 ho6 (by have := HB0.out; have h9 : W0.drew.heap.size = W0.heap.size := rfl; omega)⟩⟩
      · exact Ext.trans ((Below.refl _ _).drew) (Ext.trans E_r6_64.out hwE)
      · exact LOv6_48.out
  intro a' w' h9
  obtain ⟨A6, c6, g6, u31, u32, u33, u34, u35, u36, u37, u38, u39, u40, u41, u42, u43, rfl, hφ⟩ := h9
  simp only [Act.put, List.setIfInBounds_toArray, List.set_cons_zero, List.set_cons_succ]
  obtain ⟨hE, hg6, hL6, hO6⟩ := hφ.out
  have HD1 := Lib.hid (HDd.out.bl hE)
  have HX1 := Lib.hid (HXd.out.bl hE)
  have HL1 := Lib.hid hL6
  have HO1 := Lib.hid hO6
  have HE1 := Lib.hid hE
  have HG6 := Lib.hid hg6
  obtain ⟨wa, gwa⟩ : ∃ z, w' = z := ⟨_, rfl⟩
  rw [gwa] at HD1 HX1 HL1 HO1 HE1 ⊢
  clear gwa hφ hE hg6 hL6 hO6 D0_14 Da_14 SA_14 SB_14 Bel_14
  have cb := HX1.out.cell (i := 1) rfl
  have l0 := HD1.out.e.elem eC_len Hej.out 0 _ rfl
  have l1 := HD1.out.e.elem eC_len Hej.out 1 _ rfl
  simp only [Addr.add_lit, Nat.add_zero] at l0 l1
  have hjm : j < ma := Hm42.out.2.1
  go_upto_region 7 with fail
  clear cb l0 l1
  have cb := (HX1.out.al (.cells #[.int .i64 e1, .int .i64 e2, .int .i64 0] 35)).cell (i := 1) rfl
  have l0 := (HD1.out.al (.cells #[.int .i64 e1, .int .i64 e2, .int .i64 0] 35)).e.elem eC_len Hej.out 0 _ rfl
  have l1 := (HD1.out.al (.cells #[.int .i64 e1, .int .i64 e2, .int .i64 0] 35)).e.elem eC_len Hej.out 1 _ rfl
  simp only [Addr.add_lit, Nat.add_zero] at l0 l1
  go_upto_region 8 with fail
  clear cb l0 l1 hjm
  have hx : Whole ((wa.alloc (.cells #[.int .i64 e1, .int .i64 e2, .int .i64 0] 35)).alloc (.cells #[.int .i64 e1, .int .i64 e2, .int .i64 1] 35)) wa.heap.size 35 [.int .i64 e1, .int .i64 e2, .int .i64 0] := (Whole.new_ wa 35 [.int .i64 e1, .int .i64 e2, .int .i64 0]).alloc _
  have hy : Whole ((wa.alloc (.cells #[.int .i64 e1, .int .i64 e2, .int .i64 0] 35)).alloc (.cells #[.int .i64 e1, .int .i64 e2, .int .i64 1] 35)) (wa.heap.size + 1) 35 [.int .i64 e1, .int .i64 e2, .int .i64 1] := Whole.new2 (by simp)
  have he : Ext wa ((wa.alloc (.cells #[.int .i64 e1, .int .i64 e2, .int .i64 0] 35)).alloc (.cells #[.int .i64 e1, .int .i64 e2, .int .i64 1] 35)) := bel_al (below1 wa _) _
  have HXx := Lib.hid hx
  have HXy := Lib.hid hy
  have HB : RowKit.Hid (Below W0.heap.size W0 _) := Lib.hid (Ext.trans HE1.out he)
  have HL := Lib.hid (HL1.out.bl he)
  have HC : RowKit.Hid (ClS ((wa.alloc (.cells #[.int .i64 e1, .int .i64 e2, .int .i64 0] 35)).alloc (.cells #[.int .i64 e1, .int .i64 e2, .int .i64 1] 35)) W0.heap.size none 0 0 [] A6 n6 c6 (lessE j Ea)) := Lib.hid ⟨World.ownsRow_nil _ _ _ _, own_up HO1.out he, fun x hx => (by cases hx)⟩
  have Hlx : RowKit.Hid (W0.heap.size ≤ wa.heap.size) := Lib.hid HE1.out.size
  obtain ⟨W8, gW8⟩ : ∃ z, (wa.alloc (.cells #[.int .i64 e1, .int .i64 e2, .int .i64 0] 35)).alloc (.cells #[.int .i64 e1, .int .i64 e2, .int .i64 1] 35) = z := ⟨_, rfl⟩
  rw [gW8] at HXx HXy HB HL HC ⊢
  obtain ⟨by_, gby⟩ : ∃ z, wa.heap.size + 1 = z := ⟨_, rfl⟩
  obtain ⟨bx, gbx⟩ : ∃ z, wa.heap.size = z := ⟨_, rfl⟩
  have Hly : RowKit.Hid (W0.heap.size ≤ by_) := Lib.hid (by have := Hlx.out; omega)
  rw [gby] at HXy ⊢
  rw [gbx] at HXx Hlx ⊢
  clear gW8 gby gbx hx hy he HD1 HX1 HL1 HO1 HE1
  go_wp2
  go_loopw [9] (fun si wr => ∃ (i : Nat) (A2 : Option Addr) (c2 : Nat) (Us : List VC), i ≤ na ∧ si = .int .i64 i ∧ RowKit.Hid (Below W0.heap.size W0 wr) ∧ RowKit.Hid (Whole wr bx 35 [.int .i64 e1, .int .i64 e2, .int .i64 0]) ∧ RowKit.Hid (Whole wr by_ 35 [.int .i64 e1, .int .i64 e2, .int .i64 1]) ∧ RowKit.Hid (Whole wr g6 25 [.slice A2 i c2, .slice A6 n6 c6]) ∧ RowKit.Hid (ClS wr W0.heap.size A2 i c2 Us A6 n6 c6 (lessE j Ea)) ∧ RowKit.Hid (Us.map vS = (Va.take i).map (fun v => (v.1, lesR (e1, e2, 0) (e1, e2, 1) v.2.1.2.2.2, v.2.2.1, v.2.2.2)))) (fun si _ => na - (intOf si).toNat)
  case atStart => exact ⟨0, none, 0, [], by omega, rfl, HB, HXx, HXy, HL, HC, Lib.hid rfl⟩
  case round =>
    clear HB HXx HXy HL HC
    obtain ⟨i, A2, c2, Us, hi_, rfl, HB, HXx, HXy, HL, HC, HM⟩ := hrel
    obtain ⟨wo, gwo⟩ : ∃ z, wr = z := ⟨_, rfl⟩
    rw [gwo] at HB HXx HXy HL HC ⊢
    clear gwo
    have cb := (HXd.out.bl HB.out).cell (i := 0) rfl
    by_cases hin : i < na
    · obtain ⟨v, hx⟩ : ∃ v, Va[i]? = some v := ⟨_, List.getElem?_eq_getElem (by have := HLn.out.1; omega)⟩
      have hMn : ∀ u : (Int × Int) × List D × ByteArray × Int, u = (v.1, lesR (e1, e2, 0) (e1, e2, 1) v.2.1.2.2.2, v.2.2.1, v.2.2.2) → Us.map vS ++ [u] = (Va.take (i + 1)).map (fun v => (v.1, lesR (e1, e2, 0) (e1, e2, 1) v.2.1.2.2.2, v.2.2.1, v.2.2.2)) := fun u hu => by
        rw [List.take_add_one, hx, HM.out, hu]
        simp
      have hvm := List.mem_of_getElem? hx
      have hrn := Hr1.out v hvm
      obtain ⟨bb, off, gAa, -, -⟩ := HDd.out.v.place vC_len (by decide) (by omega)
      subst gAa
      obtain ⟨⟨i1, i2⟩, ⟨rA, rn, rc, rL⟩, lb, at_⟩ := v
      replace hrn : rn ≤ 900000 := hrn
      have HR : RowKit.Hid (RdS W0 W0.heap.size 3 rA rn rc (dartsV rL)) := Lib.hid (HDd.out.r _ hvm).2
      have hel := (HDd.out.bl HB.out).v.elem vC_len hx
      have l0 := hel 0 _ rfl
      have l1 := hel 1 _ rfl
      have l2 := hel 2 _ rfl
      have l3 := hel 3 _ rfl
      have l4 := hel 4 _ rfl
      simp only [Addr.add_lit, Nat.add_zero] at l0 l1 l2 l3 l4
      have HMn : RowKit.Hid (∀ (A9 : Option Addr) (n9 c9 : Nat) (L9 : List D), L9 = lesR (e1, e2, 0) (e1, e2, 1) rL → (Us ++ [((i1, i2), (A9, n9, c9, L9), lb, at_)]).map vS = (Va.take (i + 1)).map (fun v => (v.1, lesR (e1, e2, 0) (e1, e2, 1) v.2.1.2.2.2, v.2.2.1, v.2.2.2))) := Lib.hid (fun A9 n9 c9 L9 h => by
        rw [List.map_append]
        exact hMn _ (by rw [h]; rfl))
      clear hx hMn hvm hel
      go_upto_region 12 with fail
      clear cb l0 l1 l2 l3 l4
      have HB3 := Lib.hid (bel_al HB.out (.cells #[.int .i64 i1, .int .i64 i2, .slice rA rn rc, .string lb, .int .i64 at_] 38))
      have HX3 := Lib.hid (HXx.out.al (.cells #[.int .i64 i1, .int .i64 i2, .slice rA rn rc, .string lb, .int .i64 at_] 38))
      have HZ3 := Lib.hid (HXy.out.al (.cells #[.int .i64 i1, .int .i64 i2, .slice rA rn rc, .string lb, .int .i64 at_] 38))
      have HL3 := Lib.hid (HL.out.al (.cells #[.int .i64 i1, .int .i64 i2, .slice rA rn rc, .string lb, .int .i64 at_] 38))
      have HC3 := Lib.hid (HC.out.al (.cells #[.int .i64 i1, .int .i64 i2, .slice rA rn rc, .string lb, .int .i64 at_] 38))
      have HY3 := Lib.hid (Whole.new2 (w := wo) (t := 38) (cs := [.int .i64 i1, .int .i64 i2, .slice rA rn rc, .string lb, .int .i64 at_]) rfl)
      have HLy : RowKit.Hid (W0.heap.size ≤ wo.heap.size) := Lib.hid HB.out.size
      have Hnv : RowKit.Hid (some wo.heap.size ≠ (Value.slice A2 i c2).ownBlock) := Lib.hid (fun e => by have := (HC.out.v.lt _ e.symm).2; omega)
      obtain ⟨W3, gW3⟩ : ∃ z, wo.alloc (.cells #[.int .i64 i1, .int .i64 i2, .slice rA rn rc, .string lb, .int .i64 at_] 38) = z := ⟨_, rfl⟩
      obtain ⟨b5, gb5⟩ : ∃ z, wo.heap.size = z := ⟨_, rfl⟩
      rw [gW3] at HB3 HX3 HZ3 HL3 HC3 HY3 ⊢
      rw [gb5] at HY3 HLy Hnv ⊢
      clear gW3 gb5 HB HXx HXy HL HC
      have HR3 := Lib.hid (HR.out.up HB3.out HB3.out.size)
      have HW03 : RowKit.Hid (W0.heap.size ≤ W3.heap.size) := Lib.hid HB3.out.size
      have HDr : RowKit.Hid (Ext W3 W3.drew) := Lib.hid (below_drewN W3.heap.size W3 1)
      obtain ⟨L1, gL1⟩ : ∃ z, turnD (filD rL (e1, e2, 0)) = z := ⟨_, rfl⟩
      obtain ⟨L2, gL2⟩ : ∃ z, turnD (filD L1 (e1, e2, 1)) = z := ⟨_, rfl⟩
      have HL2 : RowKit.Hid (L2 = lesR (e1, e2, 0) (e1, e2, 1) rL) := Lib.hid (by rw [← gL2, ← gL1]; rfl)
      have hrl : rL.length = rn := HR.out.dlen
      have hL1 : L1.length ≤ 900000 := by
        rw [← gL1, (turn_perm _).length_eq]
        exact Nat.le_trans (List.length_filter_le _ _) (by omega)
      have hn1 : rn ≤ 999000 := by omega
      have hn2 : L1.length ≤ 999000 := by omega
      have HRm : RowKit.Hid (∀ W, RdS W W.heap.size 3 rA rn rc (dartsV rL) → Calls Try.prog 12 #[.slice rA rn rc, .agg #[.int .i64 e1, .int .i64 e2, .int .i64 0]] W (GivesO W L1)) := Lib.hid (fun W h => gL1 ▸ rfremoveo_any rA rn rc rL (e1, e2, 0) W h hn1)
      have HRn : RowKit.Hid (∀ (A9 : Option Addr) (c9 : Nat) W, RdS W W.heap.size 3 A9 L1.length c9 (dartsV L1) → Calls Try.prog 12 #[.slice A9 L1.length c9, .agg #[.int .i64 e1, .int .i64 e2, .int .i64 1]] W (GivesO W L2)) := Lib.hid (fun A9 c9 W h => gL2 ▸ rfremoveo_any A9 L1.length c9 L1 (e1, e2, 1) W h hn2)
      clear gL1 gL2 hrl hL1 hn1 hn2
      have ld0 : ∀ w', Kept Nil_ W3.drew w' → w'.cell? ⟨b5, 2, none⟩ = some (.slice rA rn rc) := fun w' h => h.nil_cell (HY3.out.dr.cell (i := 2) rfl)
      have ld1 : ∀ w', Kept Nil_ W3.drew w' → w'.cell? ⟨bx, 0, none⟩ = some (.int .i64 e1) := fun w' h => h.nil_cell (HX3.out.dr.cell (i := 0) rfl)
      have ld2 : ∀ w', Kept Nil_ W3.drew w' → w'.cell? ⟨bx, 1, none⟩ = some (.int .i64 e2) := fun w' h => h.nil_cell (HX3.out.dr.cell (i := 1) rfl)
      have ld3 : ∀ w', Kept Nil_ W3.drew w' → w'.cell? ⟨bx, 2, none⟩ = some (.int .i64 0) := fun w' h => h.nil_cell (HX3.out.dr.cell (i := 2) rfl)
      have ld4 : ∀ w', Kept Nil_ W3.drew w' → w'.cell? ⟨by_, 0, none⟩ = some (.int .i64 e1) := fun w' h => h.nil_cell (HZ3.out.dr.cell (i := 0) rfl)
      have ld5 : ∀ w', Kept Nil_ W3.drew w' → w'.cell? ⟨by_, 1, none⟩ = some (.int .i64 e2) := fun w' h => h.nil_cell (HZ3.out.dr.cell (i := 1) rfl)
      have ld6 : ∀ w', Kept Nil_ W3.drew w' → w'.cell? ⟨by_, 2, none⟩ = some (.int .i64 1) := fun w' h => h.nil_cell (HZ3.out.dr.cell (i := 2) rfl)
      refine wp_region_tail (Nil_) [7] (by kernel_rfl) ?_
      apply wpT_next 0 (some 70) (by kernel_rfl)
      · simp only [List.getElem?_toArray, List.getElem?_cons_succ, List.getElem?_cons_zero]; exact rfl
      · rfl
      · kernel_rfl
      · kernel_rfl
      · kernel_rfl
      · exact fun _ _ _ _ h => h
      apply Exists.intro
      apply And.intro
      · apply yr_run; rfl; intro w' hw'; go_simp; (try with_reducible rfl)
      simp only [Act.put, List.setIfInBounds_toArray, List.set_cons_zero, List.set_cons_succ]
      apply wpT_next 1 (some 71) (by kernel_rfl)
      · simp only [List.getElem?_toArray, List.getElem?_cons_succ, List.getElem?_cons_zero]; exact rfl
      · rfl
      · kernel_rfl
      · kernel_rfl
      · kernel_rfl
      · exact fun _ _ _ _ h => h
      apply Exists.intro
      apply And.intro
      · apply yr_run; rfl; intro w' hw'; go_simp; (try with_reducible rfl)
      simp only [Act.put, List.setIfInBounds_toArray, List.set_cons_zero, List.set_cons_succ]
      apply wpT_next 2 (some 72) (by kernel_rfl)
      · simp only [List.getElem?_toArray, List.getElem?_cons_succ, List.getElem?_cons_zero]; exact rfl
      · rfl
      · kernel_rfl
      · kernel_rfl
      · kernel_rfl
      · exact fun _ _ _ _ h => h
      apply Exists.intro
      apply And.intro
      · apply yr_run; rfl; intro w' hw'; go_simp; (try with_reducible rfl)
      simp only [Act.put, List.setIfInBounds_toArray, List.set_cons_zero, List.set_cons_succ]
      apply wpT_next 4 (some 74) (by kernel_rfl)
      · simp only [List.getElem?_toArray, List.getElem?_cons_succ, List.getElem?_cons_zero]; exact rfl
      · rfl
      · kernel_rfl
      · kernel_rfl
      · kernel_rfl
      · exact fun _ _ _ _ h => h
      apply Exists.intro
      apply And.intro
      · apply yr_run; rfl; intro w' hw'; go_simp; (try with_reducible rfl)
      simp only [Act.put, List.setIfInBounds_toArray, List.set_cons_zero, List.set_cons_succ]
      apply wpT_call 3 (some 73)
      · simp only [List.getElem?_toArray, List.getElem?_cons_succ, List.getElem?_cons_zero]; exact rfl
      · rfl
      · kernel_rfl
      · rfl
      · intro w'; go_simp; first | done | exact ⟨rfl, rfl⟩ | with_reducible rfl
      intro w' hw'
      have HT3 := Lib.hid (Ext.trans HDr.out hw')
      refine (HRm.out w' (HR3.out.bl HT3.out)).mono ?_
      rintro e w9 ⟨A9, c9, rfl, ho9, hb9⟩
      refine ⟨_, rfl, Kept.of_below hb9, ?_⟩
      have HT9 := Lib.hid (Ext.trans HT3.out hb9)
      have HO9 := Lib.hid ho9
      clear hw' ho9 hb9
      simp only [Act.put, List.setIfInBounds_toArray, List.set_cons_zero, List.set_cons_succ]
      apply wpT_call 5 (some 75)
      · simp only [List.getElem?_toArray, List.getElem?_cons_succ, List.getElem?_cons_zero]; exact rfl
      · rfl
      · kernel_rfl
      · rfl
      · intro w'; go_simp; first | done | exact ⟨rfl, rfl⟩ | with_reducible rfl
      intro w' hw'
      have HT5 := Lib.hid (Ext.trans HT9.out hw')
      refine (HRn.out A9 c9 w' (own_rds (own_up HO9.out hw'))).mono ?_
      rintro e w10 ⟨A10, c10, rfl, ho, hb⟩
      refine ⟨_, rfl, Kept.of_below hb, ?_⟩
      have HT10 := Lib.hid (Ext.trans HT5.out hb)
      have HO10 : RowKit.Hid (w10.ownsRow W0.heap.size 35 3 (.slice A10 L2.length c10) L2.length (dartsV L2)) := Lib.hid (own_lo0 ho (Nat.le_trans HW03.out HT5.out.size))
      clear hw' ho hb HT9 HO9
      simp only [Act.put, List.setIfInBounds_toArray, List.set_cons_zero, List.set_cons_succ]
      apply wpT_next 6 (some 76) (by kernel_rfl)
      · simp only [List.getElem?_toArray, List.getElem?_cons_succ, List.getElem?_cons_zero]; exact rfl
      · rfl
      · kernel_rfl
      · kernel_rfl
      · kernel_rfl
      · exact fun _ _ _ _ h => h
      apply Exists.intro
      apply And.intro
      · apply yr_run; rfl; intro w' hw'; go_simp; (try with_reducible rfl)
      simp only [Act.put, List.setIfInBounds_toArray, List.set_cons_zero, List.set_cons_succ]
      apply wpT_last 7
      · simp only [List.getElem?_toArray, List.getElem?_cons_succ, List.getElem?_cons_zero]; exact rfl
      · rfl
      · kernel_rfl
      · rfl
      · decide
      intro w' hw'
      have hT := Ext.trans HT10.out hw'
      have hO := own_up HO10.out hw'
      have hyw := HY3.out.bl hT
      have q2 := hyw.cell (i := 2) rfl
      have f2 := hyw.free 2
      refine ⟨w'.setCell ⟨b5, 2, none⟩ (.slice A10 L2.length c10), by (go_simp; first | done | exact rfl | exact ⟨rfl, rfl⟩), ?_⟩
      have HYs := Lib.hid (hyw.set_ 2 (.slice A10 L2.length c10))
      have HXs := Lib.hid ((HX3.out.bl hT).set_far' (i := 2) ((HX3.out.bl hT).ne_ hyw (by decide)) (.slice A10 L2.length c10))
      have HZs := Lib.hid ((HZ3.out.bl hT).set_far' (i := 2) ((HZ3.out.bl hT).ne_ hyw (by decide)) (.slice A10 L2.length c10))
      have HLs := Lib.hid ((HL3.out.bl hT).set_far' (i := 2) ((HL3.out.bl hT).ne_ hyw (by decide)) (.slice A10 L2.length c10))
      have HCs := Lib.hid ((HC3.out.bl hT).far2 (i := 2) hyw Hnv.out (.slice A10 L2.length c10))
      have HOs := Lib.hid (own_cell_far (i := 2) hO (own_ne hO hyw (by decide)) (.slice A10 L2.length c10))
      have HBs := Lib.hid ((HB3.out.trans (hT.mono HB3.out.size)).setCell (p := ⟨b5, 2, none⟩) (by show W0.heap.size ≤ b5; exact HLy.out) (.slice A10 L2.length c10))
      obtain ⟨W5, gW5⟩ : ∃ z, w'.setCell ⟨b5, 2, none⟩ (.slice A10 L2.length c10) = z := ⟨_, rfl⟩
      rw [gW5] at HYs HXs HZs HLs HCs HOs HBs ⊢
      clear hw' hT hO hyw q2 f2 gW5 HT10 HO10
      try simp only [Act.put, List.setIfInBounds_toArray, List.set_cons_zero, List.set_cons_succ]
      refine wpT_done (by kernel_rfl) ?_ _
      intro W6 hw6
      have HY5 := Lib.hid (HYs.out.bl hw6)
      have HX5 := Lib.hid (HXs.out.bl hw6)
      have HZ5 := Lib.hid (HZs.out.bl hw6)
      have HL5 := Lib.hid (HLs.out.bl hw6)
      have HC5 := Lib.hid (HCs.out.bl hw6)
      have HO5 := Lib.hid (own_up HOs.out hw6)
      have HB5 := Lib.hid (bel_bl HBs.out hw6)
      clear hw6 HYs HXs HZs HLs HCs HOs HBs HB3 HX3 HZ3 HL3 HC3 HY3 HR3 HRm HRn ld0 ld1 ld2 ld3 ld4 ld5 ld6
      replace HY5 : RowKit.Hid (Whole W6 b5 38 (vC ((i1, i2), (A10, L2.length, c10, L2), lb, at_))) := HY5
      have c3 := HL5.out.cell (i := 0) rfl
      go_upto_region 13 with fail
      refine wp_region_lit ?_
      refine wl_read (v := ?_) (some 77) rfl (by rfl) ?_ ?_
      rotate_left
      · go_simp; (try with_reducible rfl)
      simp only [Act.put, List.setIfInBounds_toArray, List.set_cons_zero, List.set_cons_succ]
      refine wl_read (v := ?_) (some 78) rfl (by rfl) ?_ ?_
      rotate_left
      · go_simp; (try with_reducible rfl)
      simp only [Act.put, List.setIfInBounds_toArray, List.set_cons_zero, List.set_cons_succ]
      refine wl_load (some 79) rfl (by rfl) 38 (.tmp 10) rfl (b5) rfl 38 (vC ((i1, i2), (A10, L2.length, c10, L2), lb, at_)) _ HY5.out Try.underlying38 rfl (by kernel_rfl) ?_
      simp only [Act.put, List.setIfInBounds_toArray, List.set_cons_zero, List.set_cons_succ]
      clear c3
      refine wl_buildSlice (some 80) rfl (by rfl) 22 38 1 #[(0, .tmp 79)] (by rfl) Try.underlying22 (vC ((i1, i2), (A10, L2.length, c10, L2), lb, at_)).toArray (by kernel_rfl) ?_
      simp only [Act.put, List.setIfInBounds_toArray, List.set_cons_zero, List.set_cons_succ]
      obtain ⟨A11, c11, W7, hrun, hC6, hb6, hg6⟩ := (HC5.out.al (.cells (vC ((i1, i2), (A10, L2.length, c10, L2), lb, at_)).toArray 38)).push (P := Try.prog) ((i1, i2), (A10, L2.length, c10, L2), lb, at_) (own_up HO5.out (below1 _ _)) 22 22 iV _ Try.underlying22 hiv hzv0 hzv1 hzv2 rfl (by have := Hn24.out; omega) (by have := HB5.out.size; simp; omega) W6.heap.size (RdS.of_whole (Whole.new2 rfl) rfl)
      refine wl_run (some 81) rfl (by rfl) (exec_append (by rfl) (by rfl) (by rfl) hrun) ?_
      simp only [Act.put, List.setIfInBounds_toArray, List.set_cons_zero, List.set_cons_succ]
      have n0 := own_ne HC5.out.v HX5.out (by decide)
      have n1 := own_ne HC5.out.v HZ5.out (by decide)
      have n3 := own_ne HC5.out.v HL5.out (by decide)
      have HX6 := Lib.hid ((HX5.out.al (.cells (vC ((i1, i2), (A10, L2.length, c10, L2), lb, at_)).toArray 38)).grown hg6 n0)
      have HZ6 := Lib.hid ((HZ5.out.al (.cells (vC ((i1, i2), (A10, L2.length, c10, L2), lb, at_)).toArray 38)).grown hg6 n1)
      have HL6 := Lib.hid ((HL5.out.al (.cells (vC ((i1, i2), (A10, L2.length, c10, L2), lb, at_)).toArray 38)).grown hg6 n3)
      have HB6 : RowKit.Hid (Below W0.heap.size W0 W7) := Lib.hid ((bel_al HB5.out (.cells (vC ((i1, i2), (A10, L2.length, c10, L2), lb, at_)).toArray 38)).trans hb6)
      have HC6 := Lib.hid hC6
      clear hrun hC6 hb6 hg6 n0 n1 n3 HY5 HX5 HZ5 HL5 HB5 HC5 HO5
      have c3 := HL6.out.cell (i := 0) rfl
      have f3 := HL6.out.free 0
      have HX7 := Lib.hid (HX6.out.set_far' (i := 0) (HX6.out.ne_ HL6.out (by decide)) (.slice A11 (i + 1) c11))
      have HZ7 := Lib.hid (HZ6.out.set_far' (i := 0) (HZ6.out.ne_ HL6.out (by decide)) (.slice A11 (i + 1) c11))
      have HL7 := Lib.hid (HL6.out.set_ 0 (.slice A11 (i + 1) c11))
      have HB7 := Lib.hid (HB6.out.setCell (p := ⟨g6, 0, none⟩) HG6.out (.slice A11 (i + 1) c11))
      have HC7 := Lib.hid (HC6.out.far (i := 0) HL6.out (by decide) (by decide) (by decide) (.slice A11 (i + 1) c11))
      have HM7 := Lib.hid (HMn.out A10 L2.length c10 L2 HL2.out)
      clear HM HMn
      have hn30 : na ≤ 30 := Hn24.out
      go_wp2
      go_roundw
      case rel => exact ⟨i + 1, A11, c11, _, by omega, by go_num, HB7, HX7, HZ7, HL7, HC7, HM7⟩
      case measure => simp [intOf] <;> omega
    · obtain rfl : na = i := by omega
      have hUs : Us.map vS = (lessV ((e1, e2), el, et) Va).map vS := less_vS (e := ((e1, e2), el, et)) (L := []) (by
        have h9 := HM.out
        rwa [List.take_of_length_le (by have := HLn.out.1; omega)] at h9)
      obtain ⟨t, t2, ht, htt, hG1, hG2, hG3, hG4⟩ := less_calls (A := Aa) (n := na) (c := ca) (B := (some ⟨eb, eo, none⟩)) (m := ma) (kk := ka) (A2 := A2) (n2 := na) (c2 := c2) (B2 := A6) (m2 := n6) (k2 := c6) HFq.out HGd.out Hej.out hUs
      have HG1 := Lib.hid hG1
      have HG2 := Lib.hid hG2
      have HG3 := Lib.hid hG3
      have HG4 := Lib.hid hG4
      have HDz := Lib.hid (HDd.out.bl HB.out)
      have HXz := Lib.hid (HXd.out.bl HB.out)
      have HDm := Lib.hid HC.out.wr.dg
      clear hUs hG1 hG2 hG3 hG4 HM HC
      have lw961 : (wo).cell? ⟨b0, 0, none⟩ = some (.slice Aa na ca) := HXz.out.cell (i := 0) rfl
      have lw962 : (wo).cell? ⟨b0, 1, none⟩ = some (.slice (some ⟨eb, eo, none⟩) ma ka) := HXz.out.cell (i := 1) rfl
      go_wp2_with fail
      clear lw961 lw962
      refine (HG1.out _ HDz.out).mono ?_
      rintro e w963 ⟨rfl, hb963⟩
      have Da_964 := Lib.hid (HDz.out.bl hb963)
      have Dm_964 := Lib.hid (HDm.out.bl hb963)
      have D0_964 := Lib.hid (HXz.out.bl hb963)
      have L6_964 := Lib.hid (HL.out.bl hb963)
      have Bel_964 := Lib.hid (bel_bl HB.out hb963)
      clear HDz HDm HXz HL HB
      clear hb963
      have lw965 : (w963).cell? ⟨g6, 0, none⟩ = some (.slice A2 na c2) := L6_964.out.cell (i := 0) rfl
      have lw966 : (w963).cell? ⟨g6, 1, none⟩ = some (.slice A6 n6 c6) := L6_964.out.cell (i := 1) rfl
      go_wp2_with fail
      clear lw965 lw966
      refine (HG2.out _ Dm_964.out).mono ?_
      rintro e w967 ⟨rfl, hb967⟩
      have Da_968 := Lib.hid (Da_964.out.bl hb967)
      have Dm_968 := Lib.hid (Dm_964.out.bl hb967)
      have D0_968 := Lib.hid (D0_964.out.bl hb967)
      have L6_968 := Lib.hid (L6_964.out.bl hb967)
      have Bel_968 := Lib.hid (bel_bl Bel_964.out hb967)
      clear Da_964 Dm_964 D0_964 L6_964 Bel_964
      clear hb967
      have w1 : IntKind.i64.wrap ((t : Int) - (t2 : Int)) = (t : Int) - (t2 : Int) := IntWalk.i64_in _ (by omega)
      have d1 : decide ((t2 : Int) ≤ (t : Int)) = true := decide_eq_true (by omega)
      have d2 : decide (t2 ≤ t) = true := decide_eq_true (by omega)
      have d3 : decide ((t : Int) - (t2 : Int) ≤ 1) = true := decide_eq_true (by omega)
      have lw969 : (w967).cell? ⟨g6, 0, none⟩ = some (.slice A2 na c2) := L6_968.out.cell (i := 0) rfl
      have lw970 : (w967).cell? ⟨g6, 1, none⟩ = some (.slice A6 n6 c6) := L6_968.out.cell (i := 1) rfl
      go_wp2_with fail
      clear lw969 lw970
      refine (HG4.out _ Dm_968.out).mono ?_
      rintro e w971 ⟨rfl, hb971⟩
      have Da_972 := Lib.hid (Da_968.out.bl hb971)
      have Dm_972 := Lib.hid (Dm_968.out.bl hb971)
      have D0_972 := Lib.hid (D0_968.out.bl hb971)
      have L6_972 := Lib.hid (L6_968.out.bl hb971)
      have Bel_972 := Lib.hid (bel_bl Bel_968.out hb971)
      clear Da_968 Dm_968 D0_968 L6_968 Bel_968
      clear hb971
      by_cases ht0 : 0 < t
      case pos =>
        have d4 : decide ((0 : Int) < (t : Int)) = true := decide_eq_true (by omega)
        have d5 : decide (0 < t) = true := decide_eq_true ht0
        go_wp2
        go_ret
        exact ⟨by first | rfl | simp, HBw.out.trans (Bel_972.out.mono HBw.out.size)⟩
      case neg =>
        obtain rfl : t = 0 := by omega
        obtain rfl : t2 = 0 := by omega
        have d4 : decide ((0 : Int) < ((0 : Nat) : Int)) = false := rfl
        clear w1 d1 d2 d3
        have lw973 : (w971).cell? ⟨g6, 0, none⟩ = some (.slice A2 na c2) := L6_972.out.cell (i := 0) rfl
        have lw974 : (w971).cell? ⟨g6, 1, none⟩ = some (.slice A6 n6 c6) := L6_972.out.cell (i := 1) rfl
        go_wp2_with fail
        clear lw973 lw974
        refine (HG3.out _ Dm_972.out).mono ?_
        rintro e w975 ⟨rfl, hb975⟩
        have Da_976 := Lib.hid (Da_972.out.bl hb975)
        have Dm_976 := Lib.hid (Dm_972.out.bl hb975)
        have D0_976 := Lib.hid (D0_972.out.bl hb975)
        have L6_976 := Lib.hid (L6_972.out.bl hb975)
        have Bel_976 := Lib.hid (bel_bl Bel_972.out hb975)
        clear Da_972 Dm_972 D0_972 L6_972 Bel_972
        clear hb975
        go_wp2
        go_ret
        exact ⟨by first | rfl | simp, HBw.out.trans (Bel_976.out.mono HBw.out.size)⟩
end Go.Proofs.Ytahbfdhjgnlmdaa

/- 'EulerLess' answers true for every diagram and every number.
   No condition beyond the row's own. -/
namespace Go.Proofs.Ytahbfdhjgnlmdaa
open Go.ChangeShapes Go.WideShapes Go.ChangeAt Go.RowKit
namespace lawEulerLess

set_option maxRecDepth 100000 in
theorem contract (H : Type) (enc : TypeId × Value → H) (W : World) (base : Nat) (args : Array Value) (ds gs : List (DataW H)) (before : List MemPlace)
    (hval : ∀ (j : Nat) t v, Try.f3.params[j]? = some t → args[j]? = some v → Value.okWide Try.prog W .any base t v)
    (hW : DataW.Whole enc Try.prog Try.f3.params.toList Rows.eulerLessSpec.vars false W args.toList ds gs before) :
    Calls Try.prog 3 args W fun e W' => ∃ v, e = .returned v ∧ Rows.eulerLessSpec.post enc Try.prog Try.f3 false true false false W args v W' := by
  have hW' := hW
  obtain ⟨p, q, hA, hV, rfl, hfz, hnd⟩ := hW
  obtain ⟨rfl, rfl⟩ := trodVars_none hV
  rw [Try.params3] at hA hval
  obtain ⟨v0, v1, d0, d1, p0, p1, rfl, rfl, rfl, h0, h1⟩ := trodAll_two hA
  obtain ⟨d, rfl, hx0⟩ := open_row1_struct (row1_diagram H) Try.underlying25 (hval 0 25 v0 rfl rfl) h0
  obtain ⟨x, rfl, h1b, -⟩ := open_int Try.underlying3 (hval 1 3 v1 rfl rfl) h1
  refine (law_less d.1.1 d.1.2.1 d.1.2.2.1 d.1.2.2.2 d.2.1 d.2.2.1 d.2.2.2.1 d.2.2.2.2 x W hx0.dg hx0.good hx0.max.1 hx0.max.2).mono fun e W' ⟨he, hb⟩ => ⟨_, he, ?_⟩
  exact law_post Try.laidOut (by kernel_rfl) (tb := 4) (by kernel_rfl) Try.underlying4 rfl ⟨rfl, rfl, rfl⟩ hW' hb

set_option maxRecDepth 100000 in
theorem lifted (os : Os) (started : os.Started) (H : Type) (enc : TypeId × Value → H) :
    ReturnsInHanded {} Try.checked os 3 .any (Rows.eulerLessSpec.pre6 enc Try.prog Try.f3 Rows.eulerLessRow.domain false) (Rows.eulerLessSpec.post enc Try.prog Try.f3 false true false false) := by
  refine returnsInHanded_of_change (C := Try.checked) Try.own started (by kernel_rfl) Try.func3
    (ChangeSpec.witness6 (enc := enc) (C := Try.checked) false ⟨#[], #[.agg #[.slice none 0 0, .slice none 0 0], .int .i64 0], []⟩ 8 (by kernel_rfl) (by kernel_rfl) (by kernel_rfl) (by kernel_rfl)) ?_
  intro W base args ds gs before hval hW _ _
  exact contract H enc W base args ds gs before hval hW

theorem proved : Rows.EulerLessSaid :=
  OpenClaim.holds_of_wide 3 Try.f3 rfl rfl rfl rfl rfl rfl rfl ⟨rfl, rfl, rfl, rfl, rfl⟩ rfl rfl rfl rfl rfl (by kernel_rfl) Try.func3 (by kernel_rfl)
    (of_decide_eq_true (by kernel_rfl)) (by unfold Func.isWrapper; first | (rw [if_pos (by decide +kernel)]; kernel_rfl) | (rw [if_neg (by decide +kernel)]; exact ⟨rfl, rfl⟩))
    (fun os started H enc _ => lifted os started H enc)
end lawEulerLess
end Go.Proofs.Ytahbfdhjgnlmdaa
