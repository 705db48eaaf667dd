/- EulerCounts' walk. -/
import Derived.Test.YtpindjknngcccaaGV
namespace Go.Proofs.Ytpindjknngcccaa
open Go.RowKit
set_option linter.unusedSimpArgs false
set_option linter.unusedVariables false

set_option maxRecDepth 100000 in
set_option maxHeartbeats 4000000 in
theorem law_counts (A : Option Addr) (n c : Nat) (Vs : List VC) (B : Option Addr) (m k : Nat) (Es : List EC) (w : World) (h : DgIn w A n c Vs B m k Es) (hg : GoodD Vs Es) (hn : n ≤ maxLen) (hm : m ≤ maxLen) :
    Calls Try.prog 3 #[.agg #[.slice A n c, .slice B m k]] w fun e w' => e = .returned (.bool true) ∧ Below w.heap.size w w' := by
  have HW := Lib.hid (fun W hb => few7_step h hg hn hm W hb)
  obtain ⟨Va, gVa⟩ : ∃ z, (Vs.take 26).map few7V = z := ⟨_, rfl⟩
  obtain ⟨Ea, gEa⟩ : ∃ z, Es.take 42 = z := ⟨_, rfl⟩
  rw [gVa, gEa] at HW
  clear h hg hn hm gVa gEa
  go_enter Try.func3, Try.ntmps3
  go_wp2_with fail
  refine (shown07_any _).mono ?_
  rintro e w1 ⟨rfl, hb1⟩
  have D0_2 := Lib.hid ((show Whole (w.alloc (.cells #[.slice A n c, .slice B m k] 25)) (w.heap.size) (25) ([.slice A n c, .slice B m k]) from Whole.new2 (by first | rfl | simp)).bl hb1)
  have Bel_2 := Lib.hid (bel_bl (bel_al (Below.refl _ w) (.cells #[.slice A n c, .slice B m k] 25)) hb1)
  clear hb1
  have LO_D0_3 : RowKit.Hid (w.heap.size ≤ w.heap.size) := Lib.hid (by omega)
  have lw4 : (w1).cell? ⟨w.heap.size, 0, none⟩ = some (.slice A n c) := D0_2.out.cell (i := 0) rfl
  have lw5 : (w1).cell? ⟨w.heap.size, 1, none⟩ = some (.slice B m k) := D0_2.out.cell (i := 1) rfl
  go_wp2_with fail
  clear lw4 lw5
  have LTN_a_D0 : RowKit.Hid (w.heap.size < w1.heap.size) := Lib.hid (D0_2.out).lt
  refine (HW.out _ Bel_2.out).mono ?_
  rintro e w6 ⟨Aa, na, ca, Ba, ma, ka, rfl, hF, hb6⟩
  have Fa := Lib.hid hF
  clear hF
  have D0_7 := Lib.hid (D0_2.out.bl hb6)
  have Bel_7 := Lib.hid (bel_bl Bel_2.out hb6)
  clear D0_2 Bel_2
  clear hb6
  have lw8 : (w6).cell? ⟨w.heap.size, 0, none⟩ = some (.slice A n c) := D0_7.out.cell (i := 0) rfl
  have lw9 : (w6).cell? ⟨w.heap.size, 1, none⟩ = some (.slice B m k) := D0_7.out.cell (i := 1) rfl
  have fr0 := D0_7.out.free 0
  have fr1 := D0_7.out.free 1
  go_upto_region 3 with fail
  clear fr0 fr1 lw8 lw9
  obtain ⟨v10, gv10⟩ : ∃ x, (w6.setCell ⟨w.heap.size, 0, none⟩ (.slice Aa na ca)).setCell ⟨w.heap.size, 1, none⟩ (.slice Ba ma ka) = x := ⟨_, rfl⟩
  have D0_10 : RowKit.Hid (Whole v10 w.heap.size 25 [.slice Aa na ca, .slice Ba ma ka]) := Lib.hid (gv10 ▸ ((D0_7.out.set_ 0 (.slice Aa na ca)).set_ 1 (.slice Ba ma ka)))
  have Bel_10 : RowKit.Hid (Below w.heap.size w v10) := Lib.hid (gv10 ▸ ((Bel_7.out.setCell (p := ⟨w.heap.size, 0, none⟩) (by show w.heap.size ≤ w.heap.size; exact LO_D0_3.out) _).setCell (p := ⟨w.heap.size, 1, none⟩) (by show w.heap.size ≤ w.heap.size; exact LO_D0_3.out) _))
  have Da_10 : RowKit.Hid (DgIn v10 Aa na ca Va Ba ma ka Ea) := Lib.hid (gv10 ▸ Fa.out.put (g := w.heap.size) (by show w.heap.size ≤ w.heap.size; exact LO_D0_3.out) LTN_a_D0.out _ _)
  rw [gv10]
  clear gv10
  clear D0_7 Bel_7
  have Hr0 : RowKit.Hid (∀ x ∈ Va, x.2.1.2.1 ≤ 1000000) := Lib.hid (fun x hx => by have := Fa.out.r30 x hx; omega)
  have HFm := Lib.hid (rform7_any (A := Aa) (n := na) (c := ca) (B := Ba) (m := ma) (k := ka) Hr0.out Fa.out.good)
  have HMa := Lib.hid (may7_any (A := Aa) (n := na) (c := ca) (B := Ba) (m := ma) (k := ka) Hr0.out Fa.out.good)
  have HMb := Lib.hid (rmay7b_any (A := Aa) (n := na) (c := ca) (B := Ba) (m := ma) (k := ka) Hr0.out Fa.out.good)
  have HLn : RowKit.Hid (Va.length = na ∧ Ea.length = ma) := Lib.hid (dg_lens Da_10.out)
  by_cases hfo : formD Va Ea = 0
  · have hf : Formed Va Ea := (form0 Va Ea).1 hfo
    have hgd := Fa.out.good
    have HCa := Lib.hid (cnt7_any (A := Aa) (n := na) (c := ca) (B := Ba) (m := ma) (k := ka) hf hgd)
    have HCb := Lib.hid (rcnt7_any (A := Aa) (n := na) (c := ca) (B := Ba) (m := ma) (k := ka) hf hgd)
    have HGa := Lib.hid (gen7_any (A := Aa) (n := na) (c := ca) (B := Ba) (m := ma) (k := ka) hf hgd)
    have HGb := Lib.hid (rgen7_any (A := Aa) (n := na) (c := ca) (B := Ba) (m := ma) (k := ka) hf hgd)
    have HPl := Lib.hid (plan7_any (A := Aa) (n := na) (c := ca) (B := Ba) (m := ma) (k := ka) hf hgd)
    obtain ⟨t, e1, e2, e3, e4, e5⟩ := euler_all hf
    have hgt := gen_num hf e1
    have hfs := fac_small hf
    have hcs := cntF_small hf
    have has := alone_le Va
    rw [HLn.out.1] at e1 e3 e5 has
    rw [HLn.out.2] at e1 e2 e3 e5
    have hn24 : na ≤ 24 := by have := hf.v24; have := HLn.out.1; omega
    have hm40 : ma ≤ 40 := by have := hf.e40; have := HLn.out.2; omega
    rw [hgt] at HGa HGb HPl
    obtain ⟨ff, gff⟩ : ∃ z, facN Va Ea + aloneN Va = z := ⟨_, rfl⟩
    obtain ⟨cc, gcc⟩ : ∃ z, cntF (labF Va) = z := ⟨_, rfl⟩
    rw [gff, gcc] at HCa HCb
    rw [gff] at e1 e4 e5
    rw [gcc] at e1 e3 e4 e5 hcs
    have hff : ff ≤ 200 := by omega
    rw [hfo] at HFm
    clear hf hgd hgt hfs has gff gcc
    obtain ⟨my, gmy⟩ : ∃ z, mayF7 Va Ea = z := ⟨_, rfl⟩
    rw [gmy] at HMa HMb
    have hmm : ((my : Int) != my) = false := by simp
    have htt : ((t : Int) == 0) = ((t : Int) == 0) := rfl
    clear gmy e1 e2 e3 e4 e5
    go_upto_region 3 with fail
    have D0_11 := Lib.hid (D0_10.out.dr)
    have Da_11 := Lib.hid (Da_10.out.dr)
    have Bel_11 := Lib.hid (bel_dr Bel_10.out)
    have ld12 : ∀ w', Kept Nil_ v10.drew w' → w'.cell? ⟨w.heap.size, 0, none⟩ = some (.slice Aa na ca) := fun w' h => h.nil_cell (D0_11.out.cell (i := 0) rfl)
    have ld13 : ∀ w', Kept Nil_ v10.drew w' → w'.cell? ⟨w.heap.size, 1, none⟩ = some (.slice Ba ma ka) := fun w' h => h.nil_cell (D0_11.out.cell (i := 1) rfl)
    refine wp_region_reg Nil_ (by kernel_rfl) ?_
    apply wpR_next 0 (some 15)
    · simp only [List.getElem?_toArray, List.getElem?_cons_succ, List.getElem?_cons_zero]; exact rfl
    · rfl
    · kernel_rfl
    · kernel_rfl
    · kernel_rfl
    · exact fun _ _ _ _ h => h
    apply Exists.intro
    apply And.intro
    · apply yr_run; rfl; intro w' hw'; go_simp; (try with_reducible rfl)
    simp only [Act.put, List.setIfInBounds_toArray, List.set_cons_zero, List.set_cons_succ]
    apply wpR_next 2 (some 17)
    · simp only [List.getElem?_toArray, List.getElem?_cons_succ, List.getElem?_cons_zero]; exact rfl
    · rfl
    · kernel_rfl
    · kernel_rfl
    · kernel_rfl
    · exact fun _ _ _ _ h => h
    apply Exists.intro
    apply And.intro
    · apply yr_run; rfl; intro w' hw'; go_simp; (try with_reducible rfl)
    simp only [Act.put, List.setIfInBounds_toArray, List.set_cons_zero, List.set_cons_succ]
    apply wpR_call 1 (some 16)
    · simp only [List.getElem?_toArray, List.getElem?_cons_succ, List.getElem?_cons_zero]; exact rfl
    · rfl
    · kernel_rfl
    · rfl
    · intro w'; go_simp; first | done | exact ⟨rfl, rfl⟩ | with_reducible rfl
    intro w' hw'
    refine (HMa.out _ (Da_11.out.bl hw')).mono ?_
    rintro e w14 ⟨rfl, hb14⟩
    have D0_14 := Lib.hid ((D0_11.out.bl hw').bl hb14)
    have Da_14 := Lib.hid ((Da_11.out.bl hw').bl hb14)
    have Bel_14 := Lib.hid (bel_bl (bel_bl Bel_11.out hw') hb14)
    have ld15 := fun w'' (h : Kept Nil_ w14 w'') => ld12 w'' ((Kept.of_ext hw').trans ((Kept.of_below hb14).trans h))
    have ld16 := fun w'' (h : Kept Nil_ w14 w'') => ld13 w'' ((Kept.of_ext hw').trans ((Kept.of_below hb14).trans h))
    refine ⟨_, rfl, Kept.of_below hb14, ?_⟩
    clear hw' hb14
    simp only [Act.put, List.setIfInBounds_toArray, List.set_cons_zero, List.set_cons_succ]
    apply wpR_call 3 (some 18)
    · simp only [List.getElem?_toArray, List.getElem?_cons_succ, List.getElem?_cons_zero]; exact rfl
    · rfl
    · kernel_rfl
    · rfl
    · intro w'; go_simp; first | done | exact ⟨rfl, rfl⟩ | with_reducible rfl
    intro w' hw'
    refine (HMb.out _ (Da_14.out.bl hw')).mono ?_
    rintro e w17 ⟨rfl, hb17⟩
    have D0_17 := Lib.hid ((D0_14.out.bl hw').bl hb17)
    have Da_17 := Lib.hid ((Da_14.out.bl hw').bl hb17)
    have Bel_17 := Lib.hid (bel_bl (bel_bl Bel_14.out hw') hb17)
    have ld18 := fun w'' (h : Kept Nil_ w17 w'') => ld15 w'' ((Kept.of_ext hw').trans ((Kept.of_below hb17).trans h))
    have ld19 := fun w'' (h : Kept Nil_ w17 w'') => ld16 w'' ((Kept.of_ext hw').trans ((Kept.of_below hb17).trans h))
    refine ⟨_, rfl, Kept.of_below hb17, ?_⟩
    clear hw' hb17
    simp only [Act.put, List.setIfInBounds_toArray, List.set_cons_zero, List.set_cons_succ]
    apply wpR_next 4 (some 19)
    · simp only [List.getElem?_toArray, List.getElem?_cons_succ, List.getElem?_cons_zero]; exact rfl
    · rfl
    · kernel_rfl
    · kernel_rfl
    · kernel_rfl
    · exact fun _ _ _ _ h => h
    apply Exists.intro
    apply And.intro
    · apply yr_run; rfl; intro w' hw'; go_simp; (try with_reducible rfl)
    simp only [Act.put, List.setIfInBounds_toArray, List.set_cons_zero, List.set_cons_succ]
    refine wpR_done (by kernel_rfl) ?_ _
    intro w20 hw'
    have D0_21 := Lib.hid (D0_17.out.bl hw')
    have Da_21 := Lib.hid (Da_17.out.bl hw')
    have Bel_21 := Lib.hid (bel_bl Bel_17.out hw')
    clear D0_17 Da_17 Bel_17
    clear hw'
    have lw22 : (w20).cell? ⟨w.heap.size, 0, none⟩ = some (.slice Aa na ca) := D0_21.out.cell (i := 0) rfl
    have lw23 : (w20).cell? ⟨w.heap.size, 1, none⟩ = some (.slice Ba ma ka) := D0_21.out.cell (i := 1) rfl
    go_wp2_with fail
    clear lw22 lw23
    refine (HFm.out _ Da_21.out).mono ?_
    rintro e w24 ⟨rfl, hb24⟩
    have D0_25 := Lib.hid (D0_21.out.bl hb24)
    have Da_25 := Lib.hid (Da_21.out.bl hb24)
    have Bel_25 := Lib.hid (bel_bl Bel_21.out hb24)
    clear D0_21 Da_21 Bel_21
    clear hb24
    have lw26 : (w24).cell? ⟨w.heap.size, 0, none⟩ = some (.slice Aa na ca) := D0_25.out.cell (i := 0) rfl
    have lw27 : (w24).cell? ⟨w.heap.size, 1, none⟩ = some (.slice Ba ma ka) := D0_25.out.cell (i := 1) rfl
    go_wp2_with fail
    clear lw26 lw27
    refine (HCa.out _ Da_25.out).mono ?_
    rintro e w28 ⟨rfl, hb28⟩
    have D0_29 := Lib.hid (D0_25.out.bl hb28)
    have Da_29 := Lib.hid (Da_25.out.bl hb28)
    have Bel_29 := Lib.hid (bel_bl Bel_25.out hb28)
    clear D0_25 Da_25 Bel_25
    clear hb28
    have lw30 : (w28).cell? ⟨w.heap.size, 0, none⟩ = some (.slice Aa na ca) := D0_29.out.cell (i := 0) rfl
    have lw31 : (w28).cell? ⟨w.heap.size, 1, none⟩ = some (.slice Ba ma ka) := D0_29.out.cell (i := 1) rfl
    go_wp2_with fail
    clear lw30 lw31
    refine (HCb.out _ Da_29.out).mono ?_
    rintro e w32 ⟨rfl, hb32⟩
    have D0_33 := Lib.hid (D0_29.out.bl hb32)
    have Da_33 := Lib.hid (Da_29.out.bl hb32)
    have Bel_33 := Lib.hid (bel_bl Bel_29.out hb32)
    clear D0_29 Da_29 Bel_29
    clear hb32
    go_upto_region 9 with fail
    have D0_34 := Lib.hid (D0_33.out.dr)
    have Da_34 := Lib.hid (Da_33.out.dr)
    have Bel_34 := Lib.hid (bel_dr Bel_33.out)
    have ld35 : ∀ w', Kept Nil_ w32.drew w' → w'.cell? ⟨w.heap.size, 0, none⟩ = some (.slice Aa na ca) := fun w' h => h.nil_cell (D0_34.out.cell (i := 0) rfl)
    have ld36 : ∀ w', Kept Nil_ w32.drew w' → w'.cell? ⟨w.heap.size, 1, none⟩ = some (.slice Ba ma ka) := fun w' h => h.nil_cell (D0_34.out.cell (i := 1) rfl)
    refine wp_region_reg Nil_ (by kernel_rfl) ?_
    apply wpR_next 0 (some 38)
    · simp only [List.getElem?_toArray, List.getElem?_cons_succ, List.getElem?_cons_zero]; exact rfl
    · rfl
    · kernel_rfl
    · kernel_rfl
    · kernel_rfl
    · exact fun _ _ _ _ h => h
    apply Exists.intro
    apply And.intro
    · apply yr_run; rfl; intro w' hw'; go_simp; (try with_reducible rfl)
    simp only [Act.put, List.setIfInBounds_toArray, List.set_cons_zero, List.set_cons_succ]
    apply wpR_next 1 (some 39)
    · simp only [List.getElem?_toArray, List.getElem?_cons_succ, List.getElem?_cons_zero]; exact rfl
    · rfl
    · kernel_rfl
    · kernel_rfl
    · kernel_rfl
    · exact fun _ _ _ _ h => h
    apply Exists.intro
    apply And.intro
    · apply yr_run; rfl; intro w' hw'; go_simp; (try with_reducible rfl)
    simp only [Act.put, List.setIfInBounds_toArray, List.set_cons_zero, List.set_cons_succ]
    apply wpR_next 2 (some 40)
    · simp only [List.getElem?_toArray, List.getElem?_cons_succ, List.getElem?_cons_zero]; exact rfl
    · rfl
    · kernel_rfl
    · kernel_rfl
    · kernel_rfl
    · exact fun _ _ _ _ h => h
    apply Exists.intro
    apply And.intro
    · apply yr_run; rfl; intro w' hw'; go_simp; (try with_reducible rfl)
    simp only [Act.put, List.setIfInBounds_toArray, List.set_cons_zero, List.set_cons_succ]
    apply wpR_next 3 (some 41)
    · simp only [List.getElem?_toArray, List.getElem?_cons_succ, List.getElem?_cons_zero]; exact rfl
    · rfl
    · kernel_rfl
    · kernel_rfl
    · kernel_rfl
    · exact fun _ _ _ _ h => h
    apply Exists.intro
    apply And.intro
    · apply yr_run; rfl; intro w' hw'; go_simp; (try with_reducible rfl)
    simp only [Act.put, List.setIfInBounds_toArray, List.set_cons_zero, List.set_cons_succ]
    apply wpR_next 4 (some 42)
    · simp only [List.getElem?_toArray, List.getElem?_cons_succ, List.getElem?_cons_zero]; exact rfl
    · rfl
    · kernel_rfl
    · kernel_rfl
    · kernel_rfl
    · exact fun _ _ _ _ h => h
    apply Exists.intro
    apply And.intro
    · apply yr_run; rfl; intro w' hw'; go_simp; (try with_reducible rfl)
    simp only [Act.put, List.setIfInBounds_toArray, List.set_cons_zero, List.set_cons_succ]
    apply wpR_next 5 (some 43)
    · simp only [List.getElem?_toArray, List.getElem?_cons_succ, List.getElem?_cons_zero]; exact rfl
    · rfl
    · kernel_rfl
    · kernel_rfl
    · kernel_rfl
    · exact fun _ _ _ _ h => h
    apply Exists.intro
    apply And.intro
    · apply yr_run; rfl; intro w' hw'; go_simp; (try with_reducible rfl)
    simp only [Act.put, List.setIfInBounds_toArray, List.set_cons_zero, List.set_cons_succ]
    apply wpR_next 6 (some 44)
    · simp only [List.getElem?_toArray, List.getElem?_cons_succ, List.getElem?_cons_zero]; exact rfl
    · rfl
    · kernel_rfl
    · kernel_rfl
    · kernel_rfl
    · exact fun _ _ _ _ h => h
    apply Exists.intro
    apply And.intro
    · apply yr_run; rfl; intro w' hw'; go_simp; (try with_reducible rfl)
    simp only [Act.put, List.setIfInBounds_toArray, List.set_cons_zero, List.set_cons_succ]
    apply wpR_next 7 (some 45)
    · simp only [List.getElem?_toArray, List.getElem?_cons_succ, List.getElem?_cons_zero]; exact rfl
    · rfl
    · kernel_rfl
    · kernel_rfl
    · kernel_rfl
    · exact fun _ _ _ _ h => h
    apply Exists.intro
    apply And.intro
    · apply yr_run; rfl; intro w' hw'; go_simp; (try with_reducible rfl)
    simp only [Act.put, List.setIfInBounds_toArray, List.set_cons_zero, List.set_cons_succ]
    apply wpR_next 8 (some 46)
    · simp only [List.getElem?_toArray, List.getElem?_cons_succ, List.getElem?_cons_zero]; exact rfl
    · rfl
    · kernel_rfl
    · kernel_rfl
    · kernel_rfl
    · exact fun _ _ _ _ h => h
    apply Exists.intro
    apply And.intro
    · apply yr_run; rfl; intro w' hw'; go_simp; (try with_reducible rfl)
    simp only [Act.put, List.setIfInBounds_toArray, List.set_cons_zero, List.set_cons_succ]
    apply wpR_next 9 (some 47)
    · simp only [List.getElem?_toArray, List.getElem?_cons_succ, List.getElem?_cons_zero]; exact rfl
    · rfl
    · kernel_rfl
    · kernel_rfl
    · kernel_rfl
    · exact fun _ _ _ _ h => h
    apply Exists.intro
    apply And.intro
    · apply yr_run; rfl; intro w' hw'; go_simp; (try with_reducible rfl)
    simp only [Act.put, List.setIfInBounds_toArray, List.set_cons_zero, List.set_cons_succ]
    apply wpR_next 10 (some 48)
    · simp only [List.getElem?_toArray, List.getElem?_cons_succ, List.getElem?_cons_zero]; exact rfl
    · rfl
    · kernel_rfl
    · kernel_rfl
    · kernel_rfl
    · exact fun _ _ _ _ h => h
    apply Exists.intro
    apply And.intro
    · apply yr_run; rfl; intro w' hw'; go_simp; (try with_reducible rfl)
    simp only [Act.put, List.setIfInBounds_toArray, List.set_cons_zero, List.set_cons_succ]
    apply wpR_next 11 (some 49)
    · simp only [List.getElem?_toArray, List.getElem?_cons_succ, List.getElem?_cons_zero]; exact rfl
    · rfl
    · kernel_rfl
    · kernel_rfl
    · kernel_rfl
    · exact fun _ _ _ _ h => h
    apply Exists.intro
    apply And.intro
    · apply yr_run; rfl; intro w' hw'; go_simp; (try with_reducible rfl)
    simp only [Act.put, List.setIfInBounds_toArray, List.set_cons_zero, List.set_cons_succ]
    apply wpR_next 12 (some 50)
    · simp only [List.getElem?_toArray, List.getElem?_cons_succ, List.getElem?_cons_zero]; exact rfl
    · rfl
    · kernel_rfl
    · kernel_rfl
    · kernel_rfl
    · exact fun _ _ _ _ h => h
    apply Exists.intro
    apply And.intro
    · apply yr_run; rfl; intro w' hw'; go_simp; (try with_reducible rfl)
    simp only [Act.put, List.setIfInBounds_toArray, List.set_cons_zero, List.set_cons_succ]
    apply wpR_next 13 (some 51)
    · simp only [List.getElem?_toArray, List.getElem?_cons_succ, List.getElem?_cons_zero]; exact rfl
    · rfl
    · kernel_rfl
    · kernel_rfl
    · kernel_rfl
    · exact fun _ _ _ _ h => h
    apply Exists.intro
    apply And.intro
    · apply yr_run; rfl; intro w' hw'; go_simp; (try with_reducible rfl)
    simp only [Act.put, List.setIfInBounds_toArray, List.set_cons_zero, List.set_cons_succ]
    apply wpR_next 14 (some 52)
    · simp only [List.getElem?_toArray, List.getElem?_cons_succ, List.getElem?_cons_zero]; exact rfl
    · rfl
    · kernel_rfl
    · kernel_rfl
    · kernel_rfl
    · exact fun _ _ _ _ h => h
    apply Exists.intro
    apply And.intro
    · apply yr_run; rfl; intro w' hw'; go_simp; (try with_reducible rfl)
    simp only [Act.put, List.setIfInBounds_toArray, List.set_cons_zero, List.set_cons_succ]
    apply wpR_next 15 (some 53)
    · simp only [List.getElem?_toArray, List.getElem?_cons_succ, List.getElem?_cons_zero]; exact rfl
    · rfl
    · kernel_rfl
    · kernel_rfl
    · kernel_rfl
    · exact fun _ _ _ _ h => h
    apply Exists.intro
    apply And.intro
    · apply yr_run; rfl; intro w' hw'; go_simp; (try with_reducible rfl)
    simp only [Act.put, List.setIfInBounds_toArray, List.set_cons_zero, List.set_cons_succ]
    apply wpR_next 16 (some 54)
    · simp only [List.getElem?_toArray, List.getElem?_cons_succ, List.getElem?_cons_zero]; exact rfl
    · rfl
    · kernel_rfl
    · kernel_rfl
    · kernel_rfl
    · exact fun _ _ _ _ h => h
    apply Exists.intro
    apply And.intro
    · apply yr_run; rfl; intro w' hw'; go_simp; (try with_reducible rfl)
    simp only [Act.put, List.setIfInBounds_toArray, List.set_cons_zero, List.set_cons_succ]
    apply wpR_next 17 (some 55)
    · simp only [List.getElem?_toArray, List.getElem?_cons_succ, List.getElem?_cons_zero]; exact rfl
    · rfl
    · kernel_rfl
    · kernel_rfl
    · kernel_rfl
    · exact fun _ _ _ _ h => h
    apply Exists.intro
    apply And.intro
    · apply yr_run; rfl; intro w' hw'; go_simp; (try with_reducible rfl)
    simp only [Act.put, List.setIfInBounds_toArray, List.set_cons_zero, List.set_cons_succ]
    apply wpR_next 18 (some 56)
    · simp only [List.getElem?_toArray, List.getElem?_cons_succ, List.getElem?_cons_zero]; exact rfl
    · rfl
    · kernel_rfl
    · kernel_rfl
    · kernel_rfl
    · exact fun _ _ _ _ h => h
    apply Exists.intro
    apply And.intro
    · apply yr_run; rfl; intro w' hw'; go_simp; (try with_reducible rfl)
    simp only [Act.put, List.setIfInBounds_toArray, List.set_cons_zero, List.set_cons_succ]
    apply wpR_next 19 (some 57)
    · simp only [List.getElem?_toArray, List.getElem?_cons_succ, List.getElem?_cons_zero]; exact rfl
    · rfl
    · kernel_rfl
    · kernel_rfl
    · kernel_rfl
    · exact fun _ _ _ _ h => h
    apply Exists.intro
    apply And.intro
    · apply yr_run; rfl; intro w' hw'; go_simp; (try with_reducible rfl)
    simp only [Act.put, List.setIfInBounds_toArray, List.set_cons_zero, List.set_cons_succ]
    apply wpR_next 20 (some 58)
    · simp only [List.getElem?_toArray, List.getElem?_cons_succ, List.getElem?_cons_zero]; exact rfl
    · rfl
    · kernel_rfl
    · kernel_rfl
    · kernel_rfl
    · exact fun _ _ _ _ h => h
    apply Exists.intro
    apply And.intro
    · apply yr_run; rfl; intro w' hw'; go_simp; (try with_reducible rfl)
    simp only [Act.put, List.setIfInBounds_toArray, List.set_cons_zero, List.set_cons_succ]
    apply wpR_next 21 (some 59)
    · simp only [List.getElem?_toArray, List.getElem?_cons_succ, List.getElem?_cons_zero]; exact rfl
    · rfl
    · kernel_rfl
    · kernel_rfl
    · kernel_rfl
    · exact fun _ _ _ _ h => h
    apply Exists.intro
    apply And.intro
    · apply yr_run; rfl; intro w' hw'; go_simp; (try with_reducible rfl)
    simp only [Act.put, List.setIfInBounds_toArray, List.set_cons_zero, List.set_cons_succ]
    apply wpR_next 22 (some 60)
    · simp only [List.getElem?_toArray, List.getElem?_cons_succ, List.getElem?_cons_zero]; exact rfl
    · rfl
    · kernel_rfl
    · kernel_rfl
    · kernel_rfl
    · exact fun _ _ _ _ h => h
    apply Exists.intro
    apply And.intro
    · apply yr_run; rfl; intro w' hw'; go_simp; (try with_reducible rfl)
    simp only [Act.put, List.setIfInBounds_toArray, List.set_cons_zero, List.set_cons_succ]
    apply wpR_next 24 (some 62)
    · simp only [List.getElem?_toArray, List.getElem?_cons_succ, List.getElem?_cons_zero]; exact rfl
    · rfl
    · kernel_rfl
    · kernel_rfl
    · kernel_rfl
    · exact fun _ _ _ _ h => h
    apply Exists.intro
    apply And.intro
    · apply yr_run; rfl; intro w' hw'; go_simp; (try with_reducible rfl)
    simp only [Act.put, List.setIfInBounds_toArray, List.set_cons_zero, List.set_cons_succ]
    apply wpR_call 23 (some 61)
    · simp only [List.getElem?_toArray, List.getElem?_cons_succ, List.getElem?_cons_zero]; exact rfl
    · rfl
    · kernel_rfl
    · rfl
    · intro w'; go_simp; first | done | exact ⟨rfl, rfl⟩ | with_reducible rfl
    intro w' hw'
    refine (HGa.out _ (Da_34.out.bl hw')).mono ?_
    rintro e w37 ⟨rfl, hb37⟩
    have D0_37 := Lib.hid ((D0_34.out.bl hw').bl hb37)
    have Da_37 := Lib.hid ((Da_34.out.bl hw').bl hb37)
    have Bel_37 := Lib.hid (bel_bl (bel_bl Bel_34.out hw') hb37)
    have ld38 := fun w'' (h : Kept Nil_ w37 w'') => ld35 w'' ((Kept.of_ext hw').trans ((Kept.of_below hb37).trans h))
    have ld39 := fun w'' (h : Kept Nil_ w37 w'') => ld36 w'' ((Kept.of_ext hw').trans ((Kept.of_below hb37).trans h))
    refine ⟨_, rfl, Kept.of_below hb37, ?_⟩
    clear hw' hb37
    simp only [Act.put, List.setIfInBounds_toArray, List.set_cons_zero, List.set_cons_succ]
    apply wpR_call 25 (some 63)
    · simp only [List.getElem?_toArray, List.getElem?_cons_succ, List.getElem?_cons_zero]; exact rfl
    · rfl
    · kernel_rfl
    · rfl
    · intro w'; go_simp; first | done | exact ⟨rfl, rfl⟩ | with_reducible rfl
    intro w' hw'
    refine (HGb.out _ (Da_37.out.bl hw')).mono ?_
    rintro e w40 ⟨rfl, hb40⟩
    have D0_40 := Lib.hid ((D0_37.out.bl hw').bl hb40)
    have Da_40 := Lib.hid ((Da_37.out.bl hw').bl hb40)
    have Bel_40 := Lib.hid (bel_bl (bel_bl Bel_37.out hw') hb40)
    have ld41 := fun w'' (h : Kept Nil_ w40 w'') => ld38 w'' ((Kept.of_ext hw').trans ((Kept.of_below hb40).trans h))
    have ld42 := fun w'' (h : Kept Nil_ w40 w'') => ld39 w'' ((Kept.of_ext hw').trans ((Kept.of_below hb40).trans h))
    refine ⟨_, rfl, Kept.of_below hb40, ?_⟩
    clear hw' hb40
    simp only [Act.put, List.setIfInBounds_toArray, List.set_cons_zero, List.set_cons_succ]
    apply wpR_next 26 (some 64)
    · simp only [List.getElem?_toArray, List.getElem?_cons_succ, List.getElem?_cons_zero]; exact rfl
    · rfl
    · kernel_rfl
    · kernel_rfl
    · kernel_rfl
    · exact fun _ _ _ _ h => h
    apply Exists.intro
    apply And.intro
    · apply yr_run; rfl; intro w' hw'; go_simp; (try with_reducible rfl)
    simp only [Act.put, List.setIfInBounds_toArray, List.set_cons_zero, List.set_cons_succ]
    apply wpR_next 27 (some 65)
    · simp only [List.getElem?_toArray, List.getElem?_cons_succ, List.getElem?_cons_zero]; exact rfl
    · rfl
    · kernel_rfl
    · kernel_rfl
    · kernel_rfl
    · exact fun _ _ _ _ h => h
    apply Exists.intro
    apply And.intro
    · apply yr_run; rfl; intro w' hw'; go_simp; (try with_reducible rfl)
    simp only [Act.put, List.setIfInBounds_toArray, List.set_cons_zero, List.set_cons_succ]
    apply wpR_next 28 (some 66)
    · simp only [List.getElem?_toArray, List.getElem?_cons_succ, List.getElem?_cons_zero]; exact rfl
    · rfl
    · kernel_rfl
    · kernel_rfl
    · kernel_rfl
    · exact fun _ _ _ _ h => h
    apply Exists.intro
    apply And.intro
    · apply yr_run; rfl; intro w' hw'; go_simp; (try with_reducible rfl)
    simp only [Act.put, List.setIfInBounds_toArray, List.set_cons_zero, List.set_cons_succ]
    apply wpR_next 29 (some 67)
    · simp only [List.getElem?_toArray, List.getElem?_cons_succ, List.getElem?_cons_zero]; exact rfl
    · rfl
    · kernel_rfl
    · kernel_rfl
    · kernel_rfl
    · exact fun _ _ _ _ h => h
    apply Exists.intro
    apply And.intro
    · apply yr_run; rfl; intro w' hw'; go_simp; (try with_reducible rfl)
    simp only [Act.put, List.setIfInBounds_toArray, List.set_cons_zero, List.set_cons_succ]
    apply wpR_next 31 (some 69)
    · simp only [List.getElem?_toArray, List.getElem?_cons_succ, List.getElem?_cons_zero]; exact rfl
    · rfl
    · kernel_rfl
    · kernel_rfl
    · kernel_rfl
    · exact fun _ _ _ _ h => h
    apply Exists.intro
    apply And.intro
    · apply yr_run; rfl; intro w' hw'; go_simp; (try with_reducible rfl)
    simp only [Act.put, List.setIfInBounds_toArray, List.set_cons_zero, List.set_cons_succ]
    apply wpR_call 30 (some 68)
    · simp only [List.getElem?_toArray, List.getElem?_cons_succ, List.getElem?_cons_zero]; exact rfl
    · rfl
    · kernel_rfl
    · rfl
    · intro w'; go_simp; first | done | exact ⟨rfl, rfl⟩ | with_reducible rfl
    intro w' hw'
    refine (HPl.out _ (Da_40.out.bl hw')).mono ?_
    rintro e w43 ⟨rfl, hb43⟩
    have D0_43 := Lib.hid ((D0_40.out.bl hw').bl hb43)
    have Da_43 := Lib.hid ((Da_40.out.bl hw').bl hb43)
    have Bel_43 := Lib.hid (bel_bl (bel_bl Bel_40.out hw') hb43)
    have ld44 := fun w'' (h : Kept Nil_ w43 w'') => ld41 w'' ((Kept.of_ext hw').trans ((Kept.of_below hb43).trans h))
    have ld45 := fun w'' (h : Kept Nil_ w43 w'') => ld42 w'' ((Kept.of_ext hw').trans ((Kept.of_below hb43).trans h))
    refine ⟨_, rfl, Kept.of_below hb43, ?_⟩
    clear hw' hb43
    simp only [Act.put, List.setIfInBounds_toArray, List.set_cons_zero, List.set_cons_succ]
    apply wpR_call 32 (some 70)
    · simp only [List.getElem?_toArray, List.getElem?_cons_succ, List.getElem?_cons_zero]; exact rfl
    · rfl
    · kernel_rfl
    · rfl
    · intro w'; go_simp; first | done | exact ⟨rfl, rfl⟩ | with_reducible rfl
    intro w' hw'
    refine (HGb.out _ (Da_43.out.bl hw')).mono ?_
    rintro e w46 ⟨rfl, hb46⟩
    have D0_46 := Lib.hid ((D0_43.out.bl hw').bl hb46)
    have Da_46 := Lib.hid ((Da_43.out.bl hw').bl hb46)
    have Bel_46 := Lib.hid (bel_bl (bel_bl Bel_43.out hw') hb46)
    have ld47 := fun w'' (h : Kept Nil_ w46 w'') => ld44 w'' ((Kept.of_ext hw').trans ((Kept.of_below hb46).trans h))
    have ld48 := fun w'' (h : Kept Nil_ w46 w'') => ld45 w'' ((Kept.of_ext hw').trans ((Kept.of_below hb46).trans h))
    refine ⟨_, rfl, Kept.of_below hb46, ?_⟩
    clear hw' hb46
    simp only [Act.put, List.setIfInBounds_toArray, List.set_cons_zero, List.set_cons_succ]
    apply wpR_next 33 (some 71)
    · simp only [List.getElem?_toArray, List.getElem?_cons_succ, List.getElem?_cons_zero]; exact rfl
    · rfl
    · kernel_rfl
    · kernel_rfl
    · kernel_rfl
    · exact fun _ _ _ _ h => h
    apply Exists.intro
    apply And.intro
    · apply yr_run; rfl; intro w' hw'; go_simp; (try with_reducible rfl)
    simp only [Act.put, List.setIfInBounds_toArray, List.set_cons_zero, List.set_cons_succ]
    apply wpR_next 34 (some 72)
    · simp only [List.getElem?_toArray, List.getElem?_cons_succ, List.getElem?_cons_zero]; exact rfl
    · rfl
    · kernel_rfl
    · kernel_rfl
    · kernel_rfl
    · exact fun _ _ _ _ h => h
    apply Exists.intro
    apply And.intro
    · apply yr_run; rfl; intro w' hw'; go_simp; (try with_reducible rfl)
    simp only [Act.put, List.setIfInBounds_toArray, List.set_cons_zero, List.set_cons_succ]
    apply wpR_next 35 (some 73)
    · simp only [List.getElem?_toArray, List.getElem?_cons_succ, List.getElem?_cons_zero]; exact rfl
    · rfl
    · kernel_rfl
    · kernel_rfl
    · kernel_rfl
    · exact fun _ _ _ _ h => h
    apply Exists.intro
    apply And.intro
    · apply yr_run; rfl; intro w' hw'; go_simp; (try with_reducible rfl)
    simp only [Act.put, List.setIfInBounds_toArray, List.set_cons_zero, List.set_cons_succ]
    apply wpR_next 36 (some 2)
    · simp only [List.getElem?_toArray, List.getElem?_cons_succ, List.getElem?_cons_zero]; exact rfl
    · rfl
    · kernel_rfl
    · kernel_rfl
    · kernel_rfl
    · exact fun _ _ _ _ h => h
    apply Exists.intro
    apply And.intro
    · apply yr_run; rfl; intro w' hw'; go_simp; (try with_reducible rfl)
    simp only [Act.put, List.setIfInBounds_toArray, List.set_cons_zero, List.set_cons_succ]
    refine wpR_done (by kernel_rfl) ?_ _
    intro w49 hw'
    have D0_50 := Lib.hid (D0_46.out.bl hw')
    have Da_50 := Lib.hid (Da_46.out.bl hw')
    have Bel_50 := Lib.hid (bel_bl Bel_46.out hw')
    clear D0_46 Da_46 Bel_46
    clear hw'
    go_wp2
    go_ret
    exact ⟨by first | rfl | simp, Bel_50.out⟩
  · obtain ⟨my, gmy⟩ : ∃ z, mayF7 Va Ea = z := ⟨_, rfl⟩
    rw [gmy] at HMa HMb
    obtain ⟨fo, gfo⟩ : ∃ z, formD Va Ea = z := ⟨_, rfl⟩
    rw [gfo] at HFm hfo
    have hmm : ((my : Int) != my) = false := by simp
    have hfn : (fo != 0) = true := by simp [hfo]
    clear gmy gfo
    go_upto_region 3 with fail
    have D0_11 := Lib.hid (D0_10.out.dr)
    have Da_11 := Lib.hid (Da_10.out.dr)
    have Bel_11 := Lib.hid (bel_dr Bel_10.out)
    have ld12 : ∀ w', Kept Nil_ v10.drew w' → w'.cell? ⟨w.heap.size, 0, none⟩ = some (.slice Aa na ca) := fun w' h => h.nil_cell (D0_11.out.cell (i := 0) rfl)
    have ld13 : ∀ w', Kept Nil_ v10.drew w' → w'.cell? ⟨w.heap.size, 1, none⟩ = some (.slice Ba ma ka) := fun w' h => h.nil_cell (D0_11.out.cell (i := 1) rfl)
    refine wp_region_reg Nil_ (by kernel_rfl) ?_
    apply wpR_next 0 (some 15)
    · simp only [List.getElem?_toArray, List.getElem?_cons_succ, List.getElem?_cons_zero]; exact rfl
    · rfl
    · kernel_rfl
    · kernel_rfl
    · kernel_rfl
    · exact fun _ _ _ _ h => h
    apply Exists.intro
    apply And.intro
    · apply yr_run; rfl; intro w' hw'; go_simp; (try with_reducible rfl)
    simp only [Act.put, List.setIfInBounds_toArray, List.set_cons_zero, List.set_cons_succ]
    apply wpR_next 2 (some 17)
    · simp only [List.getElem?_toArray, List.getElem?_cons_succ, List.getElem?_cons_zero]; exact rfl
    · rfl
    · kernel_rfl
    · kernel_rfl
    · kernel_rfl
    · exact fun _ _ _ _ h => h
    apply Exists.intro
    apply And.intro
    · apply yr_run; rfl; intro w' hw'; go_simp; (try with_reducible rfl)
    simp only [Act.put, List.setIfInBounds_toArray, List.set_cons_zero, List.set_cons_succ]
    apply wpR_call 1 (some 16)
    · simp only [List.getElem?_toArray, List.getElem?_cons_succ, List.getElem?_cons_zero]; exact rfl
    · rfl
    · kernel_rfl
    · rfl
    · intro w'; go_simp; first | done | exact ⟨rfl, rfl⟩ | with_reducible rfl
    intro w' hw'
    refine (HMa.out _ (Da_11.out.bl hw')).mono ?_
    rintro e w14 ⟨rfl, hb14⟩
    have D0_14 := Lib.hid ((D0_11.out.bl hw').bl hb14)
    have Da_14 := Lib.hid ((Da_11.out.bl hw').bl hb14)
    have Bel_14 := Lib.hid (bel_bl (bel_bl Bel_11.out hw') hb14)
    have ld15 := fun w'' (h : Kept Nil_ w14 w'') => ld12 w'' ((Kept.of_ext hw').trans ((Kept.of_below hb14).trans h))
    have ld16 := fun w'' (h : Kept Nil_ w14 w'') => ld13 w'' ((Kept.of_ext hw').trans ((Kept.of_below hb14).trans h))
    refine ⟨_, rfl, Kept.of_below hb14, ?_⟩
    clear hw' hb14
    simp only [Act.put, List.setIfInBounds_toArray, List.set_cons_zero, List.set_cons_succ]
    apply wpR_call 3 (some 18)
    · simp only [List.getElem?_toArray, List.getElem?_cons_succ, List.getElem?_cons_zero]; exact rfl
    · rfl
    · kernel_rfl
    · rfl
    · intro w'; go_simp; first | done | exact ⟨rfl, rfl⟩ | with_reducible rfl
    intro w' hw'
    refine (HMb.out _ (Da_14.out.bl hw')).mono ?_
    rintro e w17 ⟨rfl, hb17⟩
    have D0_17 := Lib.hid ((D0_14.out.bl hw').bl hb17)
    have Da_17 := Lib.hid ((Da_14.out.bl hw').bl hb17)
    have Bel_17 := Lib.hid (bel_bl (bel_bl Bel_14.out hw') hb17)
    have ld18 := fun w'' (h : Kept Nil_ w17 w'') => ld15 w'' ((Kept.of_ext hw').trans ((Kept.of_below hb17).trans h))
    have ld19 := fun w'' (h : Kept Nil_ w17 w'') => ld16 w'' ((Kept.of_ext hw').trans ((Kept.of_below hb17).trans h))
    refine ⟨_, rfl, Kept.of_below hb17, ?_⟩
    clear hw' hb17
    simp only [Act.put, List.setIfInBounds_toArray, List.set_cons_zero, List.set_cons_succ]
    apply wpR_next 4 (some 19)
    · simp only [List.getElem?_toArray, List.getElem?_cons_succ, List.getElem?_cons_zero]; exact rfl
    · rfl
    · kernel_rfl
    · kernel_rfl
    · kernel_rfl
    · exact fun _ _ _ _ h => h
    apply Exists.intro
    apply And.intro
    · apply yr_run; rfl; intro w' hw'; go_simp; (try with_reducible rfl)
    simp only [Act.put, List.setIfInBounds_toArray, List.set_cons_zero, List.set_cons_succ]
    refine wpR_done (by kernel_rfl) ?_ _
    intro w20 hw'
    have D0_21 := Lib.hid (D0_17.out.bl hw')
    have Da_21 := Lib.hid (Da_17.out.bl hw')
    have Bel_21 := Lib.hid (bel_bl Bel_17.out hw')
    clear D0_17 Da_17 Bel_17
    clear hw'
    have lw22 : (w20).cell? ⟨w.heap.size, 0, none⟩ = some (.slice Aa na ca) := D0_21.out.cell (i := 0) rfl
    have lw23 : (w20).cell? ⟨w.heap.size, 1, none⟩ = some (.slice Ba ma ka) := D0_21.out.cell (i := 1) rfl
    go_wp2_with fail
    clear lw22 lw23
    refine (HFm.out _ Da_21.out).mono ?_
    rintro e w24 ⟨rfl, hb24⟩
    have D0_25 := Lib.hid (D0_21.out.bl hb24)
    have Da_25 := Lib.hid (Da_21.out.bl hb24)
    have Bel_25 := Lib.hid (bel_bl Bel_21.out hb24)
    clear D0_21 Da_21 Bel_21
    clear hb24
    go_wp2
    go_ret
    exact ⟨by first | rfl | simp, Bel_25.out⟩
end Go.Proofs.Ytpindjknngcccaa
