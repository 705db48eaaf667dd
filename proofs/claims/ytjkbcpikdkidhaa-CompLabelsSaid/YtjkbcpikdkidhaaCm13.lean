/- CompLabels' walk. -/
import Derived.Test.YtjkbcpikdkidhaaCm13b
import Derived.Test.YtjkbcpikdkidhaaInt
namespace Go.Proofs.Ytjkbcpikdkidhaa
open Go.RowKit
set_option linter.unusedSimpArgs false
set_option linter.unusedVariables false

set_option maxRecDepth 100000 in
set_option maxHeartbeats 4000000 in
theorem law_labels (A : Option Addr) (n c : Nat) (Vs : List VC) (B : Option Addr) (m k : Nat) (Es : List EC) (x1 x2 y1 y2 : Int) (w : World) (h : DgIn w A n c Vs B m k Es) (hg : GoodD Vs Es) (hz : SmD n m Vs) :
    Calls Try.prog 9 #[.agg #[.slice A n c, .slice B m k], .agg #[.int .i64 x1, .int .i64 x2], .agg #[.int .i64 y1, .int .i64 y2]] w fun e w' => e = .returned (.bool true) ∧ Below w.heap.size w w' := by
  have HFo := Lib.hid (fun W (h : DgIn W A n c Vs B m k Es) => formed06_any A n c Vs B m k Es W h hg hz)
  obtain ⟨fo, gfo⟩ : ∃ z, (formD Vs Es == 0) = z := ⟨_, rfl⟩
  rw [gfo] at HFo
  have Gfo := Lib.hid gfo
  have HDa := Lib.hid h
  have HGd := Lib.hid hg
  have Hz := Lib.hid hz
  clear h hg hz gfo
  go_enter Try.func9, Try.ntmps9
  go_wp2_with fail
  refine (shown06_any _).mono ?_
  rintro e w1 ⟨rfl, hb1⟩
  have Da_2 := Lib.hid ((((HDa.out.al (.cells #[.slice A n c, .slice B m k] 25)).al (.cells #[.int .i64 x1, .int .i64 x2] 27)).al (.cells #[.int .i64 y1, .int .i64 y2] 27)).bl hb1)
  have D0_2 := Lib.hid ((((show Whole (w.alloc (.cells #[.slice A n c, .slice B m k] 25)) (w.heap.size) (25) ([.slice A n c, .slice B m k]) from Whole.new2 (by first | rfl | simp)).al (.cells #[.int .i64 x1, .int .i64 x2] 27)).al (.cells #[.int .i64 y1, .int .i64 y2] 27)).bl hb1)
  have X_2 := Lib.hid (((show Whole ((w.alloc (.cells #[.slice A n c, .slice B m k] 25)).alloc (.cells #[.int .i64 x1, .int .i64 x2] 27)) ((w.heap.size + 1)) (27) ([.int .i64 x1, .int .i64 x2]) from Whole.new2 (by first | rfl | simp)).al (.cells #[.int .i64 y1, .int .i64 y2] 27)).bl hb1)
  have Y_2 := Lib.hid ((show Whole (((w.alloc (.cells #[.slice A n c, .slice B m k] 25)).alloc (.cells #[.int .i64 x1, .int .i64 x2] 27)).alloc (.cells #[.int .i64 y1, .int .i64 y2] 27)) ((w.heap.size + 1 + 1)) (27) ([.int .i64 y1, .int .i64 y2]) from Whole.new2 (by first | rfl | simp)).bl hb1)
  have Bel_2 := Lib.hid (bel_bl (bel_al (bel_al (bel_al (Below.refl _ w) (.cells #[.slice A n c, .slice B m k] 25)) (.cells #[.int .i64 x1, .int .i64 x2] 27)) (.cells #[.int .i64 y1, .int .i64 y2] 27)) hb1)
  clear HDa
  clear hb1
  have LO_D0_3 : RowKit.Hid (w.heap.size ≤ w.heap.size) := Lib.hid (by omega)
  have LO_X_4 : RowKit.Hid (w.heap.size ≤ (w.heap.size + 1)) := Lib.hid (by omega)
  have NE_D0_X : RowKit.Hid (w.heap.size ≠ (w.heap.size + 1)) := Lib.hid (by omega)
  have LO_Y_5 : RowKit.Hid (w.heap.size ≤ (w.heap.size + 1 + 1)) := Lib.hid (by omega)
  have NE_D0_Y : RowKit.Hid (w.heap.size ≠ (w.heap.size + 1 + 1)) := Lib.hid (by omega)
  have NE_X_Y : RowKit.Hid ((w.heap.size + 1) ≠ (w.heap.size + 1 + 1)) := Lib.hid (by omega)
  have lw6 : (w1).cell? ⟨w.heap.size, 0, none⟩ = some (.slice A n c) := D0_2.out.cell (i := 0) rfl
  have lw7 : (w1).cell? ⟨w.heap.size, 1, none⟩ = some (.slice B m k) := D0_2.out.cell (i := 1) rfl
  go_wp2_with fail
  clear lw6 lw7
  refine (HFo.out _ Da_2.out).mono ?_
  rintro e w8 ⟨rfl, hb8⟩
  have Da_9 := Lib.hid (Da_2.out.bl hb8)
  have D0_9 := Lib.hid (D0_2.out.bl hb8)
  have X_9 := Lib.hid (X_2.out.bl hb8)
  have Y_9 := Lib.hid (Y_2.out.bl hb8)
  have Bel_9 := Lib.hid (bel_bl Bel_2.out hb8)
  clear Da_2 D0_2 X_2 Y_2 Bel_2
  clear hb8
  by_cases hfo : fo = false
  · subst hfo
    go_wp2
    go_ret
    exact ⟨rfl, Bel_9.out⟩
  obtain rfl : fo = true := by simpa using hfo
  have HFm : RowKit.Hid (Formed Vs Es) := Lib.hid ((form0 Vs Es).1 (eq_of_beq Gfo.out))
  have Hsm := Lib.hid (HFm.out.small Da_9.out)
  have Hlv : RowKit.Hid (Vs.length = n) := Lib.hid (Da_9.out.v.rlen vC_len (by decide))
  have Hlw : RowKit.Hid (Es.length = m) := Lib.hid (Da_9.out.e.rlen eC_len (by decide))
  have hn24 : n ≤ 24 := Hsm.out.1
  have hm40 : m ≤ 40 := Hsm.out.2.1
  have HWd : RowKit.Hid (∀ v ∈ Vs, ∀ d ∈ v.2.1.2.2.2, wfD d) := Lib.hid HGd.out.v
  have Hr0 : RowKit.Hid (∀ x ∈ Vs, x.2.1.2.1 ≤ 1000000) := Lib.hid (fun x hx => by have := Hsm.out.2.2 x hx; omega)
  clear hfo HFo Gfo
  obtain ⟨L, gL⟩ : ∃ z, labF Vs = z := ⟨_, rfl⟩
  obtain ⟨cc, gcc⟩ : ∃ z, cntF (labF Vs) = z := ⟨_, rfl⟩
  obtain ⟨tb, gtb⟩ : ∃ z, togF Vs (x1, x2) (y1, y2) = z := ⟨_, rfl⟩
  have HLb : RowKit.Hid (∀ W, DgIn W A n c Vs B m k Es → Calls Try.prog 39 #[.agg #[.slice A n c, .slice B m k]] W fun e w' => ∃ g, e = .returned (.slice (some ⟨g, 0, none⟩) n n) ∧ RdS w' w'.heap.size 1 (some ⟨g, 0, none⟩) n n (rowsV n1 L) ∧ Below W.heap.size W w') := Lib.hid (fun W h => by
    refine (labels_any A n c Vs B m k Es W h (by omega) Hr0.out HWd.out).mono ?_
    rintro e w' ⟨g, rfl, ho, hb⟩
    rw [gL] at ho
    exact ⟨g, rfl, own_rds ho, hb⟩)
  have HLr : RowKit.Hid (∀ W, DgIn W A n c Vs B m k Es → Calls Try.prog 40 #[.agg #[.slice A n c, .slice B m k]] W fun e w' => ∃ A2 c2, e = .returned (.slice A2 n c2) ∧ RdS w' w'.heap.size 1 A2 n c2 (rowsV n1 L) ∧ Below W.heap.size W w') := Lib.hid (fun W h => gL ▸ rlabels_any A n c Vs B m k Es W h HFm.out)
  have HPa : RowKit.Hid (∀ W, DgIn W A n c Vs B m k Es → Calls Try.prog 41 #[.agg #[.slice A n c, .slice B m k]] W fun e w' => ∃ A2 c2 X, e = .returned (.slice A2 cc c2) ∧ PtIn w' W.heap.size A2 cc c2 X ∧ X.map (·.2.2) = partsF Vs ∧ Below W.heap.size W w') := Lib.hid (fun W h => gcc ▸ parts_any A n c Vs B m k Es W h (by omega) Hr0.out HWd.out)
  have HPr : RowKit.Hid (∀ W, DgIn W A n c Vs B m k Es → Calls Try.prog 42 #[.agg #[.slice A n c, .slice B m k]] W fun e w' => ∃ A2 c2 X, e = .returned (.slice A2 cc c2) ∧ (∃ lo, PtIn w' lo A2 cc c2 X) ∧ X.map (·.2.2) = partsF Vs ∧ Below W.heap.size W w') := Lib.hid (fun W h => gcc ▸ rparts_any A n c Vs B m k Es W h HFm.out)
  have HCo : RowKit.Hid (∀ W, DgIn W A n c Vs B m k Es → Calls Try.prog 44 #[.agg #[.slice A n c, .slice B m k]] W fun e w' => e = .returned (.int .i64 (cc : Int)) ∧ Below W.heap.size W w') := Lib.hid (fun W h => gcc ▸ count_any A n c Vs B m k Es W h (by omega) Hr0.out HWd.out)
  have HCr : RowKit.Hid (∀ W, DgIn W A n c Vs B m k Es → Calls Try.prog 45 #[.agg #[.slice A n c, .slice B m k]] W fun e w' => e = .returned (.int .i64 (cc : Int)) ∧ Below W.heap.size W w') := Lib.hid (fun W h => gcc ▸ rcount_any A n c Vs B m k Es W h HFm.out)
  have HTg : RowKit.Hid (∀ W, DgIn W A n c Vs B m k Es → Calls Try.prog 46 #[.agg #[.slice A n c, .slice B m k], .agg #[.int .i64 x1, .int .i64 x2], .agg #[.int .i64 y1, .int .i64 y2]] W fun e w' => e = .returned (.bool tb) ∧ Below W.heap.size W w') := Lib.hid (fun W h => gtb ▸ together_any A n c Vs B m k Es x1 x2 y1 y2 W h (by omega) Hr0.out HWd.out)
  have HTr : RowKit.Hid (∀ W, DgIn W A n c Vs B m k Es → Calls Try.prog 47 #[.agg #[.slice A n c, .slice B m k], .agg #[.int .i64 x1, .int .i64 x2], .agg #[.int .i64 y1, .int .i64 y2]] W fun e w' => e = .returned (.bool tb) ∧ Below W.heap.size W w') := Lib.hid (fun W h => gtb ▸ rtogether_any A n c Vs B m k Es x1 x2 y1 y2 W h HFm.out)
  have HPl : RowKit.Hid ((partsF Vs).length = cc) := Lib.hid (by rw [partsF_len, gcc])
  have hcc24 : cc ≤ 24 := by have h2 := cnt_le Vs; rw [gcc, Hlv.out] at h2; omega
  have HXl : RowKit.Hid (∀ x ∈ partsF Vs, x.length ≤ 24) := Lib.hid (fun x h1 => by
    rw [partsF, partsJ] at h1
    obtain ⟨r, _, e⟩ := List.mem_map.1 h1
    rw [← e]
    have := partJ_len0 (labF Vs) (nmV Vs) Vs.length r
    have := Hlv.out
    omega)
  clear gL gcc gtb
  go_upto_region 5 with fail
  have Da_10 := Lib.hid (Da_9.out.dr)
  have D0_10 := Lib.hid (D0_9.out.dr)
  have X_10 := Lib.hid (X_9.out.dr)
  have Y_10 := Lib.hid (Y_9.out.dr)
  have Bel_10 := Lib.hid (bel_dr Bel_9.out)
  have ld11 : ∀ w', Kept Nil_ w8.drew w' → w'.cell? ⟨w.heap.size, 0, none⟩ = some (.slice A n c) := fun w' h => h.nil_cell (D0_10.out.cell (i := 0) rfl)
  have ld12 : ∀ w', Kept Nil_ w8.drew w' → w'.cell? ⟨w.heap.size, 1, none⟩ = some (.slice B m k) := fun w' h => h.nil_cell (D0_10.out.cell (i := 1) rfl)
  refine wp_region_reg Nil_ (by kernel_rfl) ?_
  apply wpR_next 0 (some 19)
  · simp only [List.getElem?_toArray, List.getElem?_cons_succ, List.getElem?_cons_zero]; exact rfl
  · rfl
  · kernel_rfl
  · kernel_rfl
  · kernel_rfl
  · exact fun _ _ _ _ h => h
  apply Exists.intro
  apply And.intro
  · apply yr_run; rfl; intro w' hw'; go_simp; (try with_reducible rfl)
  simp only [Act.put, List.setIfInBounds_toArray, List.set_cons_zero, List.set_cons_succ]
  apply wpR_next 2 (some 21)
  · simp only [List.getElem?_toArray, List.getElem?_cons_succ, List.getElem?_cons_zero]; exact rfl
  · rfl
  · kernel_rfl
  · kernel_rfl
  · kernel_rfl
  · exact fun _ _ _ _ h => h
  apply Exists.intro
  apply And.intro
  · apply yr_run; rfl; intro w' hw'; go_simp; (try with_reducible rfl)
  simp only [Act.put, List.setIfInBounds_toArray, List.set_cons_zero, List.set_cons_succ]
  apply wpR_call 1 (some 20)
  · simp only [List.getElem?_toArray, List.getElem?_cons_succ, List.getElem?_cons_zero]; exact rfl
  · rfl
  · kernel_rfl
  · rfl
  · intro w'; go_simp; first | done | exact ⟨rfl, rfl⟩ | with_reducible rfl
  intro w' hw'
  refine (HLb.out _ (Da_10.out.bl hw')).mono ?_
  rintro e w13 ⟨g1, rfl, hr1, hb13⟩
  have Da_13 := Lib.hid ((Da_10.out.bl hw').bl hb13)
  have D0_13 := Lib.hid ((D0_10.out.bl hw').bl hb13)
  have X_13 := Lib.hid ((X_10.out.bl hw').bl hb13)
  have Y_13 := Lib.hid ((Y_10.out.bl hw').bl hb13)
  have Bel_13 := Lib.hid (bel_bl (bel_bl Bel_10.out hw') hb13)
  have ld14 := fun w'' (h : Kept Nil_ w13 w'') => ld11 w'' ((Kept.of_ext hw').trans ((Kept.of_below hb13).trans h))
  have ld15 := fun w'' (h : Kept Nil_ w13 w'') => ld12 w'' ((Kept.of_ext hw').trans ((Kept.of_below hb13).trans h))
  refine ⟨_, rfl, Kept.of_below hb13, ?_⟩
  clear hw' hb13
  have R1_13 := Lib.hid hr1
  clear hr1
  simp only [Act.put, List.setIfInBounds_toArray, List.set_cons_zero, List.set_cons_succ]
  apply wpR_call 3 (some 22)
  · simp only [List.getElem?_toArray, List.getElem?_cons_succ, List.getElem?_cons_zero]; exact rfl
  · rfl
  · kernel_rfl
  · rfl
  · intro w'; go_simp; first | done | exact ⟨rfl, rfl⟩ | with_reducible rfl
  intro w' hw'
  refine (HLr.out _ (Da_13.out.bl hw')).mono ?_
  rintro e w16 ⟨A3, c3, rfl, hr3, hb16⟩
  have Da_16 := Lib.hid ((Da_13.out.bl hw').bl hb16)
  have D0_16 := Lib.hid ((D0_13.out.bl hw').bl hb16)
  have X_16 := Lib.hid ((X_13.out.bl hw').bl hb16)
  have Y_16 := Lib.hid ((Y_13.out.bl hw').bl hb16)
  have R1_16 := Lib.hid ((R1_13.out.bl hw').bl hb16)
  have Bel_16 := Lib.hid (bel_bl (bel_bl Bel_13.out hw') hb16)
  have ld17 := fun w'' (h : Kept Nil_ w16 w'') => ld14 w'' ((Kept.of_ext hw').trans ((Kept.of_below hb16).trans h))
  have ld18 := fun w'' (h : Kept Nil_ w16 w'') => ld15 w'' ((Kept.of_ext hw').trans ((Kept.of_below hb16).trans h))
  refine ⟨_, rfl, Kept.of_below hb16, ?_⟩
  clear hw' hb16
  have R3_16 := Lib.hid hr3
  clear hr3
  simp only [Act.put, List.setIfInBounds_toArray, List.set_cons_zero, List.set_cons_succ]
  apply wpR_call 4 (some 23)
  · simp only [List.getElem?_toArray, List.getElem?_cons_succ, List.getElem?_cons_zero]; exact rfl
  · rfl
  · kernel_rfl
  · rfl
  · intro w'; go_simp; first | done | exact ⟨rfl, rfl⟩ | with_reducible rfl
  intro w' hw'
  refine (ints_eq _ _ n n c3 L _ (R1_16.out.bl hw') (R3_16.out.bl hw') (by omega)).mono ?_
  rintro e w19 ⟨rfl, hb19⟩
  have Da_19 := Lib.hid ((Da_16.out.bl hw').bl hb19)
  have D0_19 := Lib.hid ((D0_16.out.bl hw').bl hb19)
  have X_19 := Lib.hid ((X_16.out.bl hw').bl hb19)
  have Y_19 := Lib.hid ((Y_16.out.bl hw').bl hb19)
  have R1_19 := Lib.hid ((R1_16.out.bl hw').bl hb19)
  have R3_19 := Lib.hid ((R3_16.out.bl hw').bl hb19)
  have Bel_19 := Lib.hid (bel_bl (bel_bl Bel_16.out hw') hb19)
  have ld20 := fun w'' (h : Kept Nil_ w19 w'') => ld17 w'' ((Kept.of_ext hw').trans ((Kept.of_below hb19).trans h))
  have ld21 := fun w'' (h : Kept Nil_ w19 w'') => ld18 w'' ((Kept.of_ext hw').trans ((Kept.of_below hb19).trans h))
  refine ⟨_, rfl, Kept.of_below hb19, ?_⟩
  clear hw' hb19
  simp only [Act.put, List.setIfInBounds_toArray, List.set_cons_zero, List.set_cons_succ]
  apply wpR_next 5 (some 9)
  · simp only [List.getElem?_toArray, List.getElem?_cons_succ, List.getElem?_cons_zero]; exact rfl
  · rfl
  · kernel_rfl
  · kernel_rfl
  · kernel_rfl
  · exact fun _ _ _ _ h => h
  apply Exists.intro
  apply And.intro
  · apply yr_run; rfl; intro w' hw'; go_simp; (try with_reducible rfl)
  simp only [Act.put, List.setIfInBounds_toArray, List.set_cons_zero, List.set_cons_succ]
  refine wpR_done (by kernel_rfl) ?_ _
  intro w22 hw'
  have Da_23 := Lib.hid (Da_19.out.bl hw')
  have D0_23 := Lib.hid (D0_19.out.bl hw')
  have X_23 := Lib.hid (X_19.out.bl hw')
  have Y_23 := Lib.hid (Y_19.out.bl hw')
  have R1_23 := Lib.hid (R1_19.out.bl hw')
  have R3_23 := Lib.hid (R3_19.out.bl hw')
  have Bel_23 := Lib.hid (bel_bl Bel_19.out hw')
  clear Da_19 D0_19 X_19 Y_19 R1_19 R3_19 Bel_19
  clear hw'
  clear R1_23 R3_23
  have lw24 : (w22).cell? ⟨w.heap.size, 0, none⟩ = some (.slice A n c) := D0_23.out.cell (i := 0) rfl
  have lw25 : (w22).cell? ⟨w.heap.size, 1, none⟩ = some (.slice B m k) := D0_23.out.cell (i := 1) rfl
  go_wp2_with fail
  clear lw24 lw25
  refine (HPa.out _ Da_23.out).mono ?_
  rintro e w26 ⟨A2, c2, X, rfl, hpt, hX, hb26⟩
  have HX := Lib.hid hX
  clear hX
  have Da_27 := Lib.hid (Da_23.out.bl hb26)
  have D0_27 := Lib.hid (D0_23.out.bl hb26)
  have X_27 := Lib.hid (X_23.out.bl hb26)
  have Y_27 := Lib.hid (Y_23.out.bl hb26)
  have Bel_27 := Lib.hid (bel_bl Bel_23.out hb26)
  clear Da_23 D0_23 X_23 Y_23 Bel_23
  clear hb26
  have R_27 := Lib.hid hpt
  clear hpt
  have lw28 : (w26).cell? ⟨w.heap.size, 0, none⟩ = some (.slice A n c) := D0_27.out.cell (i := 0) rfl
  have lw29 : (w26).cell? ⟨w.heap.size, 1, none⟩ = some (.slice B m k) := D0_27.out.cell (i := 1) rfl
  go_wp2_with fail
  clear lw28 lw29
  refine (HPr.out _ Da_27.out).mono ?_
  rintro e w30 ⟨A4, c4, Z, rfl, hpz, hZ, hb30⟩
  have HZ := Lib.hid hZ
  obtain ⟨lz, hpz⟩ := hpz
  clear hZ
  have Da_31 := Lib.hid (Da_27.out.bl hb30)
  have D0_31 := Lib.hid (D0_27.out.bl hb30)
  have X_31 := Lib.hid (X_27.out.bl hb30)
  have Y_31 := Lib.hid (Y_27.out.bl hb30)
  have R_31 := Lib.hid (R_27.out.bl hb30)
  have Bel_31 := Lib.hid (bel_bl Bel_27.out hb30)
  clear Da_27 D0_27 X_27 Y_27 R_27 Bel_27
  clear hb30
  have Q_31 := Lib.hid hpz
  clear hpz
  have HD5 := Lib.hid (Da_31.out)
  have HX5 := Lib.hid (D0_31.out)
  have HXx := Lib.hid (X_31.out)
  have HXy := Lib.hid (Y_31.out)
  have HR5 := Lib.hid (R_31.out)
  have HQ5 := Lib.hid (Q_31.out)
  have HB5 := Lib.hid (Bel_31.out)
  clear Da_31 D0_31 X_31 Y_31 R_31 Q_31 Bel_31
  go_wp2
  go_loopw [12] (fun si wr => ∃ i : Nat, i ≤ cc ∧ si = .int .i64 i ∧ RowKit.Hid (Below w30.heap.size w30 wr)) (fun si _ => cc - (intOf si).toNat)
  case atStart => exact ⟨0, by omega, rfl, Lib.hid (Below.refl _ _)⟩
  case round =>
    obtain ⟨i, hi, rfl, HBo⟩ := hrel
    obtain ⟨wo, gwo⟩ : ∃ z, wr = z := ⟨_, rfl⟩
    rw [gwo] at HBo ⊢
    clear gwo
    by_cases hic : i < cc
    · obtain ⟨px, hpi⟩ : ∃ px, (partsF Vs)[i]? = some px := ⟨_, List.getElem?_eq_getElem (by have := HPl.out; omega)⟩
      have hxl := HXl.out px (List.mem_of_getElem? hpi)
      obtain ⟨xn, gxn⟩ : ∃ z, px.length = z := ⟨_, rfl⟩
      rw [gxn] at hxl
      obtain ⟨x, hx⟩ : ∃ x, X[i]? = some x := ⟨_, List.getElem?_eq_getElem (by have := HR5.out.len; omega)⟩
      have ex : x.2.2 = px := by
        have h1 : (X.map (·.2.2))[i]? = some px := by rw [HX.out, hpi]
        rw [List.getElem?_map, hx] at h1
        exact Option.some.inj h1
      obtain ⟨gp, junk, eA, -, -, hcx, -, -⟩ := own_poke (i := 0) (y := x) (u := rwV x) rwC_len HR5.out.row hx hic (by decide) rfl
      subst eA
      simp only [Nat.mul_one, Nat.add_zero] at hcx
      replace hcx : w30.cell? ⟨gp, i, none⟩ = some (rwV x) := hcx
      have hr := HR5.out.one x (List.mem_of_getElem? hx)
      obtain ⟨pA, pc, xl⟩ := x
      obtain rfl : xl = px := ex
      have HCp : RowKit.Hid (∀ W, Below w30.heap.size w30 W → W.cell? ⟨gp, i, none⟩ = some (.slice pA xn pc)) := Lib.hid (fun W hb => by
        have h1 := (hb.cell (p := ⟨gp, i, none⟩) (World.block_lt_of_cell? _ _ hcx)).trans hcx
        rw [h1, ← gxn]
        rfl)
      have HRp : RowKit.Hid (RdS w30 w30.heap.size 2 pA xn pc (rowsV idC xl)) := Lib.hid (by have h1 := own_rds hr; rwa [gxn] at h1)
      clear hx hcx hr
      obtain ⟨x, hx⟩ : ∃ x, Z[i]? = some x := ⟨_, List.getElem?_eq_getElem (by have := HQ5.out.len; omega)⟩
      have ex : x.2.2 = xl := by
        have h1 : (Z.map (·.2.2))[i]? = some xl := by rw [HZ.out, hpi]
        rw [List.getElem?_map, hx] at h1
        exact Option.some.inj h1
      obtain ⟨gq, junk, eA, -, -, hcx, -, -⟩ := own_poke (i := 0) (y := x) (u := rwV x) rwC_len HQ5.out.row hx hic (by decide) rfl
      subst eA
      simp only [Nat.mul_one, Nat.add_zero] at hcx
      replace hcx : w30.cell? ⟨gq, i, none⟩ = some (rwV x) := hcx
      have hr := HQ5.out.one x (List.mem_of_getElem? hx)
      obtain ⟨qA, qc, xl2⟩ := x
      obtain rfl : xl = xl2 := ex.symm
      have HCq : RowKit.Hid (∀ W, Below w30.heap.size w30 W → W.cell? ⟨gq, i, none⟩ = some (.slice qA xn qc)) := Lib.hid (fun W hb => by
        have h1 := (hb.cell (p := ⟨gq, i, none⟩) (World.block_lt_of_cell? _ _ hcx)).trans hcx
        rw [h1, ← gxn]
        rfl)
      have HRq : RowKit.Hid (RdS w30 w30.heap.size 2 qA xn qc (rowsV idC xl)) := Lib.hid (by have h1 := own_rds hr; rwa [gxn] at h1)
      clear hx hcx hr
      have HIe : RowKit.Hid (∀ W, Below w30.heap.size w30 W → Calls Try.prog 43 #[.slice pA xn pc, .slice qA xn qc] W fun e w' => e = .returned (.bool true) ∧ Below W.heap.size W w') := Lib.hid (fun W hb => by
        have h1 := rids_any pA xn pc xl qA xn qc xl W (HRp.out.bl hb) (HRq.out.bl hb) (by omega)
        simpa using h1)
      have hcn : ((cc : Int) != (cc : Int)) = false := by simp
      have HDo := Lib.hid (HD5.out.bl HBo.out)
      clear hpi gxn HRp HRq
      go_upto_region 11 with fail
      have Da_911 := Lib.hid (HDo.out.dr)
      have Bel_911 := Lib.hid (bel_dr HBo.out)
      have ld912 : ∀ w', Kept Nil_ wo.drew w' → w'.cell? ⟨gp, i, none⟩ = some (.slice pA xn pc) := fun w' h => h.nil_cell (HCp.out _ (bel_dr HBo.out))
      have ld913 : ∀ w', Kept Nil_ wo.drew w' → w'.cell? ⟨gq, i, none⟩ = some (.slice qA xn qc) := fun w' h => h.nil_cell (HCq.out _ (bel_dr HBo.out))
      refine wp_region_reg Nil_ (by kernel_rfl) ?_
      apply wpR_next 0 (some 34)
      · simp only [List.getElem?_toArray, List.getElem?_cons_succ, List.getElem?_cons_zero]; exact rfl
      · rfl
      · kernel_rfl
      · kernel_rfl
      · kernel_rfl
      · exact fun _ _ _ _ h => h
      apply Exists.intro
      apply And.intro
      · apply yr_run; rfl; intro w' hw'; go_simp; (try with_reducible rfl)
      simp only [Act.put, List.setIfInBounds_toArray, List.set_cons_zero, List.set_cons_succ]
      apply wpR_next 1 (some 35)
      · simp only [List.getElem?_toArray, List.getElem?_cons_succ, List.getElem?_cons_zero]; exact rfl
      · rfl
      · kernel_rfl
      · kernel_rfl
      · kernel_rfl
      · exact fun _ _ _ _ h => h
      apply Exists.intro
      apply And.intro
      · apply yr_run; rfl; intro w' hw'; go_simp; (try with_reducible rfl)
      simp only [Act.put, List.setIfInBounds_toArray, List.set_cons_zero, List.set_cons_succ]
      apply wpR_next 2 (some 36)
      · simp only [List.getElem?_toArray, List.getElem?_cons_succ, List.getElem?_cons_zero]; exact rfl
      · rfl
      · kernel_rfl
      · kernel_rfl
      · kernel_rfl
      · exact fun _ _ _ _ h => h
      apply Exists.intro
      apply And.intro
      · apply yr_run; rfl; intro w' hw'; go_simp; (try with_reducible rfl)
      simp only [Act.put, List.setIfInBounds_toArray, List.set_cons_zero, List.set_cons_succ]
      apply wpR_next 3 (some 37)
      · simp only [List.getElem?_toArray, List.getElem?_cons_succ, List.getElem?_cons_zero]; exact rfl
      · rfl
      · kernel_rfl
      · kernel_rfl
      · kernel_rfl
      · exact fun _ _ _ _ h => h
      apply Exists.intro
      apply And.intro
      · apply yr_run; rfl; intro w' hw'; go_simp; (try with_reducible rfl)
      simp only [Act.put, List.setIfInBounds_toArray, List.set_cons_zero, List.set_cons_succ]
      apply wpR_next 4 (some 38)
      · simp only [List.getElem?_toArray, List.getElem?_cons_succ, List.getElem?_cons_zero]; exact rfl
      · rfl
      · kernel_rfl
      · kernel_rfl
      · kernel_rfl
      · exact fun _ _ _ _ h => h
      apply Exists.intro
      apply And.intro
      · apply yr_run; rfl; intro w' hw'; go_simp; (try with_reducible rfl)
      simp only [Act.put, List.setIfInBounds_toArray, List.set_cons_zero, List.set_cons_succ]
      apply wpR_next 5 (some 39)
      · simp only [List.getElem?_toArray, List.getElem?_cons_succ, List.getElem?_cons_zero]; exact rfl
      · rfl
      · kernel_rfl
      · kernel_rfl
      · kernel_rfl
      · exact fun _ _ _ _ h => h
      apply Exists.intro
      apply And.intro
      · apply yr_run; rfl; intro w' hw'; go_simp; (try with_reducible rfl)
      simp only [Act.put, List.setIfInBounds_toArray, List.set_cons_zero, List.set_cons_succ]
      apply wpR_next 6 (some 40)
      · simp only [List.getElem?_toArray, List.getElem?_cons_succ, List.getElem?_cons_zero]; exact rfl
      · rfl
      · kernel_rfl
      · kernel_rfl
      · kernel_rfl
      · exact fun _ _ _ _ h => h
      apply Exists.intro
      apply And.intro
      · apply yr_run; rfl; intro w' hw'; go_simp; (try with_reducible rfl)
      simp only [Act.put, List.setIfInBounds_toArray, List.set_cons_zero, List.set_cons_succ]
      apply wpR_next 7 (some 41)
      · simp only [List.getElem?_toArray, List.getElem?_cons_succ, List.getElem?_cons_zero]; exact rfl
      · rfl
      · kernel_rfl
      · kernel_rfl
      · kernel_rfl
      · exact fun _ _ _ _ h => h
      apply Exists.intro
      apply And.intro
      · apply yr_run; rfl; intro w' hw'; go_simp; (try with_reducible rfl)
      simp only [Act.put, List.setIfInBounds_toArray, List.set_cons_zero, List.set_cons_succ]
      apply wpR_next 8 (some 42)
      · simp only [List.getElem?_toArray, List.getElem?_cons_succ, List.getElem?_cons_zero]; exact rfl
      · rfl
      · kernel_rfl
      · kernel_rfl
      · kernel_rfl
      · exact fun _ _ _ _ h => h
      apply Exists.intro
      apply And.intro
      · apply yr_run; rfl; intro w' hw'; go_simp; (try with_reducible rfl)
      simp only [Act.put, List.setIfInBounds_toArray, List.set_cons_zero, List.set_cons_succ]
      apply wpR_next 9 (some 43)
      · simp only [List.getElem?_toArray, List.getElem?_cons_succ, List.getElem?_cons_zero]; exact rfl
      · rfl
      · kernel_rfl
      · kernel_rfl
      · kernel_rfl
      · exact fun _ _ _ _ h => h
      apply Exists.intro
      apply And.intro
      · apply yr_run; rfl; intro w' hw'; go_simp; (try with_reducible rfl)
      simp only [Act.put, List.setIfInBounds_toArray, List.set_cons_zero, List.set_cons_succ]
      apply wpR_next 10 (some 44)
      · simp only [List.getElem?_toArray, List.getElem?_cons_succ, List.getElem?_cons_zero]; exact rfl
      · rfl
      · kernel_rfl
      · kernel_rfl
      · kernel_rfl
      · exact fun _ _ _ _ h => h
      apply Exists.intro
      apply And.intro
      · apply yr_run; rfl; intro w' hw'; go_simp; (try with_reducible rfl)
      simp only [Act.put, List.setIfInBounds_toArray, List.set_cons_zero, List.set_cons_succ]
      apply wpR_next 11 (some 45)
      · simp only [List.getElem?_toArray, List.getElem?_cons_succ, List.getElem?_cons_zero]; exact rfl
      · rfl
      · kernel_rfl
      · kernel_rfl
      · kernel_rfl
      · exact fun _ _ _ _ h => h
      apply Exists.intro
      apply And.intro
      · apply yr_run; rfl; intro w' hw'; go_simp; (try with_reducible rfl)
      simp only [Act.put, List.setIfInBounds_toArray, List.set_cons_zero, List.set_cons_succ]
      apply wpR_next 12 (some 46)
      · simp only [List.getElem?_toArray, List.getElem?_cons_succ, List.getElem?_cons_zero]; exact rfl
      · rfl
      · kernel_rfl
      · kernel_rfl
      · kernel_rfl
      · exact fun _ _ _ _ h => h
      apply Exists.intro
      apply And.intro
      · apply yr_run; rfl; intro w' hw'; go_simp; (try with_reducible rfl)
      simp only [Act.put, List.setIfInBounds_toArray, List.set_cons_zero, List.set_cons_succ]
      apply wpR_next 13 (some 47)
      · simp only [List.getElem?_toArray, List.getElem?_cons_succ, List.getElem?_cons_zero]; exact rfl
      · rfl
      · kernel_rfl
      · kernel_rfl
      · kernel_rfl
      · exact fun _ _ _ _ h => h
      apply Exists.intro
      apply And.intro
      · apply yr_run; rfl; intro w' hw'; go_simp; (try with_reducible rfl)
      simp only [Act.put, List.setIfInBounds_toArray, List.set_cons_zero, List.set_cons_succ]
      apply wpR_call 14 (some 48)
      · simp only [List.getElem?_toArray, List.getElem?_cons_succ, List.getElem?_cons_zero]; exact rfl
      · rfl
      · kernel_rfl
      · rfl
      · intro w'; go_simp; first | done | exact ⟨rfl, rfl⟩ | with_reducible rfl
      intro w' hw'
      refine (HIe.out _ (bel_bl Bel_911.out hw')).mono ?_
      rintro e w914 ⟨rfl, hb914⟩
      have Da_914 := Lib.hid ((Da_911.out.bl hw').bl hb914)
      have Bel_914 := Lib.hid (bel_bl (bel_bl Bel_911.out hw') hb914)
      have ld915 := fun w'' (h : Kept Nil_ w914 w'') => ld912 w'' ((Kept.of_ext hw').trans ((Kept.of_below hb914).trans h))
      have ld916 := fun w'' (h : Kept Nil_ w914 w'') => ld913 w'' ((Kept.of_ext hw').trans ((Kept.of_below hb914).trans h))
      refine ⟨_, rfl, Kept.of_below hb914, ?_⟩
      clear hw' hb914
      simp only [Act.put, List.setIfInBounds_toArray, List.set_cons_zero, List.set_cons_succ]
      apply wpR_next 15 (some 49)
      · simp only [List.getElem?_toArray, List.getElem?_cons_succ, List.getElem?_cons_zero]; exact rfl
      · rfl
      · kernel_rfl
      · kernel_rfl
      · kernel_rfl
      · exact fun _ _ _ _ h => h
      apply Exists.intro
      apply And.intro
      · apply yr_run; rfl; intro w' hw'; go_simp; (try with_reducible rfl)
      simp only [Act.put, List.setIfInBounds_toArray, List.set_cons_zero, List.set_cons_succ]
      apply wpR_next 16 (some 50)
      · simp only [List.getElem?_toArray, List.getElem?_cons_succ, List.getElem?_cons_zero]; exact rfl
      · rfl
      · kernel_rfl
      · kernel_rfl
      · kernel_rfl
      · exact fun _ _ _ _ h => h
      apply Exists.intro
      apply And.intro
      · apply yr_run; rfl; intro w' hw'; go_simp; (try with_reducible rfl)
      simp only [Act.put, List.setIfInBounds_toArray, List.set_cons_zero, List.set_cons_succ]
      refine wpR_done (by kernel_rfl) ?_ _
      intro w917 hw'
      have Da_918 := Lib.hid (Da_914.out.bl hw')
      have Bel_918 := Lib.hid (bel_bl Bel_914.out hw')
      clear Da_914 Bel_914
      clear hw'
      have HBn := Lib.hid Bel_918.out
      clear Da_918 Bel_918
      go_wp2
      go_roundw
      case rel => exact ⟨i + 1, by omega, by go_num, HBn⟩
      case measure => simp [intOf] <;> omega
    · obtain rfl : cc = i := by omega
      have HDo := Lib.hid (HD5.out.bl HBo.out)
      have HXo := Lib.hid (HX5.out.bl HBo.out)
      have HXu := Lib.hid (HXx.out.bl HBo.out)
      have HXv := Lib.hid (HXy.out.bl HBo.out)
      have g1 : ((cc : Int) == (cc : Int)) = true := by simp
      have g2 : (tb == tb) = true := by simp
      go_upto_region 13 with fail
      have Da_951 := Lib.hid (HDo.out.dr)
      have D0_951 := Lib.hid (HXo.out.dr)
      have X_951 := Lib.hid (HXu.out.dr)
      have Y_951 := Lib.hid (HXv.out.dr)
      have Bel_951 := Lib.hid (bel_dr HBo.out)
      have ld952 : ∀ w', Kept Nil_ wo.drew w' → w'.cell? ⟨w.heap.size, 0, none⟩ = some (.slice A n c) := fun w' h => h.nil_cell (D0_951.out.cell (i := 0) rfl)
      have ld953 : ∀ w', Kept Nil_ wo.drew w' → w'.cell? ⟨w.heap.size, 1, none⟩ = some (.slice B m k) := fun w' h => h.nil_cell (D0_951.out.cell (i := 1) rfl)
      have ld954 : ∀ w', Kept Nil_ wo.drew w' → w'.cell? ⟨w.heap.size + 1, 0, none⟩ = some (.int .i64 x1) := fun w' h => h.nil_cell (X_951.out.cell (i := 0) rfl)
      have ld955 : ∀ w', Kept Nil_ wo.drew w' → w'.cell? ⟨w.heap.size + 1, 1, none⟩ = some (.int .i64 x2) := fun w' h => h.nil_cell (X_951.out.cell (i := 1) rfl)
      have ld956 : ∀ w', Kept Nil_ wo.drew w' → w'.cell? ⟨w.heap.size + 2, 0, none⟩ = some (.int .i64 y1) := fun w' h => h.nil_cell (Y_951.out.cell (i := 0) rfl)
      have ld957 : ∀ w', Kept Nil_ wo.drew w' → w'.cell? ⟨w.heap.size + 2, 1, none⟩ = some (.int .i64 y2) := fun w' h => h.nil_cell (Y_951.out.cell (i := 1) rfl)
      refine wp_region_reg Nil_ (by kernel_rfl) ?_
      apply wpR_next 0 (some 51)
      · simp only [List.getElem?_toArray, List.getElem?_cons_succ, List.getElem?_cons_zero]; exact rfl
      · rfl
      · kernel_rfl
      · kernel_rfl
      · kernel_rfl
      · exact fun _ _ _ _ h => h
      apply Exists.intro
      apply And.intro
      · apply yr_run; rfl; intro w' hw'; go_simp; (try with_reducible rfl)
      simp only [Act.put, List.setIfInBounds_toArray, List.set_cons_zero, List.set_cons_succ]
      apply wpR_next 1 (some 52)
      · simp only [List.getElem?_toArray, List.getElem?_cons_succ, List.getElem?_cons_zero]; exact rfl
      · rfl
      · kernel_rfl
      · kernel_rfl
      · kernel_rfl
      · exact fun _ _ _ _ h => h
      apply Exists.intro
      apply And.intro
      · apply yr_run; rfl; intro w' hw'; go_simp; (try with_reducible rfl)
      simp only [Act.put, List.setIfInBounds_toArray, List.set_cons_zero, List.set_cons_succ]
      apply wpR_next 2 (some 53)
      · simp only [List.getElem?_toArray, List.getElem?_cons_succ, List.getElem?_cons_zero]; exact rfl
      · rfl
      · kernel_rfl
      · kernel_rfl
      · kernel_rfl
      · exact fun _ _ _ _ h => h
      apply Exists.intro
      apply And.intro
      · apply yr_run; rfl; intro w' hw'; go_simp; (try with_reducible rfl)
      simp only [Act.put, List.setIfInBounds_toArray, List.set_cons_zero, List.set_cons_succ]
      apply wpR_next 3 (some 54)
      · simp only [List.getElem?_toArray, List.getElem?_cons_succ, List.getElem?_cons_zero]; exact rfl
      · rfl
      · kernel_rfl
      · kernel_rfl
      · kernel_rfl
      · exact fun _ _ _ _ h => h
      apply Exists.intro
      apply And.intro
      · apply yr_run; rfl; intro w' hw'; go_simp; (try with_reducible rfl)
      simp only [Act.put, List.setIfInBounds_toArray, List.set_cons_zero, List.set_cons_succ]
      apply wpR_next 4 (some 55)
      · simp only [List.getElem?_toArray, List.getElem?_cons_succ, List.getElem?_cons_zero]; exact rfl
      · rfl
      · kernel_rfl
      · kernel_rfl
      · kernel_rfl
      · exact fun _ _ _ _ h => h
      apply Exists.intro
      apply And.intro
      · apply yr_run; rfl; intro w' hw'; go_simp; (try with_reducible rfl)
      simp only [Act.put, List.setIfInBounds_toArray, List.set_cons_zero, List.set_cons_succ]
      apply wpR_next 5 (some 56)
      · simp only [List.getElem?_toArray, List.getElem?_cons_succ, List.getElem?_cons_zero]; exact rfl
      · rfl
      · kernel_rfl
      · kernel_rfl
      · kernel_rfl
      · exact fun _ _ _ _ h => h
      apply Exists.intro
      apply And.intro
      · apply yr_run; rfl; intro w' hw'; go_simp; (try with_reducible rfl)
      simp only [Act.put, List.setIfInBounds_toArray, List.set_cons_zero, List.set_cons_succ]
      apply wpR_next 6 (some 57)
      · simp only [List.getElem?_toArray, List.getElem?_cons_succ, List.getElem?_cons_zero]; exact rfl
      · rfl
      · kernel_rfl
      · kernel_rfl
      · kernel_rfl
      · exact fun _ _ _ _ h => h
      apply Exists.intro
      apply And.intro
      · apply yr_run; rfl; intro w' hw'; go_simp; (try with_reducible rfl)
      simp only [Act.put, List.setIfInBounds_toArray, List.set_cons_zero, List.set_cons_succ]
      apply wpR_next 7 (some 58)
      · simp only [List.getElem?_toArray, List.getElem?_cons_succ, List.getElem?_cons_zero]; exact rfl
      · rfl
      · kernel_rfl
      · kernel_rfl
      · kernel_rfl
      · exact fun _ _ _ _ h => h
      apply Exists.intro
      apply And.intro
      · apply yr_run; rfl; intro w' hw'; go_simp; (try with_reducible rfl)
      simp only [Act.put, List.setIfInBounds_toArray, List.set_cons_zero, List.set_cons_succ]
      apply wpR_next 8 (some 59)
      · simp only [List.getElem?_toArray, List.getElem?_cons_succ, List.getElem?_cons_zero]; exact rfl
      · rfl
      · kernel_rfl
      · kernel_rfl
      · kernel_rfl
      · exact fun _ _ _ _ h => h
      apply Exists.intro
      apply And.intro
      · apply yr_run; rfl; intro w' hw'; go_simp; (try with_reducible rfl)
      simp only [Act.put, List.setIfInBounds_toArray, List.set_cons_zero, List.set_cons_succ]
      apply wpR_next 9 (some 60)
      · simp only [List.getElem?_toArray, List.getElem?_cons_succ, List.getElem?_cons_zero]; exact rfl
      · rfl
      · kernel_rfl
      · kernel_rfl
      · kernel_rfl
      · exact fun _ _ _ _ h => h
      apply Exists.intro
      apply And.intro
      · apply yr_run; rfl; intro w' hw'; go_simp; (try with_reducible rfl)
      simp only [Act.put, List.setIfInBounds_toArray, List.set_cons_zero, List.set_cons_succ]
      apply wpR_next 10 (some 61)
      · simp only [List.getElem?_toArray, List.getElem?_cons_succ, List.getElem?_cons_zero]; exact rfl
      · rfl
      · kernel_rfl
      · kernel_rfl
      · kernel_rfl
      · exact fun _ _ _ _ h => h
      apply Exists.intro
      apply And.intro
      · apply yr_run; rfl; intro w' hw'; go_simp; (try with_reducible rfl)
      simp only [Act.put, List.setIfInBounds_toArray, List.set_cons_zero, List.set_cons_succ]
      apply wpR_next 11 (some 62)
      · simp only [List.getElem?_toArray, List.getElem?_cons_succ, List.getElem?_cons_zero]; exact rfl
      · rfl
      · kernel_rfl
      · kernel_rfl
      · kernel_rfl
      · exact fun _ _ _ _ h => h
      apply Exists.intro
      apply And.intro
      · apply yr_run; rfl; intro w' hw'; go_simp; (try with_reducible rfl)
      simp only [Act.put, List.setIfInBounds_toArray, List.set_cons_zero, List.set_cons_succ]
      apply wpR_next 12 (some 63)
      · simp only [List.getElem?_toArray, List.getElem?_cons_succ, List.getElem?_cons_zero]; exact rfl
      · rfl
      · kernel_rfl
      · kernel_rfl
      · kernel_rfl
      · exact fun _ _ _ _ h => h
      apply Exists.intro
      apply And.intro
      · apply yr_run; rfl; intro w' hw'; go_simp; (try with_reducible rfl)
      simp only [Act.put, List.setIfInBounds_toArray, List.set_cons_zero, List.set_cons_succ]
      apply wpR_next 14 (some 65)
      · simp only [List.getElem?_toArray, List.getElem?_cons_succ, List.getElem?_cons_zero]; exact rfl
      · rfl
      · kernel_rfl
      · kernel_rfl
      · kernel_rfl
      · exact fun _ _ _ _ h => h
      apply Exists.intro
      apply And.intro
      · apply yr_run; rfl; intro w' hw'; go_simp; (try with_reducible rfl)
      simp only [Act.put, List.setIfInBounds_toArray, List.set_cons_zero, List.set_cons_succ]
      apply wpR_call 13 (some 64)
      · simp only [List.getElem?_toArray, List.getElem?_cons_succ, List.getElem?_cons_zero]; exact rfl
      · rfl
      · kernel_rfl
      · rfl
      · intro w'; go_simp; first | done | exact ⟨rfl, rfl⟩ | with_reducible rfl
      intro w' hw'
      refine (HCo.out _ (Da_951.out.bl hw')).mono ?_
      rintro e w958 ⟨rfl, hb958⟩
      have Da_958 := Lib.hid ((Da_951.out.bl hw').bl hb958)
      have D0_958 := Lib.hid ((D0_951.out.bl hw').bl hb958)
      have X_958 := Lib.hid ((X_951.out.bl hw').bl hb958)
      have Y_958 := Lib.hid ((Y_951.out.bl hw').bl hb958)
      have Bel_958 := Lib.hid (bel_bl (bel_bl Bel_951.out hw') hb958)
      have ld959 := fun w'' (h : Kept Nil_ w958 w'') => ld952 w'' ((Kept.of_ext hw').trans ((Kept.of_below hb958).trans h))
      have ld960 := fun w'' (h : Kept Nil_ w958 w'') => ld953 w'' ((Kept.of_ext hw').trans ((Kept.of_below hb958).trans h))
      have ld961 := fun w'' (h : Kept Nil_ w958 w'') => ld954 w'' ((Kept.of_ext hw').trans ((Kept.of_below hb958).trans h))
      have ld962 := fun w'' (h : Kept Nil_ w958 w'') => ld955 w'' ((Kept.of_ext hw').trans ((Kept.of_below hb958).trans h))
      have ld963 := fun w'' (h : Kept Nil_ w958 w'') => ld956 w'' ((Kept.of_ext hw').trans ((Kept.of_below hb958).trans h))
      have ld964 := fun w'' (h : Kept Nil_ w958 w'') => ld957 w'' ((Kept.of_ext hw').trans ((Kept.of_below hb958).trans h))
      refine ⟨_, rfl, Kept.of_below hb958, ?_⟩
      clear hw' hb958
      simp only [Act.put, List.setIfInBounds_toArray, List.set_cons_zero, List.set_cons_succ]
      apply wpR_call 15 (some 66)
      · simp only [List.getElem?_toArray, List.getElem?_cons_succ, List.getElem?_cons_zero]; exact rfl
      · rfl
      · kernel_rfl
      · rfl
      · intro w'; go_simp; first | done | exact ⟨rfl, rfl⟩ | with_reducible rfl
      intro w' hw'
      refine (HCr.out _ (Da_958.out.bl hw')).mono ?_
      rintro e w965 ⟨rfl, hb965⟩
      have Da_965 := Lib.hid ((Da_958.out.bl hw').bl hb965)
      have D0_965 := Lib.hid ((D0_958.out.bl hw').bl hb965)
      have X_965 := Lib.hid ((X_958.out.bl hw').bl hb965)
      have Y_965 := Lib.hid ((Y_958.out.bl hw').bl hb965)
      have Bel_965 := Lib.hid (bel_bl (bel_bl Bel_958.out hw') hb965)
      have ld966 := fun w'' (h : Kept Nil_ w965 w'') => ld959 w'' ((Kept.of_ext hw').trans ((Kept.of_below hb965).trans h))
      have ld967 := fun w'' (h : Kept Nil_ w965 w'') => ld960 w'' ((Kept.of_ext hw').trans ((Kept.of_below hb965).trans h))
      have ld968 := fun w'' (h : Kept Nil_ w965 w'') => ld961 w'' ((Kept.of_ext hw').trans ((Kept.of_below hb965).trans h))
      have ld969 := fun w'' (h : Kept Nil_ w965 w'') => ld962 w'' ((Kept.of_ext hw').trans ((Kept.of_below hb965).trans h))
      have ld970 := fun w'' (h : Kept Nil_ w965 w'') => ld963 w'' ((Kept.of_ext hw').trans ((Kept.of_below hb965).trans h))
      have ld971 := fun w'' (h : Kept Nil_ w965 w'') => ld964 w'' ((Kept.of_ext hw').trans ((Kept.of_below hb965).trans h))
      refine ⟨_, rfl, Kept.of_below hb965, ?_⟩
      clear hw' hb965
      simp only [Act.put, List.setIfInBounds_toArray, List.set_cons_zero, List.set_cons_succ]
      apply wpR_next 16 (some 67)
      · simp only [List.getElem?_toArray, List.getElem?_cons_succ, List.getElem?_cons_zero]; exact rfl
      · rfl
      · kernel_rfl
      · kernel_rfl
      · kernel_rfl
      · exact fun _ _ _ _ h => h
      apply Exists.intro
      apply And.intro
      · apply yr_run; rfl; intro w' hw'; go_simp; (try with_reducible rfl)
      simp only [Act.put, List.setIfInBounds_toArray, List.set_cons_zero, List.set_cons_succ]
      apply wpR_next 17 (some 68)
      · simp only [List.getElem?_toArray, List.getElem?_cons_succ, List.getElem?_cons_zero]; exact rfl
      · rfl
      · kernel_rfl
      · kernel_rfl
      · kernel_rfl
      · exact fun _ _ _ _ h => h
      apply Exists.intro
      apply And.intro
      · apply yr_run; rfl; intro w' hw'; go_simp; (try with_reducible rfl)
      simp only [Act.put, List.setIfInBounds_toArray, List.set_cons_zero, List.set_cons_succ]
      apply wpR_next 18 (some 69)
      · simp only [List.getElem?_toArray, List.getElem?_cons_succ, List.getElem?_cons_zero]; exact rfl
      · rfl
      · kernel_rfl
      · kernel_rfl
      · kernel_rfl
      · exact fun _ _ _ _ h => h
      apply Exists.intro
      apply And.intro
      · apply yr_run; rfl; intro w' hw'; go_simp; (try with_reducible rfl)
      simp only [Act.put, List.setIfInBounds_toArray, List.set_cons_zero, List.set_cons_succ]
      apply wpR_next 19 (some 70)
      · simp only [List.getElem?_toArray, List.getElem?_cons_succ, List.getElem?_cons_zero]; exact rfl
      · rfl
      · kernel_rfl
      · kernel_rfl
      · kernel_rfl
      · exact fun _ _ _ _ h => h
      apply Exists.intro
      apply And.intro
      · apply yr_run; rfl; intro w' hw'; go_simp; (try with_reducible rfl)
      simp only [Act.put, List.setIfInBounds_toArray, List.set_cons_zero, List.set_cons_succ]
      apply wpR_next 20 (some 71)
      · simp only [List.getElem?_toArray, List.getElem?_cons_succ, List.getElem?_cons_zero]; exact rfl
      · rfl
      · kernel_rfl
      · kernel_rfl
      · kernel_rfl
      · exact fun _ _ _ _ h => h
      apply Exists.intro
      apply And.intro
      · apply yr_run; rfl; intro w' hw'; go_simp; (try with_reducible rfl)
      simp only [Act.put, List.setIfInBounds_toArray, List.set_cons_zero, List.set_cons_succ]
      apply wpR_next 21 (some 72)
      · simp only [List.getElem?_toArray, List.getElem?_cons_succ, List.getElem?_cons_zero]; exact rfl
      · rfl
      · kernel_rfl
      · kernel_rfl
      · kernel_rfl
      · exact fun _ _ _ _ h => h
      apply Exists.intro
      apply And.intro
      · apply yr_run; rfl; intro w' hw'; go_simp; (try with_reducible rfl)
      simp only [Act.put, List.setIfInBounds_toArray, List.set_cons_zero, List.set_cons_succ]
      apply wpR_next 23 (some 74)
      · simp only [List.getElem?_toArray, List.getElem?_cons_succ, List.getElem?_cons_zero]; exact rfl
      · rfl
      · kernel_rfl
      · kernel_rfl
      · kernel_rfl
      · exact fun _ _ _ _ h => h
      apply Exists.intro
      apply And.intro
      · apply yr_run; rfl; intro w' hw'; go_simp; (try with_reducible rfl)
      simp only [Act.put, List.setIfInBounds_toArray, List.set_cons_zero, List.set_cons_succ]
      apply wpR_next 24 (some 75)
      · simp only [List.getElem?_toArray, List.getElem?_cons_succ, List.getElem?_cons_zero]; exact rfl
      · rfl
      · kernel_rfl
      · kernel_rfl
      · kernel_rfl
      · exact fun _ _ _ _ h => h
      apply Exists.intro
      apply And.intro
      · apply yr_run; rfl; intro w' hw'; go_simp; (try with_reducible rfl)
      simp only [Act.put, List.setIfInBounds_toArray, List.set_cons_zero, List.set_cons_succ]
      apply wpR_next 25 (some 76)
      · simp only [List.getElem?_toArray, List.getElem?_cons_succ, List.getElem?_cons_zero]; exact rfl
      · rfl
      · kernel_rfl
      · kernel_rfl
      · kernel_rfl
      · exact fun _ _ _ _ h => h
      apply Exists.intro
      apply And.intro
      · apply yr_run; rfl; intro w' hw'; go_simp; (try with_reducible rfl)
      simp only [Act.put, List.setIfInBounds_toArray, List.set_cons_zero, List.set_cons_succ]
      apply wpR_call 22 (some 73)
      · simp only [List.getElem?_toArray, List.getElem?_cons_succ, List.getElem?_cons_zero]; exact rfl
      · rfl
      · kernel_rfl
      · rfl
      · intro w'; go_simp; first | done | exact ⟨rfl, rfl⟩ | with_reducible rfl
      intro w' hw'
      refine (HTg.out _ (Da_965.out.bl hw')).mono ?_
      rintro e w972 ⟨rfl, hb972⟩
      have Da_972 := Lib.hid ((Da_965.out.bl hw').bl hb972)
      have D0_972 := Lib.hid ((D0_965.out.bl hw').bl hb972)
      have X_972 := Lib.hid ((X_965.out.bl hw').bl hb972)
      have Y_972 := Lib.hid ((Y_965.out.bl hw').bl hb972)
      have Bel_972 := Lib.hid (bel_bl (bel_bl Bel_965.out hw') hb972)
      have ld973 := fun w'' (h : Kept Nil_ w972 w'') => ld966 w'' ((Kept.of_ext hw').trans ((Kept.of_below hb972).trans h))
      have ld974 := fun w'' (h : Kept Nil_ w972 w'') => ld967 w'' ((Kept.of_ext hw').trans ((Kept.of_below hb972).trans h))
      have ld975 := fun w'' (h : Kept Nil_ w972 w'') => ld968 w'' ((Kept.of_ext hw').trans ((Kept.of_below hb972).trans h))
      have ld976 := fun w'' (h : Kept Nil_ w972 w'') => ld969 w'' ((Kept.of_ext hw').trans ((Kept.of_below hb972).trans h))
      have ld977 := fun w'' (h : Kept Nil_ w972 w'') => ld970 w'' ((Kept.of_ext hw').trans ((Kept.of_below hb972).trans h))
      have ld978 := fun w'' (h : Kept Nil_ w972 w'') => ld971 w'' ((Kept.of_ext hw').trans ((Kept.of_below hb972).trans h))
      refine ⟨_, rfl, Kept.of_below hb972, ?_⟩
      clear hw' hb972
      simp only [Act.put, List.setIfInBounds_toArray, List.set_cons_zero, List.set_cons_succ]
      apply wpR_call 26 (some 77)
      · simp only [List.getElem?_toArray, List.getElem?_cons_succ, List.getElem?_cons_zero]; exact rfl
      · rfl
      · kernel_rfl
      · rfl
      · intro w'; go_simp; first | done | exact ⟨rfl, rfl⟩ | with_reducible rfl
      intro w' hw'
      refine (HTr.out _ (Da_972.out.bl hw')).mono ?_
      rintro e w979 ⟨rfl, hb979⟩
      have Da_979 := Lib.hid ((Da_972.out.bl hw').bl hb979)
      have D0_979 := Lib.hid ((D0_972.out.bl hw').bl hb979)
      have X_979 := Lib.hid ((X_972.out.bl hw').bl hb979)
      have Y_979 := Lib.hid ((Y_972.out.bl hw').bl hb979)
      have Bel_979 := Lib.hid (bel_bl (bel_bl Bel_972.out hw') hb979)
      have ld980 := fun w'' (h : Kept Nil_ w979 w'') => ld973 w'' ((Kept.of_ext hw').trans ((Kept.of_below hb979).trans h))
      have ld981 := fun w'' (h : Kept Nil_ w979 w'') => ld974 w'' ((Kept.of_ext hw').trans ((Kept.of_below hb979).trans h))
      have ld982 := fun w'' (h : Kept Nil_ w979 w'') => ld975 w'' ((Kept.of_ext hw').trans ((Kept.of_below hb979).trans h))
      have ld983 := fun w'' (h : Kept Nil_ w979 w'') => ld976 w'' ((Kept.of_ext hw').trans ((Kept.of_below hb979).trans h))
      have ld984 := fun w'' (h : Kept Nil_ w979 w'') => ld977 w'' ((Kept.of_ext hw').trans ((Kept.of_below hb979).trans h))
      have ld985 := fun w'' (h : Kept Nil_ w979 w'') => ld978 w'' ((Kept.of_ext hw').trans ((Kept.of_below hb979).trans h))
      refine ⟨_, rfl, Kept.of_below hb979, ?_⟩
      clear hw' hb979
      simp only [Act.put, List.setIfInBounds_toArray, List.set_cons_zero, List.set_cons_succ]
      apply wpR_next 27 (some 78)
      · simp only [List.getElem?_toArray, List.getElem?_cons_succ, List.getElem?_cons_zero]; exact rfl
      · rfl
      · kernel_rfl
      · kernel_rfl
      · kernel_rfl
      · exact fun _ _ _ _ h => h
      apply Exists.intro
      apply And.intro
      · apply yr_run; rfl; intro w' hw'; go_simp; (try with_reducible rfl)
      simp only [Act.put, List.setIfInBounds_toArray, List.set_cons_zero, List.set_cons_succ]
      apply wpR_next 28 (some 79)
      · simp only [List.getElem?_toArray, List.getElem?_cons_succ, List.getElem?_cons_zero]; exact rfl
      · rfl
      · kernel_rfl
      · kernel_rfl
      · kernel_rfl
      · exact fun _ _ _ _ h => h
      apply Exists.intro
      apply And.intro
      · apply yr_run; rfl; intro w' hw'; go_simp; (try with_reducible rfl)
      simp only [Act.put, List.setIfInBounds_toArray, List.set_cons_zero, List.set_cons_succ]
      apply wpR_next 29 (some 6)
      · simp only [List.getElem?_toArray, List.getElem?_cons_succ, List.getElem?_cons_zero]; exact rfl
      · rfl
      · kernel_rfl
      · kernel_rfl
      · kernel_rfl
      · exact fun _ _ _ _ h => h
      apply Exists.intro
      apply And.intro
      · apply yr_run; rfl; intro w' hw'; go_simp; (try with_reducible rfl)
      simp only [Act.put, List.setIfInBounds_toArray, List.set_cons_zero, List.set_cons_succ]
      refine wpR_done (by kernel_rfl) ?_ _
      intro w986 hw'
      have Da_987 := Lib.hid (Da_979.out.bl hw')
      have D0_987 := Lib.hid (D0_979.out.bl hw')
      have X_987 := Lib.hid (X_979.out.bl hw')
      have Y_987 := Lib.hid (Y_979.out.bl hw')
      have Bel_987 := Lib.hid (bel_bl Bel_979.out hw')
      clear Da_979 D0_979 X_979 Y_979 Bel_979
      clear hw'
      go_wp2
      go_ret
      exact ⟨by first | rfl | simp, HB5.out.trans (Bel_987.out.mono HB5.out.size)⟩
end Go.Proofs.Ytjkbcpikdkidhaa
