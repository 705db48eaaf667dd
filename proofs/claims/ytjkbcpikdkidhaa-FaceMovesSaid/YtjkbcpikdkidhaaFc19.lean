/- FaceTraces' walk. -/
import Derived.Test.YtjkbcpikdkidhaaFc17
namespace Go.Proofs.Ytjkbcpikdkidhaa
open Go.RowKit
set_option linter.unusedSimpArgs false
set_option linter.unusedVariables false


theorem orbT_len {α : Type} [DecidableEq α] (f : α → α) (x : α) : ∀ k y, (orbT f x k y).length ≤ k
  | 0, _ => Nat.le_refl _
  | k + 1, y => by
    rw [orbT, List.length_cons]
    split
    · simp
    · have := orbT_len f x k (f y); omega
theorem orbs_get {Vs : List VC} {Es : List EC} (h : Formed Vs Es) : ∃ P, Reps (phF Vs) (ringsOf Vs) P ∧ orbsF (phF Vs) 80 (dsE Es) [] = P.map (fun x => orbT (phF Vs) x 80 x) := orbs_reps h.phi h.l80 (dsE Es) h.ds
theorem orbs_small {Vs : List VC} {Es : List EC} (h : Formed Vs Es) : (orbsF (phF Vs) 80 (dsE Es) []).length ≤ 80 ∧ ∀ l ∈ orbsF (phF Vs) 80 (dsE Es) [], l.length ≤ 80 := by
  obtain ⟨P, hP, e⟩ := orbs_get h
  rw [e]
  refine ⟨?_, fun l hl => ?_⟩
  · rw [List.length_map]
    have := nd_le hP.nd hP.sub
    have := h.l80
    omega
  · obtain ⟨x, _, rfl⟩ := List.mem_map.1 hl
    exact orbT_len _ _ _ _
theorem wfD_in {x1 x2 x3 : Int} (h : In64 x1 ∧ In64 x2 ∧ In64 x3) : wfD (x1, x2, x3) := ⟨wf64 h.1, wf64 h.2.1, wf64 h.2.2⟩
set_option maxRecDepth 100000 in
set_option maxHeartbeats 4000000 in
theorem law_traces (A : Option Addr) (n c : Nat) (Vs : List VC) (B : Option Addr) (m k : Nat) (Es : List EC) (x1 x2 x3 y1 y2 y3 : Int) (hx : In64 x1 ∧ In64 x2 ∧ In64 x3) (w : World) (h : DgIn w A n c Vs B m k Es) (hg : GoodD Vs Es) (hz : SmD n m Vs) :
    Calls Try.prog 4 #[.agg #[.slice A n c, .slice B m k], .agg #[.int .i64 x1, .int .i64 x2, .int .i64 x3], .agg #[.int .i64 y1, .int .i64 y2, .int .i64 y3]] w fun e w' => e = .returned (.bool true) ∧ Below w.heap.size w w' := by
  have HFo := Lib.hid (fun W (h : DgIn W A n c Vs B m k Es) => formed05_any A n c Vs B m k Es W h hg hz)
  obtain ⟨fo, gfo⟩ : ∃ z, (formD Vs Es == 0) = z := ⟨_, rfl⟩
  rw [gfo] at HFo
  have Gfo := Lib.hid gfo
  have HDa := Lib.hid h
  have HGd := Lib.hid hg
  have Hz := Lib.hid hz
  clear h hg hz gfo
  go_enter Try.func4, Try.ntmps4
  go_wp2_with fail
  refine (shown05_any _).mono ?_
  rintro e w1 ⟨rfl, hb1⟩
  have Da_2 := Lib.hid ((((HDa.out.al (.cells #[.slice A n c, .slice B m k] 25)).al (.cells #[.int .i64 x1, .int .i64 x2, .int .i64 x3] 29)).al (.cells #[.int .i64 y1, .int .i64 y2, .int .i64 y3] 29)).bl hb1)
  have D0_2 := Lib.hid ((((show Whole (w.alloc (.cells #[.slice A n c, .slice B m k] 25)) (w.heap.size) (25) ([.slice A n c, .slice B m k]) from Whole.new2 (by first | rfl | simp)).al (.cells #[.int .i64 x1, .int .i64 x2, .int .i64 x3] 29)).al (.cells #[.int .i64 y1, .int .i64 y2, .int .i64 y3] 29)).bl hb1)
  have X_2 := Lib.hid (((show Whole ((w.alloc (.cells #[.slice A n c, .slice B m k] 25)).alloc (.cells #[.int .i64 x1, .int .i64 x2, .int .i64 x3] 29)) ((w.heap.size + 1)) (29) ([.int .i64 x1, .int .i64 x2, .int .i64 x3]) from Whole.new2 (by first | rfl | simp)).al (.cells #[.int .i64 y1, .int .i64 y2, .int .i64 y3] 29)).bl hb1)
  have Y_2 := Lib.hid ((show Whole (((w.alloc (.cells #[.slice A n c, .slice B m k] 25)).alloc (.cells #[.int .i64 x1, .int .i64 x2, .int .i64 x3] 29)).alloc (.cells #[.int .i64 y1, .int .i64 y2, .int .i64 y3] 29)) ((w.heap.size + 1 + 1)) (29) ([.int .i64 y1, .int .i64 y2, .int .i64 y3]) from Whole.new2 (by first | rfl | simp)).bl hb1)
  have Bel_2 := Lib.hid (bel_bl (bel_al (bel_al (bel_al (Below.refl _ w) (.cells #[.slice A n c, .slice B m k] 25)) (.cells #[.int .i64 x1, .int .i64 x2, .int .i64 x3] 29)) (.cells #[.int .i64 y1, .int .i64 y2, .int .i64 y3] 29)) hb1)
  clear HDa
  clear hb1
  have LO_D0_3 : RowKit.Hid (w.heap.size ≤ w.heap.size) := Lib.hid (by omega)
  have LO_X_4 : RowKit.Hid (w.heap.size ≤ (w.heap.size + 1)) := Lib.hid (by omega)
  have NE_D0_X : RowKit.Hid (w.heap.size ≠ (w.heap.size + 1)) := Lib.hid (by omega)
  have LO_Y_5 : RowKit.Hid (w.heap.size ≤ (w.heap.size + 1 + 1)) := Lib.hid (by omega)
  have NE_D0_Y : RowKit.Hid (w.heap.size ≠ (w.heap.size + 1 + 1)) := Lib.hid (by omega)
  have NE_X_Y : RowKit.Hid ((w.heap.size + 1) ≠ (w.heap.size + 1 + 1)) := Lib.hid (by omega)
  have lw6 : (w1).cell? ⟨w.heap.size, 0, none⟩ = some (.slice A n c) := D0_2.out.cell (i := 0) rfl
  have lw7 : (w1).cell? ⟨w.heap.size, 1, none⟩ = some (.slice B m k) := D0_2.out.cell (i := 1) rfl
  go_wp2_with fail
  clear lw6 lw7
  refine (HFo.out _ Da_2.out).mono ?_
  rintro e w8 ⟨rfl, hb8⟩
  have Da_9 := Lib.hid (Da_2.out.bl hb8)
  have D0_9 := Lib.hid (D0_2.out.bl hb8)
  have X_9 := Lib.hid (X_2.out.bl hb8)
  have Y_9 := Lib.hid (Y_2.out.bl hb8)
  have Bel_9 := Lib.hid (bel_bl Bel_2.out hb8)
  clear Da_2 D0_2 X_2 Y_2 Bel_2
  clear hb8
  by_cases hfo : fo = false
  · subst hfo
    go_wp2
    go_ret
    exact ⟨rfl, Bel_9.out⟩
  obtain rfl : fo = true := by simpa using hfo
  have HFm : RowKit.Hid (Formed Vs Es) := Lib.hid ((form0 Vs Es).1 (eq_of_beq Gfo.out))
  have Hsm := Lib.hid (HFm.out.small Da_9.out)
  have Hlv : RowKit.Hid (Vs.length = n) := Lib.hid (Da_9.out.v.rlen vC_len (by decide))
  have Hlw : RowKit.Hid (Es.length = m) := Lib.hid (Da_9.out.e.rlen eC_len (by decide))
  have hn24 : n ≤ 24 := Hsm.out.1
  have hm40 : m ≤ 40 := Hsm.out.2.1
  have HWd : RowKit.Hid (∀ v ∈ Vs, ∀ d ∈ v.2.1.2.2.2, wfD d) := Lib.hid HGd.out.v
  have Hr0 : RowKit.Hid (∀ x ∈ Vs, x.2.1.2.1 ≤ 1000000) := Lib.hid (fun x hx => by have := Hsm.out.2.2 x hx; omega)
  clear hfo HFo Gfo
  have HTa : RowKit.Hid (∀ W, DgIn W A n c Vs B m k Es → Calls Try.prog 24 #[.agg #[.slice A n c, .slice B m k], .agg #[.int .i64 x1, .int .i64 x2, .int .i64 x3]] W fun e w' => ∃ A' c', e = .returned (.slice A' (faceD Vs (x1, x2, x3)).length c') ∧ RdS w' w'.heap.size 3 A' (faceD Vs (x1, x2, x3)).length c' (dartsV (faceD Vs (x1, x2, x3))) ∧ Below W.heap.size W w') := Lib.hid (fun W h => by
    refine (trace5_any A n c Vs B m k Es x1 x2 x3 W h HFm.out HGd.out (wfD_in hx)).mono ?_
    rintro e w' ⟨A', c', rfl, ho, hb⟩
    exact ⟨A', c', rfl, own_rds ho, hb⟩)
  have HTb : RowKit.Hid (∀ W, DgIn W A n c Vs B m k Es → Calls Try.prog 23 #[.agg #[.slice A n c, .slice B m k], .agg #[.int .i64 x1, .int .i64 x2, .int .i64 x3]] W fun e w' => ∃ A' c', e = .returned (.slice A' (faceD Vs (x1, x2, x3)).length c') ∧ RdS w' w'.heap.size 3 A' (faceD Vs (x1, x2, x3)).length c' (dartsV (faceD Vs (x1, x2, x3))) ∧ Below W.heap.size W w') := Lib.hid (fun W h => by
    refine (rtrace_any A n c Vs B m k Es x1 x2 x3 W h HFm.out hx.2.2).mono ?_
    rintro e w' ⟨A', c', rfl, ho, hb⟩
    exact ⟨A', c', rfl, own_rds ho, hb⟩)
  have HSh : RowKit.Hid (∀ W, DgIn W A n c Vs B m k Es → Calls Try.prog 28 #[.agg #[.slice A n c, .slice B m k], .agg #[.int .i64 x1, .int .i64 x2, .int .i64 x3], .agg #[.int .i64 y1, .int .i64 y2, .int .i64 y3]] W fun e w' => e = .returned (.bool (decide ((y1, y2, y3) ∈ faceD Vs (x1, x2, x3)))) ∧ Below W.heap.size W w') := Lib.hid (fun W h => share5_any A n c Vs B m k Es x1 x2 x3 y1 y2 y3 W h HFm.out HGd.out (wfD_in hx))
  have HFa : RowKit.Hid (∀ W, DgIn W A n c Vs B m k Es → Calls Try.prog 26 #[.agg #[.slice A n c, .slice B m k]] W fun e w' => ∃ A' c' X, e = .returned (.slice A' X.length c') ∧ RowsIn w' (W.heap.size + 1) 35 29 3 encD A' X.length c' X ∧ X.map (·.2.2) = orbsF (phF Vs) 80 (dsE Es) [] ∧ Below W.heap.size W w') := Lib.hid (fun W h => faces5_any A n c Vs B m k Es W h HFm.out HGd.out)
  have HFb : RowKit.Hid (∀ W, DgIn W A n c Vs B m k Es → Calls Try.prog 27 #[.agg #[.slice A n c, .slice B m k]] W fun e w' => ∃ A' c' X, e = .returned (.slice A' X.length c') ∧ RowsIn w' (W.heap.size + 1) 35 29 3 encD A' X.length c' X ∧ X.map (·.2.2) = orbsF (phF Vs) 80 (dsE Es) [] ∧ Below W.heap.size W w') := Lib.hid (fun W h => rfaces_any A n c Vs B m k Es W h HFm.out)
  have hfl := faceD_len HFm.out (x1, x2, x3)
  have hol : (orbsF (phF Vs) 80 (dsE Es) []).length ≤ 80 ∧ ∀ l ∈ orbsF (phF Vs) 80 (dsE Es) [], l.length ≤ 80 := orbs_small HFm.out
  have HOl := Lib.hid hol
  obtain ⟨O, gO⟩ : ∃ z, orbsF (phF Vs) 80 (dsE Es) [] = z := ⟨_, rfl⟩
  rw [gO] at HFa HFb HOl
  obtain ⟨L, gL⟩ : ∃ z, faceD Vs (x1, x2, x3) = z := ⟨_, rfl⟩
  rw [gL] at HTa HTb HSh hfl
  obtain ⟨ln, gln⟩ : ∃ z, L.length = z := ⟨_, rfl⟩
  have HDr : RowKit.Hid (∀ (A1 A2 : Option Addr) (c1 c2 : Nat) W, RdS W W.heap.size 3 A1 ln c1 (dartsV L) → RdS W W.heap.size 3 A2 ln c2 (dartsV L) → Calls Try.prog 20 #[.slice A1 ln c1, .slice A2 ln c2] W fun e w' => e = .returned (.bool true) ∧ Below W.heap.size W w') := Lib.hid (fun A1 A2 c1 c2 W h1 h2 => by
    have h3 := rdarts_any A1 A2 ln ln c1 c2 L L W h1 h2 (by omega)
    simpa using h3)
  have HIx : RowKit.Hid (∀ (A1 : Option Addr) (c1 : Nat) W, RdS W W.heap.size 3 A1 ln c1 (dartsV L) → Calls Try.prog 29 #[.slice A1 ln c1, .agg #[.int .i64 y1, .int .i64 y2, .int .i64 y3]] W fun e w' => ∃ i : Int, e = .returned (.int .i64 i) ∧ decide (0 ≤ i) = decide ((y1, y2, y3) ∈ L) ∧ Below W.heap.size W w') := Lib.hid (fun A1 c1 W h1 => by
    refine (rfindex_any A1 ln c1 L (y1, y2, y3) W h1 (by omega)).mono ?_
    rintro e w' ⟨rfl, hb⟩
    refine ⟨_, rfl, ?_, hb⟩
    by_cases q : (y1, y2, y3) ∈ L
    · rw [(idxD_mem q).1, decide_eq_true q]
      exact decide_eq_true (by omega)
    · rw [idxD_no q, decide_eq_false q]
      rfl)
  obtain ⟨sh, gsh⟩ : ∃ z, decide ((y1, y2, y3) ∈ L) = z := ⟨_, rfl⟩
  rw [gsh] at HSh HIx
  rw [gln] at HTa HTb hfl
  have HSm : RowKit.Hid (∀ (A1 A2 : Option Addr) (c1 c2 : Nat) (X Z : List (Rw D)) (l1 l2 : Nat) W, X.map (·.2.2) = O → Z.map (·.2.2) = O → RowsIn W l1 35 29 3 encD A1 X.length c1 X → RowsIn W l2 35 29 3 encD A2 Z.length c2 Z → Calls Try.prog 25 #[.slice A1 X.length c1, .slice A2 Z.length c2] W fun e w' => e = .returned (.bool true) ∧ Below W.heap.size W w') := Lib.hid (fun A1 A2 c1 c2 X Z l1 l2 W e1 e2 h1 h2 => by
    have e3 : Z.length = X.length := by
      have q1 := congrArg List.length e1
      have q2 := congrArg List.length e2
      rw [List.length_map] at q1 q2
      omega
    rw [e3] at h2 ⊢
    have hlx : X.length ≤ 80 := by
      have q1 := congrArg List.length e1
      rw [List.length_map] at q1
      have := HOl.out.1
      omega
    exact rsame5_any A1 X.length c1 X A2 c2 Z l1 l2 W h1 h2 (e1.trans e2.symm) (fun x hx => by
      have := HOl.out.2 x.2.2 (e1 ▸ List.mem_map.2 ⟨x, hx, rfl⟩)
      omega) (by omega))
  clear gO gL gln gsh hol hfl hx
  have lw10 : (w8).cell? ⟨w.heap.size, 0, none⟩ = some (.slice A n c) := D0_9.out.cell (i := 0) rfl
  have lw11 : (w8).cell? ⟨w.heap.size, 1, none⟩ = some (.slice B m k) := D0_9.out.cell (i := 1) rfl
  have lw12 : (w8).cell? ⟨(w.heap.size + 1), 0, none⟩ = some (.int .i64 x1) := X_9.out.cell (i := 0) rfl
  have lw13 : (w8).cell? ⟨(w.heap.size + 1), 1, none⟩ = some (.int .i64 x2) := X_9.out.cell (i := 1) rfl
  have lw14 : (w8).cell? ⟨(w.heap.size + 1), 2, none⟩ = some (.int .i64 x3) := X_9.out.cell (i := 2) rfl
  go_wp2_with fail
  clear lw10 lw11 lw12 lw13 lw14
  refine (HTb.out _ Da_9.out).mono ?_
  rintro e w15 ⟨At, ct, rfl, hrt, hb15⟩
  have Da_16 := Lib.hid (Da_9.out.bl hb15)
  have D0_16 := Lib.hid (D0_9.out.bl hb15)
  have X_16 := Lib.hid (X_9.out.bl hb15)
  have Y_16 := Lib.hid (Y_9.out.bl hb15)
  have Bel_16 := Lib.hid (bel_bl Bel_9.out hb15)
  clear Da_9 D0_9 X_9 Y_9 Bel_9
  clear hb15
  have Rt_16 := Lib.hid hrt
  clear hrt
  have lw17 : (w15).cell? ⟨w.heap.size, 0, none⟩ = some (.slice A n c) := D0_16.out.cell (i := 0) rfl
  have lw18 : (w15).cell? ⟨w.heap.size, 1, none⟩ = some (.slice B m k) := D0_16.out.cell (i := 1) rfl
  have lw19 : (w15).cell? ⟨(w.heap.size + 1), 0, none⟩ = some (.int .i64 x1) := X_16.out.cell (i := 0) rfl
  have lw20 : (w15).cell? ⟨(w.heap.size + 1), 1, none⟩ = some (.int .i64 x2) := X_16.out.cell (i := 1) rfl
  have lw21 : (w15).cell? ⟨(w.heap.size + 1), 2, none⟩ = some (.int .i64 x3) := X_16.out.cell (i := 2) rfl
  go_wp2_with fail
  clear lw17 lw18 lw19 lw20 lw21
  refine (HTa.out _ Da_16.out).mono ?_
  rintro e w22 ⟨Au, cu, rfl, hru, hb22⟩
  have Da_23 := Lib.hid (Da_16.out.bl hb22)
  have D0_23 := Lib.hid (D0_16.out.bl hb22)
  have X_23 := Lib.hid (X_16.out.bl hb22)
  have Y_23 := Lib.hid (Y_16.out.bl hb22)
  have Rt_23 := Lib.hid (Rt_16.out.bl hb22)
  have Bel_23 := Lib.hid (bel_bl Bel_16.out hb22)
  clear Da_16 D0_16 X_16 Y_16 Rt_16 Bel_16
  clear hb22
  have Ru_23 := Lib.hid hru
  clear hru
  go_wp2_with fail
  refine (HDr.out _ _ _ _ _ Ru_23.out Rt_23.out).mono ?_
  rintro e w24 ⟨rfl, hb24⟩
  have Da_25 := Lib.hid (Da_23.out.bl hb24)
  have D0_25 := Lib.hid (D0_23.out.bl hb24)
  have X_25 := Lib.hid (X_23.out.bl hb24)
  have Y_25 := Lib.hid (Y_23.out.bl hb24)
  have Rt_25 := Lib.hid (Rt_23.out.bl hb24)
  have Ru_25 := Lib.hid (Ru_23.out.bl hb24)
  have Bel_25 := Lib.hid (bel_bl Bel_23.out hb24)
  clear Da_23 D0_23 X_23 Y_23 Rt_23 Ru_23 Bel_23
  clear hb24
  go_upto_region 7 with fail
  have Da_26 := Lib.hid (Da_25.out.dr)
  have D0_26 := Lib.hid (D0_25.out.dr)
  have X_26 := Lib.hid (X_25.out.dr)
  have Y_26 := Lib.hid (Y_25.out.dr)
  have Rt_26 := Lib.hid (Rt_25.out.dr)
  have Ru_26 := Lib.hid (Ru_25.out.dr)
  have Bel_26 := Lib.hid (bel_dr Bel_25.out)
  have ld27 : ∀ w', Kept Nil_ w24.drew w' → w'.cell? ⟨w.heap.size, 0, none⟩ = some (.slice A n c) := fun w' h => h.nil_cell (D0_26.out.cell (i := 0) rfl)
  have ld28 : ∀ w', Kept Nil_ w24.drew w' → w'.cell? ⟨w.heap.size, 1, none⟩ = some (.slice B m k) := fun w' h => h.nil_cell (D0_26.out.cell (i := 1) rfl)
  refine wp_region_reg Nil_ (by kernel_rfl) ?_
  apply wpR_next 0 (some 26)
  · simp only [List.getElem?_toArray, List.getElem?_cons_succ, List.getElem?_cons_zero]; exact rfl
  · rfl
  · kernel_rfl
  · kernel_rfl
  · kernel_rfl
  · exact fun _ _ _ _ h => h
  apply Exists.intro
  apply And.intro
  · apply yr_run; rfl; intro w' hw'; go_simp; (try with_reducible rfl)
  simp only [Act.put, List.setIfInBounds_toArray, List.set_cons_zero, List.set_cons_succ]
  apply wpR_next 2 (some 28)
  · simp only [List.getElem?_toArray, List.getElem?_cons_succ, List.getElem?_cons_zero]; exact rfl
  · rfl
  · kernel_rfl
  · kernel_rfl
  · kernel_rfl
  · exact fun _ _ _ _ h => h
  apply Exists.intro
  apply And.intro
  · apply yr_run; rfl; intro w' hw'; go_simp; (try with_reducible rfl)
  simp only [Act.put, List.setIfInBounds_toArray, List.set_cons_zero, List.set_cons_succ]
  apply wpR_call 1 (some 27)
  · simp only [List.getElem?_toArray, List.getElem?_cons_succ, List.getElem?_cons_zero]; exact rfl
  · rfl
  · kernel_rfl
  · rfl
  · intro w'; go_simp; first | done | exact ⟨rfl, rfl⟩ | with_reducible rfl
  intro w' hw'
  refine (HFa.out _ (Da_26.out.bl hw')).mono ?_
  rintro e w29 ⟨A3, c3, X3, rfl, hr3, hX3, hb29⟩
  have HX3 := Lib.hid hX3
  clear hX3
  have Da_29 := Lib.hid ((Da_26.out.bl hw').bl hb29)
  have D0_29 := Lib.hid ((D0_26.out.bl hw').bl hb29)
  have X_29 := Lib.hid ((X_26.out.bl hw').bl hb29)
  have Y_29 := Lib.hid ((Y_26.out.bl hw').bl hb29)
  have Rt_29 := Lib.hid ((Rt_26.out.bl hw').bl hb29)
  have Ru_29 := Lib.hid ((Ru_26.out.bl hw').bl hb29)
  have Bel_29 := Lib.hid (bel_bl (bel_bl Bel_26.out hw') hb29)
  have ld30 := fun w'' (h : Kept Nil_ w29 w'') => ld27 w'' ((Kept.of_ext hw').trans ((Kept.of_below hb29).trans h))
  have ld31 := fun w'' (h : Kept Nil_ w29 w'') => ld28 w'' ((Kept.of_ext hw').trans ((Kept.of_below hb29).trans h))
  refine ⟨_, rfl, Kept.of_below hb29, ?_⟩
  clear hw' hb29
  have R3_29 := Lib.hid hr3
  clear hr3
  simp only [Act.put, List.setIfInBounds_toArray, List.set_cons_zero, List.set_cons_succ]
  apply wpR_call 3 (some 29)
  · simp only [List.getElem?_toArray, List.getElem?_cons_succ, List.getElem?_cons_zero]; exact rfl
  · rfl
  · kernel_rfl
  · rfl
  · intro w'; go_simp; first | done | exact ⟨rfl, rfl⟩ | with_reducible rfl
  intro w' hw'
  refine (HFb.out _ (Da_29.out.bl hw')).mono ?_
  rintro e w32 ⟨A4, c4, X4, rfl, hr4, hX4, hb32⟩
  have HX4 := Lib.hid hX4
  clear hX4
  have Da_32 := Lib.hid ((Da_29.out.bl hw').bl hb32)
  have D0_32 := Lib.hid ((D0_29.out.bl hw').bl hb32)
  have X_32 := Lib.hid ((X_29.out.bl hw').bl hb32)
  have Y_32 := Lib.hid ((Y_29.out.bl hw').bl hb32)
  have Rt_32 := Lib.hid ((Rt_29.out.bl hw').bl hb32)
  have Ru_32 := Lib.hid ((Ru_29.out.bl hw').bl hb32)
  have R3_32 := Lib.hid ((R3_29.out.bl hw').bl hb32)
  have Bel_32 := Lib.hid (bel_bl (bel_bl Bel_29.out hw') hb32)
  have ld33 := fun w'' (h : Kept Nil_ w32 w'') => ld30 w'' ((Kept.of_ext hw').trans ((Kept.of_below hb32).trans h))
  have ld34 := fun w'' (h : Kept Nil_ w32 w'') => ld31 w'' ((Kept.of_ext hw').trans ((Kept.of_below hb32).trans h))
  refine ⟨_, rfl, Kept.of_below hb32, ?_⟩
  clear hw' hb32
  have R4_32 := Lib.hid hr4
  clear hr4
  simp only [Act.put, List.setIfInBounds_toArray, List.set_cons_zero, List.set_cons_succ]
  apply wpR_call 4 (some 30)
  · simp only [List.getElem?_toArray, List.getElem?_cons_succ, List.getElem?_cons_zero]; exact rfl
  · rfl
  · kernel_rfl
  · rfl
  · intro w'; go_simp; first | done | exact ⟨rfl, rfl⟩ | with_reducible rfl
  intro w' hw'
  refine (HSm.out _ _ _ _ _ _ _ _ _ HX3.out HX4.out (R3_32.out.bl hw') (R4_32.out.bl hw')).mono ?_
  rintro e w35 ⟨rfl, hb35⟩
  have Da_35 := Lib.hid ((Da_32.out.bl hw').bl hb35)
  have D0_35 := Lib.hid ((D0_32.out.bl hw').bl hb35)
  have X_35 := Lib.hid ((X_32.out.bl hw').bl hb35)
  have Y_35 := Lib.hid ((Y_32.out.bl hw').bl hb35)
  have Rt_35 := Lib.hid ((Rt_32.out.bl hw').bl hb35)
  have Ru_35 := Lib.hid ((Ru_32.out.bl hw').bl hb35)
  have R3_35 := Lib.hid ((R3_32.out.bl hw').bl hb35)
  have R4_35 := Lib.hid ((R4_32.out.bl hw').bl hb35)
  have Bel_35 := Lib.hid (bel_bl (bel_bl Bel_32.out hw') hb35)
  have ld36 := fun w'' (h : Kept Nil_ w35 w'') => ld33 w'' ((Kept.of_ext hw').trans ((Kept.of_below hb35).trans h))
  have ld37 := fun w'' (h : Kept Nil_ w35 w'') => ld34 w'' ((Kept.of_ext hw').trans ((Kept.of_below hb35).trans h))
  refine ⟨_, rfl, Kept.of_below hb35, ?_⟩
  clear hw' hb35
  simp only [Act.put, List.setIfInBounds_toArray, List.set_cons_zero, List.set_cons_succ]
  apply wpR_next 5 (some 11)
  · simp only [List.getElem?_toArray, List.getElem?_cons_succ, List.getElem?_cons_zero]; exact rfl
  · rfl
  · kernel_rfl
  · kernel_rfl
  · kernel_rfl
  · exact fun _ _ _ _ h => h
  apply Exists.intro
  apply And.intro
  · apply yr_run; rfl; intro w' hw'; go_simp; (try with_reducible rfl)
  simp only [Act.put, List.setIfInBounds_toArray, List.set_cons_zero, List.set_cons_succ]
  refine wpR_done (by kernel_rfl) ?_ _
  intro w38 hw'
  have Da_39 := Lib.hid (Da_35.out.bl hw')
  have D0_39 := Lib.hid (D0_35.out.bl hw')
  have X_39 := Lib.hid (X_35.out.bl hw')
  have Y_39 := Lib.hid (Y_35.out.bl hw')
  have Rt_39 := Lib.hid (Rt_35.out.bl hw')
  have Ru_39 := Lib.hid (Ru_35.out.bl hw')
  have R3_39 := Lib.hid (R3_35.out.bl hw')
  have R4_39 := Lib.hid (R4_35.out.bl hw')
  have Bel_39 := Lib.hid (bel_bl Bel_35.out hw')
  clear Da_35 D0_35 X_35 Y_35 Rt_35 Ru_35 R3_35 R4_35 Bel_35
  clear hw'
  clear R3_39 R4_39 Ru_39
  go_upto_region 8 with fail
  have Da_40 := Lib.hid (Da_39.out.dr)
  have D0_40 := Lib.hid (D0_39.out.dr)
  have X_40 := Lib.hid (X_39.out.dr)
  have Y_40 := Lib.hid (Y_39.out.dr)
  have Rt_40 := Lib.hid (Rt_39.out.dr)
  have Bel_40 := Lib.hid (bel_dr Bel_39.out)
  have ld41 : ∀ w', Kept Nil_ w38.drew w' → w'.cell? ⟨w.heap.size, 0, none⟩ = some (.slice A n c) := fun w' h => h.nil_cell (D0_40.out.cell (i := 0) rfl)
  have ld42 : ∀ w', Kept Nil_ w38.drew w' → w'.cell? ⟨w.heap.size, 1, none⟩ = some (.slice B m k) := fun w' h => h.nil_cell (D0_40.out.cell (i := 1) rfl)
  have ld43 : ∀ w', Kept Nil_ w38.drew w' → w'.cell? ⟨(w.heap.size + 1), 0, none⟩ = some (.int .i64 x1) := fun w' h => h.nil_cell (X_40.out.cell (i := 0) rfl)
  have ld44 : ∀ w', Kept Nil_ w38.drew w' → w'.cell? ⟨(w.heap.size + 1), 1, none⟩ = some (.int .i64 x2) := fun w' h => h.nil_cell (X_40.out.cell (i := 1) rfl)
  have ld45 : ∀ w', Kept Nil_ w38.drew w' → w'.cell? ⟨(w.heap.size + 1), 2, none⟩ = some (.int .i64 x3) := fun w' h => h.nil_cell (X_40.out.cell (i := 2) rfl)
  have ld46 : ∀ w', Kept Nil_ w38.drew w' → w'.cell? ⟨(w.heap.size + 1 + 1), 0, none⟩ = some (.int .i64 y1) := fun w' h => h.nil_cell (Y_40.out.cell (i := 0) rfl)
  have ld47 : ∀ w', Kept Nil_ w38.drew w' → w'.cell? ⟨(w.heap.size + 1 + 1), 1, none⟩ = some (.int .i64 y2) := fun w' h => h.nil_cell (Y_40.out.cell (i := 1) rfl)
  have ld48 : ∀ w', Kept Nil_ w38.drew w' → w'.cell? ⟨(w.heap.size + 1 + 1), 2, none⟩ = some (.int .i64 y3) := fun w' h => h.nil_cell (Y_40.out.cell (i := 2) rfl)
  refine wp_region_reg Nil_ (by kernel_rfl) ?_
  apply wpR_next 0 (some 31)
  · simp only [List.getElem?_toArray, List.getElem?_cons_succ, List.getElem?_cons_zero]; exact rfl
  · rfl
  · kernel_rfl
  · kernel_rfl
  · kernel_rfl
  · exact fun _ _ _ _ h => h
  apply Exists.intro
  apply And.intro
  · apply yr_run; rfl; intro w' hw'; go_simp; (try with_reducible rfl)
  simp only [Act.put, List.setIfInBounds_toArray, List.set_cons_zero, List.set_cons_succ]
  apply wpR_next 1 (some 32)
  · simp only [List.getElem?_toArray, List.getElem?_cons_succ, List.getElem?_cons_zero]; exact rfl
  · rfl
  · kernel_rfl
  · kernel_rfl
  · kernel_rfl
  · exact fun _ _ _ _ h => h
  apply Exists.intro
  apply And.intro
  · apply yr_run; rfl; intro w' hw'; go_simp; (try with_reducible rfl)
  simp only [Act.put, List.setIfInBounds_toArray, List.set_cons_zero, List.set_cons_succ]
  apply wpR_next 2 (some 33)
  · simp only [List.getElem?_toArray, List.getElem?_cons_succ, List.getElem?_cons_zero]; exact rfl
  · rfl
  · kernel_rfl
  · kernel_rfl
  · kernel_rfl
  · exact fun _ _ _ _ h => h
  apply Exists.intro
  apply And.intro
  · apply yr_run; rfl; intro w' hw'; go_simp; (try with_reducible rfl)
  simp only [Act.put, List.setIfInBounds_toArray, List.set_cons_zero, List.set_cons_succ]
  apply wpR_next 3 (some 34)
  · simp only [List.getElem?_toArray, List.getElem?_cons_succ, List.getElem?_cons_zero]; exact rfl
  · rfl
  · kernel_rfl
  · kernel_rfl
  · kernel_rfl
  · exact fun _ _ _ _ h => h
  apply Exists.intro
  apply And.intro
  · apply yr_run; rfl; intro w' hw'; go_simp; (try with_reducible rfl)
  simp only [Act.put, List.setIfInBounds_toArray, List.set_cons_zero, List.set_cons_succ]
  apply wpR_next 4 (some 35)
  · simp only [List.getElem?_toArray, List.getElem?_cons_succ, List.getElem?_cons_zero]; exact rfl
  · rfl
  · kernel_rfl
  · kernel_rfl
  · kernel_rfl
  · exact fun _ _ _ _ h => h
  apply Exists.intro
  apply And.intro
  · apply yr_run; rfl; intro w' hw'; go_simp; (try with_reducible rfl)
  simp only [Act.put, List.setIfInBounds_toArray, List.set_cons_zero, List.set_cons_succ]
  apply wpR_next 5 (some 36)
  · simp only [List.getElem?_toArray, List.getElem?_cons_succ, List.getElem?_cons_zero]; exact rfl
  · rfl
  · kernel_rfl
  · kernel_rfl
  · kernel_rfl
  · exact fun _ _ _ _ h => h
  apply Exists.intro
  apply And.intro
  · apply yr_run; rfl; intro w' hw'; go_simp; (try with_reducible rfl)
  simp only [Act.put, List.setIfInBounds_toArray, List.set_cons_zero, List.set_cons_succ]
  apply wpR_next 6 (some 37)
  · simp only [List.getElem?_toArray, List.getElem?_cons_succ, List.getElem?_cons_zero]; exact rfl
  · rfl
  · kernel_rfl
  · kernel_rfl
  · kernel_rfl
  · exact fun _ _ _ _ h => h
  apply Exists.intro
  apply And.intro
  · apply yr_run; rfl; intro w' hw'; go_simp; (try with_reducible rfl)
  simp only [Act.put, List.setIfInBounds_toArray, List.set_cons_zero, List.set_cons_succ]
  apply wpR_next 7 (some 38)
  · simp only [List.getElem?_toArray, List.getElem?_cons_succ, List.getElem?_cons_zero]; exact rfl
  · rfl
  · kernel_rfl
  · kernel_rfl
  · kernel_rfl
  · exact fun _ _ _ _ h => h
  apply Exists.intro
  apply And.intro
  · apply yr_run; rfl; intro w' hw'; go_simp; (try with_reducible rfl)
  simp only [Act.put, List.setIfInBounds_toArray, List.set_cons_zero, List.set_cons_succ]
  apply wpR_next 8 (some 39)
  · simp only [List.getElem?_toArray, List.getElem?_cons_succ, List.getElem?_cons_zero]; exact rfl
  · rfl
  · kernel_rfl
  · kernel_rfl
  · kernel_rfl
  · exact fun _ _ _ _ h => h
  apply Exists.intro
  apply And.intro
  · apply yr_run; rfl; intro w' hw'; go_simp; (try with_reducible rfl)
  simp only [Act.put, List.setIfInBounds_toArray, List.set_cons_zero, List.set_cons_succ]
  apply wpR_next 9 (some 40)
  · simp only [List.getElem?_toArray, List.getElem?_cons_succ, List.getElem?_cons_zero]; exact rfl
  · rfl
  · kernel_rfl
  · kernel_rfl
  · kernel_rfl
  · exact fun _ _ _ _ h => h
  apply Exists.intro
  apply And.intro
  · apply yr_run; rfl; intro w' hw'; go_simp; (try with_reducible rfl)
  simp only [Act.put, List.setIfInBounds_toArray, List.set_cons_zero, List.set_cons_succ]
  apply wpR_next 10 (some 41)
  · simp only [List.getElem?_toArray, List.getElem?_cons_succ, List.getElem?_cons_zero]; exact rfl
  · rfl
  · kernel_rfl
  · kernel_rfl
  · kernel_rfl
  · exact fun _ _ _ _ h => h
  apply Exists.intro
  apply And.intro
  · apply yr_run; rfl; intro w' hw'; go_simp; (try with_reducible rfl)
  simp only [Act.put, List.setIfInBounds_toArray, List.set_cons_zero, List.set_cons_succ]
  apply wpR_next 12 (some 43)
  · simp only [List.getElem?_toArray, List.getElem?_cons_succ, List.getElem?_cons_zero]; exact rfl
  · rfl
  · kernel_rfl
  · kernel_rfl
  · kernel_rfl
  · exact fun _ _ _ _ h => h
  apply Exists.intro
  apply And.intro
  · apply yr_run; rfl; intro w' hw'; go_simp; (try with_reducible rfl)
  simp only [Act.put, List.setIfInBounds_toArray, List.set_cons_zero, List.set_cons_succ]
  apply wpR_next 13 (some 44)
  · simp only [List.getElem?_toArray, List.getElem?_cons_succ, List.getElem?_cons_zero]; exact rfl
  · rfl
  · kernel_rfl
  · kernel_rfl
  · kernel_rfl
  · exact fun _ _ _ _ h => h
  apply Exists.intro
  apply And.intro
  · apply yr_run; rfl; intro w' hw'; go_simp; (try with_reducible rfl)
  simp only [Act.put, List.setIfInBounds_toArray, List.set_cons_zero, List.set_cons_succ]
  apply wpR_call 11 (some 42)
  · simp only [List.getElem?_toArray, List.getElem?_cons_succ, List.getElem?_cons_zero]; exact rfl
  · rfl
  · kernel_rfl
  · rfl
  · intro w'; go_simp; first | done | exact ⟨rfl, rfl⟩ | with_reducible rfl
  intro w' hw'
  refine (HSh.out _ (Da_40.out.bl hw')).mono ?_
  rintro e w49 ⟨rfl, hb49⟩
  have Da_49 := Lib.hid ((Da_40.out.bl hw').bl hb49)
  have D0_49 := Lib.hid ((D0_40.out.bl hw').bl hb49)
  have X_49 := Lib.hid ((X_40.out.bl hw').bl hb49)
  have Y_49 := Lib.hid ((Y_40.out.bl hw').bl hb49)
  have Rt_49 := Lib.hid ((Rt_40.out.bl hw').bl hb49)
  have Bel_49 := Lib.hid (bel_bl (bel_bl Bel_40.out hw') hb49)
  have ld50 := fun w'' (h : Kept Nil_ w49 w'') => ld41 w'' ((Kept.of_ext hw').trans ((Kept.of_below hb49).trans h))
  have ld51 := fun w'' (h : Kept Nil_ w49 w'') => ld42 w'' ((Kept.of_ext hw').trans ((Kept.of_below hb49).trans h))
  have ld52 := fun w'' (h : Kept Nil_ w49 w'') => ld43 w'' ((Kept.of_ext hw').trans ((Kept.of_below hb49).trans h))
  have ld53 := fun w'' (h : Kept Nil_ w49 w'') => ld44 w'' ((Kept.of_ext hw').trans ((Kept.of_below hb49).trans h))
  have ld54 := fun w'' (h : Kept Nil_ w49 w'') => ld45 w'' ((Kept.of_ext hw').trans ((Kept.of_below hb49).trans h))
  have ld55 := fun w'' (h : Kept Nil_ w49 w'') => ld46 w'' ((Kept.of_ext hw').trans ((Kept.of_below hb49).trans h))
  have ld56 := fun w'' (h : Kept Nil_ w49 w'') => ld47 w'' ((Kept.of_ext hw').trans ((Kept.of_below hb49).trans h))
  have ld57 := fun w'' (h : Kept Nil_ w49 w'') => ld48 w'' ((Kept.of_ext hw').trans ((Kept.of_below hb49).trans h))
  refine ⟨_, rfl, Kept.of_below hb49, ?_⟩
  clear hw' hb49
  simp only [Act.put, List.setIfInBounds_toArray, List.set_cons_zero, List.set_cons_succ]
  apply wpR_call 14 (some 45)
  · simp only [List.getElem?_toArray, List.getElem?_cons_succ, List.getElem?_cons_zero]; exact rfl
  · rfl
  · kernel_rfl
  · rfl
  · intro w'; go_simp; first | done | exact ⟨rfl, rfl⟩ | with_reducible rfl
  intro w' hw'
  refine (HIx.out _ _ _ (Rt_49.out.bl hw')).mono ?_
  rintro e w58 ⟨ix, rfl, hix, hb58⟩
  have Hix := Lib.hid hix
  clear hix
  have Da_58 := Lib.hid ((Da_49.out.bl hw').bl hb58)
  have D0_58 := Lib.hid ((D0_49.out.bl hw').bl hb58)
  have X_58 := Lib.hid ((X_49.out.bl hw').bl hb58)
  have Y_58 := Lib.hid ((Y_49.out.bl hw').bl hb58)
  have Rt_58 := Lib.hid ((Rt_49.out.bl hw').bl hb58)
  have Bel_58 := Lib.hid (bel_bl (bel_bl Bel_49.out hw') hb58)
  have ld59 := fun w'' (h : Kept Nil_ w58 w'') => ld50 w'' ((Kept.of_ext hw').trans ((Kept.of_below hb58).trans h))
  have ld60 := fun w'' (h : Kept Nil_ w58 w'') => ld51 w'' ((Kept.of_ext hw').trans ((Kept.of_below hb58).trans h))
  have ld61 := fun w'' (h : Kept Nil_ w58 w'') => ld52 w'' ((Kept.of_ext hw').trans ((Kept.of_below hb58).trans h))
  have ld62 := fun w'' (h : Kept Nil_ w58 w'') => ld53 w'' ((Kept.of_ext hw').trans ((Kept.of_below hb58).trans h))
  have ld63 := fun w'' (h : Kept Nil_ w58 w'') => ld54 w'' ((Kept.of_ext hw').trans ((Kept.of_below hb58).trans h))
  have ld64 := fun w'' (h : Kept Nil_ w58 w'') => ld55 w'' ((Kept.of_ext hw').trans ((Kept.of_below hb58).trans h))
  have ld65 := fun w'' (h : Kept Nil_ w58 w'') => ld56 w'' ((Kept.of_ext hw').trans ((Kept.of_below hb58).trans h))
  have ld66 := fun w'' (h : Kept Nil_ w58 w'') => ld57 w'' ((Kept.of_ext hw').trans ((Kept.of_below hb58).trans h))
  refine ⟨_, rfl, Kept.of_below hb58, ?_⟩
  clear hw' hb58
  simp only [Act.put, List.setIfInBounds_toArray, List.set_cons_zero, List.set_cons_succ]
  apply wpR_next 15 (some 46)
  · simp only [List.getElem?_toArray, List.getElem?_cons_succ, List.getElem?_cons_zero]; exact rfl
  · rfl
  · kernel_rfl
  · kernel_rfl
  · kernel_rfl
  · exact fun _ _ _ _ h => h
  apply Exists.intro
  apply And.intro
  · apply yr_run; rfl; intro w' hw'; go_simp; (try with_reducible rfl)
  simp only [Act.put, List.setIfInBounds_toArray, List.set_cons_zero, List.set_cons_succ]
  apply wpR_next 16 (some 47)
  · simp only [List.getElem?_toArray, List.getElem?_cons_succ, List.getElem?_cons_zero]; exact rfl
  · rfl
  · kernel_rfl
  · kernel_rfl
  · kernel_rfl
  · exact fun _ _ _ _ h => h
  apply Exists.intro
  apply And.intro
  · apply yr_run; rfl; intro w' hw'; go_simp; (try with_reducible rfl)
  simp only [Act.put, List.setIfInBounds_toArray, List.set_cons_zero, List.set_cons_succ]
  apply wpR_next 17 (some 48)
  · simp only [List.getElem?_toArray, List.getElem?_cons_succ, List.getElem?_cons_zero]; exact rfl
  · rfl
  · kernel_rfl
  · kernel_rfl
  · kernel_rfl
  · exact fun _ _ _ _ h => h
  apply Exists.intro
  apply And.intro
  · apply yr_run; rfl; intro w' hw'; go_simp; (try with_reducible rfl)
  simp only [Act.put, List.setIfInBounds_toArray, List.set_cons_zero, List.set_cons_succ]
  apply wpR_next 18 (some 6)
  · simp only [List.getElem?_toArray, List.getElem?_cons_succ, List.getElem?_cons_zero]; exact rfl
  · rfl
  · kernel_rfl
  · kernel_rfl
  · kernel_rfl
  · exact fun _ _ _ _ h => h
  apply Exists.intro
  apply And.intro
  · apply yr_run; rfl; intro w' hw'; go_simp; (try with_reducible rfl)
  simp only [Act.put, List.setIfInBounds_toArray, List.set_cons_zero, List.set_cons_succ]
  refine wpR_done (by kernel_rfl) ?_ _
  intro w67 hw'
  have Da_68 := Lib.hid (Da_58.out.bl hw')
  have D0_68 := Lib.hid (D0_58.out.bl hw')
  have X_68 := Lib.hid (X_58.out.bl hw')
  have Y_68 := Lib.hid (Y_58.out.bl hw')
  have Rt_68 := Lib.hid (Rt_58.out.bl hw')
  have Bel_68 := Lib.hid (bel_bl Bel_58.out hw')
  clear Da_58 D0_58 X_58 Y_58 Rt_58 Bel_58
  clear hw'
  go_wp2
  go_ret
  exact ⟨by have h9 := Hix.out; first | (rw [h9]; simp) | simp [h9], Bel_68.out⟩
end Go.Proofs.Ytjkbcpikdkidhaa
