/- Phi, the program's and the document's. -/
import Derived.Test.YtpindjknngcccaaFc10
namespace Go.Proofs.Ytpindjknngcccaa
open Go.RowKit
set_option linter.unusedSimpArgs false
set_option linter.unusedVariables false

set_option maxRecDepth 100000 in
set_option maxHeartbeats 4000000 in
theorem rphi_any (A : Option Addr) (n c : Nat) (Vs : List VC) (B : Option Addr) (m k : Nat) (Es : List EC) (x1 x2 x3 : Int) (w : World) (h : DgIn w A n c Vs B m k Es) (hf : Formed Vs Es) (hb : -9223372036854775808 ≤ x3 ∧ x3 ≤ 9223372036854775807) :
    Calls Try.prog 44 #[.agg #[.slice A n c, .slice B m k], .agg #[.int .i64 x1, .int .i64 x2, .int .i64 x3]] w (GivesD w (if (x1, x2, x3) ∈ ringsOf Vs then phF Vs (x1, x2, x3) else (0, 0, 0)) (decide ((x1, x2, x3) ∈ ringsOf Vs))) := by
  have HDa := Lib.hid h
  obtain ⟨w1_, w2_⟩ := hf.othW (d := (x1, x2, x3)) hb
  have HOt := Lib.hid (rother_w x1 x2 x3)
  have HSg := fun W (h : DgIn W A n c Vs B m k Es) => rsigma_any A n c Vs B m k Es (othW (x1, x2, x3)).1 (othW (x1, x2, x3)).2.1 (othW (x1, x2, x3)).2.2 W h hf
  have hv : sgF Vs (othW (x1, x2, x3)) = if (x1, x2, x3) ∈ ringsOf Vs then phF Vs (x1, x2, x3) else (0, 0, 0) := by
    by_cases q : (x1, x2, x3) ∈ ringsOf Vs
    · rw [if_pos q, w2_ q]
      rfl
    · rw [if_neg q, sgF, sigM_no hf.once (fun h => q (w1_.1 h))]
      rfl
  have hd : decide (othW (x1, x2, x3) ∈ ringsOf Vs) = decide ((x1, x2, x3) ∈ ringsOf Vs) := decide_eq_decide.2 w1_
  replace HSg : ∀ W, DgIn W A n c Vs B m k Es → Calls Try.prog 69 #[.agg #[.slice A n c, .slice B m k], .agg #[.int .i64 (othW (x1, x2, x3)).1, .int .i64 (othW (x1, x2, x3)).2.1, .int .i64 (othW (x1, x2, x3)).2.2]] W (GivesD W (if (x1, x2, x3) ∈ ringsOf Vs then phF Vs (x1, x2, x3) else (0, 0, 0)) (decide ((x1, x2, x3) ∈ ringsOf Vs))) := fun W h => by
    rw [← hv, ← hd]
    exact HSg W h
  have hr : ∀ x ∈ Vs, x.2.1.2.1 ≤ 1000000 := fun x hx => by have := (hf.small h).2.2 x hx; omega
  have hn : n ≤ 1000000 := by have := (hf.small h).1; omega
  have HAt := fun W (h : DgIn W A n c Vs B m k Es) => rat_any A n c Vs B m k Es x1 x2 x3 W h (by omega) (fun x hx => by have := hr x hx; omega)
  obtain ⟨⟨⟨a1, a2⟩, ok⟩, ga⟩ : ∃ z, atV Vs (x1, x2, x3) = z := ⟨_, rfl⟩
  have P3 : ok = decide ((x1, x2, x3) ∈ ringsOf Vs) := by
    have := (at_fnd hf (x1, x2, x3)).2.2
    rwa [ga] at this
  rw [ga] at HAt
  replace HAt := Lib.hid HAt
  clear ga hr hn
  have HZ0 : RowKit.Hid (decide ((x1, x2, x3) ∈ ringsOf Vs) = false → (if (x1, x2, x3) ∈ ringsOf Vs then phF Vs (x1, x2, x3) else (0, 0, 0)) = ((0, 0, 0) : D)) := Lib.hid (fun e => if_neg (of_decide_eq_false e))
  clear w1_ w2_ hv hd h hf hb
  obtain ⟨⟨y1, y2, y3⟩, gy⟩ : ∃ z, (if (x1, x2, x3) ∈ ringsOf Vs then phF Vs (x1, x2, x3) else (0, 0, 0)) = z := ⟨_, rfl⟩
  obtain ⟨oy, goy⟩ : ∃ z, decide ((x1, x2, x3) ∈ ringsOf Vs) = z := ⟨_, rfl⟩
  rw [gy, goy] at HSg HZ0
  rw [goy] at P3
  replace P3 := Lib.hid P3
  rw [gy, goy]
  clear gy goy
  obtain ⟨⟨u1, u2, u3⟩, gu⟩ : ∃ z, othW (x1, x2, x3) = z := ⟨_, rfl⟩
  rw [gu] at HOt HSg
  clear gu
  replace HSg := Lib.hid HSg
  go_enter Try.func44, Try.ntmps44
  have lw1 : ((((w.alloc (.cells #[.slice A n c, .slice B m k] 25)).alloc (.cells #[.int .i64 x1, .int .i64 x2, .int .i64 x3] 39)).alloc (.cells #[.int .i64 0, .int .i64 0, .int .i64 0] 39))).cell? ⟨w.heap.size, 0, none⟩ = some (.slice A n c) := (((show Whole (w.alloc (.cells #[.slice A n c, .slice B m k] 25)) (w.heap.size) (25) ([.slice A n c, .slice B m k]) from Whole.new2 (by first | rfl | simp)).al (.cells #[.int .i64 x1, .int .i64 x2, .int .i64 x3] 39)).al (.cells #[.int .i64 0, .int .i64 0, .int .i64 0] 39)).cell (i := 0) rfl
  have lw2 : ((((w.alloc (.cells #[.slice A n c, .slice B m k] 25)).alloc (.cells #[.int .i64 x1, .int .i64 x2, .int .i64 x3] 39)).alloc (.cells #[.int .i64 0, .int .i64 0, .int .i64 0] 39))).cell? ⟨w.heap.size, 1, none⟩ = some (.slice B m k) := (((show Whole (w.alloc (.cells #[.slice A n c, .slice B m k] 25)) (w.heap.size) (25) ([.slice A n c, .slice B m k]) from Whole.new2 (by first | rfl | simp)).al (.cells #[.int .i64 x1, .int .i64 x2, .int .i64 x3] 39)).al (.cells #[.int .i64 0, .int .i64 0, .int .i64 0] 39)).cell (i := 1) rfl
  have lw3 : ((((w.alloc (.cells #[.slice A n c, .slice B m k] 25)).alloc (.cells #[.int .i64 x1, .int .i64 x2, .int .i64 x3] 39)).alloc (.cells #[.int .i64 0, .int .i64 0, .int .i64 0] 39))).cell? ⟨w.heap.size + 1, 0, none⟩ = some (.int .i64 x1) := ((show Whole ((w.alloc (.cells #[.slice A n c, .slice B m k] 25)).alloc (.cells #[.int .i64 x1, .int .i64 x2, .int .i64 x3] 39)) ((w.heap.size + 1)) (39) ([.int .i64 x1, .int .i64 x2, .int .i64 x3]) from Whole.new2 (by first | rfl | simp)).al (.cells #[.int .i64 0, .int .i64 0, .int .i64 0] 39)).cell (i := 0) rfl
  have lw4 : ((((w.alloc (.cells #[.slice A n c, .slice B m k] 25)).alloc (.cells #[.int .i64 x1, .int .i64 x2, .int .i64 x3] 39)).alloc (.cells #[.int .i64 0, .int .i64 0, .int .i64 0] 39))).cell? ⟨w.heap.size + 1, 1, none⟩ = some (.int .i64 x2) := ((show Whole ((w.alloc (.cells #[.slice A n c, .slice B m k] 25)).alloc (.cells #[.int .i64 x1, .int .i64 x2, .int .i64 x3] 39)) ((w.heap.size + 1)) (39) ([.int .i64 x1, .int .i64 x2, .int .i64 x3]) from Whole.new2 (by first | rfl | simp)).al (.cells #[.int .i64 0, .int .i64 0, .int .i64 0] 39)).cell (i := 1) rfl
  have lw5 : ((((w.alloc (.cells #[.slice A n c, .slice B m k] 25)).alloc (.cells #[.int .i64 x1, .int .i64 x2, .int .i64 x3] 39)).alloc (.cells #[.int .i64 0, .int .i64 0, .int .i64 0] 39))).cell? ⟨w.heap.size + 1, 2, none⟩ = some (.int .i64 x3) := ((show Whole ((w.alloc (.cells #[.slice A n c, .slice B m k] 25)).alloc (.cells #[.int .i64 x1, .int .i64 x2, .int .i64 x3] 39)) ((w.heap.size + 1)) (39) ([.int .i64 x1, .int .i64 x2, .int .i64 x3]) from Whole.new2 (by first | rfl | simp)).al (.cells #[.int .i64 0, .int .i64 0, .int .i64 0] 39)).cell (i := 2) rfl
  go_wp2_with fail
  clear lw1 lw2 lw3 lw4 lw5
  refine (HAt.out _ (((HDa.out.al (.cells #[.slice A n c, .slice B m k] 25)).al (.cells #[.int .i64 x1, .int .i64 x2, .int .i64 x3] 39)).al (.cells #[.int .i64 0, .int .i64 0, .int .i64 0] 39))).mono ?_
  rintro e w6 ⟨rfl, hb6⟩
  have Da_7 := Lib.hid ((((HDa.out.al (.cells #[.slice A n c, .slice B m k] 25)).al (.cells #[.int .i64 x1, .int .i64 x2, .int .i64 x3] 39)).al (.cells #[.int .i64 0, .int .i64 0, .int .i64 0] 39)).bl hb6)
  have D0_7 := Lib.hid ((((show Whole (w.alloc (.cells #[.slice A n c, .slice B m k] 25)) (w.heap.size) (25) ([.slice A n c, .slice B m k]) from Whole.new2 (by first | rfl | simp)).al (.cells #[.int .i64 x1, .int .i64 x2, .int .i64 x3] 39)).al (.cells #[.int .i64 0, .int .i64 0, .int .i64 0] 39)).bl hb6)
  have X_7 := Lib.hid (((show Whole ((w.alloc (.cells #[.slice A n c, .slice B m k] 25)).alloc (.cells #[.int .i64 x1, .int .i64 x2, .int .i64 x3] 39)) ((w.heap.size + 1)) (39) ([.int .i64 x1, .int .i64 x2, .int .i64 x3]) from Whole.new2 (by first | rfl | simp)).al (.cells #[.int .i64 0, .int .i64 0, .int .i64 0] 39)).bl hb6)
  have R_7 := Lib.hid ((show Whole (((w.alloc (.cells #[.slice A n c, .slice B m k] 25)).alloc (.cells #[.int .i64 x1, .int .i64 x2, .int .i64 x3] 39)).alloc (.cells #[.int .i64 0, .int .i64 0, .int .i64 0] 39)) ((w.heap.size + 1 + 1)) (39) ([.int .i64 0, .int .i64 0, .int .i64 0]) from Whole.new2 (by first | rfl | simp)).bl hb6)
  have Bel_7 := Lib.hid (bel_bl (bel_al (bel_al (bel_al (Below.refl _ w) (.cells #[.slice A n c, .slice B m k] 25)) (.cells #[.int .i64 x1, .int .i64 x2, .int .i64 x3] 39)) (.cells #[.int .i64 0, .int .i64 0, .int .i64 0] 39)) hb6)
  clear HDa
  clear hb6
  have LO_D0_8 : RowKit.Hid (w.heap.size ≤ w.heap.size) := Lib.hid (by omega)
  have LO_X_9 : RowKit.Hid (w.heap.size ≤ (w.heap.size + 1)) := Lib.hid (by omega)
  have NE_D0_X : RowKit.Hid (w.heap.size ≠ (w.heap.size + 1)) := Lib.hid (by omega)
  have LO_R_10 : RowKit.Hid (w.heap.size ≤ (w.heap.size + 1 + 1)) := Lib.hid (by omega)
  have NE_D0_R : RowKit.Hid (w.heap.size ≠ (w.heap.size + 1 + 1)) := Lib.hid (by omega)
  have NE_X_R : RowKit.Hid ((w.heap.size + 1) ≠ (w.heap.size + 1 + 1)) := Lib.hid (by omega)
  cases ok with
  | false =>
    obtain rfl : false = oy := P3.out
    obtain ⟨hy1, hy2, hy3⟩ : y1 = 0 ∧ y2 = 0 ∧ y3 = 0 := by
      have := HZ0.out rfl
      simp only [Prod.mk.injEq] at this
      exact this
    subst hy1 hy2 hy3
    have z0 := (R_7.out.al (.cells #[.int .i64 a1, .int .i64 a2] 35)).cell (i := 0) rfl
    have z1 := (R_7.out.al (.cells #[.int .i64 a1, .int .i64 a2] 35)).cell (i := 1) rfl
    have z2 := (R_7.out.al (.cells #[.int .i64 a1, .int .i64 a2] 35)).cell (i := 2) rfl
    have f0 := (R_7.out.al (.cells #[.int .i64 a1, .int .i64 a2] 35)).free 0
    have f1 := (R_7.out.al (.cells #[.int .i64 a1, .int .i64 a2] 35)).free 1
    have f2 := (R_7.out.al (.cells #[.int .i64 a1, .int .i64 a2] 35)).free 2
    have HY := Lib.hid ((((R_7.out.al (.cells #[.int .i64 a1, .int .i64 a2] 35)).set_ 0 (.int .i64 0)).set_ 1 (.int .i64 0)).set_ 2 (.int .i64 0))
    have HBz := Lib.hid ((((bel_al Bel_7.out (.cells #[.int .i64 a1, .int .i64 a2] 35)).setCell (p := ⟨w.heap.size + 1 + 1, 0, none⟩) (show w.heap.size ≤ w.heap.size + 1 + 1 by omega) (.int .i64 0)).setCell (p := ⟨w.heap.size + 1 + 1, 1, none⟩) (show w.heap.size ≤ w.heap.size + 1 + 1 by omega) (.int .i64 0)).setCell (p := ⟨w.heap.size + 1 + 1, 2, none⟩) (show w.heap.size ≤ w.heap.size + 1 + 1 by omega) (.int .i64 0))
    go_wp2
    exact ret_whole2 rfl (w.heap.size + 1 + 1) rfl rfl HY.out Try.underlying39 rfl (by kernel_rfl) rfl ⟨rfl, HBz.out⟩
  | true =>
  clear P3 HAt HZ0
  go_upto_region 4 with fail
  have Da_11 := Lib.hid ((Da_7.out.al (.cells #[.int .i64 a1, .int .i64 a2] 35)))
  have D0_11 := Lib.hid ((D0_7.out.al (.cells #[.int .i64 a1, .int .i64 a2] 35)))
  have X_11 := Lib.hid ((X_7.out.al (.cells #[.int .i64 a1, .int .i64 a2] 35)))
  have R_11 := Lib.hid ((R_7.out.al (.cells #[.int .i64 a1, .int .i64 a2] 35)))
  have I_11 := Lib.hid ((show Whole (w6.alloc (.cells #[.int .i64 a1, .int .i64 a2] 35)) (w6.heap.size) (35) ([.int .i64 a1, .int .i64 a2]) from Whole.new2 (by first | rfl | simp)))
  have Bel_11 := Lib.hid (bel_al Bel_7.out (.cells #[.int .i64 a1, .int .i64 a2] 35))
  obtain ⟨v11, gv11⟩ : ∃ x, (w6.alloc (.cells #[.int .i64 a1, .int .i64 a2] 35)) = x := ⟨_, rfl⟩
  rw [gv11] at Da_11 D0_11 X_11 R_11 I_11 Bel_11 ⊢
  clear gv11
  clear Da_7 D0_7 X_7 R_7 Bel_7
  have HLd : RowKit.Hid (∀ W', Ext v11.drew W' → W'.cell? ⟨w.heap.size, 0, none⟩ = some (.slice A n c) ∧ W'.cell? ⟨w.heap.size, 1, none⟩ = some (.slice B m k) ∧ W'.cell? ⟨w.heap.size + 1, 0, none⟩ = some (.int .i64 x1) ∧ W'.cell? ⟨w.heap.size + 1, 1, none⟩ = some (.int .i64 x2) ∧ W'.cell? ⟨w.heap.size + 1, 2, none⟩ = some (.int .i64 x3)) :=
    Lib.hid (fun W' h => ⟨(D0_11.out.dr.bl h).cell (i := 0) rfl, (D0_11.out.dr.bl h).cell (i := 1) rfl, (X_11.out.dr.bl h).cell (i := 0) rfl, (X_11.out.dr.bl h).cell (i := 1) rfl, (X_11.out.dr.bl h).cell (i := 2) rfl⟩)
  refine wp_region_in2 6 (fun i => i = w.heap.size + 1 + 1) (gamL [some (.agg #[.slice A n c, .slice B m k]), some (.agg #[.int .i64 x1, .int .i64 x2, .int .i64 x3]), some (.agg #[.int .i64 u1, .int .i64 u2, .int .i64 u3]), some (.tuple #[.agg #[.int .i64 y1, .int .i64 y2, .int .i64 y3], .bool oy]), some (.agg #[.int .i64 y1, .int .i64 y2, .int .i64 y3]), some (.bool oy)] 99 0 0 []) (Ext v11.drew) (by kernel_rfl) (by kernel_rfl) (by kernel_rfl) (by kernel_rfl) (by kernel_rfl) (fun i v w1 w2 h hx => gamL_up i v w1 w2 h hx) (fun _ _ h k => h.trans k) (Ext.refl _) ?_ ?_
  · intro i hi9
    have hcase : i = 0 ∨ i = 1 ∨ i = 2 ∨ i = 3 ∨ i = 4 ∨ i = 5 := by omega
    rcases hcase with rfl | rfl | rfl | rfl | rfl | rfl
    · intro o ho x y hg hdep
      simp only [List.getElem?_toArray, List.getElem?_cons_succ, List.getElem?_cons_zero, Option.some.injEq] at ho
      subst ho
      obtain ⟨hl0, hl1, hl2, hl3, hl4⟩ := HLd.out _ hg
      simp only [dsts, List.map_cons, List.map_nil, putAll, Act.put, List.setIfInBounds_toArray, List.set_cons_zero, List.set_cons_succ]
      refine .inl ⟨by rfl, ?_⟩
      go_simp
      exact ⟨Ext.refl _, rfl⟩
    · intro o ho x y hg hdep
      simp only [List.getElem?_toArray, List.getElem?_cons_succ, List.getElem?_cons_zero, Option.some.injEq] at ho
      subst ho
      obtain ⟨hl0, hl1, hl2, hl3, hl4⟩ := HLd.out _ hg
      simp only [dsts, List.map_cons, List.map_nil, putAll, Act.put, List.setIfInBounds_toArray, List.set_cons_zero, List.set_cons_succ]
      refine .inl ⟨by rfl, ?_⟩
      go_simp
      exact ⟨Ext.refl _, rfl⟩
    · intro o ho x y hg hdep
      simp only [List.getElem?_toArray, List.getElem?_cons_succ, List.getElem?_cons_zero, Option.some.injEq] at ho
      subst ho
      have d1 : x 1 = .agg #[.int .i64 x1, .int .i64 x2, .int .i64 x3] := hdep 1 (by decide)
      simp only [dsts, List.map_cons, List.map_nil, putAll, Act.put, List.setIfInBounds_toArray, List.set_cons_zero, List.set_cons_succ]
      simp only [d1]
      refine .inl ⟨by rfl, outT_call (by go_simp; first | done | exact ⟨rfl, rfl⟩ | with_reducible rfl) ?_⟩
      refine (HOt.out y).mono ?_
      rintro e w2 ⟨rfl, hb⟩
      exact ⟨_, rfl, hb, rfl⟩
    · intro o ho x y hg hdep
      simp only [List.getElem?_toArray, List.getElem?_cons_succ, List.getElem?_cons_zero, Option.some.injEq] at ho
      subst ho
      have d0 : x 0 = .agg #[.slice A n c, .slice B m k] := hdep 0 (by decide)
      have d2 : x 2 = .agg #[.int .i64 u1, .int .i64 u2, .int .i64 u3] := hdep 2 (by decide)
      have d2 : x 2 = .agg #[.int .i64 u1, .int .i64 u2, .int .i64 u3] := hdep 2 (by decide)
      simp only [dsts, List.map_cons, List.map_nil, putAll, Act.put, List.setIfInBounds_toArray, List.set_cons_zero, List.set_cons_succ]
      simp only [d0, d2, d2]
      refine .inl ⟨by rfl, outT_call (by go_simp; first | done | exact ⟨rfl, rfl⟩ | with_reducible rfl) ?_⟩
      refine (HSg.out y (Da_11.out.dr.bl hg)).mono ?_
      rintro e w2 ⟨rfl, hb⟩
      exact ⟨_, rfl, hb, rfl⟩
    · intro o ho x y hg hdep
      simp only [List.getElem?_toArray, List.getElem?_cons_succ, List.getElem?_cons_zero, Option.some.injEq] at ho
      subst ho
      have d3 : x 3 = .tuple #[.agg #[.int .i64 y1, .int .i64 y2, .int .i64 y3], .bool oy] := hdep 3 (by decide)
      simp only [dsts, List.map_cons, List.map_nil, putAll, Act.put, List.setIfInBounds_toArray, List.set_cons_zero, List.set_cons_succ]
      simp only [d3]
      refine .inl ⟨by rfl, ?_⟩
      go_simp
      exact ⟨Ext.refl _, rfl⟩
    · intro o ho x y hg hdep
      simp only [List.getElem?_toArray, List.getElem?_cons_succ, List.getElem?_cons_zero, Option.some.injEq] at ho
      subst ho
      have d3 : x 3 = .tuple #[.agg #[.int .i64 y1, .int .i64 y2, .int .i64 y3], .bool oy] := hdep 3 (by decide)
      simp only [dsts, List.map_cons, List.map_nil, putAll, Act.put, List.setIfInBounds_toArray, List.set_cons_zero, List.set_cons_succ]
      simp only [d3]
      refine .inl ⟨by rfl, ?_⟩
      go_simp
      exact ⟨Ext.refl _, rfl⟩
  intro x y hg hall
  have d0 : x 0 = .agg #[.slice A n c, .slice B m k] := hall 0 (by decide)
  have d1 : x 1 = .agg #[.int .i64 x1, .int .i64 x2, .int .i64 x3] := hall 1 (by decide)
  have d2 : x 2 = .agg #[.int .i64 u1, .int .i64 u2, .int .i64 u3] := hall 2 (by decide)
  have d3 : x 3 = .tuple #[.agg #[.int .i64 y1, .int .i64 y2, .int .i64 y3], .bool oy] := hall 3 (by decide)
  have d4 : x 4 = .agg #[.int .i64 y1, .int .i64 y2, .int .i64 y3] := hall 4 (by decide)
  have d5 : x 5 = .bool oy := hall 5 (by decide)
  simp only [dsts, List.map_cons, List.map_nil, putAll, Act.put, List.setIfInBounds_toArray, List.set_cons_zero, List.set_cons_succ]
  simp only [d0, d1, d2, d3, d4, d5]
  clear hall d0 d1 d2 d3 d4 d5
  apply wpR_store 6
  · simp only [List.getElem?_toArray, List.getElem?_cons_succ, List.getElem?_cons_zero]; exact rfl
  · rfl
  · kernel_rfl
  · rfl
  intro w' hw'
  have HYw := Lib.hid ((R_11.out.dr.bl hg).bl hw')
  have HBw := Lib.hid (bel_bl (bel_bl (bel_dr Bel_11.out) hg) hw')
  refine ⟨w'.setRow (w.heap.size + 1 + 1) #[.int .i64 y1, .int .i64 y2, .int .i64 y3], store_row_run 39 (.tmp 4) (.tmp 21) rfl (w.heap.size + 1 + 1) rfl [.int .i64 y1, .int .i64 y2, .int .i64 y3] rfl 39 [.int .i64 0, .int .i64 0, .int .i64 0] HYw.out (by kernel_rfl) rfl (by simp [Value.oneCell']), kept_row (S := fun i => i = w.heap.size + 1 + 1) rfl _, ?_⟩
  have HYs : RowKit.Hid (Whole (w'.setRow (w.heap.size + 1 + 1) #[.int .i64 y1, .int .i64 y2, .int .i64 y3]) (w.heap.size + 1 + 1) 39 [.int .i64 y1, .int .i64 y2, .int .i64 y3]) := Lib.hid (Whole.row HYw.out [.int .i64 y1, .int .i64 y2, .int .i64 y3])
  have HBs : RowKit.Hid (Below w.heap.size w (w'.setRow (w.heap.size + 1 + 1) #[.int .i64 y1, .int .i64 y2, .int .i64 y3])) := Lib.hid (below_row HBw.out (by omega) _)
  obtain ⟨V1, gV1⟩ : ∃ z, w'.setRow (w.heap.size + 1 + 1) #[.int .i64 y1, .int .i64 y2, .int .i64 y3] = z := ⟨_, rfl⟩
  rw [gV1] at HYs HBs ⊢
  clear hw' hg gV1 HYw HBw HLd
  apply wpR_next 7 (some 5)
  · simp only [List.getElem?_toArray, List.getElem?_cons_succ, List.getElem?_cons_zero]; exact rfl
  · rfl
  · kernel_rfl
  · kernel_rfl
  · kernel_rfl
  · exact fun _ _ _ _ h => h
  apply Exists.intro
  apply And.intro
  · apply yr_run; rfl; intro w' hw'; go_simp; (try with_reducible rfl)
  simp only [Act.put, List.setIfInBounds_toArray, List.set_cons_zero, List.set_cons_succ]
  refine wpR_done (by kernel_rfl) ?_ _
  intro W8 hw8
  have HY := Lib.hid (HYs.out.bl hw8)
  have HBz := Lib.hid (bel_bl HBs.out hw8)
  clear hw8 HYs HBs
  go_wp2
  exact ret_whole2 rfl (w.heap.size + 1 + 1) rfl rfl HY.out Try.underlying39 rfl (by kernel_rfl) rfl ⟨rfl, HBz.out⟩
end Go.Proofs.Ytpindjknngcccaa
