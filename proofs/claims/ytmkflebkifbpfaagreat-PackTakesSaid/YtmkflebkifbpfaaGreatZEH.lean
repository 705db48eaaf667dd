/- Several texts in one. -/
import Derived.Test.YtmkflebkifbpfaaGreatZEA
import Derived.Test.YtmkflebkifbpfaaGreatZEG
import Derived.Test.YtmkflebkifbpfaaGreatZEF
import Derived.Test.YtmkflebkifbpfaaGreatZEB
import Derived.Test.YtmkflebkifbpfaaGreatZED
import Derived.Laws.CopyOwn
import Derived.LoopTactic
import Derived.Lib.AppendStr
/- Phi, the program's and the document's. -/
set_option linter.unusedSimpArgs false
set_option linter.unusedVariables false
namespace Go.Proofs.YtmkflebkifbpfaaGreat
open Go.RowKit
set_option maxRecDepth 100000 in
set_option maxHeartbeats 4000000 in
theorem rphi_any (A : Option Addr) (n c : Nat) (Vs : List VC) (B : Option Addr) (m k : Nat) (Es : List EC) (x1 x2 x3 : Int) (w : World) (h : DgIn w A n c Vs B m k Es) (hf : Formed Vs Es) (hb : -9223372036854775808 ≤ x3 ∧ x3 ≤ 9223372036854775807) :
    Calls Tryz.prog 94 #[.agg #[.slice A n c, .slice B m k], .agg #[.int .i64 x1, .int .i64 x2, .int .i64 x3]] w (GivesD w (if (x1, x2, x3) ∈ ringsOf Vs then phF Vs (x1, x2, x3) else (0, 0, 0)) (decide ((x1, x2, x3) ∈ ringsOf Vs))) := by
  have HDa := Lib.hid h
  obtain ⟨w1_, w2_⟩ := hf.othW (d := (x1, x2, x3)) hb
  have HOt := Lib.hid (rother_w x1 x2 x3)
  have HSg := fun W (h : DgIn W A n c Vs B m k Es) => rsigma_any A n c Vs B m k Es (othW (x1, x2, x3)).1 (othW (x1, x2, x3)).2.1 (othW (x1, x2, x3)).2.2 W h hf
  have hv : sgF Vs (othW (x1, x2, x3)) = if (x1, x2, x3) ∈ ringsOf Vs then phF Vs (x1, x2, x3) else (0, 0, 0) := by
    by_cases q : (x1, x2, x3) ∈ ringsOf Vs
    · rw [if_pos q, w2_ q]
      rfl
    · rw [if_neg q, sgF, sigM_no hf.once (fun h => q (w1_.1 h))]
      rfl
  have hd : decide (othW (x1, x2, x3) ∈ ringsOf Vs) = decide ((x1, x2, x3) ∈ ringsOf Vs) := decide_eq_decide.2 w1_
  replace HSg : ∀ W, DgIn W A n c Vs B m k Es → Calls Tryz.prog 103 #[.agg #[.slice A n c, .slice B m k], .agg #[.int .i64 (othW (x1, x2, x3)).1, .int .i64 (othW (x1, x2, x3)).2.1, .int .i64 (othW (x1, x2, x3)).2.2]] W (GivesD W (if (x1, x2, x3) ∈ ringsOf Vs then phF Vs (x1, x2, x3) else (0, 0, 0)) (decide ((x1, x2, x3) ∈ ringsOf Vs))) := fun W h => by
    rw [← hv, ← hd]
    exact HSg W h
  have hr : ∀ x ∈ Vs, x.2.1.2.1 ≤ 1000000 := fun x hx => by have := (hf.small h).2.2 x hx; omega
  have hn : n ≤ 1000000 := by have := (hf.small h).1; omega
  have HAt := fun W (h : DgIn W A n c Vs B m k Es) => rat_any A n c Vs B m k Es x1 x2 x3 W h (by omega) (fun x hx => by have := hr x hx; omega)
  obtain ⟨⟨⟨a1, a2⟩, ok⟩, ga⟩ : ∃ z, atV Vs (x1, x2, x3) = z := ⟨_, rfl⟩
  have P3 : ok = decide ((x1, x2, x3) ∈ ringsOf Vs) := by
    have := (at_fnd hf (x1, x2, x3)).2.2
    rwa [ga] at this
  rw [ga] at HAt
  replace HAt := Lib.hid HAt
  clear ga hr hn
  have HZ0 : RowKit.Hid (decide ((x1, x2, x3) ∈ ringsOf Vs) = false → (if (x1, x2, x3) ∈ ringsOf Vs then phF Vs (x1, x2, x3) else (0, 0, 0)) = ((0, 0, 0) : D)) := Lib.hid (fun e => if_neg (of_decide_eq_false e))
  clear w1_ w2_ hv hd h hf hb
  obtain ⟨⟨y1, y2, y3⟩, gy⟩ : ∃ z, (if (x1, x2, x3) ∈ ringsOf Vs then phF Vs (x1, x2, x3) else (0, 0, 0)) = z := ⟨_, rfl⟩
  obtain ⟨oy, goy⟩ : ∃ z, decide ((x1, x2, x3) ∈ ringsOf Vs) = z := ⟨_, rfl⟩
  rw [gy, goy] at HSg HZ0
  rw [goy] at P3
  replace P3 := Lib.hid P3
  rw [gy, goy]
  clear gy goy
  obtain ⟨⟨u1, u2, u3⟩, gu⟩ : ∃ z, othW (x1, x2, x3) = z := ⟨_, rfl⟩
  rw [gu] at HOt HSg
  clear gu
  replace HSg := Lib.hid HSg
  go_enter Tryz.func94, Tryz.ntmps94
  have lw1 : ((((w.alloc (.cells #[.slice A n c, .slice B m k] 25)).alloc (.cells #[.int .i64 x1, .int .i64 x2, .int .i64 x3] 49)).alloc (.cells #[.int .i64 0, .int .i64 0, .int .i64 0] 49))).cell? ⟨w.heap.size, 0, none⟩ = some (.slice A n c) := (((show Whole (w.alloc (.cells #[.slice A n c, .slice B m k] 25)) (w.heap.size) (25) ([.slice A n c, .slice B m k]) from Whole.new2 (by first | rfl | simp)).al (.cells #[.int .i64 x1, .int .i64 x2, .int .i64 x3] 49)).al (.cells #[.int .i64 0, .int .i64 0, .int .i64 0] 49)).cell (i := 0) rfl
  have lw2 : ((((w.alloc (.cells #[.slice A n c, .slice B m k] 25)).alloc (.cells #[.int .i64 x1, .int .i64 x2, .int .i64 x3] 49)).alloc (.cells #[.int .i64 0, .int .i64 0, .int .i64 0] 49))).cell? ⟨w.heap.size, 1, none⟩ = some (.slice B m k) := (((show Whole (w.alloc (.cells #[.slice A n c, .slice B m k] 25)) (w.heap.size) (25) ([.slice A n c, .slice B m k]) from Whole.new2 (by first | rfl | simp)).al (.cells #[.int .i64 x1, .int .i64 x2, .int .i64 x3] 49)).al (.cells #[.int .i64 0, .int .i64 0, .int .i64 0] 49)).cell (i := 1) rfl
  have lw3 : ((((w.alloc (.cells #[.slice A n c, .slice B m k] 25)).alloc (.cells #[.int .i64 x1, .int .i64 x2, .int .i64 x3] 49)).alloc (.cells #[.int .i64 0, .int .i64 0, .int .i64 0] 49))).cell? ⟨w.heap.size + 1, 0, none⟩ = some (.int .i64 x1) := ((show Whole ((w.alloc (.cells #[.slice A n c, .slice B m k] 25)).alloc (.cells #[.int .i64 x1, .int .i64 x2, .int .i64 x3] 49)) ((w.heap.size + 1)) (49) ([.int .i64 x1, .int .i64 x2, .int .i64 x3]) from Whole.new2 (by first | rfl | simp)).al (.cells #[.int .i64 0, .int .i64 0, .int .i64 0] 49)).cell (i := 0) rfl
  have lw4 : ((((w.alloc (.cells #[.slice A n c, .slice B m k] 25)).alloc (.cells #[.int .i64 x1, .int .i64 x2, .int .i64 x3] 49)).alloc (.cells #[.int .i64 0, .int .i64 0, .int .i64 0] 49))).cell? ⟨w.heap.size + 1, 1, none⟩ = some (.int .i64 x2) := ((show Whole ((w.alloc (.cells #[.slice A n c, .slice B m k] 25)).alloc (.cells #[.int .i64 x1, .int .i64 x2, .int .i64 x3] 49)) ((w.heap.size + 1)) (49) ([.int .i64 x1, .int .i64 x2, .int .i64 x3]) from Whole.new2 (by first | rfl | simp)).al (.cells #[.int .i64 0, .int .i64 0, .int .i64 0] 49)).cell (i := 1) rfl
  have lw5 : ((((w.alloc (.cells #[.slice A n c, .slice B m k] 25)).alloc (.cells #[.int .i64 x1, .int .i64 x2, .int .i64 x3] 49)).alloc (.cells #[.int .i64 0, .int .i64 0, .int .i64 0] 49))).cell? ⟨w.heap.size + 1, 2, none⟩ = some (.int .i64 x3) := ((show Whole ((w.alloc (.cells #[.slice A n c, .slice B m k] 25)).alloc (.cells #[.int .i64 x1, .int .i64 x2, .int .i64 x3] 49)) ((w.heap.size + 1)) (49) ([.int .i64 x1, .int .i64 x2, .int .i64 x3]) from Whole.new2 (by first | rfl | simp)).al (.cells #[.int .i64 0, .int .i64 0, .int .i64 0] 49)).cell (i := 2) rfl
  go_wp2_with fail
  clear lw1 lw2 lw3 lw4 lw5
  refine (HAt.out _ (((HDa.out.al (.cells #[.slice A n c, .slice B m k] 25)).al (.cells #[.int .i64 x1, .int .i64 x2, .int .i64 x3] 49)).al (.cells #[.int .i64 0, .int .i64 0, .int .i64 0] 49))).mono ?_
  rintro e w6 ⟨rfl, hb6⟩
  have Da_7 := Lib.hid ((((HDa.out.al (.cells #[.slice A n c, .slice B m k] 25)).al (.cells #[.int .i64 x1, .int .i64 x2, .int .i64 x3] 49)).al (.cells #[.int .i64 0, .int .i64 0, .int .i64 0] 49)).bl hb6)
  have D0_7 := Lib.hid ((((show Whole (w.alloc (.cells #[.slice A n c, .slice B m k] 25)) (w.heap.size) (25) ([.slice A n c, .slice B m k]) from Whole.new2 (by first | rfl | simp)).al (.cells #[.int .i64 x1, .int .i64 x2, .int .i64 x3] 49)).al (.cells #[.int .i64 0, .int .i64 0, .int .i64 0] 49)).bl hb6)
  have X_7 := Lib.hid (((show Whole ((w.alloc (.cells #[.slice A n c, .slice B m k] 25)).alloc (.cells #[.int .i64 x1, .int .i64 x2, .int .i64 x3] 49)) ((w.heap.size + 1)) (49) ([.int .i64 x1, .int .i64 x2, .int .i64 x3]) from Whole.new2 (by first | rfl | simp)).al (.cells #[.int .i64 0, .int .i64 0, .int .i64 0] 49)).bl hb6)
  have R_7 := Lib.hid ((show Whole (((w.alloc (.cells #[.slice A n c, .slice B m k] 25)).alloc (.cells #[.int .i64 x1, .int .i64 x2, .int .i64 x3] 49)).alloc (.cells #[.int .i64 0, .int .i64 0, .int .i64 0] 49)) ((w.heap.size + 1 + 1)) (49) ([.int .i64 0, .int .i64 0, .int .i64 0]) from Whole.new2 (by first | rfl | simp)).bl hb6)
  have Bel_7 := Lib.hid (bel_bl (bel_al (bel_al (bel_al (Below.refl _ w) (.cells #[.slice A n c, .slice B m k] 25)) (.cells #[.int .i64 x1, .int .i64 x2, .int .i64 x3] 49)) (.cells #[.int .i64 0, .int .i64 0, .int .i64 0] 49)) hb6)
  clear HDa
  clear hb6
  have LO_D0_8 : RowKit.Hid (w.heap.size ≤ w.heap.size) := Lib.hid (by omega)
  have LO_X_9 : RowKit.Hid (w.heap.size ≤ (w.heap.size + 1)) := Lib.hid (by omega)
  have NE_D0_X : RowKit.Hid (w.heap.size ≠ (w.heap.size + 1)) := Lib.hid (by omega)
  have LO_R_10 : RowKit.Hid (w.heap.size ≤ (w.heap.size + 1 + 1)) := Lib.hid (by omega)
  have NE_D0_R : RowKit.Hid (w.heap.size ≠ (w.heap.size + 1 + 1)) := Lib.hid (by omega)
  have NE_X_R : RowKit.Hid ((w.heap.size + 1) ≠ (w.heap.size + 1 + 1)) := Lib.hid (by omega)
  cases ok with
  | false =>
    obtain rfl : false = oy := P3.out
    obtain ⟨hy1, hy2, hy3⟩ : y1 = 0 ∧ y2 = 0 ∧ y3 = 0 := by
      have := HZ0.out rfl
      simp only [Prod.mk.injEq] at this
      exact this
    subst hy1 hy2 hy3
    have z0 := (R_7.out.al (.cells #[.int .i64 a1, .int .i64 a2] 41)).cell (i := 0) rfl
    have z1 := (R_7.out.al (.cells #[.int .i64 a1, .int .i64 a2] 41)).cell (i := 1) rfl
    have z2 := (R_7.out.al (.cells #[.int .i64 a1, .int .i64 a2] 41)).cell (i := 2) rfl
    have f0 := (R_7.out.al (.cells #[.int .i64 a1, .int .i64 a2] 41)).free 0
    have f1 := (R_7.out.al (.cells #[.int .i64 a1, .int .i64 a2] 41)).free 1
    have f2 := (R_7.out.al (.cells #[.int .i64 a1, .int .i64 a2] 41)).free 2
    have HY := Lib.hid ((((R_7.out.al (.cells #[.int .i64 a1, .int .i64 a2] 41)).set_ 0 (.int .i64 0)).set_ 1 (.int .i64 0)).set_ 2 (.int .i64 0))
    have HBz := Lib.hid ((((bel_al Bel_7.out (.cells #[.int .i64 a1, .int .i64 a2] 41)).setCell (p := ⟨w.heap.size + 1 + 1, 0, none⟩) (show w.heap.size ≤ w.heap.size + 1 + 1 by omega) (.int .i64 0)).setCell (p := ⟨w.heap.size + 1 + 1, 1, none⟩) (show w.heap.size ≤ w.heap.size + 1 + 1 by omega) (.int .i64 0)).setCell (p := ⟨w.heap.size + 1 + 1, 2, none⟩) (show w.heap.size ≤ w.heap.size + 1 + 1 by omega) (.int .i64 0))
    go_wp2
    exact ret_whole2 rfl (w.heap.size + 1 + 1) rfl rfl HY.out Tryz.underlying49 rfl (by kernel_rfl) rfl ⟨rfl, HBz.out⟩
  | true =>
  clear P3 HAt HZ0
  go_upto_region 4 with fail
  have Da_11 := Lib.hid ((Da_7.out.al (.cells #[.int .i64 a1, .int .i64 a2] 41)))
  have D0_11 := Lib.hid ((D0_7.out.al (.cells #[.int .i64 a1, .int .i64 a2] 41)))
  have X_11 := Lib.hid ((X_7.out.al (.cells #[.int .i64 a1, .int .i64 a2] 41)))
  have R_11 := Lib.hid ((R_7.out.al (.cells #[.int .i64 a1, .int .i64 a2] 41)))
  have I_11 := Lib.hid ((show Whole (w6.alloc (.cells #[.int .i64 a1, .int .i64 a2] 41)) (w6.heap.size) (41) ([.int .i64 a1, .int .i64 a2]) from Whole.new2 (by first | rfl | simp)))
  have Bel_11 := Lib.hid (bel_al Bel_7.out (.cells #[.int .i64 a1, .int .i64 a2] 41))
  obtain ⟨v11, gv11⟩ : ∃ x, (w6.alloc (.cells #[.int .i64 a1, .int .i64 a2] 41)) = x := ⟨_, rfl⟩
  rw [gv11] at Da_11 D0_11 X_11 R_11 I_11 Bel_11 ⊢
  clear gv11
  clear Da_7 D0_7 X_7 R_7 Bel_7
  have HLd : RowKit.Hid (∀ W', Ext v11.drew W' → W'.cell? ⟨w.heap.size, 0, none⟩ = some (.slice A n c) ∧ W'.cell? ⟨w.heap.size, 1, none⟩ = some (.slice B m k) ∧ W'.cell? ⟨w.heap.size + 1, 0, none⟩ = some (.int .i64 x1) ∧ W'.cell? ⟨w.heap.size + 1, 1, none⟩ = some (.int .i64 x2) ∧ W'.cell? ⟨w.heap.size + 1, 2, none⟩ = some (.int .i64 x3)) :=
    Lib.hid (fun W' h => ⟨(D0_11.out.dr.bl h).cell (i := 0) rfl, (D0_11.out.dr.bl h).cell (i := 1) rfl, (X_11.out.dr.bl h).cell (i := 0) rfl, (X_11.out.dr.bl h).cell (i := 1) rfl, (X_11.out.dr.bl h).cell (i := 2) rfl⟩)
  refine wp_region_in2 6 (fun i => i = w.heap.size + 1 + 1) (gamL [some (.agg #[.slice A n c, .slice B m k]), some (.agg #[.int .i64 x1, .int .i64 x2, .int .i64 x3]), some (.agg #[.int .i64 u1, .int .i64 u2, .int .i64 u3]), some (.tuple #[.agg #[.int .i64 y1, .int .i64 y2, .int .i64 y3], .bool oy]), some (.agg #[.int .i64 y1, .int .i64 y2, .int .i64 y3]), some (.bool oy)] 99 0 0 []) (Ext v11.drew) (by kernel_rfl) (by kernel_rfl) (by kernel_rfl) (by kernel_rfl) (by kernel_rfl) (fun i v w1 w2 h hx => gamL_up i v w1 w2 h hx) (fun _ _ h k => h.trans k) (Ext.refl _) ?_ ?_
  · intro i hi9
    have hcase : i = 0 ∨ i = 1 ∨ i = 2 ∨ i = 3 ∨ i = 4 ∨ i = 5 := by omega
    rcases hcase with rfl | rfl | rfl | rfl | rfl | rfl
    · intro o ho x y hg hdep
      simp only [List.getElem?_toArray, List.getElem?_cons_succ, List.getElem?_cons_zero, Option.some.injEq] at ho
      subst ho
      obtain ⟨hl0, hl1, hl2, hl3, hl4⟩ := HLd.out _ hg
      simp only [dsts, List.map_cons, List.map_nil, putAll, Act.put, stA_, st0_, st1_]
      refine .inl ⟨by rfl, ?_⟩
      go_simp
      exact ⟨Ext.refl _, rfl⟩
    · intro o ho x y hg hdep
      simp only [List.getElem?_toArray, List.getElem?_cons_succ, List.getElem?_cons_zero, Option.some.injEq] at ho
      subst ho
      obtain ⟨hl0, hl1, hl2, hl3, hl4⟩ := HLd.out _ hg
      simp only [dsts, List.map_cons, List.map_nil, putAll, Act.put, stA_, st0_, st1_]
      refine .inl ⟨by rfl, ?_⟩
      go_simp
      exact ⟨Ext.refl _, rfl⟩
    · intro o ho x y hg hdep
      simp only [List.getElem?_toArray, List.getElem?_cons_succ, List.getElem?_cons_zero, Option.some.injEq] at ho
      subst ho
      have d1 : x 1 = .agg #[.int .i64 x1, .int .i64 x2, .int .i64 x3] := hdep 1 (by decide)
      simp only [dsts, List.map_cons, List.map_nil, putAll, Act.put, stA_, st0_, st1_]
      simp only [d1]
      refine .inl ⟨by rfl, outT_call (by go_simp; first | done | exact ⟨rfl, rfl⟩ | with_reducible rfl) ?_⟩
      refine (HOt.out y).mono ?_
      rintro e w2 ⟨rfl, hb⟩
      exact ⟨_, rfl, hb, rfl⟩
    · intro o ho x y hg hdep
      simp only [List.getElem?_toArray, List.getElem?_cons_succ, List.getElem?_cons_zero, Option.some.injEq] at ho
      subst ho
      have d0 : x 0 = .agg #[.slice A n c, .slice B m k] := hdep 0 (by decide)
      have d2 : x 2 = .agg #[.int .i64 u1, .int .i64 u2, .int .i64 u3] := hdep 2 (by decide)
      have d2 : x 2 = .agg #[.int .i64 u1, .int .i64 u2, .int .i64 u3] := hdep 2 (by decide)
      simp only [dsts, List.map_cons, List.map_nil, putAll, Act.put, stA_, st0_, st1_]
      simp only [d0, d2, d2]
      refine .inl ⟨by rfl, outT_call (by go_simp; first | done | exact ⟨rfl, rfl⟩ | with_reducible rfl) ?_⟩
      refine (HSg.out y (Da_11.out.dr.bl hg)).mono ?_
      rintro e w2 ⟨rfl, hb⟩
      exact ⟨_, rfl, hb, rfl⟩
    · intro o ho x y hg hdep
      simp only [List.getElem?_toArray, List.getElem?_cons_succ, List.getElem?_cons_zero, Option.some.injEq] at ho
      subst ho
      have d3 : x 3 = .tuple #[.agg #[.int .i64 y1, .int .i64 y2, .int .i64 y3], .bool oy] := hdep 3 (by decide)
      simp only [dsts, List.map_cons, List.map_nil, putAll, Act.put, stA_, st0_, st1_]
      simp only [d3]
      refine .inl ⟨by rfl, ?_⟩
      go_simp
      exact ⟨Ext.refl _, rfl⟩
    · intro o ho x y hg hdep
      simp only [List.getElem?_toArray, List.getElem?_cons_succ, List.getElem?_cons_zero, Option.some.injEq] at ho
      subst ho
      have d3 : x 3 = .tuple #[.agg #[.int .i64 y1, .int .i64 y2, .int .i64 y3], .bool oy] := hdep 3 (by decide)
      simp only [dsts, List.map_cons, List.map_nil, putAll, Act.put, stA_, st0_, st1_]
      simp only [d3]
      refine .inl ⟨by rfl, ?_⟩
      go_simp
      exact ⟨Ext.refl _, rfl⟩
  intro x y hg hall
  have d0 : x 0 = .agg #[.slice A n c, .slice B m k] := hall 0 (by decide)
  have d1 : x 1 = .agg #[.int .i64 x1, .int .i64 x2, .int .i64 x3] := hall 1 (by decide)
  have d2 : x 2 = .agg #[.int .i64 u1, .int .i64 u2, .int .i64 u3] := hall 2 (by decide)
  have d3 : x 3 = .tuple #[.agg #[.int .i64 y1, .int .i64 y2, .int .i64 y3], .bool oy] := hall 3 (by decide)
  have d4 : x 4 = .agg #[.int .i64 y1, .int .i64 y2, .int .i64 y3] := hall 4 (by decide)
  have d5 : x 5 = .bool oy := hall 5 (by decide)
  simp only [dsts, List.map_cons, List.map_nil, putAll, Act.put, stA_, st0_, st1_]
  simp only [d0, d1, d2, d3, d4, d5]
  clear hall d0 d1 d2 d3 d4 d5
  apply wpR_store 6
  · rfl
  · rfl
  · kernel_rfl
  · rfl
  intro w' hw'
  have HYw := Lib.hid ((R_11.out.dr.bl hg).bl hw')
  have HBw := Lib.hid (bel_bl (bel_bl (bel_dr Bel_11.out) hg) hw')
  refine ⟨w'.setRow (w.heap.size + 1 + 1) #[.int .i64 y1, .int .i64 y2, .int .i64 y3], store_row_run 49 (.tmp 4) (.tmp 21) rfl (w.heap.size + 1 + 1) rfl [.int .i64 y1, .int .i64 y2, .int .i64 y3] rfl 49 [.int .i64 0, .int .i64 0, .int .i64 0] HYw.out (by kernel_rfl) rfl (by simp [Value.oneCell']), kept_row (S := fun i => i = w.heap.size + 1 + 1) rfl _, ?_⟩
  have HYs : RowKit.Hid (Whole (w'.setRow (w.heap.size + 1 + 1) #[.int .i64 y1, .int .i64 y2, .int .i64 y3]) (w.heap.size + 1 + 1) 49 [.int .i64 y1, .int .i64 y2, .int .i64 y3]) := Lib.hid (Whole.row HYw.out [.int .i64 y1, .int .i64 y2, .int .i64 y3])
  have HBs : RowKit.Hid (Below w.heap.size w (w'.setRow (w.heap.size + 1 + 1) #[.int .i64 y1, .int .i64 y2, .int .i64 y3])) := Lib.hid (below_row HBw.out (by omega) _)
  obtain ⟨V1, gV1⟩ : ∃ z, w'.setRow (w.heap.size + 1 + 1) #[.int .i64 y1, .int .i64 y2, .int .i64 y3] = z := ⟨_, rfl⟩
  rw [gV1] at HYs HBs ⊢
  clear hw' hg gV1 HYw HBw HLd
  refine opR_ 7 5 (v := ?_) ?_ ?_; rotate_left
  · intro w' hw'; go_simp; (try with_reducible rfl)
  simp only [st0_, st1_]
  refine wpR_done (by kernel_rfl) ?_ _
  intro W8 hw8
  have HY := Lib.hid (HYs.out.bl hw8)
  have HBz := Lib.hid (bel_bl HBs.out hw8)
  clear hw8 HYs HBs
  go_wp2
  exact ret_whole2 rfl (w.heap.size + 1 + 1) rfl rfl HY.out Tryz.underlying49 rfl (by kernel_rfl) rfl ⟨rfl, HBz.out⟩
end Go.Proofs.YtmkflebkifbpfaaGreat
/- The document's Trace. -/
namespace Go.Proofs.YtmkflebkifbpfaaGreat
open Go.RowKit
def lenS : Value → Nat
  | .slice _ n _ => n
  | _ => 0
theorem Ow.cell_ {w W : World} {B size n g : Nat} {e : TypeId} {v : Value} {xs : List Value} (h : Ow w B e size v n xs W) (hne : some g ≠ v.ownBlock) (hg : w.heap.size ≤ g) (i : Nat) (u : Value) : Ow w B e size v n xs (W.setCell ⟨g, i, none⟩ u) :=
  ⟨own_cell_far h.own hne u, h.below.setCell (p := ⟨g, i, none⟩) hg u, h.lo, by simpa [World.setCell] using h.hi⟩
theorem orb_more {f : D → D} (x : D) (j : Nat) : orbN f x (j + 1) = orbN f x j ++ [itN f j x] := by
  unfold orbN
  rw [List.range_succ, List.map_append]
  rfl
set_option maxRecDepth 100000 in
set_option maxHeartbeats 4000000 in
theorem rtrace_any (A : Option Addr) (n c : Nat) (Vs : List VC) (B : Option Addr) (m k : Nat) (Es : List EC) (x1 x2 x3 : Int) (w : World) (h : DgIn w A n c Vs B m k Es) (hf : Formed Vs Es) (hb : -9223372036854775808 ≤ x3 ∧ x3 ≤ 9223372036854775807) :
    Calls Tryz.prog 83 #[.agg #[.slice A n c, .slice B m k], .agg #[.int .i64 x1, .int .i64 x2, .int .i64 x3]] w fun e w' => ∃ A' c', e = .returned (.slice A' (faceD Vs (x1, x2, x3)).length c') ∧ w'.ownsRow w.heap.size 49 3 (.slice A' (faceD Vs (x1, x2, x3)).length c') (faceD Vs (x1, x2, x3)).length (dartsV (faceD Vs (x1, x2, x3))) ∧ Below w.heap.size w w' := by
  have HDa := Lib.hid h
  have HFm := Lib.hid hf
  obtain ⟨i0, hi0, hz0, hz1, hz2⟩ := info_partsD info_dartD
  have hPx := fun W (h : DgIn W A n c Vs B m k Es) => rphi_any A n c Vs B m k Es x1 x2 x3 W h hf hb
  have HPy : RowKit.Hid (∀ y1 y2 y3 : Int, (y1, y2, y3) ∈ ringsOf Vs → ∀ W, DgIn W A n c Vs B m k Es → Calls Tryz.prog 94 #[.agg #[.slice A n c, .slice B m k], .agg #[.int .i64 y1, .int .i64 y2, .int .i64 y3]] W (GivesD W (phF Vs (y1, y2, y3)) true)) := Lib.hid (fun y1 y2 y3 hy W h => by
    obtain ⟨e, _, _, q⟩ := (hf.mem _).1 hy
    have := rphi_any A n c Vs B m k Es y1 y2 y3 W h hf (by simp only at q; omega)
    rwa [if_pos hy, decide_eq_true hy] at this)
  by_cases hx : (x1, x2, x3) ∈ ringsOf Vs
  · obtain ⟨p, hp, hpl⟩ := hf.phi.per hx
    have h80 := hf.l80
    have ef : faceD Vs (x1, x2, x3) = orbN (phF Vs) (x1, x2, x3) p := by rw [faceD, if_pos hx, orbT_all hp (by omega)]
    have hp80 : p ≤ 80 := by omega
    simp only [if_pos hx, decide_eq_true hx] at hPx
    rw [ef, orb_len]
    have HPx := Lib.hid hPx
    have Hp := Lib.hid hp
    have Hx := Lib.hid hx
    obtain ⟨⟨p1, p2, p3⟩, gp⟩ : ∃ z, phF Vs (x1, x2, x3) = z := ⟨_, rfl⟩
    rw [gp] at HPx
    have Gp := Lib.hid gp
    have hpos := hp.pos
    clear h hf hb hPx hx hp hpl h80 ef gp
    go_enter Tryz.func83, Tryz.ntmps83
    go_upto_region 1 with fail
    have hx0 : Whole ((w.alloc (.cells #[.slice A n c, .slice B m k] 25)).alloc (.cells #[.int .i64 x1, .int .i64 x2, .int .i64 x3] 49)) (w.heap.size) 25 [.slice A n c, .slice B m k] := ((Whole.new_ w 25 [.slice A n c, .slice B m k]).alloc (.cells #[.int .i64 x1, .int .i64 x2, .int .i64 x3] 49))
    have hx1 : Whole ((w.alloc (.cells #[.slice A n c, .slice B m k] 25)).alloc (.cells #[.int .i64 x1, .int .i64 x2, .int .i64 x3] 49)) (w.heap.size + 1) 49 [.int .i64 x1, .int .i64 x2, .int .i64 x3] := (Whole.new2 (w := (w.alloc (.cells #[.slice A n c, .slice B m k] 25))) (by simp))
    have hbl : Below w.heap.size w ((w.alloc (.cells #[.slice A n c, .slice B m k] 25)).alloc (.cells #[.int .i64 x1, .int .i64 x2, .int .i64 x3] 49)) := (bel_al (below1 w (.cells #[.slice A n c, .slice B m k] 25)) (.cells #[.int .i64 x1, .int .i64 x2, .int .i64 x3] 49))
    have hsz : w.heap.size + 1 + 1 ≤ (((w.alloc (.cells #[.slice A n c, .slice B m k] 25)).alloc (.cells #[.int .i64 x1, .int .i64 x2, .int .i64 x3] 49))).heap.size := by simp
    obtain ⟨W0, gW0⟩ : ∃ z, ((w.alloc (.cells #[.slice A n c, .slice B m k] 25)).alloc (.cells #[.int .i64 x1, .int .i64 x2, .int .i64 x3] 49)) = z := ⟨_, rfl⟩
    rw [gW0] at hx0 hx1 hbl hsz
    obtain ⟨b1, gb1⟩ : ∃ z, w.heap.size + 1 = z := ⟨_, rfl⟩
    rw [gb1] at hx1
    obtain ⟨b0, gb0⟩ : ∃ z, w.heap.size = z := ⟨_, rfl⟩
    rw [gb0] at hx0
    have HX0 := Lib.hid hx0
    have HX1 := Lib.hid hx1
    have HB0 := Lib.hid hbl
    have HS0 := Lib.hid hsz
    have Gb0 := Lib.hid gb0
    have Lb0 : RowKit.Hid (w.heap.size ≤ b0) := Lib.hid (by omega)
    have Gb1 := Lib.hid gb1
    have Lb1 : RowKit.Hid (w.heap.size ≤ b1) := Lib.hid (by omega)
    have N01 : RowKit.Hid (b0 ≠ b1) := Lib.hid (by omega)
    rw [gW0, gb1, gb0]
    clear gW0 hbl hsz hx0 hx1 gb0 gb1
    have HD1 := Lib.hid (HX0.out.al (.cells #[] 49))
    have HX1 := Lib.hid (HX1.out.al (.cells #[] 49))
    have HO1 : RowKit.Hid (Ow w (b1 + 1) 49 3 (.slice (some ⟨W0.heap.size, 0, none⟩) 0 0) 0 [] (W0.alloc (.cells #[] 49))) := Lib.hid (Ow.new_ (cs := #[]) HB0.out (by have := Lb1.out; omega) (by have := HX1.out.lt; simp at this; have := HS0.out; have := Gb1.out; omega) (by unfold maxLen; omega) rfl)
    have c0 := HD1.out.cell (i := 0) rfl
    have c1 := HD1.out.cell (i := 1) rfl
    have d0 := HX1.out.cell (i := 0) rfl
    have d1 := HX1.out.cell (i := 1) rfl
    have d2 := HX1.out.cell (i := 2) rfl
    go_wp2_with fail
    refine (HPx.out _ (HDa.out.bl HO1.out.below)).mono ?_
    rintro e w2 ⟨rfl, hb2⟩
    have HD2 := Lib.hid (HD1.out.bl hb2)
    have HX2 := Lib.hid (HX1.out.bl hb2)
    have HO2 := Lib.hid (HO1.out.up hb2)
    clear c0 c1 d0 d1 d2 HD1 HX1 HO1 HX0 HB0
    have HO2n : RowKit.Hid (some w2.heap.size ≠ (Value.slice (some ⟨W0.heap.size, 0, none⟩) 0 0).ownBlock) := Lib.hid (HO2.out.ne_ (Nat.le_refl _))
    clear hb2
    have HD3 := Lib.hid (HD2.out.al (.cells #[.int .i64 p1, .int .i64 p2, .int .i64 p3] 49))
    have HXc := Lib.hid (HX2.out.al (.cells #[.int .i64 p1, .int .i64 p2, .int .i64 p3] 49))
    have HY3 := Lib.hid (Whole.new_ w2 49 [.int .i64 p1, .int .i64 p2, .int .i64 p3])
    have HO3 := Lib.hid (HO2.out.up (below1 w2 (.cells #[.int .i64 p1, .int .i64 p2, .int .i64 p3] 49)))
    go_upto_region 5 with fail
    have L3a : w.heap.size ≤ w2.heap.size := HO2.out.below.size
    have N3a : b1 < w2.heap.size := HX2.out.lt
    obtain ⟨W3, gW3⟩ : ∃ z, w2.alloc (.cells #[.int .i64 p1, .int .i64 p2, .int .i64 p3] 49) = z := ⟨_, rfl⟩
    obtain ⟨b3, gb3⟩ : ∃ z, w2.heap.size = z := ⟨_, rfl⟩
    obtain ⟨g1, gg1⟩ : ∃ z, W0.heap.size = z := ⟨_, rfl⟩
    rw [gW3] at HD3 HXc HY3 HO3 ⊢
    rw [gb3] at HY3 HO2n L3a N3a ⊢
    rw [gg1] at HO3 HO2n ⊢
    have L3 := Lib.hid L3a
    have N3 := Lib.hid N3a
    obtain ⟨v0, gv0⟩ : ∃ z, Value.slice (some ⟨g1, 0, none⟩) 0 0 = z := ⟨_, rfl⟩
    rw [gv0] at HO3 HO2n ⊢
    clear gW3 gb3 gg1 gv0 HD2 HX2 HO2 L3a N3a
    have d0 := HXc.out.cell (i := 0) rfl
    have d1 := HXc.out.cell (i := 1) rfl
    have d2 := HXc.out.cell (i := 2) rfl
    obtain ⟨v5, w5, hrun, how5, hb5, hg5, ho5⟩ := Ow.app2 (P := Tryz.prog) 45 45 49 i0 _ 3 24 (b1 + 1) Tryz.underlying45 hi0 hz0 hz1 hz2 rfl (by decide) _ 0 _ (HO3.out.up (below1 _ _)) _ (some ⟨W3.heap.size, 0, none⟩) 1 1 (dartsV [(x1, x2, x3)]) (RdS.whole3 (L := [(x1, x2, x3)]) (Whole.new_ W3 49 [.int .i64 x1, .int .i64 x2, .int .i64 x3])) (dartsV_one _) (by unfold maxLen; omega) (by omega)
    obtain ⟨A5, c5, rfl, -⟩ := how5.rds
    have HN5 : RowKit.Hid (some b3 ≠ (Value.slice A5 1 c5).ownBlock) := Lib.hid (Ow.ne2 HO2n.out (by have := HY3.out.lt; simp; omega) ho5)
    have HD5 := Lib.hid ((HD3.out.al (.cells #[.int .i64 x1, .int .i64 x2, .int .i64 x3] 49)).at_ (hb5.block b0 (by have := Gb0.out; have := Gb1.out; omega)))
    have HX5 := Lib.hid ((HXc.out.al (.cells #[.int .i64 x1, .int .i64 x2, .int .i64 x3] 49)).at_ (hb5.block b1 (by omega)))
    have HY5 := Lib.hid ((HY3.out.al (.cells #[.int .i64 x1, .int .i64 x2, .int .i64 x3] 49)).grown hg5 HO2n.out)
    have HO5 : RowKit.Hid (Ow w (b1 + 1) 49 3 (.slice A5 1 c5) 1 (dartsV (orbN (phF Vs) (x1, x2, x3) 1)) w5) := Lib.hid how5
    have Hrun := Lib.hid hrun
    clear hrun how5 hb5 hg5 ho5 HD3 HXc HY3 HO3 HO2n
    go_wp2_with (first
      | (at_builtin
         refine wpList_app rfl (.tmp 18) (.tmp 20) _ rfl rfl rfl Hrun.out ?_
         clear d0 d1 d2 Hrun))
    skip
    go_loopw [5] (fun so wr => ∃ (j : Nat) (A2 : Option Addr) (c2 : Nat) (y1 y2 y3 : Int), 1 ≤ j ∧ j ≤ p ∧ so = .slice A2 j c2 ∧ RowKit.Hid (Whole wr b0 25 [.slice A n c, .slice B m k]) ∧ RowKit.Hid (Whole wr b1 49 [.int .i64 x1, .int .i64 x2, .int .i64 x3]) ∧ RowKit.Hid (Whole wr b3 49 [.int .i64 y1, .int .i64 y2, .int .i64 y3]) ∧ RowKit.Hid (Ow w (b1 + 1) 49 3 (.slice A2 j c2) j (dartsV (orbN (phF Vs) (x1, x2, x3) j)) wr) ∧ RowKit.Hid (some b3 ≠ (Value.slice A2 j c2).ownBlock) ∧ RowKit.Hid (itN (phF Vs) j (x1, x2, x3) = (y1, y2, y3))) (fun so _ => p - (lenS so))
    case atStart => exact ⟨1, A5, c5, p1, p2, p3, by omega, hpos, rfl, HD5, HX5, HY5, HO5, HN5, Lib.hid Gp.out⟩
    case round =>
      clear HD5 HX5 HY5 HO5 HN5
      obtain ⟨j, A2, c2, y1, y2, y3, hj1, hj, rfl, HD, HX, HY, HO, HN, HI⟩ := hrel
      obtain ⟨wo, gwo⟩ : ∃ z, wr = z := ⟨_, rfl⟩
      rw [gwo] at HD HX HY HO ⊢
      clear gwo
      have c0 := HD.out.cell (i := 0) rfl
      have c1 := HD.out.cell (i := 1) rfl
      have d0 := HX.out.cell (i := 0) rfl
      have d1 := HX.out.cell (i := 1) rfl
      have d2 := HX.out.cell (i := 2) rfl
      have e0 := HY.out.cell (i := 0) rfl
      have e1 := HY.out.cell (i := 1) rfl
      have e2 := HY.out.cell (i := 2) rfl
      by_cases hjp : j < p
      · have hne : ¬ (y1, y2, y3) = (x1, x2, x3) := fun e => Hp.out.ne j (by omega) hjp (HI.out.trans e)
        have hyr : (y1, y2, y3) ∈ ringsOf Vs := HI.out ▸ HFm.out.phi.it Hx.out j
        have hlt : decide ((j : Int) < 82) = true := decide_eq_true (by omega)
        have HPj := Lib.hid (HPy.out y1 y2 y3 hyr)
        obtain ⟨⟨q1, q2, q3⟩, gq⟩ : ∃ z, phF Vs (y1, y2, y3) = z := ⟨_, rfl⟩
        rw [gq] at HPj
        have HI2 : RowKit.Hid (itN (phF Vs) (j + 1) (x1, x2, x3) = (q1, q2, q3)) := Lib.hid (by rw [it_succ, HI.out, gq])
        have HOn : RowKit.Hid (dartsV (orbN (phF Vs) (x1, x2, x3) j) ++ dartsV [(y1, y2, y3)] = dartsV (orbN (phF Vs) (x1, x2, x3) (j + 1))) := Lib.hid (by rw [orb_more, HI.out, dartsV_app])
        have ht : ∀ W, (binOp .neq 49 (.agg #[.int .i64 y1, .int .i64 y2, .int .i64 y3]) (.agg #[.int .i64 x1, .int .i64 x2, .int .i64 x3])).run Tryz.prog W = .ok (.bool true) W := fun W => by
          have e := neq_dart_run (y1, y2, y3) (x1, x2, x3) W
          rw [decide_eq_false hne] at e
          exact e
        clear hne hyr gq
        go_upto_region 7 with fail
        clear ht hlt
        obtain ⟨v7, w7, hrun, how7, hb7, hg7, ho7⟩ := Ow.app2 (P := Tryz.prog) 45 45 49 i0 _ 3 24 (b1 + 1) Tryz.underlying45 hi0 hz0 hz1 hz2 rfl (by decide) _ j _ (HO.out.up (below1 _ _)) _ (some ⟨wo.heap.size, 0, none⟩) 1 1 (dartsV [(y1, y2, y3)]) (RdS.whole3 (L := [(y1, y2, y3)]) (Whole.new_ wo 49 [.int .i64 y1, .int .i64 y2, .int .i64 y3])) (dartsV_one _) (by unfold maxLen; omega) (by omega)
        obtain ⟨A7, c7, rfl, -⟩ := how7.rds
        have HN7 : RowKit.Hid (some b3 ≠ (Value.slice A7 (j + 1) c7).ownBlock) := Lib.hid (Ow.ne2 HN.out (by have := HY.out.lt; simp; omega) ho7)
        have HD7 := Lib.hid ((HD.out.al (.cells #[.int .i64 y1, .int .i64 y2, .int .i64 y3] 49)).at_ (hb7.block b0 (by have := Gb0.out; have := Gb1.out; omega)))
        have HX7 := Lib.hid ((HX.out.al (.cells #[.int .i64 y1, .int .i64 y2, .int .i64 y3] 49)).at_ (hb7.block b1 (by omega)))
        have HY7 := Lib.hid ((HY.out.al (.cells #[.int .i64 y1, .int .i64 y2, .int .i64 y3] 49)).grown hg7 HN.out)
        have HO7 : RowKit.Hid (Ow w (b1 + 1) 49 3 (.slice A7 (j + 1) c7) (j + 1) (dartsV (orbN (phF Vs) (x1, x2, x3) (j + 1))) w7) := Lib.hid (by rw [← HOn.out]; exact how7)
        have Hrun := Lib.hid hrun
        clear hrun how7 hb7 hg7 ho7 HD HX HY HO HN
        go_upto_region 8 with (first
          | (at_builtin
             refine wpList_app rfl (.tmp 30) (.tmp 32) _ rfl rfl rfl Hrun.out ?_
             clear c0 c1 d0 d1 d2 e0 e1 e2 Hrun))
        have c0 := HD7.out.cell (i := 0) rfl
        have c1 := HD7.out.cell (i := 1) rfl
        have e0 := HY7.out.cell (i := 0) rfl
        have e1 := HY7.out.cell (i := 1) rfl
        have e2 := HY7.out.cell (i := 2) rfl
        go_wp2_with fail
        refine (HPj.out _ (HDa.out.bl HO7.out.below)).mono ?_
        rintro e w8 ⟨rfl, hb8⟩
        have HD8 := Lib.hid (HD7.out.bl hb8)
        have HX8 := Lib.hid (HX7.out.bl hb8)
        have HY8 := Lib.hid (HY7.out.bl hb8)
        have HO8 := Lib.hid (HO7.out.up hb8)
        clear hb8 c0 c1 e0 e1 e2 HD7 HX7 HY7 HO7
        have f0 := HY8.out.free 0
        have f1 := HY8.out.free 1
        have f2 := HY8.out.free 2
        have e0 := HY8.out.cell (i := 0) rfl
        have e1 := HY8.out.cell (i := 1) rfl
        have e2 := HY8.out.cell (i := 2) rfl
        go_wp2
        have hn0 : b0 ≠ b3 := by have := N3.out; have := Gb0.out; have := Gb1.out; omega
        have hn1 : b1 ≠ b3 := by have := N3.out; omega
        have HD9 := Lib.hid (((HD8.out.far (p := ⟨b3, 0, none⟩) hn0 (.int .i64 q1)).far (p := ⟨b3, 1, none⟩) hn0 (.int .i64 q2)).far (p := ⟨b3, 2, none⟩) hn0 (.int .i64 q3))
        have HX9 := Lib.hid (((HX8.out.far (p := ⟨b3, 0, none⟩) hn1 (.int .i64 q1)).far (p := ⟨b3, 1, none⟩) hn1 (.int .i64 q2)).far (p := ⟨b3, 2, none⟩) hn1 (.int .i64 q3))
        have HY9 := Lib.hid (((HY8.out.set_ 0 (.int .i64 q1)).set_ 1 (.int .i64 q2)).set_ 2 (.int .i64 q3))
        have HO9 := Lib.hid (((HO8.out.cell_ HN7.out L3.out 0 (.int .i64 q1)).cell_ HN7.out L3.out 1 (.int .i64 q2)).cell_ HN7.out L3.out 2 (.int .i64 q3))
        clear e0 e1 e2 f0 f1 f2
        go_roundw
        case rel => exact ⟨j + 1, A7, c7, q1, q2, q3, by omega, hjp, by go_num, HD9, HX9, HY9, HO9, HN7, HI2⟩
        case measure => simp [lenS]; omega
      · obtain rfl : p = j := by omega
        have he : (y1, y2, y3) = (x1, x2, x3) := HI.out.symm.trans Hp.out.back
        simp only [Prod.mk.injEq] at he
        obtain ⟨rfl, rfl, rfl⟩ := he
        have ht : ∀ W, (binOp .neq 49 (.agg #[.int .i64 y1, .int .i64 y2, .int .i64 y3]) (.agg #[.int .i64 y1, .int .i64 y2, .int .i64 y3])).run Tryz.prog W = .ok (.bool false) W := fun W => by
          have e := neq_dart_run (y1, y2, y3) (y1, y2, y3) W
          rw [decide_eq_true rfl] at e
          exact e
        go_wp2
        go_ret
        exact ⟨A2, c2, rfl, own_base HO.out.own (by have := Lb1.out; omega), HO.out.below⟩
  · have ef : faceD Vs (x1, x2, x3) = [] := by rw [faceD, if_neg hx]
    simp only [if_neg hx, decide_eq_false hx] at hPx
    rw [ef]
    have HPx := Lib.hid hPx
    clear h hf hb hPx hx ef HPy
    go_enter Tryz.func83, Tryz.ntmps83
    go_upto_region 1 with fail
    have hx0 : Whole ((w.alloc (.cells #[.slice A n c, .slice B m k] 25)).alloc (.cells #[.int .i64 x1, .int .i64 x2, .int .i64 x3] 49)) (w.heap.size) 25 [.slice A n c, .slice B m k] := ((Whole.new_ w 25 [.slice A n c, .slice B m k]).alloc (.cells #[.int .i64 x1, .int .i64 x2, .int .i64 x3] 49))
    have hx1 : Whole ((w.alloc (.cells #[.slice A n c, .slice B m k] 25)).alloc (.cells #[.int .i64 x1, .int .i64 x2, .int .i64 x3] 49)) (w.heap.size + 1) 49 [.int .i64 x1, .int .i64 x2, .int .i64 x3] := (Whole.new2 (w := (w.alloc (.cells #[.slice A n c, .slice B m k] 25))) (by simp))
    have hbl : Below w.heap.size w ((w.alloc (.cells #[.slice A n c, .slice B m k] 25)).alloc (.cells #[.int .i64 x1, .int .i64 x2, .int .i64 x3] 49)) := (bel_al (below1 w (.cells #[.slice A n c, .slice B m k] 25)) (.cells #[.int .i64 x1, .int .i64 x2, .int .i64 x3] 49))
    have hsz : w.heap.size + 1 + 1 ≤ (((w.alloc (.cells #[.slice A n c, .slice B m k] 25)).alloc (.cells #[.int .i64 x1, .int .i64 x2, .int .i64 x3] 49))).heap.size := by simp
    obtain ⟨W0, gW0⟩ : ∃ z, ((w.alloc (.cells #[.slice A n c, .slice B m k] 25)).alloc (.cells #[.int .i64 x1, .int .i64 x2, .int .i64 x3] 49)) = z := ⟨_, rfl⟩
    rw [gW0] at hx0 hx1 hbl hsz
    obtain ⟨b1, gb1⟩ : ∃ z, w.heap.size + 1 = z := ⟨_, rfl⟩
    rw [gb1] at hx1
    obtain ⟨b0, gb0⟩ : ∃ z, w.heap.size = z := ⟨_, rfl⟩
    rw [gb0] at hx0
    have HX0 := Lib.hid hx0
    have HX1 := Lib.hid hx1
    have HB0 := Lib.hid hbl
    have HS0 := Lib.hid hsz
    have Gb0 := Lib.hid gb0
    have Lb0 : RowKit.Hid (w.heap.size ≤ b0) := Lib.hid (by omega)
    have Gb1 := Lib.hid gb1
    have Lb1 : RowKit.Hid (w.heap.size ≤ b1) := Lib.hid (by omega)
    have N01 : RowKit.Hid (b0 ≠ b1) := Lib.hid (by omega)
    rw [gW0, gb1, gb0]
    clear gW0 hbl hsz hx0 hx1 gb0 gb1
    have HD1 := Lib.hid (HX0.out.al (.cells #[] 49))
    have HX1 := Lib.hid (HX1.out.al (.cells #[] 49))
    have HO1 : RowKit.Hid (Ow w (b1 + 1) 49 3 (.slice (some ⟨W0.heap.size, 0, none⟩) 0 0) 0 [] (W0.alloc (.cells #[] 49))) := Lib.hid (Ow.new_ (cs := #[]) HB0.out (by have := Lb1.out; omega) (by have := HX1.out.lt; simp at this; have := HS0.out; have := Gb1.out; omega) (by unfold maxLen; omega) rfl)
    have c0 := HD1.out.cell (i := 0) rfl
    have c1 := HD1.out.cell (i := 1) rfl
    have d0 := HX1.out.cell (i := 0) rfl
    have d1 := HX1.out.cell (i := 1) rfl
    have d2 := HX1.out.cell (i := 2) rfl
    go_wp2_with fail
    refine (HPx.out _ (HDa.out.bl HO1.out.below)).mono ?_
    rintro e w2 ⟨rfl, hb2⟩
    have HD2 := Lib.hid (HD1.out.bl hb2)
    have HX2 := Lib.hid (HX1.out.bl hb2)
    have HO2 := Lib.hid (HO1.out.up hb2)
    clear c0 c1 d0 d1 d2 HD1 HX1 HO1 HX0 HB0
    go_wp2
    go_ret
    exact ⟨_, _, rfl, own_base (HO2.out.up (below1 _ _)).own (by have := Lb1.out; omega), (HO2.out.up (below1 _ _)).below⟩
end Go.Proofs.YtmkflebkifbpfaaGreat
/- The document's Same and Faces. -/
namespace Go.Proofs.YtmkflebkifbpfaaGreat
open Go.RowKit
end Go.Proofs.YtmkflebkifbpfaaGreat
/- The document's Faces. -/
namespace Go.Proofs.YtmkflebkifbpfaaGreat
open Go.RowKit
/-- Rows of one's own that do not touch each other: one that grows (T), one that is read (L), rows of rows (X). -/
structure PR (w : World) (lo : Nat) (At : Option Addr) (ct : Nat) (T : List D) (Al : Option Addr) (cl : Nat) (L : List D) (Ao : Option Addr) (co : Nat) (X : List (Rw D)) (W : World) : Prop where
  ow : Ow w lo 49 3 (.slice At T.length ct) T.length (dartsV T) W
  l : W.ownsRow lo 49 3 (.slice Al L.length cl) L.length (dartsV L)
  r : RowsIn W lo 45 49 3 encD Ao X.length co X
  nl : ∀ g, (Value.slice Al L.length cl).ownBlock = some g → (Value.slice At T.length ct).ownBlock ≠ some g
  nx : ∀ x ∈ X, ∀ g, (rwV x).ownBlock = some g → (Value.slice At T.length ct).ownBlock ≠ some g
section
variable {w W W' : World} {lo : Nat} {At : Option Addr} {ct : Nat} {T : List D} {Al : Option Addr} {cl : Nat} {L : List D} {Ao : Option Addr} {co : Nat} {X : List (Rw D)}
theorem PR.up (h : PR w lo At ct T Al cl L Ao co X W) (hb : Below W.heap.size W W') : PR w lo At ct T Al cl L Ao co X W' :=
  ⟨h.ow.up hb, own_up h.l hb, h.r.up hb, h.nl, h.nx⟩
theorem PR.bl (h : PR w lo At ct T Al cl L Ao co X W) (hb : Below W.heap.size W W') : PR w lo At ct T Al cl L Ao co X W' := h.up hb
theorem PR.al (h : PR w lo At ct T Al cl L Ao co X W) (o : Obj) : PR w lo At ct T Al cl L Ao co X (W.alloc o) := h.up (below1 W o)
theorem PR.dr (h : PR w lo At ct T Al cl L Ao co X W) : PR w lo At ct T Al cl L Ao co X W.drew := h.up ((Below.refl _ _).drew)
/-- A row more among the rows. -/
theorem PR.out (h : PR w lo At ct T Al cl L Ao co X W) (A9 : Option Addr) (c9 : Nat) (F : List D) (hf : W.ownsRow lo 49 3 (.slice A9 F.length c9) F.length (dartsV F)) (hd : ∀ y ∈ X, ∀ a b, y.1 = some a → A9 = some b → a.block ≠ b.block)
    (ht : ∀ g, (Value.slice A9 F.length c9).ownBlock = some g → (Value.slice At T.length ct).ownBlock ≠ some g) (hn : X.length ≤ 1000000) (A1 : Option Addr) (c1 : Nat) (hr : RdS W W.heap.size 1 A1 1 c1 [.slice A9 F.length c9]) :
    ∃ A' c' W', (Builtin.append_ #[97, 97] 97 #[.slice Ao X.length co, .slice A1 1 c1]).run Tryz.prog W = .ok (.slice A' (X.length + 1) c') W' ∧ PR w lo At ct T Al cl L A' c' (X ++ [(A9, c9, F)]) W' ∧ Below lo W W' := by
  obtain ⟨iR, hiR, hr0, hr1, hr2⟩ := info_partsD info_rowD
  obtain ⟨A', c', W2, hrun, hR, hb, hg⟩ := h.r.push (P := Tryz.prog) ((A9, c9, F) : Rw D) (by rw [rowsD]; exact hf) hd 97 97 iR _ Tryz.underlying97 hiR hr0 hr1 hr2 rfl (by decide) hn h.ow.hi A1 c1 hr
  have hk : ∀ {v : Value} {n : Nat} {xs : List Value}, W.ownsRow lo 49 3 v n xs → W2.ownsRow lo 49 3 v n xs := fun {v n xs} ho => ho.kept hg (by
    cases hv : v.ownBlock with
    | none => exact .inl rfl
    | some g => exact .inr fun q => own_two h.r.row ho (by decide) q.symm hv)
  have hlo : ∀ k, (Value.slice Ao X.length co).ownBlock = some k → lo ≤ k := fun k hk => (h.r.row.lt k hk).1
  refine ⟨A', c', W2, hrun, ⟨⟨hk h.ow.own, h.ow.below.grown hg h.ow.below.size (fun k e => Nat.le_trans h.ow.lo (hlo k e)), h.ow.lo, Nat.le_trans h.ow.hi hg.size⟩, hk h.l, ?_, h.nl, fun x hx => ?_⟩, hb⟩
  · rw [List.length_append]
    exact hR
  · rcases List.mem_append.1 hx with hx | hx
    · exact h.nx x hx
    · obtain rfl := List.mem_singleton.1 hx
      exact ht
/-- A row of the rows is told. -/
theorem PR.tell (h : PR w lo At ct T Al cl L Ao co X W) {A9 : Option Addr} {c9 : Nat} {F : List D} (hx : (A9, c9, F) ∈ X) (hn : T.length + F.length ≤ 1000000) :
    ∃ A' c' W', (Builtin.append_ #[45, 45] 45 #[.slice At T.length ct, .slice A9 F.length c9]).run Tryz.prog W = .ok (.slice A' (T ++ F).length c') W' ∧ PR w lo A' c' (T ++ F) Al cl L Ao co X W' ∧ Below lo W W' := by
  obtain ⟨i0, hi0, hz0, hz1, hz2⟩ := info_partsD info_dartD
  have hr : RdS W W.heap.size 3 A9 F.length c9 (dartsV F) := by
    have := own_rds (h.r.one _ hx)
    rw [rowsD] at this
    exact this
  obtain ⟨v, W2, hrun, how, hb, hg, ho⟩ := Ow.app2 (P := Tryz.prog) 45 45 49 i0 _ 3 24 lo Tryz.underlying45 hi0 hz0 hz1 hz2 rfl (by decide) _ T.length _ h.ow _ A9 F.length c9 (dartsV F) hr (dartsV_one F) (by unfold maxLen; omega) (by omega)
  rw [← dartsV_app, ← List.length_append] at how
  obtain ⟨A', c', rfl, -⟩ := how.rds
  have hll : ∀ {u : Value} {n : Nat} {xs : List Value}, W.ownsRow lo 49 3 u n xs → (∀ g, u.ownBlock = some g → (Value.slice At T.length ct).ownBlock ≠ some g) → ∀ g, u.ownBlock = some g → (Value.slice A' (T ++ F).length c').ownBlock ≠ some g := fun {u n xs} hu hne g hg2 q => by
    rcases ho with e | e
    · exact hne g hg2 (e ▸ q)
    · rw [e] at q
      have := (hu.lt g hg2).2
      have := Option.some.inj q
      omega
  refine ⟨A', c', W2, hrun, ⟨how, h.l.kept hg ?_, h.r.far hg (fun g e q => own_two h.r.row h.ow.own (by decide) q e) (fun x hx g e q => h.nx x hx g q e), hll h.l h.nl, fun x hx => hll (h.r.one x hx) (h.nx x hx)⟩, hb⟩
  cases hv : (Value.slice Al L.length cl).ownBlock with
  | none => exact .inl rfl
  | some g => exact .inr fun q => h.nl g hv q.symm
end
structure OwnR (lo : Nat) (A9 : Option Addr) (c9 : Nat) (F : List D) (W : World) : Prop where
  own : W.ownsRow lo 49 3 (.slice A9 F.length c9) F.length (dartsV F)
theorem OwnR.bl {lo : Nat} {A9 : Option Addr} {c9 : Nat} {F : List D} {W W' : World} (h : OwnR lo A9 c9 F W) (hb : Below W.heap.size W W') : OwnR lo A9 c9 F W' := ⟨own_up h.own hb⟩
set_option maxRecDepth 100000 in
set_option maxHeartbeats 4000000 in
theorem rfaces_any (A : Option Addr) (n c : Nat) (Vs : List VC) (B : Option Addr) (m k : Nat) (Es : List EC) (w : World) (h : DgIn w A n c Vs B m k Es) (hf : Formed Vs Es) :
    Calls Tryz.prog 64 #[.agg #[.slice A n c, .slice B m k]] w fun e w' => ∃ A' c' X, e = .returned (.slice A' X.length c') ∧ RowsIn w' (w.heap.size + 1) 45 49 3 encD A' X.length c' X ∧ X.map (·.2.2) = orbsF (phF Vs) 80 (dsE Es) [] ∧ Below w.heap.size w w' := by
  have HDa := Lib.hid h
  have HFm := Lib.hid hf
  have hm : m ≤ 40 := (hf.small h).2.1
  have hme : Es.length = m := h.e.rlen eC_len (by decide)
  have HDs := Lib.hid (fun W (h : DgIn W A n c Vs B m k Es) => rdarts5_any A n c Vs B m k Es W h (by omega))
  have HTr : RowKit.Hid (∀ y1 y2 y3 : Int, (y1, y2, y3) ∈ ringsOf Vs → ∀ W, DgIn W A n c Vs B m k Es → Calls Tryz.prog 83 #[.agg #[.slice A n c, .slice B m k], .agg #[.int .i64 y1, .int .i64 y2, .int .i64 y3]] W fun e w' => ∃ A' c', e = .returned (.slice A' (orbT (phF Vs) (y1, y2, y3) 80 (y1, y2, y3)).length c') ∧ w'.ownsRow W.heap.size 49 3 (.slice A' (orbT (phF Vs) (y1, y2, y3) 80 (y1, y2, y3)).length c') (orbT (phF Vs) (y1, y2, y3) 80 (y1, y2, y3)).length (dartsV (orbT (phF Vs) (y1, y2, y3) 80 (y1, y2, y3))) ∧ (orbT (phF Vs) (y1, y2, y3) 80 (y1, y2, y3)).length ≤ 80 ∧ Below W.heap.size W w') := Lib.hid (fun y1 y2 y3 hy W h => by
    obtain ⟨e, _, _, q⟩ := (hf.mem _).1 hy
    have h1 := rtrace_any A n c Vs B m k Es y1 y2 y3 W h hf (by simp only at q; omega)
    have e1 : faceD Vs (y1, y2, y3) = orbT (phF Vs) (y1, y2, y3) 80 (y1, y2, y3) := by rw [faceD, if_pos hy]
    have h8 := faceD_len hf (y1, y2, y3)
    rw [e1] at h1 h8
    refine h1.mono ?_
    rintro e w' ⟨A', c', r1, r2, r3⟩
    exact ⟨A', c', r1, r2, h8, r3⟩)
  have hds := hf.ds
  have hdl := dsE_len Es
  obtain ⟨L, gL⟩ : ∃ z, dsE Es = z := ⟨_, rfl⟩
  rw [gL] at HDs hds hdl ⊢
  rw [hme] at hdl
  rw [← hdl] at HDs
  have hl80 : L.length ≤ 80 := by omega
  have HLm := Lib.hid hds
  clear h hf gL hds hdl hme hm
  go_enter Tryz.func64, Tryz.ntmps64
  go_upto_region 1 with fail
  have hx0 : Whole (w.alloc (.cells #[.slice A n c, .slice B m k] 25)) (w.heap.size) 25 [.slice A n c, .slice B m k] := (Whole.new_ w 25 [.slice A n c, .slice B m k])
  have hbl : Below w.heap.size w (w.alloc (.cells #[.slice A n c, .slice B m k] 25)) := (below1 w (.cells #[.slice A n c, .slice B m k] 25))
  have hsz : w.heap.size + 1 ≤ ((w.alloc (.cells #[.slice A n c, .slice B m k] 25))).heap.size := by simp
  obtain ⟨W0, gW0⟩ : ∃ z, (w.alloc (.cells #[.slice A n c, .slice B m k] 25)) = z := ⟨_, rfl⟩
  rw [gW0] at hx0 hbl hsz
  obtain ⟨b0, gb0⟩ : ∃ z, w.heap.size = z := ⟨_, rfl⟩
  rw [gb0] at hx0
  have HX0 := Lib.hid hx0
  have HB0 := Lib.hid hbl
  have HS0 := Lib.hid hsz
  have Gb0 := Lib.hid gb0
  have Lb0 : RowKit.Hid (w.heap.size ≤ b0) := Lib.hid (by omega)
  rw [gW0, gb0]
  clear gW0 hbl hsz hx0 gb0
  have c0 := (HX0.out.al (.cells #[] 45)).al (.cells #[] 49) |>.cell (i := 0) rfl
  have c1 := (HX0.out.al (.cells #[] 45)).al (.cells #[] 49) |>.cell (i := 1) rfl
  have HB1 := Lib.hid (bel_al (bel_al HB0.out (.cells #[] 45)) (.cells #[] 49))
  have HX1 := Lib.hid ((HX0.out.al (.cells #[] 45)).al (.cells #[] 49))
  have HO1 : RowKit.Hid (Ow w (b0 + 1) 49 3 (.slice (some ⟨W0.heap.size + 1, 0, none⟩) 0 0) 0 [] ((W0.alloc (.cells #[] 45)).alloc (.cells #[] 49))) := Lib.hid (by
    have h1 := Ow.new_ (W := W0.alloc (.cells #[] 45)) (cs := #[]) (e := 49) (size := 3) (n := 0) (B := b0 + 1) (bel_al HB0.out (.cells #[] 45)) (by have := Lb0.out; omega) (by have := HX0.out.lt; simp; omega) (by unfold maxLen; omega) rfl
    rw [World.size_alloc] at h1
    exact h1)
  have HR1 : RowKit.Hid (RowsIn ((W0.alloc (.cells #[] 45)).alloc (.cells #[] 49)) (b0 + 1) 45 49 3 encD (some ⟨W0.heap.size, 0, none⟩) 0 0 []) := Lib.hid ⟨own_up (World.ownsRow_made W0 #[] 0 HX0.out.lt (Nat.zero_le _) (by simp)) (below1 _ _), rfl, fun x hx => (by cases hx), fun i j x y a b _ h => (by simp at h)⟩
  go_wp2_with fail
  refine (HDs.out _ (HDa.out.bl HB1.out)).mono ?_
  rintro e w3 ⟨Al, cl, rfl, hol, hb3⟩
  have hsz : w.heap.size ≤ b0 := Lb0.out
  have HP3 : RowKit.Hid (PR w (b0 + 1) (some ⟨W0.heap.size + 1, 0, none⟩) 0 [] Al cl L (some ⟨W0.heap.size, 0, none⟩) 0 [] w3) := Lib.hid ⟨HO1.out.up hb3, own_base hol (by have := HX1.out.lt; omega), HR1.out.up hb3, fun g e q => by
    have h1 := (hol.lt g e).1
    have h2 : W0.heap.size + 1 = g := Option.some.inj q
    simp at h1 h2
    omega, fun x hx => (by cases hx)⟩
  have HX3 := Lib.hid (HX1.out.bl hb3)
  clear c0 c1 HX0 HB0 HB1 HX1 HO1 HR1 hol hb3 hsz HDs
  obtain ⟨A0, gA0⟩ : ∃ z, some (⟨W0.heap.size, 0, none⟩ : Addr) = z := ⟨_, rfl⟩
  obtain ⟨T0, gT0⟩ : ∃ z, some (⟨W0.heap.size + 1, 0, none⟩ : Addr) = z := ⟨_, rfl⟩
  rw [gA0, gT0] at HP3
  rw [gA0, gT0]
  clear gA0 gT0
  go_wp2
  go_loopw [3, 4, 6] (fun so st si wr => ∃ (i : Nat) (Ao : Option Addr) (co : Nat) (At : Option Addr) (ct : Nat) (T : List D) (X : List (Rw D)), i ≤ L.length ∧ si = .int .i64 i ∧ so = .slice Ao X.length co ∧ st = .slice At T.length ct ∧ RowKit.Hid (Whole wr b0 25 [.slice A n c, .slice B m k]) ∧ RowKit.Hid (PR w (b0 + 1) At ct T Al cl L Ao co X wr) ∧ RowKit.Hid (orbsF (phF Vs) 80 L [] = X.map (·.2.2) ++ orbsF (phF Vs) 80 (L.drop i) T) ∧ RowKit.Hid (X.length ≤ i ∧ T.length ≤ i * 80)) (fun _ _ si _ => L.length - (intOf si).toNat)
  case atStart => exact ⟨0, A0, 0, T0, 0, [], [], by omega, rfl, rfl, rfl, HX3, HP3, Lib.hid rfl, Lib.hid ⟨Nat.zero_le _, Nat.zero_le _⟩⟩
  case round =>
    clear HX3 HP3
    obtain ⟨i, Ao, co, At, ct, T, X, hi, rfl, rfl, rfl, HX, HP, HI, Hn⟩ := hrel
    obtain ⟨wo, gwo⟩ : ∃ z, wr = z := ⟨_, rfl⟩
    rw [gwo] at HX HP ⊢
    clear gwo
    by_cases hin : i < L.length
    · obtain ⟨bd, of2, rfl, hbd, hc⟩ := (own_rds HP.out.l).darts (by omega)
      obtain ⟨d1, d2, d3⟩ := hc i hin
      have hdr : L.drop i = L.getD i (0, 0, 0) :: L.drop (i + 1) := by
        rw [List.drop_eq_getElem_cons hin, List.getD_eq_getElem?_getD, List.getElem?_eq_getElem hin]
        rfl
      have hxr : L.getD i (0, 0, 0) ∈ ringsOf Vs := (HLm.out _).1 (by rw [List.getD_eq_getElem?_getD, List.getElem?_eq_getElem hin]; exact List.getElem_mem hin)
      obtain ⟨x, gx⟩ : ∃ v, L.getD i (0, 0, 0) = v := ⟨_, rfl⟩
      rw [gx] at d1 d2 d3 hdr hxr
      obtain ⟨x1, x2, x3⟩ := x
      have hI := HI.out
      rw [hdr, orbsF] at hI
      obtain ⟨hXi, hTi⟩ := Hn.out
      have HIx : RowKit.Hid (∀ W, RdS W W.heap.size 3 At T.length ct (dartsV T) → Calls Tryz.prog 82 #[.slice At T.length ct, .agg #[.int .i64 x1, .int .i64 x2, .int .i64 x3]] W fun e w' => e = .returned (.int .i64 (idxD T (x1, x2, x3))) ∧ Below W.heap.size W w') := Lib.hid (fun W h => rfindex_any At T.length ct T (x1, x2, x3) W h (by omega))
      by_cases hxT : (x1, x2, x3) ∈ T
      · rw [if_pos hxT] at hI
        obtain ⟨e1, e2⟩ := idxD_mem hxT
        rw [e1] at HIx
        have ht : decide ((0 : Int) ≤ ((T.idxOf (x1, x2, x3) : Nat) : Int)) = true := decide_eq_true (by omega)
        obtain ⟨q, gq⟩ : ∃ z, T.idxOf (x1, x2, x3) = z := ⟨_, rfl⟩
        rw [gq] at HIx ht
        have HI2 := Lib.hid hI
        clear hI HI hdr gx hc hbd e1 e2 gq hxT
        go_wp2_with (first
          | (go_at_call 82; refine (HIx.out _ (own_rds HP.out.ow.own)).mono ?_; rintro e w5 ⟨rfl, hb5⟩
             have HP5 := Lib.hid (HP.out.bl hb5)
             have HX5 := Lib.hid (HX.out.bl hb5)
             clear hb5 d1 d2 d3 HP HX))
        go_roundw
        case rel => exact ⟨i + 1, Ao, co, At, ct, T, X, by omega, by go_num, rfl, rfl, HX5, HP5, HI2, Lib.hid ⟨by omega, by omega⟩⟩
        case measure => simp [intOf]; omega
      · rw [if_neg hxT] at hI
        rw [idxD_no hxT] at HIx
        have ht : decide ((0 : Int) ≤ (-1 : Int)) = false := by decide
        have HTx := Lib.hid (HTr.out x1 x2 x3 hxr)
        obtain ⟨F, gF⟩ : ∃ z, orbT (phF Vs) (x1, x2, x3) 80 (x1, x2, x3) = z := ⟨_, rfl⟩
        rw [gF] at HTx hI
        have HI2 := Lib.hid hI
        have HCx : RowKit.Hid (∀ W, Below wo.heap.size wo W → W.cell? ⟨bd, of2 + i * 3, none⟩ = some (.int .i64 x1) ∧ W.cell? ⟨bd, of2 + i * 3 + 1, none⟩ = some (.int .i64 x2) ∧ W.cell? ⟨bd, of2 + i * 3 + 2, none⟩ = some (.int .i64 x3)) := Lib.hid (fun W hb => ⟨(hb.cell (p := ⟨bd, of2 + i * 3, none⟩) hbd).trans d1, (hb.cell (p := ⟨bd, of2 + i * 3 + 1, none⟩) hbd).trans d2, (hb.cell (p := ⟨bd, of2 + i * 3 + 2, none⟩) hbd).trans d3⟩)
        clear hI HI hdr gx hc hbd gF hxT hxr
        go_upto_region 8 with (first
          | (go_at_call 82; refine (HIx.out _ (own_rds HP.out.ow.own)).mono ?_; rintro e w5 ⟨rfl, hb5⟩
             have HP5 := Lib.hid (HP.out.bl hb5)
             have HX5 := Lib.hid (HX.out.bl hb5)
             have HB5 : RowKit.Hid (Below wo.heap.size wo w5) := Lib.hid hb5
             clear hb5 d1 d2 d3 HP HX ht))
        have D0_911 := Lib.hid (HX5.out.dr)
        have P_911 := Lib.hid (HP5.out.dr)
        have Bel_911 := Lib.hid (bel_dr HB5.out)
        have ld912 : ∀ w', Kept Nil_ w5.drew w' → w'.cell? ⟨b0, 0, none⟩ = some (.slice A n c) := fun w' h => h.nil_cell (D0_911.out.cell (i := 0) rfl)
        have ld913 : ∀ w', Kept Nil_ w5.drew w' → w'.cell? ⟨b0, 1, none⟩ = some (.slice B m k) := fun w' h => h.nil_cell (D0_911.out.cell (i := 1) rfl)
        have ld914 : ∀ w', Kept Nil_ w5.drew w' → w'.cell? ⟨bd, of2 + i * 3, none⟩ = some (.int .i64 x1) := fun w' h => h.nil_cell ((HCx.out _ Bel_911.out).1)
        have ld915 : ∀ w', Kept Nil_ w5.drew w' → w'.cell? ⟨bd, of2 + i * 3 + 1, none⟩ = some (.int .i64 x2) := fun w' h => h.nil_cell ((HCx.out _ Bel_911.out).2.1)
        have ld916 : ∀ w', Kept Nil_ w5.drew w' → w'.cell? ⟨bd, of2 + i * 3 + 2, none⟩ = some (.int .i64 x3) := fun w' h => h.nil_cell ((HCx.out _ Bel_911.out).2.2)
        refine wp_region_reg Nil_ (by kernel_rfl) ?_
        refine opR_ 0 25 (v := ?_) ?_ ?_; rotate_left
        · intro w' hw'; go_simp; (try with_reducible rfl)
        simp only [st0_, st1_]
        refine opR_ 1 26 (v := ?_) ?_ ?_; rotate_left
        · intro w' hw'; go_simp; (try with_reducible rfl)
        simp only [st0_, st1_]
        refine opR_ 2 27 (v := ?_) ?_ ?_; rotate_left
        · intro w' hw'; go_simp; (try with_reducible rfl)
        simp only [st0_, st1_]
        refine opR_ 3 28 (v := ?_) ?_ ?_; rotate_left
        · intro w' hw'; go_simp; (try with_reducible rfl)
        simp only [st0_, st1_]
        refine opR_ 4 29 (v := ?_) ?_ ?_; rotate_left
        · intro w' hw'; go_simp; (try with_reducible rfl)
        simp only [st0_, st1_]
        apply wpR_call 5 (some 30)
        · rfl
        · rfl
        · kernel_rfl
        · rfl
        · intro w'; go_simp; first | done | exact ⟨rfl, rfl⟩ | with_reducible rfl
        intro w' hw'
        refine (HTx.out _ (HDa.out.bl (P_911.out.bl hw').ow.below)).mono ?_
        rintro e w917 ⟨A9, c9, rfl, ho9, hl9, hb917⟩
        have Hl9 := Lib.hid hl9
        have hF : OwnR (b0 + 1) A9 c9 F w917 := ⟨own_base ho9 (by have := (D0_911.out.bl hw').lt; omega)⟩
        have HNt : RowKit.Hid (∀ g, (Value.slice A9 F.length c9).ownBlock = some g → (Value.slice At T.length ct).ownBlock ≠ some g) := Lib.hid (fun g e q => by
          have h1 := (ho9.lt g e).1
          have h2 := ((P_911.out.bl hw').ow.own.lt g q).2
          omega)
        have HNx : RowKit.Hid (∀ y ∈ X, ∀ a b : Addr, y.1 = some a → A9 = some b → a.block ≠ b.block) := Lib.hid (fun y hy a b ha hb q => by
          have h1 := (ho9.lt b.block (by rw [hb]; rfl)).1
          have h2 := (((P_911.out.bl hw').r.one y hy).lt a.block (by rw [rw_block, ha]; rfl)).2
          omega)
        clear ho9 hl9
        have D0_917 := Lib.hid ((D0_911.out.bl hw').bl hb917)
        have P_917 := Lib.hid ((P_911.out.bl hw').bl hb917)
        have Bel_917 := Lib.hid (bel_bl (bel_bl Bel_911.out hw') hb917)
        have ld918 := fun w'' (h : Kept Nil_ w917 w'') => ld912 w'' ((Kept.of_ext hw').trans ((Kept.of_below hb917).trans h))
        have ld919 := fun w'' (h : Kept Nil_ w917 w'') => ld913 w'' ((Kept.of_ext hw').trans ((Kept.of_below hb917).trans h))
        have ld920 := fun w'' (h : Kept Nil_ w917 w'') => ld914 w'' ((Kept.of_ext hw').trans ((Kept.of_below hb917).trans h))
        have ld921 := fun w'' (h : Kept Nil_ w917 w'') => ld915 w'' ((Kept.of_ext hw').trans ((Kept.of_below hb917).trans h))
        have ld922 := fun w'' (h : Kept Nil_ w917 w'') => ld916 w'' ((Kept.of_ext hw').trans ((Kept.of_below hb917).trans h))
        refine ⟨_, rfl, Kept.of_below hb917, ?_⟩
        clear hw' hb917
        have F_917 := Lib.hid hF
        clear hF
        simp only [Act.put, stA_, st0_, st1_]
        refine opR_ 6 7 (v := ?_) ?_ ?_; rotate_left
        · intro w' hw'; go_simp; (try with_reducible rfl)
        simp only [st0_, st1_]
        refine wpR_done (by kernel_rfl) ?_ _
        intro w923 hw'
        have D0_924 := Lib.hid (D0_917.out.bl hw')
        have P_924 := Lib.hid (P_917.out.bl hw')
        have F_924 := Lib.hid (F_917.out.bl hw')
        have Bel_924 := Lib.hid (bel_bl Bel_917.out hw')
        clear D0_917 P_917 F_917 Bel_917
        clear hw'
        go_upto_region 9 with fail
        refine wp_region_lit ?_
        refine wl_read (v := ?_) (some 31) rfl (by rfl) ?_ ?_
        rotate_left
        · go_simp; (try with_reducible rfl)
        simp only [Act.put, stA_, st0_, st1_]
        refine wl_read (v := ?_) (some 32) rfl (by rfl) ?_ ?_
        rotate_left
        · go_simp; (try with_reducible rfl)
        simp only [Act.put, stA_, st0_, st1_]
        refine wl_buildSlice (some 33) rfl (by rfl) 97 45 1 #[(0, .tmp 32)] (by rfl) Tryz.underlying97 #[.slice A9 F.length c9] (by kernel_rfl) ?_
        simp only [Act.put, stA_, st0_, st1_]
        have HLs : RowKit.Hid (RdS (w923.alloc (.cells #[.slice A9 F.length c9] 45)) (w923.alloc (.cells #[.slice A9 F.length c9] 45)).heap.size 1 (some ⟨w923.heap.size, 0, none⟩) 1 1 [.slice A9 F.length c9]) := Lib.hid (RdS.of_whole (cs := [.slice A9 F.length c9]) (Whole.new_ _ _ _) rfl)
        obtain ⟨A7, c7, w7, hrun, hp7, hb7⟩ := (P_924.out.al (.cells #[.slice A9 F.length c9] 45)).out A9 c9 F (own_up F_924.out.own (below1 _ _)) HNx.out HNt.out (by omega) _ _ HLs.out
        refine wl_run (some 34) rfl (by rfl) (exec_append (by rfl) (by rfl) (by rfl) hrun) ?_
        simp only [Act.put, stA_, st0_, st1_]
        have HX7 := Lib.hid ((D0_924.out.al (.cells #[.slice A9 F.length c9] 45)).at_ (hb7.block b0 (by omega)))
        obtain ⟨A8, c8, w8, hrun8, hp8, hb8⟩ := hp7.tell (List.mem_append.2 (.inr (List.mem_singleton.2 rfl))) (by have := Hl9.out; omega)
        have HX8 := Lib.hid (HX7.out.at_ (hb8.block b0 (by omega)))
        have HP8 : RowKit.Hid (PR w (b0 + 1) A8 c8 (T ++ F) (some ⟨bd, of2, none⟩) cl L A7 c7 (X ++ [(A9, c9, F)]) w8) := Lib.hid hp8
        have Hrun8 := Lib.hid hrun8
        have HI8 : RowKit.Hid (orbsF (phF Vs) 80 L [] = (X ++ [((A9, c9, F) : Rw D)]).map (·.2.2) ++ orbsF (phF Vs) 80 (L.drop (i + 1)) (T ++ F)) := Lib.hid (by rw [HI2.out, List.map_append]; simp)
        have Hn8 : RowKit.Hid ((X ++ [((A9, c9, F) : Rw D)]).length ≤ i + 1 ∧ (T ++ F).length ≤ (i + 1) * 80) := Lib.hid ⟨by simp; omega, by have := Hl9.out; rw [List.length_append]; omega⟩
        have hxl : (X ++ [((A9, c9, F) : Rw D)]).length = X.length + 1 := by simp
        clear hrun hp7 hb7 HX7 hrun8 hp8 hb8 HLs HNx HNt Hl9 HI2 D0_924 P_924 F_924 Bel_924
        go_upto_region 10 with fail
        go_wp2_with (first
          | (at_builtin
             refine wpList_app rfl (.tmp 35) (.tmp 36) _ rfl rfl rfl Hrun8.out ?_
             clear Hrun8))
        go_roundw
        case rel => exact ⟨i + 1, A7, c7, A8, c8, T ++ F, _, by omega, by go_num, by rw [hxl], by rw [List.length_append], HX8, HP8, HI8, Hn8⟩
        case measure => simp [intOf]; omega
    · obtain rfl : L.length = i := by omega
      have hI := HI.out
      rw [List.drop_length] at hI
      have HI2 : RowKit.Hid (orbsF (phF Vs) 80 L [] = X.map (·.2.2)) := Lib.hid (by rw [hI]; simp [orbsF])
      clear hI HI
      go_wp2
      go_ret
      exact ⟨Ao, co, X, rfl, by have := Gb0.out; rw [this]; exact HP.out.r, HI2.out.symm, HP.out.ow.below⟩
end Go.Proofs.YtmkflebkifbpfaaGreat
/- Faces of a diagram that is well formed; and the document's examples. -/
namespace Go.Proofs.YtmkflebkifbpfaaGreat
open Go.RowKit
structure PreF (n : Nat) (Vs : List VC) : Prop where
  n : n ≤ 1000000
  r : ∀ x ∈ Vs, x.2.1.2.1 ≤ 1000000
  s : ∀ v ∈ Vs, ∀ d ∈ v.2.1.2.2.2, wfS d
  k : ∀ S, KeysD (sigM Vs) S → S.length ≤ 1000000
  l : (dsV Vs).length ≤ 1000000
theorem Formed.pre {A : Option Addr} {n c : Nat} {Vs : List VC} {B : Option Addr} {m k : Nat} {Es : List EC} {w : World} (hf : Formed Vs Es) (h : DgIn w A n c Vs B m k Es) (hg : GoodD Vs Es) : PreF n Vs := by
  have h8 := hf.l80
  obtain ⟨h1, h2, h3⟩ := hf.small h
  exact ⟨by omega, fun x hx => by have := h3 x hx; omega, fun v hv d hd => hf.wfS hg (ring_mem.2 ⟨v, hv, hd⟩), fun S hS => by have := hS.formed hf hg; omega, by rw [dsV_eq]; omega⟩
theorem faces5_any (A : Option Addr) (n c : Nat) (Vs : List VC) (B : Option Addr) (m k : Nat) (Es : List EC) (w : World) (h : DgIn w A n c Vs B m k Es) (hf : Formed Vs Es) (hg : GoodD Vs Es) :
    Calls Tryz.prog 92 #[.agg #[.slice A n c, .slice B m k]] w fun e w' => ∃ A' c' X, e = .returned (.slice A' X.length c') ∧ RowsIn w' (w.heap.size + 1) 45 49 3 encD A' X.length c' X ∧ X.map (·.2.2) = orbsF (phF Vs) 80 (dsE Es) [] ∧ Below w.heap.size w w' := by
  have hp := hf.pre h hg
  refine (faces_any A n c Vs B m k Es w h hp.n hp.r hp.s hp.k hp.l).mono ?_
  rintro e w' ⟨S, A', c', X, hS, rfl, hR, hX, hb⟩
  rw [sort_darts hf, facesF_eq hf (by rw [hS.formed hf hg]; exact Nat.le_refl _) _ _ (fun x hx => (hf.ds x).1 hx)] at hX
  exact ⟨A', c', X, rfl, hR, hX, hb⟩
end Go.Proofs.YtmkflebkifbpfaaGreat
/- How many vertices, edges, faces and parts there are; the genus. -/
namespace Go.Proofs.YtmkflebkifbpfaaGreat
open Go.RowKit
def alB (v : VC) : Bool := decide (v.2.1.2.2.2 = [])
theorem alone_next {Vs : List VC} {j : Nat} {v : VC} (h : Vs[j]? = some v) : ((Vs.take (j + 1)).filter alB).length = ((Vs.take j).filter alB).length + if alB v then 1 else 0 := by
  rw [List.take_add_one, h, List.filter_append, List.length_append]
  congr 1
  simp only [Option.toList_some, List.filter_cons, List.filter_nil]
  split <;> rfl
theorem alone_le (Vs : List VC) : aloneN Vs ≤ Vs.length := List.length_filter_le _ _
theorem alB_len {v : VC} {rn : Nat} (h : v.2.1.2.2.2.length = rn) : ((rn : Int) == 0) = alB v := by
  unfold alB
  cases hR : v.2.1.2.2.2 with
  | nil => rw [hR] at h; subst h; rfl
  | cons a r =>
    rw [hR, List.length_cons] at h
    subst h
    simp
    omega
set_option maxRecDepth 100000 in
set_option maxHeartbeats 4000000 in
theorem cnt1 (v : VC) (w : World) (hr : v.2.1.2.2.2.length = v.2.1.2.1) : Calls Tryz.prog 91 #[.agg (vC v).toArray] w fun e w' => e = .returned (.bool (alB v)) ∧ Below w.heap.size w w' := by
  have hb := alB_len hr
  obtain ⟨b, gb⟩ : ∃ z, alB v = z := ⟨_, rfl⟩
  rw [gb] at hb ⊢
  clear gb hr
  obtain ⟨⟨i1, i2⟩, ⟨rA, rn, rc, rL⟩, lb, at_⟩ := v
  replace hb : ((rn : Int) == 0) = b := hb
  show Calls Tryz.prog 91 #[.agg #[.int .i64 i1, .int .i64 i2, .slice rA rn rc, .string lb, .int .i64 at_]] w _
  go_enter Tryz.func91, Tryz.ntmps91
  go_wp2
  exact bodyPost_ret (v := .bool b) (by simp [results, Tryz.results91, go_sem, hb]) rfl ⟨rfl, below1 _ _⟩
set_option maxRecDepth 100000 in
set_option maxHeartbeats 4000000 in
theorem ecount1 (A : Option Addr) (n c : Nat) (Vs : List VC) (w : World) (h : RdS w w.heap.size 5 A n c (rowsV vC Vs)) (hn : n ≤ 1000000) (hr : ∀ v ∈ Vs, v.2.1.2.2.2.length = v.2.1.2.1) :
    Calls Tryz.prog 90 #[.slice A n c, .func (.func 91) #[] #[]] w fun e w' => e = .returned (.int .i64 ((aloneN Vs : Nat) : Int)) ∧ Below w.heap.size w w' := by
  have hl := h.rlen vC_len (by decide)
  have H := Lib.hid h
  have Hl := Lib.hid hl
  have Hr := Lib.hid hr
  have HE := Lib.hid (ent_of (k := 91) Tryz.func91 (by kernel_rfl) rfl)
  have HG : RowKit.Hid (aloneN Vs = ((Vs.take n).filter alB).length) := Lib.hid (by rw [List.take_of_length_le (by omega)]; rfl)
  obtain ⟨an, gan⟩ : ∃ z, aloneN Vs = z := ⟨_, rfl⟩
  rw [gan] at HG ⊢
  clear h hl hr gan
  go_enter Tryz.func90, Tryz.ntmps90
  go_wp2
  go_loopw [5, 10] (fun sn si wr => ∃ (j q : Nat), j ≤ n ∧ si = .int .i64 j ∧ sn = .int .i64 (q : Int) ∧ RowKit.Hid (Below w.heap.size w wr) ∧ RowKit.Hid (((Vs.take j).filter alB).length = q)) (fun _ si _ => n - (intOf si).toNat)
  case atStart => exact ⟨0, 0, by omega, rfl, rfl, Lib.hid (Below.refl _ _), Lib.hid rfl⟩
  case round =>
    obtain ⟨j, q, hj, rfl, rfl, HB, HQ⟩ := hrel
    have hqj : q ≤ j := by
      have h1 := List.length_filter_le alB (Vs.take j)
      rw [HQ.out, List.length_take] at h1
      omega
    by_cases hjn : j < n
    · obtain ⟨v, hx⟩ : ∃ v, Vs[j]? = some v := ⟨_, List.getElem?_eq_getElem (by have := Hl.out; omega)⟩
      have hnx := alone_next hx
      rw [HQ.out] at hnx
      have hcn := fun W => cnt1 v W (Hr.out v (List.mem_of_getElem? hx))
      obtain ⟨b, gb⟩ : ∃ z, alB v = z := ⟨_, rfl⟩
      rw [gb] at hcn hnx
      obtain ⟨bb, off, rfl, hbB, hpl⟩ := H.out.place vC_len (by decide) (by omega)
      have hbw := HB.out
      have q0 := hpl j _ hx 0 _ rfl
      have q1 := hpl j _ hx 1 _ rfl
      have q2 := hpl j _ hx 2 _ rfl
      have q3 := hpl j _ hx 3 _ rfl
      have q4 := hpl j _ hx 4 _ rfl
      simp only [Addr.add_lit, Nat.add_zero] at q0 q1 q2 q3 q4
      have l0 := (hbw.cell (p := ⟨bb, off + j * 5, none⟩) hbB).trans q0
      have l1 := (hbw.cell (p := ⟨bb, off + j * 5 + 1, none⟩) hbB).trans q1
      have l2 := (hbw.cell (p := ⟨bb, off + j * 5 + 2, none⟩) hbB).trans q2
      have l3 := (hbw.cell (p := ⟨bb, off + j * 5 + 3, none⟩) hbB).trans q3
      have l4 := (hbw.cell (p := ⟨bb, off + j * 5 + 4, none⟩) hbB).trans q4
      clear hbw q0 q1 q2 q3 q4
      obtain ⟨⟨i1, i2⟩, ⟨rA, rn, rc, rL⟩, lb, at_⟩ := v
      replace hcn : ∀ W, Calls Tryz.prog 91 #[.agg #[.int .i64 i1, .int .i64 i2, .slice rA rn rc, .string lb, .int .i64 at_]] W fun e w' => e = .returned (.bool b) ∧ Below W.heap.size W w' := hcn
      have HC := Lib.hid hcn
      have Hnx := Lib.hid hnx
      clear hx hpl hcn hbB gb hnx
      go_wp2_with fail
      refine (HC.out _).mono ?_
      rintro e w3 ⟨rfl, hb3⟩
      have HB3 : RowKit.Hid (Below w.heap.size w w3) := Lib.hid (bel_bl (bel_al HB.out (.cells #[.int .i64 i1, .int .i64 i2, .slice rA rn rc, .string lb, .int .i64 at_] 47)) hb3)
      clear hb3 l0 l1 l2 l3 l4
      cases b with
      | false =>
        go_wp2
        go_roundw
        case rel => exact ⟨j + 1, q, by omega, by go_num, rfl, HB3, Lib.hid Hnx.out⟩
        case measure => simp [intOf]; omega
      | true =>
        have hwq : IntKind.i64.wrap ((q : Int) + 1) = ((q + 1 : Nat) : Int) := by rw [IntWalk.i64_in _ (by omega)]; rfl
        go_wp2
        go_roundw
        case rel => exact ⟨j + 1, q + 1, by omega, by go_num, by go_num, HB3, Lib.hid Hnx.out⟩
        case measure => simp [intOf]; omega
    · obtain rfl : n = j := by omega
      have hq : q = an := by rw [HG.out, HQ.out]
      subst hq
      go_wp2
      go_ret
      exact ⟨rfl, HB.out⟩
end Go.Proofs.YtmkflebkifbpfaaGreat
/- Counts of layer 7. -/
namespace Go.Proofs.YtmkflebkifbpfaaGreat
open Go.RowKit
set_option maxRecDepth 100000 in
set_option maxHeartbeats 4000000 in
theorem ecnt_any (A : Option Addr) (n c : Nat) (Vs : List VC) (B : Option Addr) (m k : Nat) (Es : List EC) (F C : Nat) (w : World) (h : DgIn w A n c Vs B m k Es) (hn : n ≤ 1000000) (hm : m ≤ 1000000) (hF : F ≤ 1000000) (hC : C ≤ 1000000) (HF : ∀ W, DgIn W A n c Vs B m k Es → Calls Tryz.prog 92 #[.agg #[.slice A n c, .slice B m k]] W fun e w' => ∃ A' c', e = .returned (.slice A' F c') ∧ Below W.heap.size W w') (HC : ∀ W, DgIn W A n c Vs B m k Es → Calls Tryz.prog 93 #[.agg #[.slice A n c, .slice B m k]] W fun e w' => e = .returned (.int .i64 ((C : Nat) : Int)) ∧ Below W.heap.size W w') :
    Calls Tryz.prog 77 #[.agg #[.slice A n c, .slice B m k]] w fun e w' => e = .returned (.tuple #[.int .i64 (n : Int), .int .i64 (m : Int), .int .i64 ((F + aloneN Vs : Nat) : Int), .int .i64 (C : Int)]) ∧ Below w.heap.size w w' := by
  have HDa := Lib.hid h
  have hr : ∀ v ∈ Vs, v.2.1.2.2.2.length = v.2.1.2.1 := fun v hv => (h.r v hv).2.dlen
  have HC1 := Lib.hid (fun W (hv : RdS W W.heap.size 5 A n c (rowsV vC Vs)) => ecount1 A n c Vs W hv hn hr)
  have hl := h.v.rlen vC_len (by decide)
  have hal := alone_le Vs
  rw [hl] at hal
  obtain ⟨an, gan⟩ : ∃ z, aloneN Vs = z := ⟨_, rfl⟩
  rw [gan] at HC1 hal ⊢
  have HFf := Lib.hid HF
  have HCc := Lib.hid HC
  obtain ⟨ft, gft⟩ : ∃ z, F + an = z := ⟨_, rfl⟩
  have hw1 : IntKind.i64.wrap ((F : Int) + (an : Int)) = (ft : Int) := by rw [IntWalk.i64_in _ (by omega)]; omega
  rw [gft]
  clear gft
  clear h hr hl gan HF HC
  go_enter Tryz.func77, Tryz.ntmps77
  have lw1 : ((w.alloc (.cells #[.slice A n c, .slice B m k] 25))).cell? ⟨w.heap.size, 0, none⟩ = some (.slice A n c) := (show Whole (w.alloc (.cells #[.slice A n c, .slice B m k] 25)) (w.heap.size) (25) ([.slice A n c, .slice B m k]) from Whole.new2 (by first | rfl | simp)).cell (i := 0) rfl
  go_wp2_with fail
  clear lw1
  refine (HC1.out _ (DgIn.v (HDa.out.al (.cells #[.slice A n c, .slice B m k] 25)))).mono ?_
  rintro e w2 ⟨rfl, hb2⟩
  have Da_3 := Lib.hid ((HDa.out.al (.cells #[.slice A n c, .slice B m k] 25)).bl hb2)
  have D0_3 := Lib.hid ((show Whole (w.alloc (.cells #[.slice A n c, .slice B m k] 25)) (w.heap.size) (25) ([.slice A n c, .slice B m k]) from Whole.new2 (by first | rfl | simp)).bl hb2)
  have Bel_3 := Lib.hid (bel_bl (bel_al (Below.refl _ w) (.cells #[.slice A n c, .slice B m k] 25)) hb2)
  clear HDa
  clear hb2
  go_upto_region 2 with fail
  have Da_4 := Lib.hid (Da_3.out.dr)
  have D0_4 := Lib.hid (D0_3.out.dr)
  have Bel_4 := Lib.hid (bel_dr Bel_3.out)
  have ld5 : ∀ w', Kept Nil_ w2.drew w' → w'.cell? ⟨w.heap.size, 0, none⟩ = some (.slice A n c) := fun w' h => h.nil_cell (D0_4.out.cell (i := 0) rfl)
  have ld6 : ∀ w', Kept Nil_ w2.drew w' → w'.cell? ⟨w.heap.size, 1, none⟩ = some (.slice B m k) := fun w' h => h.nil_cell (D0_4.out.cell (i := 1) rfl)
  refine wp_region_reg Nil_ (by kernel_rfl) ?_
  refine opR_ 0 10 (v := ?_) ?_ ?_; rotate_left
  · intro w' hw'; go_simp; (try with_reducible rfl)
  simp only [st0_, st1_]
  refine opR_ 1 11 (v := ?_) ?_ ?_; rotate_left
  · intro w' hw'; go_simp; (try with_reducible rfl)
  simp only [st0_, st1_]
  refine opR_ 2 12 (v := ?_) ?_ ?_; rotate_left
  · intro w' hw'; go_simp; (try with_reducible rfl)
  simp only [st0_, st1_]
  refine opR_ 3 13 (v := ?_) ?_ ?_; rotate_left
  · intro w' hw'; go_simp; (try with_reducible rfl)
  simp only [st0_, st1_]
  refine opR_ 4 14 (v := ?_) ?_ ?_; rotate_left
  · intro w' hw'; go_simp; (try with_reducible rfl)
  simp only [st0_, st1_]
  refine opR_ 5 15 (v := ?_) ?_ ?_; rotate_left
  · intro w' hw'; go_simp; (try with_reducible rfl)
  simp only [st0_, st1_]
  refine opR_ 6 16 (v := ?_) ?_ ?_; rotate_left
  · intro w' hw'; go_simp; (try with_reducible rfl)
  simp only [st0_, st1_]
  refine opR_ 9 19 (v := ?_) ?_ ?_; rotate_left
  · intro w' hw'; go_simp; (try with_reducible rfl)
  simp only [st0_, st1_]
  refine opR_ 11 21 (v := ?_) ?_ ?_; rotate_left
  · intro w' hw'; go_simp; (try with_reducible rfl)
  simp only [st0_, st1_]
  apply wpR_call 7 (some 17)
  · rfl
  · rfl
  · kernel_rfl
  · rfl
  · intro w'; go_simp; first | done | exact ⟨rfl, rfl⟩ | with_reducible rfl
  intro w' hw'
  refine (HFf.out _ (Da_4.out.bl hw')).mono ?_
  rintro e w7 ⟨A5, c5, rfl, hb7⟩
  have Da_7 := Lib.hid ((Da_4.out.bl hw').bl hb7)
  have D0_7 := Lib.hid ((D0_4.out.bl hw').bl hb7)
  have Bel_7 := Lib.hid (bel_bl (bel_bl Bel_4.out hw') hb7)
  have ld8 := fun w'' (h : Kept Nil_ w7 w'') => ld5 w'' ((Kept.of_ext hw').trans ((Kept.of_below hb7).trans h))
  have ld9 := fun w'' (h : Kept Nil_ w7 w'') => ld6 w'' ((Kept.of_ext hw').trans ((Kept.of_below hb7).trans h))
  refine ⟨_, rfl, Kept.of_below hb7, ?_⟩
  clear hw' hb7
  simp only [Act.put, stA_, st0_, st1_]
  refine opR_ 8 18 (v := ?_) ?_ ?_; rotate_left
  · intro w' hw'; go_simp; (try with_reducible rfl)
  simp only [st0_, st1_]
  refine opR_ 10 20 (v := ?_) ?_ ?_; rotate_left
  · intro w' hw'; go_simp; (try with_reducible rfl)
  simp only [st0_, st1_]
  apply wpR_call 12 (some 22)
  · rfl
  · rfl
  · kernel_rfl
  · rfl
  · intro w'; go_simp; first | done | exact ⟨rfl, rfl⟩ | with_reducible rfl
  intro w' hw'
  refine (HCc.out _ (Da_7.out.bl hw')).mono ?_
  rintro e w10 ⟨rfl, hb10⟩
  have Da_10 := Lib.hid ((Da_7.out.bl hw').bl hb10)
  have D0_10 := Lib.hid ((D0_7.out.bl hw').bl hb10)
  have Bel_10 := Lib.hid (bel_bl (bel_bl Bel_7.out hw') hb10)
  have ld11 := fun w'' (h : Kept Nil_ w10 w'') => ld8 w'' ((Kept.of_ext hw').trans ((Kept.of_below hb10).trans h))
  have ld12 := fun w'' (h : Kept Nil_ w10 w'') => ld9 w'' ((Kept.of_ext hw').trans ((Kept.of_below hb10).trans h))
  refine ⟨_, rfl, Kept.of_below hb10, ?_⟩
  clear hw' hb10
  simp only [Act.put, stA_, st0_, st1_]
  refine opR_ 13 2 (v := ?_) ?_ ?_; rotate_left
  · intro w' hw'; go_simp; (try with_reducible rfl)
  simp only [st0_, st1_]
  refine opR_ 14 3 (v := ?_) ?_ ?_; rotate_left
  · intro w' hw'; go_simp; (try with_reducible rfl)
  simp only [st0_, st1_]
  refine opR_ 15 4 (v := ?_) ?_ ?_; rotate_left
  · intro w' hw'; go_simp; (try with_reducible rfl)
  simp only [st0_, st1_]
  refine opR_ 16 5 (v := ?_) ?_ ?_; rotate_left
  · intro w' hw'; go_simp; (try with_reducible rfl)
  simp only [st0_, st1_]
  refine wpR_done (by kernel_rfl) ?_ _
  intro w13 hw'
  have Da_14 := Lib.hid (Da_10.out.bl hw')
  have D0_14 := Lib.hid (D0_10.out.bl hw')
  have Bel_14 := Lib.hid (bel_bl Bel_10.out hw')
  clear Da_10 D0_10 Bel_10
  clear hw'
  go_wp2
  exact bodyPost_ret (v := .tuple #[.int .i64 (n : Int), .int .i64 (m : Int), .int .i64 (ft : Int), .int .i64 (C : Int)]) (by simp [results, Tryz.results77, go_sem]) rfl ⟨rfl, Bel_14.out⟩
end Go.Proofs.YtmkflebkifbpfaaGreat
/- Counts of layer 7. -/
namespace Go.Proofs.YtmkflebkifbpfaaGreat
open Go.RowKit
set_option maxRecDepth 100000 in
set_option maxHeartbeats 4000000 in
theorem rcnt_any (A : Option Addr) (n c : Nat) (Vs : List VC) (B : Option Addr) (m k : Nat) (Es : List EC) (F C : Nat) (w : World) (h : DgIn w A n c Vs B m k Es) (hn : n ≤ 1000000) (hm : m ≤ 1000000) (hF : F ≤ 1000000) (hC : C ≤ 1000000) (HF : ∀ W, DgIn W A n c Vs B m k Es → Calls Tryz.prog 64 #[.agg #[.slice A n c, .slice B m k]] W fun e w' => ∃ A' c', e = .returned (.slice A' F c') ∧ Below W.heap.size W w') (HC : ∀ W, DgIn W A n c Vs B m k Es → Calls Tryz.prog 65 #[.agg #[.slice A n c, .slice B m k]] W fun e w' => e = .returned (.int .i64 ((C : Nat) : Int)) ∧ Below W.heap.size W w') :
    Calls Tryz.prog 42 #[.agg #[.slice A n c, .slice B m k]] w fun e w' => e = .returned (.tuple #[.int .i64 (n : Int), .int .i64 (m : Int), .int .i64 ((F + aloneN Vs : Nat) : Int), .int .i64 (C : Int)]) ∧ Below w.heap.size w w' := by
  have HDa := Lib.hid h
  have H := Lib.hid h.v
  have hr : ∀ v ∈ Vs, v.2.1.2.2.2.length = v.2.1.2.1 := fun v hv => (h.r v hv).2.dlen
  have Hr := Lib.hid hr
  have hl := h.v.rlen vC_len (by decide)
  have Hl := Lib.hid hl
  have HG : RowKit.Hid (aloneN Vs = ((Vs.take n).filter alB).length) := Lib.hid (by rw [List.take_of_length_le (by omega)]; rfl)
  obtain ⟨an, gan⟩ : ∃ z, aloneN Vs = z := ⟨_, rfl⟩
  rw [gan] at HG ⊢
  have HFf := Lib.hid HF
  have HCc := Lib.hid HC
  clear h hr hl gan HF HC
  go_enter Tryz.func42, Tryz.ntmps42
  have lw1 : ((w.alloc (.cells #[.slice A n c, .slice B m k] 25))).cell? ⟨w.heap.size, 0, none⟩ = some (.slice A n c) := (show Whole (w.alloc (.cells #[.slice A n c, .slice B m k] 25)) (w.heap.size) (25) ([.slice A n c, .slice B m k]) from Whole.new2 (by first | rfl | simp)).cell (i := 0) rfl
  have lw2 : ((w.alloc (.cells #[.slice A n c, .slice B m k] 25))).cell? ⟨w.heap.size, 1, none⟩ = some (.slice B m k) := (show Whole (w.alloc (.cells #[.slice A n c, .slice B m k] 25)) (w.heap.size) (25) ([.slice A n c, .slice B m k]) from Whole.new2 (by first | rfl | simp)).cell (i := 1) rfl
  go_wp2_with fail
  clear lw1 lw2
  refine (HFf.out _ (HDa.out.al (.cells #[.slice A n c, .slice B m k] 25))).mono ?_
  rintro e w3 ⟨A5, c5, rfl, hb3⟩
  have Da_4 := Lib.hid ((HDa.out.al (.cells #[.slice A n c, .slice B m k] 25)).bl hb3)
  have D0_4 := Lib.hid ((show Whole (w.alloc (.cells #[.slice A n c, .slice B m k] 25)) (w.heap.size) (25) ([.slice A n c, .slice B m k]) from Whole.new2 (by first | rfl | simp)).bl hb3)
  have Bel_4 := Lib.hid (bel_bl (bel_al (Below.refl _ w) (.cells #[.slice A n c, .slice B m k] 25)) hb3)
  clear HDa
  clear hb3
  have HD5 := Lib.hid (Da_4.out)
  have HX5 := Lib.hid (D0_4.out)
  have HB5 := Lib.hid (Bel_4.out)
  clear Da_4 D0_4 Bel_4
  go_wp2
  go_loopw [6, 7] (fun sn si wr => ∃ (j q : Nat), j ≤ n ∧ si = .int .i64 j ∧ sn = .int .i64 ((F + q : Nat) : Int) ∧ RowKit.Hid (wr = w3) ∧ RowKit.Hid (((Vs.take j).filter alB).length = q)) (fun _ si _ => n - (intOf si).toNat)
  case atStart => exact ⟨0, 0, by omega, rfl, rfl, by first | exact Lib.hid rfl | exact Lib.hid trivial, Lib.hid rfl⟩
  case round =>
    obtain ⟨j, q, hj, rfl, rfl, HW, HQ⟩ := hrel
    have hwr := HW.out.symm
    subst hwr
    have hqj : q ≤ j := by
      have h1 := List.length_filter_le alB (Vs.take j)
      rw [HQ.out, List.length_take] at h1
      omega
    have c0 := HX5.out.cell (i := 0) rfl
    by_cases hjn : j < n
    · obtain ⟨v, hx⟩ : ∃ v, Vs[j]? = some v := ⟨_, List.getElem?_eq_getElem (by have := Hl.out; omega)⟩
      have hnx := alone_next hx
      rw [HQ.out] at hnx
      have hbl := alB_len (Hr.out v (List.mem_of_getElem? hx))
      obtain ⟨b, gb⟩ : ∃ z, alB v = z := ⟨_, rfl⟩
      rw [gb] at hbl hnx
      obtain ⟨bb, off, rfl, hbB, hpl⟩ := H.out.place vC_len (by decide) (by omega)
      have hbw := HB5.out
      have q0 := hpl j _ hx 0 _ rfl
      have q1 := hpl j _ hx 1 _ rfl
      have q2 := hpl j _ hx 2 _ rfl
      have q3 := hpl j _ hx 3 _ rfl
      have q4 := hpl j _ hx 4 _ rfl
      simp only [Addr.add_lit, Nat.add_zero] at q0 q1 q2 q3 q4
      have l0 := (hbw.cell (p := ⟨bb, off + j * 5, none⟩) hbB).trans q0
      have l1 := (hbw.cell (p := ⟨bb, off + j * 5 + 1, none⟩) hbB).trans q1
      have l2 := (hbw.cell (p := ⟨bb, off + j * 5 + 2, none⟩) hbB).trans q2
      have l3 := (hbw.cell (p := ⟨bb, off + j * 5 + 3, none⟩) hbB).trans q3
      have l4 := (hbw.cell (p := ⟨bb, off + j * 5 + 4, none⟩) hbB).trans q4
      clear hbw q0 q1 q2 q3 q4
      obtain ⟨⟨i1, i2⟩, ⟨rA, rn, rc, rL⟩, lb, at_⟩ := v
      replace hbl : ((rn : Int) == 0) = b := hbl
      have q2 : w3.cell? ⟨bb, off + j * 5 + 2, none⟩ = some (.slice rA rn rc) := l2
      have Hnx := Lib.hid hnx
      clear hx hpl hbB gb hnx l0 l1 l2 l3 l4
      cases b with
      | false =>
        go_wp2
        go_roundw
        case rel => exact ⟨j + 1, q, by omega, by go_num, rfl, by first | exact Lib.hid rfl | exact Lib.hid trivial, Lib.hid Hnx.out⟩
        case measure => simp [intOf]; omega
      | true =>
        have hwq : IntKind.i64.wrap (((F + q : Nat) : Int) + 1) = ((F + (q + 1) : Nat) : Int) := by rw [IntWalk.i64_in _ (by omega)]; omega
        obtain ⟨fq, gfq⟩ : ∃ z, F + q = z := ⟨_, rfl⟩
        have gfq2 : F + (q + 1) = fq + 1 := by omega
        rw [gfq, gfq2] at hwq
        rw [gfq]
        have Gfq := Lib.hid gfq2
        clear gfq gfq2
        go_wp2
        go_roundw
        case rel => exact ⟨j + 1, q + 1, by omega, by go_num, by rw [Gfq.out]; go_num, by first | exact Lib.hid rfl | exact Lib.hid trivial, Lib.hid Hnx.out⟩
        case measure => simp [intOf]; omega
    · obtain rfl : n = j := by omega
      have hq : q = an := by rw [HG.out, HQ.out]
      subst hq
      obtain ⟨fq, gfq⟩ : ∃ z, F + q = z := ⟨_, rfl⟩
      have Gfz : RowKit.Hid ((F : Int) + (q : Int) = (fq : Int)) := Lib.hid (by omega)
      rw [gfq]
      clear gfq
      go_upto_region 7 with fail
      have Da_911 := Lib.hid (HD5.out.dr)
      have D0_911 := Lib.hid (HX5.out.dr)
      have Bel_911 := Lib.hid (bel_dr HB5.out)
      have ld912 : ∀ w', Kept Nil_ w3.drew w' → w'.cell? ⟨w.heap.size, 0, none⟩ = some (.slice A n c) := fun w' h => h.nil_cell (D0_911.out.cell (i := 0) rfl)
      have ld913 : ∀ w', Kept Nil_ w3.drew w' → w'.cell? ⟨w.heap.size, 1, none⟩ = some (.slice B m k) := fun w' h => h.nil_cell (D0_911.out.cell (i := 1) rfl)
      refine wp_region_reg Nil_ (by kernel_rfl) ?_
      refine opR_ 0 28 (v := ?_) ?_ ?_; rotate_left
      · intro w' hw'; go_simp; (try with_reducible rfl)
      simp only [st0_, st1_]
      refine opR_ 1 29 (v := ?_) ?_ ?_; rotate_left
      · intro w' hw'; go_simp; (try with_reducible rfl)
      simp only [st0_, st1_]
      refine opR_ 2 30 (v := ?_) ?_ ?_; rotate_left
      · intro w' hw'; go_simp; (try with_reducible rfl)
      simp only [st0_, st1_]
      refine opR_ 3 31 (v := ?_) ?_ ?_; rotate_left
      · intro w' hw'; go_simp; (try with_reducible rfl)
      simp only [st0_, st1_]
      refine opR_ 4 32 (v := ?_) ?_ ?_; rotate_left
      · intro w' hw'; go_simp; (try with_reducible rfl)
      simp only [st0_, st1_]
      refine opR_ 5 33 (v := ?_) ?_ ?_; rotate_left
      · intro w' hw'; go_simp; (try with_reducible rfl)
      simp only [st0_, st1_]
      refine opR_ 6 34 (v := ?_) ?_ ?_; rotate_left
      · intro w' hw'; go_simp; (try with_reducible rfl)
      simp only [st0_, st1_]
      refine opR_ 7 35 (v := ?_) ?_ ?_; rotate_left
      · intro w' hw'; go_simp; (try with_reducible rfl)
      simp only [st0_, st1_]
      apply wpR_call 8 (some 36)
      · rfl
      · rfl
      · kernel_rfl
      · rfl
      · intro w'; go_simp; first | done | exact ⟨rfl, rfl⟩ | with_reducible rfl
      intro w' hw'
      refine (HCc.out _ (Da_911.out.bl hw')).mono ?_
      rintro e w914 ⟨rfl, hb914⟩
      have Da_914 := Lib.hid ((Da_911.out.bl hw').bl hb914)
      have D0_914 := Lib.hid ((D0_911.out.bl hw').bl hb914)
      have Bel_914 := Lib.hid (bel_bl (bel_bl Bel_911.out hw') hb914)
      have ld915 := fun w'' (h : Kept Nil_ w914 w'') => ld912 w'' ((Kept.of_ext hw').trans ((Kept.of_below hb914).trans h))
      have ld916 := fun w'' (h : Kept Nil_ w914 w'') => ld913 w'' ((Kept.of_ext hw').trans ((Kept.of_below hb914).trans h))
      refine ⟨_, rfl, Kept.of_below hb914, ?_⟩
      clear hw' hb914
      simp only [Act.put, stA_, st0_, st1_]
      refine opR_ 9 2 (v := ?_) ?_ ?_; rotate_left
      · intro w' hw'; go_simp; (try with_reducible rfl)
      simp only [st0_, st1_]
      refine opR_ 10 3 (v := ?_) ?_ ?_; rotate_left
      · intro w' hw'; go_simp; (try with_reducible rfl)
      simp only [st0_, st1_]
      refine opR_ 11 4 (v := ?_) ?_ ?_; rotate_left
      · intro w' hw'; go_simp; (try with_reducible rfl)
      simp only [st0_, st1_]
      refine opR_ 12 5 (v := ?_) ?_ ?_; rotate_left
      · intro w' hw'; go_simp; (try with_reducible rfl)
      simp only [st0_, st1_]
      refine wpR_done (by kernel_rfl) ?_ _
      intro w917 hw'
      have Da_918 := Lib.hid (Da_914.out.bl hw')
      have D0_918 := Lib.hid (D0_914.out.bl hw')
      have Bel_918 := Lib.hid (bel_bl Bel_914.out hw')
      clear Da_914 D0_914 Bel_914
      clear hw'
      go_wp2
      exact bodyPost_ret (v := .tuple #[.int .i64 (n : Int), .int .i64 (m : Int), .int .i64 (fq : Int), .int .i64 (C : Int)]) (by simp [results, Tryz.results42, go_sem]) rfl ⟨by rw [Gfz.out], Bel_918.out⟩
end Go.Proofs.YtmkflebkifbpfaaGreat
/- Counts of layer 7. -/
namespace Go.Proofs.YtmkflebkifbpfaaGreat
open Go.RowKit
set_option maxRecDepth 100000 in
set_option maxHeartbeats 4000000 in
theorem egenus_any (A : Option Addr) (n c : Nat) (Vs : List VC) (B : Option Addr) (m k : Nat) (Es : List EC) (f C : Nat) (g : Int) (w : World) (h : DgIn w A n c Vs B m k Es) (hn : n ≤ 1000000) (hm : m ≤ 1000000) (hf : f ≤ 2000000) (hC : C ≤ 1000000) (hg : (2 * (C : Int) - n + m - f).tdiv 2 = g)
    (HN : ∀ W, DgIn W A n c Vs B m k Es → Calls Tryz.prog 77 #[.agg #[.slice A n c, .slice B m k]] W fun e w' => e = .returned (.tuple #[.int .i64 (n : Int), .int .i64 (m : Int), .int .i64 (f : Int), .int .i64 (C : Int)]) ∧ Below W.heap.size W w') :
    Calls Tryz.prog 55 #[.agg #[.slice A n c, .slice B m k]] w fun e w' => e = .returned (.int .i64 g) ∧ Below w.heap.size w w' := by
  have HDa := Lib.hid h
  have HNn := Lib.hid HN
  have h1 : IntKind.i64.wrap (2 * (C : Int)) = 2 * (C : Int) := IntWalk.i64_in _ (by omega)
  have h2 : IntKind.i64.wrap (2 * (C : Int) - (n : Int)) = 2 * (C : Int) - (n : Int) := IntWalk.i64_in _ (by omega)
  have h3 : IntKind.i64.wrap (2 * (C : Int) - (n : Int) + (m : Int)) = 2 * (C : Int) - (n : Int) + (m : Int) := IntWalk.i64_in _ (by omega)
  have h4 : IntKind.i64.wrap (2 * (C : Int) - (n : Int) + (m : Int) - (f : Int)) = 2 * (C : Int) - (n : Int) + (m : Int) - (f : Int) := IntWalk.i64_in _ (by omega)
  have hgb : -9223372036854775808 ≤ g ∧ g ≤ 9223372036854775807 := by
    rw [← hg]
    have q1 : -(8000000 : Int) ≤ (2 * (C : Int) - n + m - f) := by omega
    have q2 : (2 * (C : Int) - n + m - f) ≤ 8000000 := by omega
    generalize (2 * (C : Int) - (n : Int) + m - f) = x at q1 q2
    rcases Int.le_total 0 x with q | q
    · rw [Int.tdiv_eq_ediv_of_nonneg q]; omega
    · have e : x.tdiv 2 = -((-x) / 2) := by rw [← Int.tdiv_eq_ediv_of_nonneg (show (0 : Int) ≤ -x by omega), Int.neg_tdiv, Int.neg_neg]
      rw [e]
      omega
  have h5 : IntKind.i64.wrap ((2 * (C : Int) - (n : Int) + (m : Int) - (f : Int)).tdiv 2) = g := by rw [hg]; exact IntWalk.i64_in _ hgb
  clear h HN hg hgb
  go_enter Tryz.func55, Tryz.ntmps55
  have lw1 : ((w.alloc (.cells #[.slice A n c, .slice B m k] 25))).cell? ⟨w.heap.size, 0, none⟩ = some (.slice A n c) := (show Whole (w.alloc (.cells #[.slice A n c, .slice B m k] 25)) (w.heap.size) (25) ([.slice A n c, .slice B m k]) from Whole.new2 (by first | rfl | simp)).cell (i := 0) rfl
  have lw2 : ((w.alloc (.cells #[.slice A n c, .slice B m k] 25))).cell? ⟨w.heap.size, 1, none⟩ = some (.slice B m k) := (show Whole (w.alloc (.cells #[.slice A n c, .slice B m k] 25)) (w.heap.size) (25) ([.slice A n c, .slice B m k]) from Whole.new2 (by first | rfl | simp)).cell (i := 1) rfl
  go_wp2_with fail
  clear lw1 lw2
  refine (HNn.out _ (HDa.out.al (.cells #[.slice A n c, .slice B m k] 25))).mono ?_
  rintro e w3 ⟨rfl, hb3⟩
  have Da_4 := Lib.hid ((HDa.out.al (.cells #[.slice A n c, .slice B m k] 25)).bl hb3)
  have D0_4 := Lib.hid ((show Whole (w.alloc (.cells #[.slice A n c, .slice B m k] 25)) (w.heap.size) (25) ([.slice A n c, .slice B m k]) from Whole.new2 (by first | rfl | simp)).bl hb3)
  have Bel_4 := Lib.hid (bel_bl (bel_al (Below.refl _ w) (.cells #[.slice A n c, .slice B m k] 25)) hb3)
  clear HDa
  clear hb3
  go_wp2
  go_ret
  exact ⟨by first | rfl | (rw [h5]) | simp [h5], Bel_4.out⟩
set_option maxRecDepth 100000 in
set_option maxHeartbeats 4000000 in
theorem rgenus_any (A : Option Addr) (n c : Nat) (Vs : List VC) (B : Option Addr) (m k : Nat) (Es : List EC) (f C : Nat) (g : Int) (w : World) (h : DgIn w A n c Vs B m k Es) (hn : n ≤ 1000000) (hm : m ≤ 1000000) (hf : f ≤ 2000000) (hC : C ≤ 1000000) (hg : (2 * (C : Int) - n + m - f).tdiv 2 = g)
    (HN : ∀ W, DgIn W A n c Vs B m k Es → Calls Tryz.prog 42 #[.agg #[.slice A n c, .slice B m k]] W fun e w' => e = .returned (.tuple #[.int .i64 (n : Int), .int .i64 (m : Int), .int .i64 (f : Int), .int .i64 (C : Int)]) ∧ Below W.heap.size W w') :
    Calls Tryz.prog 25 #[.agg #[.slice A n c, .slice B m k]] w fun e w' => e = .returned (.int .i64 g) ∧ Below w.heap.size w w' := by
  have HDa := Lib.hid h
  have HNn := Lib.hid HN
  have h1 : IntKind.i64.wrap (2 * (C : Int)) = 2 * (C : Int) := IntWalk.i64_in _ (by omega)
  have h2 : IntKind.i64.wrap (2 * (C : Int) - (n : Int)) = 2 * (C : Int) - (n : Int) := IntWalk.i64_in _ (by omega)
  have h3 : IntKind.i64.wrap (2 * (C : Int) - (n : Int) + (m : Int)) = 2 * (C : Int) - (n : Int) + (m : Int) := IntWalk.i64_in _ (by omega)
  have h4 : IntKind.i64.wrap (2 * (C : Int) - (n : Int) + (m : Int) - (f : Int)) = 2 * (C : Int) - (n : Int) + (m : Int) - (f : Int) := IntWalk.i64_in _ (by omega)
  have hgb : -9223372036854775808 ≤ g ∧ g ≤ 9223372036854775807 := by
    rw [← hg]
    have q1 : -(8000000 : Int) ≤ (2 * (C : Int) - n + m - f) := by omega
    have q2 : (2 * (C : Int) - n + m - f) ≤ 8000000 := by omega
    generalize (2 * (C : Int) - (n : Int) + m - f) = x at q1 q2
    rcases Int.le_total 0 x with q | q
    · rw [Int.tdiv_eq_ediv_of_nonneg q]; omega
    · have e : x.tdiv 2 = -((-x) / 2) := by rw [← Int.tdiv_eq_ediv_of_nonneg (show (0 : Int) ≤ -x by omega), Int.neg_tdiv, Int.neg_neg]
      rw [e]
      omega
  have h5 : IntKind.i64.wrap ((2 * (C : Int) - (n : Int) + (m : Int) - (f : Int)).tdiv 2) = g := by rw [hg]; exact IntWalk.i64_in _ hgb
  clear h HN hg hgb
  go_enter Tryz.func25, Tryz.ntmps25
  have lw1 : ((w.alloc (.cells #[.slice A n c, .slice B m k] 25))).cell? ⟨w.heap.size, 0, none⟩ = some (.slice A n c) := (show Whole (w.alloc (.cells #[.slice A n c, .slice B m k] 25)) (w.heap.size) (25) ([.slice A n c, .slice B m k]) from Whole.new2 (by first | rfl | simp)).cell (i := 0) rfl
  have lw2 : ((w.alloc (.cells #[.slice A n c, .slice B m k] 25))).cell? ⟨w.heap.size, 1, none⟩ = some (.slice B m k) := (show Whole (w.alloc (.cells #[.slice A n c, .slice B m k] 25)) (w.heap.size) (25) ([.slice A n c, .slice B m k]) from Whole.new2 (by first | rfl | simp)).cell (i := 1) rfl
  go_wp2_with fail
  clear lw1 lw2
  refine (HNn.out _ (HDa.out.al (.cells #[.slice A n c, .slice B m k] 25))).mono ?_
  rintro e w3 ⟨rfl, hb3⟩
  have Da_4 := Lib.hid ((HDa.out.al (.cells #[.slice A n c, .slice B m k] 25)).bl hb3)
  have D0_4 := Lib.hid ((show Whole (w.alloc (.cells #[.slice A n c, .slice B m k] 25)) (w.heap.size) (25) ([.slice A n c, .slice B m k]) from Whole.new2 (by first | rfl | simp)).bl hb3)
  have Bel_4 := Lib.hid (bel_bl (bel_al (Below.refl _ w) (.cells #[.slice A n c, .slice B m k] 25)) hb3)
  clear HDa
  clear hb3
  go_wp2
  go_ret
  exact ⟨by first | rfl | (rw [h5]) | simp [h5], Bel_4.out⟩
set_option maxRecDepth 100000 in
set_option maxHeartbeats 4000000 in
theorem eplan_any (A : Option Addr) (n c : Nat) (Vs : List VC) (B : Option Addr) (m k : Nat) (Es : List EC) (g : Int) (w : World) (h : DgIn w A n c Vs B m k Es) (HG : ∀ W, DgIn W A n c Vs B m k Es → Calls Tryz.prog 55 #[.agg #[.slice A n c, .slice B m k]] W fun e w' => e = .returned (.int .i64 g) ∧ Below W.heap.size W w') :
    Calls Tryz.prog 28 #[.agg #[.slice A n c, .slice B m k]] w fun e w' => e = .returned (.bool (g == 0)) ∧ Below w.heap.size w w' := by
  have HDa := Lib.hid h
  have HGg := Lib.hid HG
  obtain ⟨b, gb⟩ : ∃ z, (g == 0) = z := ⟨_, rfl⟩
  rw [gb]
  clear h HG
  go_enter Tryz.func28, Tryz.ntmps28
  have lw1 : ((w.alloc (.cells #[.slice A n c, .slice B m k] 25))).cell? ⟨w.heap.size, 0, none⟩ = some (.slice A n c) := (show Whole (w.alloc (.cells #[.slice A n c, .slice B m k] 25)) (w.heap.size) (25) ([.slice A n c, .slice B m k]) from Whole.new2 (by first | rfl | simp)).cell (i := 0) rfl
  have lw2 : ((w.alloc (.cells #[.slice A n c, .slice B m k] 25))).cell? ⟨w.heap.size, 1, none⟩ = some (.slice B m k) := (show Whole (w.alloc (.cells #[.slice A n c, .slice B m k] 25)) (w.heap.size) (25) ([.slice A n c, .slice B m k]) from Whole.new2 (by first | rfl | simp)).cell (i := 1) rfl
  go_wp2_with fail
  clear lw1 lw2
  refine (HGg.out _ (HDa.out.al (.cells #[.slice A n c, .slice B m k] 25))).mono ?_
  rintro e w3 ⟨rfl, hb3⟩
  have Da_4 := Lib.hid ((HDa.out.al (.cells #[.slice A n c, .slice B m k] 25)).bl hb3)
  have D0_4 := Lib.hid ((show Whole (w.alloc (.cells #[.slice A n c, .slice B m k] 25)) (w.heap.size) (25) ([.slice A n c, .slice B m k]) from Whole.new2 (by first | rfl | simp)).bl hb3)
  have Bel_4 := Lib.hid (bel_bl (bel_al (Below.refl _ w) (.cells #[.slice A n c, .slice B m k] 25)) hb3)
  clear HDa
  clear hb3
  go_wp2
  go_ret
  exact ⟨by first | rfl | (rw [gb]) | simp [gb], Bel_4.out⟩
set_option maxRecDepth 100000 in
set_option maxHeartbeats 4000000 in
theorem emay_any (A : Option Addr) (n c : Nat) (Vs : List VC) (B : Option Addr) (m k : Nat) (Es : List EC) (e : Int) (g : Int) (w : World) (h : DgIn w A n c Vs B m k Es) (HM : ∀ W, DgIn W A n c Vs B m k Es → Calls Tryz.prog 27 #[.agg #[.slice A n c, .slice B m k]] W fun r w' => r = .returned (.int .i64 e) ∧ Below W.heap.size W w')
    (HG : e = 0 → ∀ W, DgIn W A n c Vs B m k Es → Calls Tryz.prog 28 #[.agg #[.slice A n c, .slice B m k]] W fun r w' => r = .returned (.bool (g == 0)) ∧ Below W.heap.size W w') :
    Calls Tryz.prog 14 #[.agg #[.slice A n c, .slice B m k]] w fun r w' => r = .returned (.int .i64 (if e = 0 then (if g = 0 then 0 else 11) else e)) ∧ Below w.heap.size w w' := by
  have HDa := Lib.hid h
  have HMm := Lib.hid HM
  have HGg := Lib.hid HG
  clear h HM HG
  by_cases he : e = 0
  · subst he
    rw [if_pos rfl]
    replace HGg := Lib.hid (HGg.out rfl)
    by_cases hg : g = 0
    · rw [if_pos hg]
      subst hg
      rw [show ((0 : Int) == 0) = true from rfl] at HGg
      go_enter Tryz.func14, Tryz.ntmps14
      have lw1 : ((w.alloc (.cells #[.slice A n c, .slice B m k] 25))).cell? ⟨w.heap.size, 0, none⟩ = some (.slice A n c) := (show Whole (w.alloc (.cells #[.slice A n c, .slice B m k] 25)) (w.heap.size) (25) ([.slice A n c, .slice B m k]) from Whole.new2 (by first | rfl | simp)).cell (i := 0) rfl
      have lw2 : ((w.alloc (.cells #[.slice A n c, .slice B m k] 25))).cell? ⟨w.heap.size, 1, none⟩ = some (.slice B m k) := (show Whole (w.alloc (.cells #[.slice A n c, .slice B m k] 25)) (w.heap.size) (25) ([.slice A n c, .slice B m k]) from Whole.new2 (by first | rfl | simp)).cell (i := 1) rfl
      go_wp2_with fail
      clear lw1 lw2
      refine (HMm.out _ (HDa.out.al (.cells #[.slice A n c, .slice B m k] 25))).mono ?_
      rintro e w3 ⟨rfl, hb3⟩
      have Da_4 := Lib.hid ((HDa.out.al (.cells #[.slice A n c, .slice B m k] 25)).bl hb3)
      have D0_4 := Lib.hid ((show Whole (w.alloc (.cells #[.slice A n c, .slice B m k] 25)) (w.heap.size) (25) ([.slice A n c, .slice B m k]) from Whole.new2 (by first | rfl | simp)).bl hb3)
      have Bel_4 := Lib.hid (bel_bl (bel_al (Below.refl _ w) (.cells #[.slice A n c, .slice B m k] 25)) hb3)
      clear HDa
      clear hb3
      have lw5 : (w3).cell? ⟨w.heap.size, 0, none⟩ = some (.slice A n c) := D0_4.out.cell (i := 0) rfl
      have lw6 : (w3).cell? ⟨w.heap.size, 1, none⟩ = some (.slice B m k) := D0_4.out.cell (i := 1) rfl
      go_wp2_with fail
      clear lw5 lw6
      refine (HGg.out _ Da_4.out).mono ?_
      rintro e w7 ⟨rfl, hb7⟩
      have Da_8 := Lib.hid (Da_4.out.bl hb7)
      have D0_8 := Lib.hid (D0_4.out.bl hb7)
      have Bel_8 := Lib.hid (bel_bl Bel_4.out hb7)
      clear Da_4 D0_4 Bel_4
      clear hb7
      go_wp2
      go_ret
      exact ⟨rfl, Bel_8.out⟩
    · rw [if_neg hg]
      have hg2 : (g != 0) = true := by simp [hg]
      rw [show (g == 0) = false from beq_eq_false_iff_ne.2 hg] at HGg
      go_enter Tryz.func14, Tryz.ntmps14
      have lw1 : ((w.alloc (.cells #[.slice A n c, .slice B m k] 25))).cell? ⟨w.heap.size, 0, none⟩ = some (.slice A n c) := (show Whole (w.alloc (.cells #[.slice A n c, .slice B m k] 25)) (w.heap.size) (25) ([.slice A n c, .slice B m k]) from Whole.new2 (by first | rfl | simp)).cell (i := 0) rfl
      have lw2 : ((w.alloc (.cells #[.slice A n c, .slice B m k] 25))).cell? ⟨w.heap.size, 1, none⟩ = some (.slice B m k) := (show Whole (w.alloc (.cells #[.slice A n c, .slice B m k] 25)) (w.heap.size) (25) ([.slice A n c, .slice B m k]) from Whole.new2 (by first | rfl | simp)).cell (i := 1) rfl
      go_wp2_with fail
      clear lw1 lw2
      refine (HMm.out _ (HDa.out.al (.cells #[.slice A n c, .slice B m k] 25))).mono ?_
      rintro e w3 ⟨rfl, hb3⟩
      have Da_4 := Lib.hid ((HDa.out.al (.cells #[.slice A n c, .slice B m k] 25)).bl hb3)
      have D0_4 := Lib.hid ((show Whole (w.alloc (.cells #[.slice A n c, .slice B m k] 25)) (w.heap.size) (25) ([.slice A n c, .slice B m k]) from Whole.new2 (by first | rfl | simp)).bl hb3)
      have Bel_4 := Lib.hid (bel_bl (bel_al (Below.refl _ w) (.cells #[.slice A n c, .slice B m k] 25)) hb3)
      clear HDa
      clear hb3
      have lw5 : (w3).cell? ⟨w.heap.size, 0, none⟩ = some (.slice A n c) := D0_4.out.cell (i := 0) rfl
      have lw6 : (w3).cell? ⟨w.heap.size, 1, none⟩ = some (.slice B m k) := D0_4.out.cell (i := 1) rfl
      go_wp2_with fail
      clear lw5 lw6
      refine (HGg.out _ Da_4.out).mono ?_
      rintro e w7 ⟨rfl, hb7⟩
      have Da_8 := Lib.hid (Da_4.out.bl hb7)
      have D0_8 := Lib.hid (D0_4.out.bl hb7)
      have Bel_8 := Lib.hid (bel_bl Bel_4.out hb7)
      clear Da_4 D0_4 Bel_4
      clear hb7
      go_wp2
      go_ret
      exact ⟨rfl, Bel_8.out⟩
  · rw [if_neg he]
    have he2 : (e != 0) = true := by simp [he]
    go_enter Tryz.func14, Tryz.ntmps14
    have lw1 : ((w.alloc (.cells #[.slice A n c, .slice B m k] 25))).cell? ⟨w.heap.size, 0, none⟩ = some (.slice A n c) := (show Whole (w.alloc (.cells #[.slice A n c, .slice B m k] 25)) (w.heap.size) (25) ([.slice A n c, .slice B m k]) from Whole.new2 (by first | rfl | simp)).cell (i := 0) rfl
    have lw2 : ((w.alloc (.cells #[.slice A n c, .slice B m k] 25))).cell? ⟨w.heap.size, 1, none⟩ = some (.slice B m k) := (show Whole (w.alloc (.cells #[.slice A n c, .slice B m k] 25)) (w.heap.size) (25) ([.slice A n c, .slice B m k]) from Whole.new2 (by first | rfl | simp)).cell (i := 1) rfl
    go_wp2_with fail
    clear lw1 lw2
    refine (HMm.out _ (HDa.out.al (.cells #[.slice A n c, .slice B m k] 25))).mono ?_
    rintro e w3 ⟨rfl, hb3⟩
    have Da_4 := Lib.hid ((HDa.out.al (.cells #[.slice A n c, .slice B m k] 25)).bl hb3)
    have D0_4 := Lib.hid ((show Whole (w.alloc (.cells #[.slice A n c, .slice B m k] 25)) (w.heap.size) (25) ([.slice A n c, .slice B m k]) from Whole.new2 (by first | rfl | simp)).bl hb3)
    have Bel_4 := Lib.hid (bel_bl (bel_al (Below.refl _ w) (.cells #[.slice A n c, .slice B m k] 25)) hb3)
    clear HDa
    clear hb3
    go_wp2
    go_ret
    exact ⟨rfl, Bel_4.out⟩
set_option maxRecDepth 100000 in
set_option maxHeartbeats 4000000 in
theorem rmay7_any (A : Option Addr) (n c : Nat) (Vs : List VC) (B : Option Addr) (m k : Nat) (Es : List EC) (e : Int) (g : Int) (w : World) (h : DgIn w A n c Vs B m k Es) (HM : ∀ W, DgIn W A n c Vs B m k Es → Calls Tryz.prog 24 #[.agg #[.slice A n c, .slice B m k]] W fun r w' => r = .returned (.int .i64 e) ∧ Below W.heap.size W w')
    (HG : e = 0 → ∀ W, DgIn W A n c Vs B m k Es → Calls Tryz.prog 25 #[.agg #[.slice A n c, .slice B m k]] W fun r w' => r = .returned (.int .i64 g) ∧ Below W.heap.size W w') :
    Calls Tryz.prog 12 #[.agg #[.slice A n c, .slice B m k]] w fun r w' => r = .returned (.int .i64 (if e = 0 then (if g = 0 then 0 else 11) else e)) ∧ Below w.heap.size w w' := by
  have HDa := Lib.hid h
  have HMm := Lib.hid HM
  have HGg := Lib.hid HG
  clear h HM HG
  by_cases he : e = 0
  · subst he
    rw [if_pos rfl]
    replace HGg := Lib.hid (HGg.out rfl)
    by_cases hg : g = 0
    · rw [if_pos hg]
      subst hg
      go_enter Tryz.func12, Tryz.ntmps12
      have lw1 : ((w.alloc (.cells #[.slice A n c, .slice B m k] 25))).cell? ⟨w.heap.size, 0, none⟩ = some (.slice A n c) := (show Whole (w.alloc (.cells #[.slice A n c, .slice B m k] 25)) (w.heap.size) (25) ([.slice A n c, .slice B m k]) from Whole.new2 (by first | rfl | simp)).cell (i := 0) rfl
      have lw2 : ((w.alloc (.cells #[.slice A n c, .slice B m k] 25))).cell? ⟨w.heap.size, 1, none⟩ = some (.slice B m k) := (show Whole (w.alloc (.cells #[.slice A n c, .slice B m k] 25)) (w.heap.size) (25) ([.slice A n c, .slice B m k]) from Whole.new2 (by first | rfl | simp)).cell (i := 1) rfl
      go_wp2_with fail
      clear lw1 lw2
      refine (HMm.out _ (HDa.out.al (.cells #[.slice A n c, .slice B m k] 25))).mono ?_
      rintro e w3 ⟨rfl, hb3⟩
      have Da_4 := Lib.hid ((HDa.out.al (.cells #[.slice A n c, .slice B m k] 25)).bl hb3)
      have D0_4 := Lib.hid ((show Whole (w.alloc (.cells #[.slice A n c, .slice B m k] 25)) (w.heap.size) (25) ([.slice A n c, .slice B m k]) from Whole.new2 (by first | rfl | simp)).bl hb3)
      have Bel_4 := Lib.hid (bel_bl (bel_al (Below.refl _ w) (.cells #[.slice A n c, .slice B m k] 25)) hb3)
      clear HDa
      clear hb3
      have lw5 : (w3).cell? ⟨w.heap.size, 0, none⟩ = some (.slice A n c) := D0_4.out.cell (i := 0) rfl
      have lw6 : (w3).cell? ⟨w.heap.size, 1, none⟩ = some (.slice B m k) := D0_4.out.cell (i := 1) rfl
      go_wp2_with fail
      clear lw5 lw6
      refine (HGg.out _ Da_4.out).mono ?_
      rintro e w7 ⟨rfl, hb7⟩
      have Da_8 := Lib.hid (Da_4.out.bl hb7)
      have D0_8 := Lib.hid (D0_4.out.bl hb7)
      have Bel_8 := Lib.hid (bel_bl Bel_4.out hb7)
      clear Da_4 D0_4 Bel_4
      clear hb7
      go_wp2
      go_ret
      exact ⟨rfl, Bel_8.out⟩
    · rw [if_neg hg]
      have hg2 : (g != 0) = true := by simp [hg]
      go_enter Tryz.func12, Tryz.ntmps12
      have lw1 : ((w.alloc (.cells #[.slice A n c, .slice B m k] 25))).cell? ⟨w.heap.size, 0, none⟩ = some (.slice A n c) := (show Whole (w.alloc (.cells #[.slice A n c, .slice B m k] 25)) (w.heap.size) (25) ([.slice A n c, .slice B m k]) from Whole.new2 (by first | rfl | simp)).cell (i := 0) rfl
      have lw2 : ((w.alloc (.cells #[.slice A n c, .slice B m k] 25))).cell? ⟨w.heap.size, 1, none⟩ = some (.slice B m k) := (show Whole (w.alloc (.cells #[.slice A n c, .slice B m k] 25)) (w.heap.size) (25) ([.slice A n c, .slice B m k]) from Whole.new2 (by first | rfl | simp)).cell (i := 1) rfl
      go_wp2_with fail
      clear lw1 lw2
      refine (HMm.out _ (HDa.out.al (.cells #[.slice A n c, .slice B m k] 25))).mono ?_
      rintro e w3 ⟨rfl, hb3⟩
      have Da_4 := Lib.hid ((HDa.out.al (.cells #[.slice A n c, .slice B m k] 25)).bl hb3)
      have D0_4 := Lib.hid ((show Whole (w.alloc (.cells #[.slice A n c, .slice B m k] 25)) (w.heap.size) (25) ([.slice A n c, .slice B m k]) from Whole.new2 (by first | rfl | simp)).bl hb3)
      have Bel_4 := Lib.hid (bel_bl (bel_al (Below.refl _ w) (.cells #[.slice A n c, .slice B m k] 25)) hb3)
      clear HDa
      clear hb3
      have lw5 : (w3).cell? ⟨w.heap.size, 0, none⟩ = some (.slice A n c) := D0_4.out.cell (i := 0) rfl
      have lw6 : (w3).cell? ⟨w.heap.size, 1, none⟩ = some (.slice B m k) := D0_4.out.cell (i := 1) rfl
      go_wp2_with fail
      clear lw5 lw6
      refine (HGg.out _ Da_4.out).mono ?_
      rintro e w7 ⟨rfl, hb7⟩
      have Da_8 := Lib.hid (Da_4.out.bl hb7)
      have D0_8 := Lib.hid (D0_4.out.bl hb7)
      have Bel_8 := Lib.hid (bel_bl Bel_4.out hb7)
      clear Da_4 D0_4 Bel_4
      clear hb7
      go_wp2
      go_ret
      exact ⟨rfl, Bel_8.out⟩
  · rw [if_neg he]
    have he2 : (e != 0) = true := by simp [he]
    go_enter Tryz.func12, Tryz.ntmps12
    have lw1 : ((w.alloc (.cells #[.slice A n c, .slice B m k] 25))).cell? ⟨w.heap.size, 0, none⟩ = some (.slice A n c) := (show Whole (w.alloc (.cells #[.slice A n c, .slice B m k] 25)) (w.heap.size) (25) ([.slice A n c, .slice B m k]) from Whole.new2 (by first | rfl | simp)).cell (i := 0) rfl
    have lw2 : ((w.alloc (.cells #[.slice A n c, .slice B m k] 25))).cell? ⟨w.heap.size, 1, none⟩ = some (.slice B m k) := (show Whole (w.alloc (.cells #[.slice A n c, .slice B m k] 25)) (w.heap.size) (25) ([.slice A n c, .slice B m k]) from Whole.new2 (by first | rfl | simp)).cell (i := 1) rfl
    go_wp2_with fail
    clear lw1 lw2
    refine (HMm.out _ (HDa.out.al (.cells #[.slice A n c, .slice B m k] 25))).mono ?_
    rintro e w3 ⟨rfl, hb3⟩
    have Da_4 := Lib.hid ((HDa.out.al (.cells #[.slice A n c, .slice B m k] 25)).bl hb3)
    have D0_4 := Lib.hid ((show Whole (w.alloc (.cells #[.slice A n c, .slice B m k] 25)) (w.heap.size) (25) ([.slice A n c, .slice B m k]) from Whole.new2 (by first | rfl | simp)).bl hb3)
    have Bel_4 := Lib.hid (bel_bl (bel_al (Below.refl _ w) (.cells #[.slice A n c, .slice B m k] 25)) hb3)
    clear HDa
    clear hb3
    go_wp2
    go_ret
    exact ⟨rfl, Bel_4.out⟩
end Go.Proofs.YtmkflebkifbpfaaGreat
/- Counts of layer 7. -/
namespace Go.Proofs.YtmkflebkifbpfaaGreat
open Go.RowKit
end Go.Proofs.YtmkflebkifbpfaaGreat
/- few of stage 7: 26 vertices with rings of 82 darts, and 42 edges. -/
namespace Go.Proofs.YtmkflebkifbpfaaGreat
open Go.RowKit
def few7V (v : VC) : VC := if 82 < v.2.1.2.1 then (v.1, (v.2.1.1, 82, v.2.1.2.2.1, v.2.1.2.2.2.take 82), v.2.2) else v
/-- Between two rounds: the edges' row grows. -/
structure Few7B (w : World) (Vs : List VC) (Es : List EC) (A B : Option Addr) (n c m k b0 b1 b2 B2 N : Nat) (A1 : Option Addr) (c1 j : Nat) (v u : Value) (wr : World) : Prop where
  ow : Ow w B2 43 4 v j (rowsV eC (Es.take j)) wr
  x0 : Whole wr b0 25 [.slice A n c, .slice B m k]
  x1 : Whole wr b1 25 [.slice none 0 0, .slice none 0 0]
  x2 : Whole wr b2 25 [.slice A1 N c1, u]
  rv : RdS wr B2 5 A1 N c1 (rowsV vC ((Vs.take 26).map few7V))
section
variable {w wr wr' : World} {Vs : List VC} {Es : List EC} {A B A1 : Option Addr} {n c m k b0 b1 b2 B2 N c1 j : Nat} {v u : Value}
theorem Few7B.below (h : Few7B w Vs Es A B n c m k b0 b1 b2 B2 N A1 c1 j v u wr) (hb : Below wr.heap.size wr wr') : Few7B w Vs Es A B n c m k b0 b1 b2 B2 N A1 c1 j v u wr' :=
  ⟨h.ow.up hb, h.x0.below hb, h.x1.below hb, h.x2.below hb, h.rv.up (hb.mono h.ow.hi) (Nat.le_refl _)⟩
/-- The row has grown. -/
theorem Few7B.grow (h : Few7B w Vs Es A B n c m k b0 b1 b2 B2 N A1 c1 j v u wr) {e : EC} (he : Es[j]? = some e) {v' : Value} (ho : Ow w B2 43 4 v' (j + 1) (rowsV eC (Es.take j) ++ eC e) wr') (hb : Below B2 wr wr') (h0 : b0 < B2) (h1 : b1 < B2) (h2 : b2 < B2) :
    Few7B w Vs Es A B n c m k b0 b1 b2 B2 N A1 c1 (j + 1) v' u wr' :=
  ⟨by rw [← fewE_next Es j e he]; simpa [rowsV] using ho, h.x0.at_ (hb.block _ h0), h.x1.at_ (hb.block _ h1), h.x2.at_ (hb.block _ h2), h.rv.up hb (Nat.le_refl _)⟩
end
/-- What few tells. -/
structure Few7D (w0 W W' : World) (A : Option Addr) (n c : Nat) (Vs : List VC) (B : Option Addr) (m k : Nat) (Es : List EC) : Prop where
  dg : DgIn W' A n c Vs B m k Es
  good : GoodD Vs Es
  n30 : n ≤ 26
  m50 : m ≤ 42
  r30 : ∀ x ∈ Vs, x.2.1.2.1 ≤ 82
  low : ∀ x ∈ Vs, ∀ a, x.2.1.1 = some a → 0 < x.2.1.2.1 → a.block < w0.heap.size
  fresh : FwNew W A n c B m k
  lenv : Vs.length = n
  lene : Es.length = m
/-- The diagram that few told is put into a variable of the call's own. -/
theorem Few7D.put {w0 W W' : World} {A B : Option Addr} {n c m k g : Nat} {Vs : List VC} {Es : List EC} (h : Few7D w0 W W' A n c Vs B m k Es) (hg0 : w0.heap.size ≤ g) (hg : g < W.heap.size) (u v : Value) :
    DgIn ((W'.setCell ⟨g, 0, none⟩ u).setCell ⟨g, 1, none⟩ v) A n c Vs B m k Es := by
  have ha : ∀ a, A = some a → 0 < n → a.block ≠ g := fun a e h0 => by have := h.fresh.2.2.1 a e h0; omega
  have hb : ∀ a, B = some a → 0 < m → a.block ≠ g := fun a e h0 => by have := h.fresh.2.2.2 a e h0; omega
  have hr : ∀ x ∈ Vs, ∀ a, x.2.1.1 = some a → 0 < x.2.1.2.1 → a.block ≠ g := fun x hx a e h0 => by have := h.low x hx a e h0; omega
  exact (h.dg.far g 0 u ha hb hr).far g 1 v ha hb hr
end Go.Proofs.YtmkflebkifbpfaaGreat
/- What is counted of a diagram that is well formed; and the document's examples of layer 7. -/
namespace Go.Proofs.YtmkflebkifbpfaaGreat
open Go.RowKit
/-- The genus, in numbers. -/
def genF (Vs : List VC) (Es : List EC) : Int := (2 * ((cntF (labF Vs) : Nat) : Int) - Vs.length + Es.length - ((facN Vs Es + aloneN Vs : Nat) : Int)).tdiv 2
def mayF7 (Vs : List VC) (Es : List EC) : Int := if formD Vs Es = 0 then (if genF Vs Es = 0 then 0 else 11) else formD Vs Es
section
variable {A : Option Addr} {n c : Nat} {Vs : List VC} {B : Option Addr} {m k : Nat} {Es : List EC}
theorem fac_small (hf : Formed Vs Es) : facN Vs Es ≤ 80 := by
  obtain ⟨P, hP, e⟩ := facN_reps hf
  rw [e]
  have h1 := nd_le hP.nd hP.sub
  have := hf.l80
  omega
theorem fac_any (hf : Formed Vs Es) (hg : GoodD Vs Es) : ∀ W, DgIn W A n c Vs B m k Es → Calls Tryz.prog 92 #[.agg #[.slice A n c, .slice B m k]] W fun e w' => ∃ A' c', e = .returned (.slice A' (facN Vs Es) c') ∧ Below W.heap.size W w' := fun W h => by
  refine (faces5_any A n c Vs B m k Es W h hf hg).mono ?_
  rintro e w' ⟨A', c', X, rfl, -, hX, hb⟩
  have hl := congrArg List.length hX
  rw [List.length_map] at hl
  rw [hl]
  exact ⟨A', c', rfl, hb⟩
theorem rfac_any (hf : Formed Vs Es) : ∀ W, DgIn W A n c Vs B m k Es → Calls Tryz.prog 64 #[.agg #[.slice A n c, .slice B m k]] W fun e w' => ∃ A' c', e = .returned (.slice A' (facN Vs Es) c') ∧ Below W.heap.size W w' := fun W h => by
  refine (rfaces_any A n c Vs B m k Es W h hf).mono ?_
  rintro e w' ⟨A', c', X, rfl, -, hX, hb⟩
  have hl := congrArg List.length hX
  rw [List.length_map] at hl
  rw [hl]
  exact ⟨A', c', rfl, hb⟩
theorem dg_lens {w : World} (h : DgIn w A n c Vs B m k Es) : Vs.length = n ∧ Es.length = m := ⟨h.v.rlen vC_len (by decide), h.e.rlen eC_len (by decide)⟩
theorem cntF_small (hf : Formed Vs Es) : cntF (labF Vs) ≤ 24 := by
  have := cnt_le Vs
  have := hf.v24
  omega
theorem cnt7_any (hf : Formed Vs Es) (hg : GoodD Vs Es) : ∀ W, DgIn W A n c Vs B m k Es → Calls Tryz.prog 77 #[.agg #[.slice A n c, .slice B m k]] W fun e w' => e = .returned (.tuple #[.int .i64 (n : Int), .int .i64 (m : Int), .int .i64 ((facN Vs Es + aloneN Vs : Nat) : Int), .int .i64 ((cntF (labF Vs) : Nat) : Int)]) ∧ Below W.heap.size W w' := fun W h => by
  have hp := hf.pre h hg
  have h1 := hf.small h
  exact ecnt_any A n c Vs B m k Es (facN Vs Es) (cntF (labF Vs)) W h hp.n (by omega) (by have := fac_small hf; omega) (by have := cntF_small hf; omega) (fac_any hf hg) (fun W h => count_any A n c Vs B m k Es W h hp.n hp.r hg.v)
theorem rcnt7_any (hf : Formed Vs Es) (hg : GoodD Vs Es) : ∀ W, DgIn W A n c Vs B m k Es → Calls Tryz.prog 42 #[.agg #[.slice A n c, .slice B m k]] W fun e w' => e = .returned (.tuple #[.int .i64 (n : Int), .int .i64 (m : Int), .int .i64 ((facN Vs Es + aloneN Vs : Nat) : Int), .int .i64 ((cntF (labF Vs) : Nat) : Int)]) ∧ Below W.heap.size W w' := fun W h => by
  have hp := hf.pre h hg
  have h1 := hf.small h
  exact rcnt_any A n c Vs B m k Es (facN Vs Es) (cntF (labF Vs)) W h hp.n (by omega) (by have := fac_small hf; omega) (by have := cntF_small hf; omega) (rfac_any hf) (fun W h => rcount_any A n c Vs B m k Es W h hf)
theorem gen7_eq {w : World} (h : DgIn w A n c Vs B m k Es) : (2 * ((cntF (labF Vs) : Nat) : Int) - (n : Int) + (m : Int) - ((facN Vs Es + aloneN Vs : Nat) : Int)).tdiv 2 = genF Vs Es := by
  obtain ⟨h1, h2⟩ := dg_lens h
  rw [genF, h1, h2]
theorem gen7_any (hf : Formed Vs Es) (hg : GoodD Vs Es) : ∀ W, DgIn W A n c Vs B m k Es → Calls Tryz.prog 55 #[.agg #[.slice A n c, .slice B m k]] W fun e w' => e = .returned (.int .i64 (genF Vs Es)) ∧ Below W.heap.size W w' := fun W h => by
  have hp := hf.pre h hg
  have h1 := hf.small h
  have h2 := alone_le Vs
  have h3 := (dg_lens h).1
  exact egenus_any A n c Vs B m k Es (facN Vs Es + aloneN Vs) (cntF (labF Vs)) (genF Vs Es) W h hp.n (by omega) (by have := fac_small hf; omega) (by have := cntF_small hf; omega) (gen7_eq h) (cnt7_any hf hg)
theorem rgen7_any (hf : Formed Vs Es) (hg : GoodD Vs Es) : ∀ W, DgIn W A n c Vs B m k Es → Calls Tryz.prog 25 #[.agg #[.slice A n c, .slice B m k]] W fun e w' => e = .returned (.int .i64 (genF Vs Es)) ∧ Below W.heap.size W w' := fun W h => by
  have hp := hf.pre h hg
  have h1 := hf.small h
  have h2 := alone_le Vs
  have h3 := (dg_lens h).1
  exact rgenus_any A n c Vs B m k Es (facN Vs Es + aloneN Vs) (cntF (labF Vs)) (genF Vs Es) W h hp.n (by omega) (by have := fac_small hf; omega) (by have := cntF_small hf; omega) (gen7_eq h) (rcnt7_any hf hg)
theorem plan7_any (hf : Formed Vs Es) (hg : GoodD Vs Es) : ∀ W, DgIn W A n c Vs B m k Es → Calls Tryz.prog 28 #[.agg #[.slice A n c, .slice B m k]] W fun e w' => e = .returned (.bool (genF Vs Es == 0)) ∧ Below W.heap.size W w' := fun W h =>
  eplan_any A n c Vs B m k Es (genF Vs Es) W h (gen7_any hf hg)
theorem form7_any (hr : ∀ x ∈ Vs, x.2.1.2.1 ≤ 1000000) (hg : GoodD Vs Es) : ∀ W, DgIn W A n c Vs B m k Es → Calls Tryz.prog 27 #[.agg #[.slice A n c, .slice B m k]] W fun e w' => e = .returned (.int .i64 (formD Vs Es)) ∧ Below W.heap.size W w' := fun W h => form_any A n c Vs B m k Es W h hr hg.e hg.v
theorem rform7_any (hr : ∀ x ∈ Vs, x.2.1.2.1 ≤ 1000000) (hg : GoodD Vs Es) : ∀ W, DgIn W A n c Vs B m k Es → Calls Tryz.prog 24 #[.agg #[.slice A n c, .slice B m k]] W fun e w' => e = .returned (.int .i64 (formD Vs Es)) ∧ Below W.heap.size W w' := fun W h => formR_eq Vs Es ▸ rform_any A n c Vs B m k Es W h (fun x hx => by have := hr x hx; omega) hg.lv hg.le
theorem may7_any (hr : ∀ x ∈ Vs, x.2.1.2.1 ≤ 1000000) (hg : GoodD Vs Es) : ∀ W, DgIn W A n c Vs B m k Es → Calls Tryz.prog 14 #[.agg #[.slice A n c, .slice B m k]] W fun e w' => e = .returned (.int .i64 (mayF7 Vs Es)) ∧ Below W.heap.size W w' := fun W h =>
  emay_any A n c Vs B m k Es (formD Vs Es) (genF Vs Es) W h (form7_any hr hg) (fun e => plan7_any ((form0 Vs Es).1 e) hg)
theorem rmay7b_any (hr : ∀ x ∈ Vs, x.2.1.2.1 ≤ 1000000) (hg : GoodD Vs Es) : ∀ W, DgIn W A n c Vs B m k Es → Calls Tryz.prog 12 #[.agg #[.slice A n c, .slice B m k]] W fun e w' => e = .returned (.int .i64 (mayF7 Vs Es)) ∧ Below W.heap.size W w' := fun W h =>
  rmay7_any A n c Vs B m k Es (formD Vs Es) (genF Vs Es) W h (rform7_any hr hg) (fun e => rgen7_any ((form0 Vs Es).1 e) hg)
end
theorem tw0_formed : Formed [] [] := (form0 _ _).1 (by kernel_rfl)
theorem tw0_gen : genF [] [] = 0 := by kernel_rfl
theorem tw0_good : GoodD [] [] := ⟨fun x hx => (by cases hx), fun x hx => (by cases hx), fun x hx => (by cases hx), fun x hx => (by cases hx)⟩
end Go.Proofs.YtmkflebkifbpfaaGreat
/- Examples of layer 7. -/
namespace Go.Proofs.YtmkflebkifbpfaaGreat
open Go.RowKit
end Go.Proofs.YtmkflebkifbpfaaGreat
/- Examples of layer 7. -/
namespace Go.Proofs.YtmkflebkifbpfaaGreat
open Go.RowKit
end Go.Proofs.YtmkflebkifbpfaaGreat
/- A diagram that may be, as bytes: numbers alone. -/
namespace Go.Proofs.YtmkflebkifbpfaaGreat
open Go.RowKit
section
variable {Vs : List VC} {Es : List EC}
theorem may7_formed (h : mayF7 Vs Es = 0) : Formed Vs Es := by
  unfold mayF7 at h
  by_cases h0 : formD Vs Es = 0
  · exact (form0 Vs Es).1 h0
  · rw [if_neg h0] at h
    exact absurd h h0
theorem Formed.okE (h : Formed Vs Es) : ∀ e ∈ Es, okH e.1 e.2.1 e.2.2 := fun e he => by
  have h1 := ((riseF_iff _ _).1 h.re).1 e.1 (List.mem_map.2 ⟨e, he, rfl⟩)
  have h2 := List.all_eq_true.1 h.le e he
  have h3 := List.all_eq_true.1 h.ae e he
  simp only [mayL, Bool.and_eq_true, decide_eq_true_eq] at h2
  simp only [mayA, decide_eq_true_eq] at h3
  exact ⟨h1, by omega, by unfold In64; omega⟩
theorem Formed.okV (h : Formed Vs Es) (hr : ∀ v ∈ Vs, v.2.1.2.2.2.length < 256) : ∀ v ∈ Vs.map vS, okV Es v := fun v hv => by
  obtain ⟨u, hu, rfl⟩ := List.mem_map.1 hv
  have h1 := ((riseF_iff _ _).1 h.rv).1 u.1 (List.mem_map.2 ⟨u, hu, rfl⟩)
  have h2 := List.all_eq_true.1 h.lv u hu
  have h3 := List.all_eq_true.1 h.av u hu
  simp only [mayL, Bool.and_eq_true, decide_eq_true_eq] at h2
  simp only [mayA, decide_eq_true_eq] at h3
  refine ⟨⟨h1, by show u.2.2.1.size < 256; omega, by show In64 u.2.2.2; unfold In64; omega⟩, hr u hu, fun d hd => ?_⟩
  obtain ⟨e, he, q1, q2⟩ := h.of_dart hu hd
  exact ⟨List.mem_map.2 ⟨e, he, q1⟩, q2⟩
theorem Formed.ring (h : Formed Vs Es) : ∀ v ∈ Vs, v.2.1.2.2.2.length ≤ 80 := fun v hv => by
  have h1 := h.len
  have h2 := h.e40
  obtain ⟨i, hi, rfl⟩ := List.mem_iff_getElem.1 hv
  have h3 := rings_take Vs i Vs[i] (List.getElem?_eq_getElem hi)
  have h4 : (ringsOf (Vs.take (i + 1))).length ≤ (ringsOf Vs).length := by
    conv => rhs; rw [← List.take_append_drop (i + 1) Vs]
    rw [ringsOf_app, List.length_append]
    omega
  omega
theorem Formed.size (h : Formed Vs Es) : (∀ e ∈ Es, e.2.1.size ≤ 16) ∧ ∀ v ∈ Vs, v.2.2.1.size ≤ 16 := by
  refine ⟨fun e he => ?_, fun v hv => ?_⟩
  · have h2 := List.all_eq_true.1 h.le e he
    simp only [mayL, Bool.and_eq_true, decide_eq_true_eq] at h2
    exact h2.1
  · have h2 := List.all_eq_true.1 h.lv v hv
    simp only [mayL, Bool.and_eq_true, decide_eq_true_eq] at h2
    exact h2.1
/-- What was laid down is read as it was. -/
theorem Formed.read (h : Formed Vs Es) (R : List Nat) : rdAE (putD (Vs.map vS) Es ++ R) = Es ∧ rdAV (putD (Vs.map vS) Es ++ R) = Vs.map vS :=
  rd_put h.okE h.e40 (h.okV (fun v hv => by have := h.ring v hv; omega)) (by rw [List.length_map]; exact h.v24) R
/-- The places of the first edges. -/
def plM (Es : List EC) (i : Nat) (y : Int × Int) : Option Nat := if y ∈ (Es.take i).map (·.1) then some (plE Es y) else none
theorem plM_zero (Es : List EC) : plM Es 0 = fun _ => none := by funext y; simp [plM]
theorem plE_at (hn : (Es.map (·.1)).Nodup) {i : Nat} {e : EC} (he : Es[i]? = some e) : plE Es e.1 = i := by
  obtain ⟨hi, q⟩ := List.getElem?_eq_some_iff.1 he
  have h1 : (Es.map (·.1))[i]'(by rw [List.length_map]; exact hi) = e.1 := by rw [List.getElem_map, q]
  unfold plE
  rw [← h1, List.Nodup.idxOf_getElem hn]
theorem plM_next (hn : (Es.map (·.1)).Nodup) {i : Nat} {e : EC} (he : Es[i]? = some e) : (fun y => if y = e.1 then some i else plM Es i y) = plM Es (i + 1) := by
  funext y
  unfold plM
  rw [List.take_add_one, he, List.map_append]
  by_cases h : y = e.1
  · subst h
    simp [plE_at hn he]
  · rw [if_neg h]
    simp [h]
theorem plM_all (h : Formed Vs Es) {v : VC} (hv : v ∈ Vs) {d : D} (hd : d ∈ v.2.1.2.2.2) : plM Es Es.length (d.1, d.2.1) = some (plE Es (d.1, d.2.1)) := by
  obtain ⟨e, he, q1, q2⟩ := h.of_dart hv hd
  unfold plM
  rw [List.take_length, if_pos (List.mem_map.2 ⟨e, he, q1⟩)]
theorem plE_lt (h : Formed Vs Es) {v : VC} (hv : v ∈ Vs) {d : D} (hd : d ∈ v.2.1.2.2.2) : plE Es (d.1, d.2.1) < Es.length := by
  obtain ⟨e, he, q1, q2⟩ := h.of_dart hv hd
  have := List.idxOf_lt_length_of_mem (List.mem_map.2 ⟨e, he, q1⟩)
  rwa [List.length_map] at this
theorem headB_len (x : Int × Int) (s : ByteArray) (a : Int) : (headB x s a).length = 13 + s.size := by
  simp [headB, idB, textB, tB_len, be8_len]
  omega
theorem headB_lt (x : Int × Int) (s : ByteArray) (a : Int) : ∀ b ∈ headB x s a, b < 256 := fun b hb => by
  rcases List.mem_append.1 hb with q | q
  · exact idB_lt x b q
  · rcases List.mem_append.1 q with q | q
    · exact textB_lt s b q
    · exact be8_lt a b q
theorem putD_lt (Vs : List VS) (Es : List EC) : ∀ b ∈ putD Vs Es, b < 256 := fun b hb => by
  unfold putD at hb
  rcases List.mem_cons.1 hb with rfl | hb
  · omega
  rcases List.mem_append.1 hb with q | q
  · obtain ⟨e, -, q⟩ := List.mem_flatMap.1 q
    exact headB_lt _ _ _ b q
  rcases List.mem_cons.1 q with rfl | q
  · omega
  · obtain ⟨v, -, q⟩ := List.mem_flatMap.1 q
    rcases List.mem_append.1 q with q | q
    · exact headB_lt _ _ _ b q
    rcases List.mem_cons.1 q with rfl | q
    · omega
    · obtain ⟨d, -, rfl⟩ := List.mem_map.1 q
      unfold dB
      omega
theorem edges_len {c : Nat} : ∀ {L : List EC}, (∀ e ∈ L, e.2.1.size ≤ c) → (L.flatMap edB).length ≤ (13 + c) * L.length
  | [], _ => by simp
  | e :: L, h => by
    have h1 := edges_len (L := L) (fun x hx => h x (by simp [hx]))
    have h2 := h e (by simp)
    rw [List.flatMap_cons, List.length_append, List.length_cons, edB, headB_len, Nat.mul_succ]
    omega
theorem verts_len {Fs : List EC} : ∀ {L : List VS}, (∀ e ∈ L, e.2.2.1.size ≤ 16 ∧ e.2.1.length ≤ 80) → (L.flatMap (vtB Fs)).length ≤ 110 * L.length
  | [], _ => by simp
  | e :: L, h => by
    have h1 := verts_len (Fs := Fs) (L := L) (fun x hx => h x (by simp [hx]))
    have h2 := h e (by simp)
    rw [List.flatMap_cons, List.length_append, List.length_cons, vtB, List.length_append, headB_len, List.length_cons, List.length_map]
    omega
theorem putD_max (h : Formed Vs Es) : (putD (Vs.map vS) Es).length ≤ 4000 := by
  have h1 := edges_len (c := 16) h.size.1
  have h2 := verts_len (Fs := Es) (L := Vs.map vS) (fun e he => by
    obtain ⟨u, hu, rfl⟩ := List.mem_map.1 he
    exact ⟨h.size.2 u hu, h.ring u hu⟩)
  have h3 := h.e40
  have h4 := h.v24
  rw [List.length_map] at h2
  unfold putD
  rw [List.length_cons, List.length_append, List.length_cons]
  omega
end
end Go.Proofs.YtmkflebkifbpfaaGreat
/- pack.room. -/
namespace Go.Proofs.YtmkflebkifbpfaaGreat
open Go.RowKit
theorem rows_get (L : List Nat) (j : Nat) : (rowsV f8 L)[j]? = (L[j]?).map (fun b : Nat => Value.int .u8 (b : Int)) := by rw [rowsV_map8, List.getElem?_map]
theorem rows8_len (L : List Nat) : (rowsV f8 L).length = L.length := by rw [rowsV_map8, List.length_map]
theorem rows8_app (L M : List Nat) : rowsV f8 (L ++ M) = rowsV f8 L ++ rowsV f8 M := by rw [rowsV_map8, rowsV_map8, rowsV_map8, List.map_append]
theorem rows8_set (L : List Nat) (j b : Nat) : (rowsV f8 L).set j (.int .u8 (b : Int)) = rowsV f8 (L.set j b) := by rw [rowsV_map8, rowsV_map8, List.map_set]
theorem made_u8 (N : Nat) : madeCells (Value.int .u8 0).cells N = (rowsV f8 (List.replicate N 0)).toArray := by
  apply Array.ext'
  rw [rowsV_map8, List.map_replicate]
  show (madeCells #[Value.int .u8 0] N).toList = _
  refine List.ext_getElem? fun j => ?_
  rw [List.getElem?_replicate]
  by_cases h : j < N
  · rw [if_pos h, Array.getElem?_toList, Array.getElem?_eq_getElem (by rw [size_madeCells]; exact h)]
    simp [madeCells, Nat.mod_one]
  · rw [if_neg h, Array.getElem?_toList, Array.getElem?_eq_none (by rw [size_madeCells]; omega)]
theorem make_u8 (N : Nat) (hN : N ≤ 100000000) (W : World) : (Instr.makeSlice 27 (.int .i64 (N : Int)) (.int .i64 (N : Int))).run Tryz.prog W = .ok (.slice (some ⟨W.heap.size, 0, none⟩) N N) (W.alloc (.cells (rowsV f8 (List.replicate N 0)).toArray 5)) := by
  obtain ⟨i0, hi, hz0, hz1, hz2⟩ := info_parts_ info_u8
  have h := run_make (P := Tryz.prog) W 27 5 i0 _ Tryz.underlying27 hi hz0 .i64 .i64 (N : Int) (N : Int) (by omega) (by omega) (by rw [hz2]; omega) (by omega)
  rw [hz1] at h
  simp only [Int.toNat_natCast, Nat.mul_one] at h
  rw [h, made_u8]
theorem splice_0 (L : List Nat) (m : Nat) : splice (rowsV f8 (List.replicate (L.length + m) 0)) 0 (rowsV f8 L) = rowsV f8 (L ++ List.replicate m 0) := by
  unfold splice
  rw [List.take_zero, List.nil_append, rows8_app, rows8_len, Nat.zero_add, rowsV_map8 (List.replicate _ _), rowsV_map8 (List.replicate _ _), List.map_replicate, List.map_replicate, List.drop_replicate, Nat.add_sub_cancel_left]
/-- A block of bytes that the call made is a row of its own. -/
theorem gives8_whole {w w' : World} {g : Nat} {L : List Nat} {N : Nat} (hN : L.length = N) (hm : N ≤ 100000000) (hg : w.heap.size ≤ g) (hw : Whole w' g 5 (rowsV f8 L)) (hb : Below w.heap.size w w') : Gives8 w L (.returned (.slice (some ⟨g, 0, none⟩) N N)) w' := by
  subst hN
  refine ⟨some ⟨g, 0, none⟩, L.length, rfl, RdS.of_whole8 hw (by rw [rows8_len, Nat.mul_one]), fun a ha _ => ?_, ?_, hb⟩
  · obtain rfl := Option.some.inj ha
    exact hg
  · exact own_mk (junk := []) (by rw [List.append_nil]; exact hw) hg (by rw [List.append_nil, rows8_len, Nat.mul_one]) (Nat.le_refl _) (by unfold maxLen; omega) (by rw [rows8_len, Nat.mul_one])
theorem RdS.src {W : World} {B n c : Nat} {A : Option Addr} {X : List Value} (h : RdS W B 1 A n c X) (h0 : 0 < X.length) : ∃ ad, A = some ad ∧ ∀ j v, X[j]? = some v → W.cell? (ad.add j) = some v := by
  cases A with
  | none => obtain ⟨h1, -⟩ := h.none_ rfl; have := h.len; omega
  | some a => exact ⟨a, rfl, h.cell a rfl⟩
set_option maxRecDepth 100000 in
set_option maxHeartbeats 1000000 in
theorem room_any (A : Option Addr) (c : Nat) (L : List Nat) (m : Nat) (w : World) (h : RdS w w.heap.size 1 A L.length c (rowsV f8 L)) (hn : L.length ≤ 1000000) (hm : m ≤ 1000000) :
    Calls Tryz.prog 26 #[.slice A L.length c, .int .i64 (m : Int)] w fun e w' => ∃ g, e = .returned (.slice (some ⟨g, 0, none⟩) (L.length + m) (L.length + m)) ∧ w.heap.size ≤ g ∧ Whole w' g 5 (rowsV f8 (L ++ List.replicate m 0)) ∧ Below w.heap.size w w' := by
  have HR := Lib.hid h
  have HL := Lib.hid (rows8_len L)
  have HSp := Lib.hid (splice_0 L m)
  have hw : IntKind.i64.wrap ((L.length : Int) + (m : Int)) = ((L.length + m : Nat) : Int) := by rw [IntWalk.i64_in _ (by omega)]; omega
  have hmk := make_u8 (L.length + m) (by omega)
  have hone := Lib.hid (f8_all L)
  obtain ⟨X, gX⟩ : ∃ X, rowsV f8 L = X := ⟨_, rfl⟩
  obtain ⟨Z, gZ⟩ : ∃ Z, rowsV f8 (List.replicate (L.length + m) 0) = Z := ⟨_, rfl⟩
  have HZl : RowKit.Hid (Z.length = L.length + m) := Lib.hid (by rw [← gZ, rows8_len, List.length_replicate])
  rw [gX] at HR HL HSp hone
  rw [gZ] at HSp hmk
  obtain ⟨n, gn⟩ : ∃ n, L.length = n := ⟨_, rfl⟩
  rw [gn] at HR HL hw hmk hn HZl ⊢
  obtain ⟨N, gN⟩ : ∃ N, n + m = N := ⟨_, rfl⟩
  rw [gN] at hw hmk HZl ⊢
  have Hle : RowKit.Hid (n ≤ N) := Lib.hid (by omega)
  clear h gX gZ gn gN
  go_enter Tryz.func26, Tryz.ntmps26
  have HW1 : RowKit.Hid (Whole (w.alloc (.cells Z.toArray 5)) w.heap.size 5 Z) := Lib.hid (Whole.new_ _ _ _)
  have HR1 := Lib.hid (HR.out.al (.cells Z.toArray 5))
  have HB1 := Lib.hid (below1 w (.cells Z.toArray 5))
  go_upto_region 2 with fail
  refine wp_region_lit ?_
  refine wl_read (v := ?_) (some 11) rfl (by rfl) ?_ ?_
  rotate_left
  · go_simp; (try with_reducible rfl)
  simp only [Act.put, stA_, st0_, st1_]
  refine wl_read (v := ?_) (some 12) rfl (by rfl) ?_ ?_
  rotate_left
  · go_simp; (try with_reducible rfl)
  simp only [Act.put, stA_, st0_, st1_]
  refine wpList_copy_splice rfl (.tmp 11) (.tmp 12) 27 27 rfl 5 Tryz.underlying27 (by kernel_rfl) _ _ _ _ _ _ rfl rfl w.heap.size 0 Z 5 HW1.out X (by rw [HL.out]; exact (Nat.min_eq_left Hle.out).symm) (fun h0 => ⟨rfl, HR1.out.src h0⟩) (by have := HL.out; have := Hle.out; have := HZl.out; omega) hone.out w.heap.size w HB1.out (Nat.le_refl _) ?_
  intro w2 HG2 hB2
  go_wp2
  go_ret
  exact ⟨w.heap.size, rfl, Nat.le_refl _, HSp.out ▸ HG2.out, hB2⟩
end Go.Proofs.YtmkflebkifbpfaaGreat
/- pack.Num. -/
namespace Go.Proofs.YtmkflebkifbpfaaGreat
open Go.RowKit
theorem beN_cons : ∀ (k u : Nat), beN (k + 1) u = (u / 256 ^ k % 256) :: beN k u
  | 0, u => by simp [beN]
  | k + 1, u => by
    rw [beN, beN_cons k (u / 256), List.cons_append, Nat.div_div_eq_div_mul, ← Nat.pow_succ']
    rfl
/-- What stands in the row when k of the eight bytes are laid. -/
def btm (L : List Nat) (U k : Nat) : List Nat := L ++ (List.replicate (8 - k) 0 ++ beN k U)
theorem btm_len (L : List Nat) (U k : Nat) (hk : k ≤ 8) : (btm L U k).length = L.length + 8 := by simp [btm, beN_len]; omega
theorem btm_set (L : List Nat) (U k : Nat) (hk : k < 8) : (btm L U k).set (L.length + (7 - k)) (U / 256 ^ k % 256) = btm L U (k + 1) := by
  unfold btm
  rw [beN_cons, List.set_append, if_neg (by omega), Nat.add_sub_cancel_left]
  congr 1
  have e1 : 8 - k = (8 - (k + 1)) + 1 := by omega
  have e2 : 7 - k = 8 - (k + 1) := by omega
  rw [e1, e2, List.replicate_succ', List.append_assoc, List.set_append, if_neg (by rw [List.length_replicate]; omega), List.length_replicate, Nat.sub_self]
  rfl
theorem wrap_u64_ (x : Int) : IntKind.u64.wrap x = (u64 x : Int) := by
  rw [IntKind.wrap_u64]
  unfold u64
  omega
set_option maxRecDepth 100000 in
set_option maxHeartbeats 1000000 in
theorem num_any (A : Option Addr) (c : Nat) (L : List Nat) (x : Int) (w : World) (h : RdS w w.heap.size 1 A L.length c (rowsV f8 L)) (hn : L.length ≤ 900000) :
    Calls Tryz.prog 13 #[.slice A L.length c, .int .i64 x] w (Gives8 w (L ++ be8 x)) := by
  have HC := Lib.hid (room_any A c L 8 w h (by omega) (by omega))
  have hx := wrap_u64_ x
  obtain ⟨U, gU⟩ : ∃ U, u64 x = U := ⟨_, rfl⟩
  have e0 : L ++ List.replicate 8 0 = btm L U 0 := by simp [btm, beN]
  have e8 : L ++ be8 x = btm L U 8 := by unfold be8; rw [gU]; simp [btm]
  rw [e0] at HC
  rw [e8]
  rw [gU] at hx
  have Hlen := Lib.hid (btm_len L U)
  have Hset := Lib.hid (btm_set L U)
  have HU : RowKit.Hid (U < 18446744073709551616) := Lib.hid (by rw [← gU]; exact u64_lt x)
  have Hl8 : RowKit.Hid ((btm L U 8).length = L.length + 8) := Lib.hid (btm_len L U 8 (by omega))
  clear h e0 e8 gU
  obtain ⟨F, gF⟩ : ∃ F, btm L U = F := ⟨_, rfl⟩
  rw [gF] at HC Hlen Hset Hl8 ⊢
  obtain ⟨n, gn⟩ : ∃ n, L.length = n := ⟨_, rfl⟩
  rw [gn] at HC Hlen Hset hn Hl8 ⊢
  obtain ⟨N, gN⟩ : ∃ N, n + 8 = N := ⟨_, rfl⟩
  rw [gN] at HC Hlen Hl8
  have HN := Lib.hid gN
  have hsub : IntKind.i64.wrap ((N : Int) - 1) = ((n + 7 : Nat) : Int) := by rw [IntWalk.i64_in _ (by omega)]; omega
  obtain ⟨n7, gn7⟩ : ∃ n7, n + 7 = n7 := ⟨_, rfl⟩
  rw [gn7] at hsub
  have H7 := Lib.hid gn7
  clear gF gn gN gn7
  go_enter Tryz.func13, Tryz.ntmps13
  go_wp2_with (first | (go_at_call 26; refine HC.out.mono ?_; rintro e w2 ⟨g, rfl, hg, hw, hb⟩; have HG := Lib.hid hg; have HW := Lib.hid hw; have HB := Lib.hid hb; clear hg hw hb))
  clear hsub hx
  go_loopw [6, 7] (fun u i wr => ∃ k : Nat, k ≤ 8 ∧ u = .int .u64 ((U / 256 ^ k : Nat) : Int) ∧ i = .int .i64 ((n7 : Int) - (k : Int)) ∧ RowKit.Hid (Whole wr g 5 (rowsV f8 (F k))) ∧ RowKit.Hid (Below w.heap.size w wr)) (fun _ i _ => (intOf i + 1).toNat)
  case atStart => exact ⟨0, by omega, by simp, by simp, HW, HB⟩
  case round =>
    clear HW HB
    obtain ⟨k, hk, rfl, rfl, HW, HB⟩ := hrel
    by_cases hlt : k < 8
    · obtain ⟨j, gj⟩ : ∃ j : Nat, (n7 : Int) - (k : Int) = (j : Int) := ⟨n7 - k, by have := H7.out; omega⟩
      have Hj : RowKit.Hid (j = n + (7 - k)) := Lib.hid (by have := H7.out; omega)
      rw [gj]
      have hs := Hset.out k hlt
      obtain ⟨q, gq⟩ : ∃ q, U / 256 ^ k = q := ⟨_, rfl⟩
      have hq1 : U / 256 ^ (k + 1) = q / 256 := by rw [← gq, Nat.div_div_eq_div_mul, ← Nat.pow_succ]
      have Hq1 := Lib.hid hq1
      have hqU : q ≤ U := by rw [← gq]; exact Nat.div_le_self _ _
      rw [gq] at hs
      have Hs := Lib.hid hs
      rw [gq]
      have hw8 : IntKind.u8.wrap (q : Int) = ((q % 256 : Nat) : Int) := by rw [IntKind.wrap_u8]; omega
      have d1 : decide ((n : Int) ≤ (j : Int)) = true := decide_eq_true (by have := Hj.out; omega)
      have d2 : decide (n ≤ j) = true := decide_eq_true (by have := Hj.out; omega)
      have hjl : j < (F k).length := by rw [Hlen.out k hk]; have := Hj.out; have := HN.out; omega
      obtain ⟨b0, hb0⟩ : ∃ b, (F k)[j]? = some b := ⟨_, List.getElem?_eq_getElem hjl⟩
      have hjN : j < N := by have := Hj.out; have := HN.out; omega
      have hcell := HW.out.cell (i := j) (v := .int .u8 (b0 : Int)) (by rw [rows_get, hb0]; rfl)
      have hfree := HW.out.free j
      have hsb : IntKind.i64.wrap ((j : Int) - 1) = (j : Int) - 1 := IntWalk.i64_in _ (by have := Hj.out; omega)
      have hq64 : IntKind.u64.wrap ((q / 256 : Nat) : Int) = ((q / 256 : Nat) : Int) := by rw [IntKind.wrap_u64]; have := HU.out; omega
      clear gq hs hq1 hb0 hjl
      go_wp2
      go_roundw
      case rel => exact ⟨k + 1, by omega, by rw [Hq1.out, Int.natCast_ediv]; rfl, by go_num, Lib.hid (by have := HW.out.set_ j (.int .u8 ((q % 256 : Nat) : Int)); rw [rows8_set, Hj.out, Hs.out] at this; rw [Hj.out]; exact this), Lib.hid (HB.out.setCell (p := ⟨g, j, none⟩) HG.out _)⟩
      case measure => first | (simp [intOf]; done) | (simp [intOf]; omega)
    · obtain rfl : k = 8 := by omega
      have d1 : decide ((n : Int) ≤ (n7 : Int) - 8) = false := decide_eq_false (by have := H7.out; omega)
      go_wp2
      go_ret
      exact gives8_whole Hl8.out (by have := HN.out; omega) HG.out HW.out HB.out
end Go.Proofs.YtmkflebkifbpfaaGreat
/- pack.Text. -/
namespace Go.Proofs.YtmkflebkifbpfaaGreat
open Go.RowKit
theorem tB_data (s : ByteArray) : tB s = s.data.toList.map UInt8.toNat := by rw [tB, ByteArray.toList_eq]
theorem str_rows (s : ByteArray) : Lib.strCells s = rowsV f8 (tB s) := by
  rw [rowsV_map8, tB_data, Lib.strCells, List.map_map]
  rfl
theorem exec_copy {P : Program} {ev : Operand → Value} {o : Oper} {w w' : World} (d s : Operand) (dT sT : TypeId) (ho : o.op = .call { callee := .builtin .copy, args := #[d, s], argTypes := #[dT, sT] }) {x y v : Value} (hd : ev d = x) (hs : ev s = y)
    (hrun : (Builtin.copy_ #[dT, sT] o.type #[x, y]).run P w = .ok v w') : (execOp ev o).run P w = .ok (.value v) w' := by
  unfold execOp
  simp [ho, resolve, invoke, builtin, hd, hs, hrun, Result.andThen]
/-- A text copied to the end of a row. -/
theorem copy_str (ty : TypeId) {w : World} {g N p : Nat} {M : List Nat} {A : Option Addr} {c : Nat} (s : ByteArray) (hw : Whole w g 5 (rowsV f8 M)) (hM : M.length = N) (hp : p + s.size = N) (hA : (if N = p then some (⟨g, 0, none⟩ : Addr) else (some (⟨g, 0, none⟩ : Addr)).map (·.add (p * 1))) = A) {w0 : World} {B : Nat} (hb : Below B w0 w) (hB : B ≤ g) :
    ∃ w', (Builtin.copy_ #[27, 9] ty #[.slice A s.size c, .string s]).run Tryz.prog w = .ok (goInt s.size) w' ∧ Whole w' g 5 (rowsV f8 (M.take p ++ tB s)) ∧ Below B w0 w' := by
  obtain ⟨i0, hi, hz0, hz1, hz2⟩ := info_parts_ info_u8
  by_cases h0 : N = p
  · rw [if_pos h0] at hA
    obtain rfl := hA
    have hs : s.size = 0 := by omega
    have ht : tB s = [] := List.eq_nil_of_length_eq_zero (by rw [tB_len, hs])
    refine ⟨w, ?_, by rw [ht, List.append_nil, List.take_of_length_le (by omega)]; exact hw, hb⟩
    simp [Builtin.copy_, run_underlying (Tryz.underlying27), Builtin.lenOf, Builtin.firstCells, sizeOf, typeInfo, hi, hz1, hs, storeCells]
  · rw [if_neg h0] at hA
    have e : (some (⟨g, 0, none⟩ : Addr)).map (·.add (p * 1)) = some (⟨g, p, none⟩ : Addr) := by simp only [Option.map_some, Addr.add_lit, Nat.mul_one, Nat.zero_add]
    rw [e] at hA
    obtain rfl := hA
    have hst := run_storeCells_at Tryz.prog g p 5 (Lib.strCells s) 0 (rowsV f8 M).toArray w hw (by simp [rows8_len, Lib.strCells_length]; omega) (Lib.strCells_oneCell s)
    have hf := Lib.run_firstCells_string (P := Tryz.prog) w 1 s
    simp only [Nat.add_zero, Lib.strCells_length] at hst
    have hd : (rowsV f8 M).toArray.toList.drop (p + s.size) = [] := List.drop_eq_nil_of_le (by simp [rows8_len]; omega)
    rw [hd, List.append_nil, str_rows, show ((rowsV f8 M).toArray.toList.take p ++ rowsV f8 (tB s)).toArray = (rowsV f8 (M.take p ++ tB s)).toArray from by rw [rows8_app, rowsV_map8 M, rowsV_map8 (M.take p), List.map_take]] at hst
    refine ⟨_, ?_, Whole.row hw (rowsV f8 (M.take p ++ tB s)), below_setRow hb hB _⟩
    simp only [str_rows] at hf
    simp [Builtin.copy_, run_underlying (Tryz.underlying27), Builtin.lenOf, sizeOf, typeInfo, hi, hz1, hf, hst]
set_option maxRecDepth 100000 in
set_option maxHeartbeats 1000000 in
theorem text_any (A : Option Addr) (c : Nat) (L : List Nat) (s : ByteArray) (w : World) (h : RdS w w.heap.size 1 A L.length c (rowsV f8 L)) (hn : L.length ≤ 900000) (hs : s.size ≤ 900000) :
    Calls Tryz.prog 29 #[.slice A L.length c, .string s] w (Gives8 w (L ++ textB s)) := by
  obtain ⟨S, gS⟩ : ∃ S, s.size = S := ⟨_, rfl⟩
  have HC := Lib.hid (room_any A c L (1 + S) w h (by omega) (by omega))
  have hw1 : IntKind.i64.wrap (1 + (S : Int)) = ((1 + S : Nat) : Int) := by rw [IntWalk.i64_in _ (by omega)]; omega
  have hw8 : IntKind.u8.wrap (S : Int) = ((S % 256 : Nat) : Int) := by rw [IntKind.wrap_u8]; omega
  have HE : RowKit.Hid (((L ++ List.replicate (1 + S) 0).set L.length (S % 256)).take (L.length + 1) ++ tB s = L ++ textB s) := Lib.hid (by
    rw [List.set_append, if_neg (by omega), Nat.sub_self, Nat.add_comm 1 S, List.replicate_succ, List.set_cons_zero, textB, gS]
    rw [List.take_append, List.take_of_length_le (by omega), Nat.add_sub_cancel_left, List.take_succ_cons, List.take_zero, List.append_assoc])
  have Hl : RowKit.Hid ((L ++ textB s).length = L.length + (1 + S)) := Lib.hid (by simp [textB, tB_len, gS]; omega)
  have Hs : RowKit.Hid (s.size = S) := Lib.hid gS
  have hsz : (s.size : Int) = (S : Int) := by rw [gS]
  obtain ⟨E, gE⟩ : ∃ E, L ++ textB s = E := ⟨_, rfl⟩
  rw [gE] at HE Hl ⊢
  obtain ⟨M0, gM0⟩ : ∃ M0, L ++ List.replicate (1 + S) 0 = M0 := ⟨_, rfl⟩
  have HM0 : RowKit.Hid (M0.length = L.length + (1 + S)) := Lib.hid (by rw [← gM0]; simp)
  rw [gM0] at HC HE
  obtain ⟨n, gn⟩ : ∃ n, L.length = n := ⟨_, rfl⟩
  rw [gn] at HC HE Hl HM0 hn ⊢
  obtain ⟨m, gm⟩ : ∃ m, 1 + S = m := ⟨_, rfl⟩
  rw [gm] at HC Hl HM0 hw1
  have Hm := Lib.hid gm
  obtain ⟨N, gN⟩ : ∃ N, n + m = N := ⟨_, rfl⟩
  rw [gN] at HC Hl HM0
  have HN := Lib.hid gN
  have hw2 : IntKind.i64.wrap ((n : Int) + 1) = ((n + 1 : Nat) : Int) := by rw [IntWalk.i64_in _ (by omega)]; omega
  have hnN : n < N := by omega
  have hnN2 : (n : Int) < (N : Int) := by omega
  have hNb : N ≤ 100000000 := by omega
  obtain ⟨S8, gS8⟩ : ∃ z, S % 256 = z := ⟨_, rfl⟩
  rw [gS8] at HE hw8
  clear h gE gM0 gn gm gN gS hs gS8
  go_enter Tryz.func29, Tryz.ntmps29
  go_upto_region 2 with (first | (go_at_call 26; refine HC.out.mono ?_; rintro e w2 ⟨g, rfl, hg, hw, hb⟩; have HG := Lib.hid hg; have HW := Lib.hid hw; have HB := Lib.hid hb; clear hg hw hb))
  clear hw1
  obtain ⟨b0, hb0⟩ : ∃ b, M0[n]? = some b := ⟨_, List.getElem?_eq_getElem (by rw [HM0.out]; exact hnN)⟩
  have hcell := HW.out.cell (i := n) (v := .int .u8 (b0 : Int)) (by rw [rows_get, hb0]; rfl)
  have hfree := HW.out.free n
  clear hb0
  go_upto_region 3 with fail
  have HW2 : RowKit.Hid (Whole (w2.setCell ⟨g, n, none⟩ (.int .u8 (S8 : Int))) g 5 (rowsV f8 (M0.set n S8))) := Lib.hid (by have := HW.out.set_ n (.int .u8 (S8 : Int)); rwa [rows8_set] at this)
  have HB2 := Lib.hid (HB.out.setCell (p := ⟨g, n, none⟩) HG.out (.int .u8 (S8 : Int)))
  obtain ⟨w3, gw3⟩ : ∃ z, w2.setCell ⟨g, n, none⟩ (.int .u8 (S8 : Int)) = z := ⟨_, rfl⟩
  rw [gw3] at HW2 HB2 ⊢
  clear gw3 HW HB hcell hfree
  obtain ⟨A1, hA1⟩ : ∃ A1, (if N = n + 1 then some (⟨g, 0, none⟩ : Addr) else (some (⟨g, 0, none⟩ : Addr)).map (·.add ((n + 1) * 1))) = A1 := ⟨_, rfl⟩
  have hNS : n + 1 + s.size = N := by have := Hm.out; have := HN.out; have := Hs.out; omega
  have hNS2 : N - (n + 1) = s.size := by omega
  obtain ⟨w4, hrun, hw4, hb4⟩ := copy_str (c := N - (n + 1)) 3 s HW2.out (by rw [List.length_set]; exact HM0.out) hNS hA1 HB2.out HG.out
  have HW4 := Lib.hid hw4
  have HB4 := Lib.hid hb4
  rw [HE.out] at HW4
  refine wp_region_lit ?_
  refine wl_read (v := ?_) (some 18) rfl (by rfl) ?_ ?_
  rotate_left
  · go_simp; (try with_reducible rfl)
  simp only [Act.put, stA_, st0_, st1_]
  refine wl_read (v := ?_) (some 19) rfl (by rfl) ?_ ?_
  rotate_left
  · go_simp; (try with_reducible rfl)
  simp only [Act.put, stA_, st0_, st1_]
  refine wl_read (v := ?_) (some 20) rfl (by rfl) ?_ ?_
  rotate_left
  · go_simp; (try with_reducible rfl)
  simp only [Act.put, stA_, st0_, st1_]
  refine wl_read (v := ?_) (some 21) rfl (by rfl) ?_ ?_
  rotate_left
  · go_simp; (try with_reducible rfl)
  simp only [Act.put, stA_, st0_, st1_]
  refine wl_run (some 22) rfl (by rfl) (exec_slice_low_as 27 5 (.tmp 18) (.tmp 21) rfl Tryz.underlying27 (s := 1) (by kernel_rfl) rfl (by rfl) (by omega) hA1 hNS2 rfl) ?_
  simp only [Act.put, stA_, st0_, st1_]
  refine wl_read (v := ?_) (some 23) rfl (by rfl) ?_ ?_
  rotate_left
  · go_simp; (try with_reducible rfl)
  simp only [Act.put, stA_, st0_, st1_]
  refine wl_run (some 24) rfl (by rfl) (exec_copy (.tmp 22) (.tmp 23) 27 9 rfl rfl rfl hrun) ?_
  clear hrun hw4 hb4
  go_wp2
  go_ret
  exact gives8_whole Hl.out hNb HG.out HW4.out HB4.out
end Go.Proofs.YtmkflebkifbpfaaGreat
