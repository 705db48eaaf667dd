/- CompEdge's walk. -/
import Derived.Test.YtjkbcpikdkidhaaCm15n
import Derived.Test.YtjkbcpikdkidhaaGE
namespace Go.Proofs.Ytjkbcpikdkidhaa
open Go.RowKit
set_option linter.unusedSimpArgs false
set_option linter.unusedVariables false

set_option maxRecDepth 100000 in
set_option maxHeartbeats 4000000 in
theorem law_edge (A : Option Addr) (n c : Nat) (Vs : List VC) (B : Option Addr) (m k : Nat) (Es : List EC) (x1 x2 y1 y2 : Int) (w : World) (h : DgIn w A n c Vs B m k Es) (hg : GoodD Vs Es) (hz : SmD n m Vs) :
    Calls Try.prog 11 #[.agg #[.slice A n c, .slice B m k], .agg #[.int .i64 x1, .int .i64 x2], .agg #[.int .i64 y1, .int .i64 y2]] w fun e w' => e = .returned (.bool true) ∧ Below w.heap.size w w' := by
  have HFo := Lib.hid (fun W (h : DgIn W A n c Vs B m k Es) => formed06_any A n c Vs B m k Es W h hg hz)
  obtain ⟨fo, gfo⟩ : ∃ z, (formD Vs Es == 0) = z := ⟨_, rfl⟩
  rw [gfo] at HFo
  have Gfo := Lib.hid gfo
  have HDa := Lib.hid h
  have HGd := Lib.hid hg
  have Hz := Lib.hid hz
  have HVx := Lib.hid (fun W (h : DgIn W A n c Vs B m k Es) => rfindV A n c Vs B m k Es x1 x2 W h.v (by have := hz.n; omega))
  have HVy := Lib.hid (fun W (h : DgIn W A n c Vs B m k Es) => rfindV A n c Vs B m k Es y1 y2 W h.v (by have := hz.n; omega))
  have HEn := Lib.hid (fun W (h : DgIn W A n c Vs B m k Es) => rfindE A n c Vs B m k Es 8 1048576 W h.e (by have := hz.m; omega))
  have hsx := fndV_some Vs (x1, x2)
  have hsy := fndV_some Vs (y1, y2)
  have hse := fndE_some Es (8, 1048576)
  obtain ⟨⟨⟨⟨a1, a2⟩, ⟨aA, an, ac, aL⟩, al, at1⟩, one⟩, gx⟩ : ∃ z, fndV Vs (x1, x2) = z := ⟨_, rfl⟩
  obtain ⟨⟨⟨⟨b1, b2⟩, ⟨bA, bn, bc, bL⟩, bl, bt1⟩, two⟩, gy⟩ : ∃ z, fndV Vs (y1, y2) = z := ⟨_, rfl⟩
  obtain ⟨⟨⟨⟨e1, e2⟩, el, et⟩, th⟩, ge⟩ : ∃ z, fndE Es (8, 1048576) = z := ⟨_, rfl⟩
  rw [gx] at HVx hsx
  rw [gy] at HVy hsy
  rw [ge] at HEn hse
  have Hsx : RowKit.Hid (one = decide ((x1, x2) ∈ Vs.map (·.1))) := Lib.hid hsx
  have Hsy : RowKit.Hid (two = decide ((y1, y2) ∈ Vs.map (·.1))) := Lib.hid hsy
  have Hse : RowKit.Hid (th = true ↔ ∃ e ∈ Es, e.1 = (8, 1048576)) := Lib.hid hse
  replace HVx : RowKit.Hid (∀ W, DgIn W A n c Vs B m k Es → Calls Try.prog 48 #[.agg #[.slice A n c, .slice B m k], .agg #[.int .i64 x1, .int .i64 x2]] W fun e w' => e = .returned (.tuple #[.agg #[.int .i64 a1, .int .i64 a2, .slice aA an ac, .string al, .int .i64 at1], .bool one]) ∧ Below W.heap.size W w') := HVx
  replace HVy : RowKit.Hid (∀ W, DgIn W A n c Vs B m k Es → Calls Try.prog 48 #[.agg #[.slice A n c, .slice B m k], .agg #[.int .i64 y1, .int .i64 y2]] W fun e w' => e = .returned (.tuple #[.agg #[.int .i64 b1, .int .i64 b2, .slice bA bn bc, .string bl, .int .i64 bt1], .bool two]) ∧ Below W.heap.size W w') := HVy
  replace HEn : RowKit.Hid (∀ W, DgIn W A n c Vs B m k Es → Calls Try.prog 32 #[.agg #[.slice A n c, .slice B m k], .agg #[.int .i64 8, .int .i64 1048576]] W fun e w' => e = .returned (.tuple #[.agg #[.int .i64 e1, .int .i64 e2, .string el, .int .i64 et], .bool th]) ∧ Below W.heap.size W w') := HEn
  clear gx gy ge hsx hsy hse
  clear h hg hz gfo
  go_enter Try.func11, Try.ntmps11
  go_wp2_with fail
  refine (shown06_any _).mono ?_
  rintro e w1 ⟨rfl, hb1⟩
  have Da_2 := Lib.hid ((((HDa.out.al (.cells #[.slice A n c, .slice B m k] 25)).al (.cells #[.int .i64 x1, .int .i64 x2] 27)).al (.cells #[.int .i64 y1, .int .i64 y2] 27)).bl hb1)
  have D0_2 := Lib.hid ((((show Whole (w.alloc (.cells #[.slice A n c, .slice B m k] 25)) (w.heap.size) (25) ([.slice A n c, .slice B m k]) from Whole.new2 (by first | rfl | simp)).al (.cells #[.int .i64 x1, .int .i64 x2] 27)).al (.cells #[.int .i64 y1, .int .i64 y2] 27)).bl hb1)
  have X_2 := Lib.hid (((show Whole ((w.alloc (.cells #[.slice A n c, .slice B m k] 25)).alloc (.cells #[.int .i64 x1, .int .i64 x2] 27)) ((w.heap.size + 1)) (27) ([.int .i64 x1, .int .i64 x2]) from Whole.new2 (by first | rfl | simp)).al (.cells #[.int .i64 y1, .int .i64 y2] 27)).bl hb1)
  have Y_2 := Lib.hid ((show Whole (((w.alloc (.cells #[.slice A n c, .slice B m k] 25)).alloc (.cells #[.int .i64 x1, .int .i64 x2] 27)).alloc (.cells #[.int .i64 y1, .int .i64 y2] 27)) ((w.heap.size + 1 + 1)) (27) ([.int .i64 y1, .int .i64 y2]) from Whole.new2 (by first | rfl | simp)).bl hb1)
  have Bel_2 := Lib.hid (bel_bl (bel_al (bel_al (bel_al (Below.refl _ w) (.cells #[.slice A n c, .slice B m k] 25)) (.cells #[.int .i64 x1, .int .i64 x2] 27)) (.cells #[.int .i64 y1, .int .i64 y2] 27)) hb1)
  clear HDa
  clear hb1
  have LO_D0_3 : RowKit.Hid (w.heap.size ≤ w.heap.size) := Lib.hid (by omega)
  have LO_X_4 : RowKit.Hid (w.heap.size ≤ (w.heap.size + 1)) := Lib.hid (by omega)
  have NE_D0_X : RowKit.Hid (w.heap.size ≠ (w.heap.size + 1)) := Lib.hid (by omega)
  have LO_Y_5 : RowKit.Hid (w.heap.size ≤ (w.heap.size + 1 + 1)) := Lib.hid (by omega)
  have NE_D0_Y : RowKit.Hid (w.heap.size ≠ (w.heap.size + 1 + 1)) := Lib.hid (by omega)
  have NE_X_Y : RowKit.Hid ((w.heap.size + 1) ≠ (w.heap.size + 1 + 1)) := Lib.hid (by omega)
  have lw6 : (w1).cell? ⟨w.heap.size, 0, none⟩ = some (.slice A n c) := D0_2.out.cell (i := 0) rfl
  have lw7 : (w1).cell? ⟨w.heap.size, 1, none⟩ = some (.slice B m k) := D0_2.out.cell (i := 1) rfl
  go_wp2_with fail
  clear lw6 lw7
  refine (HFo.out _ Da_2.out).mono ?_
  rintro e w8 ⟨rfl, hb8⟩
  have Da_9 := Lib.hid (Da_2.out.bl hb8)
  have D0_9 := Lib.hid (D0_2.out.bl hb8)
  have X_9 := Lib.hid (X_2.out.bl hb8)
  have Y_9 := Lib.hid (Y_2.out.bl hb8)
  have Bel_9 := Lib.hid (bel_bl Bel_2.out hb8)
  clear Da_2 D0_2 X_2 Y_2 Bel_2
  clear hb8
  have lw10 : (w8).cell? ⟨w.heap.size, 0, none⟩ = some (.slice A n c) := D0_9.out.cell (i := 0) rfl
  have lw11 : (w8).cell? ⟨w.heap.size, 1, none⟩ = some (.slice B m k) := D0_9.out.cell (i := 1) rfl
  have lw12 : (w8).cell? ⟨w.heap.size + 1, 0, none⟩ = some (.int .i64 x1) := X_9.out.cell (i := 0) rfl
  have lw13 : (w8).cell? ⟨w.heap.size + 1, 1, none⟩ = some (.int .i64 x2) := X_9.out.cell (i := 1) rfl
  go_wp2_with fail
  clear lw10 lw11 lw12 lw13
  refine (HVx.out _ Da_9.out).mono ?_
  rintro e w14 ⟨rfl, hb14⟩
  have Da_15 := Lib.hid (Da_9.out.bl hb14)
  have D0_15 := Lib.hid (D0_9.out.bl hb14)
  have X_15 := Lib.hid (X_9.out.bl hb14)
  have Y_15 := Lib.hid (Y_9.out.bl hb14)
  have Bel_15 := Lib.hid (bel_bl Bel_9.out hb14)
  clear Da_9 D0_9 X_9 Y_9 Bel_9
  clear hb14
  have lw16 : ((w14.alloc (.cells #[.int .i64 a1, .int .i64 a2, .slice aA an ac, .string al, .int .i64 at1] 53))).cell? ⟨w.heap.size, 0, none⟩ = some (.slice A n c) := (D0_15.out.al (.cells #[.int .i64 a1, .int .i64 a2, .slice aA an ac, .string al, .int .i64 at1] 53)).cell (i := 0) rfl
  have lw17 : ((w14.alloc (.cells #[.int .i64 a1, .int .i64 a2, .slice aA an ac, .string al, .int .i64 at1] 53))).cell? ⟨w.heap.size, 1, none⟩ = some (.slice B m k) := (D0_15.out.al (.cells #[.int .i64 a1, .int .i64 a2, .slice aA an ac, .string al, .int .i64 at1] 53)).cell (i := 1) rfl
  have lw18 : ((w14.alloc (.cells #[.int .i64 a1, .int .i64 a2, .slice aA an ac, .string al, .int .i64 at1] 53))).cell? ⟨w.heap.size + 1 + 1, 0, none⟩ = some (.int .i64 y1) := (Y_15.out.al (.cells #[.int .i64 a1, .int .i64 a2, .slice aA an ac, .string al, .int .i64 at1] 53)).cell (i := 0) rfl
  have lw19 : ((w14.alloc (.cells #[.int .i64 a1, .int .i64 a2, .slice aA an ac, .string al, .int .i64 at1] 53))).cell? ⟨w.heap.size + 1 + 1, 1, none⟩ = some (.int .i64 y2) := (Y_15.out.al (.cells #[.int .i64 a1, .int .i64 a2, .slice aA an ac, .string al, .int .i64 at1] 53)).cell (i := 1) rfl
  go_wp2_with fail
  clear lw16 lw17 lw18 lw19
  refine (HVy.out _ (Da_15.out.al (.cells #[.int .i64 a1, .int .i64 a2, .slice aA an ac, .string al, .int .i64 at1] 53))).mono ?_
  rintro e w20 ⟨rfl, hb20⟩
  have Da_21 := Lib.hid ((Da_15.out.al (.cells #[.int .i64 a1, .int .i64 a2, .slice aA an ac, .string al, .int .i64 at1] 53)).bl hb20)
  have D0_21 := Lib.hid ((D0_15.out.al (.cells #[.int .i64 a1, .int .i64 a2, .slice aA an ac, .string al, .int .i64 at1] 53)).bl hb20)
  have X_21 := Lib.hid ((X_15.out.al (.cells #[.int .i64 a1, .int .i64 a2, .slice aA an ac, .string al, .int .i64 at1] 53)).bl hb20)
  have Y_21 := Lib.hid ((Y_15.out.al (.cells #[.int .i64 a1, .int .i64 a2, .slice aA an ac, .string al, .int .i64 at1] 53)).bl hb20)
  have Bel_21 := Lib.hid (bel_bl (bel_al Bel_15.out (.cells #[.int .i64 a1, .int .i64 a2, .slice aA an ac, .string al, .int .i64 at1] 53)) hb20)
  clear Da_15 D0_15 X_15 Y_15 Bel_15
  clear hb20
  have lw22 : (((w20.alloc (.cells #[.int .i64 b1, .int .i64 b2, .slice bA bn bc, .string bl, .int .i64 bt1] 53)).alloc (.cells #[.int .i64 8, .int .i64 1048576] 27))).cell? ⟨w.heap.size, 0, none⟩ = some (.slice A n c) := ((D0_21.out.al (.cells #[.int .i64 b1, .int .i64 b2, .slice bA bn bc, .string bl, .int .i64 bt1] 53)).al (.cells #[.int .i64 8, .int .i64 1048576] 27)).cell (i := 0) rfl
  have lw23 : (((w20.alloc (.cells #[.int .i64 b1, .int .i64 b2, .slice bA bn bc, .string bl, .int .i64 bt1] 53)).alloc (.cells #[.int .i64 8, .int .i64 1048576] 27))).cell? ⟨w.heap.size, 1, none⟩ = some (.slice B m k) := ((D0_21.out.al (.cells #[.int .i64 b1, .int .i64 b2, .slice bA bn bc, .string bl, .int .i64 bt1] 53)).al (.cells #[.int .i64 8, .int .i64 1048576] 27)).cell (i := 1) rfl
  have lw24 : (((w20.alloc (.cells #[.int .i64 b1, .int .i64 b2, .slice bA bn bc, .string bl, .int .i64 bt1] 53)).alloc (.cells #[.int .i64 8, .int .i64 1048576] 27))).cell? ⟨w20.heap.size + 1, 0, none⟩ = some (.int .i64 8) := (show Whole ((w20.alloc (.cells #[.int .i64 b1, .int .i64 b2, .slice bA bn bc, .string bl, .int .i64 bt1] 53)).alloc (.cells #[.int .i64 8, .int .i64 1048576] 27)) ((w20.heap.size + 1)) (27) ([.int .i64 8, .int .i64 1048576]) from Whole.new2 (by first | rfl | simp)).cell (i := 0) rfl
  have lw25 : (((w20.alloc (.cells #[.int .i64 b1, .int .i64 b2, .slice bA bn bc, .string bl, .int .i64 bt1] 53)).alloc (.cells #[.int .i64 8, .int .i64 1048576] 27))).cell? ⟨w20.heap.size + 1, 1, none⟩ = some (.int .i64 1048576) := (show Whole ((w20.alloc (.cells #[.int .i64 b1, .int .i64 b2, .slice bA bn bc, .string bl, .int .i64 bt1] 53)).alloc (.cells #[.int .i64 8, .int .i64 1048576] 27)) ((w20.heap.size + 1)) (27) ([.int .i64 8, .int .i64 1048576]) from Whole.new2 (by first | rfl | simp)).cell (i := 1) rfl
  go_wp2_with fail
  clear lw22 lw23 lw24 lw25
  refine (HEn.out _ ((Da_21.out.al (.cells #[.int .i64 b1, .int .i64 b2, .slice bA bn bc, .string bl, .int .i64 bt1] 53)).al (.cells #[.int .i64 8, .int .i64 1048576] 27))).mono ?_
  rintro e w26 ⟨rfl, hb26⟩
  have Da_27 := Lib.hid (((Da_21.out.al (.cells #[.int .i64 b1, .int .i64 b2, .slice bA bn bc, .string bl, .int .i64 bt1] 53)).al (.cells #[.int .i64 8, .int .i64 1048576] 27)).bl hb26)
  have D0_27 := Lib.hid (((D0_21.out.al (.cells #[.int .i64 b1, .int .i64 b2, .slice bA bn bc, .string bl, .int .i64 bt1] 53)).al (.cells #[.int .i64 8, .int .i64 1048576] 27)).bl hb26)
  have X_27 := Lib.hid (((X_21.out.al (.cells #[.int .i64 b1, .int .i64 b2, .slice bA bn bc, .string bl, .int .i64 bt1] 53)).al (.cells #[.int .i64 8, .int .i64 1048576] 27)).bl hb26)
  have Y_27 := Lib.hid (((Y_21.out.al (.cells #[.int .i64 b1, .int .i64 b2, .slice bA bn bc, .string bl, .int .i64 bt1] 53)).al (.cells #[.int .i64 8, .int .i64 1048576] 27)).bl hb26)
  have N_27 := Lib.hid ((show Whole ((w20.alloc (.cells #[.int .i64 b1, .int .i64 b2, .slice bA bn bc, .string bl, .int .i64 bt1] 53)).alloc (.cells #[.int .i64 8, .int .i64 1048576] 27)) ((w20.heap.size + 1)) (27) ([.int .i64 8, .int .i64 1048576]) from Whole.new2 (by first | rfl | simp)).bl hb26)
  have Bel_27 := Lib.hid (bel_bl (bel_al (bel_al Bel_21.out (.cells #[.int .i64 b1, .int .i64 b2, .slice bA bn bc, .string bl, .int .i64 bt1] 53)) (.cells #[.int .i64 8, .int .i64 1048576] 27)) hb26)
  clear Da_21 D0_21 X_21 Y_21 Bel_21
  clear hb26
  have lw28 : ((w26.alloc (.cells #[.int .i64 e1, .int .i64 e2, .string el, .int .i64 et] 48))).cell? ⟨w.heap.size, 1, none⟩ = some (.slice B m k) := (D0_27.out.al (.cells #[.int .i64 e1, .int .i64 e2, .string el, .int .i64 et] 48)).cell (i := 1) rfl
  cases fo with
  | false =>
    go_wp2
    go_ret
    exact ⟨rfl, (bel_al Bel_27.out (.cells #[.int .i64 e1, .int .i64 e2, .string el, .int .i64 et] 48))⟩
  | true =>
    cases one with
    | false =>
      go_wp2
      go_ret
      exact ⟨rfl, (bel_al Bel_27.out (.cells #[.int .i64 e1, .int .i64 e2, .string el, .int .i64 et] 48))⟩
    | true =>
      cases two with
      | false =>
        go_wp2
        go_ret
        exact ⟨rfl, (bel_al Bel_27.out (.cells #[.int .i64 e1, .int .i64 e2, .string el, .int .i64 et] 48))⟩
      | true =>
        cases th with
        | true =>
          go_wp2
          go_ret
          exact ⟨rfl, (bel_al Bel_27.out (.cells #[.int .i64 e1, .int .i64 e2, .string el, .int .i64 et] 48))⟩
        | false =>
          by_cases hm40 : 40 ≤ m
          · have hmd : decide (40 ≤ m) = true := decide_eq_true hm40
            have hmi : decide ((40 : Int) ≤ (m : Int)) = true := decide_eq_true (by omega)
            go_wp2
            go_ret
            exact ⟨rfl, (bel_al Bel_27.out (.cells #[.int .i64 e1, .int .i64 e2, .string el, .int .i64 et] 48))⟩
          · have hmd : decide (40 ≤ m) = false := decide_eq_false hm40
            have hmi : decide ((40 : Int) ≤ (m : Int)) = false := decide_eq_false (by omega)
            have HFm : RowKit.Hid (Formed Vs Es) := Lib.hid ((form0 Vs Es).1 (eq_of_beq Gfo.out))
            have Hsm := Lib.hid (HFm.out.small (Da_27.out.al (.cells #[.int .i64 e1, .int .i64 e2, .string el, .int .i64 et] 48)))
            have Hlv : RowKit.Hid (Vs.length = n) := Lib.hid ((Da_27.out.al (.cells #[.int .i64 e1, .int .i64 e2, .string el, .int .i64 et] 48)).v.rlen vC_len (by decide))
            have hn24 : n ≤ 24 := Hsm.out.1
            have HWd : RowKit.Hid (∀ v ∈ Vs, ∀ d ∈ v.2.1.2.2.2, wfD d) := Lib.hid HGd.out.v
            have Hr0 : RowKit.Hid (∀ x ∈ Vs, x.2.1.2.1 ≤ 1000000) := Lib.hid (fun x hx => by have := Hsm.out.2.2 x hx; omega)
            have HCl : RowKit.Hid (∀ W, DgIn W A n c Vs B m k Es → Calls Try.prog 33 #[.agg #[.slice A n c, .slice B m k]] W fun e w' => ∃ A' c' B' k' Ws, e = .returned (.agg #[.slice A' n c', .slice B' m k']) ∧ ClS w' W.heap.size A' n c' Ws B' m k' Es ∧ Ws.map vS = Vs.map vS ∧ Below W.heap.size W w') := Lib.hid (fun W h => rclone_any A n c Vs B m k Es W h (by omega) (by omega) Hr0.out)
            obtain ⟨iE, hie, hze0, hze1, hze2⟩ := info_partsD info_edge
            obtain ⟨px, u0, hux, hu0⟩ : ∃ (px : Nat) (u : VC), Vs[px]? = some u ∧ u.1 = (x1, x2) := by
              obtain ⟨u, hu, e⟩ := List.mem_map.1 (of_decide_eq_true Hsx.out.symm)
              obtain ⟨i, hi⟩ := List.getElem?_of_mem hu
              exact ⟨i, u, hi, e⟩
            obtain ⟨py, v0, hvy, hv0⟩ : ∃ (px : Nat) (u : VC), Vs[px]? = some u ∧ u.1 = (y1, y2) := by
              obtain ⟨u, hu, e⟩ := List.mem_map.1 (of_decide_eq_true Hsy.out.symm)
              obtain ⟨i, hi⟩ := List.getElem?_of_mem hu
              exact ⟨i, u, hi, e⟩
            have HNum : RowKit.Hid (∀ Us : List VC, Us.map vS = Vs.map (gN (x1, x2) (y1, y2)) → togF Us (x1, x2) (y1, y2) = true ∧ (cntF (labF Us) : Int) = (cntF (labF Vs) : Int) - (if togF Vs (x1, x2) (y1, y2) = true then 0 else 1)) := Lib.hid (fun Us h => by
              have hno : ∀ e ∈ Es, e.1 ≠ nE := fun e he q => by
                have := Hse.out.2 ⟨e, he, q⟩
                cases this
              have h1 := edge_num (Us := Us) HFm.out hno hux hvy (by rw [hu0, hv0]; exact h)
              rwa [hu0, hv0] at h1)
            clear hux hu0 hvy hv0 Hsx Hsy Hse Gfo
            clear lw28
            have lw29 : ((w26.alloc (.cells #[.int .i64 e1, .int .i64 e2, .string el, .int .i64 et] 48))).cell? ⟨w.heap.size, 0, none⟩ = some (.slice A n c) := (D0_27.out.al (.cells #[.int .i64 e1, .int .i64 e2, .string el, .int .i64 et] 48)).cell (i := 0) rfl
            have lw30 : ((w26.alloc (.cells #[.int .i64 e1, .int .i64 e2, .string el, .int .i64 et] 48))).cell? ⟨w.heap.size, 1, none⟩ = some (.slice B m k) := (D0_27.out.al (.cells #[.int .i64 e1, .int .i64 e2, .string el, .int .i64 et] 48)).cell (i := 1) rfl
            go_wp2_with fail
            clear lw29 lw30
            have Da_31 := Lib.hid ((Da_27.out.al (.cells #[.int .i64 e1, .int .i64 e2, .string el, .int .i64 et] 48)))
            have D0_31 := Lib.hid ((D0_27.out.al (.cells #[.int .i64 e1, .int .i64 e2, .string el, .int .i64 et] 48)))
            have X_31 := Lib.hid ((X_27.out.al (.cells #[.int .i64 e1, .int .i64 e2, .string el, .int .i64 et] 48)))
            have Y_31 := Lib.hid ((Y_27.out.al (.cells #[.int .i64 e1, .int .i64 e2, .string el, .int .i64 et] 48)))
            have N_31 := Lib.hid ((N_27.out.al (.cells #[.int .i64 e1, .int .i64 e2, .string el, .int .i64 et] 48)))
            have Bel_31 := Lib.hid (bel_al Bel_27.out (.cells #[.int .i64 e1, .int .i64 e2, .string el, .int .i64 et] 48))
            obtain ⟨v31, gv31⟩ : ∃ x, (w26.alloc (.cells #[.int .i64 e1, .int .i64 e2, .string el, .int .i64 et] 48)) = x := ⟨_, rfl⟩
            rw [gv31] at Da_31 D0_31 X_31 Y_31 N_31 Bel_31 ⊢
            clear gv31
            clear Da_27 D0_27 X_27 Y_27 N_27 Bel_27
            have HDd := Lib.hid (Da_31.out)
            have HXd := Lib.hid (D0_31.out)
            have HXx := Lib.hid (X_31.out)
            have HXy := Lib.hid (Y_31.out)
            have HXn := Lib.hid (N_31.out)
            have HBd := Lib.hid (Bel_31.out)
            clear Da_31 D0_31 X_31 Y_31 N_31 Bel_31
            obtain ⟨bN, gbN⟩ : ∃ z, w20.heap.size + 1 = z := ⟨_, rfl⟩
            rw [gbN] at HXn ⊢
            clear gbN
            refine (HCl.out _ HDd.out).mono ?_
            rintro e w7 ⟨A2, c2, B2, k2, Us, rfl, hcl, hsm, hb7⟩
            obtain ⟨B3, k3, w8_, hrun, hcl8, hb8, hg8⟩ := ((hcl.al (.cells #[.slice A2 n c2, .slice B2 m k2] 25)).al (.cells (eC eN).toArray 48)).pushE (P := Try.prog) eN 23 23 iE _ Try.underlying23 hie hze0 hze1 hze2 rfl (by omega) (by have := hb7.size; simp; omega) (w7.heap.size + 1) (RdS.of_whole (Whole.new2 (by simp)) rfl)
            have L9 : RowKit.Hid (v31.heap.size ≤ w7.heap.size) := Lib.hid hb7.size
            have H97 := Lib.hid (Whole.new2 (w := w7) (t := 25) (cs := [.slice A2 n c2, .slice B2 m k2]) rfl)
            have hn9 := own_ne (hcl.al (.cells #[.slice A2 n c2, .slice B2 m k2] 25)).e H97.out (by decide)
            have H98 := Lib.hid ((H97.out.al (.cells (eC eN).toArray 48)).grown hg8 hn9)
            have HZ8 : RowKit.Hid (Below v31.heap.size v31 w8_) := Lib.hid ((bel_al (bel_al hb7 (.cells #[.slice A2 n c2, .slice B2 m k2] 25)) (.cells (eC eN).toArray 48)).trans hb8)
            have HXn7 := Lib.hid ((HXn.out.bl hb7).al (.cells #[.slice A2 n c2, .slice B2 m k2] 25))
            obtain ⟨b9, gb9⟩ : ∃ z, w7.heap.size = z := ⟨_, rfl⟩
            rw [gb9] at L9 H97 H98 hrun
            have HM8 := Lib.hid (hcl8.far (i := 1) H98.out (by decide) (by decide) (by decide) (.slice B3 (m + 1) k3)).wro
            have H99 := Lib.hid (H98.out.set_ 1 (.slice B3 (m + 1) k3))
            have HZ9 := Lib.hid (HZ8.out.setCell (p := ⟨b9, 1, none⟩) L9.out (.slice B3 (m + 1) k3))
            have HU7 : RowKit.Hid (Us.map vS = (Vs.take 0).map (gN (x1, x2) (y1, y2)) ++ (Vs.drop 0).map vS) := Lib.hid (by rw [hsm]; rfl)
            have d0 := HXn7.out.cell (i := 0) rfl
            have d1 := HXn7.out.cell (i := 1) rfl
            have d2 := H97.out.cell (i := 1) rfl
            have d3 := H98.out.cell (i := 1) rfl
            have d4 := H98.out.free 1
            clear hcl hsm hb7 hcl8 hb8 hg8 hn9
            go_wp2_with (first
              | (at_builtin
                 refine wl_run (some 69) rfl (by rfl) (exec_append (by rfl) (by rfl) (by rfl) hrun) ?_))
            obtain ⟨wm, gwm⟩ : ∃ z, w8_.setCell ⟨b9, 1, none⟩ (.slice B3 (m + 1) k3) = z := ⟨_, rfl⟩
            rw [gwm] at HM8 H99 HZ9 ⊢
            clear gb9 gwm d0 d1 d2 d3 d4 hrun HXn7 H97 H98 HZ8 HCl
            go_loopw [17] (fun si wr => ∃ (j : Nat) (Us : List VC), j ≤ n ∧ si = .int .i64 j ∧ RowKit.Hid (Below v31.heap.size v31 wr) ∧ RowKit.Hid (Whole wr b9 25 [.slice A2 n c2, .slice B3 (m + 1) k3]) ∧ RowKit.Hid (Wro wr v31.heap.size A2 n c2 Us B3 (m + 1) k3 (Es ++ [eN])) ∧ RowKit.Hid (Us.map vS = (Vs.take j).map (gN (x1, x2) (y1, y2)) ++ (Vs.drop j).map vS)) (fun si _ => n - (intOf si).toNat)
            case atStart => exact ⟨0, Us, by omega, rfl, HZ9, H99, HM8, HU7⟩
            case round =>
              clear HZ9 H99 HM8 HU7
              obtain ⟨j, Us, hj, rfl, HZ, H9, HM, HU⟩ := hrel
              obtain ⟨wo, gwo⟩ : ∃ z, wr = z := ⟨_, rfl⟩
              rw [gwo] at HZ H9 HM ⊢
              clear gwo
              have cb := H9.out.cell (i := 0) rfl
              by_cases hjn : j < n
              · obtain ⟨v, hv⟩ : ∃ v, Vs[j]? = some v := ⟨_, List.getElem?_eq_getElem (by have := Hlv.out; omega)⟩
                obtain ⟨u, hu, huv⟩ : ∃ u, Us[j]? = some u ∧ vS u = vS v := by
                  have h1 : (Us.map vS)[j]? = some (vS v) := by
                    rw [HU.out, List.getElem?_append_right (by simp; omega)]
                    simp only [List.length_map, List.length_take]
                    rw [show j - min j Vs.length = 0 by have := Hlv.out; omega, List.getElem?_map, List.getElem?_drop, Nat.add_zero, hv]
                    rfl
                  rw [List.getElem?_map] at h1
                  cases hq : Us[j]? with
                  | none => rw [hq] at h1; cases h1
                  | some y => rw [hq] at h1; exact ⟨y, rfl, Option.some.inj h1⟩
                have hul : u.2.1.2.2.2 = v.2.1.2.2.2 := congrArg (fun s : (Int × Int) × List D × ByteArray × Int => s.2.1) huv
                have hrn : u.2.1.2.1 ≤ 80 := by
                  have h1 := (HDd.out.r v (List.mem_of_getElem? hv)).2.dlen
                  have h2 := Hsm.out.2.2 v (List.mem_of_getElem? hv)
                  have h3 := (HM.out.r u (List.mem_of_getElem? hu)).2.dlen
                  rw [hul] at h3
                  omega
                have hset : ∀ (R : Rg), R.2.2.2 = insX (decide (u.1 = (y1, y2))) 1 (insX (decide (u.1 = (x1, x2))) 0 u.2.1.2.2.2) → (Us.set j (u.1, R, u.2.2)).map vS = (Vs.take (j + 1)).map (gN (x1, x2) (y1, y2)) ++ (Vs.drop (j + 1)).map vS := fun R hR => by
                  rw [List.map_set, HU.out]
                  have e : vS (u.1, R, u.2.2) = gN (x1, x2) (y1, y2) v := by
                    have q1 : u.1 = v.1 := congrArg (fun s : (Int × Int) × List D × ByteArray × Int => s.1) huv
                    have q3 : u.2.2.1 = v.2.2.1 := congrArg (fun s : (Int × Int) × List D × ByteArray × Int => s.2.2.1) huv
                    have q4 : u.2.2.2 = v.2.2.2 := congrArg (fun s : (Int × Int) × List D × ByteArray × Int => s.2.2.2) huv
                    show (u.1, R.2.2.2, u.2.2.1, u.2.2.2) = _
                    rw [hR, q1, q3, q4, hul]
                    rfl
                  rw [e]
                  exact half_set (gN (x1, x2) (y1, y2)) vS hv
                obtain ⟨⟨i1, i2⟩, ⟨rA, rn, rc, rL⟩, lb, at_⟩ := u
                have HSet : RowKit.Hid (∀ (A9 : Option Addr) (n9 c9 : Nat) (L9 : List D), L9 = insX (decide (((i1, i2) : I2) = (y1, y2))) 1 (insX (decide (((i1, i2) : I2) = (x1, x2))) 0 rL) → (Us.set j ((i1, i2), (A9, n9, c9, L9), lb, at_)).map vS = (Vs.take (j + 1)).map (gN (x1, x2) (y1, y2)) ++ (Vs.drop (j + 1)).map vS) := Lib.hid (fun A9 n9 c9 L9 h => hset (A9, n9, c9, L9) h)
                replace hrn : rn ≤ 80 := hrn
                obtain ⟨gm, eA2, hlo, -, hc, hf, -⟩ := HM.out.put hu hjn (rA, rn, rc, rL) (HM.out.r _ (List.mem_of_getElem? hu))
                subst eA2
                have hex := eq_id i1 i2 x1 x2
                have hey := eq_id i1 i2 y1 y2
                have hdx : (i1 == x1 && i2 == x2) = decide (((i1, i2) : I2) = (x1, x2)) := by
                  by_cases h1 : i1 = x1 <;> by_cases h2 : i2 = x2 <;> simp [h1, h2]
                have hdy : (i1 == y1 && i2 == y2) = decide (((i1, i2) : I2) = (y1, y2)) := by
                  by_cases h1 : i1 = y1 <;> by_cases h2 : i2 = y2 <;> simp [h1, h2]
                obtain ⟨tx, gtx⟩ : ∃ z, decide (((i1, i2) : I2) = (x1, x2)) = z := ⟨_, rfl⟩
                obtain ⟨ty, gty⟩ : ∃ z, decide (((i1, i2) : I2) = (y1, y2)) = z := ⟨_, rfl⟩
                rw [hdx, gtx] at hex
                rw [hdy, gty] at hey
                rw [gtx, gty] at HSet
                have HId : RowKit.Hid (∀ (W : World) (Uq : List VC) (R : Rg), Wro W v31.heap.size (some ⟨gm, 0, none⟩) n c2 Uq B3 (m + 1) k3 (Es ++ [eN]) → Uq[j]? = some ((i1, i2), R, lb, at_) → W.cell? ⟨gm, j * 5, none⟩ = some (.int .i64 i1) ∧ W.cell? ⟨gm, j * 5 + 1, none⟩ = some (.int .i64 i2)) := Lib.hid (fun W Uq R hm hq => by
                  have h0 := (own_rds hm.v).elem vC_len hq 0 _ rfl
                  have h1 := (own_rds hm.v).elem vC_len hq 1 _ rfl
                  simp only [Addr.add_lit, Nat.add_zero, Nat.zero_add] at h0 h1
                  exact ⟨h0, h1⟩)
                have Hlo : RowKit.Hid (v31.heap.size ≤ gm) := Lib.hid hlo
                have HRi : RowKit.Hid (∀ (sd : Int) A9 n9 c9 (L9 : List D) W, RdS W W.heap.size 3 A9 n9 c9 (dartsV L9) → n9 ≤ 100 → Calls Try.prog 34 #[.slice A9 n9 c9, .agg #[.int .i64 0, .int .i64 0, .int .i64 0], .agg #[.int .i64 8, .int .i64 1048576, .int .i64 sd]] W (GivesC W (turnD (insR L9 (0, 0, 0) (8, 1048576, sd))))) := Lib.hid (fun sd A9 n9 c9 L9 W h hn9 => rfinsertc_any A9 n9 c9 L9 (0, 0, 0) (8, 1048576, sd) W h (by omega))
                have Hu := Lib.hid hu
                clear hv hu huv hul hset hc hf HU hdx hdy gtx gty hlo
                obtain ⟨n0, n1_⟩ := HId.out wo Us _ HM.out Hu.out
                have HXxo := Lib.hid (HXx.out.bl HZ.out)
                go_upto_region 14 with fail
                clear cb
                have ld0 : ∀ w', Kept Nil_ wo.drew w' → w'.cell? ⟨b9, 0, none⟩ = some (.slice (some ⟨gm, 0, none⟩) n c2) := fun w' h => h.nil_cell (H9.out.dr.cell (i := 0) rfl)
                have ld1 : ∀ w', Kept Nil_ wo.drew w' → w'.cell? ⟨gm, j * 5, none⟩ = some (.int .i64 i1) := fun w' h => h.nil_cell (show wo.drew.cell? _ = _ from n0)
                have ld2 : ∀ w', Kept Nil_ wo.drew w' → w'.cell? ⟨gm, j * 5 + 1, none⟩ = some (.int .i64 i2) := fun w' h => h.nil_cell (show wo.drew.cell? _ = _ from n1_)
                have ld3 : ∀ w', Kept Nil_ wo.drew w' → w'.cell? ⟨w.heap.size + 1, 0, none⟩ = some (.int .i64 x1) := fun w' h => h.nil_cell (HXxo.out.dr.cell (i := 0) rfl)
                have ld4 : ∀ w', Kept Nil_ wo.drew w' → w'.cell? ⟨w.heap.size + 1, 1, none⟩ = some (.int .i64 x2) := fun w' h => h.nil_cell (HXxo.out.dr.cell (i := 1) rfl)
                refine wp_region_reg (Nil_) (by kernel_rfl) ?_
                apply wpR_next 0 (some 78)
                · simp only [List.getElem?_toArray, List.getElem?_cons_succ, List.getElem?_cons_zero]; exact rfl
                · rfl
                · kernel_rfl
                · kernel_rfl
                · kernel_rfl
                · exact fun _ _ _ _ h => h
                apply Exists.intro
                apply And.intro
                · apply yr_run; rfl; intro w' hw'; go_simp; (try with_reducible rfl)
                simp only [Act.put, List.setIfInBounds_toArray, List.set_cons_zero, List.set_cons_succ]
                apply wpR_next 1 (some 79)
                · simp only [List.getElem?_toArray, List.getElem?_cons_succ, List.getElem?_cons_zero]; exact rfl
                · rfl
                · kernel_rfl
                · kernel_rfl
                · kernel_rfl
                · exact fun _ _ _ _ h => h
                apply Exists.intro
                apply And.intro
                · apply yr_run; rfl; intro w' hw'; go_simp; (try with_reducible rfl)
                simp only [Act.put, List.setIfInBounds_toArray, List.set_cons_zero, List.set_cons_succ]
                apply wpR_next 2 (some 80)
                · simp only [List.getElem?_toArray, List.getElem?_cons_succ, List.getElem?_cons_zero]; exact rfl
                · rfl
                · kernel_rfl
                · kernel_rfl
                · kernel_rfl
                · exact fun _ _ _ _ h => h
                apply Exists.intro
                apply And.intro
                · apply yr_run; rfl; intro w' hw'; go_simp; (try with_reducible rfl)
                simp only [Act.put, List.setIfInBounds_toArray, List.set_cons_zero, List.set_cons_succ]
                apply wpR_next 3 (some 81)
                · simp only [List.getElem?_toArray, List.getElem?_cons_succ, List.getElem?_cons_zero]; exact rfl
                · rfl
                · kernel_rfl
                · kernel_rfl
                · kernel_rfl
                · exact fun _ _ _ _ h => h
                apply Exists.intro
                apply And.intro
                · apply yr_run; rfl; intro w' hw'; go_simp; (try with_reducible rfl)
                simp only [Act.put, List.setIfInBounds_toArray, List.set_cons_zero, List.set_cons_succ]
                apply wpR_next 4 (some 82)
                · simp only [List.getElem?_toArray, List.getElem?_cons_succ, List.getElem?_cons_zero]; exact rfl
                · rfl
                · kernel_rfl
                · kernel_rfl
                · kernel_rfl
                · exact fun _ _ _ _ h => h
                apply Exists.intro
                apply And.intro
                · apply yr_run; rfl; intro w' hw'; go_simp; (try with_reducible rfl)
                simp only [Act.put, List.setIfInBounds_toArray, List.set_cons_zero, List.set_cons_succ]
                apply wpR_next 5 (some 83)
                · simp only [List.getElem?_toArray, List.getElem?_cons_succ, List.getElem?_cons_zero]; exact rfl
                · rfl
                · kernel_rfl
                · kernel_rfl
                · kernel_rfl
                · exact fun _ _ _ _ h => h
                apply Exists.intro
                apply And.intro
                · apply yr_run; rfl; intro w' hw'; go_simp; (try with_reducible rfl)
                simp only [Act.put, List.setIfInBounds_toArray, List.set_cons_zero, List.set_cons_succ]
                apply wpR_next 6 (some 84)
                · simp only [List.getElem?_toArray, List.getElem?_cons_succ, List.getElem?_cons_zero]; exact rfl
                · rfl
                · kernel_rfl
                · kernel_rfl
                · kernel_rfl
                · exact fun _ _ _ _ h => h
                apply Exists.intro
                apply And.intro
                · apply yr_run; rfl; intro w' hw'; go_simp; (try with_reducible rfl)
                simp only [Act.put, List.setIfInBounds_toArray, List.set_cons_zero, List.set_cons_succ]
                apply wpR_next 7 (some 85)
                · simp only [List.getElem?_toArray, List.getElem?_cons_succ, List.getElem?_cons_zero]; exact rfl
                · rfl
                · kernel_rfl
                · kernel_rfl
                · kernel_rfl
                · exact fun _ _ _ _ h => h
                apply Exists.intro
                apply And.intro
                · exact yr_run (by rfl) (fun w' hw' => exec_binop_agg .eql 27 (.tmp 83) (.tmp 84) 27 rfl rfl rfl (by kernel_rfl) (hex w'))
                simp only [Act.put, List.setIfInBounds_toArray, List.set_cons_zero, List.set_cons_succ]
                refine wpR_done (by kernel_rfl) ?_ _
                intro wq hwq
                have HZq := Lib.hid (bel_bl (bel_dr HZ.out) hwq)
                have H9q := Lib.hid (H9.out.dr.bl hwq)
                have HMq := Lib.hid (HM.out.dr.bl hwq)
                clear hwq ld0 ld1 ld2 ld3 ld4 n0 n1_ HXxo HZ H9 HM
                cases tx with
                | true =>
                  obtain ⟨Uq, gUq⟩ : ∃ z, Us = z := ⟨_, rfl⟩
                  have huq : Uq[j]? = some ((i1, i2), (rA, rn, rc, rL), lb, at_) := by rw [← gUq]; exact Hu.out
                  rw [gUq] at HMq
                  obtain ⟨gp, ep, -, -, hcp, -, -⟩ := HMq.out.put huq hjn (rA, rn, rc, rL) (HMq.out.r _ (List.mem_of_getElem? huq))
                  obtain rfl : gm = gp := by
                    injection ep with ep
                    injection ep
                  replace hcp : wq.cell? ⟨gm, j * 5 + 2, none⟩ = some (.slice rA rn rc) := hcp
                  have HRq : RowKit.Hid (RdS wq.drew wq.drew.heap.size 3 rA rn rc (dartsV rL)) := Lib.hid (HMq.out.r _ (List.mem_of_getElem? huq)).2.dr
                  have Hrl : RowKit.Hid (rL.length ≤ 80) := Lib.hid (by have := HRq.out.dlen; omega)
                  have HRm : RowKit.Hid (∀ W, RdS W W.heap.size 3 rA rn rc (dartsV rL) → Calls Try.prog 34 #[.slice rA rn rc, .agg #[.int .i64 0, .int .i64 0, .int .i64 0], .agg #[.int .i64 8, .int .i64 1048576, .int .i64 0]] W (GivesC W (turnD (insR rL (0, 0, 0) (8, 1048576, 0))))) := Lib.hid (fun W h => HRi.out 0 rA rn rc rL W h (by omega))
                  obtain ⟨L9, gL9⟩ : ∃ z, turnD (insR rL (0, 0, 0) (8, 1048576, 0)) = z := ⟨_, rfl⟩
                  have HLd : RowKit.Hid (insX true 0 rL = L9) := Lib.hid gL9
                  rw [gL9] at HRm
                  have HXno := Lib.hid (HXn.out.bl HZq.out)
                  clear gL9 ep
                  go_upto_region 15 with fail
                  have ld0 : ∀ w', Kept Nil_ wq.drew w' → w'.cell? ⟨b9, 0, none⟩ = some (.slice (some ⟨gm, 0, none⟩) n c2) := fun w' h => h.nil_cell (H9q.out.dr.cell (i := 0) rfl)
                  have ld1 : ∀ w', Kept Nil_ wq.drew w' → w'.cell? ⟨gm, j * 5 + 2, none⟩ = some (.slice rA rn rc) := fun w' h => h.nil_cell (show wq.drew.cell? _ = _ from hcp)
                  have ld2 : ∀ w', Kept Nil_ wq.drew w' → w'.cell? ⟨bN, 0, none⟩ = some (.int .i64 8) := fun w' h => h.nil_cell (HXno.out.dr.cell (i := 0) rfl)
                  have ld3 : ∀ w', Kept Nil_ wq.drew w' → w'.cell? ⟨bN, 1, none⟩ = some (.int .i64 1048576) := fun w' h => h.nil_cell (HXno.out.dr.cell (i := 1) rfl)
                  clear hcp HXno
                  refine wp_region_tail (Nil_) [15] (by kernel_rfl) ?_
                  apply wpT_next 0 (some 86) (by kernel_rfl)
                  · simp only [List.getElem?_toArray, List.getElem?_cons_succ, List.getElem?_cons_zero]; exact rfl
                  · rfl
                  · kernel_rfl
                  · kernel_rfl
                  · kernel_rfl
                  · exact fun _ _ _ _ h => h
                  apply Exists.intro
                  apply And.intro
                  · apply yr_run; rfl; intro w' hw'; go_simp; (try with_reducible rfl)
                  simp only [Act.put, List.setIfInBounds_toArray, List.set_cons_zero, List.set_cons_succ]
                  apply wpT_next 1 (some 87) (by kernel_rfl)
                  · simp only [List.getElem?_toArray, List.getElem?_cons_succ, List.getElem?_cons_zero]; exact rfl
                  · rfl
                  · kernel_rfl
                  · kernel_rfl
                  · kernel_rfl
                  · exact fun _ _ _ _ h => h
                  apply Exists.intro
                  apply And.intro
                  · apply yr_run; rfl; intro w' hw'; go_simp; (try with_reducible rfl)
                  simp only [Act.put, List.setIfInBounds_toArray, List.set_cons_zero, List.set_cons_succ]
                  apply wpT_next 2 (some 88) (by kernel_rfl)
                  · simp only [List.getElem?_toArray, List.getElem?_cons_succ, List.getElem?_cons_zero]; exact rfl
                  · rfl
                  · kernel_rfl
                  · kernel_rfl
                  · kernel_rfl
                  · exact fun _ _ _ _ h => h
                  apply Exists.intro
                  apply And.intro
                  · apply yr_run; rfl; intro w' hw'; go_simp; (try with_reducible rfl)
                  simp only [Act.put, List.setIfInBounds_toArray, List.set_cons_zero, List.set_cons_succ]
                  apply wpT_next 3 (some 89) (by kernel_rfl)
                  · simp only [List.getElem?_toArray, List.getElem?_cons_succ, List.getElem?_cons_zero]; exact rfl
                  · rfl
                  · kernel_rfl
                  · kernel_rfl
                  · kernel_rfl
                  · exact fun _ _ _ _ h => h
                  apply Exists.intro
                  apply And.intro
                  · apply yr_run; rfl; intro w' hw'; go_simp; (try with_reducible rfl)
                  simp only [Act.put, List.setIfInBounds_toArray, List.set_cons_zero, List.set_cons_succ]
                  apply wpT_next 4 (some 90) (by kernel_rfl)
                  · simp only [List.getElem?_toArray, List.getElem?_cons_succ, List.getElem?_cons_zero]; exact rfl
                  · rfl
                  · kernel_rfl
                  · kernel_rfl
                  · kernel_rfl
                  · exact fun _ _ _ _ h => h
                  apply Exists.intro
                  apply And.intro
                  · apply yr_run; rfl; intro w' hw'; go_simp; (try with_reducible rfl)
                  simp only [Act.put, List.setIfInBounds_toArray, List.set_cons_zero, List.set_cons_succ]
                  apply wpT_next 5 (some 91) (by kernel_rfl)
                  · simp only [List.getElem?_toArray, List.getElem?_cons_succ, List.getElem?_cons_zero]; exact rfl
                  · rfl
                  · kernel_rfl
                  · kernel_rfl
                  · kernel_rfl
                  · exact fun _ _ _ _ h => h
                  apply Exists.intro
                  apply And.intro
                  · apply yr_run; rfl; intro w' hw'; go_simp; (try with_reducible rfl)
                  simp only [Act.put, List.setIfInBounds_toArray, List.set_cons_zero, List.set_cons_succ]
                  apply wpT_next 6 (some 92) (by kernel_rfl)
                  · simp only [List.getElem?_toArray, List.getElem?_cons_succ, List.getElem?_cons_zero]; exact rfl
                  · rfl
                  · kernel_rfl
                  · kernel_rfl
                  · kernel_rfl
                  · exact fun _ _ _ _ h => h
                  apply Exists.intro
                  apply And.intro
                  · apply yr_run; rfl; intro w' hw'; go_simp; (try with_reducible rfl)
                  simp only [Act.put, List.setIfInBounds_toArray, List.set_cons_zero, List.set_cons_succ]
                  apply wpT_next 7 (some 93) (by kernel_rfl)
                  · simp only [List.getElem?_toArray, List.getElem?_cons_succ, List.getElem?_cons_zero]; exact rfl
                  · rfl
                  · kernel_rfl
                  · kernel_rfl
                  · kernel_rfl
                  · exact fun _ _ _ _ h => h
                  apply Exists.intro
                  apply And.intro
                  · apply yr_run; rfl; intro w' hw'; go_simp; (try with_reducible rfl)
                  simp only [Act.put, List.setIfInBounds_toArray, List.set_cons_zero, List.set_cons_succ]
                  apply wpT_next 8 (some 94) (by kernel_rfl)
                  · simp only [List.getElem?_toArray, List.getElem?_cons_succ, List.getElem?_cons_zero]; exact rfl
                  · rfl
                  · kernel_rfl
                  · kernel_rfl
                  · kernel_rfl
                  · exact fun _ _ _ _ h => h
                  apply Exists.intro
                  apply And.intro
                  · apply yr_run; rfl; intro w' hw'; go_simp; (try with_reducible rfl)
                  simp only [Act.put, List.setIfInBounds_toArray, List.set_cons_zero, List.set_cons_succ]
                  apply wpT_next 9 (some 95) (by kernel_rfl)
                  · simp only [List.getElem?_toArray, List.getElem?_cons_succ, List.getElem?_cons_zero]; exact rfl
                  · rfl
                  · kernel_rfl
                  · kernel_rfl
                  · kernel_rfl
                  · exact fun _ _ _ _ h => h
                  apply Exists.intro
                  apply And.intro
                  · apply yr_run; rfl; intro w' hw'; go_simp; (try with_reducible rfl)
                  simp only [Act.put, List.setIfInBounds_toArray, List.set_cons_zero, List.set_cons_succ]
                  apply wpT_next 10 (some 96) (by kernel_rfl)
                  · simp only [List.getElem?_toArray, List.getElem?_cons_succ, List.getElem?_cons_zero]; exact rfl
                  · rfl
                  · kernel_rfl
                  · kernel_rfl
                  · kernel_rfl
                  · exact fun _ _ _ _ h => h
                  apply Exists.intro
                  apply And.intro
                  · apply yr_run; rfl; intro w' hw'; go_simp; (try with_reducible rfl)
                  simp only [Act.put, List.setIfInBounds_toArray, List.set_cons_zero, List.set_cons_succ]
                  apply wpT_next 11 (some 97) (by kernel_rfl)
                  · simp only [List.getElem?_toArray, List.getElem?_cons_succ, List.getElem?_cons_zero]; exact rfl
                  · rfl
                  · kernel_rfl
                  · kernel_rfl
                  · kernel_rfl
                  · exact fun _ _ _ _ h => h
                  apply Exists.intro
                  apply And.intro
                  · apply yr_run; rfl; intro w' hw'; go_simp; (try with_reducible rfl)
                  simp only [Act.put, List.setIfInBounds_toArray, List.set_cons_zero, List.set_cons_succ]
                  apply wpT_call 12 (some 98)
                  · simp only [List.getElem?_toArray, List.getElem?_cons_succ, List.getElem?_cons_zero]; exact rfl
                  · rfl
                  · kernel_rfl
                  · rfl
                  · intro w'; go_simp; first | done | exact ⟨rfl, rfl⟩ | with_reducible rfl
                  intro w' hw'
                  refine (HRm.out w' (HRq.out.bl hw')).mono ?_
                  rintro e w9 ⟨A9, c9, rfl, hr9, hb9, hc9⟩
                  refine ⟨_, rfl, Kept.of_below hb9, ?_⟩
                  have H99 := Lib.hid ((H9q.out.dr.bl hw').bl hb9)
                  have HM9 := Lib.hid ((HMq.out.dr.bl hw').bl hb9)
                  have HZ9 := Lib.hid (bel_bl (bel_bl (bel_dr HZq.out) hw') hb9)
                  have HR9 : RowKit.Hid (RgOk w9 (A9, L9.length, c9, L9)) := Lib.hid ⟨hc9, hr9⟩
                  obtain ⟨V9, gV9⟩ : ∃ z, w9 = z := ⟨_, rfl⟩
                  rw [gV9] at H99 HM9 HZ9 HR9 ⊢
                  clear hw' hr9 hb9 hc9 gV9 ld0 ld1 ld2 ld3 HRm HRq H9q HMq HZq
                  simp only [Act.put, List.setIfInBounds_toArray, List.set_cons_zero, List.set_cons_succ]
                  apply wpT_run 13 (some 99)
                  · simp only [List.getElem?_toArray, List.getElem?_cons_succ, List.getElem?_cons_zero]; exact rfl
                  · rfl
                  · kernel_rfl
                  · rfl
                  intro w' hw'
                  apply Exists.intro
                  apply Exists.intro
                  apply And.intro
                  · go_simp; first | done | exact ⟨rfl, rfl⟩ | exact rfl
                  apply And.intro
                  · exact Kept.refl _ _
                  have hpd13 := hw'
                  clear hw'
                  simp only [Act.put, List.setIfInBounds_toArray, List.set_cons_zero, List.set_cons_succ]
                  apply wpT_next 14 (some 100) (by kernel_rfl)
                  · simp only [List.getElem?_toArray, List.getElem?_cons_succ, List.getElem?_cons_zero]; exact rfl
                  · rfl
                  · kernel_rfl
                  · kernel_rfl
                  · kernel_rfl
                  · exact fun _ _ _ _ h => h
                  apply Exists.intro
                  apply And.intro
                  · apply yr_run; rfl; intro w' hw'; go_simp; (try with_reducible rfl)
                  simp only [Act.put, List.setIfInBounds_toArray, List.set_cons_zero, List.set_cons_succ]
                  apply wpT_last 15
                  · simp only [List.getElem?_toArray, List.getElem?_cons_succ, List.getElem?_cons_zero]; exact rfl
                  · rfl
                  · kernel_rfl
                  · rfl
                  · decide
                  intro w' hw'
                  replace hw' := Ext.trans hpd13 hw'
                  clear hpd13
                  obtain ⟨gq, eq, hloq, ⟨csq, hwq⟩, hcq, hfq, hMq⟩ := (HM9.out.bl hw').put huq hjn (A9, L9.length, c9, L9) (HR9.out.bl hw')
                  obtain rfl : gm = gq := by
                    injection eq with eq
                    injection eq
                  replace hcq : w'.cell? ⟨gm, j * 5 + 2, none⟩ = some (.slice rA rn rc) := hcq
                  refine ⟨w'.setCell ⟨gm, j * 5 + 2, none⟩ (.slice A9 L9.length c9), by (go_simp; first | done | exact rfl | exact ⟨rfl, rfl⟩), ?_⟩
                  have HMs : RowKit.Hid (Wro (w'.setCell ⟨gm, j * 5 + 2, none⟩ (.slice A9 L9.length c9)) v31.heap.size (some ⟨gm, 0, none⟩) n c2 (Uq.set j ((i1, i2), (A9, L9.length, c9, L9), lb, at_)) B3 (m + 1) k3 (Es ++ [eN])) := Lib.hid hMq
                  have H9s := Lib.hid ((H99.out.bl hw').set_far' (i := j * 5 + 2) ((H99.out.bl hw').ne_ hwq (by decide)) (.slice A9 L9.length c9))
                  have HZs := Lib.hid ((bel_bl HZ9.out hw').setCell (p := ⟨gm, j * 5 + 2, none⟩) Hlo.out (.slice A9 L9.length c9))
                  obtain ⟨W7, gW7⟩ : ∃ z, w'.setCell ⟨gm, j * 5 + 2, none⟩ (.slice A9 L9.length c9) = z := ⟨_, rfl⟩
                  rw [gW7] at HMs H9s HZs ⊢
                  clear hw' eq hloq hwq hcq hfq hMq gW7 H99 HM9 HZ9 HR9
                  try simp only [Act.put, List.setIfInBounds_toArray, List.set_cons_zero, List.set_cons_succ]
                  refine wpT_done (by kernel_rfl) ?_ _
                  intro W8 hw8
                  have HZ8 := Lib.hid (bel_bl HZs.out hw8)
                  have H98 := Lib.hid (H9s.out.bl hw8)
                  have HM8 := Lib.hid (HMs.out.bl hw8)
                  clear hw8 HZs H9s HMs
                  obtain ⟨Uz, gUz⟩ : ∃ z, Uq.set j ((i1, i2), (A9, L9.length, c9, L9), lb, at_) = z := ⟨_, rfl⟩
                  have huz : Uz[j]? = some ((i1, i2), (A9, L9.length, c9, L9), lb, at_) := by
                    rw [← gUz, List.getElem?_set, if_pos rfl, if_pos (List.getElem?_eq_some_iff.1 huq).1]
                  have HUz : RowKit.Hid (∀ z, Uz.set j z = Us.set j z) := Lib.hid (fun z => by rw [← gUz, List.set_set, gUq])
                  have HL9 : RowKit.Hid (L9 = insX true 0 rL) := Lib.hid HLd.out.symm
                  have hl9 : L9.length ≤ 81 := by
                    rw [HL9.out]
                    have h1 := insX_len true 0 rL
                    have h2 := Hrl.out
                    omega
                  rw [gUz] at HM8
                  clear gUz huq gUq HLd Hrl
                  obtain ⟨qn, gqn⟩ : ∃ z, L9.length = z := ⟨_, rfl⟩
                  rw [gqn] at huz hl9
                  clear gqn
                  obtain ⟨wq, gwq⟩ : ∃ z, W8 = z := ⟨_, rfl⟩
                  rw [gwq] at HZ8 H98 HM8 ⊢
                  clear gwq
                  have HZq := HZ8
                  have H9q := H98
                  have HMq := HM8
                  clear HZ8 H98 HM8
                  obtain ⟨qA, gqA⟩ : ∃ z, A9 = z := ⟨_, rfl⟩
                  obtain ⟨qc, gqc⟩ : ∃ z, c9 = z := ⟨_, rfl⟩
                  obtain ⟨qL, gqL⟩ : ∃ z, L9 = z := ⟨_, rfl⟩
                  rw [gqA, gqc, gqL] at huz
                  rw [gqL] at HL9
                  clear gqA gqc gqL
                  obtain ⟨tx, gtx⟩ : ∃ z, true = z := ⟨_, rfl⟩
                  rw [gtx] at HL9 HSet
                  clear gtx
                  obtain ⟨n0, n1_⟩ := HId.out wq Uz _ HMq.out huz
                  have HXyo := Lib.hid (HXy.out.bl HZq.out)
                  go_upto_region 16 with fail
                  have ld0 : ∀ w', Kept Nil_ wq.drew w' → w'.cell? ⟨b9, 0, none⟩ = some (.slice (some ⟨gm, 0, none⟩) n c2) := fun w' h => h.nil_cell (H9q.out.dr.cell (i := 0) rfl)
                  have ld1 : ∀ w', Kept Nil_ wq.drew w' → w'.cell? ⟨gm, j * 5, none⟩ = some (.int .i64 i1) := fun w' h => h.nil_cell (show wq.drew.cell? _ = _ from n0)
                  have ld2 : ∀ w', Kept Nil_ wq.drew w' → w'.cell? ⟨gm, j * 5 + 1, none⟩ = some (.int .i64 i2) := fun w' h => h.nil_cell (show wq.drew.cell? _ = _ from n1_)
                  have ld3 : ∀ w', Kept Nil_ wq.drew w' → w'.cell? ⟨w.heap.size + 2, 0, none⟩ = some (.int .i64 y1) := fun w' h => h.nil_cell (HXyo.out.dr.cell (i := 0) rfl)
                  have ld4 : ∀ w', Kept Nil_ wq.drew w' → w'.cell? ⟨w.heap.size + 2, 1, none⟩ = some (.int .i64 y2) := fun w' h => h.nil_cell (HXyo.out.dr.cell (i := 1) rfl)
                  refine wp_region_reg (Nil_) (by kernel_rfl) ?_
                  apply wpR_next 0 (some 101)
                  · simp only [List.getElem?_toArray, List.getElem?_cons_succ, List.getElem?_cons_zero]; exact rfl
                  · rfl
                  · kernel_rfl
                  · kernel_rfl
                  · kernel_rfl
                  · exact fun _ _ _ _ h => h
                  apply Exists.intro
                  apply And.intro
                  · apply yr_run; rfl; intro w' hw'; go_simp; (try with_reducible rfl)
                  simp only [Act.put, List.setIfInBounds_toArray, List.set_cons_zero, List.set_cons_succ]
                  apply wpR_next 1 (some 102)
                  · simp only [List.getElem?_toArray, List.getElem?_cons_succ, List.getElem?_cons_zero]; exact rfl
                  · rfl
                  · kernel_rfl
                  · kernel_rfl
                  · kernel_rfl
                  · exact fun _ _ _ _ h => h
                  apply Exists.intro
                  apply And.intro
                  · apply yr_run; rfl; intro w' hw'; go_simp; (try with_reducible rfl)
                  simp only [Act.put, List.setIfInBounds_toArray, List.set_cons_zero, List.set_cons_succ]
                  apply wpR_next 2 (some 103)
                  · simp only [List.getElem?_toArray, List.getElem?_cons_succ, List.getElem?_cons_zero]; exact rfl
                  · rfl
                  · kernel_rfl
                  · kernel_rfl
                  · kernel_rfl
                  · exact fun _ _ _ _ h => h
                  apply Exists.intro
                  apply And.intro
                  · apply yr_run; rfl; intro w' hw'; go_simp; (try with_reducible rfl)
                  simp only [Act.put, List.setIfInBounds_toArray, List.set_cons_zero, List.set_cons_succ]
                  apply wpR_next 3 (some 104)
                  · simp only [List.getElem?_toArray, List.getElem?_cons_succ, List.getElem?_cons_zero]; exact rfl
                  · rfl
                  · kernel_rfl
                  · kernel_rfl
                  · kernel_rfl
                  · exact fun _ _ _ _ h => h
                  apply Exists.intro
                  apply And.intro
                  · apply yr_run; rfl; intro w' hw'; go_simp; (try with_reducible rfl)
                  simp only [Act.put, List.setIfInBounds_toArray, List.set_cons_zero, List.set_cons_succ]
                  apply wpR_next 4 (some 105)
                  · simp only [List.getElem?_toArray, List.getElem?_cons_succ, List.getElem?_cons_zero]; exact rfl
                  · rfl
                  · kernel_rfl
                  · kernel_rfl
                  · kernel_rfl
                  · exact fun _ _ _ _ h => h
                  apply Exists.intro
                  apply And.intro
                  · apply yr_run; rfl; intro w' hw'; go_simp; (try with_reducible rfl)
                  simp only [Act.put, List.setIfInBounds_toArray, List.set_cons_zero, List.set_cons_succ]
                  apply wpR_next 5 (some 106)
                  · simp only [List.getElem?_toArray, List.getElem?_cons_succ, List.getElem?_cons_zero]; exact rfl
                  · rfl
                  · kernel_rfl
                  · kernel_rfl
                  · kernel_rfl
                  · exact fun _ _ _ _ h => h
                  apply Exists.intro
                  apply And.intro
                  · apply yr_run; rfl; intro w' hw'; go_simp; (try with_reducible rfl)
                  simp only [Act.put, List.setIfInBounds_toArray, List.set_cons_zero, List.set_cons_succ]
                  apply wpR_next 6 (some 107)
                  · simp only [List.getElem?_toArray, List.getElem?_cons_succ, List.getElem?_cons_zero]; exact rfl
                  · rfl
                  · kernel_rfl
                  · kernel_rfl
                  · kernel_rfl
                  · exact fun _ _ _ _ h => h
                  apply Exists.intro
                  apply And.intro
                  · apply yr_run; rfl; intro w' hw'; go_simp; (try with_reducible rfl)
                  simp only [Act.put, List.setIfInBounds_toArray, List.set_cons_zero, List.set_cons_succ]
                  apply wpR_next 7 (some 108)
                  · simp only [List.getElem?_toArray, List.getElem?_cons_succ, List.getElem?_cons_zero]; exact rfl
                  · rfl
                  · kernel_rfl
                  · kernel_rfl
                  · kernel_rfl
                  · exact fun _ _ _ _ h => h
                  apply Exists.intro
                  apply And.intro
                  · exact yr_run (by rfl) (fun w' hw' => exec_binop_agg .eql 27 (.tmp 106) (.tmp 107) 27 rfl rfl rfl (by kernel_rfl) (hey w'))
                  simp only [Act.put, List.setIfInBounds_toArray, List.set_cons_zero, List.set_cons_succ]
                  refine wpR_done (by kernel_rfl) ?_ _
                  intro wp hwp
                  have HZp := Lib.hid (bel_bl (bel_dr HZq.out) hwp)
                  have H9p := Lib.hid (H9q.out.dr.bl hwp)
                  have HMp := Lib.hid (HMq.out.dr.bl hwp)
                  clear hwp ld0 ld1 ld2 ld3 ld4 n0 n1_ HXyo HZq H9q HMq
                  obtain ⟨wq, gwq⟩ : ∃ z, wp = z := ⟨_, rfl⟩
                  rw [gwq] at HZp H9p HMp ⊢
                  clear gwq
                  have HZq := HZp
                  have H9q := H9p
                  have HMq := HMp
                  clear HZp H9p HMp
                  cases ty with
                  | true =>
                    obtain ⟨Uq, gUq⟩ : ∃ z, Uz = z := ⟨_, rfl⟩
                    have huq : Uq[j]? = some ((i1, i2), (qA, qn, qc, qL), lb, at_) := by rw [← gUq]; exact huz
                    rw [gUq] at HMq
                    obtain ⟨gp, ep, -, -, hcp, -, -⟩ := HMq.out.put huq hjn (qA, qn, qc, qL) (HMq.out.r _ (List.mem_of_getElem? huq))
                    obtain rfl : gm = gp := by
                      injection ep with ep
                      injection ep
                    replace hcp : wq.cell? ⟨gm, j * 5 + 2, none⟩ = some (.slice qA qn qc) := hcp
                    have HRq : RowKit.Hid (RdS wq.drew wq.drew.heap.size 3 qA qn qc (dartsV qL)) := Lib.hid (HMq.out.r _ (List.mem_of_getElem? huq)).2.dr
                    have Hrl : RowKit.Hid (qL.length ≤ 82) := Lib.hid (by have := HRq.out.dlen; omega)
                    have HRm : RowKit.Hid (∀ W, RdS W W.heap.size 3 qA qn qc (dartsV qL) → Calls Try.prog 34 #[.slice qA qn qc, .agg #[.int .i64 0, .int .i64 0, .int .i64 0], .agg #[.int .i64 8, .int .i64 1048576, .int .i64 1]] W (GivesC W (turnD (insR qL (0, 0, 0) (8, 1048576, 1))))) := Lib.hid (fun W h => HRi.out 1 qA qn qc qL W h (by omega))
                    obtain ⟨L9, gL9⟩ : ∃ z, turnD (insR qL (0, 0, 0) (8, 1048576, 1)) = z := ⟨_, rfl⟩
                    have HLd : RowKit.Hid (insX true 1 qL = L9) := Lib.hid gL9
                    rw [gL9] at HRm
                    have HXno := Lib.hid (HXn.out.bl HZq.out)
                    clear gL9 ep
                    go_upto_region 17 with fail
                    have ld0 : ∀ w', Kept Nil_ wq.drew w' → w'.cell? ⟨b9, 0, none⟩ = some (.slice (some ⟨gm, 0, none⟩) n c2) := fun w' h => h.nil_cell (H9q.out.dr.cell (i := 0) rfl)
                    have ld1 : ∀ w', Kept Nil_ wq.drew w' → w'.cell? ⟨gm, j * 5 + 2, none⟩ = some (.slice qA qn qc) := fun w' h => h.nil_cell (show wq.drew.cell? _ = _ from hcp)
                    have ld2 : ∀ w', Kept Nil_ wq.drew w' → w'.cell? ⟨bN, 0, none⟩ = some (.int .i64 8) := fun w' h => h.nil_cell (HXno.out.dr.cell (i := 0) rfl)
                    have ld3 : ∀ w', Kept Nil_ wq.drew w' → w'.cell? ⟨bN, 1, none⟩ = some (.int .i64 1048576) := fun w' h => h.nil_cell (HXno.out.dr.cell (i := 1) rfl)
                    clear hcp HXno
                    refine wp_region_tail (Nil_) [15] (by kernel_rfl) ?_
                    apply wpT_next 0 (some 109) (by kernel_rfl)
                    · simp only [List.getElem?_toArray, List.getElem?_cons_succ, List.getElem?_cons_zero]; exact rfl
                    · rfl
                    · kernel_rfl
                    · kernel_rfl
                    · kernel_rfl
                    · exact fun _ _ _ _ h => h
                    apply Exists.intro
                    apply And.intro
                    · apply yr_run; rfl; intro w' hw'; go_simp; (try with_reducible rfl)
                    simp only [Act.put, List.setIfInBounds_toArray, List.set_cons_zero, List.set_cons_succ]
                    apply wpT_next 1 (some 110) (by kernel_rfl)
                    · simp only [List.getElem?_toArray, List.getElem?_cons_succ, List.getElem?_cons_zero]; exact rfl
                    · rfl
                    · kernel_rfl
                    · kernel_rfl
                    · kernel_rfl
                    · exact fun _ _ _ _ h => h
                    apply Exists.intro
                    apply And.intro
                    · apply yr_run; rfl; intro w' hw'; go_simp; (try with_reducible rfl)
                    simp only [Act.put, List.setIfInBounds_toArray, List.set_cons_zero, List.set_cons_succ]
                    apply wpT_next 2 (some 111) (by kernel_rfl)
                    · simp only [List.getElem?_toArray, List.getElem?_cons_succ, List.getElem?_cons_zero]; exact rfl
                    · rfl
                    · kernel_rfl
                    · kernel_rfl
                    · kernel_rfl
                    · exact fun _ _ _ _ h => h
                    apply Exists.intro
                    apply And.intro
                    · apply yr_run; rfl; intro w' hw'; go_simp; (try with_reducible rfl)
                    simp only [Act.put, List.setIfInBounds_toArray, List.set_cons_zero, List.set_cons_succ]
                    apply wpT_next 3 (some 112) (by kernel_rfl)
                    · simp only [List.getElem?_toArray, List.getElem?_cons_succ, List.getElem?_cons_zero]; exact rfl
                    · rfl
                    · kernel_rfl
                    · kernel_rfl
                    · kernel_rfl
                    · exact fun _ _ _ _ h => h
                    apply Exists.intro
                    apply And.intro
                    · apply yr_run; rfl; intro w' hw'; go_simp; (try with_reducible rfl)
                    simp only [Act.put, List.setIfInBounds_toArray, List.set_cons_zero, List.set_cons_succ]
                    apply wpT_next 4 (some 113) (by kernel_rfl)
                    · simp only [List.getElem?_toArray, List.getElem?_cons_succ, List.getElem?_cons_zero]; exact rfl
                    · rfl
                    · kernel_rfl
                    · kernel_rfl
                    · kernel_rfl
                    · exact fun _ _ _ _ h => h
                    apply Exists.intro
                    apply And.intro
                    · apply yr_run; rfl; intro w' hw'; go_simp; (try with_reducible rfl)
                    simp only [Act.put, List.setIfInBounds_toArray, List.set_cons_zero, List.set_cons_succ]
                    apply wpT_next 5 (some 114) (by kernel_rfl)
                    · simp only [List.getElem?_toArray, List.getElem?_cons_succ, List.getElem?_cons_zero]; exact rfl
                    · rfl
                    · kernel_rfl
                    · kernel_rfl
                    · kernel_rfl
                    · exact fun _ _ _ _ h => h
                    apply Exists.intro
                    apply And.intro
                    · apply yr_run; rfl; intro w' hw'; go_simp; (try with_reducible rfl)
                    simp only [Act.put, List.setIfInBounds_toArray, List.set_cons_zero, List.set_cons_succ]
                    apply wpT_next 6 (some 115) (by kernel_rfl)
                    · simp only [List.getElem?_toArray, List.getElem?_cons_succ, List.getElem?_cons_zero]; exact rfl
                    · rfl
                    · kernel_rfl
                    · kernel_rfl
                    · kernel_rfl
                    · exact fun _ _ _ _ h => h
                    apply Exists.intro
                    apply And.intro
                    · apply yr_run; rfl; intro w' hw'; go_simp; (try with_reducible rfl)
                    simp only [Act.put, List.setIfInBounds_toArray, List.set_cons_zero, List.set_cons_succ]
                    apply wpT_next 7 (some 116) (by kernel_rfl)
                    · simp only [List.getElem?_toArray, List.getElem?_cons_succ, List.getElem?_cons_zero]; exact rfl
                    · rfl
                    · kernel_rfl
                    · kernel_rfl
                    · kernel_rfl
                    · exact fun _ _ _ _ h => h
                    apply Exists.intro
                    apply And.intro
                    · apply yr_run; rfl; intro w' hw'; go_simp; (try with_reducible rfl)
                    simp only [Act.put, List.setIfInBounds_toArray, List.set_cons_zero, List.set_cons_succ]
                    apply wpT_next 8 (some 117) (by kernel_rfl)
                    · simp only [List.getElem?_toArray, List.getElem?_cons_succ, List.getElem?_cons_zero]; exact rfl
                    · rfl
                    · kernel_rfl
                    · kernel_rfl
                    · kernel_rfl
                    · exact fun _ _ _ _ h => h
                    apply Exists.intro
                    apply And.intro
                    · apply yr_run; rfl; intro w' hw'; go_simp; (try with_reducible rfl)
                    simp only [Act.put, List.setIfInBounds_toArray, List.set_cons_zero, List.set_cons_succ]
                    apply wpT_next 9 (some 118) (by kernel_rfl)
                    · simp only [List.getElem?_toArray, List.getElem?_cons_succ, List.getElem?_cons_zero]; exact rfl
                    · rfl
                    · kernel_rfl
                    · kernel_rfl
                    · kernel_rfl
                    · exact fun _ _ _ _ h => h
                    apply Exists.intro
                    apply And.intro
                    · apply yr_run; rfl; intro w' hw'; go_simp; (try with_reducible rfl)
                    simp only [Act.put, List.setIfInBounds_toArray, List.set_cons_zero, List.set_cons_succ]
                    apply wpT_next 10 (some 119) (by kernel_rfl)
                    · simp only [List.getElem?_toArray, List.getElem?_cons_succ, List.getElem?_cons_zero]; exact rfl
                    · rfl
                    · kernel_rfl
                    · kernel_rfl
                    · kernel_rfl
                    · exact fun _ _ _ _ h => h
                    apply Exists.intro
                    apply And.intro
                    · apply yr_run; rfl; intro w' hw'; go_simp; (try with_reducible rfl)
                    simp only [Act.put, List.setIfInBounds_toArray, List.set_cons_zero, List.set_cons_succ]
                    apply wpT_next 11 (some 120) (by kernel_rfl)
                    · simp only [List.getElem?_toArray, List.getElem?_cons_succ, List.getElem?_cons_zero]; exact rfl
                    · rfl
                    · kernel_rfl
                    · kernel_rfl
                    · kernel_rfl
                    · exact fun _ _ _ _ h => h
                    apply Exists.intro
                    apply And.intro
                    · apply yr_run; rfl; intro w' hw'; go_simp; (try with_reducible rfl)
                    simp only [Act.put, List.setIfInBounds_toArray, List.set_cons_zero, List.set_cons_succ]
                    apply wpT_call 12 (some 121)
                    · simp only [List.getElem?_toArray, List.getElem?_cons_succ, List.getElem?_cons_zero]; exact rfl
                    · rfl
                    · kernel_rfl
                    · rfl
                    · intro w'; go_simp; first | done | exact ⟨rfl, rfl⟩ | with_reducible rfl
                    intro w' hw'
                    refine (HRm.out w' (HRq.out.bl hw')).mono ?_
                    rintro e w9 ⟨A9, c9, rfl, hr9, hb9, hc9⟩
                    refine ⟨_, rfl, Kept.of_below hb9, ?_⟩
                    have H99 := Lib.hid ((H9q.out.dr.bl hw').bl hb9)
                    have HM9 := Lib.hid ((HMq.out.dr.bl hw').bl hb9)
                    have HZ9 := Lib.hid (bel_bl (bel_bl (bel_dr HZq.out) hw') hb9)
                    have HR9 : RowKit.Hid (RgOk w9 (A9, L9.length, c9, L9)) := Lib.hid ⟨hc9, hr9⟩
                    obtain ⟨V9, gV9⟩ : ∃ z, w9 = z := ⟨_, rfl⟩
                    rw [gV9] at H99 HM9 HZ9 HR9 ⊢
                    clear hw' hr9 hb9 hc9 gV9 ld0 ld1 ld2 ld3 HRm HRq H9q HMq HZq
                    simp only [Act.put, List.setIfInBounds_toArray, List.set_cons_zero, List.set_cons_succ]
                    apply wpT_run 13 (some 122)
                    · simp only [List.getElem?_toArray, List.getElem?_cons_succ, List.getElem?_cons_zero]; exact rfl
                    · rfl
                    · kernel_rfl
                    · rfl
                    intro w' hw'
                    apply Exists.intro
                    apply Exists.intro
                    apply And.intro
                    · go_simp; first | done | exact ⟨rfl, rfl⟩ | exact rfl
                    apply And.intro
                    · exact Kept.refl _ _
                    have hpd13 := hw'
                    clear hw'
                    simp only [Act.put, List.setIfInBounds_toArray, List.set_cons_zero, List.set_cons_succ]
                    apply wpT_next 14 (some 123) (by kernel_rfl)
                    · simp only [List.getElem?_toArray, List.getElem?_cons_succ, List.getElem?_cons_zero]; exact rfl
                    · rfl
                    · kernel_rfl
                    · kernel_rfl
                    · kernel_rfl
                    · exact fun _ _ _ _ h => h
                    apply Exists.intro
                    apply And.intro
                    · apply yr_run; rfl; intro w' hw'; go_simp; (try with_reducible rfl)
                    simp only [Act.put, List.setIfInBounds_toArray, List.set_cons_zero, List.set_cons_succ]
                    apply wpT_last 15
                    · simp only [List.getElem?_toArray, List.getElem?_cons_succ, List.getElem?_cons_zero]; exact rfl
                    · rfl
                    · kernel_rfl
                    · rfl
                    · decide
                    intro w' hw'
                    replace hw' := Ext.trans hpd13 hw'
                    clear hpd13
                    obtain ⟨gq, eq, hloq, ⟨csq, hwq⟩, hcq, hfq, hMq⟩ := (HM9.out.bl hw').put huq hjn (A9, L9.length, c9, L9) (HR9.out.bl hw')
                    obtain rfl : gm = gq := by
                      injection eq with eq
                      injection eq
                    replace hcq : w'.cell? ⟨gm, j * 5 + 2, none⟩ = some (.slice qA qn qc) := hcq
                    refine ⟨w'.setCell ⟨gm, j * 5 + 2, none⟩ (.slice A9 L9.length c9), by (go_simp; first | done | exact rfl | exact ⟨rfl, rfl⟩), ?_⟩
                    have HMs : RowKit.Hid (Wro (w'.setCell ⟨gm, j * 5 + 2, none⟩ (.slice A9 L9.length c9)) v31.heap.size (some ⟨gm, 0, none⟩) n c2 (Uq.set j ((i1, i2), (A9, L9.length, c9, L9), lb, at_)) B3 (m + 1) k3 (Es ++ [eN])) := Lib.hid hMq
                    have H9s := Lib.hid ((H99.out.bl hw').set_far' (i := j * 5 + 2) ((H99.out.bl hw').ne_ hwq (by decide)) (.slice A9 L9.length c9))
                    have HZs := Lib.hid ((bel_bl HZ9.out hw').setCell (p := ⟨gm, j * 5 + 2, none⟩) Hlo.out (.slice A9 L9.length c9))
                    obtain ⟨W7, gW7⟩ : ∃ z, w'.setCell ⟨gm, j * 5 + 2, none⟩ (.slice A9 L9.length c9) = z := ⟨_, rfl⟩
                    rw [gW7] at HMs H9s HZs ⊢
                    clear hw' eq hloq hwq hcq hfq hMq gW7 H99 HM9 HZ9 HR9
                    try simp only [Act.put, List.setIfInBounds_toArray, List.set_cons_zero, List.set_cons_succ]
                    refine wpT_done (by kernel_rfl) ?_ _
                    intro W8 hw8
                    have HZ8 := Lib.hid (bel_bl HZs.out hw8)
                    have H98 := Lib.hid (H9s.out.bl hw8)
                    have HM8 := Lib.hid (HMs.out.bl hw8)
                    clear hw8 HZs H9s HMs
                    have HUf := HSet.out A9 L9.length c9 L9 (by rw [← HLd.out, HL9.out])
                    rw [← HUz.out, gUq] at HUf
                    have HUf := Lib.hid HUf
                    go_wp2
                    go_roundw
                    case rel => exact ⟨j + 1, _, by omega, by go_num, HZ8, H98, HM8, HUf⟩
                    case measure => simp [intOf] <;> omega
                  | false =>
                    have HUf := HSet.out qA qn qc qL (by rw [HL9.out]; rfl)
                    have hse : Uz.set j ((i1, i2), (qA, qn, qc, qL), lb, at_) = Uz := by
                      obtain ⟨h1, h2⟩ := List.getElem?_eq_some_iff.1 huz
                      rw [← h2]
                      exact List.set_getElem_self h1
                    rw [← HUz.out, hse] at HUf
                    have HUf := Lib.hid HUf
                    go_wp2
                    go_roundw
                    case rel => exact ⟨j + 1, _, by omega, by go_num, HZq, H9q, HMq, HUf⟩
                    case measure => simp [intOf] <;> omega
                | false =>
                  obtain ⟨Uz, gUz⟩ : ∃ z, Us = z := ⟨_, rfl⟩
                  have huz : Uz[j]? = some ((i1, i2), (rA, rn, rc, rL), lb, at_) := by rw [← gUz]; exact Hu.out
                  have HUz : RowKit.Hid (∀ z, Uz.set j z = Us.set j z) := Lib.hid (fun z => by rw [gUz])
                  have HL9 : RowKit.Hid (rL = insX false 0 rL) := Lib.hid rfl
                  have hl9 : rn ≤ 81 := by omega
                  rw [gUz] at HMq
                  clear gUz
                  obtain ⟨qA, gqA⟩ : ∃ z, rA = z := ⟨_, rfl⟩
                  obtain ⟨qc, gqc⟩ : ∃ z, rc = z := ⟨_, rfl⟩
                  obtain ⟨qn, gqn⟩ : ∃ z, rn = z := ⟨_, rfl⟩
                  have HL8 : RowKit.Hid (rL = insX false 0 rL) := Lib.hid rfl
                  obtain ⟨qL, gqL⟩ : ∃ z, rL = z := ⟨_, rfl⟩
                  have HL7 : RowKit.Hid (qL = insX false 0 rL) := Lib.hid (by rw [← gqL]; rfl)
                  rw [gqA, gqc, gqn, gqL] at huz
                  rw [gqn] at hl9
                  clear HL9 HL8 gqA gqc gqn gqL
                  have HL9 := HL7
                  clear HL7
                  obtain ⟨tx, gtx⟩ : ∃ z, false = z := ⟨_, rfl⟩
                  rw [gtx] at HL9 HSet
                  clear gtx
                  obtain ⟨n0, n1_⟩ := HId.out wq Uz _ HMq.out huz
                  have HXyo := Lib.hid (HXy.out.bl HZq.out)
                  go_upto_region 16 with fail
                  have ld0 : ∀ w', Kept Nil_ wq.drew w' → w'.cell? ⟨b9, 0, none⟩ = some (.slice (some ⟨gm, 0, none⟩) n c2) := fun w' h => h.nil_cell (H9q.out.dr.cell (i := 0) rfl)
                  have ld1 : ∀ w', Kept Nil_ wq.drew w' → w'.cell? ⟨gm, j * 5, none⟩ = some (.int .i64 i1) := fun w' h => h.nil_cell (show wq.drew.cell? _ = _ from n0)
                  have ld2 : ∀ w', Kept Nil_ wq.drew w' → w'.cell? ⟨gm, j * 5 + 1, none⟩ = some (.int .i64 i2) := fun w' h => h.nil_cell (show wq.drew.cell? _ = _ from n1_)
                  have ld3 : ∀ w', Kept Nil_ wq.drew w' → w'.cell? ⟨w.heap.size + 2, 0, none⟩ = some (.int .i64 y1) := fun w' h => h.nil_cell (HXyo.out.dr.cell (i := 0) rfl)
                  have ld4 : ∀ w', Kept Nil_ wq.drew w' → w'.cell? ⟨w.heap.size + 2, 1, none⟩ = some (.int .i64 y2) := fun w' h => h.nil_cell (HXyo.out.dr.cell (i := 1) rfl)
                  refine wp_region_reg (Nil_) (by kernel_rfl) ?_
                  apply wpR_next 0 (some 101)
                  · simp only [List.getElem?_toArray, List.getElem?_cons_succ, List.getElem?_cons_zero]; exact rfl
                  · rfl
                  · kernel_rfl
                  · kernel_rfl
                  · kernel_rfl
                  · exact fun _ _ _ _ h => h
                  apply Exists.intro
                  apply And.intro
                  · apply yr_run; rfl; intro w' hw'; go_simp; (try with_reducible rfl)
                  simp only [Act.put, List.setIfInBounds_toArray, List.set_cons_zero, List.set_cons_succ]
                  apply wpR_next 1 (some 102)
                  · simp only [List.getElem?_toArray, List.getElem?_cons_succ, List.getElem?_cons_zero]; exact rfl
                  · rfl
                  · kernel_rfl
                  · kernel_rfl
                  · kernel_rfl
                  · exact fun _ _ _ _ h => h
                  apply Exists.intro
                  apply And.intro
                  · apply yr_run; rfl; intro w' hw'; go_simp; (try with_reducible rfl)
                  simp only [Act.put, List.setIfInBounds_toArray, List.set_cons_zero, List.set_cons_succ]
                  apply wpR_next 2 (some 103)
                  · simp only [List.getElem?_toArray, List.getElem?_cons_succ, List.getElem?_cons_zero]; exact rfl
                  · rfl
                  · kernel_rfl
                  · kernel_rfl
                  · kernel_rfl
                  · exact fun _ _ _ _ h => h
                  apply Exists.intro
                  apply And.intro
                  · apply yr_run; rfl; intro w' hw'; go_simp; (try with_reducible rfl)
                  simp only [Act.put, List.setIfInBounds_toArray, List.set_cons_zero, List.set_cons_succ]
                  apply wpR_next 3 (some 104)
                  · simp only [List.getElem?_toArray, List.getElem?_cons_succ, List.getElem?_cons_zero]; exact rfl
                  · rfl
                  · kernel_rfl
                  · kernel_rfl
                  · kernel_rfl
                  · exact fun _ _ _ _ h => h
                  apply Exists.intro
                  apply And.intro
                  · apply yr_run; rfl; intro w' hw'; go_simp; (try with_reducible rfl)
                  simp only [Act.put, List.setIfInBounds_toArray, List.set_cons_zero, List.set_cons_succ]
                  apply wpR_next 4 (some 105)
                  · simp only [List.getElem?_toArray, List.getElem?_cons_succ, List.getElem?_cons_zero]; exact rfl
                  · rfl
                  · kernel_rfl
                  · kernel_rfl
                  · kernel_rfl
                  · exact fun _ _ _ _ h => h
                  apply Exists.intro
                  apply And.intro
                  · apply yr_run; rfl; intro w' hw'; go_simp; (try with_reducible rfl)
                  simp only [Act.put, List.setIfInBounds_toArray, List.set_cons_zero, List.set_cons_succ]
                  apply wpR_next 5 (some 106)
                  · simp only [List.getElem?_toArray, List.getElem?_cons_succ, List.getElem?_cons_zero]; exact rfl
                  · rfl
                  · kernel_rfl
                  · kernel_rfl
                  · kernel_rfl
                  · exact fun _ _ _ _ h => h
                  apply Exists.intro
                  apply And.intro
                  · apply yr_run; rfl; intro w' hw'; go_simp; (try with_reducible rfl)
                  simp only [Act.put, List.setIfInBounds_toArray, List.set_cons_zero, List.set_cons_succ]
                  apply wpR_next 6 (some 107)
                  · simp only [List.getElem?_toArray, List.getElem?_cons_succ, List.getElem?_cons_zero]; exact rfl
                  · rfl
                  · kernel_rfl
                  · kernel_rfl
                  · kernel_rfl
                  · exact fun _ _ _ _ h => h
                  apply Exists.intro
                  apply And.intro
                  · apply yr_run; rfl; intro w' hw'; go_simp; (try with_reducible rfl)
                  simp only [Act.put, List.setIfInBounds_toArray, List.set_cons_zero, List.set_cons_succ]
                  apply wpR_next 7 (some 108)
                  · simp only [List.getElem?_toArray, List.getElem?_cons_succ, List.getElem?_cons_zero]; exact rfl
                  · rfl
                  · kernel_rfl
                  · kernel_rfl
                  · kernel_rfl
                  · exact fun _ _ _ _ h => h
                  apply Exists.intro
                  apply And.intro
                  · exact yr_run (by rfl) (fun w' hw' => exec_binop_agg .eql 27 (.tmp 106) (.tmp 107) 27 rfl rfl rfl (by kernel_rfl) (hey w'))
                  simp only [Act.put, List.setIfInBounds_toArray, List.set_cons_zero, List.set_cons_succ]
                  refine wpR_done (by kernel_rfl) ?_ _
                  intro wp hwp
                  have HZp := Lib.hid (bel_bl (bel_dr HZq.out) hwp)
                  have H9p := Lib.hid (H9q.out.dr.bl hwp)
                  have HMp := Lib.hid (HMq.out.dr.bl hwp)
                  clear hwp ld0 ld1 ld2 ld3 ld4 n0 n1_ HXyo HZq H9q HMq
                  obtain ⟨wq, gwq⟩ : ∃ z, wp = z := ⟨_, rfl⟩
                  rw [gwq] at HZp H9p HMp ⊢
                  clear gwq
                  have HZq := HZp
                  have H9q := H9p
                  have HMq := HMp
                  clear HZp H9p HMp
                  cases ty with
                  | true =>
                    obtain ⟨Uq, gUq⟩ : ∃ z, Uz = z := ⟨_, rfl⟩
                    have huq : Uq[j]? = some ((i1, i2), (qA, qn, qc, qL), lb, at_) := by rw [← gUq]; exact huz
                    rw [gUq] at HMq
                    obtain ⟨gp, ep, -, -, hcp, -, -⟩ := HMq.out.put huq hjn (qA, qn, qc, qL) (HMq.out.r _ (List.mem_of_getElem? huq))
                    obtain rfl : gm = gp := by
                      injection ep with ep
                      injection ep
                    replace hcp : wq.cell? ⟨gm, j * 5 + 2, none⟩ = some (.slice qA qn qc) := hcp
                    have HRq : RowKit.Hid (RdS wq.drew wq.drew.heap.size 3 qA qn qc (dartsV qL)) := Lib.hid (HMq.out.r _ (List.mem_of_getElem? huq)).2.dr
                    have Hrl : RowKit.Hid (qL.length ≤ 82) := Lib.hid (by have := HRq.out.dlen; omega)
                    have HRm : RowKit.Hid (∀ W, RdS W W.heap.size 3 qA qn qc (dartsV qL) → Calls Try.prog 34 #[.slice qA qn qc, .agg #[.int .i64 0, .int .i64 0, .int .i64 0], .agg #[.int .i64 8, .int .i64 1048576, .int .i64 1]] W (GivesC W (turnD (insR qL (0, 0, 0) (8, 1048576, 1))))) := Lib.hid (fun W h => HRi.out 1 qA qn qc qL W h (by omega))
                    obtain ⟨L9, gL9⟩ : ∃ z, turnD (insR qL (0, 0, 0) (8, 1048576, 1)) = z := ⟨_, rfl⟩
                    have HLd : RowKit.Hid (insX true 1 qL = L9) := Lib.hid gL9
                    rw [gL9] at HRm
                    have HXno := Lib.hid (HXn.out.bl HZq.out)
                    clear gL9 ep
                    go_upto_region 17 with fail
                    have ld0 : ∀ w', Kept Nil_ wq.drew w' → w'.cell? ⟨b9, 0, none⟩ = some (.slice (some ⟨gm, 0, none⟩) n c2) := fun w' h => h.nil_cell (H9q.out.dr.cell (i := 0) rfl)
                    have ld1 : ∀ w', Kept Nil_ wq.drew w' → w'.cell? ⟨gm, j * 5 + 2, none⟩ = some (.slice qA qn qc) := fun w' h => h.nil_cell (show wq.drew.cell? _ = _ from hcp)
                    have ld2 : ∀ w', Kept Nil_ wq.drew w' → w'.cell? ⟨bN, 0, none⟩ = some (.int .i64 8) := fun w' h => h.nil_cell (HXno.out.dr.cell (i := 0) rfl)
                    have ld3 : ∀ w', Kept Nil_ wq.drew w' → w'.cell? ⟨bN, 1, none⟩ = some (.int .i64 1048576) := fun w' h => h.nil_cell (HXno.out.dr.cell (i := 1) rfl)
                    clear hcp HXno
                    refine wp_region_tail (Nil_) [15] (by kernel_rfl) ?_
                    apply wpT_next 0 (some 109) (by kernel_rfl)
                    · simp only [List.getElem?_toArray, List.getElem?_cons_succ, List.getElem?_cons_zero]; exact rfl
                    · rfl
                    · kernel_rfl
                    · kernel_rfl
                    · kernel_rfl
                    · exact fun _ _ _ _ h => h
                    apply Exists.intro
                    apply And.intro
                    · apply yr_run; rfl; intro w' hw'; go_simp; (try with_reducible rfl)
                    simp only [Act.put, List.setIfInBounds_toArray, List.set_cons_zero, List.set_cons_succ]
                    apply wpT_next 1 (some 110) (by kernel_rfl)
                    · simp only [List.getElem?_toArray, List.getElem?_cons_succ, List.getElem?_cons_zero]; exact rfl
                    · rfl
                    · kernel_rfl
                    · kernel_rfl
                    · kernel_rfl
                    · exact fun _ _ _ _ h => h
                    apply Exists.intro
                    apply And.intro
                    · apply yr_run; rfl; intro w' hw'; go_simp; (try with_reducible rfl)
                    simp only [Act.put, List.setIfInBounds_toArray, List.set_cons_zero, List.set_cons_succ]
                    apply wpT_next 2 (some 111) (by kernel_rfl)
                    · simp only [List.getElem?_toArray, List.getElem?_cons_succ, List.getElem?_cons_zero]; exact rfl
                    · rfl
                    · kernel_rfl
                    · kernel_rfl
                    · kernel_rfl
                    · exact fun _ _ _ _ h => h
                    apply Exists.intro
                    apply And.intro
                    · apply yr_run; rfl; intro w' hw'; go_simp; (try with_reducible rfl)
                    simp only [Act.put, List.setIfInBounds_toArray, List.set_cons_zero, List.set_cons_succ]
                    apply wpT_next 3 (some 112) (by kernel_rfl)
                    · simp only [List.getElem?_toArray, List.getElem?_cons_succ, List.getElem?_cons_zero]; exact rfl
                    · rfl
                    · kernel_rfl
                    · kernel_rfl
                    · kernel_rfl
                    · exact fun _ _ _ _ h => h
                    apply Exists.intro
                    apply And.intro
                    · apply yr_run; rfl; intro w' hw'; go_simp; (try with_reducible rfl)
                    simp only [Act.put, List.setIfInBounds_toArray, List.set_cons_zero, List.set_cons_succ]
                    apply wpT_next 4 (some 113) (by kernel_rfl)
                    · simp only [List.getElem?_toArray, List.getElem?_cons_succ, List.getElem?_cons_zero]; exact rfl
                    · rfl
                    · kernel_rfl
                    · kernel_rfl
                    · kernel_rfl
                    · exact fun _ _ _ _ h => h
                    apply Exists.intro
                    apply And.intro
                    · apply yr_run; rfl; intro w' hw'; go_simp; (try with_reducible rfl)
                    simp only [Act.put, List.setIfInBounds_toArray, List.set_cons_zero, List.set_cons_succ]
                    apply wpT_next 5 (some 114) (by kernel_rfl)
                    · simp only [List.getElem?_toArray, List.getElem?_cons_succ, List.getElem?_cons_zero]; exact rfl
                    · rfl
                    · kernel_rfl
                    · kernel_rfl
                    · kernel_rfl
                    · exact fun _ _ _ _ h => h
                    apply Exists.intro
                    apply And.intro
                    · apply yr_run; rfl; intro w' hw'; go_simp; (try with_reducible rfl)
                    simp only [Act.put, List.setIfInBounds_toArray, List.set_cons_zero, List.set_cons_succ]
                    apply wpT_next 6 (some 115) (by kernel_rfl)
                    · simp only [List.getElem?_toArray, List.getElem?_cons_succ, List.getElem?_cons_zero]; exact rfl
                    · rfl
                    · kernel_rfl
                    · kernel_rfl
                    · kernel_rfl
                    · exact fun _ _ _ _ h => h
                    apply Exists.intro
                    apply And.intro
                    · apply yr_run; rfl; intro w' hw'; go_simp; (try with_reducible rfl)
                    simp only [Act.put, List.setIfInBounds_toArray, List.set_cons_zero, List.set_cons_succ]
                    apply wpT_next 7 (some 116) (by kernel_rfl)
                    · simp only [List.getElem?_toArray, List.getElem?_cons_succ, List.getElem?_cons_zero]; exact rfl
                    · rfl
                    · kernel_rfl
                    · kernel_rfl
                    · kernel_rfl
                    · exact fun _ _ _ _ h => h
                    apply Exists.intro
                    apply And.intro
                    · apply yr_run; rfl; intro w' hw'; go_simp; (try with_reducible rfl)
                    simp only [Act.put, List.setIfInBounds_toArray, List.set_cons_zero, List.set_cons_succ]
                    apply wpT_next 8 (some 117) (by kernel_rfl)
                    · simp only [List.getElem?_toArray, List.getElem?_cons_succ, List.getElem?_cons_zero]; exact rfl
                    · rfl
                    · kernel_rfl
                    · kernel_rfl
                    · kernel_rfl
                    · exact fun _ _ _ _ h => h
                    apply Exists.intro
                    apply And.intro
                    · apply yr_run; rfl; intro w' hw'; go_simp; (try with_reducible rfl)
                    simp only [Act.put, List.setIfInBounds_toArray, List.set_cons_zero, List.set_cons_succ]
                    apply wpT_next 9 (some 118) (by kernel_rfl)
                    · simp only [List.getElem?_toArray, List.getElem?_cons_succ, List.getElem?_cons_zero]; exact rfl
                    · rfl
                    · kernel_rfl
                    · kernel_rfl
                    · kernel_rfl
                    · exact fun _ _ _ _ h => h
                    apply Exists.intro
                    apply And.intro
                    · apply yr_run; rfl; intro w' hw'; go_simp; (try with_reducible rfl)
                    simp only [Act.put, List.setIfInBounds_toArray, List.set_cons_zero, List.set_cons_succ]
                    apply wpT_next 10 (some 119) (by kernel_rfl)
                    · simp only [List.getElem?_toArray, List.getElem?_cons_succ, List.getElem?_cons_zero]; exact rfl
                    · rfl
                    · kernel_rfl
                    · kernel_rfl
                    · kernel_rfl
                    · exact fun _ _ _ _ h => h
                    apply Exists.intro
                    apply And.intro
                    · apply yr_run; rfl; intro w' hw'; go_simp; (try with_reducible rfl)
                    simp only [Act.put, List.setIfInBounds_toArray, List.set_cons_zero, List.set_cons_succ]
                    apply wpT_next 11 (some 120) (by kernel_rfl)
                    · simp only [List.getElem?_toArray, List.getElem?_cons_succ, List.getElem?_cons_zero]; exact rfl
                    · rfl
                    · kernel_rfl
                    · kernel_rfl
                    · kernel_rfl
                    · exact fun _ _ _ _ h => h
                    apply Exists.intro
                    apply And.intro
                    · apply yr_run; rfl; intro w' hw'; go_simp; (try with_reducible rfl)
                    simp only [Act.put, List.setIfInBounds_toArray, List.set_cons_zero, List.set_cons_succ]
                    apply wpT_call 12 (some 121)
                    · simp only [List.getElem?_toArray, List.getElem?_cons_succ, List.getElem?_cons_zero]; exact rfl
                    · rfl
                    · kernel_rfl
                    · rfl
                    · intro w'; go_simp; first | done | exact ⟨rfl, rfl⟩ | with_reducible rfl
                    intro w' hw'
                    refine (HRm.out w' (HRq.out.bl hw')).mono ?_
                    rintro e w9 ⟨A9, c9, rfl, hr9, hb9, hc9⟩
                    refine ⟨_, rfl, Kept.of_below hb9, ?_⟩
                    have H99 := Lib.hid ((H9q.out.dr.bl hw').bl hb9)
                    have HM9 := Lib.hid ((HMq.out.dr.bl hw').bl hb9)
                    have HZ9 := Lib.hid (bel_bl (bel_bl (bel_dr HZq.out) hw') hb9)
                    have HR9 : RowKit.Hid (RgOk w9 (A9, L9.length, c9, L9)) := Lib.hid ⟨hc9, hr9⟩
                    obtain ⟨V9, gV9⟩ : ∃ z, w9 = z := ⟨_, rfl⟩
                    rw [gV9] at H99 HM9 HZ9 HR9 ⊢
                    clear hw' hr9 hb9 hc9 gV9 ld0 ld1 ld2 ld3 HRm HRq H9q HMq HZq
                    simp only [Act.put, List.setIfInBounds_toArray, List.set_cons_zero, List.set_cons_succ]
                    apply wpT_run 13 (some 122)
                    · simp only [List.getElem?_toArray, List.getElem?_cons_succ, List.getElem?_cons_zero]; exact rfl
                    · rfl
                    · kernel_rfl
                    · rfl
                    intro w' hw'
                    apply Exists.intro
                    apply Exists.intro
                    apply And.intro
                    · go_simp; first | done | exact ⟨rfl, rfl⟩ | exact rfl
                    apply And.intro
                    · exact Kept.refl _ _
                    have hpd13 := hw'
                    clear hw'
                    simp only [Act.put, List.setIfInBounds_toArray, List.set_cons_zero, List.set_cons_succ]
                    apply wpT_next 14 (some 123) (by kernel_rfl)
                    · simp only [List.getElem?_toArray, List.getElem?_cons_succ, List.getElem?_cons_zero]; exact rfl
                    · rfl
                    · kernel_rfl
                    · kernel_rfl
                    · kernel_rfl
                    · exact fun _ _ _ _ h => h
                    apply Exists.intro
                    apply And.intro
                    · apply yr_run; rfl; intro w' hw'; go_simp; (try with_reducible rfl)
                    simp only [Act.put, List.setIfInBounds_toArray, List.set_cons_zero, List.set_cons_succ]
                    apply wpT_last 15
                    · simp only [List.getElem?_toArray, List.getElem?_cons_succ, List.getElem?_cons_zero]; exact rfl
                    · rfl
                    · kernel_rfl
                    · rfl
                    · decide
                    intro w' hw'
                    replace hw' := Ext.trans hpd13 hw'
                    clear hpd13
                    obtain ⟨gq, eq, hloq, ⟨csq, hwq⟩, hcq, hfq, hMq⟩ := (HM9.out.bl hw').put huq hjn (A9, L9.length, c9, L9) (HR9.out.bl hw')
                    obtain rfl : gm = gq := by
                      injection eq with eq
                      injection eq
                    replace hcq : w'.cell? ⟨gm, j * 5 + 2, none⟩ = some (.slice qA qn qc) := hcq
                    refine ⟨w'.setCell ⟨gm, j * 5 + 2, none⟩ (.slice A9 L9.length c9), by (go_simp; first | done | exact rfl | exact ⟨rfl, rfl⟩), ?_⟩
                    have HMs : RowKit.Hid (Wro (w'.setCell ⟨gm, j * 5 + 2, none⟩ (.slice A9 L9.length c9)) v31.heap.size (some ⟨gm, 0, none⟩) n c2 (Uq.set j ((i1, i2), (A9, L9.length, c9, L9), lb, at_)) B3 (m + 1) k3 (Es ++ [eN])) := Lib.hid hMq
                    have H9s := Lib.hid ((H99.out.bl hw').set_far' (i := j * 5 + 2) ((H99.out.bl hw').ne_ hwq (by decide)) (.slice A9 L9.length c9))
                    have HZs := Lib.hid ((bel_bl HZ9.out hw').setCell (p := ⟨gm, j * 5 + 2, none⟩) Hlo.out (.slice A9 L9.length c9))
                    obtain ⟨W7, gW7⟩ : ∃ z, w'.setCell ⟨gm, j * 5 + 2, none⟩ (.slice A9 L9.length c9) = z := ⟨_, rfl⟩
                    rw [gW7] at HMs H9s HZs ⊢
                    clear hw' eq hloq hwq hcq hfq hMq gW7 H99 HM9 HZ9 HR9
                    try simp only [Act.put, List.setIfInBounds_toArray, List.set_cons_zero, List.set_cons_succ]
                    refine wpT_done (by kernel_rfl) ?_ _
                    intro W8 hw8
                    have HZ8 := Lib.hid (bel_bl HZs.out hw8)
                    have H98 := Lib.hid (H9s.out.bl hw8)
                    have HM8 := Lib.hid (HMs.out.bl hw8)
                    clear hw8 HZs H9s HMs
                    have HUf := HSet.out A9 L9.length c9 L9 (by rw [← HLd.out, HL9.out])
                    rw [← HUz.out, gUq] at HUf
                    have HUf := Lib.hid HUf
                    go_wp2
                    go_roundw
                    case rel => exact ⟨j + 1, _, by omega, by go_num, HZ8, H98, HM8, HUf⟩
                    case measure => simp [intOf] <;> omega
                  | false =>
                    have HUf := HSet.out qA qn qc qL (by rw [HL9.out]; rfl)
                    have hse : Uz.set j ((i1, i2), (qA, qn, qc, qL), lb, at_) = Uz := by
                      obtain ⟨h1, h2⟩ := List.getElem?_eq_some_iff.1 huz
                      rw [← h2]
                      exact List.set_getElem_self h1
                    rw [← HUz.out, hse] at HUf
                    have HUf := Lib.hid HUf
                    go_wp2
                    go_roundw
                    case rel => exact ⟨j + 1, _, by omega, by go_num, HZq, H9q, HMq, HUf⟩
                    case measure => simp [intOf] <;> omega
              · obtain rfl : n = j := by omega
                have hUs : Us.map vS = Vs.map (gN (x1, x2) (y1, y2)) := by
                  rw [HU.out, List.take_of_length_le (by have := Hlv.out; omega), List.drop_eq_nil_of_le (by have := Hlv.out; omega)]
                  simp
                obtain ⟨hnt, hnc⟩ := HNum.out Us hUs
                have hwdm : ∀ u ∈ Us, ∀ d ∈ u.2.1.2.2.2, wfD d := fun u hu d hd => by
                  obtain ⟨v, hv, e, -⟩ := edge_mem hUs hu
                  rcases e d hd with h | rfl | rfl
                  · exact HWd.out v hv d h
                  · exact ⟨by decide, by decide, by decide⟩
                  · exact ⟨by decide, by decide, by decide⟩
                have hr0m : ∀ u ∈ Us, u.2.1.2.1 ≤ 1000000 := fun u hu => by
                  obtain ⟨v, hv, -, e⟩ := edge_mem hUs hu
                  have h1 := (HM.out.r u hu).2.dlen
                  have h2 := (HDd.out.r v hv).2.dlen
                  have h3 := Hsm.out.2.2 v hv
                  omega
                have HTm : RowKit.Hid (∀ W, DgIn W A2 n c2 Us B3 (m + 1) k3 (Es ++ [eN]) → Calls Try.prog 46 #[.agg #[.slice A2 n c2, .slice B3 (m + 1) k3], .agg #[.int .i64 x1, .int .i64 x2], .agg #[.int .i64 y1, .int .i64 y2]] W fun e w' => e = .returned (.bool true) ∧ Below W.heap.size W w') := Lib.hid (fun W h => by
                  have h1 := together_any A2 n c2 Us B3 (m + 1) k3 (Es ++ [eN]) x1 x2 y1 y2 W h (by omega) hr0m hwdm
                  rwa [hnt] at h1)
                have HTd : RowKit.Hid (∀ W, DgIn W A n c Vs B m k Es → Calls Try.prog 46 #[.agg #[.slice A n c, .slice B m k], .agg #[.int .i64 x1, .int .i64 x2], .agg #[.int .i64 y1, .int .i64 y2]] W fun e w' => e = .returned (.bool (togF Vs (x1, x2) (y1, y2))) ∧ Below W.heap.size W w') := Lib.hid (fun W h => together_any A n c Vs B m k Es x1 x2 y1 y2 W h (by omega) Hr0.out HWd.out)
                have HCm : RowKit.Hid (∀ W, DgIn W A2 n c2 Us B3 (m + 1) k3 (Es ++ [eN]) → Calls Try.prog 44 #[.agg #[.slice A2 n c2, .slice B3 (m + 1) k3]] W fun e w' => e = .returned (.int .i64 ((cntF (labF Us) : Nat) : Int)) ∧ Below W.heap.size W w') := Lib.hid (fun W h => count_any A2 n c2 Us B3 (m + 1) k3 (Es ++ [eN]) W h (by omega) hr0m hwdm)
                have HCd : RowKit.Hid (∀ W, DgIn W A n c Vs B m k Es → Calls Try.prog 44 #[.agg #[.slice A n c, .slice B m k]] W fun e w' => e = .returned (.int .i64 ((cntF (labF Vs) : Nat) : Int)) ∧ Below W.heap.size W w') := Lib.hid (fun W h => count_any A n c Vs B m k Es W h (by omega) Hr0.out HWd.out)
                obtain ⟨tb, gtb⟩ : ∃ z, togF Vs (x1, x2) (y1, y2) = z := ⟨_, rfl⟩
                obtain ⟨cm, gcm⟩ : ∃ z, cntF (labF Us) = z := ⟨_, rfl⟩
                obtain ⟨cd, gcd⟩ : ∃ z, cntF (labF Vs) = z := ⟨_, rfl⟩
                have hcd := cnt_le Vs
                rw [gcd, Hlv.out] at hcd
                rw [gtb] at HTd hnc
                rw [gcm, gcd] at hnc
                rw [gcm] at HCm
                rw [gcd] at HCd
                have Hnc := Lib.hid hnc
                have HDm := Lib.hid HM.out.dg
                have HDz := Lib.hid (HDd.out.bl HZ.out)
                have HXz := Lib.hid (HXd.out.bl HZ.out)
                have HXu := Lib.hid (HXx.out.bl HZ.out)
                have HXv := Lib.hid (HXy.out.bl HZ.out)
                clear hUs hnt hwdm hr0m gtb gcm gcd hnc HU HM
                have lw901 : (wo).cell? ⟨w.heap.size, 0, none⟩ = some (.slice A n c) := HXz.out.cell (i := 0) rfl
                have lw902 : (wo).cell? ⟨w.heap.size, 1, none⟩ = some (.slice B m k) := HXz.out.cell (i := 1) rfl
                have lw903 : (wo).cell? ⟨w.heap.size + 1, 0, none⟩ = some (.int .i64 x1) := HXu.out.cell (i := 0) rfl
                have lw904 : (wo).cell? ⟨w.heap.size + 1, 1, none⟩ = some (.int .i64 x2) := HXu.out.cell (i := 1) rfl
                have lw905 : (wo).cell? ⟨w.heap.size + 1 + 1, 0, none⟩ = some (.int .i64 y1) := HXv.out.cell (i := 0) rfl
                have lw906 : (wo).cell? ⟨w.heap.size + 1 + 1, 1, none⟩ = some (.int .i64 y2) := HXv.out.cell (i := 1) rfl
                go_wp2_with fail
                clear lw901 lw902 lw903 lw904 lw905 lw906
                refine (HTd.out _ HDz.out).mono ?_
                rintro e w907 ⟨rfl, hb907⟩
                have Da_908 := Lib.hid (HDz.out.bl hb907)
                have Dm_908 := Lib.hid (HDm.out.bl hb907)
                have D0_908 := Lib.hid (HXz.out.bl hb907)
                have X_908 := Lib.hid (HXu.out.bl hb907)
                have Y_908 := Lib.hid (HXv.out.bl hb907)
                have M9_908 := Lib.hid (H9.out.bl hb907)
                have Bel_908 := Lib.hid (bel_bl HZ.out hb907)
                clear HDz HDm HXz HXu HXv H9 HZ
                clear hb907
                cases tb with
                | true =>
                  have hnc : (cd : Int) - 0 = (cm : Int) := by have h1 := Hnc.out; simp at h1; omega
                  have hw1 : IntKind.i64.wrap ((cd : Int) - 0) = (cm : Int) := (IntWalk.i64_in _ (by omega)).trans hnc
                  have hcc : ((cm : Int) == (cm : Int)) = true := by simp
                  clear hnc
                  have hw0 : IntKind.i64.wrap (cd : Int) = (cm : Int) := (IntWalk.i64_in _ (by omega)).trans (by have h1 := Hnc.out; simp at h1; omega)
                  go_upto_region 22 with fail
                  have Da_909 := Lib.hid (Da_908.out.dr)
                  have Dm_909 := Lib.hid (Dm_908.out.dr)
                  have D0_909 := Lib.hid (D0_908.out.dr)
                  have X_909 := Lib.hid (X_908.out.dr)
                  have Y_909 := Lib.hid (Y_908.out.dr)
                  have M9_909 := Lib.hid (M9_908.out.dr)
                  have Bel_909 := Lib.hid (bel_dr Bel_908.out)
                  have ld910 : ∀ w', Kept Nil_ w907.drew w' → w'.cell? ⟨w.heap.size, 0, none⟩ = some (.slice A n c) := fun w' h => h.nil_cell (D0_909.out.cell (i := 0) rfl)
                  have ld911 : ∀ w', Kept Nil_ w907.drew w' → w'.cell? ⟨w.heap.size, 1, none⟩ = some (.slice B m k) := fun w' h => h.nil_cell (D0_909.out.cell (i := 1) rfl)
                  have ld912 : ∀ w', Kept Nil_ w907.drew w' → w'.cell? ⟨w.heap.size + 1, 0, none⟩ = some (.int .i64 x1) := fun w' h => h.nil_cell (X_909.out.cell (i := 0) rfl)
                  have ld913 : ∀ w', Kept Nil_ w907.drew w' → w'.cell? ⟨w.heap.size + 1, 1, none⟩ = some (.int .i64 x2) := fun w' h => h.nil_cell (X_909.out.cell (i := 1) rfl)
                  have ld914 : ∀ w', Kept Nil_ w907.drew w' → w'.cell? ⟨w.heap.size + 2, 0, none⟩ = some (.int .i64 y1) := fun w' h => h.nil_cell (Y_909.out.cell (i := 0) rfl)
                  have ld915 : ∀ w', Kept Nil_ w907.drew w' → w'.cell? ⟨w.heap.size + 2, 1, none⟩ = some (.int .i64 y2) := fun w' h => h.nil_cell (Y_909.out.cell (i := 1) rfl)
                  have ld916 : ∀ w', Kept Nil_ w907.drew w' → w'.cell? ⟨b9, 0, none⟩ = some (.slice A2 n c2) := fun w' h => h.nil_cell (M9_909.out.cell (i := 0) rfl)
                  have ld917 : ∀ w', Kept Nil_ w907.drew w' → w'.cell? ⟨b9, 1, none⟩ = some (.slice B3 (m + 1) k3) := fun w' h => h.nil_cell (M9_909.out.cell (i := 1) rfl)
                  refine wp_region_reg Nil_ (by kernel_rfl) ?_
                  apply wpR_next 0 (some 129)
                  · simp only [List.getElem?_toArray, List.getElem?_cons_succ, List.getElem?_cons_zero]; exact rfl
                  · rfl
                  · kernel_rfl
                  · kernel_rfl
                  · kernel_rfl
                  · exact fun _ _ _ _ h => h
                  apply Exists.intro
                  apply And.intro
                  · apply yr_run; rfl; intro w' hw'; go_simp; (try with_reducible rfl)
                  simp only [Act.put, List.setIfInBounds_toArray, List.set_cons_zero, List.set_cons_succ]
                  apply wpR_next 1 (some 130)
                  · simp only [List.getElem?_toArray, List.getElem?_cons_succ, List.getElem?_cons_zero]; exact rfl
                  · rfl
                  · kernel_rfl
                  · kernel_rfl
                  · kernel_rfl
                  · exact fun _ _ _ _ h => h
                  apply Exists.intro
                  apply And.intro
                  · apply yr_run; rfl; intro w' hw'; go_simp; (try with_reducible rfl)
                  simp only [Act.put, List.setIfInBounds_toArray, List.set_cons_zero, List.set_cons_succ]
                  apply wpR_next 2 (some 131)
                  · simp only [List.getElem?_toArray, List.getElem?_cons_succ, List.getElem?_cons_zero]; exact rfl
                  · rfl
                  · kernel_rfl
                  · kernel_rfl
                  · kernel_rfl
                  · exact fun _ _ _ _ h => h
                  apply Exists.intro
                  apply And.intro
                  · apply yr_run; rfl; intro w' hw'; go_simp; (try with_reducible rfl)
                  simp only [Act.put, List.setIfInBounds_toArray, List.set_cons_zero, List.set_cons_succ]
                  apply wpR_next 3 (some 132)
                  · simp only [List.getElem?_toArray, List.getElem?_cons_succ, List.getElem?_cons_zero]; exact rfl
                  · rfl
                  · kernel_rfl
                  · kernel_rfl
                  · kernel_rfl
                  · exact fun _ _ _ _ h => h
                  apply Exists.intro
                  apply And.intro
                  · apply yr_run; rfl; intro w' hw'; go_simp; (try with_reducible rfl)
                  simp only [Act.put, List.setIfInBounds_toArray, List.set_cons_zero, List.set_cons_succ]
                  apply wpR_next 4 (some 133)
                  · simp only [List.getElem?_toArray, List.getElem?_cons_succ, List.getElem?_cons_zero]; exact rfl
                  · rfl
                  · kernel_rfl
                  · kernel_rfl
                  · kernel_rfl
                  · exact fun _ _ _ _ h => h
                  apply Exists.intro
                  apply And.intro
                  · apply yr_run; rfl; intro w' hw'; go_simp; (try with_reducible rfl)
                  simp only [Act.put, List.setIfInBounds_toArray, List.set_cons_zero, List.set_cons_succ]
                  apply wpR_call 5 (some 134)
                  · simp only [List.getElem?_toArray, List.getElem?_cons_succ, List.getElem?_cons_zero]; exact rfl
                  · rfl
                  · kernel_rfl
                  · rfl
                  · intro w'; go_simp; first | done | exact ⟨rfl, rfl⟩ | with_reducible rfl
                  intro w' hw'
                  refine (HTm.out _ (Dm_909.out.bl hw')).mono ?_
                  rintro e w918 ⟨rfl, hb918⟩
                  have Da_918 := Lib.hid ((Da_909.out.bl hw').bl hb918)
                  have Dm_918 := Lib.hid ((Dm_909.out.bl hw').bl hb918)
                  have D0_918 := Lib.hid ((D0_909.out.bl hw').bl hb918)
                  have X_918 := Lib.hid ((X_909.out.bl hw').bl hb918)
                  have Y_918 := Lib.hid ((Y_909.out.bl hw').bl hb918)
                  have M9_918 := Lib.hid ((M9_909.out.bl hw').bl hb918)
                  have Bel_918 := Lib.hid (bel_bl (bel_bl Bel_909.out hw') hb918)
                  have ld919 := fun w'' (h : Kept Nil_ w918 w'') => ld910 w'' ((Kept.of_ext hw').trans ((Kept.of_below hb918).trans h))
                  have ld920 := fun w'' (h : Kept Nil_ w918 w'') => ld911 w'' ((Kept.of_ext hw').trans ((Kept.of_below hb918).trans h))
                  have ld921 := fun w'' (h : Kept Nil_ w918 w'') => ld912 w'' ((Kept.of_ext hw').trans ((Kept.of_below hb918).trans h))
                  have ld922 := fun w'' (h : Kept Nil_ w918 w'') => ld913 w'' ((Kept.of_ext hw').trans ((Kept.of_below hb918).trans h))
                  have ld923 := fun w'' (h : Kept Nil_ w918 w'') => ld914 w'' ((Kept.of_ext hw').trans ((Kept.of_below hb918).trans h))
                  have ld924 := fun w'' (h : Kept Nil_ w918 w'') => ld915 w'' ((Kept.of_ext hw').trans ((Kept.of_below hb918).trans h))
                  have ld925 := fun w'' (h : Kept Nil_ w918 w'') => ld916 w'' ((Kept.of_ext hw').trans ((Kept.of_below hb918).trans h))
                  have ld926 := fun w'' (h : Kept Nil_ w918 w'') => ld917 w'' ((Kept.of_ext hw').trans ((Kept.of_below hb918).trans h))
                  refine ⟨_, rfl, Kept.of_below hb918, ?_⟩
                  clear hw' hb918
                  simp only [Act.put, List.setIfInBounds_toArray, List.set_cons_zero, List.set_cons_succ]
                  apply wpR_next 6 (some 135)
                  · simp only [List.getElem?_toArray, List.getElem?_cons_succ, List.getElem?_cons_zero]; exact rfl
                  · rfl
                  · kernel_rfl
                  · kernel_rfl
                  · kernel_rfl
                  · exact fun _ _ _ _ h => h
                  apply Exists.intro
                  apply And.intro
                  · apply yr_run; rfl; intro w' hw'; go_simp; (try with_reducible rfl)
                  simp only [Act.put, List.setIfInBounds_toArray, List.set_cons_zero, List.set_cons_succ]
                  apply wpR_next 7 (some 136)
                  · simp only [List.getElem?_toArray, List.getElem?_cons_succ, List.getElem?_cons_zero]; exact rfl
                  · rfl
                  · kernel_rfl
                  · kernel_rfl
                  · kernel_rfl
                  · exact fun _ _ _ _ h => h
                  apply Exists.intro
                  apply And.intro
                  · apply yr_run; rfl; intro w' hw'; go_simp; (try with_reducible rfl)
                  simp only [Act.put, List.setIfInBounds_toArray, List.set_cons_zero, List.set_cons_succ]
                  apply wpR_next 8 (some 137)
                  · simp only [List.getElem?_toArray, List.getElem?_cons_succ, List.getElem?_cons_zero]; exact rfl
                  · rfl
                  · kernel_rfl
                  · kernel_rfl
                  · kernel_rfl
                  · exact fun _ _ _ _ h => h
                  apply Exists.intro
                  apply And.intro
                  · apply yr_run; rfl; intro w' hw'; go_simp; (try with_reducible rfl)
                  simp only [Act.put, List.setIfInBounds_toArray, List.set_cons_zero, List.set_cons_succ]
                  apply wpR_next 10 (some 139)
                  · simp only [List.getElem?_toArray, List.getElem?_cons_succ, List.getElem?_cons_zero]; exact rfl
                  · rfl
                  · kernel_rfl
                  · kernel_rfl
                  · kernel_rfl
                  · exact fun _ _ _ _ h => h
                  apply Exists.intro
                  apply And.intro
                  · apply yr_run; rfl; intro w' hw'; go_simp; (try with_reducible rfl)
                  simp only [Act.put, List.setIfInBounds_toArray, List.set_cons_zero, List.set_cons_succ]
                  apply wpR_next 12 (some 141)
                  · simp only [List.getElem?_toArray, List.getElem?_cons_succ, List.getElem?_cons_zero]; exact rfl
                  · rfl
                  · kernel_rfl
                  · kernel_rfl
                  · kernel_rfl
                  · exact fun _ _ _ _ h => h
                  apply Exists.intro
                  apply And.intro
                  · apply yr_run; rfl; intro w' hw'; go_simp; (try with_reducible rfl)
                  simp only [Act.put, List.setIfInBounds_toArray, List.set_cons_zero, List.set_cons_succ]
                  apply wpR_call 9 (some 138)
                  · simp only [List.getElem?_toArray, List.getElem?_cons_succ, List.getElem?_cons_zero]; exact rfl
                  · rfl
                  · kernel_rfl
                  · rfl
                  · intro w'; go_simp; first | done | exact ⟨rfl, rfl⟩ | with_reducible rfl
                  intro w' hw'
                  refine (HCm.out _ (Dm_918.out.bl hw')).mono ?_
                  rintro e w927 ⟨rfl, hb927⟩
                  have Da_927 := Lib.hid ((Da_918.out.bl hw').bl hb927)
                  have Dm_927 := Lib.hid ((Dm_918.out.bl hw').bl hb927)
                  have D0_927 := Lib.hid ((D0_918.out.bl hw').bl hb927)
                  have X_927 := Lib.hid ((X_918.out.bl hw').bl hb927)
                  have Y_927 := Lib.hid ((Y_918.out.bl hw').bl hb927)
                  have M9_927 := Lib.hid ((M9_918.out.bl hw').bl hb927)
                  have Bel_927 := Lib.hid (bel_bl (bel_bl Bel_918.out hw') hb927)
                  have ld928 := fun w'' (h : Kept Nil_ w927 w'') => ld919 w'' ((Kept.of_ext hw').trans ((Kept.of_below hb927).trans h))
                  have ld929 := fun w'' (h : Kept Nil_ w927 w'') => ld920 w'' ((Kept.of_ext hw').trans ((Kept.of_below hb927).trans h))
                  have ld930 := fun w'' (h : Kept Nil_ w927 w'') => ld921 w'' ((Kept.of_ext hw').trans ((Kept.of_below hb927).trans h))
                  have ld931 := fun w'' (h : Kept Nil_ w927 w'') => ld922 w'' ((Kept.of_ext hw').trans ((Kept.of_below hb927).trans h))
                  have ld932 := fun w'' (h : Kept Nil_ w927 w'') => ld923 w'' ((Kept.of_ext hw').trans ((Kept.of_below hb927).trans h))
                  have ld933 := fun w'' (h : Kept Nil_ w927 w'') => ld924 w'' ((Kept.of_ext hw').trans ((Kept.of_below hb927).trans h))
                  have ld934 := fun w'' (h : Kept Nil_ w927 w'') => ld925 w'' ((Kept.of_ext hw').trans ((Kept.of_below hb927).trans h))
                  have ld935 := fun w'' (h : Kept Nil_ w927 w'') => ld926 w'' ((Kept.of_ext hw').trans ((Kept.of_below hb927).trans h))
                  refine ⟨_, rfl, Kept.of_below hb927, ?_⟩
                  clear hw' hb927
                  simp only [Act.put, List.setIfInBounds_toArray, List.set_cons_zero, List.set_cons_succ]
                  apply wpR_call 11 (some 140)
                  · simp only [List.getElem?_toArray, List.getElem?_cons_succ, List.getElem?_cons_zero]; exact rfl
                  · rfl
                  · kernel_rfl
                  · rfl
                  · intro w'; go_simp; first | done | exact ⟨rfl, rfl⟩ | with_reducible rfl
                  intro w' hw'
                  refine (HCd.out _ (Da_927.out.bl hw')).mono ?_
                  rintro e w936 ⟨rfl, hb936⟩
                  have Da_936 := Lib.hid ((Da_927.out.bl hw').bl hb936)
                  have Dm_936 := Lib.hid ((Dm_927.out.bl hw').bl hb936)
                  have D0_936 := Lib.hid ((D0_927.out.bl hw').bl hb936)
                  have X_936 := Lib.hid ((X_927.out.bl hw').bl hb936)
                  have Y_936 := Lib.hid ((Y_927.out.bl hw').bl hb936)
                  have M9_936 := Lib.hid ((M9_927.out.bl hw').bl hb936)
                  have Bel_936 := Lib.hid (bel_bl (bel_bl Bel_927.out hw') hb936)
                  have ld937 := fun w'' (h : Kept Nil_ w936 w'') => ld928 w'' ((Kept.of_ext hw').trans ((Kept.of_below hb936).trans h))
                  have ld938 := fun w'' (h : Kept Nil_ w936 w'') => ld929 w'' ((Kept.of_ext hw').trans ((Kept.of_below hb936).trans h))
                  have ld939 := fun w'' (h : Kept Nil_ w936 w'') => ld930 w'' ((Kept.of_ext hw').trans ((Kept.of_below hb936).trans h))
                  have ld940 := fun w'' (h : Kept Nil_ w936 w'') => ld931 w'' ((Kept.of_ext hw').trans ((Kept.of_below hb936).trans h))
                  have ld941 := fun w'' (h : Kept Nil_ w936 w'') => ld932 w'' ((Kept.of_ext hw').trans ((Kept.of_below hb936).trans h))
                  have ld942 := fun w'' (h : Kept Nil_ w936 w'') => ld933 w'' ((Kept.of_ext hw').trans ((Kept.of_below hb936).trans h))
                  have ld943 := fun w'' (h : Kept Nil_ w936 w'') => ld934 w'' ((Kept.of_ext hw').trans ((Kept.of_below hb936).trans h))
                  have ld944 := fun w'' (h : Kept Nil_ w936 w'') => ld935 w'' ((Kept.of_ext hw').trans ((Kept.of_below hb936).trans h))
                  refine ⟨_, rfl, Kept.of_below hb936, ?_⟩
                  clear hw' hb936
                  simp only [Act.put, List.setIfInBounds_toArray, List.set_cons_zero, List.set_cons_succ]
                  apply wpR_next 13 (some 142)
                  · simp only [List.getElem?_toArray, List.getElem?_cons_succ, List.getElem?_cons_zero]; exact rfl
                  · rfl
                  · kernel_rfl
                  · kernel_rfl
                  · kernel_rfl
                  · exact fun _ _ _ _ h => h
                  apply Exists.intro
                  apply And.intro
                  · apply yr_run; rfl; intro w' hw'; go_simp; (try with_reducible rfl)
                  simp only [Act.put, List.setIfInBounds_toArray, List.set_cons_zero, List.set_cons_succ]
                  apply wpR_next 14 (some 143)
                  · simp only [List.getElem?_toArray, List.getElem?_cons_succ, List.getElem?_cons_zero]; exact rfl
                  · rfl
                  · kernel_rfl
                  · kernel_rfl
                  · kernel_rfl
                  · exact fun _ _ _ _ h => h
                  apply Exists.intro
                  apply And.intro
                  · apply yr_run; rfl; intro w' hw'; go_simp; (try with_reducible rfl)
                  simp only [Act.put, List.setIfInBounds_toArray, List.set_cons_zero, List.set_cons_succ]
                  apply wpR_next 15 (some 144)
                  · simp only [List.getElem?_toArray, List.getElem?_cons_succ, List.getElem?_cons_zero]; exact rfl
                  · rfl
                  · kernel_rfl
                  · kernel_rfl
                  · kernel_rfl
                  · exact fun _ _ _ _ h => h
                  apply Exists.intro
                  apply And.intro
                  · apply yr_run; rfl; intro w' hw'; go_simp; (try with_reducible rfl)
                  simp only [Act.put, List.setIfInBounds_toArray, List.set_cons_zero, List.set_cons_succ]
                  apply wpR_next 16 (some 6)
                  · simp only [List.getElem?_toArray, List.getElem?_cons_succ, List.getElem?_cons_zero]; exact rfl
                  · rfl
                  · kernel_rfl
                  · kernel_rfl
                  · kernel_rfl
                  · exact fun _ _ _ _ h => h
                  apply Exists.intro
                  apply And.intro
                  · apply yr_run; rfl; intro w' hw'; go_simp; (try with_reducible rfl)
                  simp only [Act.put, List.setIfInBounds_toArray, List.set_cons_zero, List.set_cons_succ]
                  refine wpR_done (by kernel_rfl) ?_ _
                  intro w945 hw'
                  have Da_946 := Lib.hid (Da_936.out.bl hw')
                  have Dm_946 := Lib.hid (Dm_936.out.bl hw')
                  have D0_946 := Lib.hid (D0_936.out.bl hw')
                  have X_946 := Lib.hid (X_936.out.bl hw')
                  have Y_946 := Lib.hid (Y_936.out.bl hw')
                  have M9_946 := Lib.hid (M9_936.out.bl hw')
                  have Bel_946 := Lib.hid (bel_bl Bel_936.out hw')
                  clear Da_936 Dm_936 D0_936 X_936 Y_936 M9_936 Bel_936
                  clear hw'
                  go_wp2
                  go_ret
                  exact ⟨by first | rfl | simp, HBd.out.trans (Bel_946.out.mono HBd.out.size)⟩
                | false =>
                  have hnc : (cd : Int) - 1 = (cm : Int) := by have h1 := Hnc.out; simp at h1; omega
                  have hw1 : IntKind.i64.wrap ((cd : Int) - 1) = (cm : Int) := (IntWalk.i64_in _ (by omega)).trans hnc
                  have hcc : ((cm : Int) == (cm : Int)) = true := by simp
                  clear hnc
                  go_upto_region 22 with fail
                  have Da_909 := Lib.hid (Da_908.out.dr)
                  have Dm_909 := Lib.hid (Dm_908.out.dr)
                  have D0_909 := Lib.hid (D0_908.out.dr)
                  have X_909 := Lib.hid (X_908.out.dr)
                  have Y_909 := Lib.hid (Y_908.out.dr)
                  have M9_909 := Lib.hid (M9_908.out.dr)
                  have Bel_909 := Lib.hid (bel_dr Bel_908.out)
                  have ld910 : ∀ w', Kept Nil_ w907.drew w' → w'.cell? ⟨w.heap.size, 0, none⟩ = some (.slice A n c) := fun w' h => h.nil_cell (D0_909.out.cell (i := 0) rfl)
                  have ld911 : ∀ w', Kept Nil_ w907.drew w' → w'.cell? ⟨w.heap.size, 1, none⟩ = some (.slice B m k) := fun w' h => h.nil_cell (D0_909.out.cell (i := 1) rfl)
                  have ld912 : ∀ w', Kept Nil_ w907.drew w' → w'.cell? ⟨w.heap.size + 1, 0, none⟩ = some (.int .i64 x1) := fun w' h => h.nil_cell (X_909.out.cell (i := 0) rfl)
                  have ld913 : ∀ w', Kept Nil_ w907.drew w' → w'.cell? ⟨w.heap.size + 1, 1, none⟩ = some (.int .i64 x2) := fun w' h => h.nil_cell (X_909.out.cell (i := 1) rfl)
                  have ld914 : ∀ w', Kept Nil_ w907.drew w' → w'.cell? ⟨w.heap.size + 2, 0, none⟩ = some (.int .i64 y1) := fun w' h => h.nil_cell (Y_909.out.cell (i := 0) rfl)
                  have ld915 : ∀ w', Kept Nil_ w907.drew w' → w'.cell? ⟨w.heap.size + 2, 1, none⟩ = some (.int .i64 y2) := fun w' h => h.nil_cell (Y_909.out.cell (i := 1) rfl)
                  have ld916 : ∀ w', Kept Nil_ w907.drew w' → w'.cell? ⟨b9, 0, none⟩ = some (.slice A2 n c2) := fun w' h => h.nil_cell (M9_909.out.cell (i := 0) rfl)
                  have ld917 : ∀ w', Kept Nil_ w907.drew w' → w'.cell? ⟨b9, 1, none⟩ = some (.slice B3 (m + 1) k3) := fun w' h => h.nil_cell (M9_909.out.cell (i := 1) rfl)
                  refine wp_region_reg Nil_ (by kernel_rfl) ?_
                  apply wpR_next 0 (some 129)
                  · simp only [List.getElem?_toArray, List.getElem?_cons_succ, List.getElem?_cons_zero]; exact rfl
                  · rfl
                  · kernel_rfl
                  · kernel_rfl
                  · kernel_rfl
                  · exact fun _ _ _ _ h => h
                  apply Exists.intro
                  apply And.intro
                  · apply yr_run; rfl; intro w' hw'; go_simp; (try with_reducible rfl)
                  simp only [Act.put, List.setIfInBounds_toArray, List.set_cons_zero, List.set_cons_succ]
                  apply wpR_next 1 (some 130)
                  · simp only [List.getElem?_toArray, List.getElem?_cons_succ, List.getElem?_cons_zero]; exact rfl
                  · rfl
                  · kernel_rfl
                  · kernel_rfl
                  · kernel_rfl
                  · exact fun _ _ _ _ h => h
                  apply Exists.intro
                  apply And.intro
                  · apply yr_run; rfl; intro w' hw'; go_simp; (try with_reducible rfl)
                  simp only [Act.put, List.setIfInBounds_toArray, List.set_cons_zero, List.set_cons_succ]
                  apply wpR_next 2 (some 131)
                  · simp only [List.getElem?_toArray, List.getElem?_cons_succ, List.getElem?_cons_zero]; exact rfl
                  · rfl
                  · kernel_rfl
                  · kernel_rfl
                  · kernel_rfl
                  · exact fun _ _ _ _ h => h
                  apply Exists.intro
                  apply And.intro
                  · apply yr_run; rfl; intro w' hw'; go_simp; (try with_reducible rfl)
                  simp only [Act.put, List.setIfInBounds_toArray, List.set_cons_zero, List.set_cons_succ]
                  apply wpR_next 3 (some 132)
                  · simp only [List.getElem?_toArray, List.getElem?_cons_succ, List.getElem?_cons_zero]; exact rfl
                  · rfl
                  · kernel_rfl
                  · kernel_rfl
                  · kernel_rfl
                  · exact fun _ _ _ _ h => h
                  apply Exists.intro
                  apply And.intro
                  · apply yr_run; rfl; intro w' hw'; go_simp; (try with_reducible rfl)
                  simp only [Act.put, List.setIfInBounds_toArray, List.set_cons_zero, List.set_cons_succ]
                  apply wpR_next 4 (some 133)
                  · simp only [List.getElem?_toArray, List.getElem?_cons_succ, List.getElem?_cons_zero]; exact rfl
                  · rfl
                  · kernel_rfl
                  · kernel_rfl
                  · kernel_rfl
                  · exact fun _ _ _ _ h => h
                  apply Exists.intro
                  apply And.intro
                  · apply yr_run; rfl; intro w' hw'; go_simp; (try with_reducible rfl)
                  simp only [Act.put, List.setIfInBounds_toArray, List.set_cons_zero, List.set_cons_succ]
                  apply wpR_call 5 (some 134)
                  · simp only [List.getElem?_toArray, List.getElem?_cons_succ, List.getElem?_cons_zero]; exact rfl
                  · rfl
                  · kernel_rfl
                  · rfl
                  · intro w'; go_simp; first | done | exact ⟨rfl, rfl⟩ | with_reducible rfl
                  intro w' hw'
                  refine (HTm.out _ (Dm_909.out.bl hw')).mono ?_
                  rintro e w918 ⟨rfl, hb918⟩
                  have Da_918 := Lib.hid ((Da_909.out.bl hw').bl hb918)
                  have Dm_918 := Lib.hid ((Dm_909.out.bl hw').bl hb918)
                  have D0_918 := Lib.hid ((D0_909.out.bl hw').bl hb918)
                  have X_918 := Lib.hid ((X_909.out.bl hw').bl hb918)
                  have Y_918 := Lib.hid ((Y_909.out.bl hw').bl hb918)
                  have M9_918 := Lib.hid ((M9_909.out.bl hw').bl hb918)
                  have Bel_918 := Lib.hid (bel_bl (bel_bl Bel_909.out hw') hb918)
                  have ld919 := fun w'' (h : Kept Nil_ w918 w'') => ld910 w'' ((Kept.of_ext hw').trans ((Kept.of_below hb918).trans h))
                  have ld920 := fun w'' (h : Kept Nil_ w918 w'') => ld911 w'' ((Kept.of_ext hw').trans ((Kept.of_below hb918).trans h))
                  have ld921 := fun w'' (h : Kept Nil_ w918 w'') => ld912 w'' ((Kept.of_ext hw').trans ((Kept.of_below hb918).trans h))
                  have ld922 := fun w'' (h : Kept Nil_ w918 w'') => ld913 w'' ((Kept.of_ext hw').trans ((Kept.of_below hb918).trans h))
                  have ld923 := fun w'' (h : Kept Nil_ w918 w'') => ld914 w'' ((Kept.of_ext hw').trans ((Kept.of_below hb918).trans h))
                  have ld924 := fun w'' (h : Kept Nil_ w918 w'') => ld915 w'' ((Kept.of_ext hw').trans ((Kept.of_below hb918).trans h))
                  have ld925 := fun w'' (h : Kept Nil_ w918 w'') => ld916 w'' ((Kept.of_ext hw').trans ((Kept.of_below hb918).trans h))
                  have ld926 := fun w'' (h : Kept Nil_ w918 w'') => ld917 w'' ((Kept.of_ext hw').trans ((Kept.of_below hb918).trans h))
                  refine ⟨_, rfl, Kept.of_below hb918, ?_⟩
                  clear hw' hb918
                  simp only [Act.put, List.setIfInBounds_toArray, List.set_cons_zero, List.set_cons_succ]
                  apply wpR_next 6 (some 135)
                  · simp only [List.getElem?_toArray, List.getElem?_cons_succ, List.getElem?_cons_zero]; exact rfl
                  · rfl
                  · kernel_rfl
                  · kernel_rfl
                  · kernel_rfl
                  · exact fun _ _ _ _ h => h
                  apply Exists.intro
                  apply And.intro
                  · apply yr_run; rfl; intro w' hw'; go_simp; (try with_reducible rfl)
                  simp only [Act.put, List.setIfInBounds_toArray, List.set_cons_zero, List.set_cons_succ]
                  apply wpR_next 7 (some 136)
                  · simp only [List.getElem?_toArray, List.getElem?_cons_succ, List.getElem?_cons_zero]; exact rfl
                  · rfl
                  · kernel_rfl
                  · kernel_rfl
                  · kernel_rfl
                  · exact fun _ _ _ _ h => h
                  apply Exists.intro
                  apply And.intro
                  · apply yr_run; rfl; intro w' hw'; go_simp; (try with_reducible rfl)
                  simp only [Act.put, List.setIfInBounds_toArray, List.set_cons_zero, List.set_cons_succ]
                  apply wpR_next 8 (some 137)
                  · simp only [List.getElem?_toArray, List.getElem?_cons_succ, List.getElem?_cons_zero]; exact rfl
                  · rfl
                  · kernel_rfl
                  · kernel_rfl
                  · kernel_rfl
                  · exact fun _ _ _ _ h => h
                  apply Exists.intro
                  apply And.intro
                  · apply yr_run; rfl; intro w' hw'; go_simp; (try with_reducible rfl)
                  simp only [Act.put, List.setIfInBounds_toArray, List.set_cons_zero, List.set_cons_succ]
                  apply wpR_next 10 (some 139)
                  · simp only [List.getElem?_toArray, List.getElem?_cons_succ, List.getElem?_cons_zero]; exact rfl
                  · rfl
                  · kernel_rfl
                  · kernel_rfl
                  · kernel_rfl
                  · exact fun _ _ _ _ h => h
                  apply Exists.intro
                  apply And.intro
                  · apply yr_run; rfl; intro w' hw'; go_simp; (try with_reducible rfl)
                  simp only [Act.put, List.setIfInBounds_toArray, List.set_cons_zero, List.set_cons_succ]
                  apply wpR_next 12 (some 141)
                  · simp only [List.getElem?_toArray, List.getElem?_cons_succ, List.getElem?_cons_zero]; exact rfl
                  · rfl
                  · kernel_rfl
                  · kernel_rfl
                  · kernel_rfl
                  · exact fun _ _ _ _ h => h
                  apply Exists.intro
                  apply And.intro
                  · apply yr_run; rfl; intro w' hw'; go_simp; (try with_reducible rfl)
                  simp only [Act.put, List.setIfInBounds_toArray, List.set_cons_zero, List.set_cons_succ]
                  apply wpR_call 9 (some 138)
                  · simp only [List.getElem?_toArray, List.getElem?_cons_succ, List.getElem?_cons_zero]; exact rfl
                  · rfl
                  · kernel_rfl
                  · rfl
                  · intro w'; go_simp; first | done | exact ⟨rfl, rfl⟩ | with_reducible rfl
                  intro w' hw'
                  refine (HCm.out _ (Dm_918.out.bl hw')).mono ?_
                  rintro e w927 ⟨rfl, hb927⟩
                  have Da_927 := Lib.hid ((Da_918.out.bl hw').bl hb927)
                  have Dm_927 := Lib.hid ((Dm_918.out.bl hw').bl hb927)
                  have D0_927 := Lib.hid ((D0_918.out.bl hw').bl hb927)
                  have X_927 := Lib.hid ((X_918.out.bl hw').bl hb927)
                  have Y_927 := Lib.hid ((Y_918.out.bl hw').bl hb927)
                  have M9_927 := Lib.hid ((M9_918.out.bl hw').bl hb927)
                  have Bel_927 := Lib.hid (bel_bl (bel_bl Bel_918.out hw') hb927)
                  have ld928 := fun w'' (h : Kept Nil_ w927 w'') => ld919 w'' ((Kept.of_ext hw').trans ((Kept.of_below hb927).trans h))
                  have ld929 := fun w'' (h : Kept Nil_ w927 w'') => ld920 w'' ((Kept.of_ext hw').trans ((Kept.of_below hb927).trans h))
                  have ld930 := fun w'' (h : Kept Nil_ w927 w'') => ld921 w'' ((Kept.of_ext hw').trans ((Kept.of_below hb927).trans h))
                  have ld931 := fun w'' (h : Kept Nil_ w927 w'') => ld922 w'' ((Kept.of_ext hw').trans ((Kept.of_below hb927).trans h))
                  have ld932 := fun w'' (h : Kept Nil_ w927 w'') => ld923 w'' ((Kept.of_ext hw').trans ((Kept.of_below hb927).trans h))
                  have ld933 := fun w'' (h : Kept Nil_ w927 w'') => ld924 w'' ((Kept.of_ext hw').trans ((Kept.of_below hb927).trans h))
                  have ld934 := fun w'' (h : Kept Nil_ w927 w'') => ld925 w'' ((Kept.of_ext hw').trans ((Kept.of_below hb927).trans h))
                  have ld935 := fun w'' (h : Kept Nil_ w927 w'') => ld926 w'' ((Kept.of_ext hw').trans ((Kept.of_below hb927).trans h))
                  refine ⟨_, rfl, Kept.of_below hb927, ?_⟩
                  clear hw' hb927
                  simp only [Act.put, List.setIfInBounds_toArray, List.set_cons_zero, List.set_cons_succ]
                  apply wpR_call 11 (some 140)
                  · simp only [List.getElem?_toArray, List.getElem?_cons_succ, List.getElem?_cons_zero]; exact rfl
                  · rfl
                  · kernel_rfl
                  · rfl
                  · intro w'; go_simp; first | done | exact ⟨rfl, rfl⟩ | with_reducible rfl
                  intro w' hw'
                  refine (HCd.out _ (Da_927.out.bl hw')).mono ?_
                  rintro e w936 ⟨rfl, hb936⟩
                  have Da_936 := Lib.hid ((Da_927.out.bl hw').bl hb936)
                  have Dm_936 := Lib.hid ((Dm_927.out.bl hw').bl hb936)
                  have D0_936 := Lib.hid ((D0_927.out.bl hw').bl hb936)
                  have X_936 := Lib.hid ((X_927.out.bl hw').bl hb936)
                  have Y_936 := Lib.hid ((Y_927.out.bl hw').bl hb936)
                  have M9_936 := Lib.hid ((M9_927.out.bl hw').bl hb936)
                  have Bel_936 := Lib.hid (bel_bl (bel_bl Bel_927.out hw') hb936)
                  have ld937 := fun w'' (h : Kept Nil_ w936 w'') => ld928 w'' ((Kept.of_ext hw').trans ((Kept.of_below hb936).trans h))
                  have ld938 := fun w'' (h : Kept Nil_ w936 w'') => ld929 w'' ((Kept.of_ext hw').trans ((Kept.of_below hb936).trans h))
                  have ld939 := fun w'' (h : Kept Nil_ w936 w'') => ld930 w'' ((Kept.of_ext hw').trans ((Kept.of_below hb936).trans h))
                  have ld940 := fun w'' (h : Kept Nil_ w936 w'') => ld931 w'' ((Kept.of_ext hw').trans ((Kept.of_below hb936).trans h))
                  have ld941 := fun w'' (h : Kept Nil_ w936 w'') => ld932 w'' ((Kept.of_ext hw').trans ((Kept.of_below hb936).trans h))
                  have ld942 := fun w'' (h : Kept Nil_ w936 w'') => ld933 w'' ((Kept.of_ext hw').trans ((Kept.of_below hb936).trans h))
                  have ld943 := fun w'' (h : Kept Nil_ w936 w'') => ld934 w'' ((Kept.of_ext hw').trans ((Kept.of_below hb936).trans h))
                  have ld944 := fun w'' (h : Kept Nil_ w936 w'') => ld935 w'' ((Kept.of_ext hw').trans ((Kept.of_below hb936).trans h))
                  refine ⟨_, rfl, Kept.of_below hb936, ?_⟩
                  clear hw' hb936
                  simp only [Act.put, List.setIfInBounds_toArray, List.set_cons_zero, List.set_cons_succ]
                  apply wpR_next 13 (some 142)
                  · simp only [List.getElem?_toArray, List.getElem?_cons_succ, List.getElem?_cons_zero]; exact rfl
                  · rfl
                  · kernel_rfl
                  · kernel_rfl
                  · kernel_rfl
                  · exact fun _ _ _ _ h => h
                  apply Exists.intro
                  apply And.intro
                  · apply yr_run; rfl; intro w' hw'; go_simp; (try with_reducible rfl)
                  simp only [Act.put, List.setIfInBounds_toArray, List.set_cons_zero, List.set_cons_succ]
                  apply wpR_next 14 (some 143)
                  · simp only [List.getElem?_toArray, List.getElem?_cons_succ, List.getElem?_cons_zero]; exact rfl
                  · rfl
                  · kernel_rfl
                  · kernel_rfl
                  · kernel_rfl
                  · exact fun _ _ _ _ h => h
                  apply Exists.intro
                  apply And.intro
                  · apply yr_run; rfl; intro w' hw'; go_simp; (try with_reducible rfl)
                  simp only [Act.put, List.setIfInBounds_toArray, List.set_cons_zero, List.set_cons_succ]
                  apply wpR_next 15 (some 144)
                  · simp only [List.getElem?_toArray, List.getElem?_cons_succ, List.getElem?_cons_zero]; exact rfl
                  · rfl
                  · kernel_rfl
                  · kernel_rfl
                  · kernel_rfl
                  · exact fun _ _ _ _ h => h
                  apply Exists.intro
                  apply And.intro
                  · apply yr_run; rfl; intro w' hw'; go_simp; (try with_reducible rfl)
                  simp only [Act.put, List.setIfInBounds_toArray, List.set_cons_zero, List.set_cons_succ]
                  apply wpR_next 16 (some 6)
                  · simp only [List.getElem?_toArray, List.getElem?_cons_succ, List.getElem?_cons_zero]; exact rfl
                  · rfl
                  · kernel_rfl
                  · kernel_rfl
                  · kernel_rfl
                  · exact fun _ _ _ _ h => h
                  apply Exists.intro
                  apply And.intro
                  · apply yr_run; rfl; intro w' hw'; go_simp; (try with_reducible rfl)
                  simp only [Act.put, List.setIfInBounds_toArray, List.set_cons_zero, List.set_cons_succ]
                  refine wpR_done (by kernel_rfl) ?_ _
                  intro w945 hw'
                  have Da_946 := Lib.hid (Da_936.out.bl hw')
                  have Dm_946 := Lib.hid (Dm_936.out.bl hw')
                  have D0_946 := Lib.hid (D0_936.out.bl hw')
                  have X_946 := Lib.hid (X_936.out.bl hw')
                  have Y_946 := Lib.hid (Y_936.out.bl hw')
                  have M9_946 := Lib.hid (M9_936.out.bl hw')
                  have Bel_946 := Lib.hid (bel_bl Bel_936.out hw')
                  clear Da_936 Dm_936 D0_936 X_936 Y_936 M9_936 Bel_936
                  clear hw'
                  go_wp2
                  go_ret
                  exact ⟨by first | rfl | simp, HBd.out.trans (Bel_946.out.mono HBd.out.size)⟩
end Go.Proofs.Ytjkbcpikdkidhaa
