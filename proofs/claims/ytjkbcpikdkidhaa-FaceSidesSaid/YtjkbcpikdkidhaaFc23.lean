/- FaceSides' walk. -/
import Derived.Test.YtjkbcpikdkidhaaFc17
import Derived.Test.YtjkbcpikdkidhaaGM
namespace Go.Proofs.Ytjkbcpikdkidhaa
open Go.RowKit
set_option linter.unusedSimpArgs false
set_option linter.unusedVariables false


def insT (b : Bool) (x d : D) (R : List D) : List D := if b then turnD (insR R x d) else R
def gI (p : I2) (x d : D) (v : VC) : (Int × Int) × List D × ByteArray × Int := vS (mI p x d v)
theorem orbs_get3 {Vs : List VC} {Es : List EC} (h : Formed Vs Es) : ∃ P, Reps (phF Vs) (ringsOf Vs) P ∧ orbsF (phF Vs) 80 (dsE Es) [] = P.map (fun x => orbT (phF Vs) x 80 x) := orbs_reps h.phi h.l80 (dsE Es) h.ds
theorem gI_eq (p : I2) (x d : D) (v : VC) : gI p x d v = (v.1, insT (decide (v.1 = p)) x d v.2.1.2.2.2, v.2.2.1, v.2.2.2) := by
  unfold gI mI insT
  by_cases h : v.1 = p
  · rw [if_pos h, decide_eq_true h]; rfl
  · rw [if_neg h, decide_eq_false h]; rfl
theorem insT_len (b : Bool) (x d : D) (R : List D) : (insT b x d R).length ≤ R.length + 1 := by
  unfold insT
  split
  · rw [turnD_len]; exact insR_len _ _ _
  · omega
theorem mI_len (p : I2) (x d : D) (v : VC) : (mI p x d v).2.1.2.2.2.length ≤ v.2.1.2.2.2.length + 1 := by
  unfold mI
  split
  · show (turnD (insR v.2.1.2.2.2 x d)).length ≤ _
    rw [turnD_len]; exact insR_len _ _ _
  · omega
set_option maxRecDepth 100000 in
set_option maxHeartbeats 4000000 in
theorem law_sides (A : Option Addr) (n c : Nat) (Vs : List VC) (B : Option Addr) (m k : Nat) (Es : List EC) (x1 x2 x3 y1 y2 y3 : Int) (hx : In64 x1 ∧ In64 x2 ∧ In64 x3) (hy : In64 y1 ∧ In64 y2 ∧ In64 y3) (w : World) (h : DgIn w A n c Vs B m k Es) (hg : GoodD Vs Es) (hz : SmD n m Vs) :
    Calls Try.prog 7 #[.agg #[.slice A n c, .slice B m k], .agg #[.int .i64 x1, .int .i64 x2, .int .i64 x3], .agg #[.int .i64 y1, .int .i64 y2, .int .i64 y3]] w fun e w' => e = .returned (.bool true) ∧ Below w.heap.size w w' := by
  have HFo := Lib.hid (fun W (h : DgIn W A n c Vs B m k Es) => formed05_any A n c Vs B m k Es W h hg hz)
  obtain ⟨fo, gfo⟩ : ∃ z, (formD Vs Es == 0) = z := ⟨_, rfl⟩
  rw [gfo] at HFo
  have Gfo := Lib.hid gfo
  have HDa := Lib.hid h
  have HGd := Lib.hid hg
  have Hz := Lib.hid hz
  have HAx := Lib.hid (fun W (h : DgIn W A n c Vs B m k Es) => rat_any A n c Vs B m k Es x1 x2 x3 W h (by have := hz.n; omega) hz.r)
  have HAy := Lib.hid (fun W (h : DgIn W A n c Vs B m k Es) => rat_any A n c Vs B m k Es y1 y2 y3 W h (by have := hz.n; omega) hz.r)
  have HEn := Lib.hid (fun W (h : DgIn W A n c Vs B m k Es) => rfindE A n c Vs B m k Es 8 1048576 W h.e (by have := hz.m; omega))
  have hse := fndE_some Es (8, 1048576)
  obtain ⟨⟨⟨a1, a2⟩, one⟩, gx⟩ : ∃ z, atV Vs (x1, x2, x3) = z := ⟨_, rfl⟩
  obtain ⟨⟨⟨b1, b2⟩, two⟩, gy⟩ : ∃ z, atV Vs (y1, y2, y3) = z := ⟨_, rfl⟩
  obtain ⟨⟨⟨⟨e1, e2⟩, el, et⟩, th⟩, ge⟩ : ∃ z, fndE Es (8, 1048576) = z := ⟨_, rfl⟩
  rw [gx] at HAx
  rw [gy] at HAy
  rw [ge] at HEn hse
  have Gx := Lib.hid gx
  have Gy := Lib.hid gy
  have Hse : RowKit.Hid (th = true ↔ ∃ e ∈ Es, e.1 = (8, 1048576)) := Lib.hid hse
  replace HAx : RowKit.Hid (∀ W, DgIn W A n c Vs B m k Es → Calls Try.prog 31 #[.agg #[.slice A n c, .slice B m k], .agg #[.int .i64 x1, .int .i64 x2, .int .i64 x3]] W fun e w' => e = .returned (.tuple #[.agg #[.int .i64 a1, .int .i64 a2], .bool one]) ∧ Below W.heap.size W w') := HAx
  replace HAy : RowKit.Hid (∀ W, DgIn W A n c Vs B m k Es → Calls Try.prog 31 #[.agg #[.slice A n c, .slice B m k], .agg #[.int .i64 y1, .int .i64 y2, .int .i64 y3]] W fun e w' => e = .returned (.tuple #[.agg #[.int .i64 b1, .int .i64 b2], .bool two]) ∧ Below W.heap.size W w') := HAy
  replace HEn : RowKit.Hid (∀ W, DgIn W A n c Vs B m k Es → Calls Try.prog 32 #[.agg #[.slice A n c, .slice B m k], .agg #[.int .i64 8, .int .i64 1048576]] W fun e w' => e = .returned (.tuple #[.agg #[.int .i64 e1, .int .i64 e2, .string el, .int .i64 et], .bool th]) ∧ Below W.heap.size W w') := HEn
  have Hix := Lib.hid hx
  have Hiy := Lib.hid hy
  clear gx gy ge hse hx hy
  clear h hg hz gfo
  go_enter Try.func7, Try.ntmps7
  go_wp2_with fail
  refine (shown05_any _).mono ?_
  rintro e w1 ⟨rfl, hb1⟩
  have Da_2 := Lib.hid ((((HDa.out.al (.cells #[.slice A n c, .slice B m k] 25)).al (.cells #[.int .i64 x1, .int .i64 x2, .int .i64 x3] 29)).al (.cells #[.int .i64 y1, .int .i64 y2, .int .i64 y3] 29)).bl hb1)
  have D0_2 := Lib.hid ((((show Whole (w.alloc (.cells #[.slice A n c, .slice B m k] 25)) (w.heap.size) (25) ([.slice A n c, .slice B m k]) from Whole.new2 (by first | rfl | simp)).al (.cells #[.int .i64 x1, .int .i64 x2, .int .i64 x3] 29)).al (.cells #[.int .i64 y1, .int .i64 y2, .int .i64 y3] 29)).bl hb1)
  have X_2 := Lib.hid (((show Whole ((w.alloc (.cells #[.slice A n c, .slice B m k] 25)).alloc (.cells #[.int .i64 x1, .int .i64 x2, .int .i64 x3] 29)) ((w.heap.size + 1)) (29) ([.int .i64 x1, .int .i64 x2, .int .i64 x3]) from Whole.new2 (by first | rfl | simp)).al (.cells #[.int .i64 y1, .int .i64 y2, .int .i64 y3] 29)).bl hb1)
  have Y_2 := Lib.hid ((show Whole (((w.alloc (.cells #[.slice A n c, .slice B m k] 25)).alloc (.cells #[.int .i64 x1, .int .i64 x2, .int .i64 x3] 29)).alloc (.cells #[.int .i64 y1, .int .i64 y2, .int .i64 y3] 29)) ((w.heap.size + 1 + 1)) (29) ([.int .i64 y1, .int .i64 y2, .int .i64 y3]) from Whole.new2 (by first | rfl | simp)).bl hb1)
  have Bel_2 := Lib.hid (bel_bl (bel_al (bel_al (bel_al (Below.refl _ w) (.cells #[.slice A n c, .slice B m k] 25)) (.cells #[.int .i64 x1, .int .i64 x2, .int .i64 x3] 29)) (.cells #[.int .i64 y1, .int .i64 y2, .int .i64 y3] 29)) hb1)
  clear HDa
  clear hb1
  have LO_D0_3 : RowKit.Hid (w.heap.size ≤ w.heap.size) := Lib.hid (by omega)
  have LO_X_4 : RowKit.Hid (w.heap.size ≤ (w.heap.size + 1)) := Lib.hid (by omega)
  have NE_D0_X : RowKit.Hid (w.heap.size ≠ (w.heap.size + 1)) := Lib.hid (by omega)
  have LO_Y_5 : RowKit.Hid (w.heap.size ≤ (w.heap.size + 1 + 1)) := Lib.hid (by omega)
  have NE_D0_Y : RowKit.Hid (w.heap.size ≠ (w.heap.size + 1 + 1)) := Lib.hid (by omega)
  have NE_X_Y : RowKit.Hid ((w.heap.size + 1) ≠ (w.heap.size + 1 + 1)) := Lib.hid (by omega)
  have lw6 : (w1).cell? ⟨w.heap.size, 0, none⟩ = some (.slice A n c) := D0_2.out.cell (i := 0) rfl
  have lw7 : (w1).cell? ⟨w.heap.size, 1, none⟩ = some (.slice B m k) := D0_2.out.cell (i := 1) rfl
  go_wp2_with fail
  clear lw6 lw7
  refine (HFo.out _ Da_2.out).mono ?_
  rintro e w8 ⟨rfl, hb8⟩
  have Da_9 := Lib.hid (Da_2.out.bl hb8)
  have D0_9 := Lib.hid (D0_2.out.bl hb8)
  have X_9 := Lib.hid (X_2.out.bl hb8)
  have Y_9 := Lib.hid (Y_2.out.bl hb8)
  have Bel_9 := Lib.hid (bel_bl Bel_2.out hb8)
  clear Da_2 D0_2 X_2 Y_2 Bel_2
  clear hb8
  have lw10 : (w8).cell? ⟨w.heap.size, 0, none⟩ = some (.slice A n c) := D0_9.out.cell (i := 0) rfl
  have lw11 : (w8).cell? ⟨w.heap.size, 1, none⟩ = some (.slice B m k) := D0_9.out.cell (i := 1) rfl
  have lw12 : (w8).cell? ⟨(w.heap.size + 1), 0, none⟩ = some (.int .i64 x1) := X_9.out.cell (i := 0) rfl
  have lw13 : (w8).cell? ⟨(w.heap.size + 1), 1, none⟩ = some (.int .i64 x2) := X_9.out.cell (i := 1) rfl
  have lw14 : (w8).cell? ⟨(w.heap.size + 1), 2, none⟩ = some (.int .i64 x3) := X_9.out.cell (i := 2) rfl
  go_wp2_with fail
  clear lw10 lw11 lw12 lw13 lw14
  refine (HAx.out _ Da_9.out).mono ?_
  rintro e w15 ⟨rfl, hb15⟩
  have Da_16 := Lib.hid (Da_9.out.bl hb15)
  have D0_16 := Lib.hid (D0_9.out.bl hb15)
  have X_16 := Lib.hid (X_9.out.bl hb15)
  have Y_16 := Lib.hid (Y_9.out.bl hb15)
  have Bel_16 := Lib.hid (bel_bl Bel_9.out hb15)
  clear Da_9 D0_9 X_9 Y_9 Bel_9
  clear hb15
  have lw17 : ((w15.alloc (.cells #[.int .i64 a1, .int .i64 a2] 27))).cell? ⟨w.heap.size, 0, none⟩ = some (.slice A n c) := (D0_16.out.al (.cells #[.int .i64 a1, .int .i64 a2] 27)).cell (i := 0) rfl
  have lw18 : ((w15.alloc (.cells #[.int .i64 a1, .int .i64 a2] 27))).cell? ⟨w.heap.size, 1, none⟩ = some (.slice B m k) := (D0_16.out.al (.cells #[.int .i64 a1, .int .i64 a2] 27)).cell (i := 1) rfl
  have lw19 : ((w15.alloc (.cells #[.int .i64 a1, .int .i64 a2] 27))).cell? ⟨(w.heap.size + 1 + 1), 0, none⟩ = some (.int .i64 y1) := (Y_16.out.al (.cells #[.int .i64 a1, .int .i64 a2] 27)).cell (i := 0) rfl
  have lw20 : ((w15.alloc (.cells #[.int .i64 a1, .int .i64 a2] 27))).cell? ⟨(w.heap.size + 1 + 1), 1, none⟩ = some (.int .i64 y2) := (Y_16.out.al (.cells #[.int .i64 a1, .int .i64 a2] 27)).cell (i := 1) rfl
  have lw21 : ((w15.alloc (.cells #[.int .i64 a1, .int .i64 a2] 27))).cell? ⟨(w.heap.size + 1 + 1), 2, none⟩ = some (.int .i64 y3) := (Y_16.out.al (.cells #[.int .i64 a1, .int .i64 a2] 27)).cell (i := 2) rfl
  go_wp2_with fail
  clear lw17 lw18 lw19 lw20 lw21
  refine (HAy.out _ (Da_16.out.al (.cells #[.int .i64 a1, .int .i64 a2] 27))).mono ?_
  rintro e w22 ⟨rfl, hb22⟩
  have Da_23 := Lib.hid ((Da_16.out.al (.cells #[.int .i64 a1, .int .i64 a2] 27)).bl hb22)
  have D0_23 := Lib.hid ((D0_16.out.al (.cells #[.int .i64 a1, .int .i64 a2] 27)).bl hb22)
  have X_23 := Lib.hid ((X_16.out.al (.cells #[.int .i64 a1, .int .i64 a2] 27)).bl hb22)
  have Y_23 := Lib.hid ((Y_16.out.al (.cells #[.int .i64 a1, .int .i64 a2] 27)).bl hb22)
  have P_23 := Lib.hid ((show Whole (w15.alloc (.cells #[.int .i64 a1, .int .i64 a2] 27)) (w15.heap.size) (27) ([.int .i64 a1, .int .i64 a2]) from Whole.new2 (by first | rfl | simp)).bl hb22)
  have Bel_23 := Lib.hid (bel_bl (bel_al Bel_16.out (.cells #[.int .i64 a1, .int .i64 a2] 27)) hb22)
  clear Da_16 D0_16 X_16 Y_16 Bel_16
  clear hb22
  have lw24 : (((w22.alloc (.cells #[.int .i64 b1, .int .i64 b2] 27)).alloc (.cells #[.int .i64 8, .int .i64 1048576] 27))).cell? ⟨w.heap.size, 0, none⟩ = some (.slice A n c) := ((D0_23.out.al (.cells #[.int .i64 b1, .int .i64 b2] 27)).al (.cells #[.int .i64 8, .int .i64 1048576] 27)).cell (i := 0) rfl
  have lw25 : (((w22.alloc (.cells #[.int .i64 b1, .int .i64 b2] 27)).alloc (.cells #[.int .i64 8, .int .i64 1048576] 27))).cell? ⟨w.heap.size, 1, none⟩ = some (.slice B m k) := ((D0_23.out.al (.cells #[.int .i64 b1, .int .i64 b2] 27)).al (.cells #[.int .i64 8, .int .i64 1048576] 27)).cell (i := 1) rfl
  have lw26 : (((w22.alloc (.cells #[.int .i64 b1, .int .i64 b2] 27)).alloc (.cells #[.int .i64 8, .int .i64 1048576] 27))).cell? ⟨w22.heap.size + 1, 0, none⟩ = some (.int .i64 8) := (show Whole ((w22.alloc (.cells #[.int .i64 b1, .int .i64 b2] 27)).alloc (.cells #[.int .i64 8, .int .i64 1048576] 27)) ((w22.heap.size + 1)) (27) ([.int .i64 8, .int .i64 1048576]) from Whole.new2 (by first | rfl | simp)).cell (i := 0) rfl
  have lw27 : (((w22.alloc (.cells #[.int .i64 b1, .int .i64 b2] 27)).alloc (.cells #[.int .i64 8, .int .i64 1048576] 27))).cell? ⟨w22.heap.size + 1, 1, none⟩ = some (.int .i64 1048576) := (show Whole ((w22.alloc (.cells #[.int .i64 b1, .int .i64 b2] 27)).alloc (.cells #[.int .i64 8, .int .i64 1048576] 27)) ((w22.heap.size + 1)) (27) ([.int .i64 8, .int .i64 1048576]) from Whole.new2 (by first | rfl | simp)).cell (i := 1) rfl
  go_wp2_with fail
  clear lw24 lw25 lw26 lw27
  refine (HEn.out _ ((Da_23.out.al (.cells #[.int .i64 b1, .int .i64 b2] 27)).al (.cells #[.int .i64 8, .int .i64 1048576] 27))).mono ?_
  rintro e w28 ⟨rfl, hb28⟩
  have Da_29 := Lib.hid (((Da_23.out.al (.cells #[.int .i64 b1, .int .i64 b2] 27)).al (.cells #[.int .i64 8, .int .i64 1048576] 27)).bl hb28)
  have D0_29 := Lib.hid (((D0_23.out.al (.cells #[.int .i64 b1, .int .i64 b2] 27)).al (.cells #[.int .i64 8, .int .i64 1048576] 27)).bl hb28)
  have X_29 := Lib.hid (((X_23.out.al (.cells #[.int .i64 b1, .int .i64 b2] 27)).al (.cells #[.int .i64 8, .int .i64 1048576] 27)).bl hb28)
  have Y_29 := Lib.hid (((Y_23.out.al (.cells #[.int .i64 b1, .int .i64 b2] 27)).al (.cells #[.int .i64 8, .int .i64 1048576] 27)).bl hb28)
  have P_29 := Lib.hid (((P_23.out.al (.cells #[.int .i64 b1, .int .i64 b2] 27)).al (.cells #[.int .i64 8, .int .i64 1048576] 27)).bl hb28)
  have Q_29 := Lib.hid (((show Whole (w22.alloc (.cells #[.int .i64 b1, .int .i64 b2] 27)) (w22.heap.size) (27) ([.int .i64 b1, .int .i64 b2]) from Whole.new2 (by first | rfl | simp)).al (.cells #[.int .i64 8, .int .i64 1048576] 27)).bl hb28)
  have N_29 := Lib.hid ((show Whole ((w22.alloc (.cells #[.int .i64 b1, .int .i64 b2] 27)).alloc (.cells #[.int .i64 8, .int .i64 1048576] 27)) ((w22.heap.size + 1)) (27) ([.int .i64 8, .int .i64 1048576]) from Whole.new2 (by first | rfl | simp)).bl hb28)
  have Bel_29 := Lib.hid (bel_bl (bel_al (bel_al Bel_23.out (.cells #[.int .i64 b1, .int .i64 b2] 27)) (.cells #[.int .i64 8, .int .i64 1048576] 27)) hb28)
  clear Da_23 D0_23 X_23 Y_23 P_23 Bel_23
  clear hb28
  have lw30 : ((w28.alloc (.cells #[.int .i64 e1, .int .i64 e2, .string el, .int .i64 et] 48))).cell? ⟨w.heap.size, 1, none⟩ = some (.slice B m k) := (D0_29.out.al (.cells #[.int .i64 e1, .int .i64 e2, .string el, .int .i64 et] 48)).cell (i := 1) rfl
  have lw31 : ((w28.alloc (.cells #[.int .i64 e1, .int .i64 e2, .string el, .int .i64 et] 48))).cell? ⟨(w.heap.size + 1), 0, none⟩ = some (.int .i64 x1) := (X_29.out.al (.cells #[.int .i64 e1, .int .i64 e2, .string el, .int .i64 et] 48)).cell (i := 0) rfl
  have lw32 : ((w28.alloc (.cells #[.int .i64 e1, .int .i64 e2, .string el, .int .i64 et] 48))).cell? ⟨(w.heap.size + 1), 1, none⟩ = some (.int .i64 x2) := (X_29.out.al (.cells #[.int .i64 e1, .int .i64 e2, .string el, .int .i64 et] 48)).cell (i := 1) rfl
  have lw33 : ((w28.alloc (.cells #[.int .i64 e1, .int .i64 e2, .string el, .int .i64 et] 48))).cell? ⟨(w.heap.size + 1), 2, none⟩ = some (.int .i64 x3) := (X_29.out.al (.cells #[.int .i64 e1, .int .i64 e2, .string el, .int .i64 et] 48)).cell (i := 2) rfl
  have lw34 : ((w28.alloc (.cells #[.int .i64 e1, .int .i64 e2, .string el, .int .i64 et] 48))).cell? ⟨(w.heap.size + 1 + 1), 0, none⟩ = some (.int .i64 y1) := (Y_29.out.al (.cells #[.int .i64 e1, .int .i64 e2, .string el, .int .i64 et] 48)).cell (i := 0) rfl
  have lw35 : ((w28.alloc (.cells #[.int .i64 e1, .int .i64 e2, .string el, .int .i64 et] 48))).cell? ⟨(w.heap.size + 1 + 1), 1, none⟩ = some (.int .i64 y2) := (Y_29.out.al (.cells #[.int .i64 e1, .int .i64 e2, .string el, .int .i64 et] 48)).cell (i := 1) rfl
  have lw36 : ((w28.alloc (.cells #[.int .i64 e1, .int .i64 e2, .string el, .int .i64 et] 48))).cell? ⟨(w.heap.size + 1 + 1), 2, none⟩ = some (.int .i64 y3) := (Y_29.out.al (.cells #[.int .i64 e1, .int .i64 e2, .string el, .int .i64 et] 48)).cell (i := 2) rfl
  cases fo with
  | false =>
    go_wp2
    go_ret
    exact ⟨rfl, (bel_al Bel_29.out (.cells #[.int .i64 e1, .int .i64 e2, .string el, .int .i64 et] 48))⟩
  | true =>
    cases one with
    | false =>
      go_wp2
      go_ret
      exact ⟨rfl, (bel_al Bel_29.out (.cells #[.int .i64 e1, .int .i64 e2, .string el, .int .i64 et] 48))⟩
    | true =>
      cases two with
      | false =>
        go_wp2
        go_ret
        exact ⟨rfl, (bel_al Bel_29.out (.cells #[.int .i64 e1, .int .i64 e2, .string el, .int .i64 et] 48))⟩
      | true =>
        cases th with
        | true =>
          go_wp2
          go_ret
          exact ⟨rfl, (bel_al Bel_29.out (.cells #[.int .i64 e1, .int .i64 e2, .string el, .int .i64 et] 48))⟩
        | false =>
          by_cases hm40 : 40 ≤ m
          · have hmd : decide (40 ≤ m) = true := decide_eq_true hm40
            have hmi : decide ((40 : Int) ≤ (m : Int)) = true := decide_eq_true (by omega)
            go_wp2
            go_ret
            exact ⟨rfl, (bel_al Bel_29.out (.cells #[.int .i64 e1, .int .i64 e2, .string el, .int .i64 et] 48))⟩
          · have hmd : decide (40 ≤ m) = false := decide_eq_false hm40
            have hmi : decide ((40 : Int) ≤ (m : Int)) = false := decide_eq_false (by omega)
            by_cases hxy : (x1, x2, x3) = (y1, y2, y3)
            · have hqq : ∀ W, (binOp .eql 29 (.agg #[.int .i64 x1, .int .i64 x2, .int .i64 x3]) (.agg #[.int .i64 y1, .int .i64 y2, .int .i64 y3])).run Try.prog W = .ok (.bool true) W := fun W => by
                have e := eq_dart_run (x1, x2, x3) (y1, y2, y3) W
                rw [decide_eq_true hxy] at e
                exact e
              go_wp2
              go_ret
              exact ⟨rfl, (bel_al Bel_29.out (.cells #[.int .i64 e1, .int .i64 e2, .string el, .int .i64 et] 48))⟩
            · have hqq : ∀ W, (binOp .eql 29 (.agg #[.int .i64 x1, .int .i64 x2, .int .i64 x3]) (.agg #[.int .i64 y1, .int .i64 y2, .int .i64 y3])).run Try.prog W = .ok (.bool false) W := fun W => by
                have e := eq_dart_run (x1, x2, x3) (y1, y2, y3) W
                rw [decide_eq_false hxy] at e
                exact e
              have HFm : RowKit.Hid (Formed Vs Es) := Lib.hid ((form0 Vs Es).1 (eq_of_beq Gfo.out))
              have Hsm := Lib.hid (HFm.out.small (Da_29.out.al (.cells #[.int .i64 e1, .int .i64 e2, .string el, .int .i64 et] 48)))
              have Hlv : RowKit.Hid (Vs.length = n) := Lib.hid ((Da_29.out.al (.cells #[.int .i64 e1, .int .i64 e2, .string el, .int .i64 et] 48)).v.rlen vC_len (by decide))
              have hn24 : n ≤ 24 := Hsm.out.1
              have Hr0 : RowKit.Hid (∀ x ∈ Vs, x.2.1.2.1 ≤ 1000000) := Lib.hid (fun x hx => by have := Hsm.out.2.2 x hx; omega)
              have HCl : RowKit.Hid (∀ W, DgIn W A n c Vs B m k Es → Calls Try.prog 33 #[.agg #[.slice A n c, .slice B m k]] W fun e w' => ∃ A' c' B' k' Ws, e = .returned (.agg #[.slice A' n c', .slice B' m k']) ∧ ClS w' W.heap.size A' n c' Ws B' m k' Es ∧ Ws.map vS = Vs.map vS ∧ Below W.heap.size W w') := Lib.hid (fun W h => rclone_any A n c Vs B m k Es W h (by omega) (by omega) Hr0.out)
              obtain ⟨iE, hie, hze0, hze1, hze2⟩ := info_partsD info_edge
              obtain ⟨v0, hv0, hvx, hvn⟩ := at_some Gx.out
              obtain ⟨u0, hu0, huy, hun⟩ := at_some Gy.out
              have hno : ∀ e ∈ Es, e.1 ≠ nE := fun e he q => by
                have := Hse.out.2 ⟨e, he, q⟩
                cases this
              have HBs1 : RowKit.Hid (Vs.length = n ∧ ∀ v ∈ Vs, v.2.1.2.2.2.length ≤ 80) := Lib.hid ⟨Hlv.out, fun v hv => by
                have h1 := ((Da_29.out.al (.cells #[.int .i64 e1, .int .i64 e2, .string el, .int .i64 et] 48)).r v hv).2.dlen
                have h2 := Hsm.out.2.2 v hv
                omega⟩
              have hNum := fun (Us : List VC) h => more_faces (Us := Us) HFm.out hno hxy hv0 hvx hu0 huy h
              rw [hvn, hun] at hNum
              have hrx : (x1, x2, x3) ∈ ringsOf Vs := ring_mem.2 ⟨v0, hv0, hvx⟩
              have hry : (y1, y2, y3) ∈ ringsOf Vs := ring_mem.2 ⟨u0, hu0, huy⟩
              have HMs : RowKit.Hid (∀ Ms : List VC, Ms = Vs.map (mI (a1, a2) (x1, x2, x3) (8, 1048576, 0)) → (Ms.length = n ∧ ∀ v ∈ Ms, v.2.1.2.2.2.length ≤ 81) ∧ ∀ Us : List VC, Us.map vS = Ms.map (gI (b1, b2) (y1, y2, y3) (8, 1048576, 1)) → Rung Us ∧ (∀ d, d ∈ ringsOf Us ↔ d ∈ ringsOf Vs ∨ d = (8, 1048576, 0) ∨ d = (8, 1048576, 1)) ∧ (ringsOf Us).length ≤ 82 ∧
                    ∃ P P', Reps (phF Vs) (ringsOf Vs) P ∧ Reps (phF Us) (ringsOf Us) P' ∧ (Rl (phF Vs) (othD (x1, x2, x3)) (othD (y1, y2, y3)) → P'.length = P.length + 1) ∧ (¬ Rl (phF Vs) (othD (x1, x2, x3)) (othD (y1, y2, y3)) → P'.length + 1 = P.length)) := Lib.hid (fun Ms e => by
                subst e
                refine ⟨⟨by rw [List.length_map]; exact HBs1.out.1, fun v hv => ?_⟩, fun Us h => hNum Us ?_⟩
                · obtain ⟨u, hu, rfl⟩ := List.mem_map.1 hv
                  have h1 := mI_len (a1, a2) (x1, x2, x3) (8, 1048576, 0) u
                  have h2 := HBs1.out.2 u hu
                  omega
                · rw [h, show gI (b1, b2) (y1, y2, y3) (8, 1048576, 1) = vS ∘ mI (b1, b2) (y1, y2, y3) (8, 1048576, 1) from rfl, ← List.map_map])
              have Hrx := Lib.hid hrx
              have Hry := Lib.hid hry
              clear hv0 hvx hvn hu0 huy hun hno hNum hrx hry Hse Gfo Gx Gy
              clear lw30 lw31 lw32 lw33 lw34 lw35 lw36
              have lw37 : ((w28.alloc (.cells #[.int .i64 e1, .int .i64 e2, .string el, .int .i64 et] 48))).cell? ⟨w.heap.size, 0, none⟩ = some (.slice A n c) := (D0_29.out.al (.cells #[.int .i64 e1, .int .i64 e2, .string el, .int .i64 et] 48)).cell (i := 0) rfl
              have lw38 : ((w28.alloc (.cells #[.int .i64 e1, .int .i64 e2, .string el, .int .i64 et] 48))).cell? ⟨w.heap.size, 1, none⟩ = some (.slice B m k) := (D0_29.out.al (.cells #[.int .i64 e1, .int .i64 e2, .string el, .int .i64 et] 48)).cell (i := 1) rfl
              have lw39 : ((w28.alloc (.cells #[.int .i64 e1, .int .i64 e2, .string el, .int .i64 et] 48))).cell? ⟨(w.heap.size + 1), 0, none⟩ = some (.int .i64 x1) := (X_29.out.al (.cells #[.int .i64 e1, .int .i64 e2, .string el, .int .i64 et] 48)).cell (i := 0) rfl
              have lw40 : ((w28.alloc (.cells #[.int .i64 e1, .int .i64 e2, .string el, .int .i64 et] 48))).cell? ⟨(w.heap.size + 1), 1, none⟩ = some (.int .i64 x2) := (X_29.out.al (.cells #[.int .i64 e1, .int .i64 e2, .string el, .int .i64 et] 48)).cell (i := 1) rfl
              have lw41 : ((w28.alloc (.cells #[.int .i64 e1, .int .i64 e2, .string el, .int .i64 et] 48))).cell? ⟨(w.heap.size + 1), 2, none⟩ = some (.int .i64 x3) := (X_29.out.al (.cells #[.int .i64 e1, .int .i64 e2, .string el, .int .i64 et] 48)).cell (i := 2) rfl
              have lw42 : ((w28.alloc (.cells #[.int .i64 e1, .int .i64 e2, .string el, .int .i64 et] 48))).cell? ⟨(w.heap.size + 1 + 1), 0, none⟩ = some (.int .i64 y1) := (Y_29.out.al (.cells #[.int .i64 e1, .int .i64 e2, .string el, .int .i64 et] 48)).cell (i := 0) rfl
              have lw43 : ((w28.alloc (.cells #[.int .i64 e1, .int .i64 e2, .string el, .int .i64 et] 48))).cell? ⟨(w.heap.size + 1 + 1), 1, none⟩ = some (.int .i64 y2) := (Y_29.out.al (.cells #[.int .i64 e1, .int .i64 e2, .string el, .int .i64 et] 48)).cell (i := 1) rfl
              have lw44 : ((w28.alloc (.cells #[.int .i64 e1, .int .i64 e2, .string el, .int .i64 et] 48))).cell? ⟨(w.heap.size + 1 + 1), 2, none⟩ = some (.int .i64 y3) := (Y_29.out.al (.cells #[.int .i64 e1, .int .i64 e2, .string el, .int .i64 et] 48)).cell (i := 2) rfl
              go_wp2_with fail
              clear lw37 lw38 lw39 lw40 lw41 lw42 lw43 lw44
              clear hqq hmd hmi
              have Da_45 := Lib.hid ((Da_29.out.al (.cells #[.int .i64 e1, .int .i64 e2, .string el, .int .i64 et] 48)))
              have D0_45 := Lib.hid ((D0_29.out.al (.cells #[.int .i64 e1, .int .i64 e2, .string el, .int .i64 et] 48)))
              have X_45 := Lib.hid ((X_29.out.al (.cells #[.int .i64 e1, .int .i64 e2, .string el, .int .i64 et] 48)))
              have Y_45 := Lib.hid ((Y_29.out.al (.cells #[.int .i64 e1, .int .i64 e2, .string el, .int .i64 et] 48)))
              have P_45 := Lib.hid ((P_29.out.al (.cells #[.int .i64 e1, .int .i64 e2, .string el, .int .i64 et] 48)))
              have Q_45 := Lib.hid ((Q_29.out.al (.cells #[.int .i64 e1, .int .i64 e2, .string el, .int .i64 et] 48)))
              have N_45 := Lib.hid ((N_29.out.al (.cells #[.int .i64 e1, .int .i64 e2, .string el, .int .i64 et] 48)))
              have Bel_45 := Lib.hid (bel_al Bel_29.out (.cells #[.int .i64 e1, .int .i64 e2, .string el, .int .i64 et] 48))
              obtain ⟨v45, gv45⟩ : ∃ x, (w28.alloc (.cells #[.int .i64 e1, .int .i64 e2, .string el, .int .i64 et] 48)) = x := ⟨_, rfl⟩
              rw [gv45] at Da_45 D0_45 X_45 Y_45 P_45 Q_45 N_45 Bel_45 ⊢
              clear gv45
              clear Da_29 D0_29 X_29 Y_29 P_29 Q_29 N_29 Bel_29
              have HDd := Lib.hid (Da_45.out)
              have HXd := Lib.hid (D0_45.out)
              have HXx := Lib.hid (X_45.out)
              have HXy := Lib.hid (Y_45.out)
              have HXp := Lib.hid (P_45.out)
              have HXq := Lib.hid (Q_45.out)
              have HXn := Lib.hid (N_45.out)
              have HBd := Lib.hid (Bel_45.out)
              clear Da_45 D0_45 X_45 Y_45 P_45 Q_45 N_45 Bel_45
              obtain ⟨bN, gbN⟩ : ∃ z, w22.heap.size + 1 = z := ⟨_, rfl⟩
              rw [gbN] at HXn ⊢
              clear gbN
              obtain ⟨bQ, gbQ⟩ : ∃ z, w22.heap.size = z := ⟨_, rfl⟩
              rw [gbQ] at HXq ⊢
              clear gbQ
              obtain ⟨bP, gbP⟩ : ∃ z, w15.heap.size = z := ⟨_, rfl⟩
              rw [gbP] at HXp ⊢
              clear gbP
              refine (HCl.out _ HDd.out).mono ?_
              rintro e w7 ⟨A2, c2, B2, k2, Us, rfl, hcl, hsm, hb7⟩
              obtain ⟨B3, k3, w8_, hrun, hcl8, hb8, hg8⟩ := ((hcl.al (.cells #[.slice A2 n c2, .slice B2 m k2] 25)).al (.cells (eC eN).toArray 48)).pushE (P := Try.prog) eN 23 23 iE _ Try.underlying23 hie hze0 hze1 hze2 rfl (by omega) (by have := hb7.size; simp; omega) (w7.heap.size + 1) (RdS.of_whole (Whole.new2 (by simp)) rfl)
              have L9 : RowKit.Hid (v45.heap.size ≤ w7.heap.size) := Lib.hid hb7.size
              have H97 := Lib.hid (Whole.new2 (w := w7) (t := 25) (cs := [.slice A2 n c2, .slice B2 m k2]) rfl)
              have hn9 := own_ne (hcl.al (.cells #[.slice A2 n c2, .slice B2 m k2] 25)).e H97.out (by decide)
              have H98 := Lib.hid ((H97.out.al (.cells (eC eN).toArray 48)).grown hg8 hn9)
              have HZ8 : RowKit.Hid (Below v45.heap.size v45 w8_) := Lib.hid ((bel_al (bel_al hb7 (.cells #[.slice A2 n c2, .slice B2 m k2] 25)) (.cells (eC eN).toArray 48)).trans hb8)
              have HXn7 := Lib.hid ((HXn.out.bl hb7).al (.cells #[.slice A2 n c2, .slice B2 m k2] 25))
              obtain ⟨b9, gb9⟩ : ∃ z, w7.heap.size = z := ⟨_, rfl⟩
              rw [gb9] at L9 H97 H98 hrun
              have HM8 := Lib.hid (hcl8.far (i := 1) H98.out (by decide) (by decide) (by decide) (.slice B3 (m + 1) k3)).wro
              have H99 := Lib.hid (H98.out.set_ 1 (.slice B3 (m + 1) k3))
              have HZ9 := Lib.hid (HZ8.out.setCell (p := ⟨b9, 1, none⟩) L9.out (.slice B3 (m + 1) k3))
              have HU7 : RowKit.Hid (Us.map vS = (Vs.take 0).map (gI (a1, a2) (x1, x2, x3) (8, 1048576, 0)) ++ (Vs.drop 0).map vS) := Lib.hid (by rw [hsm]; rfl)
              have d0 := HXn7.out.cell (i := 0) rfl
              have d1 := HXn7.out.cell (i := 1) rfl
              have d2 := H97.out.cell (i := 1) rfl
              have d3 := H98.out.cell (i := 1) rfl
              have d4 := H98.out.free 1
              clear hcl hsm hb7 hcl8 hb8 hg8 hn9
              go_wp2_with (first
                | (at_builtin
                   refine wl_run (some 77) rfl (by rfl) (exec_append (by rfl) (by rfl) (by rfl) hrun) ?_))
              obtain ⟨wm, gwm⟩ : ∃ z, w8_.setCell ⟨b9, 1, none⟩ (.slice B3 (m + 1) k3) = z := ⟨_, rfl⟩
              rw [gwm] at HM8 H99 HZ9 ⊢
              clear gb9 gwm d0 d1 d2 d3 d4 hrun HXn7 H97 H98 HZ8 HCl
              go_loopw [17] (fun si wr => ∃ (j : Nat) (Us : List VC), j ≤ n ∧ si = .int .i64 j ∧ RowKit.Hid (Below v45.heap.size v45 wr) ∧ RowKit.Hid (Whole wr b9 25 [.slice A2 n c2, .slice B3 (m + 1) k3]) ∧ RowKit.Hid (Wro wr v45.heap.size A2 n c2 Us B3 (m + 1) k3 (Es ++ [eN])) ∧ RowKit.Hid (Us.map vS = (Vs.take j).map (gI (a1, a2) (x1, x2, x3) (8, 1048576, 0)) ++ (Vs.drop j).map vS)) (fun si _ => n - (intOf si).toNat)
              case atStart => exact ⟨0, Us, by omega, rfl, HZ9, H99, HM8, HU7⟩
              case round =>
                clear HZ9 H99 HM8 HU7
                obtain ⟨j, Us, hj, rfl, HZ, H9, HM, HU⟩ := hrel
                obtain ⟨wo, gwo⟩ : ∃ z, wr = z := ⟨_, rfl⟩
                rw [gwo] at HZ H9 HM ⊢
                clear gwo
                have cb := H9.out.cell (i := 0) rfl
                by_cases hjn : j < n
                · obtain ⟨v, hv⟩ : ∃ v, Vs[j]? = some v := ⟨_, List.getElem?_eq_getElem (by have := HBs1.out.1; omega)⟩
                  obtain ⟨u, hu, huv⟩ : ∃ u, Us[j]? = some u ∧ vS u = vS v := by
                    have h1 : (Us.map vS)[j]? = some (vS v) := by
                      rw [HU.out, List.getElem?_append_right (by simp; omega)]
                      simp only [List.length_map, List.length_take]
                      rw [show j - min j Vs.length = 0 by have := HBs1.out.1; omega, List.getElem?_map, List.getElem?_drop, Nat.add_zero, hv]
                      rfl
                    rw [List.getElem?_map] at h1
                    cases hq : Us[j]? with
                    | none => rw [hq] at h1; cases h1
                    | some y => rw [hq] at h1; exact ⟨y, rfl, Option.some.inj h1⟩
                  have hul : u.2.1.2.2.2 = v.2.1.2.2.2 := congrArg (fun s : (Int × Int) × List D × ByteArray × Int => s.2.1) huv
                  have hrn : u.2.1.2.1 ≤ 80 := by
                    have h1 := HBs1.out.2 v (List.mem_of_getElem? hv)
                    have h3 := (HM.out.r u (List.mem_of_getElem? hu)).2.dlen
                    rw [hul] at h3
                    omega
                  have hset : ∀ (R : Rg), R.2.2.2 = insT (decide (u.1 = (a1, a2))) (x1, x2, x3) (8, 1048576, 0) u.2.1.2.2.2 → (Us.set j (u.1, R, u.2.2)).map vS = (Vs.take (j + 1)).map (gI (a1, a2) (x1, x2, x3) (8, 1048576, 0)) ++ (Vs.drop (j + 1)).map vS := fun R hR => by
                    rw [List.map_set, HU.out]
                    have e : vS (u.1, R, u.2.2) = (gI (a1, a2) (x1, x2, x3) (8, 1048576, 0)) v := by
                      have q1 : u.1 = v.1 := congrArg (fun s : (Int × Int) × List D × ByteArray × Int => s.1) huv
                      have q3 : u.2.2.1 = v.2.2.1 := congrArg (fun s : (Int × Int) × List D × ByteArray × Int => s.2.2.1) huv
                      have q4 : u.2.2.2 = v.2.2.2 := congrArg (fun s : (Int × Int) × List D × ByteArray × Int => s.2.2.2) huv
                      show (u.1, R.2.2.2, u.2.2.1, u.2.2.2) = _
                      rw [hR, q1, q3, q4, hul, gI_eq]
                    rw [e]
                    exact half_set (gI (a1, a2) (x1, x2, x3) (8, 1048576, 0)) vS hv
                  obtain ⟨⟨i1, i2⟩, ⟨rA, rn, rc, rL⟩, lb, at_⟩ := u
                  have HSet : RowKit.Hid (∀ (A9 : Option Addr) (n9 c9 : Nat) (L9 : List D), L9 = insT (decide (((i1, i2) : I2) = (a1, a2))) (x1, x2, x3) (8, 1048576, 0) rL → (Us.set j ((i1, i2), (A9, n9, c9, L9), lb, at_)).map vS = (Vs.take (j + 1)).map (gI (a1, a2) (x1, x2, x3) (8, 1048576, 0)) ++ (Vs.drop (j + 1)).map vS) := Lib.hid (fun A9 n9 c9 L9 h => hset (A9, n9, c9, L9) h)
                  replace hrn : rn ≤ 80 := hrn
                  obtain ⟨gm, eA2, hlo, -, hc, hf, -⟩ := HM.out.put hu hjn (rA, rn, rc, rL) (HM.out.r _ (List.mem_of_getElem? hu))
                  subst eA2
                  have hex := eq_id i1 i2 a1 a2
                  have hdx : (i1 == a1 && i2 == a2) = decide (((i1, i2) : I2) = (a1, a2)) := by
                    by_cases h1 : i1 = a1 <;> by_cases h2 : i2 = a2 <;> simp [h1, h2]
                  obtain ⟨tx, gtx⟩ : ∃ z, decide (((i1, i2) : I2) = (a1, a2)) = z := ⟨_, rfl⟩
                  rw [hdx, gtx] at hex
                  rw [gtx] at HSet
                  have h0 := (own_rds HM.out.v).elem vC_len hu 0 _ rfl
                  have h1 := (own_rds HM.out.v).elem vC_len hu 1 _ rfl
                  simp only [Addr.add_lit, Nat.add_zero, Nat.zero_add] at h0 h1
                  have n0 : wo.cell? ⟨gm, j * 5, none⟩ = some (.int .i64 i1) := h0
                  have n1_ : wo.cell? ⟨gm, j * 5 + 1, none⟩ = some (.int .i64 i2) := h1
                  have Hlo : RowKit.Hid (v45.heap.size ≤ gm) := Lib.hid hlo
                  have Hu := Lib.hid hu
                  clear hv hu huv hul hset hc hf HU hdx gtx hlo h0 h1
                  have HPo := Lib.hid (HXp.out.bl HZ.out)
                  go_upto_region 14 with fail
                  clear cb
                  have ld0 : ∀ w', Kept Nil_ wo.drew w' → w'.cell? ⟨b9, 0, none⟩ = some (.slice (some ⟨gm, 0, none⟩) n c2) := fun w' h => h.nil_cell (H9.out.dr.cell (i := 0) rfl)
                  have ld1 : ∀ w', Kept Nil_ wo.drew w' → w'.cell? ⟨gm, j * 5, none⟩ = some (.int .i64 i1) := fun w' h => h.nil_cell (show wo.drew.cell? _ = _ from n0)
                  have ld2 : ∀ w', Kept Nil_ wo.drew w' → w'.cell? ⟨gm, j * 5 + 1, none⟩ = some (.int .i64 i2) := fun w' h => h.nil_cell (show wo.drew.cell? _ = _ from n1_)
                  have ld3 : ∀ w', Kept Nil_ wo.drew w' → w'.cell? ⟨bP, 0, none⟩ = some (.int .i64 a1) := fun w' h => h.nil_cell (HPo.out.dr.cell (i := 0) rfl)
                  have ld4 : ∀ w', Kept Nil_ wo.drew w' → w'.cell? ⟨bP, 1, none⟩ = some (.int .i64 a2) := fun w' h => h.nil_cell (HPo.out.dr.cell (i := 1) rfl)
                  refine wp_region_reg (Nil_) (by kernel_rfl) ?_
                  apply wpR_next 0 (some 86)
                  · simp only [List.getElem?_toArray, List.getElem?_cons_succ, List.getElem?_cons_zero]; exact rfl
                  · rfl
                  · kernel_rfl
                  · kernel_rfl
                  · kernel_rfl
                  · exact fun _ _ _ _ h => h
                  apply Exists.intro
                  apply And.intro
                  · apply yr_run; rfl; intro w' hw'; go_simp; (try with_reducible rfl)
                  simp only [Act.put, List.setIfInBounds_toArray, List.set_cons_zero, List.set_cons_succ]
                  apply wpR_next 1 (some 87)
                  · simp only [List.getElem?_toArray, List.getElem?_cons_succ, List.getElem?_cons_zero]; exact rfl
                  · rfl
                  · kernel_rfl
                  · kernel_rfl
                  · kernel_rfl
                  · exact fun _ _ _ _ h => h
                  apply Exists.intro
                  apply And.intro
                  · apply yr_run; rfl; intro w' hw'; go_simp; (try with_reducible rfl)
                  simp only [Act.put, List.setIfInBounds_toArray, List.set_cons_zero, List.set_cons_succ]
                  apply wpR_next 2 (some 88)
                  · simp only [List.getElem?_toArray, List.getElem?_cons_succ, List.getElem?_cons_zero]; exact rfl
                  · rfl
                  · kernel_rfl
                  · kernel_rfl
                  · kernel_rfl
                  · exact fun _ _ _ _ h => h
                  apply Exists.intro
                  apply And.intro
                  · apply yr_run; rfl; intro w' hw'; go_simp; (try with_reducible rfl)
                  simp only [Act.put, List.setIfInBounds_toArray, List.set_cons_zero, List.set_cons_succ]
                  apply wpR_next 3 (some 89)
                  · simp only [List.getElem?_toArray, List.getElem?_cons_succ, List.getElem?_cons_zero]; exact rfl
                  · rfl
                  · kernel_rfl
                  · kernel_rfl
                  · kernel_rfl
                  · exact fun _ _ _ _ h => h
                  apply Exists.intro
                  apply And.intro
                  · apply yr_run; rfl; intro w' hw'; go_simp; (try with_reducible rfl)
                  simp only [Act.put, List.setIfInBounds_toArray, List.set_cons_zero, List.set_cons_succ]
                  apply wpR_next 4 (some 90)
                  · simp only [List.getElem?_toArray, List.getElem?_cons_succ, List.getElem?_cons_zero]; exact rfl
                  · rfl
                  · kernel_rfl
                  · kernel_rfl
                  · kernel_rfl
                  · exact fun _ _ _ _ h => h
                  apply Exists.intro
                  apply And.intro
                  · apply yr_run; rfl; intro w' hw'; go_simp; (try with_reducible rfl)
                  simp only [Act.put, List.setIfInBounds_toArray, List.set_cons_zero, List.set_cons_succ]
                  apply wpR_next 5 (some 91)
                  · simp only [List.getElem?_toArray, List.getElem?_cons_succ, List.getElem?_cons_zero]; exact rfl
                  · rfl
                  · kernel_rfl
                  · kernel_rfl
                  · kernel_rfl
                  · exact fun _ _ _ _ h => h
                  apply Exists.intro
                  apply And.intro
                  · apply yr_run; rfl; intro w' hw'; go_simp; (try with_reducible rfl)
                  simp only [Act.put, List.setIfInBounds_toArray, List.set_cons_zero, List.set_cons_succ]
                  apply wpR_next 6 (some 92)
                  · simp only [List.getElem?_toArray, List.getElem?_cons_succ, List.getElem?_cons_zero]; exact rfl
                  · rfl
                  · kernel_rfl
                  · kernel_rfl
                  · kernel_rfl
                  · exact fun _ _ _ _ h => h
                  apply Exists.intro
                  apply And.intro
                  · apply yr_run; rfl; intro w' hw'; go_simp; (try with_reducible rfl)
                  simp only [Act.put, List.setIfInBounds_toArray, List.set_cons_zero, List.set_cons_succ]
                  apply wpR_next 7 (some 93)
                  · simp only [List.getElem?_toArray, List.getElem?_cons_succ, List.getElem?_cons_zero]; exact rfl
                  · rfl
                  · kernel_rfl
                  · kernel_rfl
                  · kernel_rfl
                  · exact fun _ _ _ _ h => h
                  apply Exists.intro
                  apply And.intro
                  · exact yr_run (by rfl) (fun w' hw' => exec_binop_agg .eql 27 (.tmp 91) (.tmp 92) 27 rfl rfl rfl (by kernel_rfl) (hex w'))
                  simp only [Act.put, List.setIfInBounds_toArray, List.set_cons_zero, List.set_cons_succ]
                  refine wpR_done (by kernel_rfl) ?_ _
                  intro wq hwq
                  have HZq := Lib.hid (bel_bl (bel_dr HZ.out) hwq)
                  have H9q := Lib.hid (H9.out.dr.bl hwq)
                  have HMq := Lib.hid (HM.out.dr.bl hwq)
                  clear hwq ld0 ld1 ld2 ld3 ld4 n0 n1_ HPo HZ H9 HM
                  cases tx with
                  | true =>
                    obtain ⟨Uq, gUq⟩ : ∃ z, Us = z := ⟨_, rfl⟩
                    have huq : Uq[j]? = some ((i1, i2), (rA, rn, rc, rL), lb, at_) := by rw [← gUq]; exact Hu.out
                    rw [gUq] at HMq
                    obtain ⟨gp, ep, -, -, hcp, -, -⟩ := HMq.out.put huq hjn (rA, rn, rc, rL) (HMq.out.r _ (List.mem_of_getElem? huq))
                    obtain rfl : gm = gp := by
                      injection ep with ep
                      injection ep
                    replace hcp : wq.cell? ⟨gm, j * 5 + 2, none⟩ = some (.slice rA rn rc) := hcp
                    have HRq : RowKit.Hid (RdS wq.drew wq.drew.heap.size 3 rA rn rc (dartsV rL)) := Lib.hid (HMq.out.r _ (List.mem_of_getElem? huq)).2.dr
                    have HRm : RowKit.Hid (∀ W, RdS W W.heap.size 3 rA rn rc (dartsV rL) → Calls Try.prog 34 #[.slice rA rn rc, .agg #[.int .i64 x1, .int .i64 x2, .int .i64 x3], .agg #[.int .i64 8, .int .i64 1048576, .int .i64 0]] W (GivesC W (turnD (insR rL (x1, x2, x3) (8, 1048576, 0))))) := Lib.hid (fun W h => rfinsertc_any rA rn rc rL (x1, x2, x3) (8, 1048576, 0) W h (by omega))
                    obtain ⟨L9, gL9⟩ : ∃ z, turnD (insR rL (x1, x2, x3) (8, 1048576, 0)) = z := ⟨_, rfl⟩
                    have HLd : RowKit.Hid (insT true (x1, x2, x3) (8, 1048576, 0) rL = L9) := Lib.hid gL9
                    rw [gL9] at HRm
                    have HXno := Lib.hid (HXn.out.bl HZq.out)
                    have HXxo := Lib.hid (HXx.out.bl HZq.out)
                    clear gL9 ep
                    go_upto_region 15 with fail
                    have ld0 : ∀ w', Kept Nil_ wq.drew w' → w'.cell? ⟨b9, 0, none⟩ = some (.slice (some ⟨gm, 0, none⟩) n c2) := fun w' h => h.nil_cell (H9q.out.dr.cell (i := 0) rfl)
                    have ld1 : ∀ w', Kept Nil_ wq.drew w' → w'.cell? ⟨gm, j * 5 + 2, none⟩ = some (.slice rA rn rc) := fun w' h => h.nil_cell (show wq.drew.cell? _ = _ from hcp)
                    have ld2 : ∀ w', Kept Nil_ wq.drew w' → w'.cell? ⟨bN, 0, none⟩ = some (.int .i64 8) := fun w' h => h.nil_cell (HXno.out.dr.cell (i := 0) rfl)
                    have ld3 : ∀ w', Kept Nil_ wq.drew w' → w'.cell? ⟨bN, 1, none⟩ = some (.int .i64 1048576) := fun w' h => h.nil_cell (HXno.out.dr.cell (i := 1) rfl)
                    have ld4 : ∀ w', Kept Nil_ wq.drew w' → w'.cell? ⟨w.heap.size + 1, 0, none⟩ = some (.int .i64 x1) := fun w' h => h.nil_cell (HXxo.out.dr.cell (i := 0) rfl)
                    have ld5 : ∀ w', Kept Nil_ wq.drew w' → w'.cell? ⟨w.heap.size + 1, 1, none⟩ = some (.int .i64 x2) := fun w' h => h.nil_cell (HXxo.out.dr.cell (i := 1) rfl)
                    have ld6 : ∀ w', Kept Nil_ wq.drew w' → w'.cell? ⟨w.heap.size + 1, 2, none⟩ = some (.int .i64 x3) := fun w' h => h.nil_cell (HXxo.out.dr.cell (i := 2) rfl)
                    clear hcp HXno HXxo
                    refine wp_region_tail (Nil_) [15] (by kernel_rfl) ?_
                    apply wpT_next 0 (some 94) (by kernel_rfl)
                    · simp only [List.getElem?_toArray, List.getElem?_cons_succ, List.getElem?_cons_zero]; exact rfl
                    · rfl
                    · kernel_rfl
                    · kernel_rfl
                    · kernel_rfl
                    · exact fun _ _ _ _ h => h
                    apply Exists.intro
                    apply And.intro
                    · apply yr_run; rfl; intro w' hw'; go_simp; (try with_reducible rfl)
                    simp only [Act.put, List.setIfInBounds_toArray, List.set_cons_zero, List.set_cons_succ]
                    apply wpT_next 1 (some 95) (by kernel_rfl)
                    · simp only [List.getElem?_toArray, List.getElem?_cons_succ, List.getElem?_cons_zero]; exact rfl
                    · rfl
                    · kernel_rfl
                    · kernel_rfl
                    · kernel_rfl
                    · exact fun _ _ _ _ h => h
                    apply Exists.intro
                    apply And.intro
                    · apply yr_run; rfl; intro w' hw'; go_simp; (try with_reducible rfl)
                    simp only [Act.put, List.setIfInBounds_toArray, List.set_cons_zero, List.set_cons_succ]
                    apply wpT_next 2 (some 96) (by kernel_rfl)
                    · simp only [List.getElem?_toArray, List.getElem?_cons_succ, List.getElem?_cons_zero]; exact rfl
                    · rfl
                    · kernel_rfl
                    · kernel_rfl
                    · kernel_rfl
                    · exact fun _ _ _ _ h => h
                    apply Exists.intro
                    apply And.intro
                    · apply yr_run; rfl; intro w' hw'; go_simp; (try with_reducible rfl)
                    simp only [Act.put, List.setIfInBounds_toArray, List.set_cons_zero, List.set_cons_succ]
                    apply wpT_next 3 (some 97) (by kernel_rfl)
                    · simp only [List.getElem?_toArray, List.getElem?_cons_succ, List.getElem?_cons_zero]; exact rfl
                    · rfl
                    · kernel_rfl
                    · kernel_rfl
                    · kernel_rfl
                    · exact fun _ _ _ _ h => h
                    apply Exists.intro
                    apply And.intro
                    · apply yr_run; rfl; intro w' hw'; go_simp; (try with_reducible rfl)
                    simp only [Act.put, List.setIfInBounds_toArray, List.set_cons_zero, List.set_cons_succ]
                    apply wpT_next 4 (some 98) (by kernel_rfl)
                    · simp only [List.getElem?_toArray, List.getElem?_cons_succ, List.getElem?_cons_zero]; exact rfl
                    · rfl
                    · kernel_rfl
                    · kernel_rfl
                    · kernel_rfl
                    · exact fun _ _ _ _ h => h
                    apply Exists.intro
                    apply And.intro
                    · apply yr_run; rfl; intro w' hw'; go_simp; (try with_reducible rfl)
                    simp only [Act.put, List.setIfInBounds_toArray, List.set_cons_zero, List.set_cons_succ]
                    apply wpT_next 5 (some 99) (by kernel_rfl)
                    · simp only [List.getElem?_toArray, List.getElem?_cons_succ, List.getElem?_cons_zero]; exact rfl
                    · rfl
                    · kernel_rfl
                    · kernel_rfl
                    · kernel_rfl
                    · exact fun _ _ _ _ h => h
                    apply Exists.intro
                    apply And.intro
                    · apply yr_run; rfl; intro w' hw'; go_simp; (try with_reducible rfl)
                    simp only [Act.put, List.setIfInBounds_toArray, List.set_cons_zero, List.set_cons_succ]
                    apply wpT_next 6 (some 100) (by kernel_rfl)
                    · simp only [List.getElem?_toArray, List.getElem?_cons_succ, List.getElem?_cons_zero]; exact rfl
                    · rfl
                    · kernel_rfl
                    · kernel_rfl
                    · kernel_rfl
                    · exact fun _ _ _ _ h => h
                    apply Exists.intro
                    apply And.intro
                    · apply yr_run; rfl; intro w' hw'; go_simp; (try with_reducible rfl)
                    simp only [Act.put, List.setIfInBounds_toArray, List.set_cons_zero, List.set_cons_succ]
                    apply wpT_next 7 (some 101) (by kernel_rfl)
                    · simp only [List.getElem?_toArray, List.getElem?_cons_succ, List.getElem?_cons_zero]; exact rfl
                    · rfl
                    · kernel_rfl
                    · kernel_rfl
                    · kernel_rfl
                    · exact fun _ _ _ _ h => h
                    apply Exists.intro
                    apply And.intro
                    · apply yr_run; rfl; intro w' hw'; go_simp; (try with_reducible rfl)
                    simp only [Act.put, List.setIfInBounds_toArray, List.set_cons_zero, List.set_cons_succ]
                    apply wpT_next 8 (some 102) (by kernel_rfl)
                    · simp only [List.getElem?_toArray, List.getElem?_cons_succ, List.getElem?_cons_zero]; exact rfl
                    · rfl
                    · kernel_rfl
                    · kernel_rfl
                    · kernel_rfl
                    · exact fun _ _ _ _ h => h
                    apply Exists.intro
                    apply And.intro
                    · apply yr_run; rfl; intro w' hw'; go_simp; (try with_reducible rfl)
                    simp only [Act.put, List.setIfInBounds_toArray, List.set_cons_zero, List.set_cons_succ]
                    apply wpT_next 9 (some 103) (by kernel_rfl)
                    · simp only [List.getElem?_toArray, List.getElem?_cons_succ, List.getElem?_cons_zero]; exact rfl
                    · rfl
                    · kernel_rfl
                    · kernel_rfl
                    · kernel_rfl
                    · exact fun _ _ _ _ h => h
                    apply Exists.intro
                    apply And.intro
                    · apply yr_run; rfl; intro w' hw'; go_simp; (try with_reducible rfl)
                    simp only [Act.put, List.setIfInBounds_toArray, List.set_cons_zero, List.set_cons_succ]
                    apply wpT_next 10 (some 104) (by kernel_rfl)
                    · simp only [List.getElem?_toArray, List.getElem?_cons_succ, List.getElem?_cons_zero]; exact rfl
                    · rfl
                    · kernel_rfl
                    · kernel_rfl
                    · kernel_rfl
                    · exact fun _ _ _ _ h => h
                    apply Exists.intro
                    apply And.intro
                    · apply yr_run; rfl; intro w' hw'; go_simp; (try with_reducible rfl)
                    simp only [Act.put, List.setIfInBounds_toArray, List.set_cons_zero, List.set_cons_succ]
                    apply wpT_next 11 (some 105) (by kernel_rfl)
                    · simp only [List.getElem?_toArray, List.getElem?_cons_succ, List.getElem?_cons_zero]; exact rfl
                    · rfl
                    · kernel_rfl
                    · kernel_rfl
                    · kernel_rfl
                    · exact fun _ _ _ _ h => h
                    apply Exists.intro
                    apply And.intro
                    · apply yr_run; rfl; intro w' hw'; go_simp; (try with_reducible rfl)
                    simp only [Act.put, List.setIfInBounds_toArray, List.set_cons_zero, List.set_cons_succ]
                    apply wpT_call 12 (some 106)
                    · simp only [List.getElem?_toArray, List.getElem?_cons_succ, List.getElem?_cons_zero]; exact rfl
                    · rfl
                    · kernel_rfl
                    · rfl
                    · intro w'; go_simp; first | done | exact ⟨rfl, rfl⟩ | with_reducible rfl
                    intro w' hw'
                    refine (HRm.out w' (HRq.out.bl hw')).mono ?_
                    rintro e w9 ⟨A9, c9, rfl, hr9, hb9, hc9⟩
                    refine ⟨_, rfl, Kept.of_below hb9, ?_⟩
                    have H99 := Lib.hid ((H9q.out.dr.bl hw').bl hb9)
                    have HM9 := Lib.hid ((HMq.out.dr.bl hw').bl hb9)
                    have HZ9 := Lib.hid (bel_bl (bel_bl (bel_dr HZq.out) hw') hb9)
                    have HR9 : RowKit.Hid (RgOk w9 (A9, L9.length, c9, L9)) := Lib.hid ⟨hc9, hr9⟩
                    obtain ⟨V9, gV9⟩ : ∃ z, w9 = z := ⟨_, rfl⟩
                    rw [gV9] at H99 HM9 HZ9 HR9 ⊢
                    clear hw' hr9 hb9 hc9 gV9 ld0 ld1 ld2 ld3 ld4 ld5 ld6 HRm HRq H9q HMq HZq
                    simp only [Act.put, List.setIfInBounds_toArray, List.set_cons_zero, List.set_cons_succ]
                    apply wpT_run 13 (some 107)
                    · simp only [List.getElem?_toArray, List.getElem?_cons_succ, List.getElem?_cons_zero]; exact rfl
                    · rfl
                    · kernel_rfl
                    · rfl
                    intro w' hw'
                    apply Exists.intro
                    apply Exists.intro
                    apply And.intro
                    · go_simp; first | done | exact ⟨rfl, rfl⟩ | exact rfl
                    apply And.intro
                    · exact Kept.refl _ _
                    have hpd13 := hw'
                    clear hw'
                    simp only [Act.put, List.setIfInBounds_toArray, List.set_cons_zero, List.set_cons_succ]
                    apply wpT_next 14 (some 108) (by kernel_rfl)
                    · simp only [List.getElem?_toArray, List.getElem?_cons_succ, List.getElem?_cons_zero]; exact rfl
                    · rfl
                    · kernel_rfl
                    · kernel_rfl
                    · kernel_rfl
                    · exact fun _ _ _ _ h => h
                    apply Exists.intro
                    apply And.intro
                    · apply yr_run; rfl; intro w' hw'; go_simp; (try with_reducible rfl)
                    simp only [Act.put, List.setIfInBounds_toArray, List.set_cons_zero, List.set_cons_succ]
                    apply wpT_last 15
                    · simp only [List.getElem?_toArray, List.getElem?_cons_succ, List.getElem?_cons_zero]; exact rfl
                    · rfl
                    · kernel_rfl
                    · rfl
                    · decide
                    intro w' hw'
                    replace hw' := Ext.trans hpd13 hw'
                    clear hpd13
                    obtain ⟨gq, eq, hloq, ⟨csq, hwq⟩, hcq, hfq, hMq⟩ := (HM9.out.bl hw').put huq hjn (A9, L9.length, c9, L9) (HR9.out.bl hw')
                    obtain rfl : gm = gq := by
                      injection eq with eq
                      injection eq
                    replace hcq : w'.cell? ⟨gm, j * 5 + 2, none⟩ = some (.slice rA rn rc) := hcq
                    refine ⟨w'.setCell ⟨gm, j * 5 + 2, none⟩ (.slice A9 L9.length c9), by (go_simp; first | done | exact rfl | exact ⟨rfl, rfl⟩), ?_⟩
                    have HMs_ : RowKit.Hid (Wro (w'.setCell ⟨gm, j * 5 + 2, none⟩ (.slice A9 L9.length c9)) v45.heap.size (some ⟨gm, 0, none⟩) n c2 (Uq.set j ((i1, i2), (A9, L9.length, c9, L9), lb, at_)) B3 (m + 1) k3 (Es ++ [eN])) := Lib.hid hMq
                    have H9s := Lib.hid ((H99.out.bl hw').set_far' (i := j * 5 + 2) ((H99.out.bl hw').ne_ hwq (by decide)) (.slice A9 L9.length c9))
                    have HZs := Lib.hid ((bel_bl HZ9.out hw').setCell (p := ⟨gm, j * 5 + 2, none⟩) Hlo.out (.slice A9 L9.length c9))
                    obtain ⟨W7, gW7⟩ : ∃ z, w'.setCell ⟨gm, j * 5 + 2, none⟩ (.slice A9 L9.length c9) = z := ⟨_, rfl⟩
                    rw [gW7] at HMs_ H9s HZs ⊢
                    clear hw' eq hloq hwq hcq hfq hMq gW7 H99 HM9 HZ9 HR9
                    try simp only [Act.put, List.setIfInBounds_toArray, List.set_cons_zero, List.set_cons_succ]
                    refine wpT_done (by kernel_rfl) ?_ _
                    intro W8 hw8
                    have HZ8 := Lib.hid (bel_bl HZs.out hw8)
                    have H98 := Lib.hid (H9s.out.bl hw8)
                    have HM8 := Lib.hid (HMs_.out.bl hw8)
                    clear hw8 HZs H9s HMs_
                    have HUf := HSet.out A9 L9.length c9 L9 HLd.out.symm
                    rw [gUq] at HUf
                    have HUf := Lib.hid HUf
                    go_wp2
                    go_roundw
                    case rel => exact ⟨j + 1, _, by omega, by go_num, HZ8, H98, HM8, HUf⟩
                    case measure => simp [intOf] <;> omega
                  | false =>
                    have HUf := HSet.out rA rn rc rL rfl
                    have hse : Us.set j ((i1, i2), (rA, rn, rc, rL), lb, at_) = Us := by
                      obtain ⟨h1, h2⟩ := List.getElem?_eq_some_iff.1 Hu.out
                      rw [← h2]
                      exact List.set_getElem_self h1
                    rw [hse] at HUf
                    have HUf := Lib.hid HUf
                    go_wp2
                    go_roundw
                    case rel => exact ⟨j + 1, _, by omega, by go_num, HZq, H9q, HMq, HUf⟩
                    case measure => simp [intOf] <;> omega
                · obtain rfl : n = j := by omega
                  have hMs := HU.out
                  rw [List.take_of_length_le (by have := Hlv.out; omega), List.drop_eq_nil_of_le (by have := Hlv.out; omega)] at hMs
                  obtain ⟨Ms, gMs⟩ : ∃ z, Vs.map (mI (a1, a2) (x1, x2, x3) (8, 1048576, 0)) = z := ⟨_, rfl⟩
                  have hMs2 : Us.map vS = Ms.map vS := by
                    rw [hMs, List.map_nil, List.append_nil, ← gMs, List.map_map]
                    rfl
                  obtain ⟨hBs2, hNum⟩ := HMs.out Ms gMs.symm
                  have HBs2 := Lib.hid hBs2
                  have HNum := Lib.hid hNum
                  have HU2 : RowKit.Hid (Us.map vS = (Ms.take 0).map (gI (b1, b2) (y1, y2, y3) (8, 1048576, 1)) ++ (Ms.drop 0).map vS) := Lib.hid (by rw [hMs2]; rfl)
                  clear hMs hMs2 gMs hBs2 hNum HU
                  go_wp2
                  clear cb
                  go_loopw [18] (fun si wr => ∃ (j : Nat) (Us : List VC), j ≤ n ∧ si = .int .i64 j ∧ RowKit.Hid (Below v45.heap.size v45 wr) ∧ RowKit.Hid (Whole wr b9 25 [.slice A2 n c2, .slice B3 (m + 1) k3]) ∧ RowKit.Hid (Wro wr v45.heap.size A2 n c2 Us B3 (m + 1) k3 (Es ++ [eN])) ∧ RowKit.Hid (Us.map vS = (Ms.take j).map (gI (b1, b2) (y1, y2, y3) (8, 1048576, 1)) ++ (Ms.drop j).map vS)) (fun si _ => n - (intOf si).toNat)
                  case atStart => exact ⟨0, Us, by omega, rfl, HZ, H9, HM, HU2⟩
                  case round =>
                    clear HZ H9 HM HU2
                    obtain ⟨j, Us, hj, rfl, HZ, H9, HM, HU⟩ := hrel
                    obtain ⟨wo, gwo⟩ : ∃ z, wr = z := ⟨_, rfl⟩
                    rw [gwo] at HZ H9 HM ⊢
                    clear gwo
                    have cb := H9.out.cell (i := 0) rfl
                    by_cases hjn : j < n
                    · obtain ⟨v, hv⟩ : ∃ v, Ms[j]? = some v := ⟨_, List.getElem?_eq_getElem (by have := HBs2.out.1; omega)⟩
                      obtain ⟨u, hu, huv⟩ : ∃ u, Us[j]? = some u ∧ vS u = vS v := by
                        have h1 : (Us.map vS)[j]? = some (vS v) := by
                          rw [HU.out, List.getElem?_append_right (by simp; omega)]
                          simp only [List.length_map, List.length_take]
                          rw [show j - min j Ms.length = 0 by have := HBs2.out.1; omega, List.getElem?_map, List.getElem?_drop, Nat.add_zero, hv]
                          rfl
                        rw [List.getElem?_map] at h1
                        cases hq : Us[j]? with
                        | none => rw [hq] at h1; cases h1
                        | some y => rw [hq] at h1; exact ⟨y, rfl, Option.some.inj h1⟩
                      have hul : u.2.1.2.2.2 = v.2.1.2.2.2 := congrArg (fun s : (Int × Int) × List D × ByteArray × Int => s.2.1) huv
                      have hrn : u.2.1.2.1 ≤ 81 := by
                        have h1 := HBs2.out.2 v (List.mem_of_getElem? hv)
                        have h3 := (HM.out.r u (List.mem_of_getElem? hu)).2.dlen
                        rw [hul] at h3
                        omega
                      have hset : ∀ (R : Rg), R.2.2.2 = insT (decide (u.1 = (b1, b2))) (y1, y2, y3) (8, 1048576, 1) u.2.1.2.2.2 → (Us.set j (u.1, R, u.2.2)).map vS = (Ms.take (j + 1)).map (gI (b1, b2) (y1, y2, y3) (8, 1048576, 1)) ++ (Ms.drop (j + 1)).map vS := fun R hR => by
                        rw [List.map_set, HU.out]
                        have e : vS (u.1, R, u.2.2) = (gI (b1, b2) (y1, y2, y3) (8, 1048576, 1)) v := by
                          have q1 : u.1 = v.1 := congrArg (fun s : (Int × Int) × List D × ByteArray × Int => s.1) huv
                          have q3 : u.2.2.1 = v.2.2.1 := congrArg (fun s : (Int × Int) × List D × ByteArray × Int => s.2.2.1) huv
                          have q4 : u.2.2.2 = v.2.2.2 := congrArg (fun s : (Int × Int) × List D × ByteArray × Int => s.2.2.2) huv
                          show (u.1, R.2.2.2, u.2.2.1, u.2.2.2) = _
                          rw [hR, q1, q3, q4, hul, gI_eq]
                        rw [e]
                        exact half_set (gI (b1, b2) (y1, y2, y3) (8, 1048576, 1)) vS hv
                      obtain ⟨⟨i1, i2⟩, ⟨rA, rn, rc, rL⟩, lb, at_⟩ := u
                      have HSet : RowKit.Hid (∀ (A9 : Option Addr) (n9 c9 : Nat) (L9 : List D), L9 = insT (decide (((i1, i2) : I2) = (b1, b2))) (y1, y2, y3) (8, 1048576, 1) rL → (Us.set j ((i1, i2), (A9, n9, c9, L9), lb, at_)).map vS = (Ms.take (j + 1)).map (gI (b1, b2) (y1, y2, y3) (8, 1048576, 1)) ++ (Ms.drop (j + 1)).map vS) := Lib.hid (fun A9 n9 c9 L9 h => hset (A9, n9, c9, L9) h)
                      replace hrn : rn ≤ 81 := hrn
                      obtain ⟨gm, eA2, hlo, -, hc, hf, -⟩ := HM.out.put hu hjn (rA, rn, rc, rL) (HM.out.r _ (List.mem_of_getElem? hu))
                      subst eA2
                      have hex := eq_id i1 i2 b1 b2
                      have hdx : (i1 == b1 && i2 == b2) = decide (((i1, i2) : I2) = (b1, b2)) := by
                        by_cases h1 : i1 = b1 <;> by_cases h2 : i2 = b2 <;> simp [h1, h2]
                      obtain ⟨tx, gtx⟩ : ∃ z, decide (((i1, i2) : I2) = (b1, b2)) = z := ⟨_, rfl⟩
                      rw [hdx, gtx] at hex
                      rw [gtx] at HSet
                      have h0 := (own_rds HM.out.v).elem vC_len hu 0 _ rfl
                      have h1 := (own_rds HM.out.v).elem vC_len hu 1 _ rfl
                      simp only [Addr.add_lit, Nat.add_zero, Nat.zero_add] at h0 h1
                      have n0 : wo.cell? ⟨gm, j * 5, none⟩ = some (.int .i64 i1) := h0
                      have n1_ : wo.cell? ⟨gm, j * 5 + 1, none⟩ = some (.int .i64 i2) := h1
                      have Hlo : RowKit.Hid (v45.heap.size ≤ gm) := Lib.hid hlo
                      have Hu := Lib.hid hu
                      clear hv hu huv hul hset hc hf HU hdx gtx hlo h0 h1
                      have HPo := Lib.hid (HXq.out.bl HZ.out)
                      go_upto_region 19 with fail
                      clear cb
                      have ld0 : ∀ w', Kept Nil_ wo.drew w' → w'.cell? ⟨b9, 0, none⟩ = some (.slice (some ⟨gm, 0, none⟩) n c2) := fun w' h => h.nil_cell (H9.out.dr.cell (i := 0) rfl)
                      have ld1 : ∀ w', Kept Nil_ wo.drew w' → w'.cell? ⟨gm, j * 5, none⟩ = some (.int .i64 i1) := fun w' h => h.nil_cell (show wo.drew.cell? _ = _ from n0)
                      have ld2 : ∀ w', Kept Nil_ wo.drew w' → w'.cell? ⟨gm, j * 5 + 1, none⟩ = some (.int .i64 i2) := fun w' h => h.nil_cell (show wo.drew.cell? _ = _ from n1_)
                      have ld3 : ∀ w', Kept Nil_ wo.drew w' → w'.cell? ⟨bQ, 0, none⟩ = some (.int .i64 b1) := fun w' h => h.nil_cell (HPo.out.dr.cell (i := 0) rfl)
                      have ld4 : ∀ w', Kept Nil_ wo.drew w' → w'.cell? ⟨bQ, 1, none⟩ = some (.int .i64 b2) := fun w' h => h.nil_cell (HPo.out.dr.cell (i := 1) rfl)
                      refine wp_region_reg (Nil_) (by kernel_rfl) ?_
                      apply wpR_next 0 (some 116)
                      · simp only [List.getElem?_toArray, List.getElem?_cons_succ, List.getElem?_cons_zero]; exact rfl
                      · rfl
                      · kernel_rfl
                      · kernel_rfl
                      · kernel_rfl
                      · exact fun _ _ _ _ h => h
                      apply Exists.intro
                      apply And.intro
                      · apply yr_run; rfl; intro w' hw'; go_simp; (try with_reducible rfl)
                      simp only [Act.put, List.setIfInBounds_toArray, List.set_cons_zero, List.set_cons_succ]
                      apply wpR_next 1 (some 117)
                      · simp only [List.getElem?_toArray, List.getElem?_cons_succ, List.getElem?_cons_zero]; exact rfl
                      · rfl
                      · kernel_rfl
                      · kernel_rfl
                      · kernel_rfl
                      · exact fun _ _ _ _ h => h
                      apply Exists.intro
                      apply And.intro
                      · apply yr_run; rfl; intro w' hw'; go_simp; (try with_reducible rfl)
                      simp only [Act.put, List.setIfInBounds_toArray, List.set_cons_zero, List.set_cons_succ]
                      apply wpR_next 2 (some 118)
                      · simp only [List.getElem?_toArray, List.getElem?_cons_succ, List.getElem?_cons_zero]; exact rfl
                      · rfl
                      · kernel_rfl
                      · kernel_rfl
                      · kernel_rfl
                      · exact fun _ _ _ _ h => h
                      apply Exists.intro
                      apply And.intro
                      · apply yr_run; rfl; intro w' hw'; go_simp; (try with_reducible rfl)
                      simp only [Act.put, List.setIfInBounds_toArray, List.set_cons_zero, List.set_cons_succ]
                      apply wpR_next 3 (some 119)
                      · simp only [List.getElem?_toArray, List.getElem?_cons_succ, List.getElem?_cons_zero]; exact rfl
                      · rfl
                      · kernel_rfl
                      · kernel_rfl
                      · kernel_rfl
                      · exact fun _ _ _ _ h => h
                      apply Exists.intro
                      apply And.intro
                      · apply yr_run; rfl; intro w' hw'; go_simp; (try with_reducible rfl)
                      simp only [Act.put, List.setIfInBounds_toArray, List.set_cons_zero, List.set_cons_succ]
                      apply wpR_next 4 (some 120)
                      · simp only [List.getElem?_toArray, List.getElem?_cons_succ, List.getElem?_cons_zero]; exact rfl
                      · rfl
                      · kernel_rfl
                      · kernel_rfl
                      · kernel_rfl
                      · exact fun _ _ _ _ h => h
                      apply Exists.intro
                      apply And.intro
                      · apply yr_run; rfl; intro w' hw'; go_simp; (try with_reducible rfl)
                      simp only [Act.put, List.setIfInBounds_toArray, List.set_cons_zero, List.set_cons_succ]
                      apply wpR_next 5 (some 121)
                      · simp only [List.getElem?_toArray, List.getElem?_cons_succ, List.getElem?_cons_zero]; exact rfl
                      · rfl
                      · kernel_rfl
                      · kernel_rfl
                      · kernel_rfl
                      · exact fun _ _ _ _ h => h
                      apply Exists.intro
                      apply And.intro
                      · apply yr_run; rfl; intro w' hw'; go_simp; (try with_reducible rfl)
                      simp only [Act.put, List.setIfInBounds_toArray, List.set_cons_zero, List.set_cons_succ]
                      apply wpR_next 6 (some 122)
                      · simp only [List.getElem?_toArray, List.getElem?_cons_succ, List.getElem?_cons_zero]; exact rfl
                      · rfl
                      · kernel_rfl
                      · kernel_rfl
                      · kernel_rfl
                      · exact fun _ _ _ _ h => h
                      apply Exists.intro
                      apply And.intro
                      · apply yr_run; rfl; intro w' hw'; go_simp; (try with_reducible rfl)
                      simp only [Act.put, List.setIfInBounds_toArray, List.set_cons_zero, List.set_cons_succ]
                      apply wpR_next 7 (some 123)
                      · simp only [List.getElem?_toArray, List.getElem?_cons_succ, List.getElem?_cons_zero]; exact rfl
                      · rfl
                      · kernel_rfl
                      · kernel_rfl
                      · kernel_rfl
                      · exact fun _ _ _ _ h => h
                      apply Exists.intro
                      apply And.intro
                      · exact yr_run (by rfl) (fun w' hw' => exec_binop_agg .eql 27 (.tmp 121) (.tmp 122) 27 rfl rfl rfl (by kernel_rfl) (hex w'))
                      simp only [Act.put, List.setIfInBounds_toArray, List.set_cons_zero, List.set_cons_succ]
                      refine wpR_done (by kernel_rfl) ?_ _
                      intro wq hwq
                      have HZq := Lib.hid (bel_bl (bel_dr HZ.out) hwq)
                      have H9q := Lib.hid (H9.out.dr.bl hwq)
                      have HMq := Lib.hid (HM.out.dr.bl hwq)
                      clear hwq ld0 ld1 ld2 ld3 ld4 n0 n1_ HPo HZ H9 HM
                      cases tx with
                      | true =>
                        obtain ⟨Uq, gUq⟩ : ∃ z, Us = z := ⟨_, rfl⟩
                        have huq : Uq[j]? = some ((i1, i2), (rA, rn, rc, rL), lb, at_) := by rw [← gUq]; exact Hu.out
                        rw [gUq] at HMq
                        obtain ⟨gp, ep, -, -, hcp, -, -⟩ := HMq.out.put huq hjn (rA, rn, rc, rL) (HMq.out.r _ (List.mem_of_getElem? huq))
                        obtain rfl : gm = gp := by
                          injection ep with ep
                          injection ep
                        replace hcp : wq.cell? ⟨gm, j * 5 + 2, none⟩ = some (.slice rA rn rc) := hcp
                        have HRq : RowKit.Hid (RdS wq.drew wq.drew.heap.size 3 rA rn rc (dartsV rL)) := Lib.hid (HMq.out.r _ (List.mem_of_getElem? huq)).2.dr
                        have HRm : RowKit.Hid (∀ W, RdS W W.heap.size 3 rA rn rc (dartsV rL) → Calls Try.prog 34 #[.slice rA rn rc, .agg #[.int .i64 y1, .int .i64 y2, .int .i64 y3], .agg #[.int .i64 8, .int .i64 1048576, .int .i64 1]] W (GivesC W (turnD (insR rL (y1, y2, y3) (8, 1048576, 1))))) := Lib.hid (fun W h => rfinsertc_any rA rn rc rL (y1, y2, y3) (8, 1048576, 1) W h (by omega))
                        obtain ⟨L9, gL9⟩ : ∃ z, turnD (insR rL (y1, y2, y3) (8, 1048576, 1)) = z := ⟨_, rfl⟩
                        have HLd : RowKit.Hid (insT true (y1, y2, y3) (8, 1048576, 1) rL = L9) := Lib.hid gL9
                        rw [gL9] at HRm
                        have HXno := Lib.hid (HXn.out.bl HZq.out)
                        have HXxo := Lib.hid (HXy.out.bl HZq.out)
                        clear gL9 ep
                        go_upto_region 20 with fail
                        have ld0 : ∀ w', Kept Nil_ wq.drew w' → w'.cell? ⟨b9, 0, none⟩ = some (.slice (some ⟨gm, 0, none⟩) n c2) := fun w' h => h.nil_cell (H9q.out.dr.cell (i := 0) rfl)
                        have ld1 : ∀ w', Kept Nil_ wq.drew w' → w'.cell? ⟨gm, j * 5 + 2, none⟩ = some (.slice rA rn rc) := fun w' h => h.nil_cell (show wq.drew.cell? _ = _ from hcp)
                        have ld2 : ∀ w', Kept Nil_ wq.drew w' → w'.cell? ⟨bN, 0, none⟩ = some (.int .i64 8) := fun w' h => h.nil_cell (HXno.out.dr.cell (i := 0) rfl)
                        have ld3 : ∀ w', Kept Nil_ wq.drew w' → w'.cell? ⟨bN, 1, none⟩ = some (.int .i64 1048576) := fun w' h => h.nil_cell (HXno.out.dr.cell (i := 1) rfl)
                        have ld4 : ∀ w', Kept Nil_ wq.drew w' → w'.cell? ⟨w.heap.size + 1 + 1, 0, none⟩ = some (.int .i64 y1) := fun w' h => h.nil_cell (HXxo.out.dr.cell (i := 0) rfl)
                        have ld5 : ∀ w', Kept Nil_ wq.drew w' → w'.cell? ⟨w.heap.size + 1 + 1, 1, none⟩ = some (.int .i64 y2) := fun w' h => h.nil_cell (HXxo.out.dr.cell (i := 1) rfl)
                        have ld6 : ∀ w', Kept Nil_ wq.drew w' → w'.cell? ⟨w.heap.size + 1 + 1, 2, none⟩ = some (.int .i64 y3) := fun w' h => h.nil_cell (HXxo.out.dr.cell (i := 2) rfl)
                        clear hcp HXno HXxo
                        refine wp_region_tail (Nil_) [15] (by kernel_rfl) ?_
                        apply wpT_next 0 (some 124) (by kernel_rfl)
                        · simp only [List.getElem?_toArray, List.getElem?_cons_succ, List.getElem?_cons_zero]; exact rfl
                        · rfl
                        · kernel_rfl
                        · kernel_rfl
                        · kernel_rfl
                        · exact fun _ _ _ _ h => h
                        apply Exists.intro
                        apply And.intro
                        · apply yr_run; rfl; intro w' hw'; go_simp; (try with_reducible rfl)
                        simp only [Act.put, List.setIfInBounds_toArray, List.set_cons_zero, List.set_cons_succ]
                        apply wpT_next 1 (some 125) (by kernel_rfl)
                        · simp only [List.getElem?_toArray, List.getElem?_cons_succ, List.getElem?_cons_zero]; exact rfl
                        · rfl
                        · kernel_rfl
                        · kernel_rfl
                        · kernel_rfl
                        · exact fun _ _ _ _ h => h
                        apply Exists.intro
                        apply And.intro
                        · apply yr_run; rfl; intro w' hw'; go_simp; (try with_reducible rfl)
                        simp only [Act.put, List.setIfInBounds_toArray, List.set_cons_zero, List.set_cons_succ]
                        apply wpT_next 2 (some 126) (by kernel_rfl)
                        · simp only [List.getElem?_toArray, List.getElem?_cons_succ, List.getElem?_cons_zero]; exact rfl
                        · rfl
                        · kernel_rfl
                        · kernel_rfl
                        · kernel_rfl
                        · exact fun _ _ _ _ h => h
                        apply Exists.intro
                        apply And.intro
                        · apply yr_run; rfl; intro w' hw'; go_simp; (try with_reducible rfl)
                        simp only [Act.put, List.setIfInBounds_toArray, List.set_cons_zero, List.set_cons_succ]
                        apply wpT_next 3 (some 127) (by kernel_rfl)
                        · simp only [List.getElem?_toArray, List.getElem?_cons_succ, List.getElem?_cons_zero]; exact rfl
                        · rfl
                        · kernel_rfl
                        · kernel_rfl
                        · kernel_rfl
                        · exact fun _ _ _ _ h => h
                        apply Exists.intro
                        apply And.intro
                        · apply yr_run; rfl; intro w' hw'; go_simp; (try with_reducible rfl)
                        simp only [Act.put, List.setIfInBounds_toArray, List.set_cons_zero, List.set_cons_succ]
                        apply wpT_next 4 (some 128) (by kernel_rfl)
                        · simp only [List.getElem?_toArray, List.getElem?_cons_succ, List.getElem?_cons_zero]; exact rfl
                        · rfl
                        · kernel_rfl
                        · kernel_rfl
                        · kernel_rfl
                        · exact fun _ _ _ _ h => h
                        apply Exists.intro
                        apply And.intro
                        · apply yr_run; rfl; intro w' hw'; go_simp; (try with_reducible rfl)
                        simp only [Act.put, List.setIfInBounds_toArray, List.set_cons_zero, List.set_cons_succ]
                        apply wpT_next 5 (some 129) (by kernel_rfl)
                        · simp only [List.getElem?_toArray, List.getElem?_cons_succ, List.getElem?_cons_zero]; exact rfl
                        · rfl
                        · kernel_rfl
                        · kernel_rfl
                        · kernel_rfl
                        · exact fun _ _ _ _ h => h
                        apply Exists.intro
                        apply And.intro
                        · apply yr_run; rfl; intro w' hw'; go_simp; (try with_reducible rfl)
                        simp only [Act.put, List.setIfInBounds_toArray, List.set_cons_zero, List.set_cons_succ]
                        apply wpT_next 6 (some 130) (by kernel_rfl)
                        · simp only [List.getElem?_toArray, List.getElem?_cons_succ, List.getElem?_cons_zero]; exact rfl
                        · rfl
                        · kernel_rfl
                        · kernel_rfl
                        · kernel_rfl
                        · exact fun _ _ _ _ h => h
                        apply Exists.intro
                        apply And.intro
                        · apply yr_run; rfl; intro w' hw'; go_simp; (try with_reducible rfl)
                        simp only [Act.put, List.setIfInBounds_toArray, List.set_cons_zero, List.set_cons_succ]
                        apply wpT_next 7 (some 131) (by kernel_rfl)
                        · simp only [List.getElem?_toArray, List.getElem?_cons_succ, List.getElem?_cons_zero]; exact rfl
                        · rfl
                        · kernel_rfl
                        · kernel_rfl
                        · kernel_rfl
                        · exact fun _ _ _ _ h => h
                        apply Exists.intro
                        apply And.intro
                        · apply yr_run; rfl; intro w' hw'; go_simp; (try with_reducible rfl)
                        simp only [Act.put, List.setIfInBounds_toArray, List.set_cons_zero, List.set_cons_succ]
                        apply wpT_next 8 (some 132) (by kernel_rfl)
                        · simp only [List.getElem?_toArray, List.getElem?_cons_succ, List.getElem?_cons_zero]; exact rfl
                        · rfl
                        · kernel_rfl
                        · kernel_rfl
                        · kernel_rfl
                        · exact fun _ _ _ _ h => h
                        apply Exists.intro
                        apply And.intro
                        · apply yr_run; rfl; intro w' hw'; go_simp; (try with_reducible rfl)
                        simp only [Act.put, List.setIfInBounds_toArray, List.set_cons_zero, List.set_cons_succ]
                        apply wpT_next 9 (some 133) (by kernel_rfl)
                        · simp only [List.getElem?_toArray, List.getElem?_cons_succ, List.getElem?_cons_zero]; exact rfl
                        · rfl
                        · kernel_rfl
                        · kernel_rfl
                        · kernel_rfl
                        · exact fun _ _ _ _ h => h
                        apply Exists.intro
                        apply And.intro
                        · apply yr_run; rfl; intro w' hw'; go_simp; (try with_reducible rfl)
                        simp only [Act.put, List.setIfInBounds_toArray, List.set_cons_zero, List.set_cons_succ]
                        apply wpT_next 10 (some 134) (by kernel_rfl)
                        · simp only [List.getElem?_toArray, List.getElem?_cons_succ, List.getElem?_cons_zero]; exact rfl
                        · rfl
                        · kernel_rfl
                        · kernel_rfl
                        · kernel_rfl
                        · exact fun _ _ _ _ h => h
                        apply Exists.intro
                        apply And.intro
                        · apply yr_run; rfl; intro w' hw'; go_simp; (try with_reducible rfl)
                        simp only [Act.put, List.setIfInBounds_toArray, List.set_cons_zero, List.set_cons_succ]
                        apply wpT_next 11 (some 135) (by kernel_rfl)
                        · simp only [List.getElem?_toArray, List.getElem?_cons_succ, List.getElem?_cons_zero]; exact rfl
                        · rfl
                        · kernel_rfl
                        · kernel_rfl
                        · kernel_rfl
                        · exact fun _ _ _ _ h => h
                        apply Exists.intro
                        apply And.intro
                        · apply yr_run; rfl; intro w' hw'; go_simp; (try with_reducible rfl)
                        simp only [Act.put, List.setIfInBounds_toArray, List.set_cons_zero, List.set_cons_succ]
                        apply wpT_call 12 (some 136)
                        · simp only [List.getElem?_toArray, List.getElem?_cons_succ, List.getElem?_cons_zero]; exact rfl
                        · rfl
                        · kernel_rfl
                        · rfl
                        · intro w'; go_simp; first | done | exact ⟨rfl, rfl⟩ | with_reducible rfl
                        intro w' hw'
                        refine (HRm.out w' (HRq.out.bl hw')).mono ?_
                        rintro e w9 ⟨A9, c9, rfl, hr9, hb9, hc9⟩
                        refine ⟨_, rfl, Kept.of_below hb9, ?_⟩
                        have H99 := Lib.hid ((H9q.out.dr.bl hw').bl hb9)
                        have HM9 := Lib.hid ((HMq.out.dr.bl hw').bl hb9)
                        have HZ9 := Lib.hid (bel_bl (bel_bl (bel_dr HZq.out) hw') hb9)
                        have HR9 : RowKit.Hid (RgOk w9 (A9, L9.length, c9, L9)) := Lib.hid ⟨hc9, hr9⟩
                        obtain ⟨V9, gV9⟩ : ∃ z, w9 = z := ⟨_, rfl⟩
                        rw [gV9] at H99 HM9 HZ9 HR9 ⊢
                        clear hw' hr9 hb9 hc9 gV9 ld0 ld1 ld2 ld3 ld4 ld5 ld6 HRm HRq H9q HMq HZq
                        simp only [Act.put, List.setIfInBounds_toArray, List.set_cons_zero, List.set_cons_succ]
                        apply wpT_run 13 (some 137)
                        · simp only [List.getElem?_toArray, List.getElem?_cons_succ, List.getElem?_cons_zero]; exact rfl
                        · rfl
                        · kernel_rfl
                        · rfl
                        intro w' hw'
                        apply Exists.intro
                        apply Exists.intro
                        apply And.intro
                        · go_simp; first | done | exact ⟨rfl, rfl⟩ | exact rfl
                        apply And.intro
                        · exact Kept.refl _ _
                        have hpd13 := hw'
                        clear hw'
                        simp only [Act.put, List.setIfInBounds_toArray, List.set_cons_zero, List.set_cons_succ]
                        apply wpT_next 14 (some 138) (by kernel_rfl)
                        · simp only [List.getElem?_toArray, List.getElem?_cons_succ, List.getElem?_cons_zero]; exact rfl
                        · rfl
                        · kernel_rfl
                        · kernel_rfl
                        · kernel_rfl
                        · exact fun _ _ _ _ h => h
                        apply Exists.intro
                        apply And.intro
                        · apply yr_run; rfl; intro w' hw'; go_simp; (try with_reducible rfl)
                        simp only [Act.put, List.setIfInBounds_toArray, List.set_cons_zero, List.set_cons_succ]
                        apply wpT_last 15
                        · simp only [List.getElem?_toArray, List.getElem?_cons_succ, List.getElem?_cons_zero]; exact rfl
                        · rfl
                        · kernel_rfl
                        · rfl
                        · decide
                        intro w' hw'
                        replace hw' := Ext.trans hpd13 hw'
                        clear hpd13
                        obtain ⟨gq, eq, hloq, ⟨csq, hwq⟩, hcq, hfq, hMq⟩ := (HM9.out.bl hw').put huq hjn (A9, L9.length, c9, L9) (HR9.out.bl hw')
                        obtain rfl : gm = gq := by
                          injection eq with eq
                          injection eq
                        replace hcq : w'.cell? ⟨gm, j * 5 + 2, none⟩ = some (.slice rA rn rc) := hcq
                        refine ⟨w'.setCell ⟨gm, j * 5 + 2, none⟩ (.slice A9 L9.length c9), by (go_simp; first | done | exact rfl | exact ⟨rfl, rfl⟩), ?_⟩
                        have HMs_ : RowKit.Hid (Wro (w'.setCell ⟨gm, j * 5 + 2, none⟩ (.slice A9 L9.length c9)) v45.heap.size (some ⟨gm, 0, none⟩) n c2 (Uq.set j ((i1, i2), (A9, L9.length, c9, L9), lb, at_)) B3 (m + 1) k3 (Es ++ [eN])) := Lib.hid hMq
                        have H9s := Lib.hid ((H99.out.bl hw').set_far' (i := j * 5 + 2) ((H99.out.bl hw').ne_ hwq (by decide)) (.slice A9 L9.length c9))
                        have HZs := Lib.hid ((bel_bl HZ9.out hw').setCell (p := ⟨gm, j * 5 + 2, none⟩) Hlo.out (.slice A9 L9.length c9))
                        obtain ⟨W7, gW7⟩ : ∃ z, w'.setCell ⟨gm, j * 5 + 2, none⟩ (.slice A9 L9.length c9) = z := ⟨_, rfl⟩
                        rw [gW7] at HMs_ H9s HZs ⊢
                        clear hw' eq hloq hwq hcq hfq hMq gW7 H99 HM9 HZ9 HR9
                        try simp only [Act.put, List.setIfInBounds_toArray, List.set_cons_zero, List.set_cons_succ]
                        refine wpT_done (by kernel_rfl) ?_ _
                        intro W8 hw8
                        have HZ8 := Lib.hid (bel_bl HZs.out hw8)
                        have H98 := Lib.hid (H9s.out.bl hw8)
                        have HM8 := Lib.hid (HMs_.out.bl hw8)
                        clear hw8 HZs H9s HMs_
                        have HUf := HSet.out A9 L9.length c9 L9 HLd.out.symm
                        rw [gUq] at HUf
                        have HUf := Lib.hid HUf
                        go_wp2
                        go_roundw
                        case rel => exact ⟨j + 1, _, by omega, by go_num, HZ8, H98, HM8, HUf⟩
                        case measure => simp [intOf] <;> omega
                      | false =>
                        have HUf := HSet.out rA rn rc rL rfl
                        have hse : Us.set j ((i1, i2), (rA, rn, rc, rL), lb, at_) = Us := by
                          obtain ⟨h1, h2⟩ := List.getElem?_eq_some_iff.1 Hu.out
                          rw [← h2]
                          exact List.set_getElem_self h1
                        rw [hse] at HUf
                        have HUf := Lib.hid HUf
                        go_wp2
                        go_roundw
                        case rel => exact ⟨j + 1, _, by omega, by go_num, HZq, H9q, HMq, HUf⟩
                        case measure => simp [intOf] <;> omega
                    · obtain rfl : n = j := by omega
                      have hUs : Us.map vS = Ms.map (gI (b1, b2) (y1, y2, y3) (8, 1048576, 1)) := by
                        rw [HU.out, List.take_of_length_le (by have := HBs2.out.1; omega), List.drop_eq_nil_of_le (by have := HBs2.out.1; omega)]
                        simp
                      obtain ⟨hRu, hmem, hl82, P, P', hP, hP', hyes, hnot⟩ := HNum.out Us hUs
                      obtain ⟨P0, hP0, eP0⟩ := orbs_get3 HFm.out
                      have hwas : (orbsF (phF Vs) 80 (dsE Es) []).length = P.length := by
                        rw [eP0, List.length_map]
                        exact hP0.len HFm.out.phi hP
                      have hPl : P.length ≤ 80 := by
                        have h1 := nd_le hP.nd hP.sub
                        have := HFm.out.l80
                        omega
                      have hwf : ∀ d ∈ ringsOf Us, wfS d := fun d hd => by
                        rcases (hmem d).1 hd with h1 | rfl | rfl
                        · exact HFm.out.wfS HGd.out h1
                        · exact ⟨⟨by decide, by decide, by decide⟩, by decide, by decide⟩
                        · exact ⟨⟨by decide, by decide, by decide⟩, by decide, by decide⟩
                      have hr0m : ∀ u ∈ Us, u.2.1.2.1 ≤ 1000000 := fun u hu => by
                        have h1 := (HM.out.r u hu).2.dlen
                        have h2 := ring_len hu
                        omega
                      have hsz : ∀ v ∈ Us, ∀ d ∈ v.2.1.2.2.2, wfS d := fun v hv d hd => hwf d (ring_mem.2 ⟨v, hv, hd⟩)
                      have hkz : ∀ S, KeysD (sigM Us) S → S.length ≤ 1000000 := fun S hS => by
                        have := hRu.keys (fun d hd => (hwf d hd).1) hS
                        omega
                      have hlz : (dsV Us).length ≤ 1000000 := by rw [dsV_eq]; omega
                      have HF1 : RowKit.Hid (∀ W, DgIn W A n c Vs B m k Es → Calls Try.prog 26 #[.agg #[.slice A n c, .slice B m k]] W fun e w' => ∃ A' c', e = .returned (.slice A' P.length c') ∧ Below W.heap.size W w') := Lib.hid (fun W h => by
                        refine (faces5_any A n c Vs B m k Es W h HFm.out HGd.out).mono ?_
                        rintro e w' ⟨A', c', X, rfl, -, hX, hb⟩
                        have hl := congrArg List.length hX
                        rw [List.length_map, hwas] at hl
                        rw [hl]
                        exact ⟨A', c', rfl, hb⟩)
                      have HF2 : RowKit.Hid (∀ W, DgIn W A2 n c2 Us B3 (m + 1) k3 (Es ++ [eN]) → Calls Try.prog 26 #[.agg #[.slice A2 n c2, .slice B3 (m + 1) k3]] W fun e w' => ∃ A' c', e = .returned (.slice A' P'.length c') ∧ Below W.heap.size W w') := Lib.hid (fun W h => by
                        refine (faces_any A2 n c2 Us B3 (m + 1) k3 (Es ++ [eN]) W h (by omega) hr0m hsz hkz hlz).mono ?_
                        rintro e w' ⟨S, A', c', X, hS, rfl, -, hX, hb⟩
                        obtain ⟨P2, hP2, e2⟩ := hRu.all (N := S.length) (by rw [hRu.keys (fun d hd => (hwf d hd).1) hS]; exact Nat.le_refl _)
                        have hl := congrArg List.length hX
                        rw [List.length_map, e2, hP2.len hRu.phi hP'] at hl
                        rw [hl]
                        exact ⟨A', c', rfl, hb⟩)
                      have hox : othW (x1, x2, x3) = othD (x1, x2, x3) := (HFm.out.othW (d := (x1, x2, x3)) Hix.out.2.2).2 Hrx.out
                      have hoy : othW (y1, y2, y3) = othD (y1, y2, y3) := (HFm.out.othW (d := (y1, y2, y3)) Hiy.out.2.2).2 Hry.out
                      have hOx := rother_w x1 x2 x3
                      have hOy := rother_w y1 y2 y3
                      have hrox := HFm.out.oth Hrx.out
                      rw [hox] at hOx
                      rw [hoy] at hOy
                      obtain ⟨rl, hrl⟩ : ∃ z, decide (othD (y1, y2, y3) ∈ faceD Vs (othD (x1, x2, x3))) = z := ⟨_, rfl⟩
                      have hRl : rl = true ↔ Rl (phF Vs) (othD (x1, x2, x3)) (othD (y1, y2, y3)) := by
                        rw [← hrl, decide_eq_true_iff, faceD_mem HFm.out]
                        exact ⟨fun q => q.2, fun q => ⟨hrox, q⟩⟩
                      rw [← hRl] at hyes hnot
                      obtain ⟨⟨o1, o2, o3⟩, gox⟩ : ∃ z, othD (x1, x2, x3) = z := ⟨_, rfl⟩
                      obtain ⟨⟨q1, q2, q3⟩, goy⟩ : ∃ z, othD (y1, y2, y3) = z := ⟨_, rfl⟩
                      rw [gox] at hOx hrl hrox
                      rw [goy] at hOy hrl
                      have HOx := Lib.hid hOx
                      have HOy := Lib.hid hOy
                      replace HOx : RowKit.Hid (∀ W, Calls Try.prog 30 #[.agg #[.int .i64 x1, .int .i64 x2, .int .i64 x3]] W fun e w' => e = .returned (.agg #[.int .i64 o1, .int .i64 o2, .int .i64 o3]) ∧ Below W.heap.size W w') := HOx
                      replace HOy : RowKit.Hid (∀ W, Calls Try.prog 30 #[.agg #[.int .i64 y1, .int .i64 y2, .int .i64 y3]] W fun e w' => e = .returned (.agg #[.int .i64 q1, .int .i64 q2, .int .i64 q3]) ∧ Below W.heap.size W w') := HOy
                      have HSh : RowKit.Hid (∀ W, DgIn W A n c Vs B m k Es → Calls Try.prog 28 #[.agg #[.slice A n c, .slice B m k], .agg #[.int .i64 o1, .int .i64 o2, .int .i64 o3], .agg #[.int .i64 q1, .int .i64 q2, .int .i64 q3]] W fun e w' => e = .returned (.bool rl) ∧ Below W.heap.size W w') := Lib.hid (fun W h => by
                        have h1 := share5_any A n c Vs B m k Es o1 o2 o3 q1 q2 q3 W h HFm.out HGd.out (HFm.out.wfS HGd.out hrox).1
                        rw [hrl] at h1
                        exact h1)
                      obtain ⟨ww, gww⟩ : ∃ z, P.length = z := ⟨_, rfl⟩
                      obtain ⟨nw, gnw⟩ : ∃ z, P'.length = z := ⟨_, rfl⟩
                      rw [gww] at HF1 hyes hnot hPl
                      rw [gnw] at HF2 hyes hnot
                      have Hyes := Lib.hid hyes
                      have Hnot := Lib.hid hnot
                      have HDm := Lib.hid HM.out.dg
                      have HDz := Lib.hid (HDd.out.bl HZ.out)
                      have HXz := Lib.hid (HXd.out.bl HZ.out)
                      have HXu := Lib.hid (HXx.out.bl HZ.out)
                      have HXv := Lib.hid (HXy.out.bl HZ.out)
                      clear hUs hRu hmem hl82 hP hP' hyes hnot hP0 eP0 hwas hwf hr0m hsz hkz hlz hox hoy hOx hOy hrox hrl hRl gox goy gww gnw HU HM HNum
                      have lw901 : (wo).cell? ⟨(w.heap.size + 1), 0, none⟩ = some (.int .i64 x1) := HXu.out.cell (i := 0) rfl
                      have lw902 : (wo).cell? ⟨(w.heap.size + 1), 1, none⟩ = some (.int .i64 x2) := HXu.out.cell (i := 1) rfl
                      have lw903 : (wo).cell? ⟨(w.heap.size + 1), 2, none⟩ = some (.int .i64 x3) := HXu.out.cell (i := 2) rfl
                      go_wp2_with fail
                      clear lw901 lw902 lw903
                      refine (HOx.out _).mono ?_
                      rintro e w904 ⟨rfl, hb904⟩
                      have Da_905 := Lib.hid (HDz.out.bl hb904)
                      have Dm_905 := Lib.hid (HDm.out.bl hb904)
                      have D0_905 := Lib.hid (HXz.out.bl hb904)
                      have X_905 := Lib.hid (HXu.out.bl hb904)
                      have Y_905 := Lib.hid (HXv.out.bl hb904)
                      have M9_905 := Lib.hid (H9.out.bl hb904)
                      have Bel_905 := Lib.hid (bel_bl HZ.out hb904)
                      clear HDz HDm HXz HXu HXv H9 HZ
                      clear hb904
                      clear cb
                      have lw906 : ((w904.alloc (.cells #[.int .i64 o1, .int .i64 o2, .int .i64 o3] 29))).cell? ⟨(w.heap.size + 1 + 1), 0, none⟩ = some (.int .i64 y1) := (Y_905.out.al (.cells #[.int .i64 o1, .int .i64 o2, .int .i64 o3] 29)).cell (i := 0) rfl
                      have lw907 : ((w904.alloc (.cells #[.int .i64 o1, .int .i64 o2, .int .i64 o3] 29))).cell? ⟨(w.heap.size + 1 + 1), 1, none⟩ = some (.int .i64 y2) := (Y_905.out.al (.cells #[.int .i64 o1, .int .i64 o2, .int .i64 o3] 29)).cell (i := 1) rfl
                      have lw908 : ((w904.alloc (.cells #[.int .i64 o1, .int .i64 o2, .int .i64 o3] 29))).cell? ⟨(w.heap.size + 1 + 1), 2, none⟩ = some (.int .i64 y3) := (Y_905.out.al (.cells #[.int .i64 o1, .int .i64 o2, .int .i64 o3] 29)).cell (i := 2) rfl
                      go_wp2_with fail
                      clear lw906 lw907 lw908
                      refine (HOy.out _).mono ?_
                      rintro e w909 ⟨rfl, hb909⟩
                      have Da_910 := Lib.hid ((Da_905.out.al (.cells #[.int .i64 o1, .int .i64 o2, .int .i64 o3] 29)).bl hb909)
                      have Dm_910 := Lib.hid ((Dm_905.out.al (.cells #[.int .i64 o1, .int .i64 o2, .int .i64 o3] 29)).bl hb909)
                      have D0_910 := Lib.hid ((D0_905.out.al (.cells #[.int .i64 o1, .int .i64 o2, .int .i64 o3] 29)).bl hb909)
                      have X_910 := Lib.hid ((X_905.out.al (.cells #[.int .i64 o1, .int .i64 o2, .int .i64 o3] 29)).bl hb909)
                      have Y_910 := Lib.hid ((Y_905.out.al (.cells #[.int .i64 o1, .int .i64 o2, .int .i64 o3] 29)).bl hb909)
                      have M9_910 := Lib.hid ((M9_905.out.al (.cells #[.int .i64 o1, .int .i64 o2, .int .i64 o3] 29)).bl hb909)
                      have O_910 := Lib.hid ((show Whole (w904.alloc (.cells #[.int .i64 o1, .int .i64 o2, .int .i64 o3] 29)) (w904.heap.size) (29) ([.int .i64 o1, .int .i64 o2, .int .i64 o3]) from Whole.new2 (by first | rfl | simp)).bl hb909)
                      have Bel_910 := Lib.hid (bel_bl (bel_al Bel_905.out (.cells #[.int .i64 o1, .int .i64 o2, .int .i64 o3] 29)) hb909)
                      clear Da_905 Dm_905 D0_905 X_905 Y_905 M9_905 Bel_905
                      clear hb909
                      have lw911 : ((w909.alloc (.cells #[.int .i64 q1, .int .i64 q2, .int .i64 q3] 29))).cell? ⟨w.heap.size, 0, none⟩ = some (.slice A n c) := (D0_910.out.al (.cells #[.int .i64 q1, .int .i64 q2, .int .i64 q3] 29)).cell (i := 0) rfl
                      have lw912 : ((w909.alloc (.cells #[.int .i64 q1, .int .i64 q2, .int .i64 q3] 29))).cell? ⟨w.heap.size, 1, none⟩ = some (.slice B m k) := (D0_910.out.al (.cells #[.int .i64 q1, .int .i64 q2, .int .i64 q3] 29)).cell (i := 1) rfl
                      go_wp2_with fail
                      clear lw911 lw912
                      refine (HF1.out _ (Da_910.out.al (.cells #[.int .i64 q1, .int .i64 q2, .int .i64 q3] 29))).mono ?_
                      rintro e w913 ⟨A5, c5, rfl, hb913⟩
                      have Da_914 := Lib.hid ((Da_910.out.al (.cells #[.int .i64 q1, .int .i64 q2, .int .i64 q3] 29)).bl hb913)
                      have Dm_914 := Lib.hid ((Dm_910.out.al (.cells #[.int .i64 q1, .int .i64 q2, .int .i64 q3] 29)).bl hb913)
                      have D0_914 := Lib.hid ((D0_910.out.al (.cells #[.int .i64 q1, .int .i64 q2, .int .i64 q3] 29)).bl hb913)
                      have X_914 := Lib.hid ((X_910.out.al (.cells #[.int .i64 q1, .int .i64 q2, .int .i64 q3] 29)).bl hb913)
                      have Y_914 := Lib.hid ((Y_910.out.al (.cells #[.int .i64 q1, .int .i64 q2, .int .i64 q3] 29)).bl hb913)
                      have M9_914 := Lib.hid ((M9_910.out.al (.cells #[.int .i64 q1, .int .i64 q2, .int .i64 q3] 29)).bl hb913)
                      have O_914 := Lib.hid ((O_910.out.al (.cells #[.int .i64 q1, .int .i64 q2, .int .i64 q3] 29)).bl hb913)
                      have R_914 := Lib.hid ((show Whole (w909.alloc (.cells #[.int .i64 q1, .int .i64 q2, .int .i64 q3] 29)) (w909.heap.size) (29) ([.int .i64 q1, .int .i64 q2, .int .i64 q3]) from Whole.new2 (by first | rfl | simp)).bl hb913)
                      have Bel_914 := Lib.hid (bel_bl (bel_al Bel_910.out (.cells #[.int .i64 q1, .int .i64 q2, .int .i64 q3] 29)) hb913)
                      clear Da_910 Dm_910 D0_910 X_910 Y_910 M9_910 O_910 Bel_910
                      clear hb913
                      have lw915 : (w913).cell? ⟨b9, 0, none⟩ = some (.slice A2 n c2) := M9_914.out.cell (i := 0) rfl
                      have lw916 : (w913).cell? ⟨b9, 1, none⟩ = some (.slice B3 (m + 1) k3) := M9_914.out.cell (i := 1) rfl
                      go_wp2_with fail
                      clear lw915 lw916
                      refine (HF2.out _ Dm_914.out).mono ?_
                      rintro e w917 ⟨A6, c6, rfl, hb917⟩
                      have Da_918 := Lib.hid (Da_914.out.bl hb917)
                      have Dm_918 := Lib.hid (Dm_914.out.bl hb917)
                      have D0_918 := Lib.hid (D0_914.out.bl hb917)
                      have X_918 := Lib.hid (X_914.out.bl hb917)
                      have Y_918 := Lib.hid (Y_914.out.bl hb917)
                      have M9_918 := Lib.hid (M9_914.out.bl hb917)
                      have O_918 := Lib.hid (O_914.out.bl hb917)
                      have R_918 := Lib.hid (R_914.out.bl hb917)
                      have Bel_918 := Lib.hid (bel_bl Bel_914.out hb917)
                      clear Da_914 Dm_914 D0_914 X_914 Y_914 M9_914 O_914 R_914 Bel_914
                      clear hb917
                      have lw919 : (w917).cell? ⟨w.heap.size, 0, none⟩ = some (.slice A n c) := D0_918.out.cell (i := 0) rfl
                      have lw920 : (w917).cell? ⟨w.heap.size, 1, none⟩ = some (.slice B m k) := D0_918.out.cell (i := 1) rfl
                      have lw921 : (w917).cell? ⟨w904.heap.size, 0, none⟩ = some (.int .i64 o1) := O_918.out.cell (i := 0) rfl
                      have lw922 : (w917).cell? ⟨w904.heap.size, 1, none⟩ = some (.int .i64 o2) := O_918.out.cell (i := 1) rfl
                      have lw923 : (w917).cell? ⟨w904.heap.size, 2, none⟩ = some (.int .i64 o3) := O_918.out.cell (i := 2) rfl
                      have lw924 : (w917).cell? ⟨w909.heap.size, 0, none⟩ = some (.int .i64 q1) := R_918.out.cell (i := 0) rfl
                      have lw925 : (w917).cell? ⟨w909.heap.size, 1, none⟩ = some (.int .i64 q2) := R_918.out.cell (i := 1) rfl
                      have lw926 : (w917).cell? ⟨w909.heap.size, 2, none⟩ = some (.int .i64 q3) := R_918.out.cell (i := 2) rfl
                      go_wp2_with fail
                      clear lw919 lw920 lw921 lw922 lw923 lw924 lw925 lw926
                      refine (HSh.out _ Da_918.out).mono ?_
                      rintro e w927 ⟨rfl, hb927⟩
                      have Da_928 := Lib.hid (Da_918.out.bl hb927)
                      have Dm_928 := Lib.hid (Dm_918.out.bl hb927)
                      have D0_928 := Lib.hid (D0_918.out.bl hb927)
                      have X_928 := Lib.hid (X_918.out.bl hb927)
                      have Y_928 := Lib.hid (Y_918.out.bl hb927)
                      have M9_928 := Lib.hid (M9_918.out.bl hb927)
                      have O_928 := Lib.hid (O_918.out.bl hb927)
                      have R_928 := Lib.hid (R_918.out.bl hb927)
                      have Bel_928 := Lib.hid (bel_bl Bel_918.out hb927)
                      clear Da_918 Dm_918 D0_918 X_918 Y_918 M9_918 O_918 R_918 Bel_918
                      clear hb927
                      cases rl with
                      | true =>
                        have h1 : (ww : Int) + 1 = (nw : Int) := by have := Hyes.out rfl; omega
                        have hwr : IntKind.i64.wrap ((ww : Int) + 1) = (nw : Int) := (IntWalk.i64_in _ (by omega)).trans h1
                        have hw0 : IntKind.i64.wrap (nw : Int) = (nw : Int) := IntWalk.i64_in _ (by omega)
                        have hcc : ((nw : Int) == (nw : Int)) = true := by simp
                        go_wp2
                        go_ret
                        exact ⟨by first | rfl | simp, HBd.out.trans (Bel_928.out.mono HBd.out.size)⟩
                      | false =>
                        have h1 : (ww : Int) - 1 = (nw : Int) := by have := Hnot.out (by simp); omega
                        have hwr : IntKind.i64.wrap ((ww : Int) - 1) = (nw : Int) := (IntWalk.i64_in _ (by omega)).trans h1
                        have hw0 : IntKind.i64.wrap (nw : Int) = (nw : Int) := IntWalk.i64_in _ (by omega)
                        have hcc : ((nw : Int) == (nw : Int)) = true := by simp
                        go_wp2
                        go_ret
                        exact ⟨by first | rfl | simp, HBd.out.trans (Bel_928.out.mono HBd.out.size)⟩
end Go.Proofs.Ytjkbcpikdkidhaa
