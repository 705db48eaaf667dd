/- EulerEdge' walk. -/
import Derived.Test.YtpindjknngcccaaHE
namespace Go.Proofs.Ytpindjknngcccaa
open Go.RowKit
set_option linter.unusedSimpArgs false
set_option linter.unusedVariables false

def insT (b : Bool) (x d : D) (R : List D) : List D := if b then turnD (insR R x d) else R
def gI (p : I2) (x d : D) (v : VC) : (Int × Int) × List D × ByteArray × Int := vS (mI p x d v)
theorem gI_eq (p : I2) (x d : D) (v : VC) : gI p x d v = (v.1, insT (decide (v.1 = p)) x d v.2.1.2.2.2, v.2.2.1, v.2.2.2) := by
  unfold gI mI insT
  by_cases h : v.1 = p
  · rw [if_pos h, decide_eq_true h]; rfl
  · rw [if_neg h, decide_eq_false h]; rfl
theorem insT_len (b : Bool) (x d : D) (R : List D) : (insT b x d R).length ≤ R.length + 1 := by
  unfold insT
  split
  · rw [turnD_len]; exact insR_len _ _ _
  · omega
theorem mI_len (p : I2) (x d : D) (v : VC) : (mI p x d v).2.1.2.2.2.length ≤ v.2.1.2.2.2.length + 1 := by
  unfold mI
  split
  · show (turnD (insR v.2.1.2.2.2 x d)).length ≤ _
    rw [turnD_len]; exact insR_len _ _ _
  · omega
set_option maxRecDepth 100000 in
set_option maxHeartbeats 4000000 in
theorem law_edge7 (A : Option Addr) (n c : Nat) (Vs : List VC) (B : Option Addr) (m k : Nat) (Es : List EC) (x1 x2 x3 y1 y2 y3 : Int) (hx : In64 x1 ∧ In64 x2 ∧ In64 x3) (hy : In64 y1 ∧ In64 y2 ∧ In64 y3) (w : World) (h : DgIn w A n c Vs B m k Es) (hg : GoodD Vs Es) (hn : n ≤ maxLen) (hm : m ≤ maxLen) :
    Calls Try.prog 6 #[.agg #[.slice A n c, .slice B m k], .agg #[.int .i64 x1, .int .i64 x2, .int .i64 x3], .agg #[.int .i64 y1, .int .i64 y2, .int .i64 y3]] w fun e w' => e = .returned (.bool true) ∧ Below w.heap.size w w' := by
  have HW := Lib.hid (fun W hb => few7_step h hg hn hm W hb)
  obtain ⟨Va, gVa⟩ : ∃ z, (Vs.take 26).map few7V = z := ⟨_, rfl⟩
  obtain ⟨Ea, gEa⟩ : ∃ z, Es.take 42 = z := ⟨_, rfl⟩
  rw [gVa, gEa] at HW
  have Hix := Lib.hid hx
  have Hiy := Lib.hid hy
  clear h hg hn hm gVa gEa hx hy
  go_enter Try.func6, Try.ntmps6
  go_wp2_with fail
  refine (shown07_any _).mono ?_
  rintro e w1 ⟨rfl, hb1⟩
  have D0_2 := Lib.hid ((((show Whole (w.alloc (.cells #[.slice A n c, .slice B m k] 25)) (w.heap.size) (25) ([.slice A n c, .slice B m k]) from Whole.new2 (by first | rfl | simp)).al (.cells #[.int .i64 x1, .int .i64 x2, .int .i64 x3] 39)).al (.cells #[.int .i64 y1, .int .i64 y2, .int .i64 y3] 39)).bl hb1)
  have X_2 := Lib.hid (((show Whole ((w.alloc (.cells #[.slice A n c, .slice B m k] 25)).alloc (.cells #[.int .i64 x1, .int .i64 x2, .int .i64 x3] 39)) ((w.heap.size + 1)) (39) ([.int .i64 x1, .int .i64 x2, .int .i64 x3]) from Whole.new2 (by first | rfl | simp)).al (.cells #[.int .i64 y1, .int .i64 y2, .int .i64 y3] 39)).bl hb1)
  have Y_2 := Lib.hid ((show Whole (((w.alloc (.cells #[.slice A n c, .slice B m k] 25)).alloc (.cells #[.int .i64 x1, .int .i64 x2, .int .i64 x3] 39)).alloc (.cells #[.int .i64 y1, .int .i64 y2, .int .i64 y3] 39)) ((w.heap.size + 1 + 1)) (39) ([.int .i64 y1, .int .i64 y2, .int .i64 y3]) from Whole.new2 (by first | rfl | simp)).bl hb1)
  have Bel_2 := Lib.hid (bel_bl (bel_al (bel_al (bel_al (Below.refl _ w) (.cells #[.slice A n c, .slice B m k] 25)) (.cells #[.int .i64 x1, .int .i64 x2, .int .i64 x3] 39)) (.cells #[.int .i64 y1, .int .i64 y2, .int .i64 y3] 39)) hb1)
  clear hb1
  have LO_D0_3 : RowKit.Hid (w.heap.size ≤ w.heap.size) := Lib.hid (by omega)
  have LO_X_4 : RowKit.Hid (w.heap.size ≤ (w.heap.size + 1)) := Lib.hid (by omega)
  have NE_D0_X : RowKit.Hid (w.heap.size ≠ (w.heap.size + 1)) := Lib.hid (by omega)
  have LO_Y_5 : RowKit.Hid (w.heap.size ≤ (w.heap.size + 1 + 1)) := Lib.hid (by omega)
  have NE_D0_Y : RowKit.Hid (w.heap.size ≠ (w.heap.size + 1 + 1)) := Lib.hid (by omega)
  have NE_X_Y : RowKit.Hid ((w.heap.size + 1) ≠ (w.heap.size + 1 + 1)) := Lib.hid (by omega)
  have lw6 : (w1).cell? ⟨w.heap.size, 0, none⟩ = some (.slice A n c) := D0_2.out.cell (i := 0) rfl
  have lw7 : (w1).cell? ⟨w.heap.size, 1, none⟩ = some (.slice B m k) := D0_2.out.cell (i := 1) rfl
  go_wp2_with fail
  clear lw6 lw7
  have LTN_a_D0 : RowKit.Hid (w.heap.size < w1.heap.size) := Lib.hid (D0_2.out).lt
  have LTN_a_X : RowKit.Hid ((w.heap.size + 1) < w1.heap.size) := Lib.hid (X_2.out).lt
  have LTN_a_Y : RowKit.Hid ((w.heap.size + 1 + 1) < w1.heap.size) := Lib.hid (Y_2.out).lt
  refine (HW.out _ Bel_2.out).mono ?_
  rintro e w8 ⟨Aa, na, ca, Ba, ma, ka, rfl, hF, hb8⟩
  have Fa := Lib.hid hF
  clear hF
  have D0_9 := Lib.hid (D0_2.out.bl hb8)
  have X_9 := Lib.hid (X_2.out.bl hb8)
  have Y_9 := Lib.hid (Y_2.out.bl hb8)
  have Bel_9 := Lib.hid (bel_bl Bel_2.out hb8)
  clear D0_2 X_2 Y_2 Bel_2
  clear hb8
  have lw10 : (w8).cell? ⟨w.heap.size, 0, none⟩ = some (.slice A n c) := D0_9.out.cell (i := 0) rfl
  have lw11 : (w8).cell? ⟨w.heap.size, 1, none⟩ = some (.slice B m k) := D0_9.out.cell (i := 1) rfl
  have fr0 := D0_9.out.free 0
  have fr1 := D0_9.out.free 1
  go_upto_region 3 with fail
  clear fr0 fr1 lw10 lw11
  obtain ⟨v12, gv12⟩ : ∃ x, (w8.setCell ⟨w.heap.size, 0, none⟩ (.slice Aa na ca)).setCell ⟨w.heap.size, 1, none⟩ (.slice Ba ma ka) = x := ⟨_, rfl⟩
  have D0_12 : RowKit.Hid (Whole v12 w.heap.size 25 [.slice Aa na ca, .slice Ba ma ka]) := Lib.hid (gv12 ▸ ((D0_9.out.set_ 0 (.slice Aa na ca)).set_ 1 (.slice Ba ma ka)))
  have X_12 := Lib.hid (show Whole v12 (w.heap.size + 1) _ _ from gv12 ▸ ((X_9.out.far (p := ⟨w.heap.size, 0, none⟩) (by show (w.heap.size + 1) ≠ w.heap.size; exact (Ne.symm NE_D0_X.out)) (.slice Aa na ca)).far (p := ⟨w.heap.size, 1, none⟩) (by show (w.heap.size + 1) ≠ w.heap.size; exact (Ne.symm NE_D0_X.out)) (.slice Ba ma ka)))
  have Y_12 := Lib.hid (show Whole v12 (w.heap.size + 1 + 1) _ _ from gv12 ▸ ((Y_9.out.far (p := ⟨w.heap.size, 0, none⟩) (by show (w.heap.size + 1 + 1) ≠ w.heap.size; exact (Ne.symm NE_D0_Y.out)) (.slice Aa na ca)).far (p := ⟨w.heap.size, 1, none⟩) (by show (w.heap.size + 1 + 1) ≠ w.heap.size; exact (Ne.symm NE_D0_Y.out)) (.slice Ba ma ka)))
  have Bel_12 : RowKit.Hid (Below w.heap.size w v12) := Lib.hid (gv12 ▸ ((Bel_9.out.setCell (p := ⟨w.heap.size, 0, none⟩) (by show w.heap.size ≤ w.heap.size; exact LO_D0_3.out) _).setCell (p := ⟨w.heap.size, 1, none⟩) (by show w.heap.size ≤ w.heap.size; exact LO_D0_3.out) _))
  have Da_12 : RowKit.Hid (DgIn v12 Aa na ca Va Ba ma ka Ea) := Lib.hid (gv12 ▸ Fa.out.put (g := w.heap.size) (by show w.heap.size ≤ w.heap.size; exact LO_D0_3.out) LTN_a_D0.out _ _)
  rw [gv12]
  clear gv12
  clear D0_9 X_9 Y_9 Bel_9
  have Hr0 : RowKit.Hid (∀ x ∈ Va, x.2.1.2.1 ≤ 1000000) := Lib.hid (fun x hx => by have := Fa.out.r30 x hx; omega)
  have HFm := Lib.hid (rform7_any (A := Aa) (n := na) (c := ca) (B := Ba) (m := ma) (k := ka) Hr0.out Fa.out.good)
  have HLn : RowKit.Hid (Va.length = na ∧ Ea.length = ma) := Lib.hid (dg_lens Da_12.out)
  have HAx := Lib.hid (fun W (h : DgIn W Aa na ca Va Ba ma ka Ea) => rat_any Aa na ca Va Ba ma ka Ea x1 x2 x3 W h (by have := Fa.out.n30; omega) (fun y hy => by have := Hr0.out y hy; omega))
  have HAy := Lib.hid (fun W (h : DgIn W Aa na ca Va Ba ma ka Ea) => rat_any Aa na ca Va Ba ma ka Ea y1 y2 y3 W h (by have := Fa.out.n30; omega) (fun y hy => by have := Hr0.out y hy; omega))
  have HEn := Lib.hid (fun W (h : DgIn W Aa na ca Va Ba ma ka Ea) => rfindE Aa na ca Va Ba ma ka Ea 8 1048576 W h.e (by have := Fa.out.m50; omega))
  have hse := fndE_some Ea (8, 1048576)
  obtain ⟨⟨⟨a1, a2⟩, one⟩, gx⟩ : ∃ z, atV Va (x1, x2, x3) = z := ⟨_, rfl⟩
  obtain ⟨⟨⟨b1, b2⟩, two⟩, gy⟩ : ∃ z, atV Va (y1, y2, y3) = z := ⟨_, rfl⟩
  obtain ⟨⟨⟨⟨e1, e2⟩, el, et⟩, th⟩, ge⟩ : ∃ z, fndE Ea (8, 1048576) = z := ⟨_, rfl⟩
  rw [gx] at HAx
  rw [gy] at HAy
  rw [ge] at HEn hse
  have Gx := Lib.hid gx
  have Gy := Lib.hid gy
  have Hse : RowKit.Hid (th = true ↔ ∃ e ∈ Ea, e.1 = (8, 1048576)) := Lib.hid hse
  replace HAx : RowKit.Hid (∀ W, DgIn W Aa na ca Va Ba ma ka Ea → Calls Try.prog 21 #[.agg #[.slice Aa na ca, .slice Ba ma ka], .agg #[.int .i64 x1, .int .i64 x2, .int .i64 x3]] W fun e w' => e = .returned (.tuple #[.agg #[.int .i64 a1, .int .i64 a2], .bool one]) ∧ Below W.heap.size W w') := HAx
  replace HAy : RowKit.Hid (∀ W, DgIn W Aa na ca Va Ba ma ka Ea → Calls Try.prog 21 #[.agg #[.slice Aa na ca, .slice Ba ma ka], .agg #[.int .i64 y1, .int .i64 y2, .int .i64 y3]] W fun e w' => e = .returned (.tuple #[.agg #[.int .i64 b1, .int .i64 b2], .bool two]) ∧ Below W.heap.size W w') := HAy
  replace HEn : RowKit.Hid (∀ W, DgIn W Aa na ca Va Ba ma ka Ea → Calls Try.prog 22 #[.agg #[.slice Aa na ca, .slice Ba ma ka], .agg #[.int .i64 8, .int .i64 1048576]] W fun e w' => e = .returned (.tuple #[.agg #[.int .i64 e1, .int .i64 e2, .string el, .int .i64 et], .bool th]) ∧ Below W.heap.size W w') := HEn
  clear gx gy ge hse
  have lw13 : (v12).cell? ⟨w.heap.size, 0, none⟩ = some (.slice Aa na ca) := D0_12.out.cell (i := 0) rfl
  have lw14 : (v12).cell? ⟨w.heap.size, 1, none⟩ = some (.slice Ba ma ka) := D0_12.out.cell (i := 1) rfl
  have lw15 : (v12).cell? ⟨(w.heap.size + 1), 0, none⟩ = some (.int .i64 x1) := X_12.out.cell (i := 0) rfl
  have lw16 : (v12).cell? ⟨(w.heap.size + 1), 1, none⟩ = some (.int .i64 x2) := X_12.out.cell (i := 1) rfl
  have lw17 : (v12).cell? ⟨(w.heap.size + 1), 2, none⟩ = some (.int .i64 x3) := X_12.out.cell (i := 2) rfl
  go_wp2_with fail
  clear lw13 lw14 lw15 lw16 lw17
  refine (HAx.out _ Da_12.out).mono ?_
  rintro e w18 ⟨rfl, hb18⟩
  have D0_19 := Lib.hid (D0_12.out.bl hb18)
  have X_19 := Lib.hid (X_12.out.bl hb18)
  have Y_19 := Lib.hid (Y_12.out.bl hb18)
  have Da_19 := Lib.hid (Da_12.out.bl hb18)
  have Bel_19 := Lib.hid (bel_bl Bel_12.out hb18)
  clear D0_12 X_12 Y_12 Da_12 Bel_12
  clear hb18
  have lw20 : ((w18.alloc (.cells #[.int .i64 a1, .int .i64 a2] 35))).cell? ⟨w.heap.size, 0, none⟩ = some (.slice Aa na ca) := (D0_19.out.al (.cells #[.int .i64 a1, .int .i64 a2] 35)).cell (i := 0) rfl
  have lw21 : ((w18.alloc (.cells #[.int .i64 a1, .int .i64 a2] 35))).cell? ⟨w.heap.size, 1, none⟩ = some (.slice Ba ma ka) := (D0_19.out.al (.cells #[.int .i64 a1, .int .i64 a2] 35)).cell (i := 1) rfl
  have lw22 : ((w18.alloc (.cells #[.int .i64 a1, .int .i64 a2] 35))).cell? ⟨(w.heap.size + 1 + 1), 0, none⟩ = some (.int .i64 y1) := (Y_19.out.al (.cells #[.int .i64 a1, .int .i64 a2] 35)).cell (i := 0) rfl
  have lw23 : ((w18.alloc (.cells #[.int .i64 a1, .int .i64 a2] 35))).cell? ⟨(w.heap.size + 1 + 1), 1, none⟩ = some (.int .i64 y2) := (Y_19.out.al (.cells #[.int .i64 a1, .int .i64 a2] 35)).cell (i := 1) rfl
  have lw24 : ((w18.alloc (.cells #[.int .i64 a1, .int .i64 a2] 35))).cell? ⟨(w.heap.size + 1 + 1), 2, none⟩ = some (.int .i64 y3) := (Y_19.out.al (.cells #[.int .i64 a1, .int .i64 a2] 35)).cell (i := 2) rfl
  go_wp2_with fail
  clear lw20 lw21 lw22 lw23 lw24
  refine (HAy.out _ (Da_19.out.al (.cells #[.int .i64 a1, .int .i64 a2] 35))).mono ?_
  rintro e w25 ⟨rfl, hb25⟩
  have D0_26 := Lib.hid ((D0_19.out.al (.cells #[.int .i64 a1, .int .i64 a2] 35)).bl hb25)
  have X_26 := Lib.hid ((X_19.out.al (.cells #[.int .i64 a1, .int .i64 a2] 35)).bl hb25)
  have Y_26 := Lib.hid ((Y_19.out.al (.cells #[.int .i64 a1, .int .i64 a2] 35)).bl hb25)
  have Da_26 := Lib.hid ((Da_19.out.al (.cells #[.int .i64 a1, .int .i64 a2] 35)).bl hb25)
  have P_26 := Lib.hid ((show Whole (w18.alloc (.cells #[.int .i64 a1, .int .i64 a2] 35)) (w18.heap.size) (35) ([.int .i64 a1, .int .i64 a2]) from Whole.new2 (by first | rfl | simp)).bl hb25)
  have Bel_26 := Lib.hid (bel_bl (bel_al Bel_19.out (.cells #[.int .i64 a1, .int .i64 a2] 35)) hb25)
  clear D0_19 X_19 Y_19 Da_19 Bel_19
  clear hb25
  have lw27 : (((w25.alloc (.cells #[.int .i64 b1, .int .i64 b2] 35)).alloc (.cells #[.int .i64 8, .int .i64 1048576] 35))).cell? ⟨w.heap.size, 0, none⟩ = some (.slice Aa na ca) := ((D0_26.out.al (.cells #[.int .i64 b1, .int .i64 b2] 35)).al (.cells #[.int .i64 8, .int .i64 1048576] 35)).cell (i := 0) rfl
  have lw28 : (((w25.alloc (.cells #[.int .i64 b1, .int .i64 b2] 35)).alloc (.cells #[.int .i64 8, .int .i64 1048576] 35))).cell? ⟨w.heap.size, 1, none⟩ = some (.slice Ba ma ka) := ((D0_26.out.al (.cells #[.int .i64 b1, .int .i64 b2] 35)).al (.cells #[.int .i64 8, .int .i64 1048576] 35)).cell (i := 1) rfl
  have lw29 : (((w25.alloc (.cells #[.int .i64 b1, .int .i64 b2] 35)).alloc (.cells #[.int .i64 8, .int .i64 1048576] 35))).cell? ⟨w25.heap.size + 1, 0, none⟩ = some (.int .i64 8) := (show Whole ((w25.alloc (.cells #[.int .i64 b1, .int .i64 b2] 35)).alloc (.cells #[.int .i64 8, .int .i64 1048576] 35)) ((w25.heap.size + 1)) (35) ([.int .i64 8, .int .i64 1048576]) from Whole.new2 (by first | rfl | simp)).cell (i := 0) rfl
  have lw30 : (((w25.alloc (.cells #[.int .i64 b1, .int .i64 b2] 35)).alloc (.cells #[.int .i64 8, .int .i64 1048576] 35))).cell? ⟨w25.heap.size + 1, 1, none⟩ = some (.int .i64 1048576) := (show Whole ((w25.alloc (.cells #[.int .i64 b1, .int .i64 b2] 35)).alloc (.cells #[.int .i64 8, .int .i64 1048576] 35)) ((w25.heap.size + 1)) (35) ([.int .i64 8, .int .i64 1048576]) from Whole.new2 (by first | rfl | simp)).cell (i := 1) rfl
  go_wp2_with fail
  clear lw27 lw28 lw29 lw30
  refine (HEn.out _ ((Da_26.out.al (.cells #[.int .i64 b1, .int .i64 b2] 35)).al (.cells #[.int .i64 8, .int .i64 1048576] 35))).mono ?_
  rintro e w31 ⟨rfl, hb31⟩
  have D0_32 := Lib.hid (((D0_26.out.al (.cells #[.int .i64 b1, .int .i64 b2] 35)).al (.cells #[.int .i64 8, .int .i64 1048576] 35)).bl hb31)
  have X_32 := Lib.hid (((X_26.out.al (.cells #[.int .i64 b1, .int .i64 b2] 35)).al (.cells #[.int .i64 8, .int .i64 1048576] 35)).bl hb31)
  have Y_32 := Lib.hid (((Y_26.out.al (.cells #[.int .i64 b1, .int .i64 b2] 35)).al (.cells #[.int .i64 8, .int .i64 1048576] 35)).bl hb31)
  have Da_32 := Lib.hid (((Da_26.out.al (.cells #[.int .i64 b1, .int .i64 b2] 35)).al (.cells #[.int .i64 8, .int .i64 1048576] 35)).bl hb31)
  have P_32 := Lib.hid (((P_26.out.al (.cells #[.int .i64 b1, .int .i64 b2] 35)).al (.cells #[.int .i64 8, .int .i64 1048576] 35)).bl hb31)
  have Q_32 := Lib.hid (((show Whole (w25.alloc (.cells #[.int .i64 b1, .int .i64 b2] 35)) (w25.heap.size) (35) ([.int .i64 b1, .int .i64 b2]) from Whole.new2 (by first | rfl | simp)).al (.cells #[.int .i64 8, .int .i64 1048576] 35)).bl hb31)
  have N_32 := Lib.hid ((show Whole ((w25.alloc (.cells #[.int .i64 b1, .int .i64 b2] 35)).alloc (.cells #[.int .i64 8, .int .i64 1048576] 35)) ((w25.heap.size + 1)) (35) ([.int .i64 8, .int .i64 1048576]) from Whole.new2 (by first | rfl | simp)).bl hb31)
  have Bel_32 := Lib.hid (bel_bl (bel_al (bel_al Bel_26.out (.cells #[.int .i64 b1, .int .i64 b2] 35)) (.cells #[.int .i64 8, .int .i64 1048576] 35)) hb31)
  clear D0_26 X_26 Y_26 Da_26 P_26 Bel_26
  clear hb31
  obtain ⟨fo, gfo⟩ : ∃ z, formD Va Ea = z := ⟨_, rfl⟩
  rw [gfo] at HFm
  have Gfo := Lib.hid gfo
  clear gfo
  have lw33 : ((w31.alloc (.cells #[.int .i64 e1, .int .i64 e2, .string el, .int .i64 et] 37))).cell? ⟨w.heap.size, 0, none⟩ = some (.slice Aa na ca) := (D0_32.out.al (.cells #[.int .i64 e1, .int .i64 e2, .string el, .int .i64 et] 37)).cell (i := 0) rfl
  have lw34 : ((w31.alloc (.cells #[.int .i64 e1, .int .i64 e2, .string el, .int .i64 et] 37))).cell? ⟨w.heap.size, 1, none⟩ = some (.slice Ba ma ka) := (D0_32.out.al (.cells #[.int .i64 e1, .int .i64 e2, .string el, .int .i64 et] 37)).cell (i := 1) rfl
  go_wp2_with fail
  clear lw33 lw34
  refine (HFm.out _ (Da_32.out.al (.cells #[.int .i64 e1, .int .i64 e2, .string el, .int .i64 et] 37))).mono ?_
  rintro e w35 ⟨rfl, hb35⟩
  have D0_36 := Lib.hid ((D0_32.out.al (.cells #[.int .i64 e1, .int .i64 e2, .string el, .int .i64 et] 37)).bl hb35)
  have X_36 := Lib.hid ((X_32.out.al (.cells #[.int .i64 e1, .int .i64 e2, .string el, .int .i64 et] 37)).bl hb35)
  have Y_36 := Lib.hid ((Y_32.out.al (.cells #[.int .i64 e1, .int .i64 e2, .string el, .int .i64 et] 37)).bl hb35)
  have Da_36 := Lib.hid ((Da_32.out.al (.cells #[.int .i64 e1, .int .i64 e2, .string el, .int .i64 et] 37)).bl hb35)
  have P_36 := Lib.hid ((P_32.out.al (.cells #[.int .i64 e1, .int .i64 e2, .string el, .int .i64 et] 37)).bl hb35)
  have Q_36 := Lib.hid ((Q_32.out.al (.cells #[.int .i64 e1, .int .i64 e2, .string el, .int .i64 et] 37)).bl hb35)
  have N_36 := Lib.hid ((N_32.out.al (.cells #[.int .i64 e1, .int .i64 e2, .string el, .int .i64 et] 37)).bl hb35)
  have Bel_36 := Lib.hid (bel_bl (bel_al Bel_32.out (.cells #[.int .i64 e1, .int .i64 e2, .string el, .int .i64 et] 37)) hb35)
  clear D0_32 X_32 Y_32 Da_32 P_32 Q_32 N_32 Bel_32
  clear hb35
  have lw37 : (w35).cell? ⟨w.heap.size, 1, none⟩ = some (.slice Ba ma ka) := D0_36.out.cell (i := 1) rfl
  have lw38 : (w35).cell? ⟨(w.heap.size + 1), 0, none⟩ = some (.int .i64 x1) := X_36.out.cell (i := 0) rfl
  have lw39 : (w35).cell? ⟨(w.heap.size + 1), 1, none⟩ = some (.int .i64 x2) := X_36.out.cell (i := 1) rfl
  have lw40 : (w35).cell? ⟨(w.heap.size + 1), 2, none⟩ = some (.int .i64 x3) := X_36.out.cell (i := 2) rfl
  have lw41 : (w35).cell? ⟨(w.heap.size + 1 + 1), 0, none⟩ = some (.int .i64 y1) := Y_36.out.cell (i := 0) rfl
  have lw42 : (w35).cell? ⟨(w.heap.size + 1 + 1), 1, none⟩ = some (.int .i64 y2) := Y_36.out.cell (i := 1) rfl
  have lw43 : (w35).cell? ⟨(w.heap.size + 1 + 1), 2, none⟩ = some (.int .i64 y3) := Y_36.out.cell (i := 2) rfl
  by_cases hfo : fo = 0
  · subst hfo
    cases one with
    | false =>
      go_wp2
      go_ret
      exact ⟨rfl, Bel_36.out⟩
    | true =>
      cases two with
      | false =>
        go_wp2
        go_ret
        exact ⟨rfl, Bel_36.out⟩
      | true =>
        cases th with
        | true =>
          go_wp2
          go_ret
          exact ⟨rfl, Bel_36.out⟩
        | false =>
          by_cases hm40 : 40 ≤ ma
          · have hmd : decide (40 ≤ ma) = true := decide_eq_true hm40
            have hmi : decide ((40 : Int) ≤ (ma : Int)) = true := decide_eq_true (by omega)
            go_wp2
            go_ret
            exact ⟨rfl, Bel_36.out⟩
          · have hmd : decide (40 ≤ ma) = false := decide_eq_false hm40
            have hmi : decide ((40 : Int) ≤ (ma : Int)) = false := decide_eq_false (by omega)
            by_cases hxy : (x1, x2, x3) = (y1, y2, y3)
            · have hqq : ∀ W, (binOp .eql 39 (.agg #[.int .i64 x1, .int .i64 x2, .int .i64 x3]) (.agg #[.int .i64 y1, .int .i64 y2, .int .i64 y3])).run Try.prog W = .ok (.bool true) W := fun W => by
                have e := eq_dart_run (x1, x2, x3) (y1, y2, y3) W
                rw [decide_eq_true hxy] at e
                exact e
              go_wp2
              go_ret
              exact ⟨rfl, Bel_36.out⟩
            · have hqq : ∀ W, (binOp .eql 39 (.agg #[.int .i64 x1, .int .i64 x2, .int .i64 x3]) (.agg #[.int .i64 y1, .int .i64 y2, .int .i64 y3])).run Try.prog W = .ok (.bool false) W := fun W => by
                have e := eq_dart_run (x1, x2, x3) (y1, y2, y3) W
                rw [decide_eq_false hxy] at e
                exact e
              have HFq : RowKit.Hid (Formed Va Ea) := Lib.hid ((form0 Va Ea).1 Gfo.out)
              have HGd : RowKit.Hid (GoodD Va Ea) := Lib.hid Fa.out.good
              have Hsm := Lib.hid (HFq.out.small Da_36.out)
              have Hlv : RowKit.Hid (Va.length = na) := Lib.hid HLn.out.1
              have hn24 : na ≤ 24 := Hsm.out.1
              have HCl : RowKit.Hid (∀ W, DgIn W Aa na ca Va Ba ma ka Ea → Calls Try.prog 23 #[.agg #[.slice Aa na ca, .slice Ba ma ka]] W fun e w' => ∃ A' c' B' k' Ws, e = .returned (.agg #[.slice A' na c', .slice B' ma k']) ∧ ClS w' W.heap.size A' na c' Ws B' ma k' Ea ∧ Ws.map vS = Va.map vS ∧ Below W.heap.size W w') := Lib.hid (fun W h => rclone_any Aa na ca Va Ba ma ka Ea W h (by omega) (by omega) Hr0.out)
              obtain ⟨iE, hie, hze0, hze1, hze2⟩ := info_partsD info_edge
              obtain ⟨v0, hv0, hvx, hvn⟩ := at_some Gx.out
              obtain ⟨u0, hu0, huy, hun⟩ := at_some Gy.out
              have hno : ∀ e ∈ Ea, e.1 ≠ nE := fun e he q => by
                have := Hse.out.2 ⟨e, he, q⟩
                cases this
              have HBs1 : RowKit.Hid (Va.length = na ∧ ∀ v ∈ Va, v.2.1.2.2.2.length ≤ 80) := Lib.hid ⟨Hlv.out, fun v hv => by
                have h1 := (Da_36.out.r v hv).2.dlen
                have h2 := Hsm.out.2.2 v hv
                omega⟩
              have hrx : (x1, x2, x3) ∈ ringsOf Va := ring_mem.2 ⟨v0, hv0, hvx⟩
              have hry : (y1, y2, y3) ∈ ringsOf Va := ring_mem.2 ⟨u0, hu0, huy⟩
              have HGm : RowKit.Hid (∀ (Us : List VC) (A2 B3 : Option Addr) (c2 k3 : Nat) (fc : Bool), Us.map vS = ((Va.map (mI (a1, a2) (x1, x2, x3) (8, 1048576, 0))).map (mI (b1, b2) (y1, y2, y3) (8, 1048576, 1))).map vS → (fc = true ↔ Rl (phF Va) (othD (x1, x2, x3)) (othD (y1, y2, y3))) →
                  ∀ W, DgIn W A2 na c2 Us B3 (ma + 1) k3 (Ea ++ [eN]) → Calls Try.prog 17 #[.agg #[.slice A2 na c2, .slice B3 (ma + 1) k3]] W fun e w' => e = .returned (.int .i64 (genF Va Ea + (if (!fc && togF Va (a1, a2) (b1, b2)) = true then 1 else 0))) ∧ Below W.heap.size W w') := Lib.hid (fun Us A2 B3 c2 k3 fc hU hfc => by
                have h1 := more_gen_any (A2 := A2) (c2 := c2) (B3 := B3) (k3 := k3) (Es2 := Ea ++ [eN]) (Us := Us) HFq.out HGd.out hno hxy hv0 hvx hu0 huy (by rw [hvn, hun]; exact hU) hfc HLn.out.1 HLn.out.2
                rw [hvn, hun] at h1
                exact h1)
              have HMs : RowKit.Hid (∀ Ms : List VC, Ms = Va.map (mI (a1, a2) (x1, x2, x3) (8, 1048576, 0)) → (Ms.length = na ∧ ∀ v ∈ Ms, v.2.1.2.2.2.length ≤ 81) ∧ ∀ Us : List VC, Us.map vS = Ms.map (gI (b1, b2) (y1, y2, y3) (8, 1048576, 1)) → Us.map vS = ((Va.map (mI (a1, a2) (x1, x2, x3) (8, 1048576, 0))).map (mI (b1, b2) (y1, y2, y3) (8, 1048576, 1))).map vS) := Lib.hid (fun Ms e => by
                subst e
                refine ⟨⟨by rw [List.length_map]; exact HBs1.out.1, fun v hv => ?_⟩, fun Us h => ?_⟩
                · obtain ⟨u, hu, rfl⟩ := List.mem_map.1 hv
                  have h1 := mI_len (a1, a2) (x1, x2, x3) (8, 1048576, 0) u
                  have h2 := HBs1.out.2 u hu
                  omega
                · rw [h, show gI (b1, b2) (y1, y2, y3) (8, 1048576, 1) = vS ∘ mI (b1, b2) (y1, y2, y3) (8, 1048576, 1) from rfl, ← List.map_map])
              have Hrx := Lib.hid hrx
              have Hry := Lib.hid hry
              clear hv0 hvx hvn hu0 huy hun hno hrx hry Hse Gfo Gx Gy
              clear lw37 lw38 lw39 lw40 lw41 lw42 lw43
              have lw44 : (w35).cell? ⟨w.heap.size, 0, none⟩ = some (.slice Aa na ca) := D0_36.out.cell (i := 0) rfl
              have lw45 : (w35).cell? ⟨w.heap.size, 1, none⟩ = some (.slice Ba ma ka) := D0_36.out.cell (i := 1) rfl
              have lw46 : (w35).cell? ⟨(w.heap.size + 1), 0, none⟩ = some (.int .i64 x1) := X_36.out.cell (i := 0) rfl
              have lw47 : (w35).cell? ⟨(w.heap.size + 1), 1, none⟩ = some (.int .i64 x2) := X_36.out.cell (i := 1) rfl
              have lw48 : (w35).cell? ⟨(w.heap.size + 1), 2, none⟩ = some (.int .i64 x3) := X_36.out.cell (i := 2) rfl
              have lw49 : (w35).cell? ⟨(w.heap.size + 1 + 1), 0, none⟩ = some (.int .i64 y1) := Y_36.out.cell (i := 0) rfl
              have lw50 : (w35).cell? ⟨(w.heap.size + 1 + 1), 1, none⟩ = some (.int .i64 y2) := Y_36.out.cell (i := 1) rfl
              have lw51 : (w35).cell? ⟨(w.heap.size + 1 + 1), 2, none⟩ = some (.int .i64 y3) := Y_36.out.cell (i := 2) rfl
              go_wp2_with fail
              clear lw44 lw45 lw46 lw47 lw48 lw49 lw50 lw51
              clear hqq hmd hmi
              have HDd := Lib.hid (Da_36.out)
              have HXd := Lib.hid (D0_36.out)
              have HXx := Lib.hid (X_36.out)
              have HXy := Lib.hid (Y_36.out)
              have HXp := Lib.hid (P_36.out)
              have HXq := Lib.hid (Q_36.out)
              have HXn := Lib.hid (N_36.out)
              have HBd := Lib.hid (Bel_36.out)
              clear D0_36 X_36 Y_36 Da_36 P_36 Q_36 N_36 Bel_36
              obtain ⟨bN, gbN⟩ : ∃ z, w25.heap.size + 1 = z := ⟨_, rfl⟩
              rw [gbN] at HXn ⊢
              clear gbN
              obtain ⟨bQ, gbQ⟩ : ∃ z, w25.heap.size = z := ⟨_, rfl⟩
              rw [gbQ] at HXq ⊢
              clear gbQ
              obtain ⟨bP, gbP⟩ : ∃ z, w18.heap.size = z := ⟨_, rfl⟩
              rw [gbP] at HXp ⊢
              clear gbP
              refine (HCl.out _ HDd.out).mono ?_
              rintro e w7 ⟨A2, c2, B2, k2, Us, rfl, hcl, hsm, hb7⟩
              obtain ⟨B3, k3, w8_, hrun, hcl8, hb8, hg8⟩ := ((hcl.al (.cells #[.slice A2 na c2, .slice B2 ma k2] 25)).al (.cells (eC eN).toArray 37)).pushE (P := Try.prog) eN 23 23 iE _ Try.underlying23 hie hze0 hze1 hze2 rfl (by omega) (by have := hb7.size; simp; omega) (w7.heap.size + 1) (RdS.of_whole (Whole.new2 (by simp)) rfl)
              have L9 : RowKit.Hid (w35.heap.size ≤ w7.heap.size) := Lib.hid hb7.size
              have H97 := Lib.hid (Whole.new2 (w := w7) (t := 25) (cs := [.slice A2 na c2, .slice B2 ma k2]) rfl)
              have hn9 := own_ne (hcl.al (.cells #[.slice A2 na c2, .slice B2 ma k2] 25)).e H97.out (by decide)
              have H98 := Lib.hid ((H97.out.al (.cells (eC eN).toArray 37)).grown hg8 hn9)
              have HZ8 : RowKit.Hid (Below w35.heap.size w35 w8_) := Lib.hid ((bel_al (bel_al hb7 (.cells #[.slice A2 na c2, .slice B2 ma k2] 25)) (.cells (eC eN).toArray 37)).trans hb8)
              have HXn7 := Lib.hid ((HXn.out.bl hb7).al (.cells #[.slice A2 na c2, .slice B2 ma k2] 25))
              obtain ⟨b9, gb9⟩ : ∃ z, w7.heap.size = z := ⟨_, rfl⟩
              rw [gb9] at L9 H97 H98 hrun
              have HM8 := Lib.hid (hcl8.far (i := 1) H98.out (by decide) (by decide) (by decide) (.slice B3 (ma + 1) k3)).wro
              have H99 := Lib.hid (H98.out.set_ 1 (.slice B3 (ma + 1) k3))
              have HZ9 := Lib.hid (HZ8.out.setCell (p := ⟨b9, 1, none⟩) L9.out (.slice B3 (ma + 1) k3))
              have HU7 : RowKit.Hid (Us.map vS = (Va.take 0).map (gI (a1, a2) (x1, x2, x3) (8, 1048576, 0)) ++ (Va.drop 0).map vS) := Lib.hid (by rw [hsm]; rfl)
              have d0 := HXn7.out.cell (i := 0) rfl
              have d1 := HXn7.out.cell (i := 1) rfl
              have d2 := H97.out.cell (i := 1) rfl
              have d3 := H98.out.cell (i := 1) rfl
              have d4 := H98.out.free 1
              clear hcl hsm hb7 hcl8 hb8 hg8 hn9
              go_wp2_with (first
                | (at_builtin
                   refine wl_run (some 77) rfl (by rfl) (exec_append (by rfl) (by rfl) (by rfl) hrun) ?_))
              obtain ⟨wm, gwm⟩ : ∃ z, w8_.setCell ⟨b9, 1, none⟩ (.slice B3 (ma + 1) k3) = z := ⟨_, rfl⟩
              rw [gwm] at HM8 H99 HZ9 ⊢
              clear gb9 gwm d0 d1 d2 d3 d4 hrun HXn7 H97 H98 HZ8 HCl
              go_loopw [16] (fun si wr => ∃ (j : Nat) (Us : List VC), j ≤ na ∧ si = .int .i64 j ∧ RowKit.Hid (Below w35.heap.size w35 wr) ∧ RowKit.Hid (Whole wr b9 25 [.slice A2 na c2, .slice B3 (ma + 1) k3]) ∧ RowKit.Hid (Wro wr w35.heap.size A2 na c2 Us B3 (ma + 1) k3 (Ea ++ [eN])) ∧ RowKit.Hid (Us.map vS = (Va.take j).map (gI (a1, a2) (x1, x2, x3) (8, 1048576, 0)) ++ (Va.drop j).map vS)) (fun si _ => na - (intOf si).toNat)
              case atStart => exact ⟨0, Us, by omega, rfl, HZ9, H99, HM8, HU7⟩
              case round =>
                clear HZ9 H99 HM8 HU7
                obtain ⟨j, Us, hj, rfl, HZ, H9, HM, HU⟩ := hrel
                obtain ⟨wo, gwo⟩ : ∃ z, wr = z := ⟨_, rfl⟩
                rw [gwo] at HZ H9 HM ⊢
                clear gwo
                have cb := H9.out.cell (i := 0) rfl
                by_cases hjn : j < na
                · obtain ⟨v, hv⟩ : ∃ v, Va[j]? = some v := ⟨_, List.getElem?_eq_getElem (by have := HBs1.out.1; omega)⟩
                  obtain ⟨u, hu, huv⟩ : ∃ u, Us[j]? = some u ∧ vS u = vS v := by
                    have h1 : (Us.map vS)[j]? = some (vS v) := by
                      rw [HU.out, List.getElem?_append_right (by simp; omega)]
                      simp only [List.length_map, List.length_take]
                      rw [show j - min j Va.length = 0 by have := HBs1.out.1; omega, List.getElem?_map, List.getElem?_drop, Nat.add_zero, hv]
                      rfl
                    rw [List.getElem?_map] at h1
                    cases hq : Us[j]? with
                    | none => rw [hq] at h1; cases h1
                    | some y => rw [hq] at h1; exact ⟨y, rfl, Option.some.inj h1⟩
                  have hul : u.2.1.2.2.2 = v.2.1.2.2.2 := congrArg (fun s : (Int × Int) × List D × ByteArray × Int => s.2.1) huv
                  have hrn : u.2.1.2.1 ≤ 80 := by
                    have h1 := HBs1.out.2 v (List.mem_of_getElem? hv)
                    have h3 := (HM.out.r u (List.mem_of_getElem? hu)).2.dlen
                    rw [hul] at h3
                    omega
                  have hset : ∀ (R : Rg), R.2.2.2 = insT (decide (u.1 = (a1, a2))) (x1, x2, x3) (8, 1048576, 0) u.2.1.2.2.2 → (Us.set j (u.1, R, u.2.2)).map vS = (Va.take (j + 1)).map (gI (a1, a2) (x1, x2, x3) (8, 1048576, 0)) ++ (Va.drop (j + 1)).map vS := fun R hR => by
                    rw [List.map_set, HU.out]
                    have e : vS (u.1, R, u.2.2) = (gI (a1, a2) (x1, x2, x3) (8, 1048576, 0)) v := by
                      have q1 : u.1 = v.1 := congrArg (fun s : (Int × Int) × List D × ByteArray × Int => s.1) huv
                      have q3 : u.2.2.1 = v.2.2.1 := congrArg (fun s : (Int × Int) × List D × ByteArray × Int => s.2.2.1) huv
                      have q4 : u.2.2.2 = v.2.2.2 := congrArg (fun s : (Int × Int) × List D × ByteArray × Int => s.2.2.2) huv
                      show (u.1, R.2.2.2, u.2.2.1, u.2.2.2) = _
                      rw [hR, q1, q3, q4, hul, gI_eq]
                    rw [e]
                    exact half_set (gI (a1, a2) (x1, x2, x3) (8, 1048576, 0)) vS hv
                  obtain ⟨⟨i1, i2⟩, ⟨rA, rn, rc, rL⟩, lb, at_⟩ := u
                  have HSet : RowKit.Hid (∀ (A9 : Option Addr) (n9 c9 : Nat) (L9 : List D), L9 = insT (decide (((i1, i2) : I2) = (a1, a2))) (x1, x2, x3) (8, 1048576, 0) rL → (Us.set j ((i1, i2), (A9, n9, c9, L9), lb, at_)).map vS = (Va.take (j + 1)).map (gI (a1, a2) (x1, x2, x3) (8, 1048576, 0)) ++ (Va.drop (j + 1)).map vS) := Lib.hid (fun A9 n9 c9 L9 h => hset (A9, n9, c9, L9) h)
                  replace hrn : rn ≤ 80 := hrn
                  obtain ⟨gm, eA2, hlo, -, hc, hf, -⟩ := HM.out.put hu hjn (rA, rn, rc, rL) (HM.out.r _ (List.mem_of_getElem? hu))
                  subst eA2
                  have hex := eq_id i1 i2 a1 a2
                  have hdx : (i1 == a1 && i2 == a2) = decide (((i1, i2) : I2) = (a1, a2)) := by
                    by_cases h1 : i1 = a1 <;> by_cases h2 : i2 = a2 <;> simp [h1, h2]
                  obtain ⟨tx, gtx⟩ : ∃ z, decide (((i1, i2) : I2) = (a1, a2)) = z := ⟨_, rfl⟩
                  rw [hdx, gtx] at hex
                  rw [gtx] at HSet
                  have h0 := (own_rds HM.out.v).elem vC_len hu 0 _ rfl
                  have h1 := (own_rds HM.out.v).elem vC_len hu 1 _ rfl
                  simp only [Addr.add_lit, Nat.add_zero, Nat.zero_add] at h0 h1
                  have n0 : wo.cell? ⟨gm, j * 5, none⟩ = some (.int .i64 i1) := h0
                  have n1_ : wo.cell? ⟨gm, j * 5 + 1, none⟩ = some (.int .i64 i2) := h1
                  have Hlo : RowKit.Hid (w35.heap.size ≤ gm) := Lib.hid hlo
                  have Hu := Lib.hid hu
                  clear hv hu huv hul hset hc hf HU hdx gtx hlo h0 h1
                  have HPo := Lib.hid (HXp.out.bl HZ.out)
                  go_upto_region 14 with fail
                  clear cb
                  have ld0 : ∀ w', Kept Nil_ wo.drew w' → w'.cell? ⟨b9, 0, none⟩ = some (.slice (some ⟨gm, 0, none⟩) na c2) := fun w' h => h.nil_cell (H9.out.dr.cell (i := 0) rfl)
                  have ld1 : ∀ w', Kept Nil_ wo.drew w' → w'.cell? ⟨gm, j * 5, none⟩ = some (.int .i64 i1) := fun w' h => h.nil_cell (show wo.drew.cell? _ = _ from n0)
                  have ld2 : ∀ w', Kept Nil_ wo.drew w' → w'.cell? ⟨gm, j * 5 + 1, none⟩ = some (.int .i64 i2) := fun w' h => h.nil_cell (show wo.drew.cell? _ = _ from n1_)
                  have ld3 : ∀ w', Kept Nil_ wo.drew w' → w'.cell? ⟨bP, 0, none⟩ = some (.int .i64 a1) := fun w' h => h.nil_cell (HPo.out.dr.cell (i := 0) rfl)
                  have ld4 : ∀ w', Kept Nil_ wo.drew w' → w'.cell? ⟨bP, 1, none⟩ = some (.int .i64 a2) := fun w' h => h.nil_cell (HPo.out.dr.cell (i := 1) rfl)
                  refine wp_region_reg (Nil_) (by kernel_rfl) ?_
                  apply wpR_next 0 (some 86)
                  · simp only [List.getElem?_toArray, List.getElem?_cons_succ, List.getElem?_cons_zero]; exact rfl
                  · rfl
                  · kernel_rfl
                  · kernel_rfl
                  · kernel_rfl
                  · exact fun _ _ _ _ h => h
                  apply Exists.intro
                  apply And.intro
                  · apply yr_run; rfl; intro w' hw'; go_simp; (try with_reducible rfl)
                  simp only [Act.put, List.setIfInBounds_toArray, List.set_cons_zero, List.set_cons_succ]
                  apply wpR_next 1 (some 87)
                  · simp only [List.getElem?_toArray, List.getElem?_cons_succ, List.getElem?_cons_zero]; exact rfl
                  · rfl
                  · kernel_rfl
                  · kernel_rfl
                  · kernel_rfl
                  · exact fun _ _ _ _ h => h
                  apply Exists.intro
                  apply And.intro
                  · apply yr_run; rfl; intro w' hw'; go_simp; (try with_reducible rfl)
                  simp only [Act.put, List.setIfInBounds_toArray, List.set_cons_zero, List.set_cons_succ]
                  apply wpR_next 2 (some 88)
                  · simp only [List.getElem?_toArray, List.getElem?_cons_succ, List.getElem?_cons_zero]; exact rfl
                  · rfl
                  · kernel_rfl
                  · kernel_rfl
                  · kernel_rfl
                  · exact fun _ _ _ _ h => h
                  apply Exists.intro
                  apply And.intro
                  · apply yr_run; rfl; intro w' hw'; go_simp; (try with_reducible rfl)
                  simp only [Act.put, List.setIfInBounds_toArray, List.set_cons_zero, List.set_cons_succ]
                  apply wpR_next 3 (some 89)
                  · simp only [List.getElem?_toArray, List.getElem?_cons_succ, List.getElem?_cons_zero]; exact rfl
                  · rfl
                  · kernel_rfl
                  · kernel_rfl
                  · kernel_rfl
                  · exact fun _ _ _ _ h => h
                  apply Exists.intro
                  apply And.intro
                  · apply yr_run; rfl; intro w' hw'; go_simp; (try with_reducible rfl)
                  simp only [Act.put, List.setIfInBounds_toArray, List.set_cons_zero, List.set_cons_succ]
                  apply wpR_next 4 (some 90)
                  · simp only [List.getElem?_toArray, List.getElem?_cons_succ, List.getElem?_cons_zero]; exact rfl
                  · rfl
                  · kernel_rfl
                  · kernel_rfl
                  · kernel_rfl
                  · exact fun _ _ _ _ h => h
                  apply Exists.intro
                  apply And.intro
                  · apply yr_run; rfl; intro w' hw'; go_simp; (try with_reducible rfl)
                  simp only [Act.put, List.setIfInBounds_toArray, List.set_cons_zero, List.set_cons_succ]
                  apply wpR_next 5 (some 91)
                  · simp only [List.getElem?_toArray, List.getElem?_cons_succ, List.getElem?_cons_zero]; exact rfl
                  · rfl
                  · kernel_rfl
                  · kernel_rfl
                  · kernel_rfl
                  · exact fun _ _ _ _ h => h
                  apply Exists.intro
                  apply And.intro
                  · apply yr_run; rfl; intro w' hw'; go_simp; (try with_reducible rfl)
                  simp only [Act.put, List.setIfInBounds_toArray, List.set_cons_zero, List.set_cons_succ]
                  apply wpR_next 6 (some 92)
                  · simp only [List.getElem?_toArray, List.getElem?_cons_succ, List.getElem?_cons_zero]; exact rfl
                  · rfl
                  · kernel_rfl
                  · kernel_rfl
                  · kernel_rfl
                  · exact fun _ _ _ _ h => h
                  apply Exists.intro
                  apply And.intro
                  · apply yr_run; rfl; intro w' hw'; go_simp; (try with_reducible rfl)
                  simp only [Act.put, List.setIfInBounds_toArray, List.set_cons_zero, List.set_cons_succ]
                  apply wpR_next 7 (some 93)
                  · simp only [List.getElem?_toArray, List.getElem?_cons_succ, List.getElem?_cons_zero]; exact rfl
                  · rfl
                  · kernel_rfl
                  · kernel_rfl
                  · kernel_rfl
                  · exact fun _ _ _ _ h => h
                  apply Exists.intro
                  apply And.intro
                  · exact yr_run (by rfl) (fun w' hw' => exec_binop_agg .eql 35 (.tmp 91) (.tmp 92) 35 rfl rfl rfl (by kernel_rfl) (hex w'))
                  simp only [Act.put, List.setIfInBounds_toArray, List.set_cons_zero, List.set_cons_succ]
                  refine wpR_done (by kernel_rfl) ?_ _
                  intro wq hwq
                  have HZq := Lib.hid (bel_bl (bel_dr HZ.out) hwq)
                  have H9q := Lib.hid (H9.out.dr.bl hwq)
                  have HMq := Lib.hid (HM.out.dr.bl hwq)
                  clear hwq ld0 ld1 ld2 ld3 ld4 n0 n1_ HPo HZ H9 HM
                  cases tx with
                  | true =>
                    obtain ⟨Uq, gUq⟩ : ∃ z, Us = z := ⟨_, rfl⟩
                    have huq : Uq[j]? = some ((i1, i2), (rA, rn, rc, rL), lb, at_) := by rw [← gUq]; exact Hu.out
                    rw [gUq] at HMq
                    obtain ⟨gp, ep, -, -, hcp, -, -⟩ := HMq.out.put huq hjn (rA, rn, rc, rL) (HMq.out.r _ (List.mem_of_getElem? huq))
                    obtain rfl : gm = gp := by
                      injection ep with ep
                      injection ep
                    replace hcp : wq.cell? ⟨gm, j * 5 + 2, none⟩ = some (.slice rA rn rc) := hcp
                    have HRq : RowKit.Hid (RdS wq.drew wq.drew.heap.size 3 rA rn rc (dartsV rL)) := Lib.hid (HMq.out.r _ (List.mem_of_getElem? huq)).2.dr
                    have HRm : RowKit.Hid (∀ W, RdS W W.heap.size 3 rA rn rc (dartsV rL) → Calls Try.prog 24 #[.slice rA rn rc, .agg #[.int .i64 x1, .int .i64 x2, .int .i64 x3], .agg #[.int .i64 8, .int .i64 1048576, .int .i64 0]] W (GivesC W (turnD (insR rL (x1, x2, x3) (8, 1048576, 0))))) := Lib.hid (fun W h => rfinsertc_any rA rn rc rL (x1, x2, x3) (8, 1048576, 0) W h (by omega))
                    obtain ⟨L9, gL9⟩ : ∃ z, turnD (insR rL (x1, x2, x3) (8, 1048576, 0)) = z := ⟨_, rfl⟩
                    have HLd : RowKit.Hid (insT true (x1, x2, x3) (8, 1048576, 0) rL = L9) := Lib.hid gL9
                    rw [gL9] at HRm
                    have HXno := Lib.hid (HXn.out.bl HZq.out)
                    have HXxo := Lib.hid (HXx.out.bl HZq.out)
                    clear gL9 ep
                    go_upto_region 15 with fail
                    have ld0 : ∀ w', Kept Nil_ wq.drew w' → w'.cell? ⟨b9, 0, none⟩ = some (.slice (some ⟨gm, 0, none⟩) na c2) := fun w' h => h.nil_cell (H9q.out.dr.cell (i := 0) rfl)
                    have ld1 : ∀ w', Kept Nil_ wq.drew w' → w'.cell? ⟨gm, j * 5 + 2, none⟩ = some (.slice rA rn rc) := fun w' h => h.nil_cell (show wq.drew.cell? _ = _ from hcp)
                    have ld2 : ∀ w', Kept Nil_ wq.drew w' → w'.cell? ⟨bN, 0, none⟩ = some (.int .i64 8) := fun w' h => h.nil_cell (HXno.out.dr.cell (i := 0) rfl)
                    have ld3 : ∀ w', Kept Nil_ wq.drew w' → w'.cell? ⟨bN, 1, none⟩ = some (.int .i64 1048576) := fun w' h => h.nil_cell (HXno.out.dr.cell (i := 1) rfl)
                    have ld4 : ∀ w', Kept Nil_ wq.drew w' → w'.cell? ⟨(w.heap.size + 1), 0, none⟩ = some (.int .i64 x1) := fun w' h => h.nil_cell (HXxo.out.dr.cell (i := 0) rfl)
                    have ld5 : ∀ w', Kept Nil_ wq.drew w' → w'.cell? ⟨(w.heap.size + 1), 1, none⟩ = some (.int .i64 x2) := fun w' h => h.nil_cell (HXxo.out.dr.cell (i := 1) rfl)
                    have ld6 : ∀ w', Kept Nil_ wq.drew w' → w'.cell? ⟨(w.heap.size + 1), 2, none⟩ = some (.int .i64 x3) := fun w' h => h.nil_cell (HXxo.out.dr.cell (i := 2) rfl)
                    clear hcp HXno HXxo
                    refine wp_region_tail (Nil_) [15] (by kernel_rfl) ?_
                    apply wpT_next 0 (some 94) (by kernel_rfl)
                    · simp only [List.getElem?_toArray, List.getElem?_cons_succ, List.getElem?_cons_zero]; exact rfl
                    · rfl
                    · kernel_rfl
                    · kernel_rfl
                    · kernel_rfl
                    · exact fun _ _ _ _ h => h
                    apply Exists.intro
                    apply And.intro
                    · apply yr_run; rfl; intro w' hw'; go_simp; (try with_reducible rfl)
                    simp only [Act.put, List.setIfInBounds_toArray, List.set_cons_zero, List.set_cons_succ]
                    apply wpT_next 1 (some 95) (by kernel_rfl)
                    · simp only [List.getElem?_toArray, List.getElem?_cons_succ, List.getElem?_cons_zero]; exact rfl
                    · rfl
                    · kernel_rfl
                    · kernel_rfl
                    · kernel_rfl
                    · exact fun _ _ _ _ h => h
                    apply Exists.intro
                    apply And.intro
                    · apply yr_run; rfl; intro w' hw'; go_simp; (try with_reducible rfl)
                    simp only [Act.put, List.setIfInBounds_toArray, List.set_cons_zero, List.set_cons_succ]
                    apply wpT_next 2 (some 96) (by kernel_rfl)
                    · simp only [List.getElem?_toArray, List.getElem?_cons_succ, List.getElem?_cons_zero]; exact rfl
                    · rfl
                    · kernel_rfl
                    · kernel_rfl
                    · kernel_rfl
                    · exact fun _ _ _ _ h => h
                    apply Exists.intro
                    apply And.intro
                    · apply yr_run; rfl; intro w' hw'; go_simp; (try with_reducible rfl)
                    simp only [Act.put, List.setIfInBounds_toArray, List.set_cons_zero, List.set_cons_succ]
                    apply wpT_next 3 (some 97) (by kernel_rfl)
                    · simp only [List.getElem?_toArray, List.getElem?_cons_succ, List.getElem?_cons_zero]; exact rfl
                    · rfl
                    · kernel_rfl
                    · kernel_rfl
                    · kernel_rfl
                    · exact fun _ _ _ _ h => h
                    apply Exists.intro
                    apply And.intro
                    · apply yr_run; rfl; intro w' hw'; go_simp; (try with_reducible rfl)
                    simp only [Act.put, List.setIfInBounds_toArray, List.set_cons_zero, List.set_cons_succ]
                    apply wpT_next 4 (some 98) (by kernel_rfl)
                    · simp only [List.getElem?_toArray, List.getElem?_cons_succ, List.getElem?_cons_zero]; exact rfl
                    · rfl
                    · kernel_rfl
                    · kernel_rfl
                    · kernel_rfl
                    · exact fun _ _ _ _ h => h
                    apply Exists.intro
                    apply And.intro
                    · apply yr_run; rfl; intro w' hw'; go_simp; (try with_reducible rfl)
                    simp only [Act.put, List.setIfInBounds_toArray, List.set_cons_zero, List.set_cons_succ]
                    apply wpT_next 5 (some 99) (by kernel_rfl)
                    · simp only [List.getElem?_toArray, List.getElem?_cons_succ, List.getElem?_cons_zero]; exact rfl
                    · rfl
                    · kernel_rfl
                    · kernel_rfl
                    · kernel_rfl
                    · exact fun _ _ _ _ h => h
                    apply Exists.intro
                    apply And.intro
                    · apply yr_run; rfl; intro w' hw'; go_simp; (try with_reducible rfl)
                    simp only [Act.put, List.setIfInBounds_toArray, List.set_cons_zero, List.set_cons_succ]
                    apply wpT_next 6 (some 100) (by kernel_rfl)
                    · simp only [List.getElem?_toArray, List.getElem?_cons_succ, List.getElem?_cons_zero]; exact rfl
                    · rfl
                    · kernel_rfl
                    · kernel_rfl
                    · kernel_rfl
                    · exact fun _ _ _ _ h => h
                    apply Exists.intro
                    apply And.intro
                    · apply yr_run; rfl; intro w' hw'; go_simp; (try with_reducible rfl)
                    simp only [Act.put, List.setIfInBounds_toArray, List.set_cons_zero, List.set_cons_succ]
                    apply wpT_next 7 (some 101) (by kernel_rfl)
                    · simp only [List.getElem?_toArray, List.getElem?_cons_succ, List.getElem?_cons_zero]; exact rfl
                    · rfl
                    · kernel_rfl
                    · kernel_rfl
                    · kernel_rfl
                    · exact fun _ _ _ _ h => h
                    apply Exists.intro
                    apply And.intro
                    · apply yr_run; rfl; intro w' hw'; go_simp; (try with_reducible rfl)
                    simp only [Act.put, List.setIfInBounds_toArray, List.set_cons_zero, List.set_cons_succ]
                    apply wpT_next 8 (some 102) (by kernel_rfl)
                    · simp only [List.getElem?_toArray, List.getElem?_cons_succ, List.getElem?_cons_zero]; exact rfl
                    · rfl
                    · kernel_rfl
                    · kernel_rfl
                    · kernel_rfl
                    · exact fun _ _ _ _ h => h
                    apply Exists.intro
                    apply And.intro
                    · apply yr_run; rfl; intro w' hw'; go_simp; (try with_reducible rfl)
                    simp only [Act.put, List.setIfInBounds_toArray, List.set_cons_zero, List.set_cons_succ]
                    apply wpT_next 9 (some 103) (by kernel_rfl)
                    · simp only [List.getElem?_toArray, List.getElem?_cons_succ, List.getElem?_cons_zero]; exact rfl
                    · rfl
                    · kernel_rfl
                    · kernel_rfl
                    · kernel_rfl
                    · exact fun _ _ _ _ h => h
                    apply Exists.intro
                    apply And.intro
                    · apply yr_run; rfl; intro w' hw'; go_simp; (try with_reducible rfl)
                    simp only [Act.put, List.setIfInBounds_toArray, List.set_cons_zero, List.set_cons_succ]
                    apply wpT_next 10 (some 104) (by kernel_rfl)
                    · simp only [List.getElem?_toArray, List.getElem?_cons_succ, List.getElem?_cons_zero]; exact rfl
                    · rfl
                    · kernel_rfl
                    · kernel_rfl
                    · kernel_rfl
                    · exact fun _ _ _ _ h => h
                    apply Exists.intro
                    apply And.intro
                    · apply yr_run; rfl; intro w' hw'; go_simp; (try with_reducible rfl)
                    simp only [Act.put, List.setIfInBounds_toArray, List.set_cons_zero, List.set_cons_succ]
                    apply wpT_next 11 (some 105) (by kernel_rfl)
                    · simp only [List.getElem?_toArray, List.getElem?_cons_succ, List.getElem?_cons_zero]; exact rfl
                    · rfl
                    · kernel_rfl
                    · kernel_rfl
                    · kernel_rfl
                    · exact fun _ _ _ _ h => h
                    apply Exists.intro
                    apply And.intro
                    · apply yr_run; rfl; intro w' hw'; go_simp; (try with_reducible rfl)
                    simp only [Act.put, List.setIfInBounds_toArray, List.set_cons_zero, List.set_cons_succ]
                    apply wpT_call 12 (some 106)
                    · simp only [List.getElem?_toArray, List.getElem?_cons_succ, List.getElem?_cons_zero]; exact rfl
                    · rfl
                    · kernel_rfl
                    · rfl
                    · intro w'; go_simp; first | done | exact ⟨rfl, rfl⟩ | with_reducible rfl
                    intro w' hw'
                    refine (HRm.out w' (HRq.out.bl hw')).mono ?_
                    rintro e w9 ⟨A9, c9, rfl, hr9, hb9, hc9⟩
                    refine ⟨_, rfl, Kept.of_below hb9, ?_⟩
                    have H99 := Lib.hid ((H9q.out.dr.bl hw').bl hb9)
                    have HM9 := Lib.hid ((HMq.out.dr.bl hw').bl hb9)
                    have HZ9 := Lib.hid (bel_bl (bel_bl (bel_dr HZq.out) hw') hb9)
                    have HR9 : RowKit.Hid (RgOk w9 (A9, L9.length, c9, L9)) := Lib.hid ⟨hc9, hr9⟩
                    obtain ⟨V9, gV9⟩ : ∃ z, w9 = z := ⟨_, rfl⟩
                    rw [gV9] at H99 HM9 HZ9 HR9 ⊢
                    clear hw' hr9 hb9 hc9 gV9 ld0 ld1 ld2 ld3 ld4 ld5 ld6 HRm HRq H9q HMq HZq
                    simp only [Act.put, List.setIfInBounds_toArray, List.set_cons_zero, List.set_cons_succ]
                    apply wpT_run 13 (some 107)
                    · simp only [List.getElem?_toArray, List.getElem?_cons_succ, List.getElem?_cons_zero]; exact rfl
                    · rfl
                    · kernel_rfl
                    · rfl
                    intro w' hw'
                    apply Exists.intro
                    apply Exists.intro
                    apply And.intro
                    · go_simp; first | done | exact ⟨rfl, rfl⟩ | exact rfl
                    apply And.intro
                    · exact Kept.refl _ _
                    have hpd13 := hw'
                    clear hw'
                    simp only [Act.put, List.setIfInBounds_toArray, List.set_cons_zero, List.set_cons_succ]
                    apply wpT_next 14 (some 108) (by kernel_rfl)
                    · simp only [List.getElem?_toArray, List.getElem?_cons_succ, List.getElem?_cons_zero]; exact rfl
                    · rfl
                    · kernel_rfl
                    · kernel_rfl
                    · kernel_rfl
                    · exact fun _ _ _ _ h => h
                    apply Exists.intro
                    apply And.intro
                    · apply yr_run; rfl; intro w' hw'; go_simp; (try with_reducible rfl)
                    simp only [Act.put, List.setIfInBounds_toArray, List.set_cons_zero, List.set_cons_succ]
                    apply wpT_last 15
                    · simp only [List.getElem?_toArray, List.getElem?_cons_succ, List.getElem?_cons_zero]; exact rfl
                    · rfl
                    · kernel_rfl
                    · rfl
                    · decide
                    intro w' hw'
                    replace hw' := Ext.trans hpd13 hw'
                    clear hpd13
                    obtain ⟨gq, eq, hloq, ⟨csq, hwq⟩, hcq, hfq, hMq⟩ := (HM9.out.bl hw').put huq hjn (A9, L9.length, c9, L9) (HR9.out.bl hw')
                    obtain rfl : gm = gq := by
                      injection eq with eq
                      injection eq
                    replace hcq : w'.cell? ⟨gm, j * 5 + 2, none⟩ = some (.slice rA rn rc) := hcq
                    refine ⟨w'.setCell ⟨gm, j * 5 + 2, none⟩ (.slice A9 L9.length c9), by (go_simp; first | done | exact rfl | exact ⟨rfl, rfl⟩), ?_⟩
                    have HMs_ : RowKit.Hid (Wro (w'.setCell ⟨gm, j * 5 + 2, none⟩ (.slice A9 L9.length c9)) w35.heap.size (some ⟨gm, 0, none⟩) na c2 (Uq.set j ((i1, i2), (A9, L9.length, c9, L9), lb, at_)) B3 (ma + 1) k3 (Ea ++ [eN])) := Lib.hid hMq
                    have H9s := Lib.hid ((H99.out.bl hw').set_far' (i := j * 5 + 2) ((H99.out.bl hw').ne_ hwq (by decide)) (.slice A9 L9.length c9))
                    have HZs := Lib.hid ((bel_bl HZ9.out hw').setCell (p := ⟨gm, j * 5 + 2, none⟩) Hlo.out (.slice A9 L9.length c9))
                    obtain ⟨W7, gW7⟩ : ∃ z, w'.setCell ⟨gm, j * 5 + 2, none⟩ (.slice A9 L9.length c9) = z := ⟨_, rfl⟩
                    rw [gW7] at HMs_ H9s HZs ⊢
                    clear hw' eq hloq hwq hcq hfq hMq gW7 H99 HM9 HZ9 HR9
                    try simp only [Act.put, List.setIfInBounds_toArray, List.set_cons_zero, List.set_cons_succ]
                    refine wpT_done (by kernel_rfl) ?_ _
                    intro W8 hw8
                    have HZ8 := Lib.hid (bel_bl HZs.out hw8)
                    have H98 := Lib.hid (H9s.out.bl hw8)
                    have HM8 := Lib.hid (HMs_.out.bl hw8)
                    clear hw8 HZs H9s HMs_
                    have HUf := HSet.out A9 L9.length c9 L9 HLd.out.symm
                    rw [gUq] at HUf
                    have HUf := Lib.hid HUf
                    go_wp2
                    go_roundw
                    case rel => exact ⟨j + 1, _, by omega, by go_num, HZ8, H98, HM8, HUf⟩
                    case measure => simp [intOf] <;> omega
                  | false =>
                    have HUf := HSet.out rA rn rc rL rfl
                    have hse : Us.set j ((i1, i2), (rA, rn, rc, rL), lb, at_) = Us := by
                      obtain ⟨h1, h2⟩ := List.getElem?_eq_some_iff.1 Hu.out
                      rw [← h2]
                      exact List.set_getElem_self h1
                    rw [hse] at HUf
                    have HUf := Lib.hid HUf
                    go_wp2
                    go_roundw
                    case rel => exact ⟨j + 1, _, by omega, by go_num, HZq, H9q, HMq, HUf⟩
                    case measure => simp [intOf] <;> omega
                · obtain rfl : na = j := by omega
                  have hMs := HU.out
                  rw [List.take_of_length_le (by have := Hlv.out; omega), List.drop_eq_nil_of_le (by have := Hlv.out; omega)] at hMs
                  obtain ⟨Ms, gMs⟩ : ∃ z, Va.map (mI (a1, a2) (x1, x2, x3) (8, 1048576, 0)) = z := ⟨_, rfl⟩
                  have hMs2 : Us.map vS = Ms.map vS := by
                    rw [hMs, List.map_nil, List.append_nil, ← gMs, List.map_map]
                    rfl
                  obtain ⟨hBs2, hNum⟩ := HMs.out Ms gMs.symm
                  have HBs2 := Lib.hid hBs2
                  have HNum := Lib.hid hNum
                  have HU2 : RowKit.Hid (Us.map vS = (Ms.take 0).map (gI (b1, b2) (y1, y2, y3) (8, 1048576, 1)) ++ (Ms.drop 0).map vS) := Lib.hid (by rw [hMs2]; rfl)
                  clear hMs hMs2 gMs hBs2 hNum HU
                  go_wp2
                  clear cb
                  go_loopw [17] (fun si wr => ∃ (j : Nat) (Us : List VC), j ≤ na ∧ si = .int .i64 j ∧ RowKit.Hid (Below w35.heap.size w35 wr) ∧ RowKit.Hid (Whole wr b9 25 [.slice A2 na c2, .slice B3 (ma + 1) k3]) ∧ RowKit.Hid (Wro wr w35.heap.size A2 na c2 Us B3 (ma + 1) k3 (Ea ++ [eN])) ∧ RowKit.Hid (Us.map vS = (Ms.take j).map (gI (b1, b2) (y1, y2, y3) (8, 1048576, 1)) ++ (Ms.drop j).map vS)) (fun si _ => na - (intOf si).toNat)
                  case atStart => exact ⟨0, Us, by omega, rfl, HZ, H9, HM, HU2⟩
                  case round =>
                    clear HZ H9 HM HU2
                    obtain ⟨j, Us, hj, rfl, HZ, H9, HM, HU⟩ := hrel
                    obtain ⟨wo, gwo⟩ : ∃ z, wr = z := ⟨_, rfl⟩
                    rw [gwo] at HZ H9 HM ⊢
                    clear gwo
                    have cb := H9.out.cell (i := 0) rfl
                    by_cases hjn : j < na
                    · obtain ⟨v, hv⟩ : ∃ v, Ms[j]? = some v := ⟨_, List.getElem?_eq_getElem (by have := HBs2.out.1; omega)⟩
                      obtain ⟨u, hu, huv⟩ : ∃ u, Us[j]? = some u ∧ vS u = vS v := by
                        have h1 : (Us.map vS)[j]? = some (vS v) := by
                          rw [HU.out, List.getElem?_append_right (by simp; omega)]
                          simp only [List.length_map, List.length_take]
                          rw [show j - min j Ms.length = 0 by have := HBs2.out.1; omega, List.getElem?_map, List.getElem?_drop, Nat.add_zero, hv]
                          rfl
                        rw [List.getElem?_map] at h1
                        cases hq : Us[j]? with
                        | none => rw [hq] at h1; cases h1
                        | some y => rw [hq] at h1; exact ⟨y, rfl, Option.some.inj h1⟩
                      have hul : u.2.1.2.2.2 = v.2.1.2.2.2 := congrArg (fun s : (Int × Int) × List D × ByteArray × Int => s.2.1) huv
                      have hrn : u.2.1.2.1 ≤ 81 := by
                        have h1 := HBs2.out.2 v (List.mem_of_getElem? hv)
                        have h3 := (HM.out.r u (List.mem_of_getElem? hu)).2.dlen
                        rw [hul] at h3
                        omega
                      have hset : ∀ (R : Rg), R.2.2.2 = insT (decide (u.1 = (b1, b2))) (y1, y2, y3) (8, 1048576, 1) u.2.1.2.2.2 → (Us.set j (u.1, R, u.2.2)).map vS = (Ms.take (j + 1)).map (gI (b1, b2) (y1, y2, y3) (8, 1048576, 1)) ++ (Ms.drop (j + 1)).map vS := fun R hR => by
                        rw [List.map_set, HU.out]
                        have e : vS (u.1, R, u.2.2) = (gI (b1, b2) (y1, y2, y3) (8, 1048576, 1)) v := by
                          have q1 : u.1 = v.1 := congrArg (fun s : (Int × Int) × List D × ByteArray × Int => s.1) huv
                          have q3 : u.2.2.1 = v.2.2.1 := congrArg (fun s : (Int × Int) × List D × ByteArray × Int => s.2.2.1) huv
                          have q4 : u.2.2.2 = v.2.2.2 := congrArg (fun s : (Int × Int) × List D × ByteArray × Int => s.2.2.2) huv
                          show (u.1, R.2.2.2, u.2.2.1, u.2.2.2) = _
                          rw [hR, q1, q3, q4, hul, gI_eq]
                        rw [e]
                        exact half_set (gI (b1, b2) (y1, y2, y3) (8, 1048576, 1)) vS hv
                      obtain ⟨⟨i1, i2⟩, ⟨rA, rn, rc, rL⟩, lb, at_⟩ := u
                      have HSet : RowKit.Hid (∀ (A9 : Option Addr) (n9 c9 : Nat) (L9 : List D), L9 = insT (decide (((i1, i2) : I2) = (b1, b2))) (y1, y2, y3) (8, 1048576, 1) rL → (Us.set j ((i1, i2), (A9, n9, c9, L9), lb, at_)).map vS = (Ms.take (j + 1)).map (gI (b1, b2) (y1, y2, y3) (8, 1048576, 1)) ++ (Ms.drop (j + 1)).map vS) := Lib.hid (fun A9 n9 c9 L9 h => hset (A9, n9, c9, L9) h)
                      replace hrn : rn ≤ 81 := hrn
                      obtain ⟨gm, eA2, hlo, -, hc, hf, -⟩ := HM.out.put hu hjn (rA, rn, rc, rL) (HM.out.r _ (List.mem_of_getElem? hu))
                      subst eA2
                      have hex := eq_id i1 i2 b1 b2
                      have hdx : (i1 == b1 && i2 == b2) = decide (((i1, i2) : I2) = (b1, b2)) := by
                        by_cases h1 : i1 = b1 <;> by_cases h2 : i2 = b2 <;> simp [h1, h2]
                      obtain ⟨tx, gtx⟩ : ∃ z, decide (((i1, i2) : I2) = (b1, b2)) = z := ⟨_, rfl⟩
                      rw [hdx, gtx] at hex
                      rw [gtx] at HSet
                      have h0 := (own_rds HM.out.v).elem vC_len hu 0 _ rfl
                      have h1 := (own_rds HM.out.v).elem vC_len hu 1 _ rfl
                      simp only [Addr.add_lit, Nat.add_zero, Nat.zero_add] at h0 h1
                      have n0 : wo.cell? ⟨gm, j * 5, none⟩ = some (.int .i64 i1) := h0
                      have n1_ : wo.cell? ⟨gm, j * 5 + 1, none⟩ = some (.int .i64 i2) := h1
                      have Hlo : RowKit.Hid (w35.heap.size ≤ gm) := Lib.hid hlo
                      have Hu := Lib.hid hu
                      clear hv hu huv hul hset hc hf HU hdx gtx hlo h0 h1
                      have HPo := Lib.hid (HXq.out.bl HZ.out)
                      go_upto_region 19 with fail
                      clear cb
                      have ld0 : ∀ w', Kept Nil_ wo.drew w' → w'.cell? ⟨b9, 0, none⟩ = some (.slice (some ⟨gm, 0, none⟩) na c2) := fun w' h => h.nil_cell (H9.out.dr.cell (i := 0) rfl)
                      have ld1 : ∀ w', Kept Nil_ wo.drew w' → w'.cell? ⟨gm, j * 5, none⟩ = some (.int .i64 i1) := fun w' h => h.nil_cell (show wo.drew.cell? _ = _ from n0)
                      have ld2 : ∀ w', Kept Nil_ wo.drew w' → w'.cell? ⟨gm, j * 5 + 1, none⟩ = some (.int .i64 i2) := fun w' h => h.nil_cell (show wo.drew.cell? _ = _ from n1_)
                      have ld3 : ∀ w', Kept Nil_ wo.drew w' → w'.cell? ⟨bQ, 0, none⟩ = some (.int .i64 b1) := fun w' h => h.nil_cell (HPo.out.dr.cell (i := 0) rfl)
                      have ld4 : ∀ w', Kept Nil_ wo.drew w' → w'.cell? ⟨bQ, 1, none⟩ = some (.int .i64 b2) := fun w' h => h.nil_cell (HPo.out.dr.cell (i := 1) rfl)
                      refine wp_region_reg (Nil_) (by kernel_rfl) ?_
                      apply wpR_next 0 (some 116)
                      · simp only [List.getElem?_toArray, List.getElem?_cons_succ, List.getElem?_cons_zero]; exact rfl
                      · rfl
                      · kernel_rfl
                      · kernel_rfl
                      · kernel_rfl
                      · exact fun _ _ _ _ h => h
                      apply Exists.intro
                      apply And.intro
                      · apply yr_run; rfl; intro w' hw'; go_simp; (try with_reducible rfl)
                      simp only [Act.put, List.setIfInBounds_toArray, List.set_cons_zero, List.set_cons_succ]
                      apply wpR_next 1 (some 117)
                      · simp only [List.getElem?_toArray, List.getElem?_cons_succ, List.getElem?_cons_zero]; exact rfl
                      · rfl
                      · kernel_rfl
                      · kernel_rfl
                      · kernel_rfl
                      · exact fun _ _ _ _ h => h
                      apply Exists.intro
                      apply And.intro
                      · apply yr_run; rfl; intro w' hw'; go_simp; (try with_reducible rfl)
                      simp only [Act.put, List.setIfInBounds_toArray, List.set_cons_zero, List.set_cons_succ]
                      apply wpR_next 2 (some 118)
                      · simp only [List.getElem?_toArray, List.getElem?_cons_succ, List.getElem?_cons_zero]; exact rfl
                      · rfl
                      · kernel_rfl
                      · kernel_rfl
                      · kernel_rfl
                      · exact fun _ _ _ _ h => h
                      apply Exists.intro
                      apply And.intro
                      · apply yr_run; rfl; intro w' hw'; go_simp; (try with_reducible rfl)
                      simp only [Act.put, List.setIfInBounds_toArray, List.set_cons_zero, List.set_cons_succ]
                      apply wpR_next 3 (some 119)
                      · simp only [List.getElem?_toArray, List.getElem?_cons_succ, List.getElem?_cons_zero]; exact rfl
                      · rfl
                      · kernel_rfl
                      · kernel_rfl
                      · kernel_rfl
                      · exact fun _ _ _ _ h => h
                      apply Exists.intro
                      apply And.intro
                      · apply yr_run; rfl; intro w' hw'; go_simp; (try with_reducible rfl)
                      simp only [Act.put, List.setIfInBounds_toArray, List.set_cons_zero, List.set_cons_succ]
                      apply wpR_next 4 (some 120)
                      · simp only [List.getElem?_toArray, List.getElem?_cons_succ, List.getElem?_cons_zero]; exact rfl
                      · rfl
                      · kernel_rfl
                      · kernel_rfl
                      · kernel_rfl
                      · exact fun _ _ _ _ h => h
                      apply Exists.intro
                      apply And.intro
                      · apply yr_run; rfl; intro w' hw'; go_simp; (try with_reducible rfl)
                      simp only [Act.put, List.setIfInBounds_toArray, List.set_cons_zero, List.set_cons_succ]
                      apply wpR_next 5 (some 121)
                      · simp only [List.getElem?_toArray, List.getElem?_cons_succ, List.getElem?_cons_zero]; exact rfl
                      · rfl
                      · kernel_rfl
                      · kernel_rfl
                      · kernel_rfl
                      · exact fun _ _ _ _ h => h
                      apply Exists.intro
                      apply And.intro
                      · apply yr_run; rfl; intro w' hw'; go_simp; (try with_reducible rfl)
                      simp only [Act.put, List.setIfInBounds_toArray, List.set_cons_zero, List.set_cons_succ]
                      apply wpR_next 6 (some 122)
                      · simp only [List.getElem?_toArray, List.getElem?_cons_succ, List.getElem?_cons_zero]; exact rfl
                      · rfl
                      · kernel_rfl
                      · kernel_rfl
                      · kernel_rfl
                      · exact fun _ _ _ _ h => h
                      apply Exists.intro
                      apply And.intro
                      · apply yr_run; rfl; intro w' hw'; go_simp; (try with_reducible rfl)
                      simp only [Act.put, List.setIfInBounds_toArray, List.set_cons_zero, List.set_cons_succ]
                      apply wpR_next 7 (some 123)
                      · simp only [List.getElem?_toArray, List.getElem?_cons_succ, List.getElem?_cons_zero]; exact rfl
                      · rfl
                      · kernel_rfl
                      · kernel_rfl
                      · kernel_rfl
                      · exact fun _ _ _ _ h => h
                      apply Exists.intro
                      apply And.intro
                      · exact yr_run (by rfl) (fun w' hw' => exec_binop_agg .eql 35 (.tmp 121) (.tmp 122) 35 rfl rfl rfl (by kernel_rfl) (hex w'))
                      simp only [Act.put, List.setIfInBounds_toArray, List.set_cons_zero, List.set_cons_succ]
                      refine wpR_done (by kernel_rfl) ?_ _
                      intro wq hwq
                      have HZq := Lib.hid (bel_bl (bel_dr HZ.out) hwq)
                      have H9q := Lib.hid (H9.out.dr.bl hwq)
                      have HMq := Lib.hid (HM.out.dr.bl hwq)
                      clear hwq ld0 ld1 ld2 ld3 ld4 n0 n1_ HPo HZ H9 HM
                      cases tx with
                      | true =>
                        obtain ⟨Uq, gUq⟩ : ∃ z, Us = z := ⟨_, rfl⟩
                        have huq : Uq[j]? = some ((i1, i2), (rA, rn, rc, rL), lb, at_) := by rw [← gUq]; exact Hu.out
                        rw [gUq] at HMq
                        obtain ⟨gp, ep, -, -, hcp, -, -⟩ := HMq.out.put huq hjn (rA, rn, rc, rL) (HMq.out.r _ (List.mem_of_getElem? huq))
                        obtain rfl : gm = gp := by
                          injection ep with ep
                          injection ep
                        replace hcp : wq.cell? ⟨gm, j * 5 + 2, none⟩ = some (.slice rA rn rc) := hcp
                        have HRq : RowKit.Hid (RdS wq.drew wq.drew.heap.size 3 rA rn rc (dartsV rL)) := Lib.hid (HMq.out.r _ (List.mem_of_getElem? huq)).2.dr
                        have HRm : RowKit.Hid (∀ W, RdS W W.heap.size 3 rA rn rc (dartsV rL) → Calls Try.prog 24 #[.slice rA rn rc, .agg #[.int .i64 y1, .int .i64 y2, .int .i64 y3], .agg #[.int .i64 8, .int .i64 1048576, .int .i64 1]] W (GivesC W (turnD (insR rL (y1, y2, y3) (8, 1048576, 1))))) := Lib.hid (fun W h => rfinsertc_any rA rn rc rL (y1, y2, y3) (8, 1048576, 1) W h (by omega))
                        obtain ⟨L9, gL9⟩ : ∃ z, turnD (insR rL (y1, y2, y3) (8, 1048576, 1)) = z := ⟨_, rfl⟩
                        have HLd : RowKit.Hid (insT true (y1, y2, y3) (8, 1048576, 1) rL = L9) := Lib.hid gL9
                        rw [gL9] at HRm
                        have HXno := Lib.hid (HXn.out.bl HZq.out)
                        have HXxo := Lib.hid (HXy.out.bl HZq.out)
                        clear gL9 ep
                        go_upto_region 20 with fail
                        have ld0 : ∀ w', Kept Nil_ wq.drew w' → w'.cell? ⟨b9, 0, none⟩ = some (.slice (some ⟨gm, 0, none⟩) na c2) := fun w' h => h.nil_cell (H9q.out.dr.cell (i := 0) rfl)
                        have ld1 : ∀ w', Kept Nil_ wq.drew w' → w'.cell? ⟨gm, j * 5 + 2, none⟩ = some (.slice rA rn rc) := fun w' h => h.nil_cell (show wq.drew.cell? _ = _ from hcp)
                        have ld2 : ∀ w', Kept Nil_ wq.drew w' → w'.cell? ⟨bN, 0, none⟩ = some (.int .i64 8) := fun w' h => h.nil_cell (HXno.out.dr.cell (i := 0) rfl)
                        have ld3 : ∀ w', Kept Nil_ wq.drew w' → w'.cell? ⟨bN, 1, none⟩ = some (.int .i64 1048576) := fun w' h => h.nil_cell (HXno.out.dr.cell (i := 1) rfl)
                        have ld4 : ∀ w', Kept Nil_ wq.drew w' → w'.cell? ⟨(w.heap.size + 1 + 1), 0, none⟩ = some (.int .i64 y1) := fun w' h => h.nil_cell (HXxo.out.dr.cell (i := 0) rfl)
                        have ld5 : ∀ w', Kept Nil_ wq.drew w' → w'.cell? ⟨(w.heap.size + 1 + 1), 1, none⟩ = some (.int .i64 y2) := fun w' h => h.nil_cell (HXxo.out.dr.cell (i := 1) rfl)
                        have ld6 : ∀ w', Kept Nil_ wq.drew w' → w'.cell? ⟨(w.heap.size + 1 + 1), 2, none⟩ = some (.int .i64 y3) := fun w' h => h.nil_cell (HXxo.out.dr.cell (i := 2) rfl)
                        clear hcp HXno HXxo
                        refine wp_region_tail (Nil_) [15] (by kernel_rfl) ?_
                        apply wpT_next 0 (some 124) (by kernel_rfl)
                        · simp only [List.getElem?_toArray, List.getElem?_cons_succ, List.getElem?_cons_zero]; exact rfl
                        · rfl
                        · kernel_rfl
                        · kernel_rfl
                        · kernel_rfl
                        · exact fun _ _ _ _ h => h
                        apply Exists.intro
                        apply And.intro
                        · apply yr_run; rfl; intro w' hw'; go_simp; (try with_reducible rfl)
                        simp only [Act.put, List.setIfInBounds_toArray, List.set_cons_zero, List.set_cons_succ]
                        apply wpT_next 1 (some 125) (by kernel_rfl)
                        · simp only [List.getElem?_toArray, List.getElem?_cons_succ, List.getElem?_cons_zero]; exact rfl
                        · rfl
                        · kernel_rfl
                        · kernel_rfl
                        · kernel_rfl
                        · exact fun _ _ _ _ h => h
                        apply Exists.intro
                        apply And.intro
                        · apply yr_run; rfl; intro w' hw'; go_simp; (try with_reducible rfl)
                        simp only [Act.put, List.setIfInBounds_toArray, List.set_cons_zero, List.set_cons_succ]
                        apply wpT_next 2 (some 126) (by kernel_rfl)
                        · simp only [List.getElem?_toArray, List.getElem?_cons_succ, List.getElem?_cons_zero]; exact rfl
                        · rfl
                        · kernel_rfl
                        · kernel_rfl
                        · kernel_rfl
                        · exact fun _ _ _ _ h => h
                        apply Exists.intro
                        apply And.intro
                        · apply yr_run; rfl; intro w' hw'; go_simp; (try with_reducible rfl)
                        simp only [Act.put, List.setIfInBounds_toArray, List.set_cons_zero, List.set_cons_succ]
                        apply wpT_next 3 (some 127) (by kernel_rfl)
                        · simp only [List.getElem?_toArray, List.getElem?_cons_succ, List.getElem?_cons_zero]; exact rfl
                        · rfl
                        · kernel_rfl
                        · kernel_rfl
                        · kernel_rfl
                        · exact fun _ _ _ _ h => h
                        apply Exists.intro
                        apply And.intro
                        · apply yr_run; rfl; intro w' hw'; go_simp; (try with_reducible rfl)
                        simp only [Act.put, List.setIfInBounds_toArray, List.set_cons_zero, List.set_cons_succ]
                        apply wpT_next 4 (some 128) (by kernel_rfl)
                        · simp only [List.getElem?_toArray, List.getElem?_cons_succ, List.getElem?_cons_zero]; exact rfl
                        · rfl
                        · kernel_rfl
                        · kernel_rfl
                        · kernel_rfl
                        · exact fun _ _ _ _ h => h
                        apply Exists.intro
                        apply And.intro
                        · apply yr_run; rfl; intro w' hw'; go_simp; (try with_reducible rfl)
                        simp only [Act.put, List.setIfInBounds_toArray, List.set_cons_zero, List.set_cons_succ]
                        apply wpT_next 5 (some 129) (by kernel_rfl)
                        · simp only [List.getElem?_toArray, List.getElem?_cons_succ, List.getElem?_cons_zero]; exact rfl
                        · rfl
                        · kernel_rfl
                        · kernel_rfl
                        · kernel_rfl
                        · exact fun _ _ _ _ h => h
                        apply Exists.intro
                        apply And.intro
                        · apply yr_run; rfl; intro w' hw'; go_simp; (try with_reducible rfl)
                        simp only [Act.put, List.setIfInBounds_toArray, List.set_cons_zero, List.set_cons_succ]
                        apply wpT_next 6 (some 130) (by kernel_rfl)
                        · simp only [List.getElem?_toArray, List.getElem?_cons_succ, List.getElem?_cons_zero]; exact rfl
                        · rfl
                        · kernel_rfl
                        · kernel_rfl
                        · kernel_rfl
                        · exact fun _ _ _ _ h => h
                        apply Exists.intro
                        apply And.intro
                        · apply yr_run; rfl; intro w' hw'; go_simp; (try with_reducible rfl)
                        simp only [Act.put, List.setIfInBounds_toArray, List.set_cons_zero, List.set_cons_succ]
                        apply wpT_next 7 (some 131) (by kernel_rfl)
                        · simp only [List.getElem?_toArray, List.getElem?_cons_succ, List.getElem?_cons_zero]; exact rfl
                        · rfl
                        · kernel_rfl
                        · kernel_rfl
                        · kernel_rfl
                        · exact fun _ _ _ _ h => h
                        apply Exists.intro
                        apply And.intro
                        · apply yr_run; rfl; intro w' hw'; go_simp; (try with_reducible rfl)
                        simp only [Act.put, List.setIfInBounds_toArray, List.set_cons_zero, List.set_cons_succ]
                        apply wpT_next 8 (some 132) (by kernel_rfl)
                        · simp only [List.getElem?_toArray, List.getElem?_cons_succ, List.getElem?_cons_zero]; exact rfl
                        · rfl
                        · kernel_rfl
                        · kernel_rfl
                        · kernel_rfl
                        · exact fun _ _ _ _ h => h
                        apply Exists.intro
                        apply And.intro
                        · apply yr_run; rfl; intro w' hw'; go_simp; (try with_reducible rfl)
                        simp only [Act.put, List.setIfInBounds_toArray, List.set_cons_zero, List.set_cons_succ]
                        apply wpT_next 9 (some 133) (by kernel_rfl)
                        · simp only [List.getElem?_toArray, List.getElem?_cons_succ, List.getElem?_cons_zero]; exact rfl
                        · rfl
                        · kernel_rfl
                        · kernel_rfl
                        · kernel_rfl
                        · exact fun _ _ _ _ h => h
                        apply Exists.intro
                        apply And.intro
                        · apply yr_run; rfl; intro w' hw'; go_simp; (try with_reducible rfl)
                        simp only [Act.put, List.setIfInBounds_toArray, List.set_cons_zero, List.set_cons_succ]
                        apply wpT_next 10 (some 134) (by kernel_rfl)
                        · simp only [List.getElem?_toArray, List.getElem?_cons_succ, List.getElem?_cons_zero]; exact rfl
                        · rfl
                        · kernel_rfl
                        · kernel_rfl
                        · kernel_rfl
                        · exact fun _ _ _ _ h => h
                        apply Exists.intro
                        apply And.intro
                        · apply yr_run; rfl; intro w' hw'; go_simp; (try with_reducible rfl)
                        simp only [Act.put, List.setIfInBounds_toArray, List.set_cons_zero, List.set_cons_succ]
                        apply wpT_next 11 (some 135) (by kernel_rfl)
                        · simp only [List.getElem?_toArray, List.getElem?_cons_succ, List.getElem?_cons_zero]; exact rfl
                        · rfl
                        · kernel_rfl
                        · kernel_rfl
                        · kernel_rfl
                        · exact fun _ _ _ _ h => h
                        apply Exists.intro
                        apply And.intro
                        · apply yr_run; rfl; intro w' hw'; go_simp; (try with_reducible rfl)
                        simp only [Act.put, List.setIfInBounds_toArray, List.set_cons_zero, List.set_cons_succ]
                        apply wpT_call 12 (some 136)
                        · simp only [List.getElem?_toArray, List.getElem?_cons_succ, List.getElem?_cons_zero]; exact rfl
                        · rfl
                        · kernel_rfl
                        · rfl
                        · intro w'; go_simp; first | done | exact ⟨rfl, rfl⟩ | with_reducible rfl
                        intro w' hw'
                        refine (HRm.out w' (HRq.out.bl hw')).mono ?_
                        rintro e w9 ⟨A9, c9, rfl, hr9, hb9, hc9⟩
                        refine ⟨_, rfl, Kept.of_below hb9, ?_⟩
                        have H99 := Lib.hid ((H9q.out.dr.bl hw').bl hb9)
                        have HM9 := Lib.hid ((HMq.out.dr.bl hw').bl hb9)
                        have HZ9 := Lib.hid (bel_bl (bel_bl (bel_dr HZq.out) hw') hb9)
                        have HR9 : RowKit.Hid (RgOk w9 (A9, L9.length, c9, L9)) := Lib.hid ⟨hc9, hr9⟩
                        obtain ⟨V9, gV9⟩ : ∃ z, w9 = z := ⟨_, rfl⟩
                        rw [gV9] at H99 HM9 HZ9 HR9 ⊢
                        clear hw' hr9 hb9 hc9 gV9 ld0 ld1 ld2 ld3 ld4 ld5 ld6 HRm HRq H9q HMq HZq
                        simp only [Act.put, List.setIfInBounds_toArray, List.set_cons_zero, List.set_cons_succ]
                        apply wpT_run 13 (some 137)
                        · simp only [List.getElem?_toArray, List.getElem?_cons_succ, List.getElem?_cons_zero]; exact rfl
                        · rfl
                        · kernel_rfl
                        · rfl
                        intro w' hw'
                        apply Exists.intro
                        apply Exists.intro
                        apply And.intro
                        · go_simp; first | done | exact ⟨rfl, rfl⟩ | exact rfl
                        apply And.intro
                        · exact Kept.refl _ _
                        have hpd13 := hw'
                        clear hw'
                        simp only [Act.put, List.setIfInBounds_toArray, List.set_cons_zero, List.set_cons_succ]
                        apply wpT_next 14 (some 138) (by kernel_rfl)
                        · simp only [List.getElem?_toArray, List.getElem?_cons_succ, List.getElem?_cons_zero]; exact rfl
                        · rfl
                        · kernel_rfl
                        · kernel_rfl
                        · kernel_rfl
                        · exact fun _ _ _ _ h => h
                        apply Exists.intro
                        apply And.intro
                        · apply yr_run; rfl; intro w' hw'; go_simp; (try with_reducible rfl)
                        simp only [Act.put, List.setIfInBounds_toArray, List.set_cons_zero, List.set_cons_succ]
                        apply wpT_last 15
                        · simp only [List.getElem?_toArray, List.getElem?_cons_succ, List.getElem?_cons_zero]; exact rfl
                        · rfl
                        · kernel_rfl
                        · rfl
                        · decide
                        intro w' hw'
                        replace hw' := Ext.trans hpd13 hw'
                        clear hpd13
                        obtain ⟨gq, eq, hloq, ⟨csq, hwq⟩, hcq, hfq, hMq⟩ := (HM9.out.bl hw').put huq hjn (A9, L9.length, c9, L9) (HR9.out.bl hw')
                        obtain rfl : gm = gq := by
                          injection eq with eq
                          injection eq
                        replace hcq : w'.cell? ⟨gm, j * 5 + 2, none⟩ = some (.slice rA rn rc) := hcq
                        refine ⟨w'.setCell ⟨gm, j * 5 + 2, none⟩ (.slice A9 L9.length c9), by (go_simp; first | done | exact rfl | exact ⟨rfl, rfl⟩), ?_⟩
                        have HMs_ : RowKit.Hid (Wro (w'.setCell ⟨gm, j * 5 + 2, none⟩ (.slice A9 L9.length c9)) w35.heap.size (some ⟨gm, 0, none⟩) na c2 (Uq.set j ((i1, i2), (A9, L9.length, c9, L9), lb, at_)) B3 (ma + 1) k3 (Ea ++ [eN])) := Lib.hid hMq
                        have H9s := Lib.hid ((H99.out.bl hw').set_far' (i := j * 5 + 2) ((H99.out.bl hw').ne_ hwq (by decide)) (.slice A9 L9.length c9))
                        have HZs := Lib.hid ((bel_bl HZ9.out hw').setCell (p := ⟨gm, j * 5 + 2, none⟩) Hlo.out (.slice A9 L9.length c9))
                        obtain ⟨W7, gW7⟩ : ∃ z, w'.setCell ⟨gm, j * 5 + 2, none⟩ (.slice A9 L9.length c9) = z := ⟨_, rfl⟩
                        rw [gW7] at HMs_ H9s HZs ⊢
                        clear hw' eq hloq hwq hcq hfq hMq gW7 H99 HM9 HZ9 HR9
                        try simp only [Act.put, List.setIfInBounds_toArray, List.set_cons_zero, List.set_cons_succ]
                        refine wpT_done (by kernel_rfl) ?_ _
                        intro W8 hw8
                        have HZ8 := Lib.hid (bel_bl HZs.out hw8)
                        have H98 := Lib.hid (H9s.out.bl hw8)
                        have HM8 := Lib.hid (HMs_.out.bl hw8)
                        clear hw8 HZs H9s HMs_
                        have HUf := HSet.out A9 L9.length c9 L9 HLd.out.symm
                        rw [gUq] at HUf
                        have HUf := Lib.hid HUf
                        go_wp2
                        go_roundw
                        case rel => exact ⟨j + 1, _, by omega, by go_num, HZ8, H98, HM8, HUf⟩
                        case measure => simp [intOf] <;> omega
                      | false =>
                        have HUf := HSet.out rA rn rc rL rfl
                        have hse : Us.set j ((i1, i2), (rA, rn, rc, rL), lb, at_) = Us := by
                          obtain ⟨h1, h2⟩ := List.getElem?_eq_some_iff.1 Hu.out
                          rw [← h2]
                          exact List.set_getElem_self h1
                        rw [hse] at HUf
                        have HUf := Lib.hid HUf
                        go_wp2
                        go_roundw
                        case rel => exact ⟨j + 1, _, by omega, by go_num, HZq, H9q, HMq, HUf⟩
                        case measure => simp [intOf] <;> omega
                    · obtain rfl : na = j := by omega
                      have hUs : Us.map vS = Ms.map (gI (b1, b2) (y1, y2, y3) (8, 1048576, 1)) := by
                        rw [HU.out, List.take_of_length_le (by have := HBs2.out.1; omega), List.drop_eq_nil_of_le (by have := HBs2.out.1; omega)]
                        simp
                      have hUm := HNum.out Us hUs
                      have hox : othW (x1, x2, x3) = othD (x1, x2, x3) := (HFq.out.othW (d := (x1, x2, x3)) Hix.out.2.2).2 Hrx.out
                      have hoy : othW (y1, y2, y3) = othD (y1, y2, y3) := (HFq.out.othW (d := (y1, y2, y3)) Hiy.out.2.2).2 Hry.out
                      have hOx := rother_w x1 x2 x3
                      have hOy := rother_w y1 y2 y3
                      have hrox := HFq.out.oth Hrx.out
                      rw [hox] at hOx
                      rw [hoy] at hOy
                      obtain ⟨rl, hrl⟩ : ∃ z, decide (othD (y1, y2, y3) ∈ faceD Va (othD (x1, x2, x3))) = z := ⟨_, rfl⟩
                      have hRl : rl = true ↔ Rl (phF Va) (othD (x1, x2, x3)) (othD (y1, y2, y3)) := by
                        rw [← hrl, decide_eq_true_iff, faceD_mem HFq.out]
                        exact ⟨fun q => q.2, fun q => ⟨hrox, q⟩⟩
                      have hGM := HGm.out Us A2 B3 c2 k3 rl hUm hRl
                      obtain ⟨tg, gtg⟩ : ∃ z, togF Va (a1, a2) (b1, b2) = z := ⟨_, rfl⟩
                      obtain ⟨t, e1_, e2_, -, -, -⟩ := euler_all HFq.out
                      have hgt := gen_num HFq.out e1_
                      obtain ⟨gg, ggg⟩ : ∃ z, genF Va Ea = z := ⟨_, rfl⟩
                      have hGa := gen7_any (A := Aa) (n := na) (c := ca) (B := Ba) (m := ma) (k := ka) HFq.out HGd.out
                      rw [ggg] at hGa hGM hgt
                      rw [gtg] at hGM
                      have hg0 : 0 ≤ gg ∧ gg ≤ 40 := by have := HFq.out.e40; omega
                      have HGa := Lib.hid hGa
                      have HGn : RowKit.Hid (∀ g2 : Int, gg + (if (!rl && tg) = true then 1 else 0) = g2 → ∀ W, DgIn W A2 na c2 Us B3 (ma + 1) k3 (Ea ++ [eN]) → Calls Try.prog 17 #[.agg #[.slice A2 na c2, .slice B3 (ma + 1) k3]] W fun e w' => e = .returned (.int .i64 g2) ∧ Below W.heap.size W w') := Lib.hid (fun g2 e => e ▸ hGM)
                      have HTg : RowKit.Hid (∀ W, DgIn W Aa na ca Va Ba ma ka Ea → Calls Try.prog 28 #[.agg #[.slice Aa na ca, .slice Ba ma ka], .agg #[.int .i64 a1, .int .i64 a2], .agg #[.int .i64 b1, .int .i64 b2]] W fun e w' => e = .returned (.bool tg) ∧ Below W.heap.size W w') := Lib.hid (fun W h => gtg ▸ rtogether_any Aa na ca Va Ba ma ka Ea a1 a2 b1 b2 W h HFq.out)
                      obtain ⟨⟨o1, o2, o3⟩, gox⟩ : ∃ z, othD (x1, x2, x3) = z := ⟨_, rfl⟩
                      obtain ⟨⟨q1, q2, q3⟩, goy⟩ : ∃ z, othD (y1, y2, y3) = z := ⟨_, rfl⟩
                      rw [gox] at hOx hrl hrox
                      rw [goy] at hOy hrl
                      have HOx := Lib.hid hOx
                      have HOy := Lib.hid hOy
                      replace HOx : RowKit.Hid (∀ W, Calls Try.prog 26 #[.agg #[.int .i64 x1, .int .i64 x2, .int .i64 x3]] W fun e w' => e = .returned (.agg #[.int .i64 o1, .int .i64 o2, .int .i64 o3]) ∧ Below W.heap.size W w') := HOx
                      replace HOy : RowKit.Hid (∀ W, Calls Try.prog 26 #[.agg #[.int .i64 y1, .int .i64 y2, .int .i64 y3]] W fun e w' => e = .returned (.agg #[.int .i64 q1, .int .i64 q2, .int .i64 q3]) ∧ Below W.heap.size W w') := HOy
                      have hfl := faceD_len HFq.out (o1, o2, o3)
                      have ho3 : -9223372036854775808 ≤ o3 ∧ o3 ≤ 9223372036854775807 := by
                        have h1 : 0 ≤ o3 ∧ o3 ≤ 1 := (HFq.out.wfS HGd.out hrox).2
                        omega
                      have HTr : RowKit.Hid (∀ W, DgIn W Aa na ca Va Ba ma ka Ea → Calls Try.prog 25 #[.agg #[.slice Aa na ca, .slice Ba ma ka], .agg #[.int .i64 o1, .int .i64 o2, .int .i64 o3]] W fun e w' => ∃ A' c', e = .returned (.slice A' (faceD Va (o1, o2, o3)).length c') ∧ RdS w' w'.heap.size 3 A' (faceD Va (o1, o2, o3)).length c' (dartsV (faceD Va (o1, o2, o3))) ∧ Below W.heap.size W w') := Lib.hid (fun W h => by
                        refine (rtrace_any Aa na ca Va Ba ma ka Ea o1 o2 o3 W h HFq.out ho3).mono ?_
                        rintro e w' ⟨A', c', rfl, ho, hb⟩
                        exact ⟨A', c', rfl, own_rds ho, hb⟩)
                      obtain ⟨L, gL⟩ : ∃ z, faceD Va (o1, o2, o3) = z := ⟨_, rfl⟩
                      rw [gL] at HTr hfl hrl
                      obtain ⟨ln, gln⟩ : ∃ z, L.length = z := ⟨_, rfl⟩
                      have HIx : RowKit.Hid (∀ (A1 : Option Addr) (c1 : Nat) W, RdS W W.heap.size 3 A1 ln c1 (dartsV L) → Calls Try.prog 27 #[.slice A1 ln c1, .agg #[.int .i64 q1, .int .i64 q2, .int .i64 q3]] W fun e w' => ∃ i : Int, e = .returned (.int .i64 i) ∧ decide (0 ≤ i) = rl ∧ Below W.heap.size W w') := Lib.hid (fun A1 c1 W h1 => by
                        refine (rfindex_any A1 ln c1 L (q1, q2, q3) W h1 (by omega)).mono ?_
                        rintro e w' ⟨rfl, hb⟩
                        refine ⟨_, rfl, ?_, hb⟩
                        rw [← hrl]
                        by_cases q : (q1, q2, q3) ∈ L
                        · rw [(idxD_mem q).1, decide_eq_true q]
                          exact decide_eq_true (by omega)
                        · rw [idxD_no q, decide_eq_false q]
                          rfl)
                      rw [gln] at HTr hfl
                      have HDm := Lib.hid HM.out.dg
                      have HDz := Lib.hid (HDd.out.bl HZ.out)
                      have HXz := Lib.hid (HXd.out.bl HZ.out)
                      have HXu := Lib.hid (HXx.out.bl HZ.out)
                      have HXv := Lib.hid (HXy.out.bl HZ.out)
                      have HXw := Lib.hid (HXp.out.bl HZ.out)
                      have HXt := Lib.hid (HXq.out.bl HZ.out)
                      clear hUs hUm hox hoy hOx hOy hrox hrl hRl gox goy hGM gtg e1_ e2_ hgt ggg hGa ho3 gL gln HU HM HNum HGm t
                      go_upto_region 21 with fail
                      have Da_961 := Lib.hid (HDz.out.dr)
                      have Dm_961 := Lib.hid (HDm.out.dr)
                      have D0_961 := Lib.hid (HXz.out.dr)
                      have X_961 := Lib.hid (HXu.out.dr)
                      have Y_961 := Lib.hid (HXv.out.dr)
                      have P_961 := Lib.hid (HXw.out.dr)
                      have Q_961 := Lib.hid (HXt.out.dr)
                      have M9_961 := Lib.hid (H9.out.dr)
                      have Bel_961 := Lib.hid (bel_dr HZ.out)
                      have ld962 : ∀ w', Kept Nil_ wo.drew w' → w'.cell? ⟨w.heap.size, 0, none⟩ = some (.slice Aa na ca) := fun w' h => h.nil_cell (D0_961.out.cell (i := 0) rfl)
                      have ld963 : ∀ w', Kept Nil_ wo.drew w' → w'.cell? ⟨w.heap.size, 1, none⟩ = some (.slice Ba ma ka) := fun w' h => h.nil_cell (D0_961.out.cell (i := 1) rfl)
                      have ld964 : ∀ w', Kept Nil_ wo.drew w' → w'.cell? ⟨(w.heap.size + 1), 0, none⟩ = some (.int .i64 x1) := fun w' h => h.nil_cell (X_961.out.cell (i := 0) rfl)
                      have ld965 : ∀ w', Kept Nil_ wo.drew w' → w'.cell? ⟨(w.heap.size + 1), 1, none⟩ = some (.int .i64 x2) := fun w' h => h.nil_cell (X_961.out.cell (i := 1) rfl)
                      have ld966 : ∀ w', Kept Nil_ wo.drew w' → w'.cell? ⟨(w.heap.size + 1), 2, none⟩ = some (.int .i64 x3) := fun w' h => h.nil_cell (X_961.out.cell (i := 2) rfl)
                      refine wp_region_reg Nil_ (by kernel_rfl) ?_
                      apply wpR_next 0 (some 139)
                      · simp only [List.getElem?_toArray, List.getElem?_cons_succ, List.getElem?_cons_zero]; exact rfl
                      · rfl
                      · kernel_rfl
                      · kernel_rfl
                      · kernel_rfl
                      · exact fun _ _ _ _ h => h
                      apply Exists.intro
                      apply And.intro
                      · apply yr_run; rfl; intro w' hw'; go_simp; (try with_reducible rfl)
                      simp only [Act.put, List.setIfInBounds_toArray, List.set_cons_zero, List.set_cons_succ]
                      apply wpR_next 1 (some 140)
                      · simp only [List.getElem?_toArray, List.getElem?_cons_succ, List.getElem?_cons_zero]; exact rfl
                      · rfl
                      · kernel_rfl
                      · kernel_rfl
                      · kernel_rfl
                      · exact fun _ _ _ _ h => h
                      apply Exists.intro
                      apply And.intro
                      · apply yr_run; rfl; intro w' hw'; go_simp; (try with_reducible rfl)
                      simp only [Act.put, List.setIfInBounds_toArray, List.set_cons_zero, List.set_cons_succ]
                      apply wpR_call 2 (some 141)
                      · simp only [List.getElem?_toArray, List.getElem?_cons_succ, List.getElem?_cons_zero]; exact rfl
                      · rfl
                      · kernel_rfl
                      · rfl
                      · intro w'; go_simp; first | done | exact ⟨rfl, rfl⟩ | with_reducible rfl
                      intro w' hw'
                      refine (HOx.out _).mono ?_
                      rintro e w967 ⟨rfl, hb967⟩
                      have Da_967 := Lib.hid ((Da_961.out.bl hw').bl hb967)
                      have Dm_967 := Lib.hid ((Dm_961.out.bl hw').bl hb967)
                      have D0_967 := Lib.hid ((D0_961.out.bl hw').bl hb967)
                      have X_967 := Lib.hid ((X_961.out.bl hw').bl hb967)
                      have Y_967 := Lib.hid ((Y_961.out.bl hw').bl hb967)
                      have P_967 := Lib.hid ((P_961.out.bl hw').bl hb967)
                      have Q_967 := Lib.hid ((Q_961.out.bl hw').bl hb967)
                      have M9_967 := Lib.hid ((M9_961.out.bl hw').bl hb967)
                      have Bel_967 := Lib.hid (bel_bl (bel_bl Bel_961.out hw') hb967)
                      have ld968 := fun w'' (h : Kept Nil_ w967 w'') => ld962 w'' ((Kept.of_ext hw').trans ((Kept.of_below hb967).trans h))
                      have ld969 := fun w'' (h : Kept Nil_ w967 w'') => ld963 w'' ((Kept.of_ext hw').trans ((Kept.of_below hb967).trans h))
                      have ld970 := fun w'' (h : Kept Nil_ w967 w'') => ld964 w'' ((Kept.of_ext hw').trans ((Kept.of_below hb967).trans h))
                      have ld971 := fun w'' (h : Kept Nil_ w967 w'') => ld965 w'' ((Kept.of_ext hw').trans ((Kept.of_below hb967).trans h))
                      have ld972 := fun w'' (h : Kept Nil_ w967 w'') => ld966 w'' ((Kept.of_ext hw').trans ((Kept.of_below hb967).trans h))
                      refine ⟨_, rfl, Kept.of_below hb967, ?_⟩
                      clear hw' hb967
                      simp only [Act.put, List.setIfInBounds_toArray, List.set_cons_zero, List.set_cons_succ]
                      apply wpR_call 3 (some 142)
                      · simp only [List.getElem?_toArray, List.getElem?_cons_succ, List.getElem?_cons_zero]; exact rfl
                      · rfl
                      · kernel_rfl
                      · rfl
                      · intro w'; go_simp; first | done | exact ⟨rfl, rfl⟩ | with_reducible rfl
                      intro w' hw'
                      refine (HTr.out _ (Da_967.out.bl hw')).mono ?_
                      rintro e w973 ⟨A5, c5, rfl, hr5, hb973⟩
                      have Da_973 := Lib.hid ((Da_967.out.bl hw').bl hb973)
                      have Dm_973 := Lib.hid ((Dm_967.out.bl hw').bl hb973)
                      have D0_973 := Lib.hid ((D0_967.out.bl hw').bl hb973)
                      have X_973 := Lib.hid ((X_967.out.bl hw').bl hb973)
                      have Y_973 := Lib.hid ((Y_967.out.bl hw').bl hb973)
                      have P_973 := Lib.hid ((P_967.out.bl hw').bl hb973)
                      have Q_973 := Lib.hid ((Q_967.out.bl hw').bl hb973)
                      have M9_973 := Lib.hid ((M9_967.out.bl hw').bl hb973)
                      have Bel_973 := Lib.hid (bel_bl (bel_bl Bel_967.out hw') hb973)
                      have ld974 := fun w'' (h : Kept Nil_ w973 w'') => ld968 w'' ((Kept.of_ext hw').trans ((Kept.of_below hb973).trans h))
                      have ld975 := fun w'' (h : Kept Nil_ w973 w'') => ld969 w'' ((Kept.of_ext hw').trans ((Kept.of_below hb973).trans h))
                      have ld976 := fun w'' (h : Kept Nil_ w973 w'') => ld970 w'' ((Kept.of_ext hw').trans ((Kept.of_below hb973).trans h))
                      have ld977 := fun w'' (h : Kept Nil_ w973 w'') => ld971 w'' ((Kept.of_ext hw').trans ((Kept.of_below hb973).trans h))
                      have ld978 := fun w'' (h : Kept Nil_ w973 w'') => ld972 w'' ((Kept.of_ext hw').trans ((Kept.of_below hb973).trans h))
                      refine ⟨_, rfl, Kept.of_below hb973, ?_⟩
                      clear hw' hb973
                      have R5_973 := Lib.hid hr5
                      clear hr5
                      simp only [Act.put, List.setIfInBounds_toArray, List.set_cons_zero, List.set_cons_succ]
                      apply wpR_next 4 (some 18)
                      · simp only [List.getElem?_toArray, List.getElem?_cons_succ, List.getElem?_cons_zero]; exact rfl
                      · rfl
                      · kernel_rfl
                      · kernel_rfl
                      · kernel_rfl
                      · exact fun _ _ _ _ h => h
                      apply Exists.intro
                      apply And.intro
                      · apply yr_run; rfl; intro w' hw'; go_simp; (try with_reducible rfl)
                      simp only [Act.put, List.setIfInBounds_toArray, List.set_cons_zero, List.set_cons_succ]
                      refine wpR_done (by kernel_rfl) ?_ _
                      intro w979 hw'
                      have Da_980 := Lib.hid (Da_973.out.bl hw')
                      have Dm_980 := Lib.hid (Dm_973.out.bl hw')
                      have D0_980 := Lib.hid (D0_973.out.bl hw')
                      have X_980 := Lib.hid (X_973.out.bl hw')
                      have Y_980 := Lib.hid (Y_973.out.bl hw')
                      have P_980 := Lib.hid (P_973.out.bl hw')
                      have Q_980 := Lib.hid (Q_973.out.bl hw')
                      have M9_980 := Lib.hid (M9_973.out.bl hw')
                      have R5_980 := Lib.hid (R5_973.out.bl hw')
                      have Bel_980 := Lib.hid (bel_bl Bel_973.out hw')
                      clear Da_973 Dm_973 D0_973 X_973 Y_973 P_973 Q_973 M9_973 R5_973 Bel_973
                      clear hw'
                      clear cb
                      have lw981 : (w979).cell? ⟨(w.heap.size + 1 + 1), 0, none⟩ = some (.int .i64 y1) := Y_980.out.cell (i := 0) rfl
                      have lw982 : (w979).cell? ⟨(w.heap.size + 1 + 1), 1, none⟩ = some (.int .i64 y2) := Y_980.out.cell (i := 1) rfl
                      have lw983 : (w979).cell? ⟨(w.heap.size + 1 + 1), 2, none⟩ = some (.int .i64 y3) := Y_980.out.cell (i := 2) rfl
                      go_wp2_with fail
                      clear lw981 lw982 lw983
                      refine (HOy.out _).mono ?_
                      rintro e w984 ⟨rfl, hb984⟩
                      have Da_985 := Lib.hid (Da_980.out.bl hb984)
                      have Dm_985 := Lib.hid (Dm_980.out.bl hb984)
                      have D0_985 := Lib.hid (D0_980.out.bl hb984)
                      have X_985 := Lib.hid (X_980.out.bl hb984)
                      have Y_985 := Lib.hid (Y_980.out.bl hb984)
                      have P_985 := Lib.hid (P_980.out.bl hb984)
                      have Q_985 := Lib.hid (Q_980.out.bl hb984)
                      have M9_985 := Lib.hid (M9_980.out.bl hb984)
                      have R5_985 := Lib.hid (R5_980.out.bl hb984)
                      have Bel_985 := Lib.hid (bel_bl Bel_980.out hb984)
                      clear Da_980 Dm_980 D0_980 X_980 Y_980 P_980 Q_980 M9_980 R5_980 Bel_980
                      clear hb984
                      go_wp2_with fail
                      refine (HIx.out _ _ _ R5_985.out).mono ?_
                      rintro e w986 ⟨ix, rfl, hix, hb986⟩
                      have Hix0 := Lib.hid hix
                      clear hix
                      have Da_987 := Lib.hid (Da_985.out.bl hb986)
                      have Dm_987 := Lib.hid (Dm_985.out.bl hb986)
                      have D0_987 := Lib.hid (D0_985.out.bl hb986)
                      have X_987 := Lib.hid (X_985.out.bl hb986)
                      have Y_987 := Lib.hid (Y_985.out.bl hb986)
                      have P_987 := Lib.hid (P_985.out.bl hb986)
                      have Q_987 := Lib.hid (Q_985.out.bl hb986)
                      have M9_987 := Lib.hid (M9_985.out.bl hb986)
                      have R5_987 := Lib.hid (R5_985.out.bl hb986)
                      have Bel_987 := Lib.hid (bel_bl Bel_985.out hb986)
                      clear Da_985 Dm_985 D0_985 X_985 Y_985 P_985 Q_985 M9_985 R5_985 Bel_985
                      clear hb986
                      have hix0 := Hix0.out
                      have hixn : decide (0 ≤ ix) = rl := Hix0.out
                      have lw988 : (w986).cell? ⟨w.heap.size, 0, none⟩ = some (.slice Aa na ca) := D0_987.out.cell (i := 0) rfl
                      have lw989 : (w986).cell? ⟨w.heap.size, 1, none⟩ = some (.slice Ba ma ka) := D0_987.out.cell (i := 1) rfl
                      have lw990 : (w986).cell? ⟨bP, 0, none⟩ = some (.int .i64 a1) := P_987.out.cell (i := 0) rfl
                      have lw991 : (w986).cell? ⟨bP, 1, none⟩ = some (.int .i64 a2) := P_987.out.cell (i := 1) rfl
                      have lw992 : (w986).cell? ⟨bQ, 0, none⟩ = some (.int .i64 b1) := Q_987.out.cell (i := 0) rfl
                      have lw993 : (w986).cell? ⟨bQ, 1, none⟩ = some (.int .i64 b2) := Q_987.out.cell (i := 1) rfl
                      go_wp2_with fail
                      clear lw988 lw989 lw990 lw991 lw992 lw993
                      refine (HTg.out _ Da_987.out).mono ?_
                      rintro e w994 ⟨rfl, hb994⟩
                      have Da_995 := Lib.hid (Da_987.out.bl hb994)
                      have Dm_995 := Lib.hid (Dm_987.out.bl hb994)
                      have D0_995 := Lib.hid (D0_987.out.bl hb994)
                      have X_995 := Lib.hid (X_987.out.bl hb994)
                      have Y_995 := Lib.hid (Y_987.out.bl hb994)
                      have P_995 := Lib.hid (P_987.out.bl hb994)
                      have Q_995 := Lib.hid (Q_987.out.bl hb994)
                      have M9_995 := Lib.hid (M9_987.out.bl hb994)
                      have R5_995 := Lib.hid (R5_987.out.bl hb994)
                      have Bel_995 := Lib.hid (bel_bl Bel_987.out hb994)
                      clear Da_987 Dm_987 D0_987 X_987 Y_987 P_987 Q_987 M9_987 R5_987 Bel_987
                      clear hb994
                      clear hix0 hixn
                      have lw996 : (w994).cell? ⟨w.heap.size, 0, none⟩ = some (.slice Aa na ca) := D0_995.out.cell (i := 0) rfl
                      have lw997 : (w994).cell? ⟨w.heap.size, 1, none⟩ = some (.slice Ba ma ka) := D0_995.out.cell (i := 1) rfl
                      go_wp2_with fail
                      clear lw996 lw997
                      refine (HGa.out _ Da_995.out).mono ?_
                      rintro e w998 ⟨rfl, hb998⟩
                      have Da_999 := Lib.hid (Da_995.out.bl hb998)
                      have Dm_999 := Lib.hid (Dm_995.out.bl hb998)
                      have D0_999 := Lib.hid (D0_995.out.bl hb998)
                      have X_999 := Lib.hid (X_995.out.bl hb998)
                      have Y_999 := Lib.hid (Y_995.out.bl hb998)
                      have P_999 := Lib.hid (P_995.out.bl hb998)
                      have Q_999 := Lib.hid (Q_995.out.bl hb998)
                      have M9_999 := Lib.hid (M9_995.out.bl hb998)
                      have R5_999 := Lib.hid (R5_995.out.bl hb998)
                      have Bel_999 := Lib.hid (bel_bl Bel_995.out hb998)
                      clear Da_995 Dm_995 D0_995 X_995 Y_995 P_995 Q_995 M9_995 R5_995 Bel_995
                      clear hb998
                      cases rl with
                      | true =>
                        have HGz := Lib.hid (HGn.out gg (by simp))
                        have hcc : (gg == gg) = true := by simp
                        clear HGn
                        have lw1000 : (w998).cell? ⟨b9, 0, none⟩ = some (.slice A2 na c2) := M9_999.out.cell (i := 0) rfl
                        have lw1001 : (w998).cell? ⟨b9, 1, none⟩ = some (.slice B3 (ma + 1) k3) := M9_999.out.cell (i := 1) rfl
                        go_wp2_with fail
                        clear lw1000 lw1001
                        refine (HGz.out _ Dm_999.out).mono ?_
                        rintro e w1002 ⟨rfl, hb1002⟩
                        have Da_1003 := Lib.hid (Da_999.out.bl hb1002)
                        have Dm_1003 := Lib.hid (Dm_999.out.bl hb1002)
                        have D0_1003 := Lib.hid (D0_999.out.bl hb1002)
                        have X_1003 := Lib.hid (X_999.out.bl hb1002)
                        have Y_1003 := Lib.hid (Y_999.out.bl hb1002)
                        have P_1003 := Lib.hid (P_999.out.bl hb1002)
                        have Q_1003 := Lib.hid (Q_999.out.bl hb1002)
                        have M9_1003 := Lib.hid (M9_999.out.bl hb1002)
                        have R5_1003 := Lib.hid (R5_999.out.bl hb1002)
                        have Bel_1003 := Lib.hid (bel_bl Bel_999.out hb1002)
                        clear Da_999 Dm_999 D0_999 X_999 Y_999 P_999 Q_999 M9_999 R5_999 Bel_999
                        clear hb1002
                        go_wp2
                        go_ret
                        exact ⟨by first | rfl | simp, HBd.out.trans (Bel_1003.out.mono HBd.out.size)⟩
                      | false =>
                        cases tg with
                        | true =>
                          obtain ⟨g3, gg3⟩ : ∃ z, gg + 1 = z := ⟨_, rfl⟩
                          have hwr : IntKind.i64.wrap (gg + 1) = g3 := (IntWalk.i64_in _ (by omega)).trans gg3
                          have HGz := Lib.hid (HGn.out g3 (by rw [← gg3]; rfl))
                          have hcc : (g3 == g3) = true := by simp
                          clear gg3 HGn
                          have lw1000 : (w998).cell? ⟨b9, 0, none⟩ = some (.slice A2 na c2) := M9_999.out.cell (i := 0) rfl
                          have lw1001 : (w998).cell? ⟨b9, 1, none⟩ = some (.slice B3 (ma + 1) k3) := M9_999.out.cell (i := 1) rfl
                          go_wp2_with fail
                          clear lw1000 lw1001
                          refine (HGz.out _ Dm_999.out).mono ?_
                          rintro e w1002 ⟨rfl, hb1002⟩
                          have Da_1003 := Lib.hid (Da_999.out.bl hb1002)
                          have Dm_1003 := Lib.hid (Dm_999.out.bl hb1002)
                          have D0_1003 := Lib.hid (D0_999.out.bl hb1002)
                          have X_1003 := Lib.hid (X_999.out.bl hb1002)
                          have Y_1003 := Lib.hid (Y_999.out.bl hb1002)
                          have P_1003 := Lib.hid (P_999.out.bl hb1002)
                          have Q_1003 := Lib.hid (Q_999.out.bl hb1002)
                          have M9_1003 := Lib.hid (M9_999.out.bl hb1002)
                          have R5_1003 := Lib.hid (R5_999.out.bl hb1002)
                          have Bel_1003 := Lib.hid (bel_bl Bel_999.out hb1002)
                          clear Da_999 Dm_999 D0_999 X_999 Y_999 P_999 Q_999 M9_999 R5_999 Bel_999
                          clear hb1002
                          go_wp2
                          go_ret
                          exact ⟨by first | rfl | simp, HBd.out.trans (Bel_1003.out.mono HBd.out.size)⟩
                        | false =>
                          have HGz := Lib.hid (HGn.out gg (by simp))
                          have hcc : (gg == gg) = true := by simp
                          clear HGn
                          have lw1000 : (w998).cell? ⟨b9, 0, none⟩ = some (.slice A2 na c2) := M9_999.out.cell (i := 0) rfl
                          have lw1001 : (w998).cell? ⟨b9, 1, none⟩ = some (.slice B3 (ma + 1) k3) := M9_999.out.cell (i := 1) rfl
                          go_wp2_with fail
                          clear lw1000 lw1001
                          refine (HGz.out _ Dm_999.out).mono ?_
                          rintro e w1002 ⟨rfl, hb1002⟩
                          have Da_1003 := Lib.hid (Da_999.out.bl hb1002)
                          have Dm_1003 := Lib.hid (Dm_999.out.bl hb1002)
                          have D0_1003 := Lib.hid (D0_999.out.bl hb1002)
                          have X_1003 := Lib.hid (X_999.out.bl hb1002)
                          have Y_1003 := Lib.hid (Y_999.out.bl hb1002)
                          have P_1003 := Lib.hid (P_999.out.bl hb1002)
                          have Q_1003 := Lib.hid (Q_999.out.bl hb1002)
                          have M9_1003 := Lib.hid (M9_999.out.bl hb1002)
                          have R5_1003 := Lib.hid (R5_999.out.bl hb1002)
                          have Bel_1003 := Lib.hid (bel_bl Bel_999.out hb1002)
                          clear Da_999 Dm_999 D0_999 X_999 Y_999 P_999 Q_999 M9_999 R5_999 Bel_999
                          clear hb1002
                          go_wp2
                          go_ret
                          exact ⟨by first | rfl | simp, HBd.out.trans (Bel_1003.out.mono HBd.out.size)⟩
  · have hfn : (fo != 0) = true := by simp [hfo]
    go_wp2
    go_ret
    exact ⟨rfl, Bel_36.out⟩
end Go.Proofs.Ytpindjknngcccaa
