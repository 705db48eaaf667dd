/- FaceSteps' walk. -/
import Derived.Test.YtjkbcpikdkidhaaFc17
namespace Go.Proofs.Ytjkbcpikdkidhaa
open Go.RowKit
set_option linter.unusedSimpArgs false
set_option linter.unusedVariables false

set_option maxRecDepth 100000 in
set_option maxHeartbeats 4000000 in
theorem law_steps (A : Option Addr) (n c : Nat) (Vs : List VC) (B : Option Addr) (m k : Nat) (Es : List EC) (x1 x2 x3 : Int) (hx : In64 x1 ∧ In64 x2 ∧ In64 x3) (w : World) (h : DgIn w A n c Vs B m k Es) (hg : GoodD Vs Es) (hz : SmD n m Vs) :
    Calls Try.prog 3 #[.agg #[.slice A n c, .slice B m k], .agg #[.int .i64 x1, .int .i64 x2, .int .i64 x3]] w fun e w' => e = .returned (.bool true) ∧ Below w.heap.size w w' := by
  have HFo := Lib.hid (fun W (h : DgIn W A n c Vs B m k Es) => formed05_any A n c Vs B m k Es W h hg hz)
  obtain ⟨fo, gfo⟩ : ∃ z, (formD Vs Es == 0) = z := ⟨_, rfl⟩
  rw [gfo] at HFo
  have Gfo := Lib.hid gfo
  have HDa := Lib.hid h
  have HGd := Lib.hid hg
  have Hz := Lib.hid hz
  clear h hg hz gfo
  go_enter Try.func3, Try.ntmps3
  go_wp2_with fail
  refine (shown05_any _).mono ?_
  rintro e w1 ⟨rfl, hb1⟩
  have Da_2 := Lib.hid (((HDa.out.al (.cells #[.slice A n c, .slice B m k] 25)).al (.cells #[.int .i64 x1, .int .i64 x2, .int .i64 x3] 29)).bl hb1)
  have D0_2 := Lib.hid (((show Whole (w.alloc (.cells #[.slice A n c, .slice B m k] 25)) (w.heap.size) (25) ([.slice A n c, .slice B m k]) from Whole.new2 (by first | rfl | simp)).al (.cells #[.int .i64 x1, .int .i64 x2, .int .i64 x3] 29)).bl hb1)
  have X_2 := Lib.hid ((show Whole ((w.alloc (.cells #[.slice A n c, .slice B m k] 25)).alloc (.cells #[.int .i64 x1, .int .i64 x2, .int .i64 x3] 29)) ((w.heap.size + 1)) (29) ([.int .i64 x1, .int .i64 x2, .int .i64 x3]) from Whole.new2 (by first | rfl | simp)).bl hb1)
  have Bel_2 := Lib.hid (bel_bl (bel_al (bel_al (Below.refl _ w) (.cells #[.slice A n c, .slice B m k] 25)) (.cells #[.int .i64 x1, .int .i64 x2, .int .i64 x3] 29)) hb1)
  clear HDa
  clear hb1
  have LO_D0_3 : RowKit.Hid (w.heap.size ≤ w.heap.size) := Lib.hid (by omega)
  have LO_X_4 : RowKit.Hid (w.heap.size ≤ (w.heap.size + 1)) := Lib.hid (by omega)
  have NE_D0_X : RowKit.Hid (w.heap.size ≠ (w.heap.size + 1)) := Lib.hid (by omega)
  have lw5 : (w1).cell? ⟨w.heap.size, 0, none⟩ = some (.slice A n c) := D0_2.out.cell (i := 0) rfl
  have lw6 : (w1).cell? ⟨w.heap.size, 1, none⟩ = some (.slice B m k) := D0_2.out.cell (i := 1) rfl
  go_wp2_with fail
  clear lw5 lw6
  refine (HFo.out _ Da_2.out).mono ?_
  rintro e w7 ⟨rfl, hb7⟩
  have Da_8 := Lib.hid (Da_2.out.bl hb7)
  have D0_8 := Lib.hid (D0_2.out.bl hb7)
  have X_8 := Lib.hid (X_2.out.bl hb7)
  have Bel_8 := Lib.hid (bel_bl Bel_2.out hb7)
  clear Da_2 D0_2 X_2 Bel_2
  clear hb7
  by_cases hfo : fo = false
  · subst hfo
    go_wp2
    go_ret
    exact ⟨rfl, Bel_8.out⟩
  obtain rfl : fo = true := by simpa using hfo
  have HFm : RowKit.Hid (Formed Vs Es) := Lib.hid ((form0 Vs Es).1 (eq_of_beq Gfo.out))
  have Hsm := Lib.hid (HFm.out.small Da_8.out)
  have Hlv : RowKit.Hid (Vs.length = n) := Lib.hid (Da_8.out.v.rlen vC_len (by decide))
  have Hlw : RowKit.Hid (Es.length = m) := Lib.hid (Da_8.out.e.rlen eC_len (by decide))
  have hn24 : n ≤ 24 := Hsm.out.1
  have hm40 : m ≤ 40 := Hsm.out.2.1
  have HWd : RowKit.Hid (∀ v ∈ Vs, ∀ d ∈ v.2.1.2.2.2, wfD d) := Lib.hid HGd.out.v
  have Hr0 : RowKit.Hid (∀ x ∈ Vs, x.2.1.2.1 ≤ 1000000) := Lib.hid (fun x hx => by have := Hsm.out.2.2 x hx; omega)
  clear hfo HFo Gfo
  obtain ⟨ok, gok⟩ : ∃ z, decide ((x1, x2, x3) ∈ ringsOf Vs) = z := ⟨_, rfl⟩
  obtain ⟨⟨s1, s2, s3⟩, gs⟩ : ∃ z, sgF Vs (x1, x2, x3) = z := ⟨_, rfl⟩
  obtain ⟨⟨p1, p2, p3⟩, gp⟩ : ∃ z, (if (x1, x2, x3) ∈ ringsOf Vs then phF Vs (x1, x2, x3) else (0, 0, 0)) = z := ⟨_, rfl⟩
  have HSa : RowKit.Hid (∀ W, DgIn W A n c Vs B m k Es → Calls Try.prog 16 #[.agg #[.slice A n c, .slice B m k], .agg #[.int .i64 x1, .int .i64 x2, .int .i64 x3]] W (GivesD W (s1, s2, s3) ok)) := Lib.hid (fun W h => by
    have h1 := sigma_any A n c Vs B m k Es x1 x2 x3 W h HFm.out
    rw [gs, gok] at h1
    exact h1)
  have HSb : RowKit.Hid (∀ W, DgIn W A n c Vs B m k Es → Calls Try.prog 17 #[.agg #[.slice A n c, .slice B m k], .agg #[.int .i64 x1, .int .i64 x2, .int .i64 x3]] W (GivesD W (s1, s2, s3) ok)) := Lib.hid (fun W h => by
    have h1 := rsigma_any A n c Vs B m k Es x1 x2 x3 W h HFm.out
    rw [gs, gok] at h1
    exact h1)
  have HPa : RowKit.Hid (∀ W, DgIn W A n c Vs B m k Es → Calls Try.prog 18 #[.agg #[.slice A n c, .slice B m k], .agg #[.int .i64 x1, .int .i64 x2, .int .i64 x3]] W (GivesD W (p1, p2, p3) ok)) := Lib.hid (fun W h => by
    have h1 := phi_any A n c Vs B m k Es x1 x2 x3 W h HFm.out hx.2.2
    rw [gp, gok] at h1
    exact h1)
  have HPb : RowKit.Hid (∀ W, DgIn W A n c Vs B m k Es → Calls Try.prog 19 #[.agg #[.slice A n c, .slice B m k], .agg #[.int .i64 x1, .int .i64 x2, .int .i64 x3]] W (GivesD W (p1, p2, p3) ok)) := Lib.hid (fun W h => by
    have h1 := rphi_any A n c Vs B m k Es x1 x2 x3 W h HFm.out hx.2.2
    rw [gp, gok] at h1
    exact h1)
  have HDa5 : RowKit.Hid (∀ W, DgIn W A n c Vs B m k Es → Calls Try.prog 21 #[.agg #[.slice A n c, .slice B m k]] W fun e w' => ∃ A' c', e = .returned (.slice A' (dsE Es).length c') ∧ RdS w' w'.heap.size 3 A' (dsE Es).length c' (dartsV (dsE Es)) ∧ Below W.heap.size W w') := Lib.hid (fun W h => by
    refine (darts5_any A n c Vs B m k Es W h HFm.out HGd.out).mono ?_
    rintro e w' ⟨A', c', rfl, ho, hb⟩
    exact ⟨A', c', rfl, own_rds ho, hb⟩)
  have HDb5 : RowKit.Hid (∀ W, DgIn W A n c Vs B m k Es → Calls Try.prog 22 #[.agg #[.slice A n c, .slice B m k]] W fun e w' => ∃ A' c', e = .returned (.slice A' (dsE Es).length c') ∧ RdS w' w'.heap.size 3 A' (dsE Es).length c' (dartsV (dsE Es)) ∧ Below W.heap.size W w') := Lib.hid (fun W h => by
    have h1 := rdarts5_any A n c Vs B m k Es W h (by omega)
    rw [show 2 * m = (dsE Es).length by rw [dsE_len, Hlw.out]] at h1
    refine h1.mono ?_
    rintro e w' ⟨A', c', rfl, ho, hb⟩
    exact ⟨A', c', rfl, own_rds ho, hb⟩)
  have hdl : (dsE Es).length ≤ 80 := by rw [dsE_len, Hlw.out]; omega
  obtain ⟨L, gL⟩ : ∃ z, dsE Es = z := ⟨_, rfl⟩
  rw [gL] at HDa5 HDb5 hdl
  obtain ⟨ln, gln⟩ : ∃ z, L.length = z := ⟨_, rfl⟩
  have HDr : RowKit.Hid (∀ (A1 A2 : Option Addr) (c1 c2 : Nat) W, RdS W W.heap.size 3 A1 ln c1 (dartsV L) → RdS W W.heap.size 3 A2 ln c2 (dartsV L) → Calls Try.prog 20 #[.slice A1 ln c1, .slice A2 ln c2] W fun e w' => e = .returned (.bool true) ∧ Below W.heap.size W w') := Lib.hid (fun A1 A2 c1 c2 W h1 h2 => by
    have h3 := rdarts_any A1 A2 ln ln c1 c2 L L W h1 h2 (by omega)
    simpa using h3)
  rw [gln] at HDa5 HDb5
  clear gok gs gp gL gln hdl
  have lw9 : (w7).cell? ⟨w.heap.size, 0, none⟩ = some (.slice A n c) := D0_8.out.cell (i := 0) rfl
  have lw10 : (w7).cell? ⟨w.heap.size, 1, none⟩ = some (.slice B m k) := D0_8.out.cell (i := 1) rfl
  have lw11 : (w7).cell? ⟨(w.heap.size + 1), 0, none⟩ = some (.int .i64 x1) := X_8.out.cell (i := 0) rfl
  have lw12 : (w7).cell? ⟨(w.heap.size + 1), 1, none⟩ = some (.int .i64 x2) := X_8.out.cell (i := 1) rfl
  have lw13 : (w7).cell? ⟨(w.heap.size + 1), 2, none⟩ = some (.int .i64 x3) := X_8.out.cell (i := 2) rfl
  go_wp2_with fail
  clear lw9 lw10 lw11 lw12 lw13
  refine (HSa.out _ Da_8.out).mono ?_
  rintro e w14 ⟨rfl, hb14⟩
  have Da_15 := Lib.hid (Da_8.out.bl hb14)
  have D0_15 := Lib.hid (D0_8.out.bl hb14)
  have X_15 := Lib.hid (X_8.out.bl hb14)
  have Bel_15 := Lib.hid (bel_bl Bel_8.out hb14)
  clear Da_8 D0_8 X_8 Bel_8
  clear hb14
  have lw16 : ((w14.alloc (.cells #[.int .i64 s1, .int .i64 s2, .int .i64 s3] 29))).cell? ⟨w.heap.size, 0, none⟩ = some (.slice A n c) := (D0_15.out.al (.cells #[.int .i64 s1, .int .i64 s2, .int .i64 s3] 29)).cell (i := 0) rfl
  have lw17 : ((w14.alloc (.cells #[.int .i64 s1, .int .i64 s2, .int .i64 s3] 29))).cell? ⟨w.heap.size, 1, none⟩ = some (.slice B m k) := (D0_15.out.al (.cells #[.int .i64 s1, .int .i64 s2, .int .i64 s3] 29)).cell (i := 1) rfl
  have lw18 : ((w14.alloc (.cells #[.int .i64 s1, .int .i64 s2, .int .i64 s3] 29))).cell? ⟨(w.heap.size + 1), 0, none⟩ = some (.int .i64 x1) := (X_15.out.al (.cells #[.int .i64 s1, .int .i64 s2, .int .i64 s3] 29)).cell (i := 0) rfl
  have lw19 : ((w14.alloc (.cells #[.int .i64 s1, .int .i64 s2, .int .i64 s3] 29))).cell? ⟨(w.heap.size + 1), 1, none⟩ = some (.int .i64 x2) := (X_15.out.al (.cells #[.int .i64 s1, .int .i64 s2, .int .i64 s3] 29)).cell (i := 1) rfl
  have lw20 : ((w14.alloc (.cells #[.int .i64 s1, .int .i64 s2, .int .i64 s3] 29))).cell? ⟨(w.heap.size + 1), 2, none⟩ = some (.int .i64 x3) := (X_15.out.al (.cells #[.int .i64 s1, .int .i64 s2, .int .i64 s3] 29)).cell (i := 2) rfl
  go_wp2_with fail
  clear lw16 lw17 lw18 lw19 lw20
  refine (HSb.out _ (Da_15.out.al (.cells #[.int .i64 s1, .int .i64 s2, .int .i64 s3] 29))).mono ?_
  rintro e w21 ⟨rfl, hb21⟩
  have Da_22 := Lib.hid ((Da_15.out.al (.cells #[.int .i64 s1, .int .i64 s2, .int .i64 s3] 29)).bl hb21)
  have D0_22 := Lib.hid ((D0_15.out.al (.cells #[.int .i64 s1, .int .i64 s2, .int .i64 s3] 29)).bl hb21)
  have X_22 := Lib.hid ((X_15.out.al (.cells #[.int .i64 s1, .int .i64 s2, .int .i64 s3] 29)).bl hb21)
  have Sa_22 := Lib.hid ((show Whole (w14.alloc (.cells #[.int .i64 s1, .int .i64 s2, .int .i64 s3] 29)) (w14.heap.size) (29) ([.int .i64 s1, .int .i64 s2, .int .i64 s3]) from Whole.new2 (by first | rfl | simp)).bl hb21)
  have Bel_22 := Lib.hid (bel_bl (bel_al Bel_15.out (.cells #[.int .i64 s1, .int .i64 s2, .int .i64 s3] 29)) hb21)
  clear Da_15 D0_15 X_15 Bel_15
  clear hb21
  have lw23 : ((w21.alloc (.cells #[.int .i64 s1, .int .i64 s2, .int .i64 s3] 29))).cell? ⟨w.heap.size, 0, none⟩ = some (.slice A n c) := (D0_22.out.al (.cells #[.int .i64 s1, .int .i64 s2, .int .i64 s3] 29)).cell (i := 0) rfl
  have lw24 : ((w21.alloc (.cells #[.int .i64 s1, .int .i64 s2, .int .i64 s3] 29))).cell? ⟨w.heap.size, 1, none⟩ = some (.slice B m k) := (D0_22.out.al (.cells #[.int .i64 s1, .int .i64 s2, .int .i64 s3] 29)).cell (i := 1) rfl
  have lw25 : ((w21.alloc (.cells #[.int .i64 s1, .int .i64 s2, .int .i64 s3] 29))).cell? ⟨(w.heap.size + 1), 0, none⟩ = some (.int .i64 x1) := (X_22.out.al (.cells #[.int .i64 s1, .int .i64 s2, .int .i64 s3] 29)).cell (i := 0) rfl
  have lw26 : ((w21.alloc (.cells #[.int .i64 s1, .int .i64 s2, .int .i64 s3] 29))).cell? ⟨(w.heap.size + 1), 1, none⟩ = some (.int .i64 x2) := (X_22.out.al (.cells #[.int .i64 s1, .int .i64 s2, .int .i64 s3] 29)).cell (i := 1) rfl
  have lw27 : ((w21.alloc (.cells #[.int .i64 s1, .int .i64 s2, .int .i64 s3] 29))).cell? ⟨(w.heap.size + 1), 2, none⟩ = some (.int .i64 x3) := (X_22.out.al (.cells #[.int .i64 s1, .int .i64 s2, .int .i64 s3] 29)).cell (i := 2) rfl
  go_wp2_with fail
  clear lw23 lw24 lw25 lw26 lw27
  refine (HPa.out _ (Da_22.out.al (.cells #[.int .i64 s1, .int .i64 s2, .int .i64 s3] 29))).mono ?_
  rintro e w28 ⟨rfl, hb28⟩
  have Da_29 := Lib.hid ((Da_22.out.al (.cells #[.int .i64 s1, .int .i64 s2, .int .i64 s3] 29)).bl hb28)
  have D0_29 := Lib.hid ((D0_22.out.al (.cells #[.int .i64 s1, .int .i64 s2, .int .i64 s3] 29)).bl hb28)
  have X_29 := Lib.hid ((X_22.out.al (.cells #[.int .i64 s1, .int .i64 s2, .int .i64 s3] 29)).bl hb28)
  have Sa_29 := Lib.hid ((Sa_22.out.al (.cells #[.int .i64 s1, .int .i64 s2, .int .i64 s3] 29)).bl hb28)
  have Sb_29 := Lib.hid ((show Whole (w21.alloc (.cells #[.int .i64 s1, .int .i64 s2, .int .i64 s3] 29)) (w21.heap.size) (29) ([.int .i64 s1, .int .i64 s2, .int .i64 s3]) from Whole.new2 (by first | rfl | simp)).bl hb28)
  have Bel_29 := Lib.hid (bel_bl (bel_al Bel_22.out (.cells #[.int .i64 s1, .int .i64 s2, .int .i64 s3] 29)) hb28)
  clear Da_22 D0_22 X_22 Sa_22 Bel_22
  clear hb28
  have lw30 : ((w28.alloc (.cells #[.int .i64 p1, .int .i64 p2, .int .i64 p3] 29))).cell? ⟨w.heap.size, 0, none⟩ = some (.slice A n c) := (D0_29.out.al (.cells #[.int .i64 p1, .int .i64 p2, .int .i64 p3] 29)).cell (i := 0) rfl
  have lw31 : ((w28.alloc (.cells #[.int .i64 p1, .int .i64 p2, .int .i64 p3] 29))).cell? ⟨w.heap.size, 1, none⟩ = some (.slice B m k) := (D0_29.out.al (.cells #[.int .i64 p1, .int .i64 p2, .int .i64 p3] 29)).cell (i := 1) rfl
  have lw32 : ((w28.alloc (.cells #[.int .i64 p1, .int .i64 p2, .int .i64 p3] 29))).cell? ⟨(w.heap.size + 1), 0, none⟩ = some (.int .i64 x1) := (X_29.out.al (.cells #[.int .i64 p1, .int .i64 p2, .int .i64 p3] 29)).cell (i := 0) rfl
  have lw33 : ((w28.alloc (.cells #[.int .i64 p1, .int .i64 p2, .int .i64 p3] 29))).cell? ⟨(w.heap.size + 1), 1, none⟩ = some (.int .i64 x2) := (X_29.out.al (.cells #[.int .i64 p1, .int .i64 p2, .int .i64 p3] 29)).cell (i := 1) rfl
  have lw34 : ((w28.alloc (.cells #[.int .i64 p1, .int .i64 p2, .int .i64 p3] 29))).cell? ⟨(w.heap.size + 1), 2, none⟩ = some (.int .i64 x3) := (X_29.out.al (.cells #[.int .i64 p1, .int .i64 p2, .int .i64 p3] 29)).cell (i := 2) rfl
  go_wp2_with fail
  clear lw30 lw31 lw32 lw33 lw34
  refine (HPb.out _ (Da_29.out.al (.cells #[.int .i64 p1, .int .i64 p2, .int .i64 p3] 29))).mono ?_
  rintro e w35 ⟨rfl, hb35⟩
  have Da_36 := Lib.hid ((Da_29.out.al (.cells #[.int .i64 p1, .int .i64 p2, .int .i64 p3] 29)).bl hb35)
  have D0_36 := Lib.hid ((D0_29.out.al (.cells #[.int .i64 p1, .int .i64 p2, .int .i64 p3] 29)).bl hb35)
  have X_36 := Lib.hid ((X_29.out.al (.cells #[.int .i64 p1, .int .i64 p2, .int .i64 p3] 29)).bl hb35)
  have Sa_36 := Lib.hid ((Sa_29.out.al (.cells #[.int .i64 p1, .int .i64 p2, .int .i64 p3] 29)).bl hb35)
  have Sb_36 := Lib.hid ((Sb_29.out.al (.cells #[.int .i64 p1, .int .i64 p2, .int .i64 p3] 29)).bl hb35)
  have Pa_36 := Lib.hid ((show Whole (w28.alloc (.cells #[.int .i64 p1, .int .i64 p2, .int .i64 p3] 29)) (w28.heap.size) (29) ([.int .i64 p1, .int .i64 p2, .int .i64 p3]) from Whole.new2 (by first | rfl | simp)).bl hb35)
  have Bel_36 := Lib.hid (bel_bl (bel_al Bel_29.out (.cells #[.int .i64 p1, .int .i64 p2, .int .i64 p3] 29)) hb35)
  clear Da_29 D0_29 X_29 Sa_29 Sb_29 Bel_29
  clear hb35
  go_upto_region 9 with fail
  have Da_37 := Lib.hid ((Da_36.out.al (.cells #[.int .i64 p1, .int .i64 p2, .int .i64 p3] 29)))
  have D0_37 := Lib.hid ((D0_36.out.al (.cells #[.int .i64 p1, .int .i64 p2, .int .i64 p3] 29)))
  have X_37 := Lib.hid ((X_36.out.al (.cells #[.int .i64 p1, .int .i64 p2, .int .i64 p3] 29)))
  have Sa_37 := Lib.hid ((Sa_36.out.al (.cells #[.int .i64 p1, .int .i64 p2, .int .i64 p3] 29)))
  have Sb_37 := Lib.hid ((Sb_36.out.al (.cells #[.int .i64 p1, .int .i64 p2, .int .i64 p3] 29)))
  have Pa_37 := Lib.hid ((Pa_36.out.al (.cells #[.int .i64 p1, .int .i64 p2, .int .i64 p3] 29)))
  have Pb_37 := Lib.hid ((show Whole (w35.alloc (.cells #[.int .i64 p1, .int .i64 p2, .int .i64 p3] 29)) (w35.heap.size) (29) ([.int .i64 p1, .int .i64 p2, .int .i64 p3]) from Whole.new2 (by first | rfl | simp)))
  have Bel_37 := Lib.hid (bel_al Bel_36.out (.cells #[.int .i64 p1, .int .i64 p2, .int .i64 p3] 29))
  obtain ⟨v37, gv37⟩ : ∃ x, (w35.alloc (.cells #[.int .i64 p1, .int .i64 p2, .int .i64 p3] 29)) = x := ⟨_, rfl⟩
  rw [gv37] at Da_37 D0_37 X_37 Sa_37 Sb_37 Pa_37 Pb_37 Bel_37 ⊢
  clear gv37
  clear Da_36 D0_36 X_36 Sa_36 Sb_36 Pa_36 Bel_36
  have Da_38 := Lib.hid (Da_37.out.dr)
  have D0_38 := Lib.hid (D0_37.out.dr)
  have X_38 := Lib.hid (X_37.out.dr)
  have Sa_38 := Lib.hid (Sa_37.out.dr)
  have Sb_38 := Lib.hid (Sb_37.out.dr)
  have Pa_38 := Lib.hid (Pa_37.out.dr)
  have Pb_38 := Lib.hid (Pb_37.out.dr)
  have Bel_38 := Lib.hid (bel_dr Bel_37.out)
  have ld39 : ∀ w', Kept Nil_ v37.drew w' → w'.cell? ⟨w.heap.size, 0, none⟩ = some (.slice A n c) := fun w' h => h.nil_cell (D0_38.out.cell (i := 0) rfl)
  have ld40 : ∀ w', Kept Nil_ v37.drew w' → w'.cell? ⟨w.heap.size, 1, none⟩ = some (.slice B m k) := fun w' h => h.nil_cell (D0_38.out.cell (i := 1) rfl)
  refine wp_region_reg Nil_ (by kernel_rfl) ?_
  apply wpR_next 0 (some 46)
  · simp only [List.getElem?_toArray, List.getElem?_cons_succ, List.getElem?_cons_zero]; exact rfl
  · rfl
  · kernel_rfl
  · kernel_rfl
  · kernel_rfl
  · exact fun _ _ _ _ h => h
  apply Exists.intro
  apply And.intro
  · apply yr_run; rfl; intro w' hw'; go_simp; (try with_reducible rfl)
  simp only [Act.put, List.setIfInBounds_toArray, List.set_cons_zero, List.set_cons_succ]
  apply wpR_next 2 (some 48)
  · simp only [List.getElem?_toArray, List.getElem?_cons_succ, List.getElem?_cons_zero]; exact rfl
  · rfl
  · kernel_rfl
  · kernel_rfl
  · kernel_rfl
  · exact fun _ _ _ _ h => h
  apply Exists.intro
  apply And.intro
  · apply yr_run; rfl; intro w' hw'; go_simp; (try with_reducible rfl)
  simp only [Act.put, List.setIfInBounds_toArray, List.set_cons_zero, List.set_cons_succ]
  apply wpR_call 1 (some 47)
  · simp only [List.getElem?_toArray, List.getElem?_cons_succ, List.getElem?_cons_zero]; exact rfl
  · rfl
  · kernel_rfl
  · rfl
  · intro w'; go_simp; first | done | exact ⟨rfl, rfl⟩ | with_reducible rfl
  intro w' hw'
  refine (HDa5.out _ (Da_38.out.bl hw')).mono ?_
  rintro e w41 ⟨A3, c3, rfl, hr3, hb41⟩
  have Da_41 := Lib.hid ((Da_38.out.bl hw').bl hb41)
  have D0_41 := Lib.hid ((D0_38.out.bl hw').bl hb41)
  have X_41 := Lib.hid ((X_38.out.bl hw').bl hb41)
  have Sa_41 := Lib.hid ((Sa_38.out.bl hw').bl hb41)
  have Sb_41 := Lib.hid ((Sb_38.out.bl hw').bl hb41)
  have Pa_41 := Lib.hid ((Pa_38.out.bl hw').bl hb41)
  have Pb_41 := Lib.hid ((Pb_38.out.bl hw').bl hb41)
  have Bel_41 := Lib.hid (bel_bl (bel_bl Bel_38.out hw') hb41)
  have ld42 := fun w'' (h : Kept Nil_ w41 w'') => ld39 w'' ((Kept.of_ext hw').trans ((Kept.of_below hb41).trans h))
  have ld43 := fun w'' (h : Kept Nil_ w41 w'') => ld40 w'' ((Kept.of_ext hw').trans ((Kept.of_below hb41).trans h))
  refine ⟨_, rfl, Kept.of_below hb41, ?_⟩
  clear hw' hb41
  have R3_41 := Lib.hid hr3
  clear hr3
  simp only [Act.put, List.setIfInBounds_toArray, List.set_cons_zero, List.set_cons_succ]
  apply wpR_call 3 (some 49)
  · simp only [List.getElem?_toArray, List.getElem?_cons_succ, List.getElem?_cons_zero]; exact rfl
  · rfl
  · kernel_rfl
  · rfl
  · intro w'; go_simp; first | done | exact ⟨rfl, rfl⟩ | with_reducible rfl
  intro w' hw'
  refine (HDb5.out _ (Da_41.out.bl hw')).mono ?_
  rintro e w44 ⟨A4, c4, rfl, hr4, hb44⟩
  have Da_44 := Lib.hid ((Da_41.out.bl hw').bl hb44)
  have D0_44 := Lib.hid ((D0_41.out.bl hw').bl hb44)
  have X_44 := Lib.hid ((X_41.out.bl hw').bl hb44)
  have Sa_44 := Lib.hid ((Sa_41.out.bl hw').bl hb44)
  have Sb_44 := Lib.hid ((Sb_41.out.bl hw').bl hb44)
  have Pa_44 := Lib.hid ((Pa_41.out.bl hw').bl hb44)
  have Pb_44 := Lib.hid ((Pb_41.out.bl hw').bl hb44)
  have R3_44 := Lib.hid ((R3_41.out.bl hw').bl hb44)
  have Bel_44 := Lib.hid (bel_bl (bel_bl Bel_41.out hw') hb44)
  have ld45 := fun w'' (h : Kept Nil_ w44 w'') => ld42 w'' ((Kept.of_ext hw').trans ((Kept.of_below hb44).trans h))
  have ld46 := fun w'' (h : Kept Nil_ w44 w'') => ld43 w'' ((Kept.of_ext hw').trans ((Kept.of_below hb44).trans h))
  refine ⟨_, rfl, Kept.of_below hb44, ?_⟩
  clear hw' hb44
  have R4_44 := Lib.hid hr4
  clear hr4
  simp only [Act.put, List.setIfInBounds_toArray, List.set_cons_zero, List.set_cons_succ]
  apply wpR_call 4 (some 50)
  · simp only [List.getElem?_toArray, List.getElem?_cons_succ, List.getElem?_cons_zero]; exact rfl
  · rfl
  · kernel_rfl
  · rfl
  · intro w'; go_simp; first | done | exact ⟨rfl, rfl⟩ | with_reducible rfl
  intro w' hw'
  refine (HDr.out _ _ _ _ _ (R3_44.out.bl hw') (R4_44.out.bl hw')).mono ?_
  rintro e w47 ⟨rfl, hb47⟩
  have Da_47 := Lib.hid ((Da_44.out.bl hw').bl hb47)
  have D0_47 := Lib.hid ((D0_44.out.bl hw').bl hb47)
  have X_47 := Lib.hid ((X_44.out.bl hw').bl hb47)
  have Sa_47 := Lib.hid ((Sa_44.out.bl hw').bl hb47)
  have Sb_47 := Lib.hid ((Sb_44.out.bl hw').bl hb47)
  have Pa_47 := Lib.hid ((Pa_44.out.bl hw').bl hb47)
  have Pb_47 := Lib.hid ((Pb_44.out.bl hw').bl hb47)
  have R3_47 := Lib.hid ((R3_44.out.bl hw').bl hb47)
  have R4_47 := Lib.hid ((R4_44.out.bl hw').bl hb47)
  have Bel_47 := Lib.hid (bel_bl (bel_bl Bel_44.out hw') hb47)
  have ld48 := fun w'' (h : Kept Nil_ w47 w'') => ld45 w'' ((Kept.of_ext hw').trans ((Kept.of_below hb47).trans h))
  have ld49 := fun w'' (h : Kept Nil_ w47 w'') => ld46 w'' ((Kept.of_ext hw').trans ((Kept.of_below hb47).trans h))
  refine ⟨_, rfl, Kept.of_below hb47, ?_⟩
  clear hw' hb47
  simp only [Act.put, List.setIfInBounds_toArray, List.set_cons_zero, List.set_cons_succ]
  apply wpR_next 5 (some 15)
  · simp only [List.getElem?_toArray, List.getElem?_cons_succ, List.getElem?_cons_zero]; exact rfl
  · rfl
  · kernel_rfl
  · kernel_rfl
  · kernel_rfl
  · exact fun _ _ _ _ h => h
  apply Exists.intro
  apply And.intro
  · apply yr_run; rfl; intro w' hw'; go_simp; (try with_reducible rfl)
  simp only [Act.put, List.setIfInBounds_toArray, List.set_cons_zero, List.set_cons_succ]
  refine wpR_done (by kernel_rfl) ?_ _
  intro w50 hw'
  have Da_51 := Lib.hid (Da_47.out.bl hw')
  have D0_51 := Lib.hid (D0_47.out.bl hw')
  have X_51 := Lib.hid (X_47.out.bl hw')
  have Sa_51 := Lib.hid (Sa_47.out.bl hw')
  have Sb_51 := Lib.hid (Sb_47.out.bl hw')
  have Pa_51 := Lib.hid (Pa_47.out.bl hw')
  have Pb_51 := Lib.hid (Pb_47.out.bl hw')
  have R3_51 := Lib.hid (R3_47.out.bl hw')
  have R4_51 := Lib.hid (R4_47.out.bl hw')
  have Bel_51 := Lib.hid (bel_bl Bel_47.out hw')
  clear Da_47 D0_47 X_47 Sa_47 Sb_47 Pa_47 Pb_47 R3_47 R4_47 Bel_47
  clear hw'
  have lw52 : (w50).cell? ⟨w14.heap.size, 0, none⟩ = some (.int .i64 s1) := Sa_51.out.cell (i := 0) rfl
  have lw53 : (w50).cell? ⟨w14.heap.size, 1, none⟩ = some (.int .i64 s2) := Sa_51.out.cell (i := 1) rfl
  have lw54 : (w50).cell? ⟨w14.heap.size, 2, none⟩ = some (.int .i64 s3) := Sa_51.out.cell (i := 2) rfl
  have lw55 : (w50).cell? ⟨w21.heap.size, 0, none⟩ = some (.int .i64 s1) := Sb_51.out.cell (i := 0) rfl
  have lw56 : (w50).cell? ⟨w21.heap.size, 1, none⟩ = some (.int .i64 s2) := Sb_51.out.cell (i := 1) rfl
  have lw57 : (w50).cell? ⟨w21.heap.size, 2, none⟩ = some (.int .i64 s3) := Sb_51.out.cell (i := 2) rfl
  have lw58 : (w50).cell? ⟨w28.heap.size, 0, none⟩ = some (.int .i64 p1) := Pa_51.out.cell (i := 0) rfl
  have lw59 : (w50).cell? ⟨w28.heap.size, 1, none⟩ = some (.int .i64 p2) := Pa_51.out.cell (i := 1) rfl
  have lw60 : (w50).cell? ⟨w28.heap.size, 2, none⟩ = some (.int .i64 p3) := Pa_51.out.cell (i := 2) rfl
  have lw61 : (w50).cell? ⟨w35.heap.size, 0, none⟩ = some (.int .i64 p1) := Pb_51.out.cell (i := 0) rfl
  have lw62 : (w50).cell? ⟨w35.heap.size, 1, none⟩ = some (.int .i64 p2) := Pb_51.out.cell (i := 1) rfl
  have lw63 : (w50).cell? ⟨w35.heap.size, 2, none⟩ = some (.int .i64 p3) := Pb_51.out.cell (i := 2) rfl
  have e1 : ∀ W, (binOp .eql 29 (.agg #[.int .i64 s1, .int .i64 s2, .int .i64 s3]) (.agg #[.int .i64 s1, .int .i64 s2, .int .i64 s3])).run Try.prog W = .ok (.bool true) W := fun W => by
    have e := eq_dart_run (s1, s2, s3) (s1, s2, s3) W
    rw [decide_eq_true rfl] at e
    exact e
  have e2 : ∀ W, (binOp .eql 29 (.agg #[.int .i64 p1, .int .i64 p2, .int .i64 p3]) (.agg #[.int .i64 p1, .int .i64 p2, .int .i64 p3])).run Try.prog W = .ok (.bool true) W := fun W => by
    have e := eq_dart_run (p1, p2, p3) (p1, p2, p3) W
    rw [decide_eq_true rfl] at e
    exact e
  have e3 : (ok == ok) = true := by simp
  go_wp2
  go_ret
  exact ⟨by first | rfl | simp, Bel_51.out⟩
end Go.Proofs.Ytjkbcpikdkidhaa
