/- EulerMay' walk. -/
import Derived.Test.YtpindjknngcccaaGV
namespace Go.Proofs.Ytpindjknngcccaa
open Go.RowKit
set_option linter.unusedSimpArgs false
set_option linter.unusedVariables false

set_option maxRecDepth 100000 in
set_option maxHeartbeats 4000000 in
theorem law_may7 (A : Option Addr) (n c : Nat) (Vs : List VC) (B : Option Addr) (m k : Nat) (Es : List EC) (w : World) (h : DgIn w A n c Vs B m k Es) (hg : GoodD Vs Es) (hn : n ≤ maxLen) (hm : m ≤ maxLen) :
    Calls Try.prog 8 #[.agg #[.slice A n c, .slice B m k]] w fun e w' => e = .returned (.bool true) ∧ Below w.heap.size w w' := by
  have HW := Lib.hid (fun W hb => few7_step h hg hn hm W hb)
  obtain ⟨Va, gVa⟩ : ∃ z, (Vs.take 26).map few7V = z := ⟨_, rfl⟩
  obtain ⟨Ea, gEa⟩ : ∃ z, Es.take 42 = z := ⟨_, rfl⟩
  rw [gVa, gEa] at HW
  clear h hg hn hm gVa gEa
  go_enter Try.func8, Try.ntmps8
  go_wp2_with fail
  refine (shown07_any _).mono ?_
  rintro e w1 ⟨rfl, hb1⟩
  have D0_2 := Lib.hid ((show Whole (w.alloc (.cells #[.slice A n c, .slice B m k] 25)) (w.heap.size) (25) ([.slice A n c, .slice B m k]) from Whole.new2 (by first | rfl | simp)).bl hb1)
  have Bel_2 := Lib.hid (bel_bl (bel_al (Below.refl _ w) (.cells #[.slice A n c, .slice B m k] 25)) hb1)
  clear hb1
  have LO_D0_3 : RowKit.Hid (w.heap.size ≤ w.heap.size) := Lib.hid (by omega)
  have lw4 : (w1).cell? ⟨w.heap.size, 0, none⟩ = some (.slice A n c) := D0_2.out.cell (i := 0) rfl
  have lw5 : (w1).cell? ⟨w.heap.size, 1, none⟩ = some (.slice B m k) := D0_2.out.cell (i := 1) rfl
  go_wp2_with fail
  clear lw4 lw5
  have LTN_a_D0 : RowKit.Hid (w.heap.size < w1.heap.size) := Lib.hid (D0_2.out).lt
  refine (HW.out _ Bel_2.out).mono ?_
  rintro e w6 ⟨Aa, na, ca, Ba, ma, ka, rfl, hF, hb6⟩
  have Fa := Lib.hid hF
  clear hF
  have D0_7 := Lib.hid (D0_2.out.bl hb6)
  have Bel_7 := Lib.hid (bel_bl Bel_2.out hb6)
  clear D0_2 Bel_2
  clear hb6
  have lw8 : (w6).cell? ⟨w.heap.size, 0, none⟩ = some (.slice A n c) := D0_7.out.cell (i := 0) rfl
  have lw9 : (w6).cell? ⟨w.heap.size, 1, none⟩ = some (.slice B m k) := D0_7.out.cell (i := 1) rfl
  have fr0 := D0_7.out.free 0
  have fr1 := D0_7.out.free 1
  go_upto_region 3 with fail
  clear fr0 fr1 lw8 lw9
  obtain ⟨v10, gv10⟩ : ∃ x, (w6.setCell ⟨w.heap.size, 0, none⟩ (.slice Aa na ca)).setCell ⟨w.heap.size, 1, none⟩ (.slice Ba ma ka) = x := ⟨_, rfl⟩
  have D0_10 : RowKit.Hid (Whole v10 w.heap.size 25 [.slice Aa na ca, .slice Ba ma ka]) := Lib.hid (gv10 ▸ ((D0_7.out.set_ 0 (.slice Aa na ca)).set_ 1 (.slice Ba ma ka)))
  have Bel_10 : RowKit.Hid (Below w.heap.size w v10) := Lib.hid (gv10 ▸ ((Bel_7.out.setCell (p := ⟨w.heap.size, 0, none⟩) (by show w.heap.size ≤ w.heap.size; exact LO_D0_3.out) _).setCell (p := ⟨w.heap.size, 1, none⟩) (by show w.heap.size ≤ w.heap.size; exact LO_D0_3.out) _))
  have Da_10 : RowKit.Hid (DgIn v10 Aa na ca Va Ba ma ka Ea) := Lib.hid (gv10 ▸ Fa.out.put (g := w.heap.size) (by show w.heap.size ≤ w.heap.size; exact LO_D0_3.out) LTN_a_D0.out _ _)
  rw [gv10]
  clear gv10
  clear D0_7 Bel_7
  have Hr0 : RowKit.Hid (∀ x ∈ Va, x.2.1.2.1 ≤ 1000000) := Lib.hid (fun x hx => by have := Fa.out.r30 x hx; omega)
  have HFm := Lib.hid (rform7_any (A := Aa) (n := na) (c := ca) (B := Ba) (m := ma) (k := ka) Hr0.out Fa.out.good)
  have HMa := Lib.hid (may7_any (A := Aa) (n := na) (c := ca) (B := Ba) (m := ma) (k := ka) Hr0.out Fa.out.good)
  have HMb := Lib.hid (rmay7b_any (A := Aa) (n := na) (c := ca) (B := Ba) (m := ma) (k := ka) Hr0.out Fa.out.good)
  have HLn : RowKit.Hid (Va.length = na ∧ Ea.length = ma) := Lib.hid (dg_lens Da_10.out)
  by_cases hfo : formD Va Ea = 0
  · have hf : Formed Va Ea := (form0 Va Ea).1 hfo
    have hgd := Fa.out.good
    have HCa := Lib.hid (cnt7_any (A := Aa) (n := na) (c := ca) (B := Ba) (m := ma) (k := ka) hf hgd)
    have HCb := Lib.hid (rcnt7_any (A := Aa) (n := na) (c := ca) (B := Ba) (m := ma) (k := ka) hf hgd)
    have HGa := Lib.hid (gen7_any (A := Aa) (n := na) (c := ca) (B := Ba) (m := ma) (k := ka) hf hgd)
    have HGb := Lib.hid (rgen7_any (A := Aa) (n := na) (c := ca) (B := Ba) (m := ma) (k := ka) hf hgd)
    have HPl := Lib.hid (plan7_any (A := Aa) (n := na) (c := ca) (B := Ba) (m := ma) (k := ka) hf hgd)
    obtain ⟨t, e1, e2, e3, e4, e5⟩ := euler_all hf
    have hgt := gen_num hf e1
    have hfs := fac_small hf
    have hcs := cntF_small hf
    have has := alone_le Va
    rw [HLn.out.1] at e1 e3 e5 has
    rw [HLn.out.2] at e1 e2 e3 e5
    have hn24 : na ≤ 24 := by have := hf.v24; have := HLn.out.1; omega
    have hm40 : ma ≤ 40 := by have := hf.e40; have := HLn.out.2; omega
    rw [hgt] at HGa HGb HPl
    have hmz : (t : Int) = 0 → mayF7 Va Ea = 0 := fun e => by rw [mayF7, if_pos hfo, hgt, if_pos e]
    have hmn : ¬ (t : Int) = 0 → mayF7 Va Ea = 11 := fun e => by rw [mayF7, if_pos hfo, hgt, if_neg e]
    obtain ⟨ff, gff⟩ : ∃ z, facN Va Ea + aloneN Va = z := ⟨_, rfl⟩
    obtain ⟨cc, gcc⟩ : ∃ z, cntF (labF Va) = z := ⟨_, rfl⟩
    rw [gff, gcc] at HCa HCb
    rw [gff] at e1 e4 e5
    rw [gcc] at e1 e3 e4 e5 hcs
    have hff : ff ≤ 200 := by omega
    rw [hfo] at HFm
    clear hf hgd hgt hfs has gff gcc
    have lw11 : (v10).cell? ⟨w.heap.size, 0, none⟩ = some (.slice Aa na ca) := D0_10.out.cell (i := 0) rfl
    have lw12 : (v10).cell? ⟨w.heap.size, 1, none⟩ = some (.slice Ba ma ka) := D0_10.out.cell (i := 1) rfl
    go_wp2_with fail
    clear lw11 lw12
    refine (HMa.out _ Da_10.out).mono ?_
    rintro e w13 ⟨rfl, hb13⟩
    have D0_14 := Lib.hid (D0_10.out.bl hb13)
    have Da_14 := Lib.hid (Da_10.out.bl hb13)
    have Bel_14 := Lib.hid (bel_bl Bel_10.out hb13)
    clear D0_10 Da_10 Bel_10
    clear hb13
    have lw15 : (w13).cell? ⟨w.heap.size, 0, none⟩ = some (.slice Aa na ca) := D0_14.out.cell (i := 0) rfl
    have lw16 : (w13).cell? ⟨w.heap.size, 1, none⟩ = some (.slice Ba ma ka) := D0_14.out.cell (i := 1) rfl
    go_wp2_with fail
    clear lw15 lw16
    refine (HFm.out _ Da_14.out).mono ?_
    rintro e w17 ⟨rfl, hb17⟩
    have D0_18 := Lib.hid (D0_14.out.bl hb17)
    have Da_18 := Lib.hid (Da_14.out.bl hb17)
    have Bel_18 := Lib.hid (bel_bl Bel_14.out hb17)
    clear D0_14 Da_14 Bel_14
    clear hb17
    by_cases htz : (t : Int) = 0
    · have h1 : ((t : Int) == 0) = true := by rw [htz]; rfl
      rw [h1] at HPl
      rw [hmz htz]
      clear h1 e1 e2 e3 e4 e5
      have lw19 : (w17).cell? ⟨w.heap.size, 0, none⟩ = some (.slice Aa na ca) := D0_18.out.cell (i := 0) rfl
      have lw20 : (w17).cell? ⟨w.heap.size, 1, none⟩ = some (.slice Ba ma ka) := D0_18.out.cell (i := 1) rfl
      go_wp2_with fail
      clear lw19 lw20
      refine (HPl.out _ Da_18.out).mono ?_
      rintro e w21 ⟨rfl, hb21⟩
      have D0_22 := Lib.hid (D0_18.out.bl hb21)
      have Da_22 := Lib.hid (Da_18.out.bl hb21)
      have Bel_22 := Lib.hid (bel_bl Bel_18.out hb21)
      clear D0_18 Da_18 Bel_18
      clear hb21
      go_wp2
      go_ret
      exact ⟨by first | rfl | simp, Bel_22.out⟩
    · have h1 : ((t : Int) == 0) = false := beq_eq_false_iff_ne.2 htz
      rw [h1] at HPl
      rw [hmn htz]
      clear h1 e1 e2 e3 e4 e5
      have lw19 : (w17).cell? ⟨w.heap.size, 0, none⟩ = some (.slice Aa na ca) := D0_18.out.cell (i := 0) rfl
      have lw20 : (w17).cell? ⟨w.heap.size, 1, none⟩ = some (.slice Ba ma ka) := D0_18.out.cell (i := 1) rfl
      go_wp2_with fail
      clear lw19 lw20
      refine (HPl.out _ Da_18.out).mono ?_
      rintro e w21 ⟨rfl, hb21⟩
      have D0_22 := Lib.hid (D0_18.out.bl hb21)
      have Da_22 := Lib.hid (Da_18.out.bl hb21)
      have Bel_22 := Lib.hid (bel_bl Bel_18.out hb21)
      clear D0_18 Da_18 Bel_18
      clear hb21
      go_wp2
      go_ret
      exact ⟨by first | rfl | simp, Bel_22.out⟩
  · have hmf : mayF7 Va Ea = formD Va Ea := if_neg hfo
    rw [hmf] at HMa
    obtain ⟨fo, gfo⟩ : ∃ z, formD Va Ea = z := ⟨_, rfl⟩
    rw [gfo] at HFm HMa hfo
    have hfn : (fo != 0) = true := by simp [hfo]
    clear gfo
    clear hmf
    have hee : (fo == fo) = true := by simp
    have lw11 : (v10).cell? ⟨w.heap.size, 0, none⟩ = some (.slice Aa na ca) := D0_10.out.cell (i := 0) rfl
    have lw12 : (v10).cell? ⟨w.heap.size, 1, none⟩ = some (.slice Ba ma ka) := D0_10.out.cell (i := 1) rfl
    go_wp2_with fail
    clear lw11 lw12
    refine (HMa.out _ Da_10.out).mono ?_
    rintro e w13 ⟨rfl, hb13⟩
    have D0_14 := Lib.hid (D0_10.out.bl hb13)
    have Da_14 := Lib.hid (Da_10.out.bl hb13)
    have Bel_14 := Lib.hid (bel_bl Bel_10.out hb13)
    clear D0_10 Da_10 Bel_10
    clear hb13
    have lw15 : (w13).cell? ⟨w.heap.size, 0, none⟩ = some (.slice Aa na ca) := D0_14.out.cell (i := 0) rfl
    have lw16 : (w13).cell? ⟨w.heap.size, 1, none⟩ = some (.slice Ba ma ka) := D0_14.out.cell (i := 1) rfl
    go_wp2_with fail
    clear lw15 lw16
    refine (HFm.out _ Da_14.out).mono ?_
    rintro e w17 ⟨rfl, hb17⟩
    have D0_18 := Lib.hid (D0_14.out.bl hb17)
    have Da_18 := Lib.hid (Da_14.out.bl hb17)
    have Bel_18 := Lib.hid (bel_bl Bel_14.out hb17)
    clear D0_14 Da_14 Bel_14
    clear hb17
    go_wp2
    go_ret
    exact ⟨by first | rfl | simp, Bel_18.out⟩
end Go.Proofs.Ytpindjknngcccaa
