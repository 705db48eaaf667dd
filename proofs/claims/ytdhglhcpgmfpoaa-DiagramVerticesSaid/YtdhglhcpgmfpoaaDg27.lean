/- DiagramVertices' walk. -/
import Derived.Test.YtdhglhcpgmfpoaaDgMc
namespace Go.Proofs.Ytdhglhcpgmfpoaa
open Go.RowKit
set_option linter.unusedSimpArgs false
set_option linter.unusedVariables false


theorem newV_good {Vs : List VC} {Es : List EC} (h : GoodD Vs Es) (x : Int × Int) (k : Nat) : GoodD (Vs.take k ++ newV x :: Vs.drop k) Es := by
  have hm : ∀ y ∈ Vs.take k ++ newV x :: Vs.drop k, y ∈ Vs ∨ y = newV x := fun y hy => by
    rcases List.mem_append.1 hy with hy | hy
    · exact .inl (List.mem_of_mem_take hy)
    · rcases List.mem_cons.1 hy with rfl | hy
      · exact .inr rfl
      · exact .inl (List.mem_of_mem_drop hy)
  refine ⟨fun y hy d hd => ?_, h.e, fun y hy => ?_, h.le⟩
  · rcases hm y hy with hy | rfl
    · exact h.v y hy d hd
    · cases hd
  · rcases hm y hy with hy | rfl
    · exact h.lv y hy
    · exact Nat.zero_le _
set_option maxRecDepth 100000 in
set_option maxHeartbeats 4000000 in
theorem verts_no (A : Option Addr) (n c : Nat) (Vs : List VC) (B : Option Addr) (m k : Nat) (Es : List EC) (x1 x2 : Int) (w : World) (h : DgIn w A n c Vs B m k Es) (hg : GoodD Vs Es) (hn : n ≤ maxLen) (hm : m ≤ maxLen) (hf : formD ((Vs.take 30).map fewV) (Es.take 50) ≠ 0) :
    Calls Try.prog 6 #[.agg #[.slice A n c, .slice B m k], .agg #[.int .i64 x1, .int .i64 x2]] w fun e w' => e = .returned (.bool true) ∧ Below w.heap.size w w' := by
  have HW := Lib.hid (fun W hb => few_step h hg hn hm W hb)
  obtain ⟨Va, gVa⟩ : ∃ z, (Vs.take 30).map fewV = z := ⟨_, rfl⟩
  obtain ⟨Ea, gEa⟩ : ∃ z, Es.take 50 = z := ⟨_, rfl⟩
  rw [gVa, gEa] at HW
  rw [gVa, gEa] at hf
  have HFn := Lib.hid hf
  clear hf
  clear h hg hn hm gVa gEa
  go_enter Try.func6, Try.ntmps6
  go_wp2_with fail
  refine (shown_any _).mono ?_
  rintro e w1 ⟨rfl, hb1⟩
  have D0_2 := Lib.hid (((show Whole (w.alloc (.cells #[.slice A n c, .slice B m k] 25)) (w.heap.size) (25) ([.slice A n c, .slice B m k]) from Whole.new2 (by first | rfl | simp)).al (.cells #[.int .i64 x1, .int .i64 x2] 34)).bl hb1)
  have X_2 := Lib.hid ((show Whole ((w.alloc (.cells #[.slice A n c, .slice B m k] 25)).alloc (.cells #[.int .i64 x1, .int .i64 x2] 34)) ((w.heap.size + 1)) (34) ([.int .i64 x1, .int .i64 x2]) from Whole.new2 (by first | rfl | simp)).bl hb1)
  have Bel_2 := Lib.hid (bel_bl (bel_al (bel_al (Below.refl _ w) (.cells #[.slice A n c, .slice B m k] 25)) (.cells #[.int .i64 x1, .int .i64 x2] 34)) hb1)
  clear hb1
  have LO_D0_3 : RowKit.Hid (w.heap.size ≤ w.heap.size) := Lib.hid (by omega)
  have LO_X_4 : RowKit.Hid (w.heap.size ≤ (w.heap.size + 1)) := Lib.hid (by omega)
  have NE_D0_X : RowKit.Hid (w.heap.size ≠ (w.heap.size + 1)) := Lib.hid (by omega)
  have lw5 : (w1).cell? ⟨w.heap.size, 0, none⟩ = some (.slice A n c) := D0_2.out.cell (i := 0) rfl
  have lw6 : (w1).cell? ⟨w.heap.size, 1, none⟩ = some (.slice B m k) := D0_2.out.cell (i := 1) rfl
  go_wp2_with fail
  clear lw5 lw6
  have LTN_a_D0 : RowKit.Hid (w.heap.size < w1.heap.size) := Lib.hid (D0_2.out).lt
  have LTN_a_X : RowKit.Hid ((w.heap.size + 1) < w1.heap.size) := Lib.hid (X_2.out).lt
  refine (HW.out _ Bel_2.out).mono ?_
  rintro e w7 ⟨Aa, na, ca, Ba, ma, ka, rfl, hF, hb7⟩
  have Fa := Lib.hid hF
  clear hF
  have D0_8 := Lib.hid (D0_2.out.bl hb7)
  have X_8 := Lib.hid (X_2.out.bl hb7)
  have Bel_8 := Lib.hid (bel_bl Bel_2.out hb7)
  clear D0_2 X_2 Bel_2
  clear hb7
  have lw9 : (w7).cell? ⟨w.heap.size, 0, none⟩ = some (.slice A n c) := D0_8.out.cell (i := 0) rfl
  have lw10 : (w7).cell? ⟨w.heap.size, 1, none⟩ = some (.slice B m k) := D0_8.out.cell (i := 1) rfl
  have fr0 := D0_8.out.free 0
  have fr1 := D0_8.out.free 1
  go_upto_region 3 with fail
  clear fr0 fr1 lw9 lw10
  obtain ⟨v11, gv11⟩ : ∃ x, (w7.setCell ⟨w.heap.size, 0, none⟩ (.slice Aa na ca)).setCell ⟨w.heap.size, 1, none⟩ (.slice Ba ma ka) = x := ⟨_, rfl⟩
  have D0_11 : RowKit.Hid (Whole v11 w.heap.size 25 [.slice Aa na ca, .slice Ba ma ka]) := Lib.hid (gv11 ▸ ((D0_8.out.set_ 0 (.slice Aa na ca)).set_ 1 (.slice Ba ma ka)))
  have X_11 := Lib.hid (show Whole v11 (w.heap.size + 1) _ _ from gv11 ▸ ((X_8.out.far (p := ⟨w.heap.size, 0, none⟩) (by show (w.heap.size + 1) ≠ w.heap.size; exact (Ne.symm NE_D0_X.out)) (.slice Aa na ca)).far (p := ⟨w.heap.size, 1, none⟩) (by show (w.heap.size + 1) ≠ w.heap.size; exact (Ne.symm NE_D0_X.out)) (.slice Ba ma ka)))
  have Bel_11 : RowKit.Hid (Below w.heap.size w v11) := Lib.hid (gv11 ▸ ((Bel_8.out.setCell (p := ⟨w.heap.size, 0, none⟩) (by show w.heap.size ≤ w.heap.size; exact LO_D0_3.out) _).setCell (p := ⟨w.heap.size, 1, none⟩) (by show w.heap.size ≤ w.heap.size; exact LO_D0_3.out) _))
  have Da_11 : RowKit.Hid (DgIn v11 Aa na ca Va Ba ma ka Ea) := Lib.hid (gv11 ▸ Fa.out.put (g := w.heap.size) (by show w.heap.size ≤ w.heap.size; exact LO_D0_3.out) LTN_a_D0.out _ _)
  rw [gv11]
  clear gv11
  clear D0_8 X_8 Bel_8
  have hr30 : ∀ x ∈ Va, x.2.1.2.1 ≤ 1000000 := fun x hx => by have := Fa.out.r30 x hx; omega
  have hn30 : na ≤ 1000000 := by have := Fa.out.n30; omega
  have HF1 := Lib.hid (fun W (h : DgIn W Aa na ca Va Ba ma ka Ea) => form_any Aa na ca Va Ba ma ka Ea W h hr30 Fa.out.good.e Fa.out.good.v)
  have HR30 := Lib.hid hr30
  clear hr30
  obtain ⟨fo, gfo⟩ : ∃ z, formD Va Ea = z := ⟨_, rfl⟩
  rw [gfo] at HF1
  have hfo : (fo != 0) = true := by rw [← gfo]; exact bne_iff_ne.2 HFn.out
  clear gfo HFn
  have lw12 : (v11).cell? ⟨w.heap.size, 0, none⟩ = some (.slice Aa na ca) := D0_11.out.cell (i := 0) rfl
  have lw13 : (v11).cell? ⟨w.heap.size, 1, none⟩ = some (.slice Ba ma ka) := D0_11.out.cell (i := 1) rfl
  go_wp2_with fail
  clear lw12 lw13
  refine (HF1.out _ Da_11.out).mono ?_
  rintro e w14 ⟨rfl, hb14⟩
  have D0_15 := Lib.hid (D0_11.out.bl hb14)
  have X_15 := Lib.hid (X_11.out.bl hb14)
  have Da_15 := Lib.hid (Da_11.out.bl hb14)
  have Bel_15 := Lib.hid (bel_bl Bel_11.out hb14)
  clear D0_11 X_11 Da_11 Bel_11
  clear hb14
  go_wp2
  go_ret
  exact ⟨rfl, Bel_15.out⟩
set_option maxRecDepth 100000 in
set_option maxHeartbeats 4000000 in
theorem verts_big (A : Option Addr) (n c : Nat) (Vs : List VC) (B : Option Addr) (m k : Nat) (Es : List EC) (x1 x2 : Int) (w : World) (h : DgIn w A n c Vs B m k Es) (hg : GoodD Vs Es) (hn : n ≤ maxLen) (hm : m ≤ maxLen) (hf : formD ((Vs.take 30).map fewV) (Es.take 50) = 0) (hb : 24 ≤ ((Vs.take 30).map fewV).length) :
    Calls Try.prog 6 #[.agg #[.slice A n c, .slice B m k], .agg #[.int .i64 x1, .int .i64 x2]] w fun e w' => e = .returned (.bool true) ∧ Below w.heap.size w w' := by
  have HW := Lib.hid (fun W hb => few_step h hg hn hm W hb)
  obtain ⟨Va, gVa⟩ : ∃ z, (Vs.take 30).map fewV = z := ⟨_, rfl⟩
  obtain ⟨Ea, gEa⟩ : ∃ z, Es.take 50 = z := ⟨_, rfl⟩
  rw [gVa, gEa] at HW
  rw [gVa, gEa] at hf
  rw [gVa] at hb
  have HF0 := Lib.hid hf
  have HBg := Lib.hid hb
  clear hf hb
  clear h hg hn hm gVa gEa
  go_enter Try.func6, Try.ntmps6
  go_wp2_with fail
  refine (shown_any _).mono ?_
  rintro e w1 ⟨rfl, hb1⟩
  have D0_2 := Lib.hid (((show Whole (w.alloc (.cells #[.slice A n c, .slice B m k] 25)) (w.heap.size) (25) ([.slice A n c, .slice B m k]) from Whole.new2 (by first | rfl | simp)).al (.cells #[.int .i64 x1, .int .i64 x2] 34)).bl hb1)
  have X_2 := Lib.hid ((show Whole ((w.alloc (.cells #[.slice A n c, .slice B m k] 25)).alloc (.cells #[.int .i64 x1, .int .i64 x2] 34)) ((w.heap.size + 1)) (34) ([.int .i64 x1, .int .i64 x2]) from Whole.new2 (by first | rfl | simp)).bl hb1)
  have Bel_2 := Lib.hid (bel_bl (bel_al (bel_al (Below.refl _ w) (.cells #[.slice A n c, .slice B m k] 25)) (.cells #[.int .i64 x1, .int .i64 x2] 34)) hb1)
  clear hb1
  have LO_D0_3 : RowKit.Hid (w.heap.size ≤ w.heap.size) := Lib.hid (by omega)
  have LO_X_4 : RowKit.Hid (w.heap.size ≤ (w.heap.size + 1)) := Lib.hid (by omega)
  have NE_D0_X : RowKit.Hid (w.heap.size ≠ (w.heap.size + 1)) := Lib.hid (by omega)
  have lw5 : (w1).cell? ⟨w.heap.size, 0, none⟩ = some (.slice A n c) := D0_2.out.cell (i := 0) rfl
  have lw6 : (w1).cell? ⟨w.heap.size, 1, none⟩ = some (.slice B m k) := D0_2.out.cell (i := 1) rfl
  go_wp2_with fail
  clear lw5 lw6
  have LTN_a_D0 : RowKit.Hid (w.heap.size < w1.heap.size) := Lib.hid (D0_2.out).lt
  have LTN_a_X : RowKit.Hid ((w.heap.size + 1) < w1.heap.size) := Lib.hid (X_2.out).lt
  refine (HW.out _ Bel_2.out).mono ?_
  rintro e w7 ⟨Aa, na, ca, Ba, ma, ka, rfl, hF, hb7⟩
  have Fa := Lib.hid hF
  clear hF
  have D0_8 := Lib.hid (D0_2.out.bl hb7)
  have X_8 := Lib.hid (X_2.out.bl hb7)
  have Bel_8 := Lib.hid (bel_bl Bel_2.out hb7)
  clear D0_2 X_2 Bel_2
  clear hb7
  have lw9 : (w7).cell? ⟨w.heap.size, 0, none⟩ = some (.slice A n c) := D0_8.out.cell (i := 0) rfl
  have lw10 : (w7).cell? ⟨w.heap.size, 1, none⟩ = some (.slice B m k) := D0_8.out.cell (i := 1) rfl
  have fr0 := D0_8.out.free 0
  have fr1 := D0_8.out.free 1
  go_upto_region 3 with fail
  clear fr0 fr1 lw9 lw10
  obtain ⟨v11, gv11⟩ : ∃ x, (w7.setCell ⟨w.heap.size, 0, none⟩ (.slice Aa na ca)).setCell ⟨w.heap.size, 1, none⟩ (.slice Ba ma ka) = x := ⟨_, rfl⟩
  have D0_11 : RowKit.Hid (Whole v11 w.heap.size 25 [.slice Aa na ca, .slice Ba ma ka]) := Lib.hid (gv11 ▸ ((D0_8.out.set_ 0 (.slice Aa na ca)).set_ 1 (.slice Ba ma ka)))
  have X_11 := Lib.hid (show Whole v11 (w.heap.size + 1) _ _ from gv11 ▸ ((X_8.out.far (p := ⟨w.heap.size, 0, none⟩) (by show (w.heap.size + 1) ≠ w.heap.size; exact (Ne.symm NE_D0_X.out)) (.slice Aa na ca)).far (p := ⟨w.heap.size, 1, none⟩) (by show (w.heap.size + 1) ≠ w.heap.size; exact (Ne.symm NE_D0_X.out)) (.slice Ba ma ka)))
  have Bel_11 : RowKit.Hid (Below w.heap.size w v11) := Lib.hid (gv11 ▸ ((Bel_8.out.setCell (p := ⟨w.heap.size, 0, none⟩) (by show w.heap.size ≤ w.heap.size; exact LO_D0_3.out) _).setCell (p := ⟨w.heap.size, 1, none⟩) (by show w.heap.size ≤ w.heap.size; exact LO_D0_3.out) _))
  have Da_11 : RowKit.Hid (DgIn v11 Aa na ca Va Ba ma ka Ea) := Lib.hid (gv11 ▸ Fa.out.put (g := w.heap.size) (by show w.heap.size ≤ w.heap.size; exact LO_D0_3.out) LTN_a_D0.out _ _)
  rw [gv11]
  clear gv11
  clear D0_8 X_8 Bel_8
  have hr30 : ∀ x ∈ Va, x.2.1.2.1 ≤ 1000000 := fun x hx => by have := Fa.out.r30 x hx; omega
  have hn30 : na ≤ 1000000 := by have := Fa.out.n30; omega
  have HF1 := Lib.hid (fun W (h : DgIn W Aa na ca Va Ba ma ka Ea) => form_any Aa na ca Va Ba ma ka Ea W h hr30 Fa.out.good.e Fa.out.good.v)
  have HR30 := Lib.hid hr30
  clear hr30
  rw [HF0.out] at HF1
  have hbI : (24 : Int) ≤ (na : Int) := by have := HBg.out; have := Fa.out.lenv; omega
  have hbN : 24 ≤ na := by omega
  have lw12 : (v11).cell? ⟨w.heap.size, 0, none⟩ = some (.slice Aa na ca) := D0_11.out.cell (i := 0) rfl
  have lw13 : (v11).cell? ⟨w.heap.size, 1, none⟩ = some (.slice Ba ma ka) := D0_11.out.cell (i := 1) rfl
  go_wp2_with fail
  clear lw12 lw13
  refine (HF1.out _ Da_11.out).mono ?_
  rintro e w14 ⟨rfl, hb14⟩
  have D0_15 := Lib.hid (D0_11.out.bl hb14)
  have X_15 := Lib.hid (X_11.out.bl hb14)
  have Da_15 := Lib.hid (Da_11.out.bl hb14)
  have Bel_15 := Lib.hid (bel_bl Bel_11.out hb14)
  clear D0_11 X_11 Da_11 Bel_11
  clear hb14
  have lw16 : (w14).cell? ⟨w.heap.size, 0, none⟩ = some (.slice Aa na ca) := D0_15.out.cell (i := 0) rfl
  have lw17 : (w14).cell? ⟨w.heap.size, 1, none⟩ = some (.slice Ba ma ka) := D0_15.out.cell (i := 1) rfl
  go_wp2
  go_ret
  exact ⟨rfl, Bel_15.out⟩
set_option maxRecDepth 100000 in
set_option maxHeartbeats 4000000 in
theorem verts_yes (A : Option Addr) (n c : Nat) (Vs : List VC) (B : Option Addr) (m k : Nat) (Es : List EC) (x1 x2 : Int) (w : World) (h : DgIn w A n c Vs B m k Es) (hg : GoodD Vs Es) (hn : n ≤ maxLen) (hm : m ≤ maxLen) (hf : formD ((Vs.take 30).map fewV) (Es.take 50) = 0) (hb : ((Vs.take 30).map fewV).length < 24) :
    Calls Try.prog 6 #[.agg #[.slice A n c, .slice B m k], .agg #[.int .i64 x1, .int .i64 x2]] w fun e w' => e = .returned (.bool true) ∧ Below w.heap.size w w' := by
  have HW := Lib.hid (fun W hb => few_step h hg hn hm W hb)
  obtain ⟨Va, gVa⟩ : ∃ z, (Vs.take 30).map fewV = z := ⟨_, rfl⟩
  obtain ⟨Ea, gEa⟩ : ∃ z, Es.take 50 = z := ⟨_, rfl⟩
  rw [gVa, gEa] at HW
  rw [gVa, gEa] at hf
  rw [gVa] at hb
  have HFm := Lib.hid ((form0 Va Ea).1 hf)
  have HF0 := Lib.hid hf
  have HBg := Lib.hid hb
  clear hf hb
  clear h hg hn hm gVa gEa
  go_enter Try.func6, Try.ntmps6
  go_wp2_with fail
  refine (shown_any _).mono ?_
  rintro e w1 ⟨rfl, hb1⟩
  have D0_2 := Lib.hid (((show Whole (w.alloc (.cells #[.slice A n c, .slice B m k] 25)) (w.heap.size) (25) ([.slice A n c, .slice B m k]) from Whole.new2 (by first | rfl | simp)).al (.cells #[.int .i64 x1, .int .i64 x2] 34)).bl hb1)
  have X_2 := Lib.hid ((show Whole ((w.alloc (.cells #[.slice A n c, .slice B m k] 25)).alloc (.cells #[.int .i64 x1, .int .i64 x2] 34)) ((w.heap.size + 1)) (34) ([.int .i64 x1, .int .i64 x2]) from Whole.new2 (by first | rfl | simp)).bl hb1)
  have Bel_2 := Lib.hid (bel_bl (bel_al (bel_al (Below.refl _ w) (.cells #[.slice A n c, .slice B m k] 25)) (.cells #[.int .i64 x1, .int .i64 x2] 34)) hb1)
  clear hb1
  have LO_D0_3 : RowKit.Hid (w.heap.size ≤ w.heap.size) := Lib.hid (by omega)
  have LO_X_4 : RowKit.Hid (w.heap.size ≤ (w.heap.size + 1)) := Lib.hid (by omega)
  have NE_D0_X : RowKit.Hid (w.heap.size ≠ (w.heap.size + 1)) := Lib.hid (by omega)
  have lw5 : (w1).cell? ⟨w.heap.size, 0, none⟩ = some (.slice A n c) := D0_2.out.cell (i := 0) rfl
  have lw6 : (w1).cell? ⟨w.heap.size, 1, none⟩ = some (.slice B m k) := D0_2.out.cell (i := 1) rfl
  go_wp2_with fail
  clear lw5 lw6
  have LTN_a_D0 : RowKit.Hid (w.heap.size < w1.heap.size) := Lib.hid (D0_2.out).lt
  have LTN_a_X : RowKit.Hid ((w.heap.size + 1) < w1.heap.size) := Lib.hid (X_2.out).lt
  refine (HW.out _ Bel_2.out).mono ?_
  rintro e w7 ⟨Aa, na, ca, Ba, ma, ka, rfl, hF, hb7⟩
  have Fa := Lib.hid hF
  clear hF
  have D0_8 := Lib.hid (D0_2.out.bl hb7)
  have X_8 := Lib.hid (X_2.out.bl hb7)
  have Bel_8 := Lib.hid (bel_bl Bel_2.out hb7)
  clear D0_2 X_2 Bel_2
  clear hb7
  have lw9 : (w7).cell? ⟨w.heap.size, 0, none⟩ = some (.slice A n c) := D0_8.out.cell (i := 0) rfl
  have lw10 : (w7).cell? ⟨w.heap.size, 1, none⟩ = some (.slice B m k) := D0_8.out.cell (i := 1) rfl
  have fr0 := D0_8.out.free 0
  have fr1 := D0_8.out.free 1
  go_upto_region 3 with fail
  clear fr0 fr1 lw9 lw10
  obtain ⟨v11, gv11⟩ : ∃ x, (w7.setCell ⟨w.heap.size, 0, none⟩ (.slice Aa na ca)).setCell ⟨w.heap.size, 1, none⟩ (.slice Ba ma ka) = x := ⟨_, rfl⟩
  have D0_11 : RowKit.Hid (Whole v11 w.heap.size 25 [.slice Aa na ca, .slice Ba ma ka]) := Lib.hid (gv11 ▸ ((D0_8.out.set_ 0 (.slice Aa na ca)).set_ 1 (.slice Ba ma ka)))
  have X_11 := Lib.hid (show Whole v11 (w.heap.size + 1) _ _ from gv11 ▸ ((X_8.out.far (p := ⟨w.heap.size, 0, none⟩) (by show (w.heap.size + 1) ≠ w.heap.size; exact (Ne.symm NE_D0_X.out)) (.slice Aa na ca)).far (p := ⟨w.heap.size, 1, none⟩) (by show (w.heap.size + 1) ≠ w.heap.size; exact (Ne.symm NE_D0_X.out)) (.slice Ba ma ka)))
  have Bel_11 : RowKit.Hid (Below w.heap.size w v11) := Lib.hid (gv11 ▸ ((Bel_8.out.setCell (p := ⟨w.heap.size, 0, none⟩) (by show w.heap.size ≤ w.heap.size; exact LO_D0_3.out) _).setCell (p := ⟨w.heap.size, 1, none⟩) (by show w.heap.size ≤ w.heap.size; exact LO_D0_3.out) _))
  have Da_11 : RowKit.Hid (DgIn v11 Aa na ca Va Ba ma ka Ea) := Lib.hid (gv11 ▸ Fa.out.put (g := w.heap.size) (by show w.heap.size ≤ w.heap.size; exact LO_D0_3.out) LTN_a_D0.out _ _)
  rw [gv11]
  clear gv11
  clear D0_8 X_8 Bel_8
  have hr30 : ∀ x ∈ Va, x.2.1.2.1 ≤ 1000000 := fun x hx => by have := Fa.out.r30 x hx; omega
  have hn30 : na ≤ 1000000 := by have := Fa.out.n30; omega
  have HF1 := Lib.hid (fun W (h : DgIn W Aa na ca Va Ba ma ka Ea) => form_any Aa na ca Va Ba ma ka Ea W h hr30 Fa.out.good.e Fa.out.good.v)
  have HR30 := Lib.hid hr30
  clear hr30
  rw [HF0.out] at HF1
  obtain ⟨i0, hi, hz0, hz1, hz2⟩ := info_partsD info_vertex
  have HLv : RowKit.Hid (Va.length = na) := Lib.hid Fa.out.lenv
  have hn24 : na < 24 := by have := HBg.out; have := HLv.out; omega
  have hbI : ¬ (24 : Int) ≤ (na : Int) := by omega
  have hbI2 : decide ((24 : Int) ≤ (na : Int)) = false := decide_eq_false hbI
  obtain ⟨L, gL⟩ : ∃ z, Va.map (·.1) = z := ⟨_, rfl⟩
  have hLr : riseF none L = true := by rw [← gL]; exact HFm.out.rv
  have hLn : L.length = na := by rw [← gL, List.length_map]; exact HLv.out
  have HIn : RowKit.Hid (∀ k, formD (Va.take k ++ newV (x1, x2) :: Va.drop k) Ea = if insB L (x1, x2) k then 0 else 10) := Lib.hid (fun k => by rw [← gL]; exact HFm.out.insert (by have := HBg.out; exact this) (x1, x2) k)
  have HOn : RowKit.Hid (∀ j, j ≤ na → insB L (x1, x2) j = true → (List.range j).any (insB L (x1, x2)) = false) := Lib.hid (fun j hj h => ins_once hLr (x1, x2) j (by omega) h)
  have HAn : RowKit.Hid ((List.range (na + 1)).any (insB L (x1, x2)) = (mayI x1 x2 && !decide ((x1, x2) ∈ L))) := Lib.hid (by rw [← hLn]; exact ins_any hLr (x1, x2))
  obtain ⟨⟨⟨⟨i1, i2⟩, ⟨rA, rn, rc, rL⟩, lb, at_⟩, ok⟩, gr⟩ : ∃ z, fndV Va (x1, x2) = z := ⟨_, rfl⟩
  have hok : ok = decide ((x1, x2) ∈ L) := by
    have h1 := fndV_some Va (x1, x2)
    rw [gr, gL] at h1
    exact h1
  have Hok := Lib.hid hok
  have HV1 : RowKit.Hid (∀ W, DgIn W Aa na ca Va Ba ma ka Ea → Calls Try.prog 18 #[.agg #[.slice Aa na ca, .slice Ba ma ka], .agg #[.int .i64 x1, .int .i64 x2]] W fun e w' => ∃ A1 c1, e = .returned (.tuple #[.agg #[.int .i64 i1, .int .i64 i2, .slice A1 rn c1, .string lb, .int .i64 at_], .bool ok]) ∧ Below W.heap.size W w') := Lib.hid (fun W h => by
    refine (vertex_any Aa na ca Va Ba ma ka Ea x1 x2 W h hn30 HR30.out _ ok gr).mono ?_
    rintro e w' ⟨A1, c1, rfl, ho⟩
    exact ⟨A1, c1, rfl, ho.below⟩)
  have HMy := Lib.hid (rmay_any x1 x2)
  have HFk : RowKit.Hid (∀ j A6 c6 W, j ≤ na → DgIn W A6 (na + 1) c6 (Va.take j ++ newV (x1, x2) :: Va.drop j) Ba ma ka Ea → Calls Try.prog 12 #[.agg #[.slice A6 (na + 1) c6, .slice Ba ma ka]] W fun e w' => e = .returned (.int .i64 (if insB L (x1, x2) j then 0 else 10)) ∧ Below W.heap.size W w') := Lib.hid (fun j A6 c6 W hj h => by
    have hgj := newV_good Fa.out.good (x1, x2) j
    have h1 := form_any A6 (na + 1) c6 _ Ba ma ka Ea W h (fun y hy => by
      rcases List.mem_append.1 hy with hy | hy
      · exact HR30.out y (List.mem_of_mem_take hy)
      · rcases List.mem_cons.1 hy with rfl | hy
        · exact Nat.zero_le _
        · exact HR30.out y (List.mem_of_mem_drop hy)) hgj.e hgj.v
    rw [HIn.out j] at h1
    exact h1)
  obtain ⟨bm, gbm⟩ : ∃ z, mayI x1 x2 = z := ⟨_, rfl⟩
  rw [gbm] at HMy HAn
  rw [← hok] at HAn
  clear gL hLr hLn gr hok gbm HIn
  have lw12 : (v11).cell? ⟨w.heap.size, 0, none⟩ = some (.slice Aa na ca) := D0_11.out.cell (i := 0) rfl
  have lw13 : (v11).cell? ⟨w.heap.size, 1, none⟩ = some (.slice Ba ma ka) := D0_11.out.cell (i := 1) rfl
  go_wp2_with fail
  clear lw12 lw13
  refine (HF1.out _ Da_11.out).mono ?_
  rintro e w14 ⟨rfl, hb14⟩
  have D0_15 := Lib.hid (D0_11.out.bl hb14)
  have X_15 := Lib.hid (X_11.out.bl hb14)
  have Da_15 := Lib.hid (Da_11.out.bl hb14)
  have Bel_15 := Lib.hid (bel_bl Bel_11.out hb14)
  clear D0_11 X_11 Da_11 Bel_11
  clear hb14
  have lw16 : (w14).cell? ⟨w.heap.size, 0, none⟩ = some (.slice Aa na ca) := D0_15.out.cell (i := 0) rfl
  have lw17 : (w14).cell? ⟨w.heap.size, 1, none⟩ = some (.slice Ba ma ka) := D0_15.out.cell (i := 1) rfl
  have lw18 : (w14).cell? ⟨(w.heap.size + 1), 0, none⟩ = some (.int .i64 x1) := X_15.out.cell (i := 0) rfl
  have lw19 : (w14).cell? ⟨(w.heap.size + 1), 1, none⟩ = some (.int .i64 x2) := X_15.out.cell (i := 1) rfl
  go_wp2_with fail
  clear lw16 lw17 lw18 lw19
  refine (HV1.out _ Da_15.out).mono ?_
  rintro e w20 ⟨A1, c1, rfl, hb20⟩
  have D0_21 := Lib.hid (D0_15.out.bl hb20)
  have X_21 := Lib.hid (X_15.out.bl hb20)
  have Da_21 := Lib.hid (Da_15.out.bl hb20)
  have Bel_21 := Lib.hid (bel_bl Bel_15.out hb20)
  clear D0_15 X_15 Da_15 Bel_15
  clear hb20
  have lw22 : ((w20.alloc (.cells #[.int .i64 i1, .int .i64 i2, .slice A1 rn c1, .string lb, .int .i64 at_] 39))).cell? ⟨(w.heap.size + 1), 0, none⟩ = some (.int .i64 x1) := (X_21.out.al (.cells #[.int .i64 i1, .int .i64 i2, .slice A1 rn c1, .string lb, .int .i64 at_] 39)).cell (i := 0) rfl
  have lw23 : ((w20.alloc (.cells #[.int .i64 i1, .int .i64 i2, .slice A1 rn c1, .string lb, .int .i64 at_] 39))).cell? ⟨(w.heap.size + 1), 1, none⟩ = some (.int .i64 x2) := (X_21.out.al (.cells #[.int .i64 i1, .int .i64 i2, .slice A1 rn c1, .string lb, .int .i64 at_] 39)).cell (i := 1) rfl
  go_wp2_with fail
  clear lw22 lw23
  refine (HMy.out _).mono ?_
  rintro e w24 ⟨rfl, hb24⟩
  have D0_25 := Lib.hid ((D0_21.out.al (.cells #[.int .i64 i1, .int .i64 i2, .slice A1 rn c1, .string lb, .int .i64 at_] 39)).bl hb24)
  have X_25 := Lib.hid ((X_21.out.al (.cells #[.int .i64 i1, .int .i64 i2, .slice A1 rn c1, .string lb, .int .i64 at_] 39)).bl hb24)
  have Da_25 := Lib.hid ((Da_21.out.al (.cells #[.int .i64 i1, .int .i64 i2, .slice A1 rn c1, .string lb, .int .i64 at_] 39)).bl hb24)
  have V1_25 := Lib.hid ((show Whole (w20.alloc (.cells #[.int .i64 i1, .int .i64 i2, .slice A1 rn c1, .string lb, .int .i64 at_] 39)) (w20.heap.size) (39) ([.int .i64 i1, .int .i64 i2, .slice A1 rn c1, .string lb, .int .i64 at_]) from Whole.new2 (by first | rfl | simp)).bl hb24)
  have Bel_25 := Lib.hid (bel_bl (bel_al Bel_21.out (.cells #[.int .i64 i1, .int .i64 i2, .slice A1 rn c1, .string lb, .int .i64 at_] 39)) hb24)
  clear D0_21 X_21 Da_21 Bel_21
  clear hb24
  clear V1_25
  have HD0 : RowKit.Hid (DgIn w24 Aa na ca Va Ba ma ka Ea) := Da_25
  have HX0 : RowKit.Hid (Whole w24 w.heap.size 25 [.slice Aa na ca, .slice Ba ma ka]) := D0_25
  have HI0 : RowKit.Hid (Whole w24 (w.heap.size + 1) 34 [.int .i64 x1, .int .i64 x2]) := X_25
  have HB0 : RowKit.Hid (Below w.heap.size w w24) := Bel_25
  obtain ⟨b1, gb1⟩ : ∃ z, w.heap.size + 1 = z := ⟨_, rfl⟩
  obtain ⟨b0, gb0⟩ : ∃ z, w.heap.size = z := ⟨_, rfl⟩
  rw [gb0] at HX0
  rw [gb1] at HI0
  try rw [gb1]
  try rw [gb0]
  clear gb0 gb1
  clear Da_25 D0_25 X_25 Bel_25
  have hwal : ∀ q : Bool, (bm && !q) = (bm && !q) := fun _ => rfl
  obtain ⟨my, gmy⟩ : ∃ z, (bm && !ok) = z := ⟨_, rfl⟩
  rw [gmy] at HAn
  cases bm with
  | false =>
    obtain rfl : my = false := by rw [← gmy]; rfl
    clear hwal gmy
    go_wp2
    go_loopw [9, 10] (fun ss si wr => ∃ (j : Nat) (sm : Bool), j ≤ na + 1 ∧ si = .int .i64 j ∧ ss = .bool sm ∧ RowKit.Hid (Below w.heap.size w wr) ∧ RowKit.Hid (Whole wr b0 25 [.slice Aa na ca, .slice Ba ma ka]) ∧ RowKit.Hid (Whole wr b1 34 [.int .i64 x1, .int .i64 x2]) ∧ RowKit.Hid (DgIn wr Aa na ca Va Ba ma ka Ea) ∧ RowKit.Hid ((List.range j).any (insB L (x1, x2)) = sm)) (fun _ si _ => na + 1 - (intOf si).toNat)
    case atStart => exact ⟨0, false, by omega, rfl, rfl, HB0, HX0, HI0, HD0, Lib.hid rfl⟩
    case round =>
      clear HB0 HX0 HI0 HD0
      obtain ⟨j, sm, hj, rfl, rfl, HB, HX, HI, HD, HG⟩ := hrel
      obtain ⟨wo, gwo⟩ : ∃ z, wr = z := ⟨_, rfl⟩
      rw [gwo] at HB HX HI HD ⊢
      clear gwo
      have cb := HX.out.cell (i := 0) rfl
      by_cases hjn : j ≤ na
      · have hjI : (j : Int) ≤ (na : Int) := by omega
        have hr1 := HD.out.v.take_ j hjn
        rw [← rowsV_take vC vC_len] at hr1
        have hr2 := HD.out.v.low_ hjn
        rw [← rowsV_drop vC vC_len] at hr2
        have hjc : j ≤ ca := by have := HD.out.v.le; omega
        have hca : ca ≤ 9223372036854775807 := by have := Fa.out.fresh.1; unfold maxLen at this; omega
        obtain ⟨A2, gA2⟩ : ∃ z, (if ca = j then Aa else Aa.map (·.add (j * 5))) = z := ⟨_, rfl⟩
        obtain ⟨m2, gm2⟩ : ∃ z, na - j = z := ⟨_, rfl⟩
        obtain ⟨c2, gc2⟩ : ∃ z, ca - j = z := ⟨_, rfl⟩
        rw [gA2, gm2, gc2] at hr2
        have HR1 := Lib.hid hr1
        have HR2 := Lib.hid hr2
        have GA2 := Lib.hid gA2
        have Gm2 := Lib.hid gm2
        have Gc2 := Lib.hid gc2
        have hm24 : j + 1 + m2 = na + 1 := by omega
        have hj' : j ≤ na := hjn
        have cb2 := (HX.out.alloc (.cells #[] 39)).cell (i := 0) rfl
        clear hr1 hr2 gA2 gm2 gc2
        go_upto_region 12 with (first
          | (at_builtin
             refine wpList_push2 rfl (.tmp 45) (.tmp 49) _ rfl _ 39 i0 _ 5 64 Try.underlying22 hi hz0 hz1 hz2 rfl (by decide) _ _ _ rfl (Ow.new_ (cs := #[]) (Below.refl wo.heap.size wo) (Nat.le_refl _) (Nat.le_refl _) (Nat.zero_le _) rfl) _ Aa j ca (rowsV vC (Va.take j)) rfl (HR1.out.al _) (rowsV_one vC vC_one _) (by unfold maxLen; omega) (by omega) ?_
             intro v1 w1 how1 hb1 hgr
             rw [Nat.zero_add, List.toList_toArray, List.nil_append] at how1
             obtain ⟨A1x, c1x, rfl, -⟩ := how1.rds
             have HO1 : RowKit.Hid (Ow wo wo.heap.size 39 5 (.slice A1x j c1x) j (rowsV vC (Va.take j)) w1) := Lib.hid how1
             have HB1b : RowKit.Hid (Below wo.heap.size wo w1) := Lib.hid how1.below
             have HB2s : RowKit.Hid (wo.heap.size ≤ w1.heap.size) := Lib.hid how1.below.size
             clear how1 hb1 hgr))
        clear cb cb2
        obtain ⟨B2, gB2⟩ : ∃ z, wo.heap.size = z := ⟨_, rfl⟩
        have HBw := Lib.hid gB2
        rw [gB2] at HO1 HB1b HB2s
        clear gB2
        have HBo : RowKit.Hid (Below wo.heap.size wo w1) := Lib.hid (by rw [HBw.out]; exact HB1b.out)
        have HX1 := Lib.hid (HX.out.bl HBo.out)
        have HI1 := Lib.hid (HI.out.bl HBo.out)
        have hlt0 : b0 < B2 := by have := HX.out.lt; have := HBw.out; omega
        have hlt1 : b1 < B2 := by have := HI.out.lt; have := HBw.out; omega
        have ldb : ∀ w', Kept (From_ B2) w1.drew w' → w'.cell? ⟨b0, 0, none⟩ = some (.slice Aa na ca) := fun w' h => h.from_cell hlt0 (HX1.out.dr.cell (i := 0) rfl)
        have ldx : ∀ w', Kept (From_ B2) w1.drew w' → w'.cell? ⟨b1, 0, none⟩ = some (.int .i64 x1) := fun w' h => h.from_cell hlt1 (HI1.out.dr.cell (i := 0) rfl)
        have ldy : ∀ w', Kept (From_ B2) w1.drew w' → w'.cell? ⟨b1, 1, none⟩ = some (.int .i64 x2) := fun w' h => h.from_cell hlt1 (HI1.out.dr.cell (i := 1) rfl)
        refine wp_region_reg (From_ B2) (by kernel_rfl) ?_
        apply wpR_next 0 (some 51)
        · simp only [List.getElem?_toArray, List.getElem?_cons_succ, List.getElem?_cons_zero]; exact rfl
        · rfl
        · kernel_rfl
        · kernel_rfl
        · kernel_rfl
        · exact fun _ _ _ _ h => h
        apply Exists.intro
        apply And.intro
        · apply yr_run; rfl; intro w' hw'; go_simp; (try with_reducible rfl)
        simp only [Act.put, List.setIfInBounds_toArray, List.set_cons_zero, List.set_cons_succ]
        apply wpR_next 1 (some 52)
        · simp only [List.getElem?_toArray, List.getElem?_cons_succ, List.getElem?_cons_zero]; exact rfl
        · rfl
        · kernel_rfl
        · kernel_rfl
        · kernel_rfl
        · exact fun _ _ _ _ h => h
        apply Exists.intro
        apply And.intro
        · apply yr_run; rfl; intro w' hw'; go_simp; (try with_reducible rfl)
        simp only [Act.put, List.setIfInBounds_toArray, List.set_cons_zero, List.set_cons_succ]
        apply wpR_next 2 (some 53)
        · simp only [List.getElem?_toArray, List.getElem?_cons_succ, List.getElem?_cons_zero]; exact rfl
        · rfl
        · kernel_rfl
        · kernel_rfl
        · kernel_rfl
        · exact fun _ _ _ _ h => h
        apply Exists.intro
        apply And.intro
        · apply yr_run; rfl; intro w' hw'; go_simp; (try with_reducible rfl)
        simp only [Act.put, List.setIfInBounds_toArray, List.set_cons_zero, List.set_cons_succ]
        apply wpR_next 5 (some 56)
        · simp only [List.getElem?_toArray, List.getElem?_cons_succ, List.getElem?_cons_zero]; exact rfl
        · rfl
        · kernel_rfl
        · kernel_rfl
        · kernel_rfl
        · exact fun _ _ _ _ h => h
        apply Exists.intro
        apply And.intro
        · apply yr_run; rfl; intro w' hw'; go_simp; (try with_reducible rfl)
        simp only [Act.put, List.setIfInBounds_toArray, List.set_cons_zero, List.set_cons_succ]
        apply wpR_next 6 (some 57)
        · simp only [List.getElem?_toArray, List.getElem?_cons_succ, List.getElem?_cons_zero]; exact rfl
        · rfl
        · kernel_rfl
        · kernel_rfl
        · kernel_rfl
        · exact fun _ _ _ _ h => h
        apply Exists.intro
        apply And.intro
        · apply yr_run; rfl; intro w' hw'; go_simp; (try with_reducible rfl)
        simp only [Act.put, List.setIfInBounds_toArray, List.set_cons_zero, List.set_cons_succ]
        apply wpR_next 7 (some 58)
        · simp only [List.getElem?_toArray, List.getElem?_cons_succ, List.getElem?_cons_zero]; exact rfl
        · rfl
        · kernel_rfl
        · kernel_rfl
        · kernel_rfl
        · exact fun _ _ _ _ h => h
        apply Exists.intro
        apply And.intro
        · apply yr_run; rfl; intro w' hw'; go_simp; (try with_reducible rfl)
        simp only [Act.put, List.setIfInBounds_toArray, List.set_cons_zero, List.set_cons_succ]
        apply wpR_next 8 (some 59)
        · simp only [List.getElem?_toArray, List.getElem?_cons_succ, List.getElem?_cons_zero]; exact rfl
        · rfl
        · kernel_rfl
        · kernel_rfl
        · kernel_rfl
        · exact fun _ _ _ _ h => h
        apply Exists.intro
        apply And.intro
        · exact yr_run (by rfl) (fun w' h => exec_slice_low_as 22 39 (.tmp 57) (.tmp 58) rfl Try.underlying22 (s := 5) (by kernel_rfl) rfl rfl hj' GA2.out Gm2.out Gc2.out)
        simp only [Act.put, List.setIfInBounds_toArray, List.set_cons_zero, List.set_cons_succ]
        apply wpR_run 3 (some 54)
        · simp only [List.getElem?_toArray, List.getElem?_cons_succ, List.getElem?_cons_zero]; exact rfl
        · rfl
        · kernel_rfl
        · rfl
        intro w' hw'
        refine ⟨.slice (some ⟨w'.heap.size, 0, none⟩) 1 1, w'.alloc (.cells (vC (newV (x1, x2))).toArray 39), exec_buildSlice 22 39 1 #[(0, .tmp 53)] (by rfl) Try.underlying22 _ (by kernel_rfl), Kept.of_below (below1 _ _), ?_⟩
        have HE3 : RowKit.Hid (Below w1.heap.size w1 (w'.alloc (.cells (vC (newV (x1, x2))).toArray 39))) := Lib.hid (bel_al (bel_bl (bel_dr (Below.refl _ _)) hw') _)
        have HL3 : RowKit.Hid (RdS (w'.alloc (.cells (vC (newV (x1, x2))).toArray 39)) (w'.alloc (.cells (vC (newV (x1, x2))).toArray 39)).heap.size 5 (some ⟨w'.heap.size, 0, none⟩) 1 1 (vC (newV (x1, x2)))) := Lib.hid (RdS.of_whole (Whole.new_ _ _ _) rfl)
        have HO3 := Lib.hid (HO1.out.up HE3.out)
        obtain ⟨W3, gW3⟩ : ∃ z, w'.alloc (.cells (vC (newV (x1, x2))).toArray 39) = z := ⟨_, rfl⟩
        obtain ⟨g3, gg3⟩ : ∃ z, w'.heap.size = z := ⟨_, rfl⟩
        rw [gW3] at HE3 HL3 HO3 ⊢
        rw [gg3] at HL3 ⊢
        clear hw' gW3 gg3
        simp only [Act.put, List.setIfInBounds_toArray, List.set_cons_zero, List.set_cons_succ]
        apply wpR_run 4 (some 55)
        · simp only [List.getElem?_toArray, List.getElem?_cons_succ, List.getElem?_cons_zero]; exact rfl
        · rfl
        · kernel_rfl
        · rfl
        intro w' hw'
        obtain ⟨v8, w'', hrun, ho, hb8⟩ := Ow.app (P := Try.prog) 22 22 39 i0 _ 5 64 B2 Try.underlying22 hi hz0 hz1 hz2 rfl (by decide) _ _ _ (HO3.out.up hw') _ _ 1 1 _ (HL3.out.bl hw') (vC_one _) (by unfold maxLen; omega) (by omega)
        obtain ⟨A8, c8, rfl, -⟩ := ho.rds
        refine ⟨_, w'', exec_append (by rfl) (by rfl) (by rfl) hrun, Kept.of_from hb8, ?_⟩
        have HO8 := Lib.hid ho
        have HE8 : RowKit.Hid (Below B2 wo w'') := Lib.hid ((((HB1b.out.trans (HE3.out.mono HB2s.out)).trans (hw'.mono (Nat.le_trans HB2s.out HE3.out.size)))).trans hb8)
        obtain ⟨W4, gW4⟩ : ∃ z, w'' = z := ⟨_, rfl⟩
        rw [gW4] at HO8 HE8 ⊢
        clear hw' hrun ho hb8 gW4 HO3 HL3 HE3
        simp only [Act.put, List.setIfInBounds_toArray, List.set_cons_zero, List.set_cons_succ]
        apply wpR_run 9 (some 60)
        · simp only [List.getElem?_toArray, List.getElem?_cons_succ, List.getElem?_cons_zero]; exact rfl
        · rfl
        · kernel_rfl
        · rfl
        intro w' hw'
        have hrd : RdS w' w'.heap.size 5 A2 m2 c2 (rowsV vC (Va.drop j)) := (HR2.out.up (HE8.out.mono (Nat.le_of_eq HBw.out)) HE8.out.size).bl hw'
        obtain ⟨v9, w'', hrun, ho, hb9⟩ := Ow.app (P := Try.prog) 22 22 39 i0 _ 5 64 B2 Try.underlying22 hi hz0 hz1 hz2 rfl (by decide) _ _ _ (HO8.out.up hw') _ A2 m2 c2 _ hrd (rowsV_one vC vC_one _) (by unfold maxLen; omega) (by omega)
        obtain ⟨A9, c9, rfl, -⟩ := ho.rds
        refine ⟨_, w'', exec_append (by rfl) (by rfl) (by rfl) hrun, Kept.of_from hb9, ?_⟩
        have HO9 := Lib.hid ho
        have HE9 : RowKit.Hid (Below B2 wo w'') := Lib.hid ((HE8.out.trans (hw'.mono (by have := HE8.out.size; have := HBw.out; omega))).trans hb9)
        obtain ⟨W5, gW5⟩ : ∃ z, w'' = z := ⟨_, rfl⟩
        rw [gW5] at HO9 HE9 ⊢
        clear hw' hrd hrun ho hb9 gW5 HO8 HE8
        simp only [Act.put, List.setIfInBounds_toArray, List.set_cons_zero, List.set_cons_succ]
        apply wpR_next 10 (some 11)
        · simp only [List.getElem?_toArray, List.getElem?_cons_succ, List.getElem?_cons_zero]; exact rfl
        · rfl
        · kernel_rfl
        · kernel_rfl
        · kernel_rfl
        · exact fun _ _ _ _ h => h
        apply Exists.intro
        apply And.intro
        · apply yr_run; rfl; intro w' hw'; go_simp; (try with_reducible rfl)
        simp only [Act.put, List.setIfInBounds_toArray, List.set_cons_zero, List.set_cons_succ]
        refine wpR_done (by kernel_rfl) ?_ _
        intro W7 hw7
        have hb7 : Below wo.heap.size wo W7 := by
          have h1 := HE9.out
          rw [← HBw.out] at h1
          exact h1.trans (hw7.mono h1.size)
        have HB7 := Lib.hid (bel_bl HB.out hb7)
        have HX7 := Lib.hid (HX.out.bl hb7)
        have HI7 := Lib.hid (HI.out.bl hb7)
        have HD7 := Lib.hid (HD.out.bl hb7)
        have ho7 := HO9.out.up hw7
        rw [hm24] at ho7
        have hrow : rowsV vC (Va.take j) ++ vC (newV (x1, x2)) ++ rowsV vC (Va.drop j) = rowsV vC (Va.take j ++ newV (x1, x2) :: Va.drop j) := by
          rw [rowsV_app, List.append_assoc]
          rfl
        rw [hrow] at ho7
        have HK7 : RowKit.Hid (DgIn W7 A9 (na + 1) c9 (Va.take j ++ newV (x1, x2) :: Va.drop j) Ba ma ka Ea) := Lib.hid ⟨own_rds ho7.own, HD7.out.e, fun y hy => by
          rcases List.mem_append.1 hy with hy | hy
          · exact HD7.out.r y (List.mem_of_mem_take hy)
          · rcases List.mem_cons.1 hy with rfl | hy
            · exact ⟨Nat.zero_le _, RdS.no _ _ _⟩
            · exact HD7.out.r y (List.mem_of_mem_drop hy)⟩
        clear hw7 hb7 ho7 hrow HE9 HO9 HB HX HI HD HX1 HI1 ldb ldx ldy HBo HB1b HB2s HO1 hlt0 hlt1
        rw [hm24]
        have cb := HX7.out.cell (i := 1) rfl
        go_wp2_with fail
        refine (HFk.out j _ _ _ hj' HK7.out).mono ?_
        rintro e W8 ⟨rfl, hb⟩
        have HB8 := Lib.hid (bel_bl HB7.out hb)
        have HX8 := Lib.hid (HX7.out.bl hb)
        have HI8 := Lib.hid (HI7.out.bl hb)
        have HD8 := Lib.hid (HD7.out.bl hb)
        clear hb cb HB7 HX7 HI7 HD7 HK7
        obtain ⟨bi, gbi⟩ : ∃ z, insB L (x1, x2) j = z := ⟨_, rfl⟩
        have HG8 : RowKit.Hid ((List.range (j + 1)).any (insB L (x1, x2)) = (sm || bi)) := Lib.hid (by rw [range_any, HG.out, gbi])
        have HOx : RowKit.Hid (bi = true → sm = false) := Lib.hid (fun e => by
          have h1 := HOn.out j hj' (gbi.trans e)
          rw [HG.out] at h1
          exact h1)
        rw [gbi]
        clear gbi HG
        cases bi with
        | true =>
          obtain rfl : sm = false := HOx.out rfl
          rw [if_pos rfl]
          go_wp2
          go_roundw
          case rel => exact ⟨j + 1, true, by omega, by go_num, rfl, HB8, HX8, HI8, HD8, HG8⟩
          case measure => simp [intOf]; omega
        | false =>
          rw [if_neg (by decide)]
          cases sm with
          | true =>
            go_wp2
            go_roundw
            case rel => exact ⟨j + 1, true, by omega, by go_num, rfl, HB8, HX8, HI8, HD8, HG8⟩
            case measure => simp [intOf]; omega
          | false =>
            go_wp2
            go_roundw
            case rel => exact ⟨j + 1, false, by omega, by go_num, rfl, HB8, HX8, HI8, HD8, HG8⟩
            case measure => simp [intOf]; omega
      · obtain rfl : j = na + 1 := by omega
        have hsm := HG.out.symm.trans HAn.out
        subst hsm
        have hjI : ¬ ((na : Int) + 1 ≤ (na : Int)) := by omega
        have hjI2 : ¬ (((na + 1 : Nat) : Int) ≤ (na : Int)) := by omega
        go_wp2
        go_ret
        exact ⟨by first | rfl | simp, HB.out⟩
  | true =>
    cases ok with
    | false =>
      obtain rfl : my = true := by rw [← gmy]; rfl
      clear hwal gmy
      go_wp2
      go_loopw [9, 10] (fun ss si wr => ∃ (j : Nat) (sm : Bool), j ≤ na + 1 ∧ si = .int .i64 j ∧ ss = .bool sm ∧ RowKit.Hid (Below w.heap.size w wr) ∧ RowKit.Hid (Whole wr b0 25 [.slice Aa na ca, .slice Ba ma ka]) ∧ RowKit.Hid (Whole wr b1 34 [.int .i64 x1, .int .i64 x2]) ∧ RowKit.Hid (DgIn wr Aa na ca Va Ba ma ka Ea) ∧ RowKit.Hid ((List.range j).any (insB L (x1, x2)) = sm)) (fun _ si _ => na + 1 - (intOf si).toNat)
      case atStart => exact ⟨0, false, by omega, rfl, rfl, HB0, HX0, HI0, HD0, Lib.hid rfl⟩
      case round =>
        clear HB0 HX0 HI0 HD0
        obtain ⟨j, sm, hj, rfl, rfl, HB, HX, HI, HD, HG⟩ := hrel
        obtain ⟨wo, gwo⟩ : ∃ z, wr = z := ⟨_, rfl⟩
        rw [gwo] at HB HX HI HD ⊢
        clear gwo
        have cb := HX.out.cell (i := 0) rfl
        by_cases hjn : j ≤ na
        · have hjI : (j : Int) ≤ (na : Int) := by omega
          have hr1 := HD.out.v.take_ j hjn
          rw [← rowsV_take vC vC_len] at hr1
          have hr2 := HD.out.v.low_ hjn
          rw [← rowsV_drop vC vC_len] at hr2
          have hjc : j ≤ ca := by have := HD.out.v.le; omega
          have hca : ca ≤ 9223372036854775807 := by have := Fa.out.fresh.1; unfold maxLen at this; omega
          obtain ⟨A2, gA2⟩ : ∃ z, (if ca = j then Aa else Aa.map (·.add (j * 5))) = z := ⟨_, rfl⟩
          obtain ⟨m2, gm2⟩ : ∃ z, na - j = z := ⟨_, rfl⟩
          obtain ⟨c2, gc2⟩ : ∃ z, ca - j = z := ⟨_, rfl⟩
          rw [gA2, gm2, gc2] at hr2
          have HR1 := Lib.hid hr1
          have HR2 := Lib.hid hr2
          have GA2 := Lib.hid gA2
          have Gm2 := Lib.hid gm2
          have Gc2 := Lib.hid gc2
          have hm24 : j + 1 + m2 = na + 1 := by omega
          have hj' : j ≤ na := hjn
          have cb2 := (HX.out.alloc (.cells #[] 39)).cell (i := 0) rfl
          clear hr1 hr2 gA2 gm2 gc2
          go_upto_region 12 with (first
            | (at_builtin
               refine wpList_push2 rfl (.tmp 45) (.tmp 49) _ rfl _ 39 i0 _ 5 64 Try.underlying22 hi hz0 hz1 hz2 rfl (by decide) _ _ _ rfl (Ow.new_ (cs := #[]) (Below.refl wo.heap.size wo) (Nat.le_refl _) (Nat.le_refl _) (Nat.zero_le _) rfl) _ Aa j ca (rowsV vC (Va.take j)) rfl (HR1.out.al _) (rowsV_one vC vC_one _) (by unfold maxLen; omega) (by omega) ?_
               intro v1 w1 how1 hb1 hgr
               rw [Nat.zero_add, List.toList_toArray, List.nil_append] at how1
               obtain ⟨A1x, c1x, rfl, -⟩ := how1.rds
               have HO1 : RowKit.Hid (Ow wo wo.heap.size 39 5 (.slice A1x j c1x) j (rowsV vC (Va.take j)) w1) := Lib.hid how1
               have HB1b : RowKit.Hid (Below wo.heap.size wo w1) := Lib.hid how1.below
               have HB2s : RowKit.Hid (wo.heap.size ≤ w1.heap.size) := Lib.hid how1.below.size
               clear how1 hb1 hgr))
          clear cb cb2
          obtain ⟨B2, gB2⟩ : ∃ z, wo.heap.size = z := ⟨_, rfl⟩
          have HBw := Lib.hid gB2
          rw [gB2] at HO1 HB1b HB2s
          clear gB2
          have HBo : RowKit.Hid (Below wo.heap.size wo w1) := Lib.hid (by rw [HBw.out]; exact HB1b.out)
          have HX1 := Lib.hid (HX.out.bl HBo.out)
          have HI1 := Lib.hid (HI.out.bl HBo.out)
          have hlt0 : b0 < B2 := by have := HX.out.lt; have := HBw.out; omega
          have hlt1 : b1 < B2 := by have := HI.out.lt; have := HBw.out; omega
          have ldb : ∀ w', Kept (From_ B2) w1.drew w' → w'.cell? ⟨b0, 0, none⟩ = some (.slice Aa na ca) := fun w' h => h.from_cell hlt0 (HX1.out.dr.cell (i := 0) rfl)
          have ldx : ∀ w', Kept (From_ B2) w1.drew w' → w'.cell? ⟨b1, 0, none⟩ = some (.int .i64 x1) := fun w' h => h.from_cell hlt1 (HI1.out.dr.cell (i := 0) rfl)
          have ldy : ∀ w', Kept (From_ B2) w1.drew w' → w'.cell? ⟨b1, 1, none⟩ = some (.int .i64 x2) := fun w' h => h.from_cell hlt1 (HI1.out.dr.cell (i := 1) rfl)
          refine wp_region_reg (From_ B2) (by kernel_rfl) ?_
          apply wpR_next 0 (some 51)
          · simp only [List.getElem?_toArray, List.getElem?_cons_succ, List.getElem?_cons_zero]; exact rfl
          · rfl
          · kernel_rfl
          · kernel_rfl
          · kernel_rfl
          · exact fun _ _ _ _ h => h
          apply Exists.intro
          apply And.intro
          · apply yr_run; rfl; intro w' hw'; go_simp; (try with_reducible rfl)
          simp only [Act.put, List.setIfInBounds_toArray, List.set_cons_zero, List.set_cons_succ]
          apply wpR_next 1 (some 52)
          · simp only [List.getElem?_toArray, List.getElem?_cons_succ, List.getElem?_cons_zero]; exact rfl
          · rfl
          · kernel_rfl
          · kernel_rfl
          · kernel_rfl
          · exact fun _ _ _ _ h => h
          apply Exists.intro
          apply And.intro
          · apply yr_run; rfl; intro w' hw'; go_simp; (try with_reducible rfl)
          simp only [Act.put, List.setIfInBounds_toArray, List.set_cons_zero, List.set_cons_succ]
          apply wpR_next 2 (some 53)
          · simp only [List.getElem?_toArray, List.getElem?_cons_succ, List.getElem?_cons_zero]; exact rfl
          · rfl
          · kernel_rfl
          · kernel_rfl
          · kernel_rfl
          · exact fun _ _ _ _ h => h
          apply Exists.intro
          apply And.intro
          · apply yr_run; rfl; intro w' hw'; go_simp; (try with_reducible rfl)
          simp only [Act.put, List.setIfInBounds_toArray, List.set_cons_zero, List.set_cons_succ]
          apply wpR_next 5 (some 56)
          · simp only [List.getElem?_toArray, List.getElem?_cons_succ, List.getElem?_cons_zero]; exact rfl
          · rfl
          · kernel_rfl
          · kernel_rfl
          · kernel_rfl
          · exact fun _ _ _ _ h => h
          apply Exists.intro
          apply And.intro
          · apply yr_run; rfl; intro w' hw'; go_simp; (try with_reducible rfl)
          simp only [Act.put, List.setIfInBounds_toArray, List.set_cons_zero, List.set_cons_succ]
          apply wpR_next 6 (some 57)
          · simp only [List.getElem?_toArray, List.getElem?_cons_succ, List.getElem?_cons_zero]; exact rfl
          · rfl
          · kernel_rfl
          · kernel_rfl
          · kernel_rfl
          · exact fun _ _ _ _ h => h
          apply Exists.intro
          apply And.intro
          · apply yr_run; rfl; intro w' hw'; go_simp; (try with_reducible rfl)
          simp only [Act.put, List.setIfInBounds_toArray, List.set_cons_zero, List.set_cons_succ]
          apply wpR_next 7 (some 58)
          · simp only [List.getElem?_toArray, List.getElem?_cons_succ, List.getElem?_cons_zero]; exact rfl
          · rfl
          · kernel_rfl
          · kernel_rfl
          · kernel_rfl
          · exact fun _ _ _ _ h => h
          apply Exists.intro
          apply And.intro
          · apply yr_run; rfl; intro w' hw'; go_simp; (try with_reducible rfl)
          simp only [Act.put, List.setIfInBounds_toArray, List.set_cons_zero, List.set_cons_succ]
          apply wpR_next 8 (some 59)
          · simp only [List.getElem?_toArray, List.getElem?_cons_succ, List.getElem?_cons_zero]; exact rfl
          · rfl
          · kernel_rfl
          · kernel_rfl
          · kernel_rfl
          · exact fun _ _ _ _ h => h
          apply Exists.intro
          apply And.intro
          · exact yr_run (by rfl) (fun w' h => exec_slice_low_as 22 39 (.tmp 57) (.tmp 58) rfl Try.underlying22 (s := 5) (by kernel_rfl) rfl rfl hj' GA2.out Gm2.out Gc2.out)
          simp only [Act.put, List.setIfInBounds_toArray, List.set_cons_zero, List.set_cons_succ]
          apply wpR_run 3 (some 54)
          · simp only [List.getElem?_toArray, List.getElem?_cons_succ, List.getElem?_cons_zero]; exact rfl
          · rfl
          · kernel_rfl
          · rfl
          intro w' hw'
          refine ⟨.slice (some ⟨w'.heap.size, 0, none⟩) 1 1, w'.alloc (.cells (vC (newV (x1, x2))).toArray 39), exec_buildSlice 22 39 1 #[(0, .tmp 53)] (by rfl) Try.underlying22 _ (by kernel_rfl), Kept.of_below (below1 _ _), ?_⟩
          have HE3 : RowKit.Hid (Below w1.heap.size w1 (w'.alloc (.cells (vC (newV (x1, x2))).toArray 39))) := Lib.hid (bel_al (bel_bl (bel_dr (Below.refl _ _)) hw') _)
          have HL3 : RowKit.Hid (RdS (w'.alloc (.cells (vC (newV (x1, x2))).toArray 39)) (w'.alloc (.cells (vC (newV (x1, x2))).toArray 39)).heap.size 5 (some ⟨w'.heap.size, 0, none⟩) 1 1 (vC (newV (x1, x2)))) := Lib.hid (RdS.of_whole (Whole.new_ _ _ _) rfl)
          have HO3 := Lib.hid (HO1.out.up HE3.out)
          obtain ⟨W3, gW3⟩ : ∃ z, w'.alloc (.cells (vC (newV (x1, x2))).toArray 39) = z := ⟨_, rfl⟩
          obtain ⟨g3, gg3⟩ : ∃ z, w'.heap.size = z := ⟨_, rfl⟩
          rw [gW3] at HE3 HL3 HO3 ⊢
          rw [gg3] at HL3 ⊢
          clear hw' gW3 gg3
          simp only [Act.put, List.setIfInBounds_toArray, List.set_cons_zero, List.set_cons_succ]
          apply wpR_run 4 (some 55)
          · simp only [List.getElem?_toArray, List.getElem?_cons_succ, List.getElem?_cons_zero]; exact rfl
          · rfl
          · kernel_rfl
          · rfl
          intro w' hw'
          obtain ⟨v8, w'', hrun, ho, hb8⟩ := Ow.app (P := Try.prog) 22 22 39 i0 _ 5 64 B2 Try.underlying22 hi hz0 hz1 hz2 rfl (by decide) _ _ _ (HO3.out.up hw') _ _ 1 1 _ (HL3.out.bl hw') (vC_one _) (by unfold maxLen; omega) (by omega)
          obtain ⟨A8, c8, rfl, -⟩ := ho.rds
          refine ⟨_, w'', exec_append (by rfl) (by rfl) (by rfl) hrun, Kept.of_from hb8, ?_⟩
          have HO8 := Lib.hid ho
          have HE8 : RowKit.Hid (Below B2 wo w'') := Lib.hid ((((HB1b.out.trans (HE3.out.mono HB2s.out)).trans (hw'.mono (Nat.le_trans HB2s.out HE3.out.size)))).trans hb8)
          obtain ⟨W4, gW4⟩ : ∃ z, w'' = z := ⟨_, rfl⟩
          rw [gW4] at HO8 HE8 ⊢
          clear hw' hrun ho hb8 gW4 HO3 HL3 HE3
          simp only [Act.put, List.setIfInBounds_toArray, List.set_cons_zero, List.set_cons_succ]
          apply wpR_run 9 (some 60)
          · simp only [List.getElem?_toArray, List.getElem?_cons_succ, List.getElem?_cons_zero]; exact rfl
          · rfl
          · kernel_rfl
          · rfl
          intro w' hw'
          have hrd : RdS w' w'.heap.size 5 A2 m2 c2 (rowsV vC (Va.drop j)) := (HR2.out.up (HE8.out.mono (Nat.le_of_eq HBw.out)) HE8.out.size).bl hw'
          obtain ⟨v9, w'', hrun, ho, hb9⟩ := Ow.app (P := Try.prog) 22 22 39 i0 _ 5 64 B2 Try.underlying22 hi hz0 hz1 hz2 rfl (by decide) _ _ _ (HO8.out.up hw') _ A2 m2 c2 _ hrd (rowsV_one vC vC_one _) (by unfold maxLen; omega) (by omega)
          obtain ⟨A9, c9, rfl, -⟩ := ho.rds
          refine ⟨_, w'', exec_append (by rfl) (by rfl) (by rfl) hrun, Kept.of_from hb9, ?_⟩
          have HO9 := Lib.hid ho
          have HE9 : RowKit.Hid (Below B2 wo w'') := Lib.hid ((HE8.out.trans (hw'.mono (by have := HE8.out.size; have := HBw.out; omega))).trans hb9)
          obtain ⟨W5, gW5⟩ : ∃ z, w'' = z := ⟨_, rfl⟩
          rw [gW5] at HO9 HE9 ⊢
          clear hw' hrd hrun ho hb9 gW5 HO8 HE8
          simp only [Act.put, List.setIfInBounds_toArray, List.set_cons_zero, List.set_cons_succ]
          apply wpR_next 10 (some 11)
          · simp only [List.getElem?_toArray, List.getElem?_cons_succ, List.getElem?_cons_zero]; exact rfl
          · rfl
          · kernel_rfl
          · kernel_rfl
          · kernel_rfl
          · exact fun _ _ _ _ h => h
          apply Exists.intro
          apply And.intro
          · apply yr_run; rfl; intro w' hw'; go_simp; (try with_reducible rfl)
          simp only [Act.put, List.setIfInBounds_toArray, List.set_cons_zero, List.set_cons_succ]
          refine wpR_done (by kernel_rfl) ?_ _
          intro W7 hw7
          have hb7 : Below wo.heap.size wo W7 := by
            have h1 := HE9.out
            rw [← HBw.out] at h1
            exact h1.trans (hw7.mono h1.size)
          have HB7 := Lib.hid (bel_bl HB.out hb7)
          have HX7 := Lib.hid (HX.out.bl hb7)
          have HI7 := Lib.hid (HI.out.bl hb7)
          have HD7 := Lib.hid (HD.out.bl hb7)
          have ho7 := HO9.out.up hw7
          rw [hm24] at ho7
          have hrow : rowsV vC (Va.take j) ++ vC (newV (x1, x2)) ++ rowsV vC (Va.drop j) = rowsV vC (Va.take j ++ newV (x1, x2) :: Va.drop j) := by
            rw [rowsV_app, List.append_assoc]
            rfl
          rw [hrow] at ho7
          have HK7 : RowKit.Hid (DgIn W7 A9 (na + 1) c9 (Va.take j ++ newV (x1, x2) :: Va.drop j) Ba ma ka Ea) := Lib.hid ⟨own_rds ho7.own, HD7.out.e, fun y hy => by
            rcases List.mem_append.1 hy with hy | hy
            · exact HD7.out.r y (List.mem_of_mem_take hy)
            · rcases List.mem_cons.1 hy with rfl | hy
              · exact ⟨Nat.zero_le _, RdS.no _ _ _⟩
              · exact HD7.out.r y (List.mem_of_mem_drop hy)⟩
          clear hw7 hb7 ho7 hrow HE9 HO9 HB HX HI HD HX1 HI1 ldb ldx ldy HBo HB1b HB2s HO1 hlt0 hlt1
          rw [hm24]
          have cb := HX7.out.cell (i := 1) rfl
          go_wp2_with fail
          refine (HFk.out j _ _ _ hj' HK7.out).mono ?_
          rintro e W8 ⟨rfl, hb⟩
          have HB8 := Lib.hid (bel_bl HB7.out hb)
          have HX8 := Lib.hid (HX7.out.bl hb)
          have HI8 := Lib.hid (HI7.out.bl hb)
          have HD8 := Lib.hid (HD7.out.bl hb)
          clear hb cb HB7 HX7 HI7 HD7 HK7
          obtain ⟨bi, gbi⟩ : ∃ z, insB L (x1, x2) j = z := ⟨_, rfl⟩
          have HG8 : RowKit.Hid ((List.range (j + 1)).any (insB L (x1, x2)) = (sm || bi)) := Lib.hid (by rw [range_any, HG.out, gbi])
          have HOx : RowKit.Hid (bi = true → sm = false) := Lib.hid (fun e => by
            have h1 := HOn.out j hj' (gbi.trans e)
            rw [HG.out] at h1
            exact h1)
          rw [gbi]
          clear gbi HG
          cases bi with
          | true =>
            obtain rfl : sm = false := HOx.out rfl
            rw [if_pos rfl]
            go_wp2
            go_roundw
            case rel => exact ⟨j + 1, true, by omega, by go_num, rfl, HB8, HX8, HI8, HD8, HG8⟩
            case measure => simp [intOf]; omega
          | false =>
            rw [if_neg (by decide)]
            cases sm with
            | true =>
              go_wp2
              go_roundw
              case rel => exact ⟨j + 1, true, by omega, by go_num, rfl, HB8, HX8, HI8, HD8, HG8⟩
              case measure => simp [intOf]; omega
            | false =>
              go_wp2
              go_roundw
              case rel => exact ⟨j + 1, false, by omega, by go_num, rfl, HB8, HX8, HI8, HD8, HG8⟩
              case measure => simp [intOf]; omega
        · obtain rfl : j = na + 1 := by omega
          have hsm := HG.out.symm.trans HAn.out
          subst hsm
          have hjI : ¬ ((na : Int) + 1 ≤ (na : Int)) := by omega
          have hjI2 : ¬ (((na + 1 : Nat) : Int) ≤ (na : Int)) := by omega
          go_wp2
          go_ret
          exact ⟨by first | rfl | simp, HB.out⟩
    | true =>
      obtain rfl : my = false := by rw [← gmy]; rfl
      clear hwal gmy
      go_wp2
      go_loopw [9, 10] (fun ss si wr => ∃ (j : Nat) (sm : Bool), j ≤ na + 1 ∧ si = .int .i64 j ∧ ss = .bool sm ∧ RowKit.Hid (Below w.heap.size w wr) ∧ RowKit.Hid (Whole wr b0 25 [.slice Aa na ca, .slice Ba ma ka]) ∧ RowKit.Hid (Whole wr b1 34 [.int .i64 x1, .int .i64 x2]) ∧ RowKit.Hid (DgIn wr Aa na ca Va Ba ma ka Ea) ∧ RowKit.Hid ((List.range j).any (insB L (x1, x2)) = sm)) (fun _ si _ => na + 1 - (intOf si).toNat)
      case atStart => exact ⟨0, false, by omega, rfl, rfl, HB0, HX0, HI0, HD0, Lib.hid rfl⟩
      case round =>
        clear HB0 HX0 HI0 HD0
        obtain ⟨j, sm, hj, rfl, rfl, HB, HX, HI, HD, HG⟩ := hrel
        obtain ⟨wo, gwo⟩ : ∃ z, wr = z := ⟨_, rfl⟩
        rw [gwo] at HB HX HI HD ⊢
        clear gwo
        have cb := HX.out.cell (i := 0) rfl
        by_cases hjn : j ≤ na
        · have hjI : (j : Int) ≤ (na : Int) := by omega
          have hr1 := HD.out.v.take_ j hjn
          rw [← rowsV_take vC vC_len] at hr1
          have hr2 := HD.out.v.low_ hjn
          rw [← rowsV_drop vC vC_len] at hr2
          have hjc : j ≤ ca := by have := HD.out.v.le; omega
          have hca : ca ≤ 9223372036854775807 := by have := Fa.out.fresh.1; unfold maxLen at this; omega
          obtain ⟨A2, gA2⟩ : ∃ z, (if ca = j then Aa else Aa.map (·.add (j * 5))) = z := ⟨_, rfl⟩
          obtain ⟨m2, gm2⟩ : ∃ z, na - j = z := ⟨_, rfl⟩
          obtain ⟨c2, gc2⟩ : ∃ z, ca - j = z := ⟨_, rfl⟩
          rw [gA2, gm2, gc2] at hr2
          have HR1 := Lib.hid hr1
          have HR2 := Lib.hid hr2
          have GA2 := Lib.hid gA2
          have Gm2 := Lib.hid gm2
          have Gc2 := Lib.hid gc2
          have hm24 : j + 1 + m2 = na + 1 := by omega
          have hj' : j ≤ na := hjn
          have cb2 := (HX.out.alloc (.cells #[] 39)).cell (i := 0) rfl
          clear hr1 hr2 gA2 gm2 gc2
          go_upto_region 12 with (first
            | (at_builtin
               refine wpList_push2 rfl (.tmp 45) (.tmp 49) _ rfl _ 39 i0 _ 5 64 Try.underlying22 hi hz0 hz1 hz2 rfl (by decide) _ _ _ rfl (Ow.new_ (cs := #[]) (Below.refl wo.heap.size wo) (Nat.le_refl _) (Nat.le_refl _) (Nat.zero_le _) rfl) _ Aa j ca (rowsV vC (Va.take j)) rfl (HR1.out.al _) (rowsV_one vC vC_one _) (by unfold maxLen; omega) (by omega) ?_
               intro v1 w1 how1 hb1 hgr
               rw [Nat.zero_add, List.toList_toArray, List.nil_append] at how1
               obtain ⟨A1x, c1x, rfl, -⟩ := how1.rds
               have HO1 : RowKit.Hid (Ow wo wo.heap.size 39 5 (.slice A1x j c1x) j (rowsV vC (Va.take j)) w1) := Lib.hid how1
               have HB1b : RowKit.Hid (Below wo.heap.size wo w1) := Lib.hid how1.below
               have HB2s : RowKit.Hid (wo.heap.size ≤ w1.heap.size) := Lib.hid how1.below.size
               clear how1 hb1 hgr))
          clear cb cb2
          obtain ⟨B2, gB2⟩ : ∃ z, wo.heap.size = z := ⟨_, rfl⟩
          have HBw := Lib.hid gB2
          rw [gB2] at HO1 HB1b HB2s
          clear gB2
          have HBo : RowKit.Hid (Below wo.heap.size wo w1) := Lib.hid (by rw [HBw.out]; exact HB1b.out)
          have HX1 := Lib.hid (HX.out.bl HBo.out)
          have HI1 := Lib.hid (HI.out.bl HBo.out)
          have hlt0 : b0 < B2 := by have := HX.out.lt; have := HBw.out; omega
          have hlt1 : b1 < B2 := by have := HI.out.lt; have := HBw.out; omega
          have ldb : ∀ w', Kept (From_ B2) w1.drew w' → w'.cell? ⟨b0, 0, none⟩ = some (.slice Aa na ca) := fun w' h => h.from_cell hlt0 (HX1.out.dr.cell (i := 0) rfl)
          have ldx : ∀ w', Kept (From_ B2) w1.drew w' → w'.cell? ⟨b1, 0, none⟩ = some (.int .i64 x1) := fun w' h => h.from_cell hlt1 (HI1.out.dr.cell (i := 0) rfl)
          have ldy : ∀ w', Kept (From_ B2) w1.drew w' → w'.cell? ⟨b1, 1, none⟩ = some (.int .i64 x2) := fun w' h => h.from_cell hlt1 (HI1.out.dr.cell (i := 1) rfl)
          refine wp_region_reg (From_ B2) (by kernel_rfl) ?_
          apply wpR_next 0 (some 51)
          · simp only [List.getElem?_toArray, List.getElem?_cons_succ, List.getElem?_cons_zero]; exact rfl
          · rfl
          · kernel_rfl
          · kernel_rfl
          · kernel_rfl
          · exact fun _ _ _ _ h => h
          apply Exists.intro
          apply And.intro
          · apply yr_run; rfl; intro w' hw'; go_simp; (try with_reducible rfl)
          simp only [Act.put, List.setIfInBounds_toArray, List.set_cons_zero, List.set_cons_succ]
          apply wpR_next 1 (some 52)
          · simp only [List.getElem?_toArray, List.getElem?_cons_succ, List.getElem?_cons_zero]; exact rfl
          · rfl
          · kernel_rfl
          · kernel_rfl
          · kernel_rfl
          · exact fun _ _ _ _ h => h
          apply Exists.intro
          apply And.intro
          · apply yr_run; rfl; intro w' hw'; go_simp; (try with_reducible rfl)
          simp only [Act.put, List.setIfInBounds_toArray, List.set_cons_zero, List.set_cons_succ]
          apply wpR_next 2 (some 53)
          · simp only [List.getElem?_toArray, List.getElem?_cons_succ, List.getElem?_cons_zero]; exact rfl
          · rfl
          · kernel_rfl
          · kernel_rfl
          · kernel_rfl
          · exact fun _ _ _ _ h => h
          apply Exists.intro
          apply And.intro
          · apply yr_run; rfl; intro w' hw'; go_simp; (try with_reducible rfl)
          simp only [Act.put, List.setIfInBounds_toArray, List.set_cons_zero, List.set_cons_succ]
          apply wpR_next 5 (some 56)
          · simp only [List.getElem?_toArray, List.getElem?_cons_succ, List.getElem?_cons_zero]; exact rfl
          · rfl
          · kernel_rfl
          · kernel_rfl
          · kernel_rfl
          · exact fun _ _ _ _ h => h
          apply Exists.intro
          apply And.intro
          · apply yr_run; rfl; intro w' hw'; go_simp; (try with_reducible rfl)
          simp only [Act.put, List.setIfInBounds_toArray, List.set_cons_zero, List.set_cons_succ]
          apply wpR_next 6 (some 57)
          · simp only [List.getElem?_toArray, List.getElem?_cons_succ, List.getElem?_cons_zero]; exact rfl
          · rfl
          · kernel_rfl
          · kernel_rfl
          · kernel_rfl
          · exact fun _ _ _ _ h => h
          apply Exists.intro
          apply And.intro
          · apply yr_run; rfl; intro w' hw'; go_simp; (try with_reducible rfl)
          simp only [Act.put, List.setIfInBounds_toArray, List.set_cons_zero, List.set_cons_succ]
          apply wpR_next 7 (some 58)
          · simp only [List.getElem?_toArray, List.getElem?_cons_succ, List.getElem?_cons_zero]; exact rfl
          · rfl
          · kernel_rfl
          · kernel_rfl
          · kernel_rfl
          · exact fun _ _ _ _ h => h
          apply Exists.intro
          apply And.intro
          · apply yr_run; rfl; intro w' hw'; go_simp; (try with_reducible rfl)
          simp only [Act.put, List.setIfInBounds_toArray, List.set_cons_zero, List.set_cons_succ]
          apply wpR_next 8 (some 59)
          · simp only [List.getElem?_toArray, List.getElem?_cons_succ, List.getElem?_cons_zero]; exact rfl
          · rfl
          · kernel_rfl
          · kernel_rfl
          · kernel_rfl
          · exact fun _ _ _ _ h => h
          apply Exists.intro
          apply And.intro
          · exact yr_run (by rfl) (fun w' h => exec_slice_low_as 22 39 (.tmp 57) (.tmp 58) rfl Try.underlying22 (s := 5) (by kernel_rfl) rfl rfl hj' GA2.out Gm2.out Gc2.out)
          simp only [Act.put, List.setIfInBounds_toArray, List.set_cons_zero, List.set_cons_succ]
          apply wpR_run 3 (some 54)
          · simp only [List.getElem?_toArray, List.getElem?_cons_succ, List.getElem?_cons_zero]; exact rfl
          · rfl
          · kernel_rfl
          · rfl
          intro w' hw'
          refine ⟨.slice (some ⟨w'.heap.size, 0, none⟩) 1 1, w'.alloc (.cells (vC (newV (x1, x2))).toArray 39), exec_buildSlice 22 39 1 #[(0, .tmp 53)] (by rfl) Try.underlying22 _ (by kernel_rfl), Kept.of_below (below1 _ _), ?_⟩
          have HE3 : RowKit.Hid (Below w1.heap.size w1 (w'.alloc (.cells (vC (newV (x1, x2))).toArray 39))) := Lib.hid (bel_al (bel_bl (bel_dr (Below.refl _ _)) hw') _)
          have HL3 : RowKit.Hid (RdS (w'.alloc (.cells (vC (newV (x1, x2))).toArray 39)) (w'.alloc (.cells (vC (newV (x1, x2))).toArray 39)).heap.size 5 (some ⟨w'.heap.size, 0, none⟩) 1 1 (vC (newV (x1, x2)))) := Lib.hid (RdS.of_whole (Whole.new_ _ _ _) rfl)
          have HO3 := Lib.hid (HO1.out.up HE3.out)
          obtain ⟨W3, gW3⟩ : ∃ z, w'.alloc (.cells (vC (newV (x1, x2))).toArray 39) = z := ⟨_, rfl⟩
          obtain ⟨g3, gg3⟩ : ∃ z, w'.heap.size = z := ⟨_, rfl⟩
          rw [gW3] at HE3 HL3 HO3 ⊢
          rw [gg3] at HL3 ⊢
          clear hw' gW3 gg3
          simp only [Act.put, List.setIfInBounds_toArray, List.set_cons_zero, List.set_cons_succ]
          apply wpR_run 4 (some 55)
          · simp only [List.getElem?_toArray, List.getElem?_cons_succ, List.getElem?_cons_zero]; exact rfl
          · rfl
          · kernel_rfl
          · rfl
          intro w' hw'
          obtain ⟨v8, w'', hrun, ho, hb8⟩ := Ow.app (P := Try.prog) 22 22 39 i0 _ 5 64 B2 Try.underlying22 hi hz0 hz1 hz2 rfl (by decide) _ _ _ (HO3.out.up hw') _ _ 1 1 _ (HL3.out.bl hw') (vC_one _) (by unfold maxLen; omega) (by omega)
          obtain ⟨A8, c8, rfl, -⟩ := ho.rds
          refine ⟨_, w'', exec_append (by rfl) (by rfl) (by rfl) hrun, Kept.of_from hb8, ?_⟩
          have HO8 := Lib.hid ho
          have HE8 : RowKit.Hid (Below B2 wo w'') := Lib.hid ((((HB1b.out.trans (HE3.out.mono HB2s.out)).trans (hw'.mono (Nat.le_trans HB2s.out HE3.out.size)))).trans hb8)
          obtain ⟨W4, gW4⟩ : ∃ z, w'' = z := ⟨_, rfl⟩
          rw [gW4] at HO8 HE8 ⊢
          clear hw' hrun ho hb8 gW4 HO3 HL3 HE3
          simp only [Act.put, List.setIfInBounds_toArray, List.set_cons_zero, List.set_cons_succ]
          apply wpR_run 9 (some 60)
          · simp only [List.getElem?_toArray, List.getElem?_cons_succ, List.getElem?_cons_zero]; exact rfl
          · rfl
          · kernel_rfl
          · rfl
          intro w' hw'
          have hrd : RdS w' w'.heap.size 5 A2 m2 c2 (rowsV vC (Va.drop j)) := (HR2.out.up (HE8.out.mono (Nat.le_of_eq HBw.out)) HE8.out.size).bl hw'
          obtain ⟨v9, w'', hrun, ho, hb9⟩ := Ow.app (P := Try.prog) 22 22 39 i0 _ 5 64 B2 Try.underlying22 hi hz0 hz1 hz2 rfl (by decide) _ _ _ (HO8.out.up hw') _ A2 m2 c2 _ hrd (rowsV_one vC vC_one _) (by unfold maxLen; omega) (by omega)
          obtain ⟨A9, c9, rfl, -⟩ := ho.rds
          refine ⟨_, w'', exec_append (by rfl) (by rfl) (by rfl) hrun, Kept.of_from hb9, ?_⟩
          have HO9 := Lib.hid ho
          have HE9 : RowKit.Hid (Below B2 wo w'') := Lib.hid ((HE8.out.trans (hw'.mono (by have := HE8.out.size; have := HBw.out; omega))).trans hb9)
          obtain ⟨W5, gW5⟩ : ∃ z, w'' = z := ⟨_, rfl⟩
          rw [gW5] at HO9 HE9 ⊢
          clear hw' hrd hrun ho hb9 gW5 HO8 HE8
          simp only [Act.put, List.setIfInBounds_toArray, List.set_cons_zero, List.set_cons_succ]
          apply wpR_next 10 (some 11)
          · simp only [List.getElem?_toArray, List.getElem?_cons_succ, List.getElem?_cons_zero]; exact rfl
          · rfl
          · kernel_rfl
          · kernel_rfl
          · kernel_rfl
          · exact fun _ _ _ _ h => h
          apply Exists.intro
          apply And.intro
          · apply yr_run; rfl; intro w' hw'; go_simp; (try with_reducible rfl)
          simp only [Act.put, List.setIfInBounds_toArray, List.set_cons_zero, List.set_cons_succ]
          refine wpR_done (by kernel_rfl) ?_ _
          intro W7 hw7
          have hb7 : Below wo.heap.size wo W7 := by
            have h1 := HE9.out
            rw [← HBw.out] at h1
            exact h1.trans (hw7.mono h1.size)
          have HB7 := Lib.hid (bel_bl HB.out hb7)
          have HX7 := Lib.hid (HX.out.bl hb7)
          have HI7 := Lib.hid (HI.out.bl hb7)
          have HD7 := Lib.hid (HD.out.bl hb7)
          have ho7 := HO9.out.up hw7
          rw [hm24] at ho7
          have hrow : rowsV vC (Va.take j) ++ vC (newV (x1, x2)) ++ rowsV vC (Va.drop j) = rowsV vC (Va.take j ++ newV (x1, x2) :: Va.drop j) := by
            rw [rowsV_app, List.append_assoc]
            rfl
          rw [hrow] at ho7
          have HK7 : RowKit.Hid (DgIn W7 A9 (na + 1) c9 (Va.take j ++ newV (x1, x2) :: Va.drop j) Ba ma ka Ea) := Lib.hid ⟨own_rds ho7.own, HD7.out.e, fun y hy => by
            rcases List.mem_append.1 hy with hy | hy
            · exact HD7.out.r y (List.mem_of_mem_take hy)
            · rcases List.mem_cons.1 hy with rfl | hy
              · exact ⟨Nat.zero_le _, RdS.no _ _ _⟩
              · exact HD7.out.r y (List.mem_of_mem_drop hy)⟩
          clear hw7 hb7 ho7 hrow HE9 HO9 HB HX HI HD HX1 HI1 ldb ldx ldy HBo HB1b HB2s HO1 hlt0 hlt1
          rw [hm24]
          have cb := HX7.out.cell (i := 1) rfl
          go_wp2_with fail
          refine (HFk.out j _ _ _ hj' HK7.out).mono ?_
          rintro e W8 ⟨rfl, hb⟩
          have HB8 := Lib.hid (bel_bl HB7.out hb)
          have HX8 := Lib.hid (HX7.out.bl hb)
          have HI8 := Lib.hid (HI7.out.bl hb)
          have HD8 := Lib.hid (HD7.out.bl hb)
          clear hb cb HB7 HX7 HI7 HD7 HK7
          obtain ⟨bi, gbi⟩ : ∃ z, insB L (x1, x2) j = z := ⟨_, rfl⟩
          have HG8 : RowKit.Hid ((List.range (j + 1)).any (insB L (x1, x2)) = (sm || bi)) := Lib.hid (by rw [range_any, HG.out, gbi])
          have HOx : RowKit.Hid (bi = true → sm = false) := Lib.hid (fun e => by
            have h1 := HOn.out j hj' (gbi.trans e)
            rw [HG.out] at h1
            exact h1)
          rw [gbi]
          clear gbi HG
          cases bi with
          | true =>
            obtain rfl : sm = false := HOx.out rfl
            rw [if_pos rfl]
            go_wp2
            go_roundw
            case rel => exact ⟨j + 1, true, by omega, by go_num, rfl, HB8, HX8, HI8, HD8, HG8⟩
            case measure => simp [intOf]; omega
          | false =>
            rw [if_neg (by decide)]
            cases sm with
            | true =>
              go_wp2
              go_roundw
              case rel => exact ⟨j + 1, true, by omega, by go_num, rfl, HB8, HX8, HI8, HD8, HG8⟩
              case measure => simp [intOf]; omega
            | false =>
              go_wp2
              go_roundw
              case rel => exact ⟨j + 1, false, by omega, by go_num, rfl, HB8, HX8, HI8, HD8, HG8⟩
              case measure => simp [intOf]; omega
        · obtain rfl : j = na + 1 := by omega
          have hsm := HG.out.symm.trans HAn.out
          subst hsm
          have hjI : ¬ ((na : Int) + 1 ≤ (na : Int)) := by omega
          have hjI2 : ¬ (((na + 1 : Nat) : Int) ≤ (na : Int)) := by omega
          go_wp2
          go_ret
          exact ⟨by first | rfl | simp, HB.out⟩
set_option maxRecDepth 100000 in
set_option maxHeartbeats 4000000 in
theorem law_vertices (A : Option Addr) (n c : Nat) (Vs : List VC) (B : Option Addr) (m k : Nat) (Es : List EC) (x1 x2 : Int) (w : World) (h : DgIn w A n c Vs B m k Es) (hg : GoodD Vs Es) (hn : n ≤ maxLen) (hm : m ≤ maxLen) :
    Calls Try.prog 6 #[.agg #[.slice A n c, .slice B m k], .agg #[.int .i64 x1, .int .i64 x2]] w fun e w' => e = .returned (.bool true) ∧ Below w.heap.size w w' := by
  by_cases hf : formD ((Vs.take 30).map fewV) (Es.take 50) = 0
  · by_cases hb : ((Vs.take 30).map fewV).length < 24
    · exact verts_yes A n c Vs B m k Es x1 x2 w h hg hn hm hf hb
    · exact verts_big A n c Vs B m k Es x1 x2 w h hg hn hm hf (by omega)
  · exact verts_no A n c Vs B m k Es x1 x2 w h hg hn hm hf
end Go.Proofs.Ytdhglhcpgmfpoaa
