/- DiagramLabels' walk. -/
import Derived.Test.YtdhglhcpgmfpoaaDgMc
namespace Go.Proofs.Ytdhglhcpgmfpoaa
open Go.RowKit
set_option linter.unusedSimpArgs false
set_option linter.unusedVariables false


/-- What is the same but for where rings lie. -/
theorem same_good {W W' : World} {A A' B B' : Option Addr} {n c m k n' c' m' k' : Nat} {Vs Ws : List VC} {Es Fs : List EC} (hs : Ws.map vS = Vs.map vS) (hw : DgIn W A n c Ws B m k Es) (hv : DgIn W' A' n' c' Vs B' m' k' Fs) (hg : GoodD Vs Es) (N : Nat) (hr : ∀ x ∈ Vs, x.2.1.2.1 ≤ N) :
    GoodD Ws Es ∧ ∀ x ∈ Ws, x.2.1.2.1 ≤ N := by
  have key : ∀ x ∈ Ws, ∃ y ∈ Vs, vS x = vS y := fun x hx => by
    have h1 : vS x ∈ Ws.map vS := List.mem_map.2 ⟨x, hx, rfl⟩
    rw [hs] at h1
    obtain ⟨y, hy, e⟩ := List.mem_map.1 h1
    exact ⟨y, hy, e.symm⟩
  refine ⟨⟨fun x hx d hd => ?_, hg.e, fun x hx => ?_, hg.le⟩, fun x hx => ?_⟩
  · obtain ⟨y, hy, e⟩ := key x hx
    have e1 : x.2.1.2.2.2 = y.2.1.2.2.2 := congrArg (fun s : (Int × Int) × List D × ByteArray × Int => s.2.1) e
    exact hg.v y hy d (e1 ▸ hd)
  · obtain ⟨y, hy, e⟩ := key x hx
    have e1 : x.2.2.1 = y.2.2.1 := congrArg (fun s : (Int × Int) × List D × ByteArray × Int => s.2.2.1) e
    rw [e1]
    exact hg.lv y hy
  · obtain ⟨y, hy, e⟩ := key x hx
    have e1 : x.2.1.2.2.2 = y.2.1.2.2.2 := congrArg (fun s : (Int × Int) × List D × ByteArray × Int => s.2.1) e
    have h1 := (hw.r x hx).2.dlen
    have h2 := (hv.r y hy).2.dlen
    rw [e1] at h1
    have := hr y hy
    omega
theorem Cl.lab {W : World} {lo : Nat} {A : Option Addr} {n c : Nat} {Ws : List VC} {B : Option Addr} {m k : Nat} {Es : List EC} (h : Cl W lo A n c Ws B m k Es) {j : Nat} {x : VC} (hx : Ws[j]? = some x) (hn : j < n) (s : ByteArray) :
    ∃ g, A = some ⟨g, 0, none⟩ ∧ lo ≤ g ∧ g < W.heap.size ∧ (∃ u, W.cell? ⟨g, j * 5 + 3, none⟩ = some u) ∧ W.frozen? ⟨g, j * 5 + 3, none⟩ = false ∧ DgIn (W.setCell ⟨g, j * 5 + 3, none⟩ (.string s)) A n c (Ws.set j (setLab x s)) B m k Es := by
  obtain ⟨g, junk, e, hlo, hw, hc, hf, ho⟩ := own_poke (i := 3) (y := setLab x s) (u := .string s) vC_len h.v hx hn (by omega) rfl
  refine ⟨g, e, hlo, hw.lt, ⟨_, hc.trans rfl⟩, hf, own_rds ho, own_rds (own_cell_far h.e (own_ne h.e hw (by decide)) _), fun y hy => ?_⟩
  have hr := h.r.cells hw (by decide) (j * 5 + 3) [.string s]
  have key : ∃ z ∈ Ws, y.2.1 = z.2.1 := by
    rcases List.mem_or_eq_of_mem_set hy with hy | rfl
    · exact ⟨y, hy, rfl⟩
    · exact ⟨x, List.mem_of_getElem? hx, rfl⟩
  obtain ⟨z, hz, ez⟩ := key
  rw [ez]
  exact ⟨own_cap (hr.own z hz), own_rds (hr.own z hz)⟩
set_option maxRecDepth 100000 in
set_option maxHeartbeats 4000000 in
theorem labels_no (A : Option Addr) (n c : Nat) (Vs : List VC) (B : Option Addr) (m k : Nat) (Es : List EC) (s0 s1 : ByteArray) (x : Int) (w : World) (h : DgIn w A n c Vs B m k Es) (hg : GoodD Vs Es) (hn : n ≤ maxLen) (hm : m ≤ maxLen) (hs0 : s0.size ≤ maxLen) (hs1 : s1.size ≤ maxLen) (hsum : s0.size + s1.size ≤ 9223372036854775807) (hf : formD ((Vs.take 30).map fewV) (Es.take 50) ≠ 0) :
    Calls Try.prog 8 #[.agg #[.slice A n c, .slice B m k], .agg #[.string s0, .string s1], .int .i64 x] w fun e w' => e = .returned (.bool true) ∧ Below w.heap.size w w' := by
  have HW := Lib.hid (fun W hb => few_step h hg hn hm W hb)
  obtain ⟨Va, gVa⟩ : ∃ z, (Vs.take 30).map fewV = z := ⟨_, rfl⟩
  obtain ⟨Ea, gEa⟩ : ∃ z, Es.take 50 = z := ⟨_, rfl⟩
  rw [gVa, gEa] at HW
  rw [gVa, gEa] at hf
  have HFn := Lib.hid hf
  clear hf
  have HL0 := Lib.hid (maylabel_any s0)
  have HL1 := Lib.hid (maylabel_any s1)
  have HL2 := Lib.hid (maylabel_any (s0 ++ s1))
  have hj := mayL_join s0 s1
  have h0 : mayL s0 = (decide (s0.size ≤ 16) && s0.data.toList.all okB) := rfl
  have h1 : mayL s1 = (decide (s1.size ≤ 16) && s1.data.toList.all okB) := rfl
  obtain ⟨p0, gp0⟩ : ∃ z, s0.data.toList.all okB = z := ⟨_, rfl⟩
  obtain ⟨p1, gp1⟩ : ∃ z, s1.data.toList.all okB = z := ⟨_, rfl⟩
  rw [gp0] at h0 hj
  rw [gp1] at h1 hj
  obtain ⟨la, gla⟩ : ∃ z, mayL s0 = z := ⟨_, rfl⟩
  obtain ⟨lb, glb⟩ : ∃ z, mayL s1 = z := ⟨_, rfl⟩
  obtain ⟨lc, glc⟩ : ∃ z, mayL (s0 ++ s1) = z := ⟨_, rfl⟩
  rw [gla] at HL0 h0
  rw [glb] at HL1 h1
  rw [glc] at HL2 hj
  have Gla := Lib.hid gla
  have hcase : (lc = true ∧ la = true ∧ lb = true ∧ s0.size + s1.size ≤ 16) ∨ (lc = false ∧ la = false) ∨ (lc = false ∧ la = true ∧ lb = false) ∨ (lc = false ∧ la = true ∧ lb = true ∧ 16 < s0.size + s1.size ∧ s0.size ≤ 16 ∧ s1.size ≤ 16) := by
    cases lc with
    | true =>
      have hj := hj.symm
      simp only [Bool.and_eq_true, decide_eq_true_eq] at hj
      refine .inl ⟨rfl, ?_, ?_, hj.1.1⟩
      · rw [h0, hj.1.2]; simp; omega
      · rw [h1, hj.2]; simp; omega
    | false =>
      cases la with
      | false => exact .inr (.inl ⟨rfl, rfl⟩)
      | true =>
        cases lb with
        | false => exact .inr (.inr (.inl ⟨rfl, rfl, rfl⟩))
        | true =>
          have h0 := h0.symm
          have h1 := h1.symm
          have hj := hj.symm
          simp only [Bool.and_eq_true, decide_eq_true_eq] at h0 h1
          rw [h0.2, h1.2] at hj
          simp at hj
          exact .inr (.inr (.inr ⟨rfl, rfl, rfl, by omega, h0.1, h1.1⟩))
  have hcat1 : ¬ ((9223372036854775807 : Int) < (s0.size : Int) + (s1.size : Int)) := by omega
  have hcat2 : ¬ ((9223372036854775807 : Int) < ((s0.size + s1.size : Nat) : Int)) := by omega
  have hcat3 : ¬ (9223372036854775807 < s0.size + s1.size) := by omega
  clear h hg hn hm gVa gEa hs0 hs1 hsum hj h0 h1 gp0 gp1 gla glb glc
  go_enter Try.func8, Try.ntmps8
  go_wp2_with fail
  refine (shown_any _).mono ?_
  rintro e w1 ⟨rfl, hb1⟩
  have D0_2 := Lib.hid (((show Whole (w.alloc (.cells #[.slice A n c, .slice B m k] 25)) (w.heap.size) (25) ([.slice A n c, .slice B m k]) from Whole.new2 (by first | rfl | simp)).al (.cells #[.string s0, .string s1] 59)).bl hb1)
  have S_2 := Lib.hid ((show Whole ((w.alloc (.cells #[.slice A n c, .slice B m k] 25)).alloc (.cells #[.string s0, .string s1] 59)) ((w.heap.size + 1)) (59) ([.string s0, .string s1]) from Whole.new2 (by first | rfl | simp)).bl hb1)
  have Bel_2 := Lib.hid (bel_bl (bel_al (bel_al (Below.refl _ w) (.cells #[.slice A n c, .slice B m k] 25)) (.cells #[.string s0, .string s1] 59)) hb1)
  clear hb1
  have LO_D0_3 : RowKit.Hid (w.heap.size ≤ w.heap.size) := Lib.hid (by omega)
  have LO_S_4 : RowKit.Hid (w.heap.size ≤ (w.heap.size + 1)) := Lib.hid (by omega)
  have NE_D0_S : RowKit.Hid (w.heap.size ≠ (w.heap.size + 1)) := Lib.hid (by omega)
  have lw5 : (w1).cell? ⟨w.heap.size, 0, none⟩ = some (.slice A n c) := D0_2.out.cell (i := 0) rfl
  have lw6 : (w1).cell? ⟨w.heap.size, 1, none⟩ = some (.slice B m k) := D0_2.out.cell (i := 1) rfl
  go_wp2_with fail
  clear lw5 lw6
  have LTN_a_D0 : RowKit.Hid (w.heap.size < w1.heap.size) := Lib.hid (D0_2.out).lt
  have LTN_a_S : RowKit.Hid ((w.heap.size + 1) < w1.heap.size) := Lib.hid (S_2.out).lt
  refine (HW.out _ Bel_2.out).mono ?_
  rintro e w7 ⟨Aa, na, ca, Ba, ma, ka, rfl, hF, hb7⟩
  have Fa := Lib.hid hF
  clear hF
  have D0_8 := Lib.hid (D0_2.out.bl hb7)
  have S_8 := Lib.hid (S_2.out.bl hb7)
  have Bel_8 := Lib.hid (bel_bl Bel_2.out hb7)
  clear D0_2 S_2 Bel_2
  clear hb7
  have lw9 : (w7).cell? ⟨w.heap.size, 0, none⟩ = some (.slice A n c) := D0_8.out.cell (i := 0) rfl
  have lw10 : (w7).cell? ⟨w.heap.size, 1, none⟩ = some (.slice B m k) := D0_8.out.cell (i := 1) rfl
  have fr0 := D0_8.out.free 0
  have fr1 := D0_8.out.free 1
  go_upto_region 3 with fail
  clear fr0 fr1 lw9 lw10
  obtain ⟨v11, gv11⟩ : ∃ x, (w7.setCell ⟨w.heap.size, 0, none⟩ (.slice Aa na ca)).setCell ⟨w.heap.size, 1, none⟩ (.slice Ba ma ka) = x := ⟨_, rfl⟩
  have D0_11 : RowKit.Hid (Whole v11 w.heap.size 25 [.slice Aa na ca, .slice Ba ma ka]) := Lib.hid (gv11 ▸ ((D0_8.out.set_ 0 (.slice Aa na ca)).set_ 1 (.slice Ba ma ka)))
  have S_11 := Lib.hid (show Whole v11 (w.heap.size + 1) _ _ from gv11 ▸ ((S_8.out.far (p := ⟨w.heap.size, 0, none⟩) (by show (w.heap.size + 1) ≠ w.heap.size; exact (Ne.symm NE_D0_S.out)) (.slice Aa na ca)).far (p := ⟨w.heap.size, 1, none⟩) (by show (w.heap.size + 1) ≠ w.heap.size; exact (Ne.symm NE_D0_S.out)) (.slice Ba ma ka)))
  have Bel_11 : RowKit.Hid (Below w.heap.size w v11) := Lib.hid (gv11 ▸ ((Bel_8.out.setCell (p := ⟨w.heap.size, 0, none⟩) (by show w.heap.size ≤ w.heap.size; exact LO_D0_3.out) _).setCell (p := ⟨w.heap.size, 1, none⟩) (by show w.heap.size ≤ w.heap.size; exact LO_D0_3.out) _))
  have Da_11 : RowKit.Hid (DgIn v11 Aa na ca Va Ba ma ka Ea) := Lib.hid (gv11 ▸ Fa.out.put (g := w.heap.size) (by show w.heap.size ≤ w.heap.size; exact LO_D0_3.out) LTN_a_D0.out _ _)
  rw [gv11]
  clear gv11
  clear D0_8 S_8 Bel_8
  have hr30 : ∀ x ∈ Va, x.2.1.2.1 ≤ 1000000 := fun x hx => by have := Fa.out.r30 x hx; omega
  have hn30 : na ≤ 1000000 := by have := Fa.out.n30; omega
  have hm50 : ma ≤ 1000000 := by have := Fa.out.m50; omega
  have HF1 := Lib.hid (fun W (h : DgIn W Aa na ca Va Ba ma ka Ea) => form_any Aa na ca Va Ba ma ka Ea W h hr30 Fa.out.good.e Fa.out.good.v)
  have HR30 := Lib.hid hr30
  clear hr30
  have lw12 : (v11).cell? ⟨(w.heap.size + 1), 0, none⟩ = some (.string s0) := S_11.out.cell (i := 0) rfl
  have lw13 : (v11).cell? ⟨(w.heap.size + 1), 1, none⟩ = some (.string s1) := S_11.out.cell (i := 1) rfl
  go_wp2_with fail
  clear lw12 lw13
  refine (HL0.out _).mono ?_
  rintro e w14 ⟨rfl, hb14⟩
  have D0_15 := Lib.hid (D0_11.out.bl hb14)
  have S_15 := Lib.hid (S_11.out.bl hb14)
  have Da_15 := Lib.hid (Da_11.out.bl hb14)
  have Bel_15 := Lib.hid (bel_bl Bel_11.out hb14)
  clear D0_11 S_11 Da_11 Bel_11
  clear hb14
  have lw16 : (w14).cell? ⟨(w.heap.size + 1), 0, none⟩ = some (.string s0) := S_15.out.cell (i := 0) rfl
  have lw17 : (w14).cell? ⟨(w.heap.size + 1), 1, none⟩ = some (.string s1) := S_15.out.cell (i := 1) rfl
  go_wp2_with fail
  clear lw16 lw17
  refine (HL1.out _).mono ?_
  rintro e w18 ⟨rfl, hb18⟩
  have D0_19 := Lib.hid (D0_15.out.bl hb18)
  have S_19 := Lib.hid (S_15.out.bl hb18)
  have Da_19 := Lib.hid (Da_15.out.bl hb18)
  have Bel_19 := Lib.hid (bel_bl Bel_15.out hb18)
  clear D0_15 S_15 Da_15 Bel_15
  clear hb18
  have lw20 : (w18).cell? ⟨(w.heap.size + 1), 0, none⟩ = some (.string s0) := S_19.out.cell (i := 0) rfl
  have lw21 : (w18).cell? ⟨(w.heap.size + 1), 1, none⟩ = some (.string s1) := S_19.out.cell (i := 1) rfl
  go_wp2_with fail
  clear lw20 lw21
  refine (HL2.out _).mono ?_
  rintro e w22 ⟨rfl, hb22⟩
  have D0_23 := Lib.hid (D0_19.out.bl hb22)
  have S_23 := Lib.hid (S_19.out.bl hb22)
  have Da_23 := Lib.hid (Da_19.out.bl hb22)
  have Bel_23 := Lib.hid (bel_bl Bel_19.out hb22)
  clear D0_19 S_19 Da_19 Bel_19
  clear hb22
  obtain ⟨fo, gfo⟩ : ∃ z, formD Va Ea = z := ⟨_, rfl⟩
  rw [gfo] at HF1
  have hfo : (fo != 0) = true := by rw [← gfo]; exact bne_iff_ne.2 HFn.out
  have hfo2 : (fo == 0) = false := by rw [← gfo]; exact beq_eq_false_iff_ne.2 HFn.out
  clear gfo HFn
  have lw24 : (w22).cell? ⟨(w.heap.size + 1), 0, none⟩ = some (.string s0) := S_23.out.cell (i := 0) rfl
  have lw25 : (w22).cell? ⟨(w.heap.size + 1), 1, none⟩ = some (.string s1) := S_23.out.cell (i := 1) rfl
  have lw26 : (w22).cell? ⟨w.heap.size, 0, none⟩ = some (.slice Aa na ca) := D0_23.out.cell (i := 0) rfl
  have lw27 : (w22).cell? ⟨w.heap.size, 1, none⟩ = some (.slice Ba ma ka) := D0_23.out.cell (i := 1) rfl
  rcases hcase with ⟨rfl, rfl, rfl, hz1⟩ | ⟨rfl, rfl⟩ | ⟨rfl, rfl, rfl⟩ | ⟨rfl, rfl, rfl, hz1, hz2, hz3⟩
  · have hzI : (s0.size : Int) + (s1.size : Int) ≤ 16 := by omega
    have hzW : IntKind.i64.wrap ((s0.size : Int) + (s1.size : Int)) = (s0.size : Int) + (s1.size : Int) := IntWalk.i64_in _ (by omega)
    clear hz1
    go_wp2_with fail
    clear lw24 lw25 lw26 lw27
    refine (HF1.out _ Da_23.out).mono ?_
    rintro e w28 ⟨rfl, hb28⟩
    have D0_29 := Lib.hid (D0_23.out.bl hb28)
    have S_29 := Lib.hid (S_23.out.bl hb28)
    have Da_29 := Lib.hid (Da_23.out.bl hb28)
    have Bel_29 := Lib.hid (bel_bl Bel_23.out hb28)
    clear D0_23 S_23 Da_23 Bel_23
    clear hb28
    go_wp2
    go_ret
    exact ⟨rfl, Bel_29.out⟩
  · skip
    go_wp2_with fail
    clear lw24 lw25 lw26 lw27
    refine (HF1.out _ Da_23.out).mono ?_
    rintro e w28 ⟨rfl, hb28⟩
    have D0_29 := Lib.hid (D0_23.out.bl hb28)
    have S_29 := Lib.hid (S_23.out.bl hb28)
    have Da_29 := Lib.hid (Da_23.out.bl hb28)
    have Bel_29 := Lib.hid (bel_bl Bel_23.out hb28)
    clear D0_23 S_23 Da_23 Bel_23
    clear hb28
    go_wp2
    go_ret
    exact ⟨rfl, Bel_29.out⟩
  · skip
    go_wp2_with fail
    clear lw24 lw25 lw26 lw27
    refine (HF1.out _ Da_23.out).mono ?_
    rintro e w28 ⟨rfl, hb28⟩
    have D0_29 := Lib.hid (D0_23.out.bl hb28)
    have S_29 := Lib.hid (S_23.out.bl hb28)
    have Da_29 := Lib.hid (Da_23.out.bl hb28)
    have Bel_29 := Lib.hid (bel_bl Bel_23.out hb28)
    clear D0_23 S_23 Da_23 Bel_23
    clear hb28
    go_wp2
    go_ret
    exact ⟨rfl, Bel_29.out⟩
  · have hzI : ¬ ((s0.size : Int) + (s1.size : Int) ≤ 16) := by omega
    have hzW : IntKind.i64.wrap ((s0.size : Int) + (s1.size : Int)) = (s0.size : Int) + (s1.size : Int) := IntWalk.i64_in _ (by omega)
    clear hz1 hz2 hz3
    go_wp2_with fail
    clear lw24 lw25 lw26 lw27
    refine (HF1.out _ Da_23.out).mono ?_
    rintro e w28 ⟨rfl, hb28⟩
    have D0_29 := Lib.hid (D0_23.out.bl hb28)
    have S_29 := Lib.hid (S_23.out.bl hb28)
    have Da_29 := Lib.hid (Da_23.out.bl hb28)
    have Bel_29 := Lib.hid (bel_bl Bel_23.out hb28)
    clear D0_23 S_23 Da_23 Bel_23
    clear hb28
    go_wp2
    go_ret
    exact ⟨rfl, Bel_29.out⟩
set_option maxRecDepth 100000 in
set_option maxHeartbeats 4000000 in
theorem labels_out (A : Option Addr) (n c : Nat) (Vs : List VC) (B : Option Addr) (m k : Nat) (Es : List EC) (s0 s1 : ByteArray) (x : Int) (w : World) (h : DgIn w A n c Vs B m k Es) (hg : GoodD Vs Es) (hn : n ≤ maxLen) (hm : m ≤ maxLen) (hs0 : s0.size ≤ maxLen) (hs1 : s1.size ≤ maxLen) (hsum : s0.size + s1.size ≤ 9223372036854775807) (hf : formD ((Vs.take 30).map fewV) (Es.take 50) = 0) (hx : x < 0 ∨ (((Vs.take 30).map fewV).length : Int) ≤ x) :
    Calls Try.prog 8 #[.agg #[.slice A n c, .slice B m k], .agg #[.string s0, .string s1], .int .i64 x] w fun e w' => e = .returned (.bool true) ∧ Below w.heap.size w w' := by
  have HW := Lib.hid (fun W hb => few_step h hg hn hm W hb)
  obtain ⟨Va, gVa⟩ : ∃ z, (Vs.take 30).map fewV = z := ⟨_, rfl⟩
  obtain ⟨Ea, gEa⟩ : ∃ z, Es.take 50 = z := ⟨_, rfl⟩
  rw [gVa, gEa] at HW
  rw [gVa, gEa] at hf
  rw [gVa] at hx
  have HF0 := Lib.hid hf
  have HXx := Lib.hid hx
  clear hf hx
  have HL0 := Lib.hid (maylabel_any s0)
  have HL1 := Lib.hid (maylabel_any s1)
  have HL2 := Lib.hid (maylabel_any (s0 ++ s1))
  have hj := mayL_join s0 s1
  have h0 : mayL s0 = (decide (s0.size ≤ 16) && s0.data.toList.all okB) := rfl
  have h1 : mayL s1 = (decide (s1.size ≤ 16) && s1.data.toList.all okB) := rfl
  obtain ⟨p0, gp0⟩ : ∃ z, s0.data.toList.all okB = z := ⟨_, rfl⟩
  obtain ⟨p1, gp1⟩ : ∃ z, s1.data.toList.all okB = z := ⟨_, rfl⟩
  rw [gp0] at h0 hj
  rw [gp1] at h1 hj
  obtain ⟨la, gla⟩ : ∃ z, mayL s0 = z := ⟨_, rfl⟩
  obtain ⟨lb, glb⟩ : ∃ z, mayL s1 = z := ⟨_, rfl⟩
  obtain ⟨lc, glc⟩ : ∃ z, mayL (s0 ++ s1) = z := ⟨_, rfl⟩
  rw [gla] at HL0 h0
  rw [glb] at HL1 h1
  rw [glc] at HL2 hj
  have Gla := Lib.hid gla
  have hcase : (lc = true ∧ la = true ∧ lb = true ∧ s0.size + s1.size ≤ 16) ∨ (lc = false ∧ la = false) ∨ (lc = false ∧ la = true ∧ lb = false) ∨ (lc = false ∧ la = true ∧ lb = true ∧ 16 < s0.size + s1.size ∧ s0.size ≤ 16 ∧ s1.size ≤ 16) := by
    cases lc with
    | true =>
      have hj := hj.symm
      simp only [Bool.and_eq_true, decide_eq_true_eq] at hj
      refine .inl ⟨rfl, ?_, ?_, hj.1.1⟩
      · rw [h0, hj.1.2]; simp; omega
      · rw [h1, hj.2]; simp; omega
    | false =>
      cases la with
      | false => exact .inr (.inl ⟨rfl, rfl⟩)
      | true =>
        cases lb with
        | false => exact .inr (.inr (.inl ⟨rfl, rfl, rfl⟩))
        | true =>
          have h0 := h0.symm
          have h1 := h1.symm
          have hj := hj.symm
          simp only [Bool.and_eq_true, decide_eq_true_eq] at h0 h1
          rw [h0.2, h1.2] at hj
          simp at hj
          exact .inr (.inr (.inr ⟨rfl, rfl, rfl, by omega, h0.1, h1.1⟩))
  have hcat1 : ¬ ((9223372036854775807 : Int) < (s0.size : Int) + (s1.size : Int)) := by omega
  have hcat2 : ¬ ((9223372036854775807 : Int) < ((s0.size + s1.size : Nat) : Int)) := by omega
  have hcat3 : ¬ (9223372036854775807 < s0.size + s1.size) := by omega
  clear h hg hn hm gVa gEa hs0 hs1 hsum hj h0 h1 gp0 gp1 gla glb glc
  go_enter Try.func8, Try.ntmps8
  go_wp2_with fail
  refine (shown_any _).mono ?_
  rintro e w1 ⟨rfl, hb1⟩
  have D0_2 := Lib.hid (((show Whole (w.alloc (.cells #[.slice A n c, .slice B m k] 25)) (w.heap.size) (25) ([.slice A n c, .slice B m k]) from Whole.new2 (by first | rfl | simp)).al (.cells #[.string s0, .string s1] 59)).bl hb1)
  have S_2 := Lib.hid ((show Whole ((w.alloc (.cells #[.slice A n c, .slice B m k] 25)).alloc (.cells #[.string s0, .string s1] 59)) ((w.heap.size + 1)) (59) ([.string s0, .string s1]) from Whole.new2 (by first | rfl | simp)).bl hb1)
  have Bel_2 := Lib.hid (bel_bl (bel_al (bel_al (Below.refl _ w) (.cells #[.slice A n c, .slice B m k] 25)) (.cells #[.string s0, .string s1] 59)) hb1)
  clear hb1
  have LO_D0_3 : RowKit.Hid (w.heap.size ≤ w.heap.size) := Lib.hid (by omega)
  have LO_S_4 : RowKit.Hid (w.heap.size ≤ (w.heap.size + 1)) := Lib.hid (by omega)
  have NE_D0_S : RowKit.Hid (w.heap.size ≠ (w.heap.size + 1)) := Lib.hid (by omega)
  have lw5 : (w1).cell? ⟨w.heap.size, 0, none⟩ = some (.slice A n c) := D0_2.out.cell (i := 0) rfl
  have lw6 : (w1).cell? ⟨w.heap.size, 1, none⟩ = some (.slice B m k) := D0_2.out.cell (i := 1) rfl
  go_wp2_with fail
  clear lw5 lw6
  have LTN_a_D0 : RowKit.Hid (w.heap.size < w1.heap.size) := Lib.hid (D0_2.out).lt
  have LTN_a_S : RowKit.Hid ((w.heap.size + 1) < w1.heap.size) := Lib.hid (S_2.out).lt
  refine (HW.out _ Bel_2.out).mono ?_
  rintro e w7 ⟨Aa, na, ca, Ba, ma, ka, rfl, hF, hb7⟩
  have Fa := Lib.hid hF
  clear hF
  have D0_8 := Lib.hid (D0_2.out.bl hb7)
  have S_8 := Lib.hid (S_2.out.bl hb7)
  have Bel_8 := Lib.hid (bel_bl Bel_2.out hb7)
  clear D0_2 S_2 Bel_2
  clear hb7
  have lw9 : (w7).cell? ⟨w.heap.size, 0, none⟩ = some (.slice A n c) := D0_8.out.cell (i := 0) rfl
  have lw10 : (w7).cell? ⟨w.heap.size, 1, none⟩ = some (.slice B m k) := D0_8.out.cell (i := 1) rfl
  have fr0 := D0_8.out.free 0
  have fr1 := D0_8.out.free 1
  go_upto_region 3 with fail
  clear fr0 fr1 lw9 lw10
  obtain ⟨v11, gv11⟩ : ∃ x, (w7.setCell ⟨w.heap.size, 0, none⟩ (.slice Aa na ca)).setCell ⟨w.heap.size, 1, none⟩ (.slice Ba ma ka) = x := ⟨_, rfl⟩
  have D0_11 : RowKit.Hid (Whole v11 w.heap.size 25 [.slice Aa na ca, .slice Ba ma ka]) := Lib.hid (gv11 ▸ ((D0_8.out.set_ 0 (.slice Aa na ca)).set_ 1 (.slice Ba ma ka)))
  have S_11 := Lib.hid (show Whole v11 (w.heap.size + 1) _ _ from gv11 ▸ ((S_8.out.far (p := ⟨w.heap.size, 0, none⟩) (by show (w.heap.size + 1) ≠ w.heap.size; exact (Ne.symm NE_D0_S.out)) (.slice Aa na ca)).far (p := ⟨w.heap.size, 1, none⟩) (by show (w.heap.size + 1) ≠ w.heap.size; exact (Ne.symm NE_D0_S.out)) (.slice Ba ma ka)))
  have Bel_11 : RowKit.Hid (Below w.heap.size w v11) := Lib.hid (gv11 ▸ ((Bel_8.out.setCell (p := ⟨w.heap.size, 0, none⟩) (by show w.heap.size ≤ w.heap.size; exact LO_D0_3.out) _).setCell (p := ⟨w.heap.size, 1, none⟩) (by show w.heap.size ≤ w.heap.size; exact LO_D0_3.out) _))
  have Da_11 : RowKit.Hid (DgIn v11 Aa na ca Va Ba ma ka Ea) := Lib.hid (gv11 ▸ Fa.out.put (g := w.heap.size) (by show w.heap.size ≤ w.heap.size; exact LO_D0_3.out) LTN_a_D0.out _ _)
  rw [gv11]
  clear gv11
  clear D0_8 S_8 Bel_8
  have hr30 : ∀ x ∈ Va, x.2.1.2.1 ≤ 1000000 := fun x hx => by have := Fa.out.r30 x hx; omega
  have hn30 : na ≤ 1000000 := by have := Fa.out.n30; omega
  have hm50 : ma ≤ 1000000 := by have := Fa.out.m50; omega
  have HF1 := Lib.hid (fun W (h : DgIn W Aa na ca Va Ba ma ka Ea) => form_any Aa na ca Va Ba ma ka Ea W h hr30 Fa.out.good.e Fa.out.good.v)
  have HR30 := Lib.hid hr30
  clear hr30
  have lw12 : (v11).cell? ⟨(w.heap.size + 1), 0, none⟩ = some (.string s0) := S_11.out.cell (i := 0) rfl
  have lw13 : (v11).cell? ⟨(w.heap.size + 1), 1, none⟩ = some (.string s1) := S_11.out.cell (i := 1) rfl
  go_wp2_with fail
  clear lw12 lw13
  refine (HL0.out _).mono ?_
  rintro e w14 ⟨rfl, hb14⟩
  have D0_15 := Lib.hid (D0_11.out.bl hb14)
  have S_15 := Lib.hid (S_11.out.bl hb14)
  have Da_15 := Lib.hid (Da_11.out.bl hb14)
  have Bel_15 := Lib.hid (bel_bl Bel_11.out hb14)
  clear D0_11 S_11 Da_11 Bel_11
  clear hb14
  have lw16 : (w14).cell? ⟨(w.heap.size + 1), 0, none⟩ = some (.string s0) := S_15.out.cell (i := 0) rfl
  have lw17 : (w14).cell? ⟨(w.heap.size + 1), 1, none⟩ = some (.string s1) := S_15.out.cell (i := 1) rfl
  go_wp2_with fail
  clear lw16 lw17
  refine (HL1.out _).mono ?_
  rintro e w18 ⟨rfl, hb18⟩
  have D0_19 := Lib.hid (D0_15.out.bl hb18)
  have S_19 := Lib.hid (S_15.out.bl hb18)
  have Da_19 := Lib.hid (Da_15.out.bl hb18)
  have Bel_19 := Lib.hid (bel_bl Bel_15.out hb18)
  clear D0_15 S_15 Da_15 Bel_15
  clear hb18
  have lw20 : (w18).cell? ⟨(w.heap.size + 1), 0, none⟩ = some (.string s0) := S_19.out.cell (i := 0) rfl
  have lw21 : (w18).cell? ⟨(w.heap.size + 1), 1, none⟩ = some (.string s1) := S_19.out.cell (i := 1) rfl
  go_wp2_with fail
  clear lw20 lw21
  refine (HL2.out _).mono ?_
  rintro e w22 ⟨rfl, hb22⟩
  have D0_23 := Lib.hid (D0_19.out.bl hb22)
  have S_23 := Lib.hid (S_19.out.bl hb22)
  have Da_23 := Lib.hid (Da_19.out.bl hb22)
  have Bel_23 := Lib.hid (bel_bl Bel_19.out hb22)
  clear D0_19 S_19 Da_19 Bel_19
  clear hb22
  rw [HF0.out] at HF1
  have hxx : x < 0 ∨ (na : Int) ≤ x := by have := HXx.out; have := Fa.out.lenv; omega
  have lw24 : (w22).cell? ⟨(w.heap.size + 1), 0, none⟩ = some (.string s0) := S_23.out.cell (i := 0) rfl
  have lw25 : (w22).cell? ⟨(w.heap.size + 1), 1, none⟩ = some (.string s1) := S_23.out.cell (i := 1) rfl
  have lw26 : (w22).cell? ⟨w.heap.size, 0, none⟩ = some (.slice Aa na ca) := D0_23.out.cell (i := 0) rfl
  have lw27 : (w22).cell? ⟨w.heap.size, 1, none⟩ = some (.slice Ba ma ka) := D0_23.out.cell (i := 1) rfl
  rcases hcase with ⟨rfl, rfl, rfl, hz1⟩ | ⟨rfl, rfl⟩ | ⟨rfl, rfl, rfl⟩ | ⟨rfl, rfl, rfl, hz1, hz2, hz3⟩
  · have hzI : (s0.size : Int) + (s1.size : Int) ≤ 16 := by omega
    have hzW : IntKind.i64.wrap ((s0.size : Int) + (s1.size : Int)) = (s0.size : Int) + (s1.size : Int) := IntWalk.i64_in _ (by omega)
    clear hz1
    go_wp2_with fail
    clear lw24 lw25 lw26 lw27
    refine (HF1.out _ Da_23.out).mono ?_
    rintro e w28 ⟨rfl, hb28⟩
    have D0_29 := Lib.hid (D0_23.out.bl hb28)
    have S_29 := Lib.hid (S_23.out.bl hb28)
    have Da_29 := Lib.hid (Da_23.out.bl hb28)
    have Bel_29 := Lib.hid (bel_bl Bel_23.out hb28)
    clear D0_23 S_23 Da_23 Bel_23
    clear hb28
    have lw30 : (w28).cell? ⟨w.heap.size, 0, none⟩ = some (.slice Aa na ca) := D0_29.out.cell (i := 0) rfl
    have lw31 : (w28).cell? ⟨w.heap.size, 1, none⟩ = some (.slice Ba ma ka) := D0_29.out.cell (i := 1) rfl
    by_cases hx0 : x < 0
    · clear hxx
      go_wp2
      go_ret
      exact ⟨rfl, Bel_29.out⟩
    · have hx1 : (na : Int) ≤ x := by omega
      clear hxx
      go_wp2
      go_ret
      exact ⟨rfl, Bel_29.out⟩
  · skip
    go_wp2_with fail
    clear lw24 lw25 lw26 lw27
    refine (HF1.out _ Da_23.out).mono ?_
    rintro e w28 ⟨rfl, hb28⟩
    have D0_29 := Lib.hid (D0_23.out.bl hb28)
    have S_29 := Lib.hid (S_23.out.bl hb28)
    have Da_29 := Lib.hid (Da_23.out.bl hb28)
    have Bel_29 := Lib.hid (bel_bl Bel_23.out hb28)
    clear D0_23 S_23 Da_23 Bel_23
    clear hb28
    have lw30 : (w28).cell? ⟨w.heap.size, 0, none⟩ = some (.slice Aa na ca) := D0_29.out.cell (i := 0) rfl
    have lw31 : (w28).cell? ⟨w.heap.size, 1, none⟩ = some (.slice Ba ma ka) := D0_29.out.cell (i := 1) rfl
    by_cases hx0 : x < 0
    · clear hxx
      go_wp2
      go_ret
      exact ⟨rfl, Bel_29.out⟩
    · have hx1 : (na : Int) ≤ x := by omega
      clear hxx
      go_wp2
      go_ret
      exact ⟨rfl, Bel_29.out⟩
  · skip
    go_wp2_with fail
    clear lw24 lw25 lw26 lw27
    refine (HF1.out _ Da_23.out).mono ?_
    rintro e w28 ⟨rfl, hb28⟩
    have D0_29 := Lib.hid (D0_23.out.bl hb28)
    have S_29 := Lib.hid (S_23.out.bl hb28)
    have Da_29 := Lib.hid (Da_23.out.bl hb28)
    have Bel_29 := Lib.hid (bel_bl Bel_23.out hb28)
    clear D0_23 S_23 Da_23 Bel_23
    clear hb28
    have lw30 : (w28).cell? ⟨w.heap.size, 0, none⟩ = some (.slice Aa na ca) := D0_29.out.cell (i := 0) rfl
    have lw31 : (w28).cell? ⟨w.heap.size, 1, none⟩ = some (.slice Ba ma ka) := D0_29.out.cell (i := 1) rfl
    by_cases hx0 : x < 0
    · clear hxx
      go_wp2
      go_ret
      exact ⟨rfl, Bel_29.out⟩
    · have hx1 : (na : Int) ≤ x := by omega
      clear hxx
      go_wp2
      go_ret
      exact ⟨rfl, Bel_29.out⟩
  · have hzI : ¬ ((s0.size : Int) + (s1.size : Int) ≤ 16) := by omega
    have hzW : IntKind.i64.wrap ((s0.size : Int) + (s1.size : Int)) = (s0.size : Int) + (s1.size : Int) := IntWalk.i64_in _ (by omega)
    clear hz1 hz2 hz3
    go_wp2_with fail
    clear lw24 lw25 lw26 lw27
    refine (HF1.out _ Da_23.out).mono ?_
    rintro e w28 ⟨rfl, hb28⟩
    have D0_29 := Lib.hid (D0_23.out.bl hb28)
    have S_29 := Lib.hid (S_23.out.bl hb28)
    have Da_29 := Lib.hid (Da_23.out.bl hb28)
    have Bel_29 := Lib.hid (bel_bl Bel_23.out hb28)
    clear D0_23 S_23 Da_23 Bel_23
    clear hb28
    have lw30 : (w28).cell? ⟨w.heap.size, 0, none⟩ = some (.slice Aa na ca) := D0_29.out.cell (i := 0) rfl
    have lw31 : (w28).cell? ⟨w.heap.size, 1, none⟩ = some (.slice Ba ma ka) := D0_29.out.cell (i := 1) rfl
    by_cases hx0 : x < 0
    · clear hxx
      go_wp2
      go_ret
      exact ⟨rfl, Bel_29.out⟩
    · have hx1 : (na : Int) ≤ x := by omega
      clear hxx
      go_wp2
      go_ret
      exact ⟨rfl, Bel_29.out⟩
set_option maxRecDepth 100000 in
set_option maxHeartbeats 4000000 in
theorem labels_yes (A : Option Addr) (n c : Nat) (Vs : List VC) (B : Option Addr) (m k : Nat) (Es : List EC) (s0 s1 : ByteArray) (x : Int) (w : World) (h : DgIn w A n c Vs B m k Es) (hg : GoodD Vs Es) (hn : n ≤ maxLen) (hm : m ≤ maxLen) (hs0 : s0.size ≤ maxLen) (hs1 : s1.size ≤ maxLen) (hsum : s0.size + s1.size ≤ 9223372036854775807) (hf : formD ((Vs.take 30).map fewV) (Es.take 50) = 0) (kx : Nat) (hx : x = (kx : Int)) (hxl : kx < ((Vs.take 30).map fewV).length) :
    Calls Try.prog 8 #[.agg #[.slice A n c, .slice B m k], .agg #[.string s0, .string s1], .int .i64 x] w fun e w' => e = .returned (.bool true) ∧ Below w.heap.size w w' := by
  have HW := Lib.hid (fun W hb => few_step h hg hn hm W hb)
  obtain ⟨Va, gVa⟩ : ∃ z, (Vs.take 30).map fewV = z := ⟨_, rfl⟩
  obtain ⟨Ea, gEa⟩ : ∃ z, Es.take 50 = z := ⟨_, rfl⟩
  rw [gVa, gEa] at HW
  rw [gVa, gEa] at hf
  rw [gVa] at hxl
  subst hx
  have HF0 := Lib.hid hf
  have HFm := Lib.hid ((form0 Va Ea).1 hf)
  have HXx := Lib.hid hxl
  clear hf hxl
  have HL0 := Lib.hid (maylabel_any s0)
  have HL1 := Lib.hid (maylabel_any s1)
  have HL2 := Lib.hid (maylabel_any (s0 ++ s1))
  have hj := mayL_join s0 s1
  have h0 : mayL s0 = (decide (s0.size ≤ 16) && s0.data.toList.all okB) := rfl
  have h1 : mayL s1 = (decide (s1.size ≤ 16) && s1.data.toList.all okB) := rfl
  obtain ⟨p0, gp0⟩ : ∃ z, s0.data.toList.all okB = z := ⟨_, rfl⟩
  obtain ⟨p1, gp1⟩ : ∃ z, s1.data.toList.all okB = z := ⟨_, rfl⟩
  rw [gp0] at h0 hj
  rw [gp1] at h1 hj
  obtain ⟨la, gla⟩ : ∃ z, mayL s0 = z := ⟨_, rfl⟩
  obtain ⟨lb, glb⟩ : ∃ z, mayL s1 = z := ⟨_, rfl⟩
  obtain ⟨lc, glc⟩ : ∃ z, mayL (s0 ++ s1) = z := ⟨_, rfl⟩
  rw [gla] at HL0 h0
  rw [glb] at HL1 h1
  rw [glc] at HL2 hj
  have Gla := Lib.hid gla
  have hcase : (lc = true ∧ la = true ∧ lb = true ∧ s0.size + s1.size ≤ 16) ∨ (lc = false ∧ la = false) ∨ (lc = false ∧ la = true ∧ lb = false) ∨ (lc = false ∧ la = true ∧ lb = true ∧ 16 < s0.size + s1.size ∧ s0.size ≤ 16 ∧ s1.size ≤ 16) := by
    cases lc with
    | true =>
      have hj := hj.symm
      simp only [Bool.and_eq_true, decide_eq_true_eq] at hj
      refine .inl ⟨rfl, ?_, ?_, hj.1.1⟩
      · rw [h0, hj.1.2]; simp; omega
      · rw [h1, hj.2]; simp; omega
    | false =>
      cases la with
      | false => exact .inr (.inl ⟨rfl, rfl⟩)
      | true =>
        cases lb with
        | false => exact .inr (.inr (.inl ⟨rfl, rfl, rfl⟩))
        | true =>
          have h0 := h0.symm
          have h1 := h1.symm
          have hj := hj.symm
          simp only [Bool.and_eq_true, decide_eq_true_eq] at h0 h1
          rw [h0.2, h1.2] at hj
          simp at hj
          exact .inr (.inr (.inr ⟨rfl, rfl, rfl, by omega, h0.1, h1.1⟩))
  have hcat1 : ¬ ((9223372036854775807 : Int) < (s0.size : Int) + (s1.size : Int)) := by omega
  have hcat2 : ¬ ((9223372036854775807 : Int) < ((s0.size + s1.size : Nat) : Int)) := by omega
  have hcat3 : ¬ (9223372036854775807 < s0.size + s1.size) := by omega
  clear h hg hn hm gVa gEa hs0 hs1 hsum hj h0 h1 gp0 gp1 gla glb glc
  go_enter Try.func8, Try.ntmps8
  go_wp2_with fail
  refine (shown_any _).mono ?_
  rintro e w1 ⟨rfl, hb1⟩
  have D0_2 := Lib.hid (((show Whole (w.alloc (.cells #[.slice A n c, .slice B m k] 25)) (w.heap.size) (25) ([.slice A n c, .slice B m k]) from Whole.new2 (by first | rfl | simp)).al (.cells #[.string s0, .string s1] 59)).bl hb1)
  have S_2 := Lib.hid ((show Whole ((w.alloc (.cells #[.slice A n c, .slice B m k] 25)).alloc (.cells #[.string s0, .string s1] 59)) ((w.heap.size + 1)) (59) ([.string s0, .string s1]) from Whole.new2 (by first | rfl | simp)).bl hb1)
  have Bel_2 := Lib.hid (bel_bl (bel_al (bel_al (Below.refl _ w) (.cells #[.slice A n c, .slice B m k] 25)) (.cells #[.string s0, .string s1] 59)) hb1)
  clear hb1
  have LO_D0_3 : RowKit.Hid (w.heap.size ≤ w.heap.size) := Lib.hid (by omega)
  have LO_S_4 : RowKit.Hid (w.heap.size ≤ (w.heap.size + 1)) := Lib.hid (by omega)
  have NE_D0_S : RowKit.Hid (w.heap.size ≠ (w.heap.size + 1)) := Lib.hid (by omega)
  have lw5 : (w1).cell? ⟨w.heap.size, 0, none⟩ = some (.slice A n c) := D0_2.out.cell (i := 0) rfl
  have lw6 : (w1).cell? ⟨w.heap.size, 1, none⟩ = some (.slice B m k) := D0_2.out.cell (i := 1) rfl
  go_wp2_with fail
  clear lw5 lw6
  have LTN_a_D0 : RowKit.Hid (w.heap.size < w1.heap.size) := Lib.hid (D0_2.out).lt
  have LTN_a_S : RowKit.Hid ((w.heap.size + 1) < w1.heap.size) := Lib.hid (S_2.out).lt
  refine (HW.out _ Bel_2.out).mono ?_
  rintro e w7 ⟨Aa, na, ca, Ba, ma, ka, rfl, hF, hb7⟩
  have Fa := Lib.hid hF
  clear hF
  have D0_8 := Lib.hid (D0_2.out.bl hb7)
  have S_8 := Lib.hid (S_2.out.bl hb7)
  have Bel_8 := Lib.hid (bel_bl Bel_2.out hb7)
  clear D0_2 S_2 Bel_2
  clear hb7
  have lw9 : (w7).cell? ⟨w.heap.size, 0, none⟩ = some (.slice A n c) := D0_8.out.cell (i := 0) rfl
  have lw10 : (w7).cell? ⟨w.heap.size, 1, none⟩ = some (.slice B m k) := D0_8.out.cell (i := 1) rfl
  have fr0 := D0_8.out.free 0
  have fr1 := D0_8.out.free 1
  go_upto_region 3 with fail
  clear fr0 fr1 lw9 lw10
  obtain ⟨v11, gv11⟩ : ∃ x, (w7.setCell ⟨w.heap.size, 0, none⟩ (.slice Aa na ca)).setCell ⟨w.heap.size, 1, none⟩ (.slice Ba ma ka) = x := ⟨_, rfl⟩
  have D0_11 : RowKit.Hid (Whole v11 w.heap.size 25 [.slice Aa na ca, .slice Ba ma ka]) := Lib.hid (gv11 ▸ ((D0_8.out.set_ 0 (.slice Aa na ca)).set_ 1 (.slice Ba ma ka)))
  have S_11 := Lib.hid (show Whole v11 (w.heap.size + 1) _ _ from gv11 ▸ ((S_8.out.far (p := ⟨w.heap.size, 0, none⟩) (by show (w.heap.size + 1) ≠ w.heap.size; exact (Ne.symm NE_D0_S.out)) (.slice Aa na ca)).far (p := ⟨w.heap.size, 1, none⟩) (by show (w.heap.size + 1) ≠ w.heap.size; exact (Ne.symm NE_D0_S.out)) (.slice Ba ma ka)))
  have Bel_11 : RowKit.Hid (Below w.heap.size w v11) := Lib.hid (gv11 ▸ ((Bel_8.out.setCell (p := ⟨w.heap.size, 0, none⟩) (by show w.heap.size ≤ w.heap.size; exact LO_D0_3.out) _).setCell (p := ⟨w.heap.size, 1, none⟩) (by show w.heap.size ≤ w.heap.size; exact LO_D0_3.out) _))
  have Da_11 : RowKit.Hid (DgIn v11 Aa na ca Va Ba ma ka Ea) := Lib.hid (gv11 ▸ Fa.out.put (g := w.heap.size) (by show w.heap.size ≤ w.heap.size; exact LO_D0_3.out) LTN_a_D0.out _ _)
  rw [gv11]
  clear gv11
  clear D0_8 S_8 Bel_8
  have hr30 : ∀ x ∈ Va, x.2.1.2.1 ≤ 1000000 := fun x hx => by have := Fa.out.r30 x hx; omega
  have hn30 : na ≤ 1000000 := by have := Fa.out.n30; omega
  have hm50 : ma ≤ 1000000 := by have := Fa.out.m50; omega
  have HF1 := Lib.hid (fun W (h : DgIn W Aa na ca Va Ba ma ka Ea) => form_any Aa na ca Va Ba ma ka Ea W h hr30 Fa.out.good.e Fa.out.good.v)
  have HR30 := Lib.hid hr30
  clear hr30
  have lw12 : (v11).cell? ⟨(w.heap.size + 1), 0, none⟩ = some (.string s0) := S_11.out.cell (i := 0) rfl
  have lw13 : (v11).cell? ⟨(w.heap.size + 1), 1, none⟩ = some (.string s1) := S_11.out.cell (i := 1) rfl
  go_wp2_with fail
  clear lw12 lw13
  refine (HL0.out _).mono ?_
  rintro e w14 ⟨rfl, hb14⟩
  have D0_15 := Lib.hid (D0_11.out.bl hb14)
  have S_15 := Lib.hid (S_11.out.bl hb14)
  have Da_15 := Lib.hid (Da_11.out.bl hb14)
  have Bel_15 := Lib.hid (bel_bl Bel_11.out hb14)
  clear D0_11 S_11 Da_11 Bel_11
  clear hb14
  have lw16 : (w14).cell? ⟨(w.heap.size + 1), 0, none⟩ = some (.string s0) := S_15.out.cell (i := 0) rfl
  have lw17 : (w14).cell? ⟨(w.heap.size + 1), 1, none⟩ = some (.string s1) := S_15.out.cell (i := 1) rfl
  go_wp2_with fail
  clear lw16 lw17
  refine (HL1.out _).mono ?_
  rintro e w18 ⟨rfl, hb18⟩
  have D0_19 := Lib.hid (D0_15.out.bl hb18)
  have S_19 := Lib.hid (S_15.out.bl hb18)
  have Da_19 := Lib.hid (Da_15.out.bl hb18)
  have Bel_19 := Lib.hid (bel_bl Bel_15.out hb18)
  clear D0_15 S_15 Da_15 Bel_15
  clear hb18
  have lw20 : (w18).cell? ⟨(w.heap.size + 1), 0, none⟩ = some (.string s0) := S_19.out.cell (i := 0) rfl
  have lw21 : (w18).cell? ⟨(w.heap.size + 1), 1, none⟩ = some (.string s1) := S_19.out.cell (i := 1) rfl
  go_wp2_with fail
  clear lw20 lw21
  refine (HL2.out _).mono ?_
  rintro e w22 ⟨rfl, hb22⟩
  have D0_23 := Lib.hid (D0_19.out.bl hb22)
  have S_23 := Lib.hid (S_19.out.bl hb22)
  have Da_23 := Lib.hid (Da_19.out.bl hb22)
  have Bel_23 := Lib.hid (bel_bl Bel_19.out hb22)
  clear D0_19 S_19 Da_19 Bel_19
  clear hb22
  rw [HF0.out] at HF1
  have hkx : kx < na := by have := HXx.out; have := Fa.out.lenv; omega
  have hxI : ¬ ((kx : Int) < 0) := by omega
  have hxI2 : ¬ ((na : Int) ≤ (kx : Int)) := by omega
  have HCl : RowKit.Hid (∀ W, DgIn W Aa na ca Va Ba ma ka Ea → Calls Try.prog 28 #[.agg #[.slice Aa na ca, .slice Ba ma ka]] W fun e w' => ∃ A2 c2 B2 k2 Wc, e = .returned (.agg #[.slice A2 na c2, .slice B2 ma k2]) ∧ Cl w' W.heap.size A2 na c2 Wc B2 ma k2 Ea ∧ Wc.map vS = Va.map vS ∧ Below W.heap.size W w') := Lib.hid (fun W h => by
    refine (clone_any Aa na ca Va Ba ma ka Ea W h hn30 hm50 HR30.out).mono ?_
    rintro e w' ⟨A2, c2, B2, k2, Wc, rfl, hc, hs, hb⟩
    exact ⟨A2, c2, B2, k2, Wc, rfl, hc, hs, hb⟩)
  have lw24 : (w22).cell? ⟨(w.heap.size + 1), 0, none⟩ = some (.string s0) := S_23.out.cell (i := 0) rfl
  have lw25 : (w22).cell? ⟨(w.heap.size + 1), 1, none⟩ = some (.string s1) := S_23.out.cell (i := 1) rfl
  have lw26 : (w22).cell? ⟨w.heap.size, 0, none⟩ = some (.slice Aa na ca) := D0_23.out.cell (i := 0) rfl
  have lw27 : (w22).cell? ⟨w.heap.size, 1, none⟩ = some (.slice Ba ma ka) := D0_23.out.cell (i := 1) rfl
  rcases hcase with ⟨rfl, rfl, rfl, hz1⟩ | ⟨rfl, rfl⟩ | ⟨rfl, rfl, rfl⟩ | ⟨rfl, rfl, rfl, hz1, hz2, hz3⟩
  · have hzI : (s0.size : Int) + (s1.size : Int) ≤ 16 := by omega
    have hzW : IntKind.i64.wrap ((s0.size : Int) + (s1.size : Int)) = (s0.size : Int) + (s1.size : Int) := IntWalk.i64_in _ (by omega)
    clear hz1
    go_wp2_with fail
    clear lw24 lw25 lw26 lw27
    refine (HF1.out _ Da_23.out).mono ?_
    rintro e w28 ⟨rfl, hb28⟩
    have D0_29 := Lib.hid (D0_23.out.bl hb28)
    have S_29 := Lib.hid (S_23.out.bl hb28)
    have Da_29 := Lib.hid (Da_23.out.bl hb28)
    have Bel_29 := Lib.hid (bel_bl Bel_23.out hb28)
    clear D0_23 S_23 Da_23 Bel_23
    clear hb28
    have lw30 : (w28).cell? ⟨w.heap.size, 0, none⟩ = some (.slice Aa na ca) := D0_29.out.cell (i := 0) rfl
    have lw31 : (w28).cell? ⟨w.heap.size, 1, none⟩ = some (.slice Ba ma ka) := D0_29.out.cell (i := 1) rfl
    go_wp2_with fail
    clear lw30 lw31
    refine (HCl.out _ Da_29.out).mono ?_
    rintro e w32 ⟨A2, c2, B2, k2, Wc, rfl, hcl, hsm, hb32⟩
    have LO2 : RowKit.Hid (w.heap.size ≤ w28.heap.size) := Lib.hid (Bel_29.out).size
    have D0_33 := Lib.hid (D0_29.out.bl hb32)
    have S_33 := Lib.hid (S_29.out.bl hb32)
    have Da_33 := Lib.hid (Da_29.out.bl hb32)
    have Bel_33 := Lib.hid (bel_bl Bel_29.out hb32)
    clear D0_29 S_29 Da_29 Bel_29
    clear hb32
    obtain ⟨x, hx⟩ : ∃ x, Wc[kx]? = some x := ⟨_, List.getElem?_eq_getElem (by have := congrArg List.length hsm; simp at this; have := Fa.out.lenv; omega)⟩
    have hgd := same_good hsm hcl.dg (Da_33.out) Fa.out.good 1000000 HR30.out
    have hfm := (HFm.out.same hsm).label hx s0
    rw [Gla.out] at hfm
    have hcl2 := hcl.up (below1 _ (.cells #[.slice A2 na c2, .slice B2 ma k2] 25))
    obtain ⟨gc, hgA, hlo, -, ⟨u0, hc0⟩, hf0, hdl⟩ := hcl2.lab hx hkx s0

    have hmem : ∀ y ∈ Wc.set kx (setLab x s0), y ∈ Wc ∨ y = setLab x s0 := fun y hy => List.mem_or_eq_of_mem_set hy
    have HGN : RowKit.Hid (gc ≠ w32.heap.size) := Lib.hid (by have h9 := (own_lt hcl.v hgA).2; have h8 : gc < w32.heap.size := h9; omega)
    subst hgA
    have HFc := Lib.hid (fun W (h : DgIn W (some ⟨gc, 0, none⟩) na c2 (Wc.set kx (setLab x s0)) B2 ma k2 Ea) => form_any _ _ _ _ _ _ _ _ W h (fun y hy => by
      rcases hmem y hy with hy | rfl
      · exact hgd.2 y hy
      · exact hgd.2 x (List.mem_of_getElem? hx)) hgd.1.e (fun y hy => by
      rcases hmem y hy with hy | rfl
      · exact hgd.1.v y hy
      · exact hgd.1.v x (List.mem_of_getElem? hx)))
    rw [hfm] at HFc
    have HDl := Lib.hid hdl
    have HLo := Lib.hid hlo
    clear hcl hcl2 hdl hsm hgd hfm hmem hlo
    have HX11 : RowKit.Hid (Whole (w32.alloc (.cells #[.slice (some ⟨gc, 0, none⟩) na c2, .slice B2 ma k2] 25)) w32.heap.size 25 [.slice (some ⟨gc, 0, none⟩) na c2, .slice B2 ma k2]) := Lib.hid (Whole.new_ _ _ [_, _])
    have lw34 : ((w32.alloc (.cells #[.slice (some ⟨gc, 0, none⟩) na c2, .slice B2 ma k2] 25))).cell? ⟨(w.heap.size + 1), 0, none⟩ = some (.string s0) := (S_33.out.al (.cells #[.slice (some ⟨gc, 0, none⟩) na c2, .slice B2 ma k2] 25)).cell (i := 0) rfl
    have lw35 : ((w32.alloc (.cells #[.slice (some ⟨gc, 0, none⟩) na c2, .slice B2 ma k2] 25))).cell? ⟨(w.heap.size + 1), 1, none⟩ = some (.string s1) := (S_33.out.al (.cells #[.slice (some ⟨gc, 0, none⟩) na c2, .slice B2 ma k2] 25)).cell (i := 1) rfl
    have lw36 : ((w32.alloc (.cells #[.slice (some ⟨gc, 0, none⟩) na c2, .slice B2 ma k2] 25))).cell? ⟨w.heap.size, 0, none⟩ = some (.slice Aa na ca) := (D0_33.out.al (.cells #[.slice (some ⟨gc, 0, none⟩) na c2, .slice B2 ma k2] 25)).cell (i := 0) rfl
    have lw37 : ((w32.alloc (.cells #[.slice (some ⟨gc, 0, none⟩) na c2, .slice B2 ma k2] 25))).cell? ⟨w.heap.size, 1, none⟩ = some (.slice Ba ma ka) := (D0_33.out.al (.cells #[.slice (some ⟨gc, 0, none⟩) na c2, .slice B2 ma k2] 25)).cell (i := 1) rfl
    have ck := HX11.out.cell (i := 0) rfl
    have hgne : gc ≠ w32.heap.size := HGN.out
    go_wp2_with fail
    clear ck lw34 lw35 lw36 lw37
    have HBl : RowKit.Hid (Below w.heap.size w (((w32.alloc (.cells #[.slice (some ⟨gc, 0, none⟩) na c2, .slice B2 ma k2] 25))).setCell ⟨gc, kx * 5 + 3, none⟩ (.string s0))) := Lib.hid (((bel_al Bel_33.out (.cells #[.slice (some ⟨gc, 0, none⟩) na c2, .slice B2 ma k2] 25))).setCell (p := ⟨gc, kx * 5 + 3, none⟩) (Nat.le_trans LO2.out HLo.out) _)
    have HX12 : RowKit.Hid (Whole (((w32.alloc (.cells #[.slice (some ⟨gc, 0, none⟩) na c2, .slice B2 ma k2] 25))).setCell ⟨gc, kx * 5 + 3, none⟩ (.string s0)) w32.heap.size 25 [.slice (some ⟨gc, 0, none⟩) na c2, .slice B2 ma k2]) := Lib.hid (HX11.out.set_far' (Ne.symm hgne) _)
    obtain ⟨v38, gv38⟩ : ∃ z, ((w32.alloc (.cells #[.slice (some ⟨gc, 0, none⟩) na c2, .slice B2 ma k2] 25))).setCell ⟨gc, kx * 5 + 3, none⟩ (.string s0) = z := ⟨_, rfl⟩
    obtain ⟨g11, gg11⟩ : ∃ z, w32.heap.size = z := ⟨_, rfl⟩
    rw [gv38] at HDl HBl HX12 ⊢
    rw [gg11] at HX12 ⊢
    clear gv38 gg11 HX11 hgne hc0 hf0
    refine (HFc.out _ HDl.out).mono ?_
    rintro e w98 ⟨rfl, hb⟩
    have HBl2 := Lib.hid (bel_bl HBl.out hb)
    have HDl2 := Lib.hid (HDl.out.bl hb)
    have HX13 := Lib.hid (HX12.out.bl hb)
    clear hb HBl HDl HX12
    have ck0 := HX13.out.cell (i := 0) rfl
    have ck1 := HX13.out.cell (i := 1) rfl
    go_wp2_with fail
    refine (HFc.out _ HDl2.out).mono ?_
    rintro e w99 ⟨rfl, hb⟩
    have HBl3 := Lib.hid (bel_bl HBl2.out hb)
    clear hb ck0 ck1
    go_wp2
    go_ret
    exact ⟨rfl, HBl3.out⟩
  · skip
    go_wp2_with fail
    clear lw24 lw25 lw26 lw27
    refine (HF1.out _ Da_23.out).mono ?_
    rintro e w28 ⟨rfl, hb28⟩
    have D0_29 := Lib.hid (D0_23.out.bl hb28)
    have S_29 := Lib.hid (S_23.out.bl hb28)
    have Da_29 := Lib.hid (Da_23.out.bl hb28)
    have Bel_29 := Lib.hid (bel_bl Bel_23.out hb28)
    clear D0_23 S_23 Da_23 Bel_23
    clear hb28
    have lw30 : (w28).cell? ⟨w.heap.size, 0, none⟩ = some (.slice Aa na ca) := D0_29.out.cell (i := 0) rfl
    have lw31 : (w28).cell? ⟨w.heap.size, 1, none⟩ = some (.slice Ba ma ka) := D0_29.out.cell (i := 1) rfl
    go_wp2_with fail
    clear lw30 lw31
    refine (HCl.out _ Da_29.out).mono ?_
    rintro e w32 ⟨A2, c2, B2, k2, Wc, rfl, hcl, hsm, hb32⟩
    have LO2 : RowKit.Hid (w.heap.size ≤ w28.heap.size) := Lib.hid (Bel_29.out).size
    have D0_33 := Lib.hid (D0_29.out.bl hb32)
    have S_33 := Lib.hid (S_29.out.bl hb32)
    have Da_33 := Lib.hid (Da_29.out.bl hb32)
    have Bel_33 := Lib.hid (bel_bl Bel_29.out hb32)
    clear D0_29 S_29 Da_29 Bel_29
    clear hb32
    obtain ⟨x, hx⟩ : ∃ x, Wc[kx]? = some x := ⟨_, List.getElem?_eq_getElem (by have := congrArg List.length hsm; simp at this; have := Fa.out.lenv; omega)⟩
    have hgd := same_good hsm hcl.dg (Da_33.out) Fa.out.good 1000000 HR30.out
    have hfm := (HFm.out.same hsm).label hx s0
    rw [Gla.out] at hfm
    have hcl2 := hcl.up (below1 _ (.cells #[.slice A2 na c2, .slice B2 ma k2] 25))
    obtain ⟨gc, hgA, hlo, -, ⟨u0, hc0⟩, hf0, hdl⟩ := hcl2.lab hx hkx s0

    have hmem : ∀ y ∈ Wc.set kx (setLab x s0), y ∈ Wc ∨ y = setLab x s0 := fun y hy => List.mem_or_eq_of_mem_set hy
    have HGN : RowKit.Hid (gc ≠ w32.heap.size) := Lib.hid (by have h9 := (own_lt hcl.v hgA).2; have h8 : gc < w32.heap.size := h9; omega)
    subst hgA
    have HFc := Lib.hid (fun W (h : DgIn W (some ⟨gc, 0, none⟩) na c2 (Wc.set kx (setLab x s0)) B2 ma k2 Ea) => form_any _ _ _ _ _ _ _ _ W h (fun y hy => by
      rcases hmem y hy with hy | rfl
      · exact hgd.2 y hy
      · exact hgd.2 x (List.mem_of_getElem? hx)) hgd.1.e (fun y hy => by
      rcases hmem y hy with hy | rfl
      · exact hgd.1.v y hy
      · exact hgd.1.v x (List.mem_of_getElem? hx)))
    rw [hfm] at HFc
    have HDl := Lib.hid hdl
    have HLo := Lib.hid hlo
    clear hcl hcl2 hdl hsm hgd hfm hmem hlo
    have HX11 : RowKit.Hid (Whole (w32.alloc (.cells #[.slice (some ⟨gc, 0, none⟩) na c2, .slice B2 ma k2] 25)) w32.heap.size 25 [.slice (some ⟨gc, 0, none⟩) na c2, .slice B2 ma k2]) := Lib.hid (Whole.new_ _ _ [_, _])
    have lw34 : ((w32.alloc (.cells #[.slice (some ⟨gc, 0, none⟩) na c2, .slice B2 ma k2] 25))).cell? ⟨(w.heap.size + 1), 0, none⟩ = some (.string s0) := (S_33.out.al (.cells #[.slice (some ⟨gc, 0, none⟩) na c2, .slice B2 ma k2] 25)).cell (i := 0) rfl
    have lw35 : ((w32.alloc (.cells #[.slice (some ⟨gc, 0, none⟩) na c2, .slice B2 ma k2] 25))).cell? ⟨(w.heap.size + 1), 1, none⟩ = some (.string s1) := (S_33.out.al (.cells #[.slice (some ⟨gc, 0, none⟩) na c2, .slice B2 ma k2] 25)).cell (i := 1) rfl
    have lw36 : ((w32.alloc (.cells #[.slice (some ⟨gc, 0, none⟩) na c2, .slice B2 ma k2] 25))).cell? ⟨w.heap.size, 0, none⟩ = some (.slice Aa na ca) := (D0_33.out.al (.cells #[.slice (some ⟨gc, 0, none⟩) na c2, .slice B2 ma k2] 25)).cell (i := 0) rfl
    have lw37 : ((w32.alloc (.cells #[.slice (some ⟨gc, 0, none⟩) na c2, .slice B2 ma k2] 25))).cell? ⟨w.heap.size, 1, none⟩ = some (.slice Ba ma ka) := (D0_33.out.al (.cells #[.slice (some ⟨gc, 0, none⟩) na c2, .slice B2 ma k2] 25)).cell (i := 1) rfl
    have ck := HX11.out.cell (i := 0) rfl
    have hgne : gc ≠ w32.heap.size := HGN.out
    go_wp2_with fail
    clear ck lw34 lw35 lw36 lw37
    have HBl : RowKit.Hid (Below w.heap.size w (((w32.alloc (.cells #[.slice (some ⟨gc, 0, none⟩) na c2, .slice B2 ma k2] 25))).setCell ⟨gc, kx * 5 + 3, none⟩ (.string s0))) := Lib.hid (((bel_al Bel_33.out (.cells #[.slice (some ⟨gc, 0, none⟩) na c2, .slice B2 ma k2] 25))).setCell (p := ⟨gc, kx * 5 + 3, none⟩) (Nat.le_trans LO2.out HLo.out) _)
    have HX12 : RowKit.Hid (Whole (((w32.alloc (.cells #[.slice (some ⟨gc, 0, none⟩) na c2, .slice B2 ma k2] 25))).setCell ⟨gc, kx * 5 + 3, none⟩ (.string s0)) w32.heap.size 25 [.slice (some ⟨gc, 0, none⟩) na c2, .slice B2 ma k2]) := Lib.hid (HX11.out.set_far' (Ne.symm hgne) _)
    obtain ⟨v38, gv38⟩ : ∃ z, ((w32.alloc (.cells #[.slice (some ⟨gc, 0, none⟩) na c2, .slice B2 ma k2] 25))).setCell ⟨gc, kx * 5 + 3, none⟩ (.string s0) = z := ⟨_, rfl⟩
    obtain ⟨g11, gg11⟩ : ∃ z, w32.heap.size = z := ⟨_, rfl⟩
    rw [gv38] at HDl HBl HX12 ⊢
    rw [gg11] at HX12 ⊢
    clear gv38 gg11 HX11 hgne hc0 hf0
    refine (HFc.out _ HDl.out).mono ?_
    rintro e w98 ⟨rfl, hb⟩
    have HBl2 := Lib.hid (bel_bl HBl.out hb)
    have HDl2 := Lib.hid (HDl.out.bl hb)
    have HX13 := Lib.hid (HX12.out.bl hb)
    clear hb HBl HDl HX12
    have ck0 := HX13.out.cell (i := 0) rfl
    have ck1 := HX13.out.cell (i := 1) rfl
    go_wp2_with fail
    refine (HFc.out _ HDl2.out).mono ?_
    rintro e w99 ⟨rfl, hb⟩
    have HBl3 := Lib.hid (bel_bl HBl2.out hb)
    clear hb ck0 ck1
    go_wp2
    go_ret
    exact ⟨rfl, HBl3.out⟩
  · skip
    go_wp2_with fail
    clear lw24 lw25 lw26 lw27
    refine (HF1.out _ Da_23.out).mono ?_
    rintro e w28 ⟨rfl, hb28⟩
    have D0_29 := Lib.hid (D0_23.out.bl hb28)
    have S_29 := Lib.hid (S_23.out.bl hb28)
    have Da_29 := Lib.hid (Da_23.out.bl hb28)
    have Bel_29 := Lib.hid (bel_bl Bel_23.out hb28)
    clear D0_23 S_23 Da_23 Bel_23
    clear hb28
    have lw30 : (w28).cell? ⟨w.heap.size, 0, none⟩ = some (.slice Aa na ca) := D0_29.out.cell (i := 0) rfl
    have lw31 : (w28).cell? ⟨w.heap.size, 1, none⟩ = some (.slice Ba ma ka) := D0_29.out.cell (i := 1) rfl
    go_wp2_with fail
    clear lw30 lw31
    refine (HCl.out _ Da_29.out).mono ?_
    rintro e w32 ⟨A2, c2, B2, k2, Wc, rfl, hcl, hsm, hb32⟩
    have LO2 : RowKit.Hid (w.heap.size ≤ w28.heap.size) := Lib.hid (Bel_29.out).size
    have D0_33 := Lib.hid (D0_29.out.bl hb32)
    have S_33 := Lib.hid (S_29.out.bl hb32)
    have Da_33 := Lib.hid (Da_29.out.bl hb32)
    have Bel_33 := Lib.hid (bel_bl Bel_29.out hb32)
    clear D0_29 S_29 Da_29 Bel_29
    clear hb32
    obtain ⟨x, hx⟩ : ∃ x, Wc[kx]? = some x := ⟨_, List.getElem?_eq_getElem (by have := congrArg List.length hsm; simp at this; have := Fa.out.lenv; omega)⟩
    have hgd := same_good hsm hcl.dg (Da_33.out) Fa.out.good 1000000 HR30.out
    have hfm := (HFm.out.same hsm).label hx s0
    rw [Gla.out] at hfm
    have hcl2 := hcl.up (below1 _ (.cells #[.slice A2 na c2, .slice B2 ma k2] 25))
    obtain ⟨gc, hgA, hlo, -, ⟨u0, hc0⟩, hf0, hdl⟩ := hcl2.lab hx hkx s0

    have hmem : ∀ y ∈ Wc.set kx (setLab x s0), y ∈ Wc ∨ y = setLab x s0 := fun y hy => List.mem_or_eq_of_mem_set hy
    have HGN : RowKit.Hid (gc ≠ w32.heap.size) := Lib.hid (by have h9 := (own_lt hcl.v hgA).2; have h8 : gc < w32.heap.size := h9; omega)
    subst hgA
    have HFc := Lib.hid (fun W (h : DgIn W (some ⟨gc, 0, none⟩) na c2 (Wc.set kx (setLab x s0)) B2 ma k2 Ea) => form_any _ _ _ _ _ _ _ _ W h (fun y hy => by
      rcases hmem y hy with hy | rfl
      · exact hgd.2 y hy
      · exact hgd.2 x (List.mem_of_getElem? hx)) hgd.1.e (fun y hy => by
      rcases hmem y hy with hy | rfl
      · exact hgd.1.v y hy
      · exact hgd.1.v x (List.mem_of_getElem? hx)))
    rw [hfm] at HFc
    have HDl := Lib.hid hdl
    have HLo := Lib.hid hlo
    clear hcl hcl2 hdl hsm hgd hfm hmem hlo
    have HX11 : RowKit.Hid (Whole (w32.alloc (.cells #[.slice (some ⟨gc, 0, none⟩) na c2, .slice B2 ma k2] 25)) w32.heap.size 25 [.slice (some ⟨gc, 0, none⟩) na c2, .slice B2 ma k2]) := Lib.hid (Whole.new_ _ _ [_, _])
    have lw34 : ((w32.alloc (.cells #[.slice (some ⟨gc, 0, none⟩) na c2, .slice B2 ma k2] 25))).cell? ⟨(w.heap.size + 1), 0, none⟩ = some (.string s0) := (S_33.out.al (.cells #[.slice (some ⟨gc, 0, none⟩) na c2, .slice B2 ma k2] 25)).cell (i := 0) rfl
    have lw35 : ((w32.alloc (.cells #[.slice (some ⟨gc, 0, none⟩) na c2, .slice B2 ma k2] 25))).cell? ⟨(w.heap.size + 1), 1, none⟩ = some (.string s1) := (S_33.out.al (.cells #[.slice (some ⟨gc, 0, none⟩) na c2, .slice B2 ma k2] 25)).cell (i := 1) rfl
    have lw36 : ((w32.alloc (.cells #[.slice (some ⟨gc, 0, none⟩) na c2, .slice B2 ma k2] 25))).cell? ⟨w.heap.size, 0, none⟩ = some (.slice Aa na ca) := (D0_33.out.al (.cells #[.slice (some ⟨gc, 0, none⟩) na c2, .slice B2 ma k2] 25)).cell (i := 0) rfl
    have lw37 : ((w32.alloc (.cells #[.slice (some ⟨gc, 0, none⟩) na c2, .slice B2 ma k2] 25))).cell? ⟨w.heap.size, 1, none⟩ = some (.slice Ba ma ka) := (D0_33.out.al (.cells #[.slice (some ⟨gc, 0, none⟩) na c2, .slice B2 ma k2] 25)).cell (i := 1) rfl
    have ck := HX11.out.cell (i := 0) rfl
    have hgne : gc ≠ w32.heap.size := HGN.out
    go_wp2_with fail
    clear ck lw34 lw35 lw36 lw37
    have HBl : RowKit.Hid (Below w.heap.size w (((w32.alloc (.cells #[.slice (some ⟨gc, 0, none⟩) na c2, .slice B2 ma k2] 25))).setCell ⟨gc, kx * 5 + 3, none⟩ (.string s0))) := Lib.hid (((bel_al Bel_33.out (.cells #[.slice (some ⟨gc, 0, none⟩) na c2, .slice B2 ma k2] 25))).setCell (p := ⟨gc, kx * 5 + 3, none⟩) (Nat.le_trans LO2.out HLo.out) _)
    have HX12 : RowKit.Hid (Whole (((w32.alloc (.cells #[.slice (some ⟨gc, 0, none⟩) na c2, .slice B2 ma k2] 25))).setCell ⟨gc, kx * 5 + 3, none⟩ (.string s0)) w32.heap.size 25 [.slice (some ⟨gc, 0, none⟩) na c2, .slice B2 ma k2]) := Lib.hid (HX11.out.set_far' (Ne.symm hgne) _)
    obtain ⟨v38, gv38⟩ : ∃ z, ((w32.alloc (.cells #[.slice (some ⟨gc, 0, none⟩) na c2, .slice B2 ma k2] 25))).setCell ⟨gc, kx * 5 + 3, none⟩ (.string s0) = z := ⟨_, rfl⟩
    obtain ⟨g11, gg11⟩ : ∃ z, w32.heap.size = z := ⟨_, rfl⟩
    rw [gv38] at HDl HBl HX12 ⊢
    rw [gg11] at HX12 ⊢
    clear gv38 gg11 HX11 hgne hc0 hf0
    refine (HFc.out _ HDl.out).mono ?_
    rintro e w98 ⟨rfl, hb⟩
    have HBl2 := Lib.hid (bel_bl HBl.out hb)
    have HDl2 := Lib.hid (HDl.out.bl hb)
    have HX13 := Lib.hid (HX12.out.bl hb)
    clear hb HBl HDl HX12
    have ck0 := HX13.out.cell (i := 0) rfl
    have ck1 := HX13.out.cell (i := 1) rfl
    go_wp2_with fail
    refine (HFc.out _ HDl2.out).mono ?_
    rintro e w99 ⟨rfl, hb⟩
    have HBl3 := Lib.hid (bel_bl HBl2.out hb)
    clear hb ck0 ck1
    go_wp2
    go_ret
    exact ⟨rfl, HBl3.out⟩
  · have hzI : ¬ ((s0.size : Int) + (s1.size : Int) ≤ 16) := by omega
    have hzW : IntKind.i64.wrap ((s0.size : Int) + (s1.size : Int)) = (s0.size : Int) + (s1.size : Int) := IntWalk.i64_in _ (by omega)
    clear hz1 hz2 hz3
    go_wp2_with fail
    clear lw24 lw25 lw26 lw27
    refine (HF1.out _ Da_23.out).mono ?_
    rintro e w28 ⟨rfl, hb28⟩
    have D0_29 := Lib.hid (D0_23.out.bl hb28)
    have S_29 := Lib.hid (S_23.out.bl hb28)
    have Da_29 := Lib.hid (Da_23.out.bl hb28)
    have Bel_29 := Lib.hid (bel_bl Bel_23.out hb28)
    clear D0_23 S_23 Da_23 Bel_23
    clear hb28
    have lw30 : (w28).cell? ⟨w.heap.size, 0, none⟩ = some (.slice Aa na ca) := D0_29.out.cell (i := 0) rfl
    have lw31 : (w28).cell? ⟨w.heap.size, 1, none⟩ = some (.slice Ba ma ka) := D0_29.out.cell (i := 1) rfl
    go_wp2_with fail
    clear lw30 lw31
    refine (HCl.out _ Da_29.out).mono ?_
    rintro e w32 ⟨A2, c2, B2, k2, Wc, rfl, hcl, hsm, hb32⟩
    have LO2 : RowKit.Hid (w.heap.size ≤ w28.heap.size) := Lib.hid (Bel_29.out).size
    have D0_33 := Lib.hid (D0_29.out.bl hb32)
    have S_33 := Lib.hid (S_29.out.bl hb32)
    have Da_33 := Lib.hid (Da_29.out.bl hb32)
    have Bel_33 := Lib.hid (bel_bl Bel_29.out hb32)
    clear D0_29 S_29 Da_29 Bel_29
    clear hb32
    obtain ⟨x, hx⟩ : ∃ x, Wc[kx]? = some x := ⟨_, List.getElem?_eq_getElem (by have := congrArg List.length hsm; simp at this; have := Fa.out.lenv; omega)⟩
    have hgd := same_good hsm hcl.dg (Da_33.out) Fa.out.good 1000000 HR30.out
    have hfm := (HFm.out.same hsm).label hx s0
    rw [Gla.out] at hfm
    have hcl2 := hcl.up (below1 _ (.cells #[.slice A2 na c2, .slice B2 ma k2] 25))
    obtain ⟨gc, hgA, hlo, -, ⟨u0, hc0⟩, hf0, hdl⟩ := hcl2.lab hx hkx s0

    have hmem : ∀ y ∈ Wc.set kx (setLab x s0), y ∈ Wc ∨ y = setLab x s0 := fun y hy => List.mem_or_eq_of_mem_set hy
    have HGN : RowKit.Hid (gc ≠ w32.heap.size) := Lib.hid (by have h9 := (own_lt hcl.v hgA).2; have h8 : gc < w32.heap.size := h9; omega)
    subst hgA
    have HFc := Lib.hid (fun W (h : DgIn W (some ⟨gc, 0, none⟩) na c2 (Wc.set kx (setLab x s0)) B2 ma k2 Ea) => form_any _ _ _ _ _ _ _ _ W h (fun y hy => by
      rcases hmem y hy with hy | rfl
      · exact hgd.2 y hy
      · exact hgd.2 x (List.mem_of_getElem? hx)) hgd.1.e (fun y hy => by
      rcases hmem y hy with hy | rfl
      · exact hgd.1.v y hy
      · exact hgd.1.v x (List.mem_of_getElem? hx)))
    rw [hfm] at HFc
    have HDl := Lib.hid hdl
    have HLo := Lib.hid hlo
    clear hcl hcl2 hdl hsm hgd hfm hmem hlo
    have HX11 : RowKit.Hid (Whole (w32.alloc (.cells #[.slice (some ⟨gc, 0, none⟩) na c2, .slice B2 ma k2] 25)) w32.heap.size 25 [.slice (some ⟨gc, 0, none⟩) na c2, .slice B2 ma k2]) := Lib.hid (Whole.new_ _ _ [_, _])
    have lw34 : ((w32.alloc (.cells #[.slice (some ⟨gc, 0, none⟩) na c2, .slice B2 ma k2] 25))).cell? ⟨(w.heap.size + 1), 0, none⟩ = some (.string s0) := (S_33.out.al (.cells #[.slice (some ⟨gc, 0, none⟩) na c2, .slice B2 ma k2] 25)).cell (i := 0) rfl
    have lw35 : ((w32.alloc (.cells #[.slice (some ⟨gc, 0, none⟩) na c2, .slice B2 ma k2] 25))).cell? ⟨(w.heap.size + 1), 1, none⟩ = some (.string s1) := (S_33.out.al (.cells #[.slice (some ⟨gc, 0, none⟩) na c2, .slice B2 ma k2] 25)).cell (i := 1) rfl
    have lw36 : ((w32.alloc (.cells #[.slice (some ⟨gc, 0, none⟩) na c2, .slice B2 ma k2] 25))).cell? ⟨w.heap.size, 0, none⟩ = some (.slice Aa na ca) := (D0_33.out.al (.cells #[.slice (some ⟨gc, 0, none⟩) na c2, .slice B2 ma k2] 25)).cell (i := 0) rfl
    have lw37 : ((w32.alloc (.cells #[.slice (some ⟨gc, 0, none⟩) na c2, .slice B2 ma k2] 25))).cell? ⟨w.heap.size, 1, none⟩ = some (.slice Ba ma ka) := (D0_33.out.al (.cells #[.slice (some ⟨gc, 0, none⟩) na c2, .slice B2 ma k2] 25)).cell (i := 1) rfl
    have ck := HX11.out.cell (i := 0) rfl
    have hgne : gc ≠ w32.heap.size := HGN.out
    go_wp2_with fail
    clear ck lw34 lw35 lw36 lw37
    have HBl : RowKit.Hid (Below w.heap.size w (((w32.alloc (.cells #[.slice (some ⟨gc, 0, none⟩) na c2, .slice B2 ma k2] 25))).setCell ⟨gc, kx * 5 + 3, none⟩ (.string s0))) := Lib.hid (((bel_al Bel_33.out (.cells #[.slice (some ⟨gc, 0, none⟩) na c2, .slice B2 ma k2] 25))).setCell (p := ⟨gc, kx * 5 + 3, none⟩) (Nat.le_trans LO2.out HLo.out) _)
    have HX12 : RowKit.Hid (Whole (((w32.alloc (.cells #[.slice (some ⟨gc, 0, none⟩) na c2, .slice B2 ma k2] 25))).setCell ⟨gc, kx * 5 + 3, none⟩ (.string s0)) w32.heap.size 25 [.slice (some ⟨gc, 0, none⟩) na c2, .slice B2 ma k2]) := Lib.hid (HX11.out.set_far' (Ne.symm hgne) _)
    obtain ⟨v38, gv38⟩ : ∃ z, ((w32.alloc (.cells #[.slice (some ⟨gc, 0, none⟩) na c2, .slice B2 ma k2] 25))).setCell ⟨gc, kx * 5 + 3, none⟩ (.string s0) = z := ⟨_, rfl⟩
    obtain ⟨g11, gg11⟩ : ∃ z, w32.heap.size = z := ⟨_, rfl⟩
    rw [gv38] at HDl HBl HX12 ⊢
    rw [gg11] at HX12 ⊢
    clear gv38 gg11 HX11 hgne hc0 hf0
    refine (HFc.out _ HDl.out).mono ?_
    rintro e w98 ⟨rfl, hb⟩
    have HBl2 := Lib.hid (bel_bl HBl.out hb)
    have HDl2 := Lib.hid (HDl.out.bl hb)
    have HX13 := Lib.hid (HX12.out.bl hb)
    clear hb HBl HDl HX12
    have ck0 := HX13.out.cell (i := 0) rfl
    have ck1 := HX13.out.cell (i := 1) rfl
    go_wp2_with fail
    refine (HFc.out _ HDl2.out).mono ?_
    rintro e w99 ⟨rfl, hb⟩
    have HBl3 := Lib.hid (bel_bl HBl2.out hb)
    clear hb ck0 ck1
    go_wp2
    go_ret
    exact ⟨rfl, HBl3.out⟩
set_option maxRecDepth 100000 in
set_option maxHeartbeats 4000000 in
theorem law_labels (A : Option Addr) (n c : Nat) (Vs : List VC) (B : Option Addr) (m k : Nat) (Es : List EC) (s0 s1 : ByteArray) (x : Int) (w : World) (h : DgIn w A n c Vs B m k Es) (hg : GoodD Vs Es) (hn : n ≤ maxLen) (hm : m ≤ maxLen) (hs0 : s0.size ≤ maxLen) (hs1 : s1.size ≤ maxLen) (hsum : s0.size + s1.size ≤ 9223372036854775807) :
    Calls Try.prog 8 #[.agg #[.slice A n c, .slice B m k], .agg #[.string s0, .string s1], .int .i64 x] w fun e w' => e = .returned (.bool true) ∧ Below w.heap.size w w' := by
  by_cases hf : formD ((Vs.take 30).map fewV) (Es.take 50) = 0
  · by_cases hb : x < 0 ∨ (((Vs.take 30).map fewV).length : Int) ≤ x
    · exact labels_out A n c Vs B m k Es s0 s1 x w h hg hn hm hs0 hs1 hsum hf hb
    · exact labels_yes A n c Vs B m k Es s0 s1 x w h hg hn hm hs0 hs1 hsum hf x.toNat (by omega) (by omega)
  · exact labels_no A n c Vs B m k Es s0 s1 x w h hg hn hm hs0 hs1 hsum hf
end Go.Proofs.Ytdhglhcpgmfpoaa
