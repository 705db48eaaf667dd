/- DiagramFinds' walk. -/
import Derived.Test.YtdhglhcpgmfpoaaDgL
namespace Go.Proofs.Ytdhglhcpgmfpoaa
open Go.RowKit
set_option linter.unusedSimpArgs false
set_option linter.unusedVariables false


theorem slice1 {w : World} {g : Nat} {v : VC} (h : Whole w g 39 (vC v)) (hv : RgOk w v.2.1) : DgIn w (some ⟨g, 0, none⟩) 1 1 [v] none 0 0 [] :=
  ⟨by simpa [rowsV] using RdS.of_whole h rfl, RdS.no _ _ _, fun x hx => by
    obtain rfl := List.mem_singleton.1 hx
    exact hv⟩
set_option maxRecDepth 100000 in
set_option maxHeartbeats 4000000 in
theorem law_finds (A : Option Addr) (n c : Nat) (Vs : List VC) (B : Option Addr) (m k : Nat) (Es : List EC) (A' : Option Addr) (n' c' : Nat) (Ws : List VC) (B' : Option Addr) (m' k' : Nat) (Fs : List EC) (x1 x2 x3 : Int) (w : World)
    (h : DgIn w A n c Vs B m k Es) (hg : GoodD Vs Es) (hn : n ≤ maxLen) (hm : m ≤ maxLen) (h' : DgIn w A' n' c' Ws B' m' k' Fs) (hg' : GoodD Ws Fs) (hn' : n' ≤ maxLen) (hm' : m' ≤ maxLen) :
    Calls Try.prog 4 #[.agg #[.slice A n c, .slice B m k], .agg #[.slice A' n' c', .slice B' m' k'], .agg #[.int .i64 x1, .int .i64 x2, .int .i64 x3]] w fun e w' => e = .returned (.bool true) ∧ Below w.heap.size w w' := by
  have HW := Lib.hid (fun W hb => few_step h hg hn hm W hb)
  have HW' := Lib.hid (fun W hb => few_step h' hg' hn' hm' W hb)
  obtain ⟨Va, gVa⟩ : ∃ z, (Vs.take 30).map fewV = z := ⟨_, rfl⟩
  obtain ⟨Ea, gEa⟩ : ∃ z, Es.take 50 = z := ⟨_, rfl⟩
  obtain ⟨Vb, gVb⟩ : ∃ z, (Ws.take 30).map fewV = z := ⟨_, rfl⟩
  obtain ⟨Eb, gEb⟩ : ∃ z, Fs.take 50 = z := ⟨_, rfl⟩
  rw [gVa, gEa] at HW
  rw [gVb, gEb] at HW'
  obtain ⟨⟨⟨⟨i1, i2⟩, ⟨rA, rn, rc, rL⟩, lb, at_⟩, ok⟩, gr⟩ : ∃ z, fndV Va (x1, x2) = z := ⟨_, rfl⟩
  obtain ⟨⟨⟨⟨j1, j2⟩, kb, bt_⟩, ek⟩, ge⟩ : ∃ z, fndE Ea (x1, x2) = z := ⟨_, rfl⟩
  obtain ⟨⟨⟨p1, p2⟩, pk⟩, gp⟩ : ∃ z, atV Va (x1, x2, x3) = z := ⟨_, rfl⟩
  have Gr := Lib.hid gr
  have Ge := Lib.hid ge
  have Gp := Lib.hid gp
  clear h hg hn hm h' hg' hn' hm' gVa gEa gVb gEb gr ge gp
  go_enter Try.func4, Try.ntmps4
  go_wp2_with fail
  refine (shown_any _).mono ?_
  rintro e w1 ⟨rfl, hb1⟩
  have D0_2 := Lib.hid ((((show Whole (w.alloc (.cells #[.slice A n c, .slice B m k] 25)) (w.heap.size) (25) ([.slice A n c, .slice B m k]) from Whole.new2 (by first | rfl | simp)).al (.cells #[.slice A' n' c', .slice B' m' k'] 25)).al (.cells #[.int .i64 x1, .int .i64 x2, .int .i64 x3] 36)).bl hb1)
  have D1_2 := Lib.hid (((show Whole ((w.alloc (.cells #[.slice A n c, .slice B m k] 25)).alloc (.cells #[.slice A' n' c', .slice B' m' k'] 25)) ((w.heap.size + 1)) (25) ([.slice A' n' c', .slice B' m' k']) from Whole.new2 (by first | rfl | simp)).al (.cells #[.int .i64 x1, .int .i64 x2, .int .i64 x3] 36)).bl hb1)
  have X_2 := Lib.hid ((show Whole (((w.alloc (.cells #[.slice A n c, .slice B m k] 25)).alloc (.cells #[.slice A' n' c', .slice B' m' k'] 25)).alloc (.cells #[.int .i64 x1, .int .i64 x2, .int .i64 x3] 36)) ((w.heap.size + 1 + 1)) (36) ([.int .i64 x1, .int .i64 x2, .int .i64 x3]) from Whole.new2 (by first | rfl | simp)).bl hb1)
  have Bel_2 := Lib.hid (bel_bl (bel_al (bel_al (bel_al (Below.refl _ w) (.cells #[.slice A n c, .slice B m k] 25)) (.cells #[.slice A' n' c', .slice B' m' k'] 25)) (.cells #[.int .i64 x1, .int .i64 x2, .int .i64 x3] 36)) hb1)
  clear hb1
  have LO_D0_3 : RowKit.Hid (w.heap.size ≤ w.heap.size) := Lib.hid (by omega)
  have LO_D1_4 : RowKit.Hid (w.heap.size ≤ (w.heap.size + 1)) := Lib.hid (by omega)
  have NE_D0_D1 : RowKit.Hid (w.heap.size ≠ (w.heap.size + 1)) := Lib.hid (by omega)
  have LO_X_5 : RowKit.Hid (w.heap.size ≤ (w.heap.size + 1 + 1)) := Lib.hid (by omega)
  have NE_D0_X : RowKit.Hid (w.heap.size ≠ (w.heap.size + 1 + 1)) := Lib.hid (by omega)
  have NE_D1_X : RowKit.Hid ((w.heap.size + 1) ≠ (w.heap.size + 1 + 1)) := Lib.hid (by omega)
  have lw6 : (w1).cell? ⟨w.heap.size, 0, none⟩ = some (.slice A n c) := D0_2.out.cell (i := 0) rfl
  have lw7 : (w1).cell? ⟨w.heap.size, 1, none⟩ = some (.slice B m k) := D0_2.out.cell (i := 1) rfl
  go_wp2_with fail
  clear lw6 lw7
  have LTN_a_D0 : RowKit.Hid (w.heap.size < w1.heap.size) := Lib.hid (D0_2.out).lt
  have LTN_a_D1 : RowKit.Hid ((w.heap.size + 1) < w1.heap.size) := Lib.hid (D1_2.out).lt
  have LTN_a_X : RowKit.Hid ((w.heap.size + 1 + 1) < w1.heap.size) := Lib.hid (X_2.out).lt
  refine (HW.out _ Bel_2.out).mono ?_
  rintro e w8 ⟨Aa, na, ca, Ba, ma, ka, rfl, hF, hb8⟩
  have Fa := Lib.hid hF
  clear hF
  have D0_9 := Lib.hid (D0_2.out.bl hb8)
  have D1_9 := Lib.hid (D1_2.out.bl hb8)
  have X_9 := Lib.hid (X_2.out.bl hb8)
  have Bel_9 := Lib.hid (bel_bl Bel_2.out hb8)
  clear D0_2 D1_2 X_2 Bel_2
  clear hb8
  have lw10 : (w8).cell? ⟨w.heap.size, 0, none⟩ = some (.slice A n c) := D0_9.out.cell (i := 0) rfl
  have lw11 : (w8).cell? ⟨w.heap.size, 1, none⟩ = some (.slice B m k) := D0_9.out.cell (i := 1) rfl
  have fr0 := D0_9.out.free 0
  have fr1 := D0_9.out.free 1
  go_upto_region 3 with fail
  clear fr0 fr1 lw10 lw11
  obtain ⟨v12, gv12⟩ : ∃ x, (w8.setCell ⟨w.heap.size, 0, none⟩ (.slice Aa na ca)).setCell ⟨w.heap.size, 1, none⟩ (.slice Ba ma ka) = x := ⟨_, rfl⟩
  have D0_12 : RowKit.Hid (Whole v12 w.heap.size 25 [.slice Aa na ca, .slice Ba ma ka]) := Lib.hid (gv12 ▸ ((D0_9.out.set_ 0 (.slice Aa na ca)).set_ 1 (.slice Ba ma ka)))
  have D1_12 := Lib.hid (show Whole v12 (w.heap.size + 1) _ _ from gv12 ▸ ((D1_9.out.far (p := ⟨w.heap.size, 0, none⟩) (by show (w.heap.size + 1) ≠ w.heap.size; exact (Ne.symm NE_D0_D1.out)) (.slice Aa na ca)).far (p := ⟨w.heap.size, 1, none⟩) (by show (w.heap.size + 1) ≠ w.heap.size; exact (Ne.symm NE_D0_D1.out)) (.slice Ba ma ka)))
  have X_12 := Lib.hid (show Whole v12 (w.heap.size + 1 + 1) _ _ from gv12 ▸ ((X_9.out.far (p := ⟨w.heap.size, 0, none⟩) (by show (w.heap.size + 1 + 1) ≠ w.heap.size; exact (Ne.symm NE_D0_X.out)) (.slice Aa na ca)).far (p := ⟨w.heap.size, 1, none⟩) (by show (w.heap.size + 1 + 1) ≠ w.heap.size; exact (Ne.symm NE_D0_X.out)) (.slice Ba ma ka)))
  have Bel_12 : RowKit.Hid (Below w.heap.size w v12) := Lib.hid (gv12 ▸ ((Bel_9.out.setCell (p := ⟨w.heap.size, 0, none⟩) (by show w.heap.size ≤ w.heap.size; exact LO_D0_3.out) _).setCell (p := ⟨w.heap.size, 1, none⟩) (by show w.heap.size ≤ w.heap.size; exact LO_D0_3.out) _))
  have Da_12 : RowKit.Hid (DgIn v12 Aa na ca Va Ba ma ka Ea) := Lib.hid (gv12 ▸ Fa.out.put (g := w.heap.size) (by show w.heap.size ≤ w.heap.size; exact LO_D0_3.out) LTN_a_D0.out _ _)
  rw [gv12]
  clear gv12
  clear D0_9 D1_9 X_9 Bel_9
  have lw13 : (v12).cell? ⟨(w.heap.size + 1), 0, none⟩ = some (.slice A' n' c') := D1_12.out.cell (i := 0) rfl
  have lw14 : (v12).cell? ⟨(w.heap.size + 1), 1, none⟩ = some (.slice B' m' k') := D1_12.out.cell (i := 1) rfl
  go_wp2_with fail
  clear lw13 lw14
  have LTN_b_D0 : RowKit.Hid (w.heap.size < v12.heap.size) := Lib.hid (D0_12.out).lt
  have LTN_b_D1 : RowKit.Hid ((w.heap.size + 1) < v12.heap.size) := Lib.hid (D1_12.out).lt
  have LTN_b_X : RowKit.Hid ((w.heap.size + 1 + 1) < v12.heap.size) := Lib.hid (X_12.out).lt
  refine (HW'.out _ Bel_12.out).mono ?_
  rintro e w15 ⟨Ab, nb, cb, Bb, mb, kb_, rfl, hF, hb15⟩
  have Fb := Lib.hid hF
  clear hF
  have D0_16 := Lib.hid (D0_12.out.bl hb15)
  have D1_16 := Lib.hid (D1_12.out.bl hb15)
  have X_16 := Lib.hid (X_12.out.bl hb15)
  have Da_16 := Lib.hid (Da_12.out.bl hb15)
  have Bel_16 := Lib.hid (bel_bl Bel_12.out hb15)
  clear D0_12 D1_12 X_12 Da_12 Bel_12
  clear hb15
  have lw17 : (w15).cell? ⟨(w.heap.size + 1), 0, none⟩ = some (.slice A' n' c') := D1_16.out.cell (i := 0) rfl
  have lw18 : (w15).cell? ⟨(w.heap.size + 1), 1, none⟩ = some (.slice B' m' k') := D1_16.out.cell (i := 1) rfl
  have fr0 := D1_16.out.free 0
  have fr1 := D1_16.out.free 1
  go_upto_region 4 with fail
  clear fr0 fr1 lw17 lw18
  obtain ⟨v19, gv19⟩ : ∃ x, (w15.setCell ⟨(w.heap.size + 1), 0, none⟩ (.slice Ab nb cb)).setCell ⟨(w.heap.size + 1), 1, none⟩ (.slice Bb mb kb_) = x := ⟨_, rfl⟩
  have D0_19 := Lib.hid (show Whole v19 w.heap.size _ _ from gv19 ▸ ((D0_16.out.far (p := ⟨(w.heap.size + 1), 0, none⟩) (by show w.heap.size ≠ (w.heap.size + 1); exact NE_D0_D1.out) (.slice Ab nb cb)).far (p := ⟨(w.heap.size + 1), 1, none⟩) (by show w.heap.size ≠ (w.heap.size + 1); exact NE_D0_D1.out) (.slice Bb mb kb_)))
  have D1_19 : RowKit.Hid (Whole v19 (w.heap.size + 1) 25 [.slice Ab nb cb, .slice Bb mb kb_]) := Lib.hid (gv19 ▸ ((D1_16.out.set_ 0 (.slice Ab nb cb)).set_ 1 (.slice Bb mb kb_)))
  have X_19 := Lib.hid (show Whole v19 (w.heap.size + 1 + 1) _ _ from gv19 ▸ ((X_16.out.far (p := ⟨(w.heap.size + 1), 0, none⟩) (by show (w.heap.size + 1 + 1) ≠ (w.heap.size + 1); exact (Ne.symm NE_D1_X.out)) (.slice Ab nb cb)).far (p := ⟨(w.heap.size + 1), 1, none⟩) (by show (w.heap.size + 1 + 1) ≠ (w.heap.size + 1); exact (Ne.symm NE_D1_X.out)) (.slice Bb mb kb_)))
  have Da_19 : RowKit.Hid (DgIn v19 Aa na ca Va Ba ma ka Ea) := Lib.hid (gv19 ▸ DgIn.put (g := (w.heap.size + 1)) Da_16.out (fun a e h0 => by have h1 := Fa.out.fresh.2.2.1 a e h0; have h2 := LTN_a_D1.out; omega) (fun a e h0 => by have h1 := Fa.out.fresh.2.2.2 a e h0; have h2 := LTN_a_D1.out; omega) (fun x hx a e h0 => by have h1 := Fa.out.low x hx a e h0; have h2 := LO_D1_4.out; omega) _ _)
  have Bel_19 : RowKit.Hid (Below w.heap.size w v19) := Lib.hid (gv19 ▸ ((Bel_16.out.setCell (p := ⟨(w.heap.size + 1), 0, none⟩) (by show w.heap.size ≤ (w.heap.size + 1); exact LO_D1_4.out) _).setCell (p := ⟨(w.heap.size + 1), 1, none⟩) (by show w.heap.size ≤ (w.heap.size + 1); exact LO_D1_4.out) _))
  have Db_19 : RowKit.Hid (DgIn v19 Ab nb cb Vb Bb mb kb_ Eb) := Lib.hid (gv19 ▸ Fb.out.put (g := (w.heap.size + 1)) (by show w.heap.size ≤ (w.heap.size + 1); exact LO_D1_4.out) LTN_b_D1.out _ _)
  rw [gv19]
  clear gv19
  clear D0_16 D1_16 X_16 Da_16 Bel_16
  have hr30 : ∀ x ∈ Va, x.2.1.2.1 ≤ 1000000 := fun x hx => by have := Fa.out.r30 x hx; omega
  have hn30 : na ≤ 1000000 := by have := Fa.out.n30; omega
  have hm50 : ma ≤ 1000000 := by have := Fa.out.m50; omega
  have HV1 : RowKit.Hid (∀ W, DgIn W Aa na ca Va Ba ma ka Ea → Calls Try.prog 18 #[.agg #[.slice Aa na ca, .slice Ba ma ka], .agg #[.int .i64 x1, .int .i64 x2]] W fun e w' => ∃ A1 c1, e = .returned (.tuple #[.agg #[.int .i64 i1, .int .i64 i2, .slice A1 rn c1, .string lb, .int .i64 at_], .bool ok]) ∧ RgOk w' (A1, rn, c1, rL) ∧ Below W.heap.size W w') := Lib.hid (fun W h => by
    refine (vertex_any Aa na ca Va Ba ma ka Ea x1 x2 W h hn30 hr30 _ ok Gr.out).mono ?_
    rintro e w' ⟨A1, c1, rfl, ho⟩
    exact ⟨A1, c1, rfl, ⟨own_cap ho.own, own_rds ho.own⟩, ho.below⟩)
  have HV2 : RowKit.Hid (∀ W, DgIn W Aa na ca Va Ba ma ka Ea → Calls Try.prog 19 #[.agg #[.slice Aa na ca, .slice Ba ma ka], .agg #[.int .i64 x1, .int .i64 x2]] W fun e w' => e = .returned (.tuple #[.agg #[.int .i64 i1, .int .i64 i2, .slice rA rn rc, .string lb, .int .i64 at_], .bool ok]) ∧ Below W.heap.size W w') := Lib.hid (fun W h => by
    have h1 := rfindV Aa na ca Va Ba ma ka Ea x1 x2 W h.v hn30
    rw [Gr.out] at h1
    exact h1)
  have HR0 : RowKit.Hid (∀ W, DgIn W Aa na ca Va Ba ma ka Ea → RgOk W (rA, rn, rc, rL)) := Lib.hid (fun W h => by
    have h1 := (fndV_ring h hr30 (x1, x2)).1
    rw [Gr.out] at h1
    exact h1)
  have HE1 : RowKit.Hid (∀ W, DgIn W Aa na ca Va Ba ma ka Ea → Calls Try.prog 20 #[.agg #[.slice Aa na ca, .slice Ba ma ka], .agg #[.int .i64 x1, .int .i64 x2]] W fun e w' => e = .returned (.tuple #[.agg #[.int .i64 j1, .int .i64 j2, .string kb, .int .i64 bt_], .bool ek]) ∧ Below W.heap.size W w') := Lib.hid (fun W h => by
    have h1 := edge_any Aa na ca Va Ba ma ka Ea x1 x2 W h.e hm50
    rw [Ge.out] at h1
    exact h1)
  have HE2 : RowKit.Hid (∀ W, DgIn W Aa na ca Va Ba ma ka Ea → Calls Try.prog 21 #[.agg #[.slice Aa na ca, .slice Ba ma ka], .agg #[.int .i64 x1, .int .i64 x2]] W fun e w' => e = .returned (.tuple #[.agg #[.int .i64 j1, .int .i64 j2, .string kb, .int .i64 bt_], .bool ek]) ∧ Below W.heap.size W w') := Lib.hid (fun W h => by
    have h1 := rfindE Aa na ca Va Ba ma ka Ea x1 x2 W h.e hm50
    rw [Ge.out] at h1
    exact h1)
  have HP1 : RowKit.Hid (∀ W, DgIn W Aa na ca Va Ba ma ka Ea → Calls Try.prog 22 #[.agg #[.slice Aa na ca, .slice Ba ma ka], .agg #[.int .i64 x1, .int .i64 x2, .int .i64 x3]] W fun e w' => e = .returned (.tuple #[.agg #[.int .i64 p1, .int .i64 p2], .bool pk]) ∧ Below W.heap.size W w') := Lib.hid (fun W h => by
    have h1 := at_any Aa na ca Va Ba ma ka Ea x1 x2 x3 W h hn30 hr30
    rw [Gp.out] at h1
    exact h1)
  have HP2 : RowKit.Hid (∀ W, DgIn W Aa na ca Va Ba ma ka Ea → Calls Try.prog 23 #[.agg #[.slice Aa na ca, .slice Ba ma ka], .agg #[.int .i64 x1, .int .i64 x2, .int .i64 x3]] W fun e w' => e = .returned (.tuple #[.agg #[.int .i64 p1, .int .i64 p2], .bool pk]) ∧ Below W.heap.size W w') := Lib.hid (fun W h => by
    have h1 := rat_any Aa na ca Va Ba ma ka Ea x1 x2 x3 W h hn30 hr30
    rw [Gp.out] at h1
    exact h1)
  have HN1 : RowKit.Hid (∀ W, DgIn W Aa na ca Va Ba ma ka Ea → Calls Try.prog 26 #[.agg #[.slice Aa na ca, .slice Ba ma ka]] W fun e w' => ∃ A1 c1, e = .returned (.slice A1 (na + ma) c1) ∧ RdS w' w'.heap.size 2 A1 (na + ma) c1 (rowsV idC (Va.map (·.1) ++ Ea.map (·.1))) ∧ Below W.heap.size W w') := Lib.hid (fun W h => by
    refine (names_any Aa na ca Va Ba ma ka Ea W h hn30 hm50).mono ?_
    rintro e w' ⟨A1, c1, rfl, ho⟩
    exact ⟨A1, c1, rfl, own_rds ho.own, ho.below⟩)
  have HN2 : RowKit.Hid (∀ W, DgIn W Aa na ca Va Ba ma ka Ea → Calls Try.prog 27 #[.agg #[.slice Aa na ca, .slice Ba ma ka]] W fun e w' => ∃ A1 c1, e = .returned (.slice A1 (na + ma) c1) ∧ RdS w' w'.heap.size 2 A1 (na + ma) c1 (rowsV idC (Va.map (·.1) ++ Ea.map (·.1))) ∧ Below W.heap.size W w') := Lib.hid (fun W h => by
    refine (rnames_any Aa na ca Va Ba ma ka Ea W h hn30 hm50).mono ?_
    rintro e w' ⟨A1, c1, rfl, ho⟩
    exact ⟨A1, c1, rfl, own_rds ho.own, ho.below⟩)
  have HID : RowKit.Hid (∀ A1 c1 A2 c2 W, RdS W W.heap.size 2 A1 (na + ma) c1 (rowsV idC (Va.map (·.1) ++ Ea.map (·.1))) → RdS W W.heap.size 2 A2 (na + ma) c2 (rowsV idC (Va.map (·.1) ++ Ea.map (·.1))) → Calls Try.prog 25 #[.slice A1 (na + ma) c1, .slice A2 (na + ma) c2] W fun e w' => e = .returned (.bool true) ∧ Below W.heap.size W w') := Lib.hid (fun A1 c1 A2 c2 W h1 h2 => by
    have h3 := rids_any A1 (na + ma) c1 _ A2 (na + ma) c2 _ W h1 h2 (by have := Fa.out.n30; have := Fa.out.m50; omega)
    rwa [decide_eq_true rfl] at h3)
  have HCl : RowKit.Hid (∀ W, DgIn W Aa na ca Va Ba ma ka Ea → Calls Try.prog 28 #[.agg #[.slice Aa na ca, .slice Ba ma ka]] W fun e w' => ∃ A2 c2 B2 k2 Wc, e = .returned (.agg #[.slice A2 na c2, .slice B2 ma k2]) ∧ DgIn w' A2 na c2 Wc B2 ma k2 Ea ∧ Wc.map vS = Va.map vS ∧ Below W.heap.size W w') := Lib.hid (fun W h => by
    refine (clone_any Aa na ca Va Ba ma ka Ea W h hn30 hm50 hr30).mono ?_
    rintro e w' ⟨A2, c2, B2, k2, Wc, rfl, hc, hs, hb⟩
    exact ⟨A2, c2, B2, k2, Wc, rfl, hc.dg, hs, hb⟩)
  have HS1 : RowKit.Hid (∀ A2 c2 B2 k2 Wc W, DgIn W A2 na c2 Wc B2 ma k2 Ea → DgIn W Aa na ca Va Ba ma ka Ea → Wc.map vS = Va.map vS → Calls Try.prog 24 #[.agg #[.slice A2 na c2, .slice B2 ma k2], .agg #[.slice Aa na ca, .slice Ba ma ka]] W fun e w' => e = .returned (.bool true) ∧ Below W.heap.size W w') := Lib.hid (fun A2 c2 B2 k2 Wc W h1 h2 hs => by
    have h3 := rsame_any A2 na c2 Wc B2 ma k2 Ea Aa na ca Va Ba ma ka Ea W h1 h2 hn30 hm50
    rwa [decide_eq_true ⟨hs, rfl⟩] at h3)
  have HQ1 : RowKit.Hid (∀ W, DgIn W Aa na ca Va Ba ma ka Ea → DgIn W Ab nb cb Vb Bb mb kb_ Eb → Calls Try.prog 29 #[.agg #[.slice Aa na ca, .slice Ba ma ka], .agg #[.slice Ab nb cb, .slice Bb mb kb_]] W fun e w' => e = .returned (.bool (decide (Va.map vS = Vb.map vS ∧ Ea = Eb))) ∧ Below W.heap.size W w') := Lib.hid (fun W h1 h2 => same_any _ _ _ _ _ _ _ _ _ _ _ _ _ _ _ _ W h1 h2 hn30 hm50)
  have HQ2 : RowKit.Hid (∀ W, DgIn W Aa na ca Va Ba ma ka Ea → DgIn W Ab nb cb Vb Bb mb kb_ Eb → Calls Try.prog 24 #[.agg #[.slice Aa na ca, .slice Ba ma ka], .agg #[.slice Ab nb cb, .slice Bb mb kb_]] W fun e w' => e = .returned (.bool (decide (Va.map vS = Vb.map vS ∧ Ea = Eb))) ∧ Below W.heap.size W w') := Lib.hid (fun W h1 h2 => rsame_any _ _ _ _ _ _ _ _ _ _ _ _ _ _ _ _ W h1 h2 hn30 hm50)
  have HS0 : RowKit.Hid (∀ g1 g2 A1 c1 W, DgIn W (some ⟨g1, 0, none⟩) 1 1 [((i1, i2), (A1, rn, c1, rL), lb, at_)] none 0 0 [] → DgIn W (some ⟨g2, 0, none⟩) 1 1 [((i1, i2), (rA, rn, rc, rL), lb, at_)] none 0 0 [] → Calls Try.prog 24 #[.agg #[.slice (some ⟨g1, 0, none⟩) 1 1, .slice none 0 0], .agg #[.slice (some ⟨g2, 0, none⟩) 1 1, .slice none 0 0]] W fun e w' => e = .returned (.bool true) ∧ Below W.heap.size W w') := Lib.hid (fun g1 g2 A1 c1 W h1 h2 => by
    have h3 := rsame_any _ _ _ _ _ _ _ _ _ _ _ _ _ _ _ _ W h1 h2 (by omega) (by omega)
    rwa [decide_eq_true ⟨rfl, rfl⟩] at h3)
  obtain ⟨bq, gbq⟩ : ∃ z, decide (Va.map vS = Vb.map vS ∧ Ea = Eb) = z := ⟨_, rfl⟩
  rw [gbq] at HQ1 HQ2
  have heE : ∀ W, (binOp .eql 43 (.agg #[.int .i64 j1, .int .i64 j2, .string kb, .int .i64 bt_]) (.agg #[.int .i64 j1, .int .i64 j2, .string kb, .int .i64 bt_])).run Try.prog W = .ok (.bool true) W := fun W => by
    have h1 := edge_eq ((j1, j2), kb, bt_) ((j1, j2), kb, bt_) W
    rwa [decide_eq_true rfl] at h1
  have heI : ∀ W, (binOp .eql 34 (.agg #[.int .i64 p1, .int .i64 p2]) (.agg #[.int .i64 p1, .int .i64 p2])).run Try.prog W = .ok (.bool true) W := fun W => by
    have h1 := eq_id p1 p2 p1 p2 W
    simpa using h1
  clear gbq hr30 hn30 hm50
  have lw20 : (v19).cell? ⟨w.heap.size, 0, none⟩ = some (.slice Aa na ca) := D0_19.out.cell (i := 0) rfl
  have lw21 : (v19).cell? ⟨w.heap.size, 1, none⟩ = some (.slice Ba ma ka) := D0_19.out.cell (i := 1) rfl
  have lw22 : (v19).cell? ⟨(w.heap.size + 1 + 1), 0, none⟩ = some (.int .i64 x1) := X_19.out.cell (i := 0) rfl
  have lw23 : (v19).cell? ⟨(w.heap.size + 1 + 1), 1, none⟩ = some (.int .i64 x2) := X_19.out.cell (i := 1) rfl
  go_wp2_with fail
  clear lw20 lw21 lw22 lw23
  refine (HV1.out _ Da_19.out).mono ?_
  rintro e w24 ⟨A1, c1, rfl, hr1, hb24⟩
  have D0_25 := Lib.hid (D0_19.out.bl hb24)
  have D1_25 := Lib.hid (D1_19.out.bl hb24)
  have X_25 := Lib.hid (X_19.out.bl hb24)
  have Da_25 := Lib.hid (Da_19.out.bl hb24)
  have Db_25 := Lib.hid (Db_19.out.bl hb24)
  have Bel_25 := Lib.hid (bel_bl Bel_19.out hb24)
  clear D0_19 D1_19 X_19 Da_19 Db_19 Bel_19
  clear hb24
  have R1_25 := Lib.hid hr1
  clear hr1
  have lw26 : ((w24.alloc (.cells #[.int .i64 i1, .int .i64 i2, .slice A1 rn c1, .string lb, .int .i64 at_] 39))).cell? ⟨w.heap.size, 0, none⟩ = some (.slice Aa na ca) := (D0_25.out.al (.cells #[.int .i64 i1, .int .i64 i2, .slice A1 rn c1, .string lb, .int .i64 at_] 39)).cell (i := 0) rfl
  have lw27 : ((w24.alloc (.cells #[.int .i64 i1, .int .i64 i2, .slice A1 rn c1, .string lb, .int .i64 at_] 39))).cell? ⟨w.heap.size, 1, none⟩ = some (.slice Ba ma ka) := (D0_25.out.al (.cells #[.int .i64 i1, .int .i64 i2, .slice A1 rn c1, .string lb, .int .i64 at_] 39)).cell (i := 1) rfl
  have lw28 : ((w24.alloc (.cells #[.int .i64 i1, .int .i64 i2, .slice A1 rn c1, .string lb, .int .i64 at_] 39))).cell? ⟨(w.heap.size + 1 + 1), 0, none⟩ = some (.int .i64 x1) := (X_25.out.al (.cells #[.int .i64 i1, .int .i64 i2, .slice A1 rn c1, .string lb, .int .i64 at_] 39)).cell (i := 0) rfl
  have lw29 : ((w24.alloc (.cells #[.int .i64 i1, .int .i64 i2, .slice A1 rn c1, .string lb, .int .i64 at_] 39))).cell? ⟨(w.heap.size + 1 + 1), 1, none⟩ = some (.int .i64 x2) := (X_25.out.al (.cells #[.int .i64 i1, .int .i64 i2, .slice A1 rn c1, .string lb, .int .i64 at_] 39)).cell (i := 1) rfl
  go_wp2_with fail
  clear lw26 lw27 lw28 lw29
  refine (HV2.out _ (Da_25.out.al (.cells #[.int .i64 i1, .int .i64 i2, .slice A1 rn c1, .string lb, .int .i64 at_] 39))).mono ?_
  rintro e w30 ⟨rfl, hb30⟩
  have D0_31 := Lib.hid ((D0_25.out.al (.cells #[.int .i64 i1, .int .i64 i2, .slice A1 rn c1, .string lb, .int .i64 at_] 39)).bl hb30)
  have D1_31 := Lib.hid ((D1_25.out.al (.cells #[.int .i64 i1, .int .i64 i2, .slice A1 rn c1, .string lb, .int .i64 at_] 39)).bl hb30)
  have X_31 := Lib.hid ((X_25.out.al (.cells #[.int .i64 i1, .int .i64 i2, .slice A1 rn c1, .string lb, .int .i64 at_] 39)).bl hb30)
  have Da_31 := Lib.hid ((Da_25.out.al (.cells #[.int .i64 i1, .int .i64 i2, .slice A1 rn c1, .string lb, .int .i64 at_] 39)).bl hb30)
  have Db_31 := Lib.hid ((Db_25.out.al (.cells #[.int .i64 i1, .int .i64 i2, .slice A1 rn c1, .string lb, .int .i64 at_] 39)).bl hb30)
  have R1_31 := Lib.hid ((R1_25.out.al (.cells #[.int .i64 i1, .int .i64 i2, .slice A1 rn c1, .string lb, .int .i64 at_] 39)).bl hb30)
  have V1_31 := Lib.hid ((show Whole (w24.alloc (.cells #[.int .i64 i1, .int .i64 i2, .slice A1 rn c1, .string lb, .int .i64 at_] 39)) (w24.heap.size) (39) ([.int .i64 i1, .int .i64 i2, .slice A1 rn c1, .string lb, .int .i64 at_]) from Whole.new2 (by first | rfl | simp)).bl hb30)
  have Bel_31 := Lib.hid (bel_bl (bel_al Bel_25.out (.cells #[.int .i64 i1, .int .i64 i2, .slice A1 rn c1, .string lb, .int .i64 at_] 39)) hb30)
  clear D0_25 D1_25 X_25 Da_25 Db_25 R1_25 Bel_25
  clear hb30
  have R2_32 := Lib.hid (HR0.out _ Da_31.out)
  have lw33 : ((w30.alloc (.cells #[.int .i64 i1, .int .i64 i2, .slice rA rn rc, .string lb, .int .i64 at_] 39))).cell? ⟨w.heap.size, 0, none⟩ = some (.slice Aa na ca) := (D0_31.out.al (.cells #[.int .i64 i1, .int .i64 i2, .slice rA rn rc, .string lb, .int .i64 at_] 39)).cell (i := 0) rfl
  have lw34 : ((w30.alloc (.cells #[.int .i64 i1, .int .i64 i2, .slice rA rn rc, .string lb, .int .i64 at_] 39))).cell? ⟨w.heap.size, 1, none⟩ = some (.slice Ba ma ka) := (D0_31.out.al (.cells #[.int .i64 i1, .int .i64 i2, .slice rA rn rc, .string lb, .int .i64 at_] 39)).cell (i := 1) rfl
  have lw35 : ((w30.alloc (.cells #[.int .i64 i1, .int .i64 i2, .slice rA rn rc, .string lb, .int .i64 at_] 39))).cell? ⟨(w.heap.size + 1 + 1), 0, none⟩ = some (.int .i64 x1) := (X_31.out.al (.cells #[.int .i64 i1, .int .i64 i2, .slice rA rn rc, .string lb, .int .i64 at_] 39)).cell (i := 0) rfl
  have lw36 : ((w30.alloc (.cells #[.int .i64 i1, .int .i64 i2, .slice rA rn rc, .string lb, .int .i64 at_] 39))).cell? ⟨(w.heap.size + 1 + 1), 1, none⟩ = some (.int .i64 x2) := (X_31.out.al (.cells #[.int .i64 i1, .int .i64 i2, .slice rA rn rc, .string lb, .int .i64 at_] 39)).cell (i := 1) rfl
  go_wp2_with fail
  clear lw33 lw34 lw35 lw36
  refine (HE1.out _ (Da_31.out.al (.cells #[.int .i64 i1, .int .i64 i2, .slice rA rn rc, .string lb, .int .i64 at_] 39))).mono ?_
  rintro e w37 ⟨rfl, hb37⟩
  have D0_38 := Lib.hid ((D0_31.out.al (.cells #[.int .i64 i1, .int .i64 i2, .slice rA rn rc, .string lb, .int .i64 at_] 39)).bl hb37)
  have D1_38 := Lib.hid ((D1_31.out.al (.cells #[.int .i64 i1, .int .i64 i2, .slice rA rn rc, .string lb, .int .i64 at_] 39)).bl hb37)
  have X_38 := Lib.hid ((X_31.out.al (.cells #[.int .i64 i1, .int .i64 i2, .slice rA rn rc, .string lb, .int .i64 at_] 39)).bl hb37)
  have Da_38 := Lib.hid ((Da_31.out.al (.cells #[.int .i64 i1, .int .i64 i2, .slice rA rn rc, .string lb, .int .i64 at_] 39)).bl hb37)
  have Db_38 := Lib.hid ((Db_31.out.al (.cells #[.int .i64 i1, .int .i64 i2, .slice rA rn rc, .string lb, .int .i64 at_] 39)).bl hb37)
  have R1_38 := Lib.hid ((R1_31.out.al (.cells #[.int .i64 i1, .int .i64 i2, .slice rA rn rc, .string lb, .int .i64 at_] 39)).bl hb37)
  have V1_38 := Lib.hid ((V1_31.out.al (.cells #[.int .i64 i1, .int .i64 i2, .slice rA rn rc, .string lb, .int .i64 at_] 39)).bl hb37)
  have R2_38 := Lib.hid ((R2_32.out.al (.cells #[.int .i64 i1, .int .i64 i2, .slice rA rn rc, .string lb, .int .i64 at_] 39)).bl hb37)
  have V2_38 := Lib.hid ((show Whole (w30.alloc (.cells #[.int .i64 i1, .int .i64 i2, .slice rA rn rc, .string lb, .int .i64 at_] 39)) (w30.heap.size) (39) ([.int .i64 i1, .int .i64 i2, .slice rA rn rc, .string lb, .int .i64 at_]) from Whole.new2 (by first | rfl | simp)).bl hb37)
  have Bel_38 := Lib.hid (bel_bl (bel_al Bel_31.out (.cells #[.int .i64 i1, .int .i64 i2, .slice rA rn rc, .string lb, .int .i64 at_] 39)) hb37)
  clear D0_31 D1_31 X_31 Da_31 Db_31 R1_31 V1_31 R2_32 Bel_31
  clear hb37
  have lw39 : ((w37.alloc (.cells #[.int .i64 j1, .int .i64 j2, .string kb, .int .i64 bt_] 43))).cell? ⟨w.heap.size, 0, none⟩ = some (.slice Aa na ca) := (D0_38.out.al (.cells #[.int .i64 j1, .int .i64 j2, .string kb, .int .i64 bt_] 43)).cell (i := 0) rfl
  have lw40 : ((w37.alloc (.cells #[.int .i64 j1, .int .i64 j2, .string kb, .int .i64 bt_] 43))).cell? ⟨w.heap.size, 1, none⟩ = some (.slice Ba ma ka) := (D0_38.out.al (.cells #[.int .i64 j1, .int .i64 j2, .string kb, .int .i64 bt_] 43)).cell (i := 1) rfl
  have lw41 : ((w37.alloc (.cells #[.int .i64 j1, .int .i64 j2, .string kb, .int .i64 bt_] 43))).cell? ⟨(w.heap.size + 1 + 1), 0, none⟩ = some (.int .i64 x1) := (X_38.out.al (.cells #[.int .i64 j1, .int .i64 j2, .string kb, .int .i64 bt_] 43)).cell (i := 0) rfl
  have lw42 : ((w37.alloc (.cells #[.int .i64 j1, .int .i64 j2, .string kb, .int .i64 bt_] 43))).cell? ⟨(w.heap.size + 1 + 1), 1, none⟩ = some (.int .i64 x2) := (X_38.out.al (.cells #[.int .i64 j1, .int .i64 j2, .string kb, .int .i64 bt_] 43)).cell (i := 1) rfl
  go_wp2_with fail
  clear lw39 lw40 lw41 lw42
  refine (HE2.out _ (Da_38.out.al (.cells #[.int .i64 j1, .int .i64 j2, .string kb, .int .i64 bt_] 43))).mono ?_
  rintro e w43 ⟨rfl, hb43⟩
  have D0_44 := Lib.hid ((D0_38.out.al (.cells #[.int .i64 j1, .int .i64 j2, .string kb, .int .i64 bt_] 43)).bl hb43)
  have D1_44 := Lib.hid ((D1_38.out.al (.cells #[.int .i64 j1, .int .i64 j2, .string kb, .int .i64 bt_] 43)).bl hb43)
  have X_44 := Lib.hid ((X_38.out.al (.cells #[.int .i64 j1, .int .i64 j2, .string kb, .int .i64 bt_] 43)).bl hb43)
  have Da_44 := Lib.hid ((Da_38.out.al (.cells #[.int .i64 j1, .int .i64 j2, .string kb, .int .i64 bt_] 43)).bl hb43)
  have Db_44 := Lib.hid ((Db_38.out.al (.cells #[.int .i64 j1, .int .i64 j2, .string kb, .int .i64 bt_] 43)).bl hb43)
  have R1_44 := Lib.hid ((R1_38.out.al (.cells #[.int .i64 j1, .int .i64 j2, .string kb, .int .i64 bt_] 43)).bl hb43)
  have V1_44 := Lib.hid ((V1_38.out.al (.cells #[.int .i64 j1, .int .i64 j2, .string kb, .int .i64 bt_] 43)).bl hb43)
  have R2_44 := Lib.hid ((R2_38.out.al (.cells #[.int .i64 j1, .int .i64 j2, .string kb, .int .i64 bt_] 43)).bl hb43)
  have V2_44 := Lib.hid ((V2_38.out.al (.cells #[.int .i64 j1, .int .i64 j2, .string kb, .int .i64 bt_] 43)).bl hb43)
  have E1_44 := Lib.hid ((show Whole (w37.alloc (.cells #[.int .i64 j1, .int .i64 j2, .string kb, .int .i64 bt_] 43)) (w37.heap.size) (43) ([.int .i64 j1, .int .i64 j2, .string kb, .int .i64 bt_]) from Whole.new2 (by first | rfl | simp)).bl hb43)
  have Bel_44 := Lib.hid (bel_bl (bel_al Bel_38.out (.cells #[.int .i64 j1, .int .i64 j2, .string kb, .int .i64 bt_] 43)) hb43)
  clear D0_38 D1_38 X_38 Da_38 Db_38 R1_38 V1_38 R2_38 V2_38 Bel_38
  clear hb43
  have lw45 : ((w43.alloc (.cells #[.int .i64 j1, .int .i64 j2, .string kb, .int .i64 bt_] 43))).cell? ⟨w.heap.size, 0, none⟩ = some (.slice Aa na ca) := (D0_44.out.al (.cells #[.int .i64 j1, .int .i64 j2, .string kb, .int .i64 bt_] 43)).cell (i := 0) rfl
  have lw46 : ((w43.alloc (.cells #[.int .i64 j1, .int .i64 j2, .string kb, .int .i64 bt_] 43))).cell? ⟨w.heap.size, 1, none⟩ = some (.slice Ba ma ka) := (D0_44.out.al (.cells #[.int .i64 j1, .int .i64 j2, .string kb, .int .i64 bt_] 43)).cell (i := 1) rfl
  have lw47 : ((w43.alloc (.cells #[.int .i64 j1, .int .i64 j2, .string kb, .int .i64 bt_] 43))).cell? ⟨(w.heap.size + 1 + 1), 0, none⟩ = some (.int .i64 x1) := (X_44.out.al (.cells #[.int .i64 j1, .int .i64 j2, .string kb, .int .i64 bt_] 43)).cell (i := 0) rfl
  have lw48 : ((w43.alloc (.cells #[.int .i64 j1, .int .i64 j2, .string kb, .int .i64 bt_] 43))).cell? ⟨(w.heap.size + 1 + 1), 1, none⟩ = some (.int .i64 x2) := (X_44.out.al (.cells #[.int .i64 j1, .int .i64 j2, .string kb, .int .i64 bt_] 43)).cell (i := 1) rfl
  have lw49 : ((w43.alloc (.cells #[.int .i64 j1, .int .i64 j2, .string kb, .int .i64 bt_] 43))).cell? ⟨(w.heap.size + 1 + 1), 2, none⟩ = some (.int .i64 x3) := (X_44.out.al (.cells #[.int .i64 j1, .int .i64 j2, .string kb, .int .i64 bt_] 43)).cell (i := 2) rfl
  go_wp2_with fail
  clear lw45 lw46 lw47 lw48 lw49
  refine (HP1.out _ (Da_44.out.al (.cells #[.int .i64 j1, .int .i64 j2, .string kb, .int .i64 bt_] 43))).mono ?_
  rintro e w50 ⟨rfl, hb50⟩
  have D0_51 := Lib.hid ((D0_44.out.al (.cells #[.int .i64 j1, .int .i64 j2, .string kb, .int .i64 bt_] 43)).bl hb50)
  have D1_51 := Lib.hid ((D1_44.out.al (.cells #[.int .i64 j1, .int .i64 j2, .string kb, .int .i64 bt_] 43)).bl hb50)
  have X_51 := Lib.hid ((X_44.out.al (.cells #[.int .i64 j1, .int .i64 j2, .string kb, .int .i64 bt_] 43)).bl hb50)
  have Da_51 := Lib.hid ((Da_44.out.al (.cells #[.int .i64 j1, .int .i64 j2, .string kb, .int .i64 bt_] 43)).bl hb50)
  have Db_51 := Lib.hid ((Db_44.out.al (.cells #[.int .i64 j1, .int .i64 j2, .string kb, .int .i64 bt_] 43)).bl hb50)
  have R1_51 := Lib.hid ((R1_44.out.al (.cells #[.int .i64 j1, .int .i64 j2, .string kb, .int .i64 bt_] 43)).bl hb50)
  have V1_51 := Lib.hid ((V1_44.out.al (.cells #[.int .i64 j1, .int .i64 j2, .string kb, .int .i64 bt_] 43)).bl hb50)
  have R2_51 := Lib.hid ((R2_44.out.al (.cells #[.int .i64 j1, .int .i64 j2, .string kb, .int .i64 bt_] 43)).bl hb50)
  have V2_51 := Lib.hid ((V2_44.out.al (.cells #[.int .i64 j1, .int .i64 j2, .string kb, .int .i64 bt_] 43)).bl hb50)
  have E1_51 := Lib.hid ((E1_44.out.al (.cells #[.int .i64 j1, .int .i64 j2, .string kb, .int .i64 bt_] 43)).bl hb50)
  have E2_51 := Lib.hid ((show Whole (w43.alloc (.cells #[.int .i64 j1, .int .i64 j2, .string kb, .int .i64 bt_] 43)) (w43.heap.size) (43) ([.int .i64 j1, .int .i64 j2, .string kb, .int .i64 bt_]) from Whole.new2 (by first | rfl | simp)).bl hb50)
  have Bel_51 := Lib.hid (bel_bl (bel_al Bel_44.out (.cells #[.int .i64 j1, .int .i64 j2, .string kb, .int .i64 bt_] 43)) hb50)
  clear D0_44 D1_44 X_44 Da_44 Db_44 R1_44 V1_44 R2_44 V2_44 E1_44 Bel_44
  clear hb50
  have lw52 : ((w50.alloc (.cells #[.int .i64 p1, .int .i64 p2] 34))).cell? ⟨w.heap.size, 0, none⟩ = some (.slice Aa na ca) := (D0_51.out.al (.cells #[.int .i64 p1, .int .i64 p2] 34)).cell (i := 0) rfl
  have lw53 : ((w50.alloc (.cells #[.int .i64 p1, .int .i64 p2] 34))).cell? ⟨w.heap.size, 1, none⟩ = some (.slice Ba ma ka) := (D0_51.out.al (.cells #[.int .i64 p1, .int .i64 p2] 34)).cell (i := 1) rfl
  have lw54 : ((w50.alloc (.cells #[.int .i64 p1, .int .i64 p2] 34))).cell? ⟨(w.heap.size + 1 + 1), 0, none⟩ = some (.int .i64 x1) := (X_51.out.al (.cells #[.int .i64 p1, .int .i64 p2] 34)).cell (i := 0) rfl
  have lw55 : ((w50.alloc (.cells #[.int .i64 p1, .int .i64 p2] 34))).cell? ⟨(w.heap.size + 1 + 1), 1, none⟩ = some (.int .i64 x2) := (X_51.out.al (.cells #[.int .i64 p1, .int .i64 p2] 34)).cell (i := 1) rfl
  have lw56 : ((w50.alloc (.cells #[.int .i64 p1, .int .i64 p2] 34))).cell? ⟨(w.heap.size + 1 + 1), 2, none⟩ = some (.int .i64 x3) := (X_51.out.al (.cells #[.int .i64 p1, .int .i64 p2] 34)).cell (i := 2) rfl
  go_wp2_with fail
  clear lw52 lw53 lw54 lw55 lw56
  refine (HP2.out _ (Da_51.out.al (.cells #[.int .i64 p1, .int .i64 p2] 34))).mono ?_
  rintro e w57 ⟨rfl, hb57⟩
  have D0_58 := Lib.hid ((D0_51.out.al (.cells #[.int .i64 p1, .int .i64 p2] 34)).bl hb57)
  have D1_58 := Lib.hid ((D1_51.out.al (.cells #[.int .i64 p1, .int .i64 p2] 34)).bl hb57)
  have X_58 := Lib.hid ((X_51.out.al (.cells #[.int .i64 p1, .int .i64 p2] 34)).bl hb57)
  have Da_58 := Lib.hid ((Da_51.out.al (.cells #[.int .i64 p1, .int .i64 p2] 34)).bl hb57)
  have Db_58 := Lib.hid ((Db_51.out.al (.cells #[.int .i64 p1, .int .i64 p2] 34)).bl hb57)
  have R1_58 := Lib.hid ((R1_51.out.al (.cells #[.int .i64 p1, .int .i64 p2] 34)).bl hb57)
  have V1_58 := Lib.hid ((V1_51.out.al (.cells #[.int .i64 p1, .int .i64 p2] 34)).bl hb57)
  have R2_58 := Lib.hid ((R2_51.out.al (.cells #[.int .i64 p1, .int .i64 p2] 34)).bl hb57)
  have V2_58 := Lib.hid ((V2_51.out.al (.cells #[.int .i64 p1, .int .i64 p2] 34)).bl hb57)
  have E1_58 := Lib.hid ((E1_51.out.al (.cells #[.int .i64 p1, .int .i64 p2] 34)).bl hb57)
  have E2_58 := Lib.hid ((E2_51.out.al (.cells #[.int .i64 p1, .int .i64 p2] 34)).bl hb57)
  have P1_58 := Lib.hid ((show Whole (w50.alloc (.cells #[.int .i64 p1, .int .i64 p2] 34)) (w50.heap.size) (34) ([.int .i64 p1, .int .i64 p2]) from Whole.new2 (by first | rfl | simp)).bl hb57)
  have Bel_58 := Lib.hid (bel_bl (bel_al Bel_51.out (.cells #[.int .i64 p1, .int .i64 p2] 34)) hb57)
  clear D0_51 D1_51 X_51 Da_51 Db_51 R1_51 V1_51 R2_51 V2_51 E1_51 E2_51 Bel_51
  clear hb57
  have lw59 : ((w57.alloc (.cells #[.int .i64 p1, .int .i64 p2] 34))).cell? ⟨w24.heap.size, 0, none⟩ = some (.int .i64 i1) := (V1_58.out.al (.cells #[.int .i64 p1, .int .i64 p2] 34)).cell (i := 0) rfl
  have lw60 : ((w57.alloc (.cells #[.int .i64 p1, .int .i64 p2] 34))).cell? ⟨w24.heap.size, 1, none⟩ = some (.int .i64 i2) := (V1_58.out.al (.cells #[.int .i64 p1, .int .i64 p2] 34)).cell (i := 1) rfl
  have lw61 : ((w57.alloc (.cells #[.int .i64 p1, .int .i64 p2] 34))).cell? ⟨w24.heap.size, 2, none⟩ = some (.slice A1 rn c1) := (V1_58.out.al (.cells #[.int .i64 p1, .int .i64 p2] 34)).cell (i := 2) rfl
  have lw62 : ((w57.alloc (.cells #[.int .i64 p1, .int .i64 p2] 34))).cell? ⟨w24.heap.size, 3, none⟩ = some (.string lb) := (V1_58.out.al (.cells #[.int .i64 p1, .int .i64 p2] 34)).cell (i := 3) rfl
  have lw63 : ((w57.alloc (.cells #[.int .i64 p1, .int .i64 p2] 34))).cell? ⟨w24.heap.size, 4, none⟩ = some (.int .i64 at_) := (V1_58.out.al (.cells #[.int .i64 p1, .int .i64 p2] 34)).cell (i := 4) rfl
  have lw64 : (((w57.alloc (.cells #[.int .i64 p1, .int .i64 p2] 34)).alloc (.cells #[.int .i64 i1, .int .i64 i2, .slice A1 rn c1, .string lb, .int .i64 at_] 39))).cell? ⟨w30.heap.size, 0, none⟩ = some (.int .i64 i1) := ((V2_58.out.al (.cells #[.int .i64 p1, .int .i64 p2] 34)).al (.cells #[.int .i64 i1, .int .i64 i2, .slice A1 rn c1, .string lb, .int .i64 at_] 39)).cell (i := 0) rfl
  have lw65 : (((w57.alloc (.cells #[.int .i64 p1, .int .i64 p2] 34)).alloc (.cells #[.int .i64 i1, .int .i64 i2, .slice A1 rn c1, .string lb, .int .i64 at_] 39))).cell? ⟨w30.heap.size, 1, none⟩ = some (.int .i64 i2) := ((V2_58.out.al (.cells #[.int .i64 p1, .int .i64 p2] 34)).al (.cells #[.int .i64 i1, .int .i64 i2, .slice A1 rn c1, .string lb, .int .i64 at_] 39)).cell (i := 1) rfl
  have lw66 : (((w57.alloc (.cells #[.int .i64 p1, .int .i64 p2] 34)).alloc (.cells #[.int .i64 i1, .int .i64 i2, .slice A1 rn c1, .string lb, .int .i64 at_] 39))).cell? ⟨w30.heap.size, 2, none⟩ = some (.slice rA rn rc) := ((V2_58.out.al (.cells #[.int .i64 p1, .int .i64 p2] 34)).al (.cells #[.int .i64 i1, .int .i64 i2, .slice A1 rn c1, .string lb, .int .i64 at_] 39)).cell (i := 2) rfl
  have lw67 : (((w57.alloc (.cells #[.int .i64 p1, .int .i64 p2] 34)).alloc (.cells #[.int .i64 i1, .int .i64 i2, .slice A1 rn c1, .string lb, .int .i64 at_] 39))).cell? ⟨w30.heap.size, 3, none⟩ = some (.string lb) := ((V2_58.out.al (.cells #[.int .i64 p1, .int .i64 p2] 34)).al (.cells #[.int .i64 i1, .int .i64 i2, .slice A1 rn c1, .string lb, .int .i64 at_] 39)).cell (i := 3) rfl
  have lw68 : (((w57.alloc (.cells #[.int .i64 p1, .int .i64 p2] 34)).alloc (.cells #[.int .i64 i1, .int .i64 i2, .slice A1 rn c1, .string lb, .int .i64 at_] 39))).cell? ⟨w30.heap.size, 4, none⟩ = some (.int .i64 at_) := ((V2_58.out.al (.cells #[.int .i64 p1, .int .i64 p2] 34)).al (.cells #[.int .i64 i1, .int .i64 i2, .slice A1 rn c1, .string lb, .int .i64 at_] 39)).cell (i := 4) rfl
  go_wp2_with fail
  clear lw59 lw60 lw61 lw62 lw63 lw64 lw65 lw66 lw67 lw68
  refine (HS0.out _ _ A1 c1 _ (slice1 ((show Whole ((w57.alloc (.cells #[.int .i64 p1, .int .i64 p2] 34)).alloc (.cells #[.int .i64 i1, .int .i64 i2, .slice A1 rn c1, .string lb, .int .i64 at_] 39)) ((w57.heap.size + 1)) (39) ([.int .i64 i1, .int .i64 i2, .slice A1 rn c1, .string lb, .int .i64 at_]) from Whole.new2 (by first | rfl | simp)).al (.cells #[.int .i64 i1, .int .i64 i2, .slice rA rn rc, .string lb, .int .i64 at_] 39)) (((R1_58.out.al (.cells #[.int .i64 p1, .int .i64 p2] 34)).al (.cells #[.int .i64 i1, .int .i64 i2, .slice A1 rn c1, .string lb, .int .i64 at_] 39)).al (.cells #[.int .i64 i1, .int .i64 i2, .slice rA rn rc, .string lb, .int .i64 at_] 39))) (slice1 (show Whole (((w57.alloc (.cells #[.int .i64 p1, .int .i64 p2] 34)).alloc (.cells #[.int .i64 i1, .int .i64 i2, .slice A1 rn c1, .string lb, .int .i64 at_] 39)).alloc (.cells #[.int .i64 i1, .int .i64 i2, .slice rA rn rc, .string lb, .int .i64 at_] 39)) ((w57.heap.size + 1 + 1)) (39) ([.int .i64 i1, .int .i64 i2, .slice rA rn rc, .string lb, .int .i64 at_]) from Whole.new2 (by first | rfl | simp)) (((R2_58.out.al (.cells #[.int .i64 p1, .int .i64 p2] 34)).al (.cells #[.int .i64 i1, .int .i64 i2, .slice A1 rn c1, .string lb, .int .i64 at_] 39)).al (.cells #[.int .i64 i1, .int .i64 i2, .slice rA rn rc, .string lb, .int .i64 at_] 39)))).mono ?_
  rintro e w69 ⟨rfl, hb69⟩
  have D0_70 := Lib.hid ((((D0_58.out.al (.cells #[.int .i64 p1, .int .i64 p2] 34)).al (.cells #[.int .i64 i1, .int .i64 i2, .slice A1 rn c1, .string lb, .int .i64 at_] 39)).al (.cells #[.int .i64 i1, .int .i64 i2, .slice rA rn rc, .string lb, .int .i64 at_] 39)).bl hb69)
  have D1_70 := Lib.hid ((((D1_58.out.al (.cells #[.int .i64 p1, .int .i64 p2] 34)).al (.cells #[.int .i64 i1, .int .i64 i2, .slice A1 rn c1, .string lb, .int .i64 at_] 39)).al (.cells #[.int .i64 i1, .int .i64 i2, .slice rA rn rc, .string lb, .int .i64 at_] 39)).bl hb69)
  have X_70 := Lib.hid ((((X_58.out.al (.cells #[.int .i64 p1, .int .i64 p2] 34)).al (.cells #[.int .i64 i1, .int .i64 i2, .slice A1 rn c1, .string lb, .int .i64 at_] 39)).al (.cells #[.int .i64 i1, .int .i64 i2, .slice rA rn rc, .string lb, .int .i64 at_] 39)).bl hb69)
  have Da_70 := Lib.hid ((((Da_58.out.al (.cells #[.int .i64 p1, .int .i64 p2] 34)).al (.cells #[.int .i64 i1, .int .i64 i2, .slice A1 rn c1, .string lb, .int .i64 at_] 39)).al (.cells #[.int .i64 i1, .int .i64 i2, .slice rA rn rc, .string lb, .int .i64 at_] 39)).bl hb69)
  have Db_70 := Lib.hid ((((Db_58.out.al (.cells #[.int .i64 p1, .int .i64 p2] 34)).al (.cells #[.int .i64 i1, .int .i64 i2, .slice A1 rn c1, .string lb, .int .i64 at_] 39)).al (.cells #[.int .i64 i1, .int .i64 i2, .slice rA rn rc, .string lb, .int .i64 at_] 39)).bl hb69)
  have R1_70 := Lib.hid ((((R1_58.out.al (.cells #[.int .i64 p1, .int .i64 p2] 34)).al (.cells #[.int .i64 i1, .int .i64 i2, .slice A1 rn c1, .string lb, .int .i64 at_] 39)).al (.cells #[.int .i64 i1, .int .i64 i2, .slice rA rn rc, .string lb, .int .i64 at_] 39)).bl hb69)
  have V1_70 := Lib.hid ((((V1_58.out.al (.cells #[.int .i64 p1, .int .i64 p2] 34)).al (.cells #[.int .i64 i1, .int .i64 i2, .slice A1 rn c1, .string lb, .int .i64 at_] 39)).al (.cells #[.int .i64 i1, .int .i64 i2, .slice rA rn rc, .string lb, .int .i64 at_] 39)).bl hb69)
  have R2_70 := Lib.hid ((((R2_58.out.al (.cells #[.int .i64 p1, .int .i64 p2] 34)).al (.cells #[.int .i64 i1, .int .i64 i2, .slice A1 rn c1, .string lb, .int .i64 at_] 39)).al (.cells #[.int .i64 i1, .int .i64 i2, .slice rA rn rc, .string lb, .int .i64 at_] 39)).bl hb69)
  have V2_70 := Lib.hid ((((V2_58.out.al (.cells #[.int .i64 p1, .int .i64 p2] 34)).al (.cells #[.int .i64 i1, .int .i64 i2, .slice A1 rn c1, .string lb, .int .i64 at_] 39)).al (.cells #[.int .i64 i1, .int .i64 i2, .slice rA rn rc, .string lb, .int .i64 at_] 39)).bl hb69)
  have E1_70 := Lib.hid ((((E1_58.out.al (.cells #[.int .i64 p1, .int .i64 p2] 34)).al (.cells #[.int .i64 i1, .int .i64 i2, .slice A1 rn c1, .string lb, .int .i64 at_] 39)).al (.cells #[.int .i64 i1, .int .i64 i2, .slice rA rn rc, .string lb, .int .i64 at_] 39)).bl hb69)
  have E2_70 := Lib.hid ((((E2_58.out.al (.cells #[.int .i64 p1, .int .i64 p2] 34)).al (.cells #[.int .i64 i1, .int .i64 i2, .slice A1 rn c1, .string lb, .int .i64 at_] 39)).al (.cells #[.int .i64 i1, .int .i64 i2, .slice rA rn rc, .string lb, .int .i64 at_] 39)).bl hb69)
  have P1_70 := Lib.hid ((((P1_58.out.al (.cells #[.int .i64 p1, .int .i64 p2] 34)).al (.cells #[.int .i64 i1, .int .i64 i2, .slice A1 rn c1, .string lb, .int .i64 at_] 39)).al (.cells #[.int .i64 i1, .int .i64 i2, .slice rA rn rc, .string lb, .int .i64 at_] 39)).bl hb69)
  have P2_70 := Lib.hid ((((show Whole (w57.alloc (.cells #[.int .i64 p1, .int .i64 p2] 34)) (w57.heap.size) (34) ([.int .i64 p1, .int .i64 p2]) from Whole.new2 (by first | rfl | simp)).al (.cells #[.int .i64 i1, .int .i64 i2, .slice A1 rn c1, .string lb, .int .i64 at_] 39)).al (.cells #[.int .i64 i1, .int .i64 i2, .slice rA rn rc, .string lb, .int .i64 at_] 39)).bl hb69)
  have S1_70 := Lib.hid (((show Whole ((w57.alloc (.cells #[.int .i64 p1, .int .i64 p2] 34)).alloc (.cells #[.int .i64 i1, .int .i64 i2, .slice A1 rn c1, .string lb, .int .i64 at_] 39)) ((w57.heap.size + 1)) (39) ([.int .i64 i1, .int .i64 i2, .slice A1 rn c1, .string lb, .int .i64 at_]) from Whole.new2 (by first | rfl | simp)).al (.cells #[.int .i64 i1, .int .i64 i2, .slice rA rn rc, .string lb, .int .i64 at_] 39)).bl hb69)
  have S2_70 := Lib.hid ((show Whole (((w57.alloc (.cells #[.int .i64 p1, .int .i64 p2] 34)).alloc (.cells #[.int .i64 i1, .int .i64 i2, .slice A1 rn c1, .string lb, .int .i64 at_] 39)).alloc (.cells #[.int .i64 i1, .int .i64 i2, .slice rA rn rc, .string lb, .int .i64 at_] 39)) ((w57.heap.size + 1 + 1)) (39) ([.int .i64 i1, .int .i64 i2, .slice rA rn rc, .string lb, .int .i64 at_]) from Whole.new2 (by first | rfl | simp)).bl hb69)
  have Bel_70 := Lib.hid (bel_bl (bel_al (bel_al (bel_al Bel_58.out (.cells #[.int .i64 p1, .int .i64 p2] 34)) (.cells #[.int .i64 i1, .int .i64 i2, .slice A1 rn c1, .string lb, .int .i64 at_] 39)) (.cells #[.int .i64 i1, .int .i64 i2, .slice rA rn rc, .string lb, .int .i64 at_] 39)) hb69)
  clear D0_58 D1_58 X_58 Da_58 Db_58 R1_58 V1_58 R2_58 V2_58 E1_58 E2_58 P1_58 Bel_58
  clear hb69
  clear S1_70 S2_70 V1_70 V2_70 R1_70 R2_70
  go_upto_region 11 with fail
  have D0_71 := Lib.hid (D0_70.out.dr)
  have D1_71 := Lib.hid (D1_70.out.dr)
  have X_71 := Lib.hid (X_70.out.dr)
  have Da_71 := Lib.hid (Da_70.out.dr)
  have Db_71 := Lib.hid (Db_70.out.dr)
  have E1_71 := Lib.hid (E1_70.out.dr)
  have E2_71 := Lib.hid (E2_70.out.dr)
  have P1_71 := Lib.hid (P1_70.out.dr)
  have P2_71 := Lib.hid (P2_70.out.dr)
  have Bel_71 := Lib.hid (bel_dr Bel_70.out)
  have ld72 : ∀ w', Kept Nil_ w69.drew w' → w'.cell? ⟨w.heap.size, 0, none⟩ = some (.slice Aa na ca) := fun w' h => h.nil_cell (D0_71.out.cell (i := 0) rfl)
  have ld73 : ∀ w', Kept Nil_ w69.drew w' → w'.cell? ⟨w.heap.size, 1, none⟩ = some (.slice Ba ma ka) := fun w' h => h.nil_cell (D0_71.out.cell (i := 1) rfl)
  refine wp_region_reg Nil_ (by kernel_rfl) ?_
  apply wpR_next 0 (some 75)
  · simp only [List.getElem?_toArray, List.getElem?_cons_succ, List.getElem?_cons_zero]; exact rfl
  · rfl
  · kernel_rfl
  · kernel_rfl
  · kernel_rfl
  · exact fun _ _ _ _ h => h
  apply Exists.intro
  apply And.intro
  · apply yr_run; rfl; intro w' hw'; go_simp; (try with_reducible rfl)
  simp only [Act.put, List.setIfInBounds_toArray, List.set_cons_zero, List.set_cons_succ]
  apply wpR_next 2 (some 77)
  · simp only [List.getElem?_toArray, List.getElem?_cons_succ, List.getElem?_cons_zero]; exact rfl
  · rfl
  · kernel_rfl
  · kernel_rfl
  · kernel_rfl
  · exact fun _ _ _ _ h => h
  apply Exists.intro
  apply And.intro
  · apply yr_run; rfl; intro w' hw'; go_simp; (try with_reducible rfl)
  simp only [Act.put, List.setIfInBounds_toArray, List.set_cons_zero, List.set_cons_succ]
  apply wpR_call 1 (some 76)
  · simp only [List.getElem?_toArray, List.getElem?_cons_succ, List.getElem?_cons_zero]; exact rfl
  · rfl
  · kernel_rfl
  · rfl
  · intro w'; go_simp; first | done | exact ⟨rfl, rfl⟩ | with_reducible rfl
  intro w' hw'
  refine (HN1.out _ (Da_71.out.bl hw')).mono ?_
  rintro e w74 ⟨A3, c3, rfl, hr3, hb74⟩
  have D0_74 := Lib.hid ((D0_71.out.bl hw').bl hb74)
  have D1_74 := Lib.hid ((D1_71.out.bl hw').bl hb74)
  have X_74 := Lib.hid ((X_71.out.bl hw').bl hb74)
  have Da_74 := Lib.hid ((Da_71.out.bl hw').bl hb74)
  have Db_74 := Lib.hid ((Db_71.out.bl hw').bl hb74)
  have E1_74 := Lib.hid ((E1_71.out.bl hw').bl hb74)
  have E2_74 := Lib.hid ((E2_71.out.bl hw').bl hb74)
  have P1_74 := Lib.hid ((P1_71.out.bl hw').bl hb74)
  have P2_74 := Lib.hid ((P2_71.out.bl hw').bl hb74)
  have Bel_74 := Lib.hid (bel_bl (bel_bl Bel_71.out hw') hb74)
  have ld75 := fun w'' (h : Kept Nil_ w74 w'') => ld72 w'' ((Kept.of_ext hw').trans ((Kept.of_below hb74).trans h))
  have ld76 := fun w'' (h : Kept Nil_ w74 w'') => ld73 w'' ((Kept.of_ext hw').trans ((Kept.of_below hb74).trans h))
  refine ⟨_, rfl, Kept.of_below hb74, ?_⟩
  clear hw' hb74
  have N1_74 := Lib.hid hr3
  clear hr3
  simp only [Act.put, List.setIfInBounds_toArray, List.set_cons_zero, List.set_cons_succ]
  apply wpR_call 3 (some 78)
  · simp only [List.getElem?_toArray, List.getElem?_cons_succ, List.getElem?_cons_zero]; exact rfl
  · rfl
  · kernel_rfl
  · rfl
  · intro w'; go_simp; first | done | exact ⟨rfl, rfl⟩ | with_reducible rfl
  intro w' hw'
  refine (HN2.out _ (Da_74.out.bl hw')).mono ?_
  rintro e w77 ⟨A4, c4, rfl, hr4, hb77⟩
  have D0_77 := Lib.hid ((D0_74.out.bl hw').bl hb77)
  have D1_77 := Lib.hid ((D1_74.out.bl hw').bl hb77)
  have X_77 := Lib.hid ((X_74.out.bl hw').bl hb77)
  have Da_77 := Lib.hid ((Da_74.out.bl hw').bl hb77)
  have Db_77 := Lib.hid ((Db_74.out.bl hw').bl hb77)
  have E1_77 := Lib.hid ((E1_74.out.bl hw').bl hb77)
  have E2_77 := Lib.hid ((E2_74.out.bl hw').bl hb77)
  have P1_77 := Lib.hid ((P1_74.out.bl hw').bl hb77)
  have P2_77 := Lib.hid ((P2_74.out.bl hw').bl hb77)
  have N1_77 := Lib.hid ((N1_74.out.bl hw').bl hb77)
  have Bel_77 := Lib.hid (bel_bl (bel_bl Bel_74.out hw') hb77)
  have ld78 := fun w'' (h : Kept Nil_ w77 w'') => ld75 w'' ((Kept.of_ext hw').trans ((Kept.of_below hb77).trans h))
  have ld79 := fun w'' (h : Kept Nil_ w77 w'') => ld76 w'' ((Kept.of_ext hw').trans ((Kept.of_below hb77).trans h))
  refine ⟨_, rfl, Kept.of_below hb77, ?_⟩
  clear hw' hb77
  have N2_77 := Lib.hid hr4
  clear hr4
  simp only [Act.put, List.setIfInBounds_toArray, List.set_cons_zero, List.set_cons_succ]
  apply wpR_call 4 (some 79)
  · simp only [List.getElem?_toArray, List.getElem?_cons_succ, List.getElem?_cons_zero]; exact rfl
  · rfl
  · kernel_rfl
  · rfl
  · intro w'; go_simp; first | done | exact ⟨rfl, rfl⟩ | with_reducible rfl
  intro w' hw'
  refine (HID.out _ _ _ _ _ (N1_77.out.bl hw') (N2_77.out.bl hw')).mono ?_
  rintro e w80 ⟨rfl, hb80⟩
  have D0_80 := Lib.hid ((D0_77.out.bl hw').bl hb80)
  have D1_80 := Lib.hid ((D1_77.out.bl hw').bl hb80)
  have X_80 := Lib.hid ((X_77.out.bl hw').bl hb80)
  have Da_80 := Lib.hid ((Da_77.out.bl hw').bl hb80)
  have Db_80 := Lib.hid ((Db_77.out.bl hw').bl hb80)
  have E1_80 := Lib.hid ((E1_77.out.bl hw').bl hb80)
  have E2_80 := Lib.hid ((E2_77.out.bl hw').bl hb80)
  have P1_80 := Lib.hid ((P1_77.out.bl hw').bl hb80)
  have P2_80 := Lib.hid ((P2_77.out.bl hw').bl hb80)
  have N1_80 := Lib.hid ((N1_77.out.bl hw').bl hb80)
  have N2_80 := Lib.hid ((N2_77.out.bl hw').bl hb80)
  have Bel_80 := Lib.hid (bel_bl (bel_bl Bel_77.out hw') hb80)
  have ld81 := fun w'' (h : Kept Nil_ w80 w'') => ld78 w'' ((Kept.of_ext hw').trans ((Kept.of_below hb80).trans h))
  have ld82 := fun w'' (h : Kept Nil_ w80 w'') => ld79 w'' ((Kept.of_ext hw').trans ((Kept.of_below hb80).trans h))
  refine ⟨_, rfl, Kept.of_below hb80, ?_⟩
  clear hw' hb80
  simp only [Act.put, List.setIfInBounds_toArray, List.set_cons_zero, List.set_cons_succ]
  apply wpR_next 5 (some 21)
  · simp only [List.getElem?_toArray, List.getElem?_cons_succ, List.getElem?_cons_zero]; exact rfl
  · rfl
  · kernel_rfl
  · kernel_rfl
  · kernel_rfl
  · exact fun _ _ _ _ h => h
  apply Exists.intro
  apply And.intro
  · apply yr_run; rfl; intro w' hw'; go_simp; (try with_reducible rfl)
  simp only [Act.put, List.setIfInBounds_toArray, List.set_cons_zero, List.set_cons_succ]
  refine wpR_done (by kernel_rfl) ?_ _
  intro w83 hw'
  have D0_84 := Lib.hid (D0_80.out.bl hw')
  have D1_84 := Lib.hid (D1_80.out.bl hw')
  have X_84 := Lib.hid (X_80.out.bl hw')
  have Da_84 := Lib.hid (Da_80.out.bl hw')
  have Db_84 := Lib.hid (Db_80.out.bl hw')
  have E1_84 := Lib.hid (E1_80.out.bl hw')
  have E2_84 := Lib.hid (E2_80.out.bl hw')
  have P1_84 := Lib.hid (P1_80.out.bl hw')
  have P2_84 := Lib.hid (P2_80.out.bl hw')
  have N1_84 := Lib.hid (N1_80.out.bl hw')
  have N2_84 := Lib.hid (N2_80.out.bl hw')
  have Bel_84 := Lib.hid (bel_bl Bel_80.out hw')
  clear D0_80 D1_80 X_80 Da_80 Db_80 E1_80 E2_80 P1_80 P2_80 N1_80 N2_80 Bel_80
  clear hw'
  clear N1_84 N2_84
  go_upto_region 12 with fail
  have D0_85 := Lib.hid (D0_84.out.dr)
  have D1_85 := Lib.hid (D1_84.out.dr)
  have X_85 := Lib.hid (X_84.out.dr)
  have Da_85 := Lib.hid (Da_84.out.dr)
  have Db_85 := Lib.hid (Db_84.out.dr)
  have E1_85 := Lib.hid (E1_84.out.dr)
  have E2_85 := Lib.hid (E2_84.out.dr)
  have P1_85 := Lib.hid (P1_84.out.dr)
  have P2_85 := Lib.hid (P2_84.out.dr)
  have Bel_85 := Lib.hid (bel_dr Bel_84.out)
  have ld86 : ∀ w', Kept Nil_ w83.drew w' → w'.cell? ⟨w.heap.size, 0, none⟩ = some (.slice Aa na ca) := fun w' h => h.nil_cell (D0_85.out.cell (i := 0) rfl)
  have ld87 : ∀ w', Kept Nil_ w83.drew w' → w'.cell? ⟨w.heap.size, 1, none⟩ = some (.slice Ba ma ka) := fun w' h => h.nil_cell (D0_85.out.cell (i := 1) rfl)
  refine wp_region_reg Nil_ (by kernel_rfl) ?_
  apply wpR_next 0 (some 80)
  · simp only [List.getElem?_toArray, List.getElem?_cons_succ, List.getElem?_cons_zero]; exact rfl
  · rfl
  · kernel_rfl
  · kernel_rfl
  · kernel_rfl
  · exact fun _ _ _ _ h => h
  apply Exists.intro
  apply And.intro
  · apply yr_run; rfl; intro w' hw'; go_simp; (try with_reducible rfl)
  simp only [Act.put, List.setIfInBounds_toArray, List.set_cons_zero, List.set_cons_succ]
  apply wpR_next 2 (some 82)
  · simp only [List.getElem?_toArray, List.getElem?_cons_succ, List.getElem?_cons_zero]; exact rfl
  · rfl
  · kernel_rfl
  · kernel_rfl
  · kernel_rfl
  · exact fun _ _ _ _ h => h
  apply Exists.intro
  apply And.intro
  · apply yr_run; rfl; intro w' hw'; go_simp; (try with_reducible rfl)
  simp only [Act.put, List.setIfInBounds_toArray, List.set_cons_zero, List.set_cons_succ]
  apply wpR_call 1 (some 81)
  · simp only [List.getElem?_toArray, List.getElem?_cons_succ, List.getElem?_cons_zero]; exact rfl
  · rfl
  · kernel_rfl
  · rfl
  · intro w'; go_simp; first | done | exact ⟨rfl, rfl⟩ | with_reducible rfl
  intro w' hw'
  refine (HCl.out _ (Da_85.out.bl hw')).mono ?_
  rintro e w88 ⟨A5, c5, B5, k5, Wc, rfl, hd5, hs5, hb88⟩
  have HS5 := Lib.hid hs5
  clear hs5
  have D0_88 := Lib.hid ((D0_85.out.bl hw').bl hb88)
  have D1_88 := Lib.hid ((D1_85.out.bl hw').bl hb88)
  have X_88 := Lib.hid ((X_85.out.bl hw').bl hb88)
  have Da_88 := Lib.hid ((Da_85.out.bl hw').bl hb88)
  have Db_88 := Lib.hid ((Db_85.out.bl hw').bl hb88)
  have E1_88 := Lib.hid ((E1_85.out.bl hw').bl hb88)
  have E2_88 := Lib.hid ((E2_85.out.bl hw').bl hb88)
  have P1_88 := Lib.hid ((P1_85.out.bl hw').bl hb88)
  have P2_88 := Lib.hid ((P2_85.out.bl hw').bl hb88)
  have Bel_88 := Lib.hid (bel_bl (bel_bl Bel_85.out hw') hb88)
  have ld89 := fun w'' (h : Kept Nil_ w88 w'') => ld86 w'' ((Kept.of_ext hw').trans ((Kept.of_below hb88).trans h))
  have ld90 := fun w'' (h : Kept Nil_ w88 w'') => ld87 w'' ((Kept.of_ext hw').trans ((Kept.of_below hb88).trans h))
  refine ⟨_, rfl, Kept.of_below hb88, ?_⟩
  clear hw' hb88
  have Dc_88 := Lib.hid hd5
  clear hd5
  simp only [Act.put, List.setIfInBounds_toArray, List.set_cons_zero, List.set_cons_succ]
  apply wpR_call 3 (some 83)
  · simp only [List.getElem?_toArray, List.getElem?_cons_succ, List.getElem?_cons_zero]; exact rfl
  · rfl
  · kernel_rfl
  · rfl
  · intro w'; go_simp; first | done | exact ⟨rfl, rfl⟩ | with_reducible rfl
  intro w' hw'
  refine (HS1.out _ _ _ _ _ _ (Dc_88.out.bl hw') (Da_88.out.bl hw') HS5.out).mono ?_
  rintro e w91 ⟨rfl, hb91⟩
  have D0_91 := Lib.hid ((D0_88.out.bl hw').bl hb91)
  have D1_91 := Lib.hid ((D1_88.out.bl hw').bl hb91)
  have X_91 := Lib.hid ((X_88.out.bl hw').bl hb91)
  have Da_91 := Lib.hid ((Da_88.out.bl hw').bl hb91)
  have Db_91 := Lib.hid ((Db_88.out.bl hw').bl hb91)
  have E1_91 := Lib.hid ((E1_88.out.bl hw').bl hb91)
  have E2_91 := Lib.hid ((E2_88.out.bl hw').bl hb91)
  have P1_91 := Lib.hid ((P1_88.out.bl hw').bl hb91)
  have P2_91 := Lib.hid ((P2_88.out.bl hw').bl hb91)
  have Dc_91 := Lib.hid ((Dc_88.out.bl hw').bl hb91)
  have Bel_91 := Lib.hid (bel_bl (bel_bl Bel_88.out hw') hb91)
  have ld92 := fun w'' (h : Kept Nil_ w91 w'') => ld89 w'' ((Kept.of_ext hw').trans ((Kept.of_below hb91).trans h))
  have ld93 := fun w'' (h : Kept Nil_ w91 w'') => ld90 w'' ((Kept.of_ext hw').trans ((Kept.of_below hb91).trans h))
  refine ⟨_, rfl, Kept.of_below hb91, ?_⟩
  clear hw' hb91
  simp only [Act.put, List.setIfInBounds_toArray, List.set_cons_zero, List.set_cons_succ]
  apply wpR_next 4 (some 22)
  · simp only [List.getElem?_toArray, List.getElem?_cons_succ, List.getElem?_cons_zero]; exact rfl
  · rfl
  · kernel_rfl
  · kernel_rfl
  · kernel_rfl
  · exact fun _ _ _ _ h => h
  apply Exists.intro
  apply And.intro
  · apply yr_run; rfl; intro w' hw'; go_simp; (try with_reducible rfl)
  simp only [Act.put, List.setIfInBounds_toArray, List.set_cons_zero, List.set_cons_succ]
  refine wpR_done (by kernel_rfl) ?_ _
  intro w94 hw'
  have D0_95 := Lib.hid (D0_91.out.bl hw')
  have D1_95 := Lib.hid (D1_91.out.bl hw')
  have X_95 := Lib.hid (X_91.out.bl hw')
  have Da_95 := Lib.hid (Da_91.out.bl hw')
  have Db_95 := Lib.hid (Db_91.out.bl hw')
  have E1_95 := Lib.hid (E1_91.out.bl hw')
  have E2_95 := Lib.hid (E2_91.out.bl hw')
  have P1_95 := Lib.hid (P1_91.out.bl hw')
  have P2_95 := Lib.hid (P2_91.out.bl hw')
  have Dc_95 := Lib.hid (Dc_91.out.bl hw')
  have Bel_95 := Lib.hid (bel_bl Bel_91.out hw')
  clear D0_91 D1_91 X_91 Da_91 Db_91 E1_91 E2_91 P1_91 P2_91 Dc_91 Bel_91
  clear hw'
  clear Dc_95
  go_upto_region 13 with fail
  have D0_96 := Lib.hid (D0_95.out.dr)
  have D1_96 := Lib.hid (D1_95.out.dr)
  have X_96 := Lib.hid (X_95.out.dr)
  have Da_96 := Lib.hid (Da_95.out.dr)
  have Db_96 := Lib.hid (Db_95.out.dr)
  have E1_96 := Lib.hid (E1_95.out.dr)
  have E2_96 := Lib.hid (E2_95.out.dr)
  have P1_96 := Lib.hid (P1_95.out.dr)
  have P2_96 := Lib.hid (P2_95.out.dr)
  have Bel_96 := Lib.hid (bel_dr Bel_95.out)
  have ld97 : ∀ w', Kept Nil_ w94.drew w' → w'.cell? ⟨w.heap.size, 0, none⟩ = some (.slice Aa na ca) := fun w' h => h.nil_cell (D0_96.out.cell (i := 0) rfl)
  have ld98 : ∀ w', Kept Nil_ w94.drew w' → w'.cell? ⟨w.heap.size, 1, none⟩ = some (.slice Ba ma ka) := fun w' h => h.nil_cell (D0_96.out.cell (i := 1) rfl)
  have ld99 : ∀ w', Kept Nil_ w94.drew w' → w'.cell? ⟨(w.heap.size + 1), 0, none⟩ = some (.slice Ab nb cb) := fun w' h => h.nil_cell (D1_96.out.cell (i := 0) rfl)
  have ld100 : ∀ w', Kept Nil_ w94.drew w' → w'.cell? ⟨(w.heap.size + 1), 1, none⟩ = some (.slice Bb mb kb_) := fun w' h => h.nil_cell (D1_96.out.cell (i := 1) rfl)
  have ld101 : ∀ w', Kept Nil_ w94.drew w' → w'.cell? ⟨w37.heap.size, 0, none⟩ = some (.int .i64 j1) := fun w' h => h.nil_cell (E1_96.out.cell (i := 0) rfl)
  have ld102 : ∀ w', Kept Nil_ w94.drew w' → w'.cell? ⟨w37.heap.size, 1, none⟩ = some (.int .i64 j2) := fun w' h => h.nil_cell (E1_96.out.cell (i := 1) rfl)
  have ld103 : ∀ w', Kept Nil_ w94.drew w' → w'.cell? ⟨w37.heap.size, 2, none⟩ = some (.string kb) := fun w' h => h.nil_cell (E1_96.out.cell (i := 2) rfl)
  have ld104 : ∀ w', Kept Nil_ w94.drew w' → w'.cell? ⟨w37.heap.size, 3, none⟩ = some (.int .i64 bt_) := fun w' h => h.nil_cell (E1_96.out.cell (i := 3) rfl)
  have ld105 : ∀ w', Kept Nil_ w94.drew w' → w'.cell? ⟨w43.heap.size, 0, none⟩ = some (.int .i64 j1) := fun w' h => h.nil_cell (E2_96.out.cell (i := 0) rfl)
  have ld106 : ∀ w', Kept Nil_ w94.drew w' → w'.cell? ⟨w43.heap.size, 1, none⟩ = some (.int .i64 j2) := fun w' h => h.nil_cell (E2_96.out.cell (i := 1) rfl)
  have ld107 : ∀ w', Kept Nil_ w94.drew w' → w'.cell? ⟨w43.heap.size, 2, none⟩ = some (.string kb) := fun w' h => h.nil_cell (E2_96.out.cell (i := 2) rfl)
  have ld108 : ∀ w', Kept Nil_ w94.drew w' → w'.cell? ⟨w43.heap.size, 3, none⟩ = some (.int .i64 bt_) := fun w' h => h.nil_cell (E2_96.out.cell (i := 3) rfl)
  have ld109 : ∀ w', Kept Nil_ w94.drew w' → w'.cell? ⟨w50.heap.size, 0, none⟩ = some (.int .i64 p1) := fun w' h => h.nil_cell (P1_96.out.cell (i := 0) rfl)
  have ld110 : ∀ w', Kept Nil_ w94.drew w' → w'.cell? ⟨w50.heap.size, 1, none⟩ = some (.int .i64 p2) := fun w' h => h.nil_cell (P1_96.out.cell (i := 1) rfl)
  have ld111 : ∀ w', Kept Nil_ w94.drew w' → w'.cell? ⟨w57.heap.size, 0, none⟩ = some (.int .i64 p1) := fun w' h => h.nil_cell (P2_96.out.cell (i := 0) rfl)
  have ld112 : ∀ w', Kept Nil_ w94.drew w' → w'.cell? ⟨w57.heap.size, 1, none⟩ = some (.int .i64 p2) := fun w' h => h.nil_cell (P2_96.out.cell (i := 1) rfl)
  refine wp_region_reg Nil_ (by kernel_rfl) ?_
  apply wpR_next 0 (some 84)
  · simp only [List.getElem?_toArray, List.getElem?_cons_succ, List.getElem?_cons_zero]; exact rfl
  · rfl
  · kernel_rfl
  · kernel_rfl
  · kernel_rfl
  · exact fun _ _ _ _ h => h
  apply Exists.intro
  apply And.intro
  · apply yr_run; rfl; intro w' hw'; go_simp; (try with_reducible rfl)
  simp only [Act.put, List.setIfInBounds_toArray, List.set_cons_zero, List.set_cons_succ]
  apply wpR_next 1 (some 85)
  · simp only [List.getElem?_toArray, List.getElem?_cons_succ, List.getElem?_cons_zero]; exact rfl
  · rfl
  · kernel_rfl
  · kernel_rfl
  · kernel_rfl
  · exact fun _ _ _ _ h => h
  apply Exists.intro
  apply And.intro
  · apply yr_run; rfl; intro w' hw'; go_simp; (try with_reducible rfl)
  simp only [Act.put, List.setIfInBounds_toArray, List.set_cons_zero, List.set_cons_succ]
  apply wpR_next 2 (some 86)
  · simp only [List.getElem?_toArray, List.getElem?_cons_succ, List.getElem?_cons_zero]; exact rfl
  · rfl
  · kernel_rfl
  · kernel_rfl
  · kernel_rfl
  · exact fun _ _ _ _ h => h
  apply Exists.intro
  apply And.intro
  · apply yr_run; rfl; intro w' hw'; go_simp; (try with_reducible rfl)
  simp only [Act.put, List.setIfInBounds_toArray, List.set_cons_zero, List.set_cons_succ]
  apply wpR_next 3 (some 87)
  · simp only [List.getElem?_toArray, List.getElem?_cons_succ, List.getElem?_cons_zero]; exact rfl
  · rfl
  · kernel_rfl
  · kernel_rfl
  · kernel_rfl
  · exact fun _ _ _ _ h => h
  apply Exists.intro
  apply And.intro
  · apply yr_run; rfl; intro w' hw'; go_simp; (try with_reducible rfl)
  simp only [Act.put, List.setIfInBounds_toArray, List.set_cons_zero, List.set_cons_succ]
  apply wpR_next 4 (some 88)
  · simp only [List.getElem?_toArray, List.getElem?_cons_succ, List.getElem?_cons_zero]; exact rfl
  · rfl
  · kernel_rfl
  · kernel_rfl
  · kernel_rfl
  · exact fun _ _ _ _ h => h
  apply Exists.intro
  apply And.intro
  · apply yr_run; rfl; intro w' hw'; go_simp; (try with_reducible rfl)
  simp only [Act.put, List.setIfInBounds_toArray, List.set_cons_zero, List.set_cons_succ]
  apply wpR_next 5 (some 89)
  · simp only [List.getElem?_toArray, List.getElem?_cons_succ, List.getElem?_cons_zero]; exact rfl
  · rfl
  · kernel_rfl
  · kernel_rfl
  · kernel_rfl
  · exact fun _ _ _ _ h => h
  apply Exists.intro
  apply And.intro
  · apply yr_run; rfl; intro w' hw'; go_simp; (try with_reducible rfl)
  simp only [Act.put, List.setIfInBounds_toArray, List.set_cons_zero, List.set_cons_succ]
  apply wpR_next 6 (some 90)
  · simp only [List.getElem?_toArray, List.getElem?_cons_succ, List.getElem?_cons_zero]; exact rfl
  · rfl
  · kernel_rfl
  · kernel_rfl
  · kernel_rfl
  · exact fun _ _ _ _ h => h
  apply Exists.intro
  apply And.intro
  · apply yr_run; rfl; intro w' hw'; go_simp; (try with_reducible rfl)
  simp only [Act.put, List.setIfInBounds_toArray, List.set_cons_zero, List.set_cons_succ]
  apply wpR_next 7 (some 91)
  · simp only [List.getElem?_toArray, List.getElem?_cons_succ, List.getElem?_cons_zero]; exact rfl
  · rfl
  · kernel_rfl
  · kernel_rfl
  · kernel_rfl
  · exact fun _ _ _ _ h => h
  apply Exists.intro
  apply And.intro
  · apply yr_run; rfl; intro w' hw'; go_simp; (try with_reducible rfl)
  simp only [Act.put, List.setIfInBounds_toArray, List.set_cons_zero, List.set_cons_succ]
  apply wpR_next 8 (some 92)
  · simp only [List.getElem?_toArray, List.getElem?_cons_succ, List.getElem?_cons_zero]; exact rfl
  · rfl
  · kernel_rfl
  · kernel_rfl
  · kernel_rfl
  · exact fun _ _ _ _ h => h
  apply Exists.intro
  apply And.intro
  · apply yr_run; rfl; intro w' hw'; go_simp; (try with_reducible rfl)
  simp only [Act.put, List.setIfInBounds_toArray, List.set_cons_zero, List.set_cons_succ]
  apply wpR_next 9 (some 93)
  · simp only [List.getElem?_toArray, List.getElem?_cons_succ, List.getElem?_cons_zero]; exact rfl
  · rfl
  · kernel_rfl
  · kernel_rfl
  · kernel_rfl
  · exact fun _ _ _ _ h => h
  apply Exists.intro
  apply And.intro
  · apply yr_run; rfl; intro w' hw'; go_simp; (try with_reducible rfl)
  simp only [Act.put, List.setIfInBounds_toArray, List.set_cons_zero, List.set_cons_succ]
  apply wpR_next 10 (some 94)
  · simp only [List.getElem?_toArray, List.getElem?_cons_succ, List.getElem?_cons_zero]; exact rfl
  · rfl
  · kernel_rfl
  · kernel_rfl
  · kernel_rfl
  · exact fun _ _ _ _ h => h
  apply Exists.intro
  apply And.intro
  · apply yr_run; rfl; intro w' hw'; go_simp; (try with_reducible rfl)
  simp only [Act.put, List.setIfInBounds_toArray, List.set_cons_zero, List.set_cons_succ]
  apply wpR_next 11 (some 95)
  · simp only [List.getElem?_toArray, List.getElem?_cons_succ, List.getElem?_cons_zero]; exact rfl
  · rfl
  · kernel_rfl
  · kernel_rfl
  · kernel_rfl
  · exact fun _ _ _ _ h => h
  apply Exists.intro
  apply And.intro
  · apply yr_run; rfl; intro w' hw'; go_simp; (try with_reducible rfl)
  simp only [Act.put, List.setIfInBounds_toArray, List.set_cons_zero, List.set_cons_succ]
  apply wpR_next 12 (some 96)
  · simp only [List.getElem?_toArray, List.getElem?_cons_succ, List.getElem?_cons_zero]; exact rfl
  · rfl
  · kernel_rfl
  · kernel_rfl
  · kernel_rfl
  · exact fun _ _ _ _ h => h
  apply Exists.intro
  apply And.intro
  · exact yr_run (by rfl) (fun w' hw' => exec_binop_agg .eql 43 (.tmp 94) (.tmp 95) 43 rfl rfl rfl (by kernel_rfl) (heE w'))
  simp only [Act.put, List.setIfInBounds_toArray, List.set_cons_zero, List.set_cons_succ]
  apply wpR_next 13 (some 97)
  · simp only [List.getElem?_toArray, List.getElem?_cons_succ, List.getElem?_cons_zero]; exact rfl
  · rfl
  · kernel_rfl
  · kernel_rfl
  · kernel_rfl
  · exact fun _ _ _ _ h => h
  apply Exists.intro
  apply And.intro
  · apply yr_run; rfl; intro w' hw'; go_simp; (try with_reducible rfl)
  simp only [Act.put, List.setIfInBounds_toArray, List.set_cons_zero, List.set_cons_succ]
  apply wpR_next 14 (some 98)
  · simp only [List.getElem?_toArray, List.getElem?_cons_succ, List.getElem?_cons_zero]; exact rfl
  · rfl
  · kernel_rfl
  · kernel_rfl
  · kernel_rfl
  · exact fun _ _ _ _ h => h
  apply Exists.intro
  apply And.intro
  · apply yr_run; rfl; intro w' hw'; go_simp; (try with_reducible rfl)
  simp only [Act.put, List.setIfInBounds_toArray, List.set_cons_zero, List.set_cons_succ]
  apply wpR_next 15 (some 99)
  · simp only [List.getElem?_toArray, List.getElem?_cons_succ, List.getElem?_cons_zero]; exact rfl
  · rfl
  · kernel_rfl
  · kernel_rfl
  · kernel_rfl
  · exact fun _ _ _ _ h => h
  apply Exists.intro
  apply And.intro
  · apply yr_run; rfl; intro w' hw'; go_simp; (try with_reducible rfl)
  simp only [Act.put, List.setIfInBounds_toArray, List.set_cons_zero, List.set_cons_succ]
  apply wpR_next 16 (some 100)
  · simp only [List.getElem?_toArray, List.getElem?_cons_succ, List.getElem?_cons_zero]; exact rfl
  · rfl
  · kernel_rfl
  · kernel_rfl
  · kernel_rfl
  · exact fun _ _ _ _ h => h
  apply Exists.intro
  apply And.intro
  · apply yr_run; rfl; intro w' hw'; go_simp; (try with_reducible rfl)
  simp only [Act.put, List.setIfInBounds_toArray, List.set_cons_zero, List.set_cons_succ]
  apply wpR_next 17 (some 101)
  · simp only [List.getElem?_toArray, List.getElem?_cons_succ, List.getElem?_cons_zero]; exact rfl
  · rfl
  · kernel_rfl
  · kernel_rfl
  · kernel_rfl
  · exact fun _ _ _ _ h => h
  apply Exists.intro
  apply And.intro
  · apply yr_run; rfl; intro w' hw'; go_simp; (try with_reducible rfl)
  simp only [Act.put, List.setIfInBounds_toArray, List.set_cons_zero, List.set_cons_succ]
  apply wpR_next 18 (some 102)
  · simp only [List.getElem?_toArray, List.getElem?_cons_succ, List.getElem?_cons_zero]; exact rfl
  · rfl
  · kernel_rfl
  · kernel_rfl
  · kernel_rfl
  · exact fun _ _ _ _ h => h
  apply Exists.intro
  apply And.intro
  · apply yr_run; rfl; intro w' hw'; go_simp; (try with_reducible rfl)
  simp only [Act.put, List.setIfInBounds_toArray, List.set_cons_zero, List.set_cons_succ]
  apply wpR_next 19 (some 103)
  · simp only [List.getElem?_toArray, List.getElem?_cons_succ, List.getElem?_cons_zero]; exact rfl
  · rfl
  · kernel_rfl
  · kernel_rfl
  · kernel_rfl
  · exact fun _ _ _ _ h => h
  apply Exists.intro
  apply And.intro
  · apply yr_run; rfl; intro w' hw'; go_simp; (try with_reducible rfl)
  simp only [Act.put, List.setIfInBounds_toArray, List.set_cons_zero, List.set_cons_succ]
  apply wpR_next 20 (some 104)
  · simp only [List.getElem?_toArray, List.getElem?_cons_succ, List.getElem?_cons_zero]; exact rfl
  · rfl
  · kernel_rfl
  · kernel_rfl
  · kernel_rfl
  · exact fun _ _ _ _ h => h
  apply Exists.intro
  apply And.intro
  · apply yr_run; rfl; intro w' hw'; go_simp; (try with_reducible rfl)
  simp only [Act.put, List.setIfInBounds_toArray, List.set_cons_zero, List.set_cons_succ]
  apply wpR_next 21 (some 105)
  · simp only [List.getElem?_toArray, List.getElem?_cons_succ, List.getElem?_cons_zero]; exact rfl
  · rfl
  · kernel_rfl
  · kernel_rfl
  · kernel_rfl
  · exact fun _ _ _ _ h => h
  apply Exists.intro
  apply And.intro
  · apply yr_run; rfl; intro w' hw'; go_simp; (try with_reducible rfl)
  simp only [Act.put, List.setIfInBounds_toArray, List.set_cons_zero, List.set_cons_succ]
  apply wpR_next 22 (some 106)
  · simp only [List.getElem?_toArray, List.getElem?_cons_succ, List.getElem?_cons_zero]; exact rfl
  · rfl
  · kernel_rfl
  · kernel_rfl
  · kernel_rfl
  · exact fun _ _ _ _ h => h
  apply Exists.intro
  apply And.intro
  · exact yr_run (by rfl) (fun w' hw' => exec_binop_agg .eql 34 (.tmp 104) (.tmp 105) 34 rfl rfl rfl (by kernel_rfl) (heI w'))
  simp only [Act.put, List.setIfInBounds_toArray, List.set_cons_zero, List.set_cons_succ]
  apply wpR_next 23 (some 107)
  · simp only [List.getElem?_toArray, List.getElem?_cons_succ, List.getElem?_cons_zero]; exact rfl
  · rfl
  · kernel_rfl
  · kernel_rfl
  · kernel_rfl
  · exact fun _ _ _ _ h => h
  apply Exists.intro
  apply And.intro
  · apply yr_run; rfl; intro w' hw'; go_simp; (try with_reducible rfl)
  simp only [Act.put, List.setIfInBounds_toArray, List.set_cons_zero, List.set_cons_succ]
  apply wpR_next 24 (some 108)
  · simp only [List.getElem?_toArray, List.getElem?_cons_succ, List.getElem?_cons_zero]; exact rfl
  · rfl
  · kernel_rfl
  · kernel_rfl
  · kernel_rfl
  · exact fun _ _ _ _ h => h
  apply Exists.intro
  apply And.intro
  · apply yr_run; rfl; intro w' hw'; go_simp; (try with_reducible rfl)
  simp only [Act.put, List.setIfInBounds_toArray, List.set_cons_zero, List.set_cons_succ]
  apply wpR_next 25 (some 109)
  · simp only [List.getElem?_toArray, List.getElem?_cons_succ, List.getElem?_cons_zero]; exact rfl
  · rfl
  · kernel_rfl
  · kernel_rfl
  · kernel_rfl
  · exact fun _ _ _ _ h => h
  apply Exists.intro
  apply And.intro
  · apply yr_run; rfl; intro w' hw'; go_simp; (try with_reducible rfl)
  simp only [Act.put, List.setIfInBounds_toArray, List.set_cons_zero, List.set_cons_succ]
  apply wpR_next 26 (some 110)
  · simp only [List.getElem?_toArray, List.getElem?_cons_succ, List.getElem?_cons_zero]; exact rfl
  · rfl
  · kernel_rfl
  · kernel_rfl
  · kernel_rfl
  · exact fun _ _ _ _ h => h
  apply Exists.intro
  apply And.intro
  · apply yr_run; rfl; intro w' hw'; go_simp; (try with_reducible rfl)
  simp only [Act.put, List.setIfInBounds_toArray, List.set_cons_zero, List.set_cons_succ]
  apply wpR_next 27 (some 111)
  · simp only [List.getElem?_toArray, List.getElem?_cons_succ, List.getElem?_cons_zero]; exact rfl
  · rfl
  · kernel_rfl
  · kernel_rfl
  · kernel_rfl
  · exact fun _ _ _ _ h => h
  apply Exists.intro
  apply And.intro
  · apply yr_run; rfl; intro w' hw'; go_simp; (try with_reducible rfl)
  simp only [Act.put, List.setIfInBounds_toArray, List.set_cons_zero, List.set_cons_succ]
  apply wpR_next 28 (some 112)
  · simp only [List.getElem?_toArray, List.getElem?_cons_succ, List.getElem?_cons_zero]; exact rfl
  · rfl
  · kernel_rfl
  · kernel_rfl
  · kernel_rfl
  · exact fun _ _ _ _ h => h
  apply Exists.intro
  apply And.intro
  · apply yr_run; rfl; intro w' hw'; go_simp; (try with_reducible rfl)
  simp only [Act.put, List.setIfInBounds_toArray, List.set_cons_zero, List.set_cons_succ]
  apply wpR_next 29 (some 113)
  · simp only [List.getElem?_toArray, List.getElem?_cons_succ, List.getElem?_cons_zero]; exact rfl
  · rfl
  · kernel_rfl
  · kernel_rfl
  · kernel_rfl
  · exact fun _ _ _ _ h => h
  apply Exists.intro
  apply And.intro
  · apply yr_run; rfl; intro w' hw'; go_simp; (try with_reducible rfl)
  simp only [Act.put, List.setIfInBounds_toArray, List.set_cons_zero, List.set_cons_succ]
  apply wpR_next 30 (some 114)
  · simp only [List.getElem?_toArray, List.getElem?_cons_succ, List.getElem?_cons_zero]; exact rfl
  · rfl
  · kernel_rfl
  · kernel_rfl
  · kernel_rfl
  · exact fun _ _ _ _ h => h
  apply Exists.intro
  apply And.intro
  · apply yr_run; rfl; intro w' hw'; go_simp; (try with_reducible rfl)
  simp only [Act.put, List.setIfInBounds_toArray, List.set_cons_zero, List.set_cons_succ]
  apply wpR_next 31 (some 115)
  · simp only [List.getElem?_toArray, List.getElem?_cons_succ, List.getElem?_cons_zero]; exact rfl
  · rfl
  · kernel_rfl
  · kernel_rfl
  · kernel_rfl
  · exact fun _ _ _ _ h => h
  apply Exists.intro
  apply And.intro
  · apply yr_run; rfl; intro w' hw'; go_simp; (try with_reducible rfl)
  simp only [Act.put, List.setIfInBounds_toArray, List.set_cons_zero, List.set_cons_succ]
  apply wpR_next 32 (some 116)
  · simp only [List.getElem?_toArray, List.getElem?_cons_succ, List.getElem?_cons_zero]; exact rfl
  · rfl
  · kernel_rfl
  · kernel_rfl
  · kernel_rfl
  · exact fun _ _ _ _ h => h
  apply Exists.intro
  apply And.intro
  · apply yr_run; rfl; intro w' hw'; go_simp; (try with_reducible rfl)
  simp only [Act.put, List.setIfInBounds_toArray, List.set_cons_zero, List.set_cons_succ]
  apply wpR_next 33 (some 117)
  · simp only [List.getElem?_toArray, List.getElem?_cons_succ, List.getElem?_cons_zero]; exact rfl
  · rfl
  · kernel_rfl
  · kernel_rfl
  · kernel_rfl
  · exact fun _ _ _ _ h => h
  apply Exists.intro
  apply And.intro
  · apply yr_run; rfl; intro w' hw'; go_simp; (try with_reducible rfl)
  simp only [Act.put, List.setIfInBounds_toArray, List.set_cons_zero, List.set_cons_succ]
  apply wpR_next 34 (some 118)
  · simp only [List.getElem?_toArray, List.getElem?_cons_succ, List.getElem?_cons_zero]; exact rfl
  · rfl
  · kernel_rfl
  · kernel_rfl
  · kernel_rfl
  · exact fun _ _ _ _ h => h
  apply Exists.intro
  apply And.intro
  · apply yr_run; rfl; intro w' hw'; go_simp; (try with_reducible rfl)
  simp only [Act.put, List.setIfInBounds_toArray, List.set_cons_zero, List.set_cons_succ]
  apply wpR_next 35 (some 119)
  · simp only [List.getElem?_toArray, List.getElem?_cons_succ, List.getElem?_cons_zero]; exact rfl
  · rfl
  · kernel_rfl
  · kernel_rfl
  · kernel_rfl
  · exact fun _ _ _ _ h => h
  apply Exists.intro
  apply And.intro
  · apply yr_run; rfl; intro w' hw'; go_simp; (try with_reducible rfl)
  simp only [Act.put, List.setIfInBounds_toArray, List.set_cons_zero, List.set_cons_succ]
  apply wpR_next 36 (some 120)
  · simp only [List.getElem?_toArray, List.getElem?_cons_succ, List.getElem?_cons_zero]; exact rfl
  · rfl
  · kernel_rfl
  · kernel_rfl
  · kernel_rfl
  · exact fun _ _ _ _ h => h
  apply Exists.intro
  apply And.intro
  · apply yr_run; rfl; intro w' hw'; go_simp; (try with_reducible rfl)
  simp only [Act.put, List.setIfInBounds_toArray, List.set_cons_zero, List.set_cons_succ]
  apply wpR_next 37 (some 121)
  · simp only [List.getElem?_toArray, List.getElem?_cons_succ, List.getElem?_cons_zero]; exact rfl
  · rfl
  · kernel_rfl
  · kernel_rfl
  · kernel_rfl
  · exact fun _ _ _ _ h => h
  apply Exists.intro
  apply And.intro
  · apply yr_run; rfl; intro w' hw'; go_simp; (try with_reducible rfl)
  simp only [Act.put, List.setIfInBounds_toArray, List.set_cons_zero, List.set_cons_succ]
  apply wpR_next 39 (some 123)
  · simp only [List.getElem?_toArray, List.getElem?_cons_succ, List.getElem?_cons_zero]; exact rfl
  · rfl
  · kernel_rfl
  · kernel_rfl
  · kernel_rfl
  · exact fun _ _ _ _ h => h
  apply Exists.intro
  apply And.intro
  · apply yr_run; rfl; intro w' hw'; go_simp; (try with_reducible rfl)
  simp only [Act.put, List.setIfInBounds_toArray, List.set_cons_zero, List.set_cons_succ]
  apply wpR_next 40 (some 124)
  · simp only [List.getElem?_toArray, List.getElem?_cons_succ, List.getElem?_cons_zero]; exact rfl
  · rfl
  · kernel_rfl
  · kernel_rfl
  · kernel_rfl
  · exact fun _ _ _ _ h => h
  apply Exists.intro
  apply And.intro
  · apply yr_run; rfl; intro w' hw'; go_simp; (try with_reducible rfl)
  simp only [Act.put, List.setIfInBounds_toArray, List.set_cons_zero, List.set_cons_succ]
  apply wpR_call 38 (some 122)
  · simp only [List.getElem?_toArray, List.getElem?_cons_succ, List.getElem?_cons_zero]; exact rfl
  · rfl
  · kernel_rfl
  · rfl
  · intro w'; go_simp; first | done | exact ⟨rfl, rfl⟩ | with_reducible rfl
  intro w' hw'
  refine (HQ1.out _ (Da_96.out.bl hw') (Db_96.out.bl hw')).mono ?_
  rintro e w113 ⟨rfl, hb113⟩
  have D0_113 := Lib.hid ((D0_96.out.bl hw').bl hb113)
  have D1_113 := Lib.hid ((D1_96.out.bl hw').bl hb113)
  have X_113 := Lib.hid ((X_96.out.bl hw').bl hb113)
  have Da_113 := Lib.hid ((Da_96.out.bl hw').bl hb113)
  have Db_113 := Lib.hid ((Db_96.out.bl hw').bl hb113)
  have E1_113 := Lib.hid ((E1_96.out.bl hw').bl hb113)
  have E2_113 := Lib.hid ((E2_96.out.bl hw').bl hb113)
  have P1_113 := Lib.hid ((P1_96.out.bl hw').bl hb113)
  have P2_113 := Lib.hid ((P2_96.out.bl hw').bl hb113)
  have Bel_113 := Lib.hid (bel_bl (bel_bl Bel_96.out hw') hb113)
  have ld114 := fun w'' (h : Kept Nil_ w113 w'') => ld97 w'' ((Kept.of_ext hw').trans ((Kept.of_below hb113).trans h))
  have ld115 := fun w'' (h : Kept Nil_ w113 w'') => ld98 w'' ((Kept.of_ext hw').trans ((Kept.of_below hb113).trans h))
  have ld116 := fun w'' (h : Kept Nil_ w113 w'') => ld99 w'' ((Kept.of_ext hw').trans ((Kept.of_below hb113).trans h))
  have ld117 := fun w'' (h : Kept Nil_ w113 w'') => ld100 w'' ((Kept.of_ext hw').trans ((Kept.of_below hb113).trans h))
  have ld118 := fun w'' (h : Kept Nil_ w113 w'') => ld101 w'' ((Kept.of_ext hw').trans ((Kept.of_below hb113).trans h))
  have ld119 := fun w'' (h : Kept Nil_ w113 w'') => ld102 w'' ((Kept.of_ext hw').trans ((Kept.of_below hb113).trans h))
  have ld120 := fun w'' (h : Kept Nil_ w113 w'') => ld103 w'' ((Kept.of_ext hw').trans ((Kept.of_below hb113).trans h))
  have ld121 := fun w'' (h : Kept Nil_ w113 w'') => ld104 w'' ((Kept.of_ext hw').trans ((Kept.of_below hb113).trans h))
  have ld122 := fun w'' (h : Kept Nil_ w113 w'') => ld105 w'' ((Kept.of_ext hw').trans ((Kept.of_below hb113).trans h))
  have ld123 := fun w'' (h : Kept Nil_ w113 w'') => ld106 w'' ((Kept.of_ext hw').trans ((Kept.of_below hb113).trans h))
  have ld124 := fun w'' (h : Kept Nil_ w113 w'') => ld107 w'' ((Kept.of_ext hw').trans ((Kept.of_below hb113).trans h))
  have ld125 := fun w'' (h : Kept Nil_ w113 w'') => ld108 w'' ((Kept.of_ext hw').trans ((Kept.of_below hb113).trans h))
  have ld126 := fun w'' (h : Kept Nil_ w113 w'') => ld109 w'' ((Kept.of_ext hw').trans ((Kept.of_below hb113).trans h))
  have ld127 := fun w'' (h : Kept Nil_ w113 w'') => ld110 w'' ((Kept.of_ext hw').trans ((Kept.of_below hb113).trans h))
  have ld128 := fun w'' (h : Kept Nil_ w113 w'') => ld111 w'' ((Kept.of_ext hw').trans ((Kept.of_below hb113).trans h))
  have ld129 := fun w'' (h : Kept Nil_ w113 w'') => ld112 w'' ((Kept.of_ext hw').trans ((Kept.of_below hb113).trans h))
  refine ⟨_, rfl, Kept.of_below hb113, ?_⟩
  clear hw' hb113
  simp only [Act.put, List.setIfInBounds_toArray, List.set_cons_zero, List.set_cons_succ]
  apply wpR_call 41 (some 125)
  · simp only [List.getElem?_toArray, List.getElem?_cons_succ, List.getElem?_cons_zero]; exact rfl
  · rfl
  · kernel_rfl
  · rfl
  · intro w'; go_simp; first | done | exact ⟨rfl, rfl⟩ | with_reducible rfl
  intro w' hw'
  refine (HQ2.out _ (Da_113.out.bl hw') (Db_113.out.bl hw')).mono ?_
  rintro e w130 ⟨rfl, hb130⟩
  have D0_130 := Lib.hid ((D0_113.out.bl hw').bl hb130)
  have D1_130 := Lib.hid ((D1_113.out.bl hw').bl hb130)
  have X_130 := Lib.hid ((X_113.out.bl hw').bl hb130)
  have Da_130 := Lib.hid ((Da_113.out.bl hw').bl hb130)
  have Db_130 := Lib.hid ((Db_113.out.bl hw').bl hb130)
  have E1_130 := Lib.hid ((E1_113.out.bl hw').bl hb130)
  have E2_130 := Lib.hid ((E2_113.out.bl hw').bl hb130)
  have P1_130 := Lib.hid ((P1_113.out.bl hw').bl hb130)
  have P2_130 := Lib.hid ((P2_113.out.bl hw').bl hb130)
  have Bel_130 := Lib.hid (bel_bl (bel_bl Bel_113.out hw') hb130)
  have ld131 := fun w'' (h : Kept Nil_ w130 w'') => ld114 w'' ((Kept.of_ext hw').trans ((Kept.of_below hb130).trans h))
  have ld132 := fun w'' (h : Kept Nil_ w130 w'') => ld115 w'' ((Kept.of_ext hw').trans ((Kept.of_below hb130).trans h))
  have ld133 := fun w'' (h : Kept Nil_ w130 w'') => ld116 w'' ((Kept.of_ext hw').trans ((Kept.of_below hb130).trans h))
  have ld134 := fun w'' (h : Kept Nil_ w130 w'') => ld117 w'' ((Kept.of_ext hw').trans ((Kept.of_below hb130).trans h))
  have ld135 := fun w'' (h : Kept Nil_ w130 w'') => ld118 w'' ((Kept.of_ext hw').trans ((Kept.of_below hb130).trans h))
  have ld136 := fun w'' (h : Kept Nil_ w130 w'') => ld119 w'' ((Kept.of_ext hw').trans ((Kept.of_below hb130).trans h))
  have ld137 := fun w'' (h : Kept Nil_ w130 w'') => ld120 w'' ((Kept.of_ext hw').trans ((Kept.of_below hb130).trans h))
  have ld138 := fun w'' (h : Kept Nil_ w130 w'') => ld121 w'' ((Kept.of_ext hw').trans ((Kept.of_below hb130).trans h))
  have ld139 := fun w'' (h : Kept Nil_ w130 w'') => ld122 w'' ((Kept.of_ext hw').trans ((Kept.of_below hb130).trans h))
  have ld140 := fun w'' (h : Kept Nil_ w130 w'') => ld123 w'' ((Kept.of_ext hw').trans ((Kept.of_below hb130).trans h))
  have ld141 := fun w'' (h : Kept Nil_ w130 w'') => ld124 w'' ((Kept.of_ext hw').trans ((Kept.of_below hb130).trans h))
  have ld142 := fun w'' (h : Kept Nil_ w130 w'') => ld125 w'' ((Kept.of_ext hw').trans ((Kept.of_below hb130).trans h))
  have ld143 := fun w'' (h : Kept Nil_ w130 w'') => ld126 w'' ((Kept.of_ext hw').trans ((Kept.of_below hb130).trans h))
  have ld144 := fun w'' (h : Kept Nil_ w130 w'') => ld127 w'' ((Kept.of_ext hw').trans ((Kept.of_below hb130).trans h))
  have ld145 := fun w'' (h : Kept Nil_ w130 w'') => ld128 w'' ((Kept.of_ext hw').trans ((Kept.of_below hb130).trans h))
  have ld146 := fun w'' (h : Kept Nil_ w130 w'') => ld129 w'' ((Kept.of_ext hw').trans ((Kept.of_below hb130).trans h))
  refine ⟨_, rfl, Kept.of_below hb130, ?_⟩
  clear hw' hb130
  simp only [Act.put, List.setIfInBounds_toArray, List.set_cons_zero, List.set_cons_succ]
  apply wpR_next 42 (some 126)
  · simp only [List.getElem?_toArray, List.getElem?_cons_succ, List.getElem?_cons_zero]; exact rfl
  · rfl
  · kernel_rfl
  · kernel_rfl
  · kernel_rfl
  · exact fun _ _ _ _ h => h
  apply Exists.intro
  apply And.intro
  · apply yr_run; rfl; intro w' hw'; go_simp; (try with_reducible rfl)
  simp only [Act.put, List.setIfInBounds_toArray, List.set_cons_zero, List.set_cons_succ]
  apply wpR_next 43 (some 127)
  · simp only [List.getElem?_toArray, List.getElem?_cons_succ, List.getElem?_cons_zero]; exact rfl
  · rfl
  · kernel_rfl
  · kernel_rfl
  · kernel_rfl
  · exact fun _ _ _ _ h => h
  apply Exists.intro
  apply And.intro
  · apply yr_run; rfl; intro w' hw'; go_simp; (try with_reducible rfl)
  simp only [Act.put, List.setIfInBounds_toArray, List.set_cons_zero, List.set_cons_succ]
  apply wpR_next 44 (some 6)
  · simp only [List.getElem?_toArray, List.getElem?_cons_succ, List.getElem?_cons_zero]; exact rfl
  · rfl
  · kernel_rfl
  · kernel_rfl
  · kernel_rfl
  · exact fun _ _ _ _ h => h
  apply Exists.intro
  apply And.intro
  · apply yr_run; rfl; intro w' hw'; go_simp; (try with_reducible rfl)
  simp only [Act.put, List.setIfInBounds_toArray, List.set_cons_zero, List.set_cons_succ]
  refine wpR_done (by kernel_rfl) ?_ _
  intro w147 hw'
  have D0_148 := Lib.hid (D0_130.out.bl hw')
  have D1_148 := Lib.hid (D1_130.out.bl hw')
  have X_148 := Lib.hid (X_130.out.bl hw')
  have Da_148 := Lib.hid (Da_130.out.bl hw')
  have Db_148 := Lib.hid (Db_130.out.bl hw')
  have E1_148 := Lib.hid (E1_130.out.bl hw')
  have E2_148 := Lib.hid (E2_130.out.bl hw')
  have P1_148 := Lib.hid (P1_130.out.bl hw')
  have P2_148 := Lib.hid (P2_130.out.bl hw')
  have Bel_148 := Lib.hid (bel_bl Bel_130.out hw')
  clear D0_130 D1_130 X_130 Da_130 Db_130 E1_130 E2_130 P1_130 P2_130 Bel_130
  clear hw'
  go_wp2
  go_ret
  exact ⟨rfl, Bel_148.out⟩
end Go.Proofs.Ytdhglhcpgmfpoaa
