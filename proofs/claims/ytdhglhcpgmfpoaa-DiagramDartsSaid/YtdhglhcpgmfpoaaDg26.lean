/- DiagramDarts' walk. -/
import Derived.Test.YtdhglhcpgmfpoaaDgMb
namespace Go.Proofs.Ytdhglhcpgmfpoaa
open Go.RowKit
set_option linter.unusedSimpArgs false
set_option linter.unusedVariables false

set_option maxRecDepth 100000 in
set_option maxHeartbeats 4000000 in
theorem darts_no (A : Option Addr) (n c : Nat) (Vs : List VC) (B : Option Addr) (m k : Nat) (Es : List EC) (x : Int) (w : World) (h : DgIn w A n c Vs B m k Es) (hg : GoodD Vs Es) (hn : n ≤ maxLen) (hm : m ≤ maxLen) (hf : formD ((Vs.take 30).map fewV) (Es.take 50) ≠ 0) :
    Calls Try.prog 5 #[.agg #[.slice A n c, .slice B m k], .int .i64 x] w fun e w' => e = .returned (.bool true) ∧ Below w.heap.size w w' := by
  have HW := Lib.hid (fun W hb => few_step h hg hn hm W hb)
  obtain ⟨Va, gVa⟩ : ∃ z, (Vs.take 30).map fewV = z := ⟨_, rfl⟩
  obtain ⟨Ea, gEa⟩ : ∃ z, Es.take 50 = z := ⟨_, rfl⟩
  rw [gVa, gEa] at HW
  rw [gVa, gEa] at hf
  have HFn := Lib.hid hf
  clear hf
  clear h hg hn hm gVa gEa
  go_enter Try.func5, Try.ntmps5
  go_wp2_with fail
  refine (shown_any _).mono ?_
  rintro e w1 ⟨rfl, hb1⟩
  have D0_2 := Lib.hid ((show Whole (w.alloc (.cells #[.slice A n c, .slice B m k] 25)) (w.heap.size) (25) ([.slice A n c, .slice B m k]) from Whole.new2 (by first | rfl | simp)).bl hb1)
  have Bel_2 := Lib.hid (bel_bl (bel_al (Below.refl _ w) (.cells #[.slice A n c, .slice B m k] 25)) hb1)
  clear hb1
  have LO_D0_3 : RowKit.Hid (w.heap.size ≤ w.heap.size) := Lib.hid (by omega)
  have lw4 : (w1).cell? ⟨w.heap.size, 0, none⟩ = some (.slice A n c) := D0_2.out.cell (i := 0) rfl
  have lw5 : (w1).cell? ⟨w.heap.size, 1, none⟩ = some (.slice B m k) := D0_2.out.cell (i := 1) rfl
  go_wp2_with fail
  clear lw4 lw5
  have LTN_a_D0 : RowKit.Hid (w.heap.size < w1.heap.size) := Lib.hid (D0_2.out).lt
  refine (HW.out _ Bel_2.out).mono ?_
  rintro e w6 ⟨Aa, na, ca, Ba, ma, ka, rfl, hF, hb6⟩
  have Fa := Lib.hid hF
  clear hF
  have D0_7 := Lib.hid (D0_2.out.bl hb6)
  have Bel_7 := Lib.hid (bel_bl Bel_2.out hb6)
  clear D0_2 Bel_2
  clear hb6
  have lw8 : (w6).cell? ⟨w.heap.size, 0, none⟩ = some (.slice A n c) := D0_7.out.cell (i := 0) rfl
  have lw9 : (w6).cell? ⟨w.heap.size, 1, none⟩ = some (.slice B m k) := D0_7.out.cell (i := 1) rfl
  have fr0 := D0_7.out.free 0
  have fr1 := D0_7.out.free 1
  go_upto_region 3 with fail
  clear fr0 fr1 lw8 lw9
  obtain ⟨v10, gv10⟩ : ∃ x, (w6.setCell ⟨w.heap.size, 0, none⟩ (.slice Aa na ca)).setCell ⟨w.heap.size, 1, none⟩ (.slice Ba ma ka) = x := ⟨_, rfl⟩
  have D0_10 : RowKit.Hid (Whole v10 w.heap.size 25 [.slice Aa na ca, .slice Ba ma ka]) := Lib.hid (gv10 ▸ ((D0_7.out.set_ 0 (.slice Aa na ca)).set_ 1 (.slice Ba ma ka)))
  have Bel_10 : RowKit.Hid (Below w.heap.size w v10) := Lib.hid (gv10 ▸ ((Bel_7.out.setCell (p := ⟨w.heap.size, 0, none⟩) (by show w.heap.size ≤ w.heap.size; exact LO_D0_3.out) _).setCell (p := ⟨w.heap.size, 1, none⟩) (by show w.heap.size ≤ w.heap.size; exact LO_D0_3.out) _))
  have Da_10 : RowKit.Hid (DgIn v10 Aa na ca Va Ba ma ka Ea) := Lib.hid (gv10 ▸ Fa.out.put (g := w.heap.size) (by show w.heap.size ≤ w.heap.size; exact LO_D0_3.out) LTN_a_D0.out _ _)
  rw [gv10]
  clear gv10
  clear D0_7 Bel_7
  have hr30 : ∀ x ∈ Va, x.2.1.2.1 ≤ 1000000 := fun x hx => by have := Fa.out.r30 x hx; omega
  have hn30 : na ≤ 1000000 := by have := Fa.out.n30; omega
  have hm50 : ma ≤ 1000000 := by have := Fa.out.m50; omega
  have HF1 := Lib.hid (fun W (h : DgIn W Aa na ca Va Ba ma ka Ea) => form_any Aa na ca Va Ba ma ka Ea W h hr30 Fa.out.good.e Fa.out.good.v)
  have HR30 := Lib.hid hr30
  clear hr30
  obtain ⟨fo, gfo⟩ : ∃ z, formD Va Ea = z := ⟨_, rfl⟩
  rw [gfo] at HF1
  have hfo : (fo != 0) = true := by rw [← gfo]; exact bne_iff_ne.2 HFn.out
  clear gfo HFn
  have lw11 : (v10).cell? ⟨w.heap.size, 0, none⟩ = some (.slice Aa na ca) := D0_10.out.cell (i := 0) rfl
  have lw12 : (v10).cell? ⟨w.heap.size, 1, none⟩ = some (.slice Ba ma ka) := D0_10.out.cell (i := 1) rfl
  go_wp2_with fail
  clear lw11 lw12
  refine (HF1.out _ Da_10.out).mono ?_
  rintro e w13 ⟨rfl, hb13⟩
  have D0_14 := Lib.hid (D0_10.out.bl hb13)
  have Da_14 := Lib.hid (Da_10.out.bl hb13)
  have Bel_14 := Lib.hid (bel_bl Bel_10.out hb13)
  clear D0_10 Da_10 Bel_10
  clear hb13
  go_wp2
  go_ret
  exact ⟨rfl, Bel_14.out⟩
set_option maxRecDepth 100000 in
set_option maxHeartbeats 4000000 in
theorem darts_yes (A : Option Addr) (n c : Nat) (Vs : List VC) (B : Option Addr) (m k : Nat) (Es : List EC) (x : Int) (w : World) (h : DgIn w A n c Vs B m k Es) (hg : GoodD Vs Es) (hn : n ≤ maxLen) (hm : m ≤ maxLen) (hf : formD ((Vs.take 30).map fewV) (Es.take 50) = 0) :
    Calls Try.prog 5 #[.agg #[.slice A n c, .slice B m k], .int .i64 x] w fun e w' => e = .returned (.bool true) ∧ Below w.heap.size w w' := by
  have HW := Lib.hid (fun W hb => few_step h hg hn hm W hb)
  obtain ⟨Va, gVa⟩ : ∃ z, (Vs.take 30).map fewV = z := ⟨_, rfl⟩
  obtain ⟨Ea, gEa⟩ : ∃ z, Es.take 50 = z := ⟨_, rfl⟩
  rw [gVa, gEa] at HW
  rw [gVa, gEa] at hf
  have HFm := Lib.hid ((form0 Va Ea).1 hf)
  have HF0 := Lib.hid hf
  clear hf
  clear h hg hn hm gVa gEa
  go_enter Try.func5, Try.ntmps5
  go_wp2_with fail
  refine (shown_any _).mono ?_
  rintro e w1 ⟨rfl, hb1⟩
  have D0_2 := Lib.hid ((show Whole (w.alloc (.cells #[.slice A n c, .slice B m k] 25)) (w.heap.size) (25) ([.slice A n c, .slice B m k]) from Whole.new2 (by first | rfl | simp)).bl hb1)
  have Bel_2 := Lib.hid (bel_bl (bel_al (Below.refl _ w) (.cells #[.slice A n c, .slice B m k] 25)) hb1)
  clear hb1
  have LO_D0_3 : RowKit.Hid (w.heap.size ≤ w.heap.size) := Lib.hid (by omega)
  have lw4 : (w1).cell? ⟨w.heap.size, 0, none⟩ = some (.slice A n c) := D0_2.out.cell (i := 0) rfl
  have lw5 : (w1).cell? ⟨w.heap.size, 1, none⟩ = some (.slice B m k) := D0_2.out.cell (i := 1) rfl
  go_wp2_with fail
  clear lw4 lw5
  have LTN_a_D0 : RowKit.Hid (w.heap.size < w1.heap.size) := Lib.hid (D0_2.out).lt
  refine (HW.out _ Bel_2.out).mono ?_
  rintro e w6 ⟨Aa, na, ca, Ba, ma, ka, rfl, hF, hb6⟩
  have Fa := Lib.hid hF
  clear hF
  have D0_7 := Lib.hid (D0_2.out.bl hb6)
  have Bel_7 := Lib.hid (bel_bl Bel_2.out hb6)
  clear D0_2 Bel_2
  clear hb6
  have lw8 : (w6).cell? ⟨w.heap.size, 0, none⟩ = some (.slice A n c) := D0_7.out.cell (i := 0) rfl
  have lw9 : (w6).cell? ⟨w.heap.size, 1, none⟩ = some (.slice B m k) := D0_7.out.cell (i := 1) rfl
  have fr0 := D0_7.out.free 0
  have fr1 := D0_7.out.free 1
  go_upto_region 3 with fail
  clear fr0 fr1 lw8 lw9
  obtain ⟨v10, gv10⟩ : ∃ x, (w6.setCell ⟨w.heap.size, 0, none⟩ (.slice Aa na ca)).setCell ⟨w.heap.size, 1, none⟩ (.slice Ba ma ka) = x := ⟨_, rfl⟩
  have D0_10 : RowKit.Hid (Whole v10 w.heap.size 25 [.slice Aa na ca, .slice Ba ma ka]) := Lib.hid (gv10 ▸ ((D0_7.out.set_ 0 (.slice Aa na ca)).set_ 1 (.slice Ba ma ka)))
  have Bel_10 : RowKit.Hid (Below w.heap.size w v10) := Lib.hid (gv10 ▸ ((Bel_7.out.setCell (p := ⟨w.heap.size, 0, none⟩) (by show w.heap.size ≤ w.heap.size; exact LO_D0_3.out) _).setCell (p := ⟨w.heap.size, 1, none⟩) (by show w.heap.size ≤ w.heap.size; exact LO_D0_3.out) _))
  have Da_10 : RowKit.Hid (DgIn v10 Aa na ca Va Ba ma ka Ea) := Lib.hid (gv10 ▸ Fa.out.put (g := w.heap.size) (by show w.heap.size ≤ w.heap.size; exact LO_D0_3.out) LTN_a_D0.out _ _)
  rw [gv10]
  clear gv10
  clear D0_7 Bel_7
  have hr30 : ∀ x ∈ Va, x.2.1.2.1 ≤ 1000000 := fun x hx => by have := Fa.out.r30 x hx; omega
  have hn30 : na ≤ 1000000 := by have := Fa.out.n30; omega
  have hm50 : ma ≤ 1000000 := by have := Fa.out.m50; omega
  have HF1 := Lib.hid (fun W (h : DgIn W Aa na ca Va Ba ma ka Ea) => form_any Aa na ca Va Ba ma ka Ea W h hr30 Fa.out.good.e Fa.out.good.v)
  have HR30 := Lib.hid hr30
  clear hr30
  rw [HF0.out] at HF1
  obtain ⟨i0, hi, hz0, hz1, hz2⟩ := info_partsD info_edge
  have HAt := Lib.hid (fun (x1 x2 x3 : Int) W (h : DgIn W Aa na ca Va Ba ma ka Ea) => at_any Aa na ca Va Ba ma ka Ea x1 x2 x3 W h hn30 HR30.out)
  have HEd := Lib.hid (fun (x1 x2 : Int) W (h : DgIn W Aa na ca Va Ba ma ka Ea) => edge_any Aa na ca Va Ba ma ka Ea x1 x2 W h.e hm50)
  have HNm : RowKit.Hid (∀ W, DgIn W Aa na ca Va Ba ma ka Ea → Calls Try.prog 26 #[.agg #[.slice Aa na ca, .slice Ba ma ka]] W fun e w' => ∃ A1 c1, e = .returned (.slice A1 (na + ma) c1) ∧ Below W.heap.size W w') := Lib.hid (fun W h => by
    refine (names_any Aa na ca Va Ba ma ka Ea W h hn30 hm50).mono ?_
    rintro e w' ⟨A1, c1, rfl, ho⟩
    exact ⟨A1, c1, rfl, ho.below⟩)
  have HLv : RowKit.Hid (Va.length = na) := Lib.hid Fa.out.lenv
  have HLe : RowKit.Hid (Ea.length = ma) := Lib.hid Fa.out.lene
  have hn24 : na ≤ 24 := by have := HFm.out.v24; have := HLv.out; omega
  have hm40 : ma ≤ 40 := by have := HFm.out.e40; have := HLe.out; omega
  have lw11 : (v10).cell? ⟨w.heap.size, 0, none⟩ = some (.slice Aa na ca) := D0_10.out.cell (i := 0) rfl
  have lw12 : (v10).cell? ⟨w.heap.size, 1, none⟩ = some (.slice Ba ma ka) := D0_10.out.cell (i := 1) rfl
  go_wp2_with fail
  clear lw11 lw12
  refine (HF1.out _ Da_10.out).mono ?_
  rintro e w13 ⟨rfl, hb13⟩
  have D0_14 := Lib.hid (D0_10.out.bl hb13)
  have Da_14 := Lib.hid (Da_10.out.bl hb13)
  have Bel_14 := Lib.hid (bel_bl Bel_10.out hb13)
  clear D0_10 Da_10 Bel_10
  clear hb13
  have HD0 : RowKit.Hid (DgIn w13 Aa na ca Va Ba ma ka Ea) := Da_14
  have HX0 : RowKit.Hid (Whole w13 w.heap.size 25 [.slice Aa na ca, .slice Ba ma ka]) := D0_14
  have HB0 : RowKit.Hid (Below w.heap.size w w13) := Bel_14
  obtain ⟨b0, gb0⟩ : ∃ z, w.heap.size = z := ⟨_, rfl⟩
  have LB0 : RowKit.Hid (w.heap.size ≤ b0) := Lib.hid (by omega)
  rw [gb0] at HX0
  rw [gb0]
  clear gb0
  go_wp2
  clear Da_14 D0_14 Bel_14
  go_loopw [6, 7] (fun st si wr => ∃ j t : Nat, j ≤ na ∧ t ≤ j * 30 ∧ si = .int .i64 j ∧ st = .int .i64 t ∧ RowKit.Hid (Below w.heap.size w wr) ∧ RowKit.Hid (Whole wr b0 25 [.slice Aa na ca, .slice Ba ma ka]) ∧ RowKit.Hid (DgIn wr Aa na ca Va Ba ma ka Ea) ∧ RowKit.Hid ((ringsOf (Va.take j)).length = t)) (fun _ si _ => na - (intOf si).toNat)
  case atStart => exact ⟨0, 0, by omega, by omega, rfl, rfl, HB0, HX0, HD0, Lib.hid rfl⟩
  case round =>
    clear HB0 HX0 HD0
    obtain ⟨j, t, hj, ht, rfl, rfl, HB, HX, HD, HG⟩ := hrel
    obtain ⟨wo, gwo⟩ : ∃ z, wr = z := ⟨_, rfl⟩
    rw [gwo] at HB HX HD ⊢
    clear gwo
    have cb := HX.out.cell (i := 0) rfl
    by_cases hjn : j < na
    · obtain ⟨v, hx⟩ : ∃ x, Va[j]? = some x := ⟨_, List.getElem?_eq_getElem (by have := HLv.out; omega)⟩
      have hmem := List.mem_of_getElem? hx
      have hrg := HD.out.r v hmem
      have hr30 := Fa.out.r30 v hmem
      have hnx := rings_take Va j v hx
      have HAtv : RowKit.Hid (∀ d ∈ v.2.1.2.2.2, atV Va d = (v.1, true)) := Lib.hid (fun d hd => HFm.out.at hmem hd)
      have HEdv : RowKit.Hid (∀ d ∈ v.2.1.2.2.2, (fndE Ea (d.1, d.2.1)).2 = true) := Lib.hid (fun d hd => HFm.out.edge hmem hd)
      obtain ⟨bb, off, gA, hbB, hpl⟩ := HD.out.v.place vC_len (by decide) (by omega)
      have q0 := hpl j _ hx 0 _ rfl
      have q1 := hpl j _ hx 1 _ rfl
      have q2 := hpl j _ hx 2 _ rfl
      simp only [Addr.add_lit, Nat.add_zero] at q0 q1 q2
      obtain ⟨⟨i1, i2⟩, ⟨rA, rn, rc, rL⟩, lb, at_⟩ := v
      have hR : RdS wo wo.heap.size 3 rA rn rc (dartsV rL) := hrg.2
      have hrl := hR.dlen
      replace hr30 : rn ≤ 30 := hr30
      replace q0 : wo.cell? ⟨bb, off + j * 5, none⟩ = some (.int .i64 i1) := q0
      replace q1 : wo.cell? ⟨bb, off + j * 5 + 1, none⟩ = some (.int .i64 i2) := q1
      replace q2 : wo.cell? ⟨bb, off + j * 5 + 2, none⟩ = some (.slice rA rn rc) := q2
      replace hnx : (ringsOf (Va.take (j + 1))).length = (ringsOf (Va.take j)).length + rL.length := hnx
      have HNx := Lib.hid hnx
      rw [dartsV_rows] at hR
      have HRo := Lib.hid hR
      have Hrl := Lib.hid hrl
      have HQ : RowKit.Hid (∀ W, Below wo.heap.size wo W → W.cell? ⟨bb, off + j * 5, none⟩ = some (.int .i64 i1) ∧ W.cell? ⟨bb, off + j * 5 + 1, none⟩ = some (.int .i64 i2) ∧ W.cell? ⟨bb, off + j * 5 + 2, none⟩ = some (.slice rA rn rc)) := Lib.hid (fun W hb => ⟨(hb.cell (p := ⟨bb, off + j * 5, none⟩) hbB).trans q0, (hb.cell (p := ⟨bb, off + j * 5 + 1, none⟩) hbB).trans q1, (hb.cell (p := ⟨bb, off + j * 5 + 2, none⟩) hbB).trans q2⟩)
      have HbB := Lib.hid hbB
      have GA := Lib.hid gA
      rw [gA] at cb
      have HXs : RowKit.Hid (Whole wo b0 25 [.slice (some ⟨bb, off, none⟩) na ca, .slice Ba ma ka]) := Lib.hid (by rw [← gA]; exact HX.out)
      have HE0 : RowKit.Hid (Below wo.heap.size wo wo) := Lib.hid (Below.refl _ _)
      have ht2 : t + rn ≤ (j + 1) * 30 := by omega
      clear hx hmem hrg hpl q0 q1 hR hrl hnx hbB gA HX
      go_wp2
      clear cb q2
      go_loopw [8] (fun si wr => ∃ q : Nat, q ≤ rn ∧ si = .int .i64 q ∧ RowKit.Hid (Below wo.heap.size wo wr) ∧ RowKit.Hid (Whole wr b0 25 [.slice (some ⟨bb, off, none⟩) na ca, .slice Ba ma ka]) ∧ RowKit.Hid (DgIn wr Aa na ca Va Ba ma ka Ea)) (fun si _ => rn - (intOf si).toNat)
      case atStart => exact ⟨0, by omega, rfl, HE0, HXs, HD⟩
      case round =>
        clear HE0 HXs HD
        obtain ⟨q, hq, rfl, HZ, HY, HD⟩ := hrel
        obtain ⟨wi, gwi⟩ : ∃ z, wr = z := ⟨_, rfl⟩
        rw [gwi] at HZ HY HD ⊢
        clear gwi
        have cb := HY.out.cell (i := 0) rfl
        have c2 := (HQ.out _ HZ.out).2.2
        by_cases hqn : q < rn
        · obtain ⟨d, hd⟩ : ∃ d, rL[q]? = some d := ⟨_, List.getElem?_eq_getElem (by have := Hrl.out; omega)⟩
          have had := HAtv.out d (List.mem_of_getElem? hd)
          have hed := HEdv.out d (List.mem_of_getElem? hd)
          obtain ⟨rb, ro, rfl, hrB, hrpl⟩ := HRo.out.place dC_len (by decide) (by omega)
          have p0 := hrpl q _ hd 0 _ rfl
          have p1 := hrpl q _ hd 1 _ rfl
          have p2 := hrpl q _ hd 2 _ rfl
          simp only [Addr.add_lit, Nat.add_zero] at p0 p1 p2
          obtain ⟨d1, d2, d3⟩ := d
          have HP : RowKit.Hid (∀ W, Below wo.heap.size wo W → W.cell? ⟨rb, ro + q * 3, none⟩ = some (.int .i64 d1) ∧ W.cell? ⟨rb, ro + q * 3 + 1, none⟩ = some (.int .i64 d2) ∧ W.cell? ⟨rb, ro + q * 3 + 2, none⟩ = some (.int .i64 d3)) := Lib.hid (fun W hb => ⟨(hb.cell (p := ⟨rb, ro + q * 3, none⟩) hrB).trans p0, (hb.cell (p := ⟨rb, ro + q * 3 + 1, none⟩) hrB).trans p1, (hb.cell (p := ⟨rb, ro + q * 3 + 2, none⟩) hrB).trans p2⟩)
          have HrB := Lib.hid hrB
          obtain ⟨⟨ed, ek⟩, ged⟩ : ∃ z, fndE Ea (d1, d2) = z := ⟨_, rfl⟩
          obtain rfl : ek = true := by
            have h1 : (fndE Ea (d1, d2)).2 = true := hed
            rw [ged] at h1
            exact h1
          have HA1 : RowKit.Hid (∀ W, DgIn W Aa na ca Va Ba ma ka Ea → Calls Try.prog 22 #[.agg #[.slice (some ⟨bb, off, none⟩) na ca, .slice Ba ma ka], .agg #[.int .i64 d1, .int .i64 d2, .int .i64 d3]] W fun e w' => e = .returned (.tuple #[.agg (idC (i1, i2)).toArray, .bool true]) ∧ Below W.heap.size W w') := Lib.hid (fun W h => by
            have h1 := HAt.out d1 d2 d3 W h
            rw [had, GA.out] at h1
            exact h1)
          have HE1 : RowKit.Hid (∀ W, DgIn W Aa na ca Va Ba ma ka Ea → Calls Try.prog 20 #[.agg #[.slice (some ⟨bb, off, none⟩) na ca, .slice Ba ma ka], .agg #[.int .i64 d1, .int .i64 d2]] W fun e w' => e = .returned (.tuple #[.agg (eC ed).toArray, .bool true]) ∧ Below W.heap.size W w') := Lib.hid (fun W h => by
            have h1 := HEd.out d1 d2 W h
            rw [ged, GA.out] at h1
            exact h1)
          clear hd had hed hrB hrpl p0 p1 p2 ged
          go_upto_region 13 with fail
          clear cb c2
          obtain ⟨B2, gB2⟩ : ∃ z, wi.heap.size = z := ⟨_, rfl⟩
          have HBw := Lib.hid gB2
          have HC1 := Lib.hid (HQ.out _ HZ.out)
          have HP1 := Lib.hid (HP.out _ HZ.out)
          have hls : wo.heap.size ≤ wi.heap.size := HZ.out.size
          have HAk : RowKit.Hid (∀ w', Kept (From_ B2) wi.drew w' → Calls Try.prog 22 #[.agg #[.slice (some ⟨bb, off, none⟩) na ca, .slice Ba ma ka], .agg #[.int .i64 d1, .int .i64 d2, .int .i64 d3]] w' fun e w'' => e = .returned (.tuple #[.agg (idC (i1, i2)).toArray, .bool true]) ∧ Below w'.heap.size w' w'') := Lib.hid (fun w' hk => HA1.out w' (HD.out.dr.bl (by
            have h1 := bel_kept (Below.refl wi.drew.heap.size wi.drew) (by rw [← gB2]; exact Nat.le_refl _) hk
            exact h1)))
          clear gB2
          have ldb : ∀ w', Kept (From_ B2) wi.drew w' → w'.cell? ⟨b0, 0, none⟩ = some (.slice (some ⟨bb, off, none⟩) na ca) := fun w' h => h.from_cell (Nat.lt_of_lt_of_eq HY.out.lt HBw.out) (HY.out.dr.cell (i := 0) rfl)
          have ldc : ∀ w', Kept (From_ B2) wi.drew w' → w'.cell? ⟨b0, 1, none⟩ = some (.slice Ba ma ka) := fun w' h => h.from_cell (Nat.lt_of_lt_of_eq HY.out.lt HBw.out) (HY.out.dr.cell (i := 1) rfl)
          have lde : ∀ w', Kept (From_ B2) wi.drew w' → w'.cell? ⟨bb, off + j * 5 + 2, none⟩ = some (.slice (some ⟨rb, ro, none⟩) rn rc) := fun w' h => h.from_cell (Nat.lt_of_lt_of_eq (Nat.lt_of_lt_of_le HbB.out hls) HBw.out) (HC1.out.2.2)
          have ldf0 : ∀ w', Kept (From_ B2) wi.drew w' → w'.cell? ⟨rb, ro + q * 3, none⟩ = some (.int .i64 d1) := fun w' h => h.from_cell (Nat.lt_of_lt_of_eq (Nat.lt_of_lt_of_le HrB.out hls) HBw.out) (HP1.out.1)
          have ldf1 : ∀ w', Kept (From_ B2) wi.drew w' → w'.cell? ⟨rb, ro + q * 3 + 1, none⟩ = some (.int .i64 d2) := fun w' h => h.from_cell (Nat.lt_of_lt_of_eq (Nat.lt_of_lt_of_le HrB.out hls) HBw.out) (HP1.out.2.1)
          have ldf2 : ∀ w', Kept (From_ B2) wi.drew w' → w'.cell? ⟨rb, ro + q * 3 + 2, none⟩ = some (.int .i64 d3) := fun w' h => h.from_cell (Nat.lt_of_lt_of_eq (Nat.lt_of_lt_of_le HrB.out hls) HBw.out) (HP1.out.2.2)
          refine wp_region_reg (From_ B2) (by kernel_rfl) ?_
          apply wpR_next 0 (some 49)
          · simp only [List.getElem?_toArray, List.getElem?_cons_succ, List.getElem?_cons_zero]; exact rfl
          · rfl
          · kernel_rfl
          · kernel_rfl
          · kernel_rfl
          · exact fun _ _ _ _ h => h
          apply Exists.intro
          apply And.intro
          · apply yr_run; rfl; intro w' hw'; go_simp; (try with_reducible rfl)
          simp only [Act.put, List.setIfInBounds_toArray, List.set_cons_zero, List.set_cons_succ]
          apply wpR_next 1 (some 50)
          · simp only [List.getElem?_toArray, List.getElem?_cons_succ, List.getElem?_cons_zero]; exact rfl
          · rfl
          · kernel_rfl
          · kernel_rfl
          · kernel_rfl
          · exact fun _ _ _ _ h => h
          apply Exists.intro
          apply And.intro
          · apply yr_run; rfl; intro w' hw'; go_simp; (try with_reducible rfl)
          simp only [Act.put, List.setIfInBounds_toArray, List.set_cons_zero, List.set_cons_succ]
          apply wpR_next 2 (some 51)
          · simp only [List.getElem?_toArray, List.getElem?_cons_succ, List.getElem?_cons_zero]; exact rfl
          · rfl
          · kernel_rfl
          · kernel_rfl
          · kernel_rfl
          · exact fun _ _ _ _ h => h
          apply Exists.intro
          apply And.intro
          · apply yr_run; rfl; intro w' hw'; go_simp; (try with_reducible rfl)
          simp only [Act.put, List.setIfInBounds_toArray, List.set_cons_zero, List.set_cons_succ]
          apply wpR_next 3 (some 52)
          · simp only [List.getElem?_toArray, List.getElem?_cons_succ, List.getElem?_cons_zero]; exact rfl
          · rfl
          · kernel_rfl
          · kernel_rfl
          · kernel_rfl
          · exact fun _ _ _ _ h => h
          apply Exists.intro
          apply And.intro
          · apply yr_run; rfl; intro w' hw'; go_simp; (try with_reducible rfl)
          simp only [Act.put, List.setIfInBounds_toArray, List.set_cons_zero, List.set_cons_succ]
          apply wpR_next 4 (some 53)
          · simp only [List.getElem?_toArray, List.getElem?_cons_succ, List.getElem?_cons_zero]; exact rfl
          · rfl
          · kernel_rfl
          · kernel_rfl
          · kernel_rfl
          · exact fun _ _ _ _ h => h
          apply Exists.intro
          apply And.intro
          · apply yr_run; rfl; intro w' hw'; go_simp; (try with_reducible rfl)
          simp only [Act.put, List.setIfInBounds_toArray, List.set_cons_zero, List.set_cons_succ]
          apply wpR_next 5 (some 54)
          · simp only [List.getElem?_toArray, List.getElem?_cons_succ, List.getElem?_cons_zero]; exact rfl
          · rfl
          · kernel_rfl
          · kernel_rfl
          · kernel_rfl
          · exact fun _ _ _ _ h => h
          apply Exists.intro
          apply And.intro
          · apply yr_run; rfl; intro w' hw'; go_simp; (try with_reducible rfl)
          simp only [Act.put, List.setIfInBounds_toArray, List.set_cons_zero, List.set_cons_succ]
          apply wpR_next 6 (some 55)
          · simp only [List.getElem?_toArray, List.getElem?_cons_succ, List.getElem?_cons_zero]; exact rfl
          · rfl
          · kernel_rfl
          · kernel_rfl
          · kernel_rfl
          · exact fun _ _ _ _ h => h
          apply Exists.intro
          apply And.intro
          · apply yr_run; rfl; intro w' hw'; go_simp; (try with_reducible rfl)
          simp only [Act.put, List.setIfInBounds_toArray, List.set_cons_zero, List.set_cons_succ]
          apply wpR_next 7 (some 56)
          · simp only [List.getElem?_toArray, List.getElem?_cons_succ, List.getElem?_cons_zero]; exact rfl
          · rfl
          · kernel_rfl
          · kernel_rfl
          · kernel_rfl
          · exact fun _ _ _ _ h => h
          apply Exists.intro
          apply And.intro
          · apply yr_run; rfl; intro w' hw'; go_simp; (try with_reducible rfl)
          simp only [Act.put, List.setIfInBounds_toArray, List.set_cons_zero, List.set_cons_succ]
          apply wpR_next 8 (some 57)
          · simp only [List.getElem?_toArray, List.getElem?_cons_succ, List.getElem?_cons_zero]; exact rfl
          · rfl
          · kernel_rfl
          · kernel_rfl
          · kernel_rfl
          · exact fun _ _ _ _ h => h
          apply Exists.intro
          apply And.intro
          · apply yr_run; rfl; intro w' hw'; go_simp; (try with_reducible rfl)
          simp only [Act.put, List.setIfInBounds_toArray, List.set_cons_zero, List.set_cons_succ]
          apply wpR_next 9 (some 58)
          · simp only [List.getElem?_toArray, List.getElem?_cons_succ, List.getElem?_cons_zero]; exact rfl
          · rfl
          · kernel_rfl
          · kernel_rfl
          · kernel_rfl
          · exact fun _ _ _ _ h => h
          apply Exists.intro
          apply And.intro
          · apply yr_run; rfl; intro w' hw'; go_simp; (try with_reducible rfl)
          simp only [Act.put, List.setIfInBounds_toArray, List.set_cons_zero, List.set_cons_succ]
          apply wpR_next 10 (some 59)
          · simp only [List.getElem?_toArray, List.getElem?_cons_succ, List.getElem?_cons_zero]; exact rfl
          · rfl
          · kernel_rfl
          · kernel_rfl
          · kernel_rfl
          · exact fun _ _ _ _ h => h
          apply Exists.intro
          apply And.intro
          · apply yr_call; rfl; rotate_left; intro w' hw'; exact HAk.out w' hw'; intro w'; go_simp
          simp only [Act.put, List.setIfInBounds_toArray, List.set_cons_zero, List.set_cons_succ]
          apply wpR_next 11 (some 48)
          · simp only [List.getElem?_toArray, List.getElem?_cons_succ, List.getElem?_cons_zero]; exact rfl
          · rfl
          · kernel_rfl
          · kernel_rfl
          · kernel_rfl
          · exact fun _ _ _ _ h => h
          apply Exists.intro
          apply And.intro
          · apply yr_run; rfl; intro w' hw'; go_simp; (try with_reducible rfl)
          simp only [Act.put, List.setIfInBounds_toArray, List.set_cons_zero, List.set_cons_succ]
          apply wpR_next 12 (some 60)
          · simp only [List.getElem?_toArray, List.getElem?_cons_succ, List.getElem?_cons_zero]; exact rfl
          · rfl
          · kernel_rfl
          · kernel_rfl
          · kernel_rfl
          · exact fun _ _ _ _ h => h
          apply Exists.intro
          apply And.intro
          · apply yr_run; rfl; intro w' hw'; go_simp; (try with_reducible rfl)
          simp only [Act.put, List.setIfInBounds_toArray, List.set_cons_zero, List.set_cons_succ]
          apply wpR_next 13 (some 61)
          · simp only [List.getElem?_toArray, List.getElem?_cons_succ, List.getElem?_cons_zero]; exact rfl
          · rfl
          · kernel_rfl
          · kernel_rfl
          · kernel_rfl
          · exact fun _ _ _ _ h => h
          apply Exists.intro
          apply And.intro
          · apply yr_run; rfl; intro w' hw'; go_simp; (try with_reducible rfl)
          simp only [Act.put, List.setIfInBounds_toArray, List.set_cons_zero, List.set_cons_succ]
          apply wpR_run 14 (some 9)
          · simp only [List.getElem?_toArray, List.getElem?_cons_succ, List.getElem?_cons_zero]; exact rfl
          · rfl
          · kernel_rfl
          · rfl
          intro w' hw'
          refine ⟨.pointer (some ⟨w'.heap.size, 0, none⟩), w'.alloc (.cells #[.int .i64 0, .int .i64 0] 34), ?_, Kept.of_below (below1 _ _), ?_⟩
          · go_simp
          have HK1 : RowKit.Hid (Kept (From_ B2) wi.drew (w'.alloc (.cells #[.int .i64 0, .int .i64 0] 34))) := Lib.hid ((Kept.of_ext hw').trans (Kept.of_below (below1 _ _)))
          have HW1 : RowKit.Hid (Whole (w'.alloc (.cells #[.int .i64 0, .int .i64 0] 34)) w'.heap.size 34 [.int .i64 0, .int .i64 0]) := Lib.hid (Whole.new_ _ _ [.int .i64 0, .int .i64 0])
          have HL1 : RowKit.Hid (B2 ≤ w'.heap.size) := Lib.hid (by have := hw'.size; have h2 : wi.drew.heap.size = wi.heap.size := rfl; have := HBw.out; omega)
          obtain ⟨W5, gW5⟩ : ∃ z, w'.alloc (.cells #[.int .i64 0, .int .i64 0] 34) = z := ⟨_, rfl⟩
          obtain ⟨g13, gg5⟩ : ∃ z, w'.heap.size = z := ⟨_, rfl⟩
          rw [gW5] at HK1 HW1 ⊢
          rw [gg5] at HW1 HL1 ⊢
          clear hw' gW5 gg5
          simp only [Act.put, List.setIfInBounds_toArray, List.set_cons_zero, List.set_cons_succ]
          apply wpR_store 15
          · simp only [List.getElem?_toArray, List.getElem?_cons_succ, List.getElem?_cons_zero]; exact rfl
          · rfl
          · kernel_rfl
          · rfl
          intro w' hw'
          refine ⟨w'.setRow g13 (idC (i1, i2)).toArray, store_row_run 34 (.tmp 9) (.tmp 60) rfl g13 rfl (idC (i1, i2)) rfl 34 [.int .i64 0, .int .i64 0] (HW1.out.bl hw') (by kernel_rfl) rfl (by simp [eC, vC, idC, Value.oneCell']), kept_row (show B2 ≤ g13 from HL1.out) _, ?_⟩
          have HK2 : RowKit.Hid (Kept (From_ B2) wi.drew (w'.setRow g13 (idC (i1, i2)).toArray)) := Lib.hid ((HK1.out.trans (Kept.of_ext hw')).trans (kept_row (show B2 ≤ g13 from HL1.out) _))
          have HX13 : RowKit.Hid (Whole (w'.setRow g13 (idC (i1, i2)).toArray) g13 34 (idC (i1, i2))) := Lib.hid (Whole.row (HW1.out.bl hw') (idC (i1, i2)))
          obtain ⟨W6, gW6⟩ : ∃ z, w'.setRow g13 (idC (i1, i2)).toArray = z := ⟨_, rfl⟩
          rw [gW6] at HK2 HX13 ⊢
          clear hw' gW6 HK1 HW1
          try simp only [Act.put, List.setIfInBounds_toArray, List.set_cons_zero, List.set_cons_succ]
          apply wpR_next 16 (some 10)
          · simp only [List.getElem?_toArray, List.getElem?_cons_succ, List.getElem?_cons_zero]; exact rfl
          · rfl
          · kernel_rfl
          · kernel_rfl
          · kernel_rfl
          · exact fun _ _ _ _ h => h
          apply Exists.intro
          apply And.intro
          · apply yr_run; rfl; intro w' hw'; go_simp; (try with_reducible rfl)
          simp only [Act.put, List.setIfInBounds_toArray, List.set_cons_zero, List.set_cons_succ]
          refine wpR_done (by kernel_rfl) ?_ _
          intro W7 hw7
          have hk7 := HK2.out.trans (Kept.of_ext hw7)
          have HXi := Lib.hid (HX13.out.bl hw7)
          have HE7 : RowKit.Hid (Below wi.heap.size wi W7) := Lib.hid (bel_kept (bel_dr (Below.refl _ wi)) (by rw [← HBw.out]; exact Nat.le_refl _) hk7)
          have HZ7 := Lib.hid (bel_bl HZ.out HE7.out)
          have HY7 := Lib.hid (HY.out.bl HE7.out)
          have HD7 := Lib.hid (HD.out.bl HE7.out)
          clear hw7 hk7 HK2 HL1 HZ HY HD HE7 ldb ldc lde ldf0 ldf1 ldf2 HAk HA1 HX13 HC1 HP1 hls HBw B2
          obtain ⟨g9, gg9⟩ : ∃ z, g13 = z := ⟨_, rfl⟩
          rw [gg9] at HXi ⊢
          clear gg9
          have cb := HY7.out.cell (i := 0) rfl
          go_upto_region 14 with fail
          clear cb
          obtain ⟨B2, gB2⟩ : ∃ z, W7.heap.size = z := ⟨_, rfl⟩
          have HBw := Lib.hid gB2
          have HC1 := Lib.hid (HQ.out _ HZ7.out)
          have HP1 := Lib.hid (HP.out _ HZ7.out)
          have hls : wo.heap.size ≤ W7.heap.size := HZ7.out.size
          have HEk : RowKit.Hid (∀ w', Kept (From_ B2) W7.drew w' → Calls Try.prog 20 #[.agg #[.slice (some ⟨bb, off, none⟩) na ca, .slice Ba ma ka], .agg #[.int .i64 d1, .int .i64 d2]] w' fun e w'' => e = .returned (.tuple #[.agg (eC ed).toArray, .bool true]) ∧ Below w'.heap.size w' w'') := Lib.hid (fun w' hk => HE1.out w' (HD7.out.dr.bl (by
            have h1 := bel_kept (Below.refl W7.drew.heap.size W7.drew) (by rw [← gB2]; exact Nat.le_refl _) hk
            exact h1)))
          clear gB2
          have ldb : ∀ w', Kept (From_ B2) W7.drew w' → w'.cell? ⟨b0, 0, none⟩ = some (.slice (some ⟨bb, off, none⟩) na ca) := fun w' h => h.from_cell (Nat.lt_of_lt_of_eq HY7.out.lt HBw.out) (HY7.out.dr.cell (i := 0) rfl)
          have ldc : ∀ w', Kept (From_ B2) W7.drew w' → w'.cell? ⟨b0, 1, none⟩ = some (.slice Ba ma ka) := fun w' h => h.from_cell (Nat.lt_of_lt_of_eq HY7.out.lt HBw.out) (HY7.out.dr.cell (i := 1) rfl)
          have lde : ∀ w', Kept (From_ B2) W7.drew w' → w'.cell? ⟨bb, off + j * 5 + 2, none⟩ = some (.slice (some ⟨rb, ro, none⟩) rn rc) := fun w' h => h.from_cell (Nat.lt_of_lt_of_eq (Nat.lt_of_lt_of_le HbB.out hls) HBw.out) (HC1.out.2.2)
          have ldf0 : ∀ w', Kept (From_ B2) W7.drew w' → w'.cell? ⟨rb, ro + q * 3, none⟩ = some (.int .i64 d1) := fun w' h => h.from_cell (Nat.lt_of_lt_of_eq (Nat.lt_of_lt_of_le HrB.out hls) HBw.out) (HP1.out.1)
          have ldf1 : ∀ w', Kept (From_ B2) W7.drew w' → w'.cell? ⟨rb, ro + q * 3 + 1, none⟩ = some (.int .i64 d2) := fun w' h => h.from_cell (Nat.lt_of_lt_of_eq (Nat.lt_of_lt_of_le HrB.out hls) HBw.out) (HP1.out.2.1)
          refine wp_region_reg (From_ B2) (by kernel_rfl) ?_
          apply wpR_next 0 (some 63)
          · simp only [List.getElem?_toArray, List.getElem?_cons_succ, List.getElem?_cons_zero]; exact rfl
          · rfl
          · kernel_rfl
          · kernel_rfl
          · kernel_rfl
          · exact fun _ _ _ _ h => h
          apply Exists.intro
          apply And.intro
          · apply yr_run; rfl; intro w' hw'; go_simp; (try with_reducible rfl)
          simp only [Act.put, List.setIfInBounds_toArray, List.set_cons_zero, List.set_cons_succ]
          apply wpR_next 1 (some 64)
          · simp only [List.getElem?_toArray, List.getElem?_cons_succ, List.getElem?_cons_zero]; exact rfl
          · rfl
          · kernel_rfl
          · kernel_rfl
          · kernel_rfl
          · exact fun _ _ _ _ h => h
          apply Exists.intro
          apply And.intro
          · apply yr_run; rfl; intro w' hw'; go_simp; (try with_reducible rfl)
          simp only [Act.put, List.setIfInBounds_toArray, List.set_cons_zero, List.set_cons_succ]
          apply wpR_next 2 (some 65)
          · simp only [List.getElem?_toArray, List.getElem?_cons_succ, List.getElem?_cons_zero]; exact rfl
          · rfl
          · kernel_rfl
          · kernel_rfl
          · kernel_rfl
          · exact fun _ _ _ _ h => h
          apply Exists.intro
          apply And.intro
          · apply yr_run; rfl; intro w' hw'; go_simp; (try with_reducible rfl)
          simp only [Act.put, List.setIfInBounds_toArray, List.set_cons_zero, List.set_cons_succ]
          apply wpR_next 3 (some 66)
          · simp only [List.getElem?_toArray, List.getElem?_cons_succ, List.getElem?_cons_zero]; exact rfl
          · rfl
          · kernel_rfl
          · kernel_rfl
          · kernel_rfl
          · exact fun _ _ _ _ h => h
          apply Exists.intro
          apply And.intro
          · apply yr_run; rfl; intro w' hw'; go_simp; (try with_reducible rfl)
          simp only [Act.put, List.setIfInBounds_toArray, List.set_cons_zero, List.set_cons_succ]
          apply wpR_next 4 (some 67)
          · simp only [List.getElem?_toArray, List.getElem?_cons_succ, List.getElem?_cons_zero]; exact rfl
          · rfl
          · kernel_rfl
          · kernel_rfl
          · kernel_rfl
          · exact fun _ _ _ _ h => h
          apply Exists.intro
          apply And.intro
          · apply yr_run; rfl; intro w' hw'; go_simp; (try with_reducible rfl)
          simp only [Act.put, List.setIfInBounds_toArray, List.set_cons_zero, List.set_cons_succ]
          apply wpR_next 5 (some 68)
          · simp only [List.getElem?_toArray, List.getElem?_cons_succ, List.getElem?_cons_zero]; exact rfl
          · rfl
          · kernel_rfl
          · kernel_rfl
          · kernel_rfl
          · exact fun _ _ _ _ h => h
          apply Exists.intro
          apply And.intro
          · apply yr_run; rfl; intro w' hw'; go_simp; (try with_reducible rfl)
          simp only [Act.put, List.setIfInBounds_toArray, List.set_cons_zero, List.set_cons_succ]
          apply wpR_next 6 (some 69)
          · simp only [List.getElem?_toArray, List.getElem?_cons_succ, List.getElem?_cons_zero]; exact rfl
          · rfl
          · kernel_rfl
          · kernel_rfl
          · kernel_rfl
          · exact fun _ _ _ _ h => h
          apply Exists.intro
          apply And.intro
          · apply yr_run; rfl; intro w' hw'; go_simp; (try with_reducible rfl)
          simp only [Act.put, List.setIfInBounds_toArray, List.set_cons_zero, List.set_cons_succ]
          apply wpR_next 7 (some 70)
          · simp only [List.getElem?_toArray, List.getElem?_cons_succ, List.getElem?_cons_zero]; exact rfl
          · rfl
          · kernel_rfl
          · kernel_rfl
          · kernel_rfl
          · exact fun _ _ _ _ h => h
          apply Exists.intro
          apply And.intro
          · apply yr_run; rfl; intro w' hw'; go_simp; (try with_reducible rfl)
          simp only [Act.put, List.setIfInBounds_toArray, List.set_cons_zero, List.set_cons_succ]
          apply wpR_next 8 (some 71)
          · simp only [List.getElem?_toArray, List.getElem?_cons_succ, List.getElem?_cons_zero]; exact rfl
          · rfl
          · kernel_rfl
          · kernel_rfl
          · kernel_rfl
          · exact fun _ _ _ _ h => h
          apply Exists.intro
          apply And.intro
          · apply yr_run; rfl; intro w' hw'; go_simp; (try with_reducible rfl)
          simp only [Act.put, List.setIfInBounds_toArray, List.set_cons_zero, List.set_cons_succ]
          apply wpR_next 9 (some 72)
          · simp only [List.getElem?_toArray, List.getElem?_cons_succ, List.getElem?_cons_zero]; exact rfl
          · rfl
          · kernel_rfl
          · kernel_rfl
          · kernel_rfl
          · exact fun _ _ _ _ h => h
          apply Exists.intro
          apply And.intro
          · apply yr_run; rfl; intro w' hw'; go_simp; (try with_reducible rfl)
          simp only [Act.put, List.setIfInBounds_toArray, List.set_cons_zero, List.set_cons_succ]
          apply wpR_next 10 (some 73)
          · simp only [List.getElem?_toArray, List.getElem?_cons_succ, List.getElem?_cons_zero]; exact rfl
          · rfl
          · kernel_rfl
          · kernel_rfl
          · kernel_rfl
          · exact fun _ _ _ _ h => h
          apply Exists.intro
          apply And.intro
          · apply yr_run; rfl; intro w' hw'; go_simp; (try with_reducible rfl)
          simp only [Act.put, List.setIfInBounds_toArray, List.set_cons_zero, List.set_cons_succ]
          apply wpR_next 11 (some 74)
          · simp only [List.getElem?_toArray, List.getElem?_cons_succ, List.getElem?_cons_zero]; exact rfl
          · rfl
          · kernel_rfl
          · kernel_rfl
          · kernel_rfl
          · exact fun _ _ _ _ h => h
          apply Exists.intro
          apply And.intro
          · apply yr_call; rfl; rotate_left; intro w' hw'; exact HEk.out w' hw'; intro w'; go_simp
          simp only [Act.put, List.setIfInBounds_toArray, List.set_cons_zero, List.set_cons_succ]
          apply wpR_next 12 (some 62)
          · simp only [List.getElem?_toArray, List.getElem?_cons_succ, List.getElem?_cons_zero]; exact rfl
          · rfl
          · kernel_rfl
          · kernel_rfl
          · kernel_rfl
          · exact fun _ _ _ _ h => h
          apply Exists.intro
          apply And.intro
          · apply yr_run; rfl; intro w' hw'; go_simp; (try with_reducible rfl)
          simp only [Act.put, List.setIfInBounds_toArray, List.set_cons_zero, List.set_cons_succ]
          apply wpR_next 13 (some 75)
          · simp only [List.getElem?_toArray, List.getElem?_cons_succ, List.getElem?_cons_zero]; exact rfl
          · rfl
          · kernel_rfl
          · kernel_rfl
          · kernel_rfl
          · exact fun _ _ _ _ h => h
          apply Exists.intro
          apply And.intro
          · apply yr_run; rfl; intro w' hw'; go_simp; (try with_reducible rfl)
          simp only [Act.put, List.setIfInBounds_toArray, List.set_cons_zero, List.set_cons_succ]
          apply wpR_next 14 (some 76)
          · simp only [List.getElem?_toArray, List.getElem?_cons_succ, List.getElem?_cons_zero]; exact rfl
          · rfl
          · kernel_rfl
          · kernel_rfl
          · kernel_rfl
          · exact fun _ _ _ _ h => h
          apply Exists.intro
          apply And.intro
          · apply yr_run; rfl; intro w' hw'; go_simp; (try with_reducible rfl)
          simp only [Act.put, List.setIfInBounds_toArray, List.set_cons_zero, List.set_cons_succ]
          apply wpR_run 15 (some 11)
          · simp only [List.getElem?_toArray, List.getElem?_cons_succ, List.getElem?_cons_zero]; exact rfl
          · rfl
          · kernel_rfl
          · rfl
          intro w' hw'
          refine ⟨.pointer (some ⟨w'.heap.size, 0, none⟩), w'.alloc (.cells #[.int .i64 0, .int .i64 0, .string { data := #[] }, .int .i64 0] 43), ?_, Kept.of_below (below1 _ _), ?_⟩
          · go_simp
          have HK1 : RowKit.Hid (Kept (From_ B2) W7.drew (w'.alloc (.cells #[.int .i64 0, .int .i64 0, .string { data := #[] }, .int .i64 0] 43))) := Lib.hid ((Kept.of_ext hw').trans (Kept.of_below (below1 _ _)))
          have HW1 : RowKit.Hid (Whole (w'.alloc (.cells #[.int .i64 0, .int .i64 0, .string { data := #[] }, .int .i64 0] 43)) w'.heap.size 43 [.int .i64 0, .int .i64 0, .string { data := #[] }, .int .i64 0]) := Lib.hid (Whole.new_ _ _ [.int .i64 0, .int .i64 0, .string { data := #[] }, .int .i64 0])
          have HL1 : RowKit.Hid (B2 ≤ w'.heap.size) := Lib.hid (by have := hw'.size; have h2 : W7.drew.heap.size = W7.heap.size := rfl; have := HBw.out; omega)
          obtain ⟨W5, gW5⟩ : ∃ z, w'.alloc (.cells #[.int .i64 0, .int .i64 0, .string { data := #[] }, .int .i64 0] 43) = z := ⟨_, rfl⟩
          obtain ⟨g14, gg5⟩ : ∃ z, w'.heap.size = z := ⟨_, rfl⟩
          rw [gW5] at HK1 HW1 ⊢
          rw [gg5] at HW1 HL1 ⊢
          clear hw' gW5 gg5
          simp only [Act.put, List.setIfInBounds_toArray, List.set_cons_zero, List.set_cons_succ]
          apply wpR_store 16
          · simp only [List.getElem?_toArray, List.getElem?_cons_succ, List.getElem?_cons_zero]; exact rfl
          · rfl
          · kernel_rfl
          · rfl
          intro w' hw'
          refine ⟨w'.setRow g14 (eC ed).toArray, store_row_run 43 (.tmp 11) (.tmp 75) rfl g14 rfl (eC ed) rfl 43 [.int .i64 0, .int .i64 0, .string { data := #[] }, .int .i64 0] (HW1.out.bl hw') (by kernel_rfl) rfl (by simp [eC, vC, idC, Value.oneCell']), kept_row (show B2 ≤ g14 from HL1.out) _, ?_⟩
          have HK2 : RowKit.Hid (Kept (From_ B2) W7.drew (w'.setRow g14 (eC ed).toArray)) := Lib.hid ((HK1.out.trans (Kept.of_ext hw')).trans (kept_row (show B2 ≤ g14 from HL1.out) _))
          have HX14 : RowKit.Hid (Whole (w'.setRow g14 (eC ed).toArray) g14 43 (eC ed)) := Lib.hid (Whole.row (HW1.out.bl hw') (eC ed))
          obtain ⟨W6, gW6⟩ : ∃ z, w'.setRow g14 (eC ed).toArray = z := ⟨_, rfl⟩
          rw [gW6] at HK2 HX14 ⊢
          clear hw' gW6 HK1 HW1
          try simp only [Act.put, List.setIfInBounds_toArray, List.set_cons_zero, List.set_cons_succ]
          apply wpR_next 17 (some 12)
          · simp only [List.getElem?_toArray, List.getElem?_cons_succ, List.getElem?_cons_zero]; exact rfl
          · rfl
          · kernel_rfl
          · kernel_rfl
          · kernel_rfl
          · exact fun _ _ _ _ h => h
          apply Exists.intro
          apply And.intro
          · apply yr_run; rfl; intro w' hw'; go_simp; (try with_reducible rfl)
          simp only [Act.put, List.setIfInBounds_toArray, List.set_cons_zero, List.set_cons_succ]
          refine wpR_done (by kernel_rfl) ?_ _
          intro W8 hw8
          have hk8 := HK2.out.trans (Kept.of_ext hw8)
          have HE8 : RowKit.Hid (Below W7.heap.size W7 W8) := Lib.hid (bel_kept (bel_dr (Below.refl _ W7)) (by rw [← HBw.out]; exact Nat.le_refl _) hk8)
          have HZ8 := Lib.hid (bel_bl HZ7.out HE8.out)
          have HY8 := Lib.hid (HY7.out.bl HE8.out)
          have HD8 := Lib.hid (HD7.out.bl HE8.out)
          have HX8 := Lib.hid (HXi.out.bl HE8.out)
          clear hw8 hk8 HK2 HL1 HZ7 HY7 HD7 HXi HE8 ldb ldc lde ldf0 ldf1 HEk HE1 HX14 HC1 HP1 hls HBw B2
          go_upto_region 15 with fail
          have ldb : ∀ w', Kept Nil_ W8.drew w' → w'.cell? ⟨b0, 0, none⟩ = some (.slice (some ⟨bb, off, none⟩) na ca) := fun w' h => h.nil_cell (HY8.out.dr.cell (i := 0) rfl)
          have lde : ∀ w', Kept Nil_ W8.drew w' → w'.cell? ⟨bb, off + j * 5, none⟩ = some (.int .i64 i1) := fun w' h => h.nil_cell (HQ.out _ (bel_dr HZ8.out)).1
          have ldf : ∀ w', Kept Nil_ W8.drew w' → w'.cell? ⟨bb, off + j * 5 + 1, none⟩ = some (.int .i64 i2) := fun w' h => h.nil_cell (HQ.out _ (bel_dr HZ8.out)).2.1
          have ldi0 : ∀ w', Kept Nil_ W8.drew w' → w'.cell? ⟨g9, 0, none⟩ = some (.int .i64 i1) := fun w' h => h.nil_cell (HX8.out.dr.cell (i := 0) rfl)
          have ldi1 : ∀ w', Kept Nil_ W8.drew w' → w'.cell? ⟨g9, 1, none⟩ = some (.int .i64 i2) := fun w' h => h.nil_cell (HX8.out.dr.cell (i := 1) rfl)
          refine wp_region_reg (Nil_) (by kernel_rfl) ?_
          apply wpR_next 0 (some 77)
          · simp only [List.getElem?_toArray, List.getElem?_cons_succ, List.getElem?_cons_zero]; exact rfl
          · rfl
          · kernel_rfl
          · kernel_rfl
          · kernel_rfl
          · exact fun _ _ _ _ h => h
          apply Exists.intro
          apply And.intro
          · apply yr_run; rfl; intro w' hw'; go_simp; (try with_reducible rfl)
          simp only [Act.put, List.setIfInBounds_toArray, List.set_cons_zero, List.set_cons_succ]
          apply wpR_next 1 (some 78)
          · simp only [List.getElem?_toArray, List.getElem?_cons_succ, List.getElem?_cons_zero]; exact rfl
          · rfl
          · kernel_rfl
          · kernel_rfl
          · kernel_rfl
          · exact fun _ _ _ _ h => h
          apply Exists.intro
          apply And.intro
          · apply yr_run; rfl; intro w' hw'; go_simp; (try with_reducible rfl)
          simp only [Act.put, List.setIfInBounds_toArray, List.set_cons_zero, List.set_cons_succ]
          apply wpR_next 2 (some 79)
          · simp only [List.getElem?_toArray, List.getElem?_cons_succ, List.getElem?_cons_zero]; exact rfl
          · rfl
          · kernel_rfl
          · kernel_rfl
          · kernel_rfl
          · exact fun _ _ _ _ h => h
          apply Exists.intro
          apply And.intro
          · apply yr_run; rfl; intro w' hw'; go_simp; (try with_reducible rfl)
          simp only [Act.put, List.setIfInBounds_toArray, List.set_cons_zero, List.set_cons_succ]
          apply wpR_next 3 (some 80)
          · simp only [List.getElem?_toArray, List.getElem?_cons_succ, List.getElem?_cons_zero]; exact rfl
          · rfl
          · kernel_rfl
          · kernel_rfl
          · kernel_rfl
          · exact fun _ _ _ _ h => h
          apply Exists.intro
          apply And.intro
          · apply yr_run; rfl; intro w' hw'; go_simp; (try with_reducible rfl)
          simp only [Act.put, List.setIfInBounds_toArray, List.set_cons_zero, List.set_cons_succ]
          apply wpR_next 4 (some 81)
          · simp only [List.getElem?_toArray, List.getElem?_cons_succ, List.getElem?_cons_zero]; exact rfl
          · rfl
          · kernel_rfl
          · kernel_rfl
          · kernel_rfl
          · exact fun _ _ _ _ h => h
          apply Exists.intro
          apply And.intro
          · apply yr_run; rfl; intro w' hw'; go_simp; (try with_reducible rfl)
          simp only [Act.put, List.setIfInBounds_toArray, List.set_cons_zero, List.set_cons_succ]
          apply wpR_next 5 (some 82)
          · simp only [List.getElem?_toArray, List.getElem?_cons_succ, List.getElem?_cons_zero]; exact rfl
          · rfl
          · kernel_rfl
          · kernel_rfl
          · kernel_rfl
          · exact fun _ _ _ _ h => h
          apply Exists.intro
          apply And.intro
          · apply yr_run; rfl; intro w' hw'; go_simp; (try with_reducible rfl)
          simp only [Act.put, List.setIfInBounds_toArray, List.set_cons_zero, List.set_cons_succ]
          apply wpR_next 6 (some 83)
          · simp only [List.getElem?_toArray, List.getElem?_cons_succ, List.getElem?_cons_zero]; exact rfl
          · rfl
          · kernel_rfl
          · kernel_rfl
          · kernel_rfl
          · exact fun _ _ _ _ h => h
          apply Exists.intro
          apply And.intro
          · apply yr_run; rfl; intro w' hw'; go_simp; (try with_reducible rfl)
          simp only [Act.put, List.setIfInBounds_toArray, List.set_cons_zero, List.set_cons_succ]
          apply wpR_next 7 (some 84)
          · simp only [List.getElem?_toArray, List.getElem?_cons_succ, List.getElem?_cons_zero]; exact rfl
          · rfl
          · kernel_rfl
          · kernel_rfl
          · kernel_rfl
          · exact fun _ _ _ _ h => h
          apply Exists.intro
          apply And.intro
          · apply yr_run; rfl; intro w' hw'; go_simp; (try with_reducible rfl)
          simp only [Act.put, List.setIfInBounds_toArray, List.set_cons_zero, List.set_cons_succ]
          apply wpR_next 8 (some 85)
          · simp only [List.getElem?_toArray, List.getElem?_cons_succ, List.getElem?_cons_zero]; exact rfl
          · rfl
          · kernel_rfl
          · kernel_rfl
          · kernel_rfl
          · exact fun _ _ _ _ h => h
          apply Exists.intro
          apply And.intro
          · apply yr_run; rfl; intro w' hw'; go_simp; (try with_reducible rfl)
          simp only [Act.put, List.setIfInBounds_toArray, List.set_cons_zero, List.set_cons_succ]
          apply wpR_next 9 (some 86)
          · simp only [List.getElem?_toArray, List.getElem?_cons_succ, List.getElem?_cons_zero]; exact rfl
          · rfl
          · kernel_rfl
          · kernel_rfl
          · kernel_rfl
          · exact fun _ _ _ _ h => h
          apply Exists.intro
          apply And.intro
          · apply yr_run; rfl; intro w' hw'; go_simp; (try with_reducible rfl)
          simp only [Act.put, List.setIfInBounds_toArray, List.set_cons_zero, List.set_cons_succ]
          apply wpR_next 10 (some 87)
          · simp only [List.getElem?_toArray, List.getElem?_cons_succ, List.getElem?_cons_zero]; exact rfl
          · rfl
          · kernel_rfl
          · kernel_rfl
          · kernel_rfl
          · exact fun _ _ _ _ h => h
          apply Exists.intro
          apply And.intro
          · apply yr_run; rfl; intro w' hw'; go_simp; (try with_reducible rfl)
          simp only [Act.put, List.setIfInBounds_toArray, List.set_cons_zero, List.set_cons_succ]
          apply wpR_next 11 (some 88)
          · simp only [List.getElem?_toArray, List.getElem?_cons_succ, List.getElem?_cons_zero]; exact rfl
          · rfl
          · kernel_rfl
          · kernel_rfl
          · kernel_rfl
          · exact fun _ _ _ _ h => h
          apply Exists.intro
          apply And.intro
          · apply yr_run; rfl; intro w' hw'; go_simp; (try with_reducible rfl)
          simp only [Act.put, List.setIfInBounds_toArray, List.set_cons_zero, List.set_cons_succ]
          apply wpR_next 12 (some 89)
          · simp only [List.getElem?_toArray, List.getElem?_cons_succ, List.getElem?_cons_zero]; exact rfl
          · rfl
          · kernel_rfl
          · kernel_rfl
          · kernel_rfl
          · exact fun _ _ _ _ h => h
          apply Exists.intro
          apply And.intro
          · apply yr_run; rfl; intro w' hw'; go_simp; (try with_reducible rfl)
          simp only [Act.put, List.setIfInBounds_toArray, List.set_cons_zero, List.set_cons_succ]
          apply wpR_next 13 (some 90)
          · simp only [List.getElem?_toArray, List.getElem?_cons_succ, List.getElem?_cons_zero]; exact rfl
          · rfl
          · kernel_rfl
          · kernel_rfl
          · kernel_rfl
          · exact fun _ _ _ _ h => h
          apply Exists.intro
          apply And.intro
          · apply yr_run; rfl; intro w' hw'; go_simp; (try with_reducible rfl)
          simp only [Act.put, List.setIfInBounds_toArray, List.set_cons_zero, List.set_cons_succ]
          apply wpR_next 14 (some 91)
          · simp only [List.getElem?_toArray, List.getElem?_cons_succ, List.getElem?_cons_zero]; exact rfl
          · rfl
          · kernel_rfl
          · kernel_rfl
          · kernel_rfl
          · exact fun _ _ _ _ h => h
          apply Exists.intro
          apply And.intro
          · apply yr_run; rfl; intro w' hw'; go_simp; (try with_reducible rfl)
          simp only [Act.put, List.setIfInBounds_toArray, List.set_cons_zero, List.set_cons_succ]
          apply wpR_next 15 (some 92)
          · simp only [List.getElem?_toArray, List.getElem?_cons_succ, List.getElem?_cons_zero]; exact rfl
          · rfl
          · kernel_rfl
          · kernel_rfl
          · kernel_rfl
          · exact fun _ _ _ _ h => h
          apply Exists.intro
          apply And.intro
          · apply yr_run; rfl; intro w' hw'; go_simp; (try with_reducible rfl)
          simp only [Act.put, List.setIfInBounds_toArray, List.set_cons_zero, List.set_cons_succ]
          refine wpR_done (by kernel_rfl) ?_ _
          intro W9 hw9
          have HZ9 := Lib.hid (bel_bl (bel_dr HZ8.out) hw9)
          have HY9 := Lib.hid (HY8.out.dr.bl hw9)
          have HD9 := Lib.hid (HD8.out.dr.bl hw9)
          clear hw9 ldb lde ldf ldi0 ldi1 HZ8 HY8 HD8 HX8
          go_wp2
          go_roundw
          case rel => exact ⟨q + 1, by omega, by go_num, HZ9, HY9, HD9⟩
          case measure => simp [intOf]; omega
        · obtain rfl : rn = q := by omega
          have HB9 := Lib.hid (bel_bl HB.out HZ.out)
          have HY9 : RowKit.Hid (Whole wi b0 25 [.slice Aa na ca, .slice Ba ma ka]) := Lib.hid (by rw [GA.out]; exact HY.out)
          have HG9 : RowKit.Hid ((ringsOf (Va.take (j + 1))).length = t + rn) := Lib.hid (by rw [HNx.out, HG.out, Hrl.out])
          clear HG HY
          go_wp2
          go_roundw
          case rel => exact ⟨j + 1, t + rn, by omega, by omega, by go_num, by first | rfl | go_num, HB9, HY9, HD, HG9⟩
          case measure => simp [intOf]; omega
    · obtain rfl : na = j := by omega
      have hT : t = 2 * ma := by
        have h1 := HG.out
        rw [List.take_of_length_le (by have := HLv.out; omega), HFm.out.len, HLe.out] at h1
        omega
      obtain ⟨N, gN⟩ : ∃ z, na + ma = z := ⟨_, rfl⟩
      have HNm2 := Lib.hid (gN ▸ HNm.out)
      have hNM : ((N : Int) != (na : Int) + (ma : Int)) = false := by
        rw [bne_eq_false_iff_eq]; omega
      have hNM2 : ((N : Int) == (na : Int) + (ma : Int)) = true := by
        rw [beq_iff_eq]; omega
      have hadd : IntKind.i64.wrap ((na : Int) + (ma : Int)) = (na : Int) + (ma : Int) := IntWalk.i64_in _ (by omega)
      have hTI : ((t : Int) != 2 * (ma : Int)) = false := by
        rw [bne_eq_false_iff_eq]; omega
      have hTI2 : ((t : Int) == 2 * (ma : Int)) = true := by
        rw [beq_iff_eq]; omega
      have hmul : IntKind.i64.wrap (2 * (ma : Int)) = 2 * (ma : Int) := IntWalk.i64_in _ (by omega)
      clear HG hT gN
      go_upto_region 17 with fail
      clear cb
      have ldb : ∀ w', Kept Nil_ wo.drew w' → w'.cell? ⟨b0, 0, none⟩ = some (.slice Aa na ca) := fun w' h => h.nil_cell (HX.out.dr.cell (i := 0) rfl)
      have ldc : ∀ w', Kept Nil_ wo.drew w' → w'.cell? ⟨b0, 1, none⟩ = some (.slice Ba ma ka) := fun w' h => h.nil_cell (HX.out.dr.cell (i := 1) rfl)
      refine wp_region_reg (Nil_) (by kernel_rfl) ?_
      apply wpR_next 0 (some 93)
      · simp only [List.getElem?_toArray, List.getElem?_cons_succ, List.getElem?_cons_zero]; exact rfl
      · rfl
      · kernel_rfl
      · kernel_rfl
      · kernel_rfl
      · exact fun _ _ _ _ h => h
      apply Exists.intro
      apply And.intro
      · apply yr_run; rfl; intro w' hw'; go_simp; (try with_reducible rfl)
      simp only [Act.put, List.setIfInBounds_toArray, List.set_cons_zero, List.set_cons_succ]
      apply wpR_next 1 (some 94)
      · simp only [List.getElem?_toArray, List.getElem?_cons_succ, List.getElem?_cons_zero]; exact rfl
      · rfl
      · kernel_rfl
      · kernel_rfl
      · kernel_rfl
      · exact fun _ _ _ _ h => h
      apply Exists.intro
      apply And.intro
      · apply yr_run; rfl; intro w' hw'; go_simp; (try with_reducible rfl)
      simp only [Act.put, List.setIfInBounds_toArray, List.set_cons_zero, List.set_cons_succ]
      apply wpR_next 2 (some 95)
      · simp only [List.getElem?_toArray, List.getElem?_cons_succ, List.getElem?_cons_zero]; exact rfl
      · rfl
      · kernel_rfl
      · kernel_rfl
      · kernel_rfl
      · exact fun _ _ _ _ h => h
      apply Exists.intro
      apply And.intro
      · apply yr_run; rfl; intro w' hw'; go_simp; (try with_reducible rfl)
      simp only [Act.put, List.setIfInBounds_toArray, List.set_cons_zero, List.set_cons_succ]
      apply wpR_next 3 (some 96)
      · simp only [List.getElem?_toArray, List.getElem?_cons_succ, List.getElem?_cons_zero]; exact rfl
      · rfl
      · kernel_rfl
      · kernel_rfl
      · kernel_rfl
      · exact fun _ _ _ _ h => h
      apply Exists.intro
      apply And.intro
      · apply yr_run; rfl; intro w' hw'; go_simp; (try with_reducible rfl)
      simp only [Act.put, List.setIfInBounds_toArray, List.set_cons_zero, List.set_cons_succ]
      apply wpR_next 4 (some 97)
      · simp only [List.getElem?_toArray, List.getElem?_cons_succ, List.getElem?_cons_zero]; exact rfl
      · rfl
      · kernel_rfl
      · kernel_rfl
      · kernel_rfl
      · exact fun _ _ _ _ h => h
      apply Exists.intro
      apply And.intro
      · apply yr_run; rfl; intro w' hw'; go_simp; (try with_reducible rfl)
      simp only [Act.put, List.setIfInBounds_toArray, List.set_cons_zero, List.set_cons_succ]
      apply wpR_next 5 (some 98)
      · simp only [List.getElem?_toArray, List.getElem?_cons_succ, List.getElem?_cons_zero]; exact rfl
      · rfl
      · kernel_rfl
      · kernel_rfl
      · kernel_rfl
      · exact fun _ _ _ _ h => h
      apply Exists.intro
      apply And.intro
      · apply yr_run; rfl; intro w' hw'; go_simp; (try with_reducible rfl)
      simp only [Act.put, List.setIfInBounds_toArray, List.set_cons_zero, List.set_cons_succ]
      apply wpR_next 6 (some 99)
      · simp only [List.getElem?_toArray, List.getElem?_cons_succ, List.getElem?_cons_zero]; exact rfl
      · rfl
      · kernel_rfl
      · kernel_rfl
      · kernel_rfl
      · exact fun _ _ _ _ h => h
      apply Exists.intro
      apply And.intro
      · apply yr_run; rfl; intro w' hw'; go_simp; (try with_reducible rfl)
      simp only [Act.put, List.setIfInBounds_toArray, List.set_cons_zero, List.set_cons_succ]
      apply wpR_next 7 (some 100)
      · simp only [List.getElem?_toArray, List.getElem?_cons_succ, List.getElem?_cons_zero]; exact rfl
      · rfl
      · kernel_rfl
      · kernel_rfl
      · kernel_rfl
      · exact fun _ _ _ _ h => h
      apply Exists.intro
      apply And.intro
      · apply yr_run; rfl; intro w' hw'; go_simp; (try with_reducible rfl)
      simp only [Act.put, List.setIfInBounds_toArray, List.set_cons_zero, List.set_cons_succ]
      apply wpR_next 10 (some 103)
      · simp only [List.getElem?_toArray, List.getElem?_cons_succ, List.getElem?_cons_zero]; exact rfl
      · rfl
      · kernel_rfl
      · kernel_rfl
      · kernel_rfl
      · exact fun _ _ _ _ h => h
      apply Exists.intro
      apply And.intro
      · apply yr_run; rfl; intro w' hw'; go_simp; (try with_reducible rfl)
      simp only [Act.put, List.setIfInBounds_toArray, List.set_cons_zero, List.set_cons_succ]
      apply wpR_next 11 (some 104)
      · simp only [List.getElem?_toArray, List.getElem?_cons_succ, List.getElem?_cons_zero]; exact rfl
      · rfl
      · kernel_rfl
      · kernel_rfl
      · kernel_rfl
      · exact fun _ _ _ _ h => h
      apply Exists.intro
      apply And.intro
      · apply yr_run; rfl; intro w' hw'; go_simp; (try with_reducible rfl)
      simp only [Act.put, List.setIfInBounds_toArray, List.set_cons_zero, List.set_cons_succ]
      apply wpR_next 12 (some 105)
      · simp only [List.getElem?_toArray, List.getElem?_cons_succ, List.getElem?_cons_zero]; exact rfl
      · rfl
      · kernel_rfl
      · kernel_rfl
      · kernel_rfl
      · exact fun _ _ _ _ h => h
      apply Exists.intro
      apply And.intro
      · apply yr_run; rfl; intro w' hw'; go_simp; (try with_reducible rfl)
      simp only [Act.put, List.setIfInBounds_toArray, List.set_cons_zero, List.set_cons_succ]
      apply wpR_next 13 (some 106)
      · simp only [List.getElem?_toArray, List.getElem?_cons_succ, List.getElem?_cons_zero]; exact rfl
      · rfl
      · kernel_rfl
      · kernel_rfl
      · kernel_rfl
      · exact fun _ _ _ _ h => h
      apply Exists.intro
      apply And.intro
      · apply yr_run; rfl; intro w' hw'; go_simp; (try with_reducible rfl)
      simp only [Act.put, List.setIfInBounds_toArray, List.set_cons_zero, List.set_cons_succ]
      apply wpR_next 14 (some 107)
      · simp only [List.getElem?_toArray, List.getElem?_cons_succ, List.getElem?_cons_zero]; exact rfl
      · rfl
      · kernel_rfl
      · kernel_rfl
      · kernel_rfl
      · exact fun _ _ _ _ h => h
      apply Exists.intro
      apply And.intro
      · apply yr_run; rfl; intro w' hw'; go_simp; (try with_reducible rfl)
      simp only [Act.put, List.setIfInBounds_toArray, List.set_cons_zero, List.set_cons_succ]
      apply wpR_next 15 (some 108)
      · simp only [List.getElem?_toArray, List.getElem?_cons_succ, List.getElem?_cons_zero]; exact rfl
      · rfl
      · kernel_rfl
      · kernel_rfl
      · kernel_rfl
      · exact fun _ _ _ _ h => h
      apply Exists.intro
      apply And.intro
      · apply yr_run; rfl; intro w' hw'; go_simp; (try with_reducible rfl)
      simp only [Act.put, List.setIfInBounds_toArray, List.set_cons_zero, List.set_cons_succ]
      apply wpR_next 16 (some 109)
      · simp only [List.getElem?_toArray, List.getElem?_cons_succ, List.getElem?_cons_zero]; exact rfl
      · rfl
      · kernel_rfl
      · kernel_rfl
      · kernel_rfl
      · exact fun _ _ _ _ h => h
      apply Exists.intro
      apply And.intro
      · apply yr_run; rfl; intro w' hw'; go_simp; (try with_reducible rfl)
      simp only [Act.put, List.setIfInBounds_toArray, List.set_cons_zero, List.set_cons_succ]
      apply wpR_call 8 (some 101)
      · simp only [List.getElem?_toArray, List.getElem?_cons_succ, List.getElem?_cons_zero]; exact rfl
      · rfl
      · kernel_rfl
      · rfl
      · intro w'; go_simp; first | done | exact ⟨rfl, rfl⟩ | with_reducible rfl
      intro w' hw'
      refine (HNm2.out w' (HD.out.dr.bl hw')).mono ?_
      rintro e w9 ⟨A9, c9, rfl, hb9⟩
      refine ⟨_, rfl, Kept.of_below hb9, ?_⟩
      have HBn := Lib.hid (bel_bl (bel_bl (bel_dr HB.out) hw') hb9)
      have HXn := Lib.hid ((HX.out.dr.bl hw').bl hb9)
      have HDn := Lib.hid ((HD.out.dr.bl hw').bl hb9)
      have ldb : ∀ w'', Kept Nil_ w9 w'' → w''.cell? ⟨b0, 0, none⟩ = some (.slice Aa na ca) := fun w'' h => h.nil_cell (HXn.out.cell (i := 0) rfl)
      have ldc : ∀ w'', Kept Nil_ w9 w'' → w''.cell? ⟨b0, 1, none⟩ = some (.slice Ba ma ka) := fun w'' h => h.nil_cell (HXn.out.cell (i := 1) rfl)
      obtain ⟨V9, gV9⟩ : ∃ z, w9 = z := ⟨_, rfl⟩
      rw [gV9] at HBn HXn HDn ldb ldc ⊢
      clear hw' hb9 gV9 HB HX HD
      simp only [Act.put, List.setIfInBounds_toArray, List.set_cons_zero, List.set_cons_succ]
      apply wpR_next 9 (some 102)
      · simp only [List.getElem?_toArray, List.getElem?_cons_succ, List.getElem?_cons_zero]; exact rfl
      · rfl
      · kernel_rfl
      · kernel_rfl
      · kernel_rfl
      · exact fun _ _ _ _ h => h
      apply Exists.intro
      apply And.intro
      · apply yr_run; rfl; intro w' hw'; go_simp; (try with_reducible rfl)
      simp only [Act.put, List.setIfInBounds_toArray, List.set_cons_zero, List.set_cons_succ]
      apply wpR_next 17 (some 110)
      · simp only [List.getElem?_toArray, List.getElem?_cons_succ, List.getElem?_cons_zero]; exact rfl
      · rfl
      · kernel_rfl
      · kernel_rfl
      · kernel_rfl
      · exact fun _ _ _ _ h => h
      apply Exists.intro
      apply And.intro
      · apply yr_run; rfl; intro w' hw'; go_simp; (try with_reducible rfl)
      simp only [Act.put, List.setIfInBounds_toArray, List.set_cons_zero, List.set_cons_succ]
      apply wpR_next 18 (some 111)
      · simp only [List.getElem?_toArray, List.getElem?_cons_succ, List.getElem?_cons_zero]; exact rfl
      · rfl
      · kernel_rfl
      · kernel_rfl
      · kernel_rfl
      · exact fun _ _ _ _ h => h
      apply Exists.intro
      apply And.intro
      · apply yr_run; rfl; intro w' hw'; go_simp; (try with_reducible rfl)
      simp only [Act.put, List.setIfInBounds_toArray, List.set_cons_zero, List.set_cons_succ]
      refine wpR_done (by kernel_rfl) ?_ _
      intro W3 hw3
      have HB3 := Lib.hid (bel_bl HBn.out hw3)
      have HX3 := Lib.hid (HXn.out.bl hw3)
      have HD3 := Lib.hid (HDn.out.bl hw3)
      clear hw3 HBn HXn HDn
      have cb := HX3.out.cell (i := 1) rfl
      by_cases hx0 : x < 0
      · go_wp2
        go_ret
        exact ⟨rfl, HB3.out⟩
      · obtain ⟨kx, rfl⟩ : ∃ kx : Nat, x = (kx : Int) := ⟨x.toNat, by omega⟩
        by_cases hxm : kx < ma
        · skip
          have hxI : ¬ ((ma : Int) ≤ (kx : Int)) := by omega
          have hxI2 : decide ((ma : Int) ≤ (kx : Int)) = false := decide_eq_false hxI
          obtain ⟨k1, gk1⟩ : ∃ z, kx + 1 = z := ⟨_, rfl⟩
          have s1 : IntKind.i64.wrap ((kx : Int) + 1) = (k1 : Int) := (IntWalk.i64_in _ (by omega)).trans (by omega)
          have HK1 : RowKit.Hid (k1 ≤ ma) := Lib.hid (by omega)
          have hka : ma ≤ ka := HD3.out.e.le
          have hka63 : ka ≤ 9223372036854775807 := by have := Fa.out.fresh.2.1; unfold maxLen at this; omega
          have hkx0 : ¬ ((kx : Int) < 0) := by omega
          have hkka : kx ≤ ka := by omega
          have hles := HFm.out.less (k := kx) (by have := HLe.out; omega)
          have hlne := less_ne (Es := Ea) (k := kx) (by have := HLe.out; omega)
          rw [gk1] at hles hlne
          obtain ⟨J, gJ⟩ : ∃ z, Ea.take kx ++ Ea.drop k1 = z := ⟨_, rfl⟩
          have HJ := Lib.hid gJ
          rw [gJ] at hles hlne
          obtain ⟨nJ, gnJ⟩ : ∃ z, kx + (ma - k1) = z := ⟨_, rfl⟩
          have HnJ := Lib.hid gnJ
          have hnJ50 : nJ ≤ 50 := by omega
          have HKm := Lib.hid hxm
          have hgj : GoodD Va J := ⟨Fa.out.good.v, fun e he => Fa.out.good.e e (by rw [← gJ] at he; rcases List.mem_append.1 he with he | he; exact List.mem_of_mem_take he; exact List.mem_of_mem_drop he), Fa.out.good.lv, fun e he => Fa.out.good.le e (by rw [← gJ] at he; rcases List.mem_append.1 he with he | he; exact List.mem_of_mem_take he; exact List.mem_of_mem_drop he)⟩
          have HFl := Lib.hid (fun A6 c6 W (h : DgIn W Aa na ca Va A6 nJ c6 J) => form_any Aa na ca Va A6 nJ c6 J W h HR30.out hgj.e hgj.v)
          rw [hles] at HFl
          have HSl := Lib.hid (fun A6 c6 W (h : DgIn W Aa na ca Va A6 nJ c6 J) (h2 : DgIn W Aa na ca Va Ba ma ka Ea) => same_any Aa na ca Va A6 nJ c6 J Aa na ca Va Ba ma ka Ea W h h2 hn30 (by omega))
          rw [decide_eq_false (fun h : Va.map vS = Va.map vS ∧ J = Ea => hlne h.2)] at HSl
          have HCl : RowKit.Hid (∀ W, DgIn W Aa na ca Va Ba ma ka Ea → Calls Try.prog 28 #[.agg #[.slice Aa na ca, .slice Ba ma ka]] W fun e w' => ∃ A2 c2 B2 k2 Wc, e = .returned (.agg #[.slice A2 na c2, .slice B2 ma k2]) ∧ DgIn w' A2 na c2 Wc B2 ma k2 Ea ∧ Wc.map vS = Va.map vS ∧ Below W.heap.size W w') := Lib.hid (fun W h => by
            refine (clone_any Aa na ca Va Ba ma ka Ea W h hn30 hm50 HR30.out).mono ?_
            rintro e w' ⟨A2, c2, B2, k2, Wc, rfl, hc, hs, hb⟩
            exact ⟨A2, c2, B2, k2, Wc, rfl, hc.dg, hs, hb⟩)
          have HS1 : RowKit.Hid (∀ A2 c2 B2 k2 Wc W, DgIn W A2 na c2 Wc B2 ma k2 Ea → DgIn W Aa na ca Va Ba ma ka Ea → Wc.map vS = Va.map vS → Calls Try.prog 29 #[.agg #[.slice A2 na c2, .slice B2 ma k2], .agg #[.slice Aa na ca, .slice Ba ma ka]] W fun e w' => e = .returned (.bool true) ∧ Below W.heap.size W w') := Lib.hid (fun A2 c2 B2 k2 Wc W h1 h2 hs => by
            have h3 := same_any A2 na c2 Wc B2 ma k2 Ea Aa na ca Va Ba ma ka Ea W h1 h2 hn30 hm50
            rwa [decide_eq_true ⟨hs, rfl⟩] at h3)
          clear hles hlne hgj gJ gnJ gk1
          go_upto_region 21 with fail
          clear cb
          refine wp_behind2 (fun a a' w' => ∃ (A6 : Option Addr) (c6 g6 : Nat) (u122 u123 u124 u125 u126 u127 u128 u129 u130 u131 u132 u133 u134 u135 u136 : Value), a' = ((((((((((((((((a.put (some 122) u122).put (some 123) u123).put (some 124) u124).put (some 125) u125).put (some 126) u126).put (some 127) u127).put (some 128) u128).put (some 129) u129).put (some 130) u130).put (some 131) u131).put (some 132) u132).put (some 133) u133).put (some 134) u134).put (some 135) u135).put (some 136) u136).put (some 13) (.pointer (some ⟨g6, 0, none⟩))) ∧ RowKit.Hid (Ext W3 w' ∧ w.heap.size ≤ g6 ∧ Whole w' g6 25 [.slice Aa na ca, .slice A6 nJ c6] ∧ RdS w' w'.heap.size 4 A6 nJ c6 (rowsV eC J))) ?_ ?_
          · skip
            have Da_901 := Lib.hid (HD3.out.dr)
            have D0_901 := Lib.hid (HX3.out.dr)
            have Bel_901 := Lib.hid (bel_dr HB3.out)
            have EX0 : RowKit.Hid (Ext W3.drew W3.drew) := Lib.hid (Ext.refl _)
            obtain ⟨B0, hB0⟩ : ∃ x, W3.drew.heap.size = x := ⟨_, rfl⟩
            have HB0 := Lib.hid hB0
            clear hB0
            have ldt0 : ∀ w', Kept (From_ B0) W3.drew w' → w'.cell? ⟨b0, 0, none⟩ = some (.slice Aa na ca) := fun w' h => h.from_cell (Nat.lt_of_lt_of_eq (D0_901.out.lt) HB0.out) (D0_901.out.cell (i := 0) rfl)
            have ldt1 : ∀ w', Kept (From_ B0) W3.drew w' → w'.cell? ⟨b0, 1, none⟩ = some (.slice Ba ma ka) := fun w' h => h.from_cell (Nat.lt_of_lt_of_eq (D0_901.out.lt) HB0.out) (D0_901.out.cell (i := 1) rfl)
            refine wp_region_reg (From_ B0) (by kernel_rfl) ?_
            apply wpR_next 0 (some 122)
            · simp only [List.getElem?_toArray, List.getElem?_cons_succ, List.getElem?_cons_zero]; exact rfl
            · rfl
            · kernel_rfl
            · kernel_rfl
            · kernel_rfl
            · first | exact fun _ _ _ _ h => Exit.noConfusion h.1 | exact fun _ _ _ _ h => h
            apply Exists.intro
            apply And.intro
            · apply yr_run; rfl; intro w' hw'; go_simp; (try with_reducible rfl)
            simp only [Act.put, List.setIfInBounds_toArray, List.set_cons_zero, List.set_cons_succ]
            apply wpR_next 1 (some 123)
            · simp only [List.getElem?_toArray, List.getElem?_cons_succ, List.getElem?_cons_zero]; exact rfl
            · rfl
            · kernel_rfl
            · kernel_rfl
            · kernel_rfl
            · first | exact fun _ _ _ _ h => Exit.noConfusion h.1 | exact fun _ _ _ _ h => h
            apply Exists.intro
            apply And.intro
            · apply yr_run; rfl; intro w' hw'; go_simp; (try with_reducible rfl)
            simp only [Act.put, List.setIfInBounds_toArray, List.set_cons_zero, List.set_cons_succ]
            apply wpR_next 3 (some 125)
            · simp only [List.getElem?_toArray, List.getElem?_cons_succ, List.getElem?_cons_zero]; exact rfl
            · rfl
            · kernel_rfl
            · kernel_rfl
            · kernel_rfl
            · first | exact fun _ _ _ _ h => Exit.noConfusion h.1 | exact fun _ _ _ _ h => h
            apply Exists.intro
            apply And.intro
            · apply yr_run; rfl; intro w' hw'; go_simp; (try with_reducible rfl)
            simp only [Act.put, List.setIfInBounds_toArray, List.set_cons_zero, List.set_cons_succ]
            apply wpR_next 4 (some 126)
            · simp only [List.getElem?_toArray, List.getElem?_cons_succ, List.getElem?_cons_zero]; exact rfl
            · rfl
            · kernel_rfl
            · kernel_rfl
            · kernel_rfl
            · first | exact fun _ _ _ _ h => Exit.noConfusion h.1 | exact fun _ _ _ _ h => h
            apply Exists.intro
            apply And.intro
            · apply yr_run; rfl; intro w' hw'; go_simp; (try with_reducible rfl)
            simp only [Act.put, List.setIfInBounds_toArray, List.set_cons_zero, List.set_cons_succ]
            apply wpR_next 5 (some 127)
            · simp only [List.getElem?_toArray, List.getElem?_cons_succ, List.getElem?_cons_zero]; exact rfl
            · rfl
            · kernel_rfl
            · kernel_rfl
            · kernel_rfl
            · first | exact fun _ _ _ _ h => Exit.noConfusion h.1 | exact fun _ _ _ _ h => h
            apply Exists.intro
            apply And.intro
            · apply yr_run; rfl; intro w' hw'; go_simp; (try with_reducible rfl)
            simp only [Act.put, List.setIfInBounds_toArray, List.set_cons_zero, List.set_cons_succ]
            apply wpR_next 6 (some 128)
            · simp only [List.getElem?_toArray, List.getElem?_cons_succ, List.getElem?_cons_zero]; exact rfl
            · rfl
            · kernel_rfl
            · kernel_rfl
            · kernel_rfl
            · first | exact fun _ _ _ _ h => Exit.noConfusion h.1 | exact fun _ _ _ _ h => h
            apply Exists.intro
            apply And.intro
            · apply yr_run; rfl; intro w' hw'; go_simp; (try with_reducible rfl)
            simp only [Act.put, List.setIfInBounds_toArray, List.set_cons_zero, List.set_cons_succ]
            apply wpR_next 8 (some 130)
            · simp only [List.getElem?_toArray, List.getElem?_cons_succ, List.getElem?_cons_zero]; exact rfl
            · rfl
            · kernel_rfl
            · kernel_rfl
            · kernel_rfl
            · first | exact fun _ _ _ _ h => Exit.noConfusion h.1 | exact fun _ _ _ _ h => h
            apply Exists.intro
            apply And.intro
            · apply yr_run; rfl; intro w' hw'; go_simp; (try with_reducible rfl)
            simp only [Act.put, List.setIfInBounds_toArray, List.set_cons_zero, List.set_cons_succ]
            apply wpR_next 9 (some 131)
            · simp only [List.getElem?_toArray, List.getElem?_cons_succ, List.getElem?_cons_zero]; exact rfl
            · rfl
            · kernel_rfl
            · kernel_rfl
            · kernel_rfl
            · first | exact fun _ _ _ _ h => Exit.noConfusion h.1 | exact fun _ _ _ _ h => h
            apply Exists.intro
            apply And.intro
            · apply yr_run; rfl; intro w' hw'; go_simp; (try with_reducible rfl)
            simp only [Act.put, List.setIfInBounds_toArray, List.set_cons_zero, List.set_cons_succ]
            apply wpR_next 10 (some 132)
            · simp only [List.getElem?_toArray, List.getElem?_cons_succ, List.getElem?_cons_zero]; exact rfl
            · rfl
            · kernel_rfl
            · kernel_rfl
            · kernel_rfl
            · first | exact fun _ _ _ _ h => Exit.noConfusion h.1 | exact fun _ _ _ _ h => h
            apply Exists.intro
            apply And.intro
            · apply yr_run; rfl; intro w' hw'; go_simp; (try with_reducible rfl)
            simp only [Act.put, List.setIfInBounds_toArray, List.set_cons_zero, List.set_cons_succ]
            apply wpR_next 11 (some 133)
            · simp only [List.getElem?_toArray, List.getElem?_cons_succ, List.getElem?_cons_zero]; exact rfl
            · rfl
            · kernel_rfl
            · kernel_rfl
            · kernel_rfl
            · first | exact fun _ _ _ _ h => Exit.noConfusion h.1 | exact fun _ _ _ _ h => h
            apply Exists.intro
            apply And.intro
            · apply yr_run; rfl; intro w' hw'; go_simp; (try with_reducible rfl)
            simp only [Act.put, List.setIfInBounds_toArray, List.set_cons_zero, List.set_cons_succ]
            apply wpR_next 12 (some 134)
            · simp only [List.getElem?_toArray, List.getElem?_cons_succ, List.getElem?_cons_zero]; exact rfl
            · rfl
            · kernel_rfl
            · kernel_rfl
            · kernel_rfl
            · first | exact fun _ _ _ _ h => Exit.noConfusion h.1 | exact fun _ _ _ _ h => h
            apply Exists.intro
            apply And.intro
            · exact yr_run (by rfl) (fun w' h => exec_slice_low_as 23 43 (.tmp 131) (.tmp 133) rfl Try.underlying23 (s := 4) (by kernel_rfl) rfl rfl HK1.out rfl rfl rfl)
            simp only [Act.put, List.setIfInBounds_toArray, List.set_cons_zero, List.set_cons_succ]
            refine wpR_two 2 15 (by kernel_rfl) ?_ ?_
            · apply at_run 2 (some 124)
              · simp only [List.getElem?_toArray, List.getElem?_cons_succ, List.getElem?_cons_zero]; exact rfl
              · rfl
              · rfl
              intro w' hw'
              have E_1_2 := Lib.hid (Ext.trans EX0.out (hw'))
              refine ⟨.slice (some ⟨w'.heap.size, 0, none⟩) 0 0, w'.alloc (.cells #[] 43), ?_, Kept.of_below (below1 _ _), ?_⟩
              · go_simp
              have RR_n1_1 : RowKit.Hid (Ow W3.drew B0 43 4 (.slice (some ⟨w'.heap.size, 0, none⟩) 0 0) 0 [] (w'.alloc (.cells #[] 43))) := Lib.hid (Ow.new_ (e := 43) (size := 4) (cs := #[]) E_1_2.out (Nat.le_of_eq HB0.out) (by have h1 := E_1_2.out.size; have h2 := HB0.out; omega) (n := 0) (Nat.zero_le _) rfl)
              have E_1_3 := Lib.hid (Ext.trans E_1_2.out (below1 w' (.cells #[] 43)))
              have hkk : Kept (From_ B0) W3.drew (w'.alloc (.cells #[] 43)) := (Kept.of_ext hw').trans (Kept.of_below (below1 _ _))
              obtain ⟨v1_4, gv1_4⟩ : ∃ x, w'.alloc (.cells #[] 43) = x := ⟨_, rfl⟩
              rw [gv1_4] at RR_n1_1 E_1_3 hkk ⊢
              have ldt1_5 := fun w'' (h : Kept (From_ B0) v1_4 w'') => ldt0 w'' (hkk.trans h)
              have ldt1_6 := fun w'' (h : Kept (From_ B0) v1_4 w'') => ldt1 w'' (hkk.trans h)
              clear ldt0 ldt1
              clear gv1_4 hkk
              obtain ⟨g1_1, gg1_1⟩ : ∃ x, w'.heap.size = x := ⟨_, rfl⟩
              rw [gg1_1] at RR_n1_1  ⊢
              clear gg1_1 hw'
              try simp only [Act.put, List.setIfInBounds_toArray, List.set_cons_zero, List.set_cons_succ]
              refine wpR_two 7 15 (by kernel_rfl) ?_ ?_
              · apply at_run 7 (some 129)
                · simp only [List.getElem?_toArray, List.getElem?_cons_succ, List.getElem?_cons_zero]; exact rfl
                · rfl
                · rfl
                intro w' hw'
                have RR_2_8 := Lib.hid (Ow.up RR_n1_1.out (hw'))
                have E_2_8 := Lib.hid (Ext.trans E_1_3.out (hw'))
                obtain ⟨vv, w'', hrun, ho, hb, hg, hbk⟩ := Ow.app2 (P := Try.prog) 23 23 43 i0 _ 4 40 _ Try.underlying23 hi hz0 hz1 hz2 rfl (by decide) _ _ _ RR_2_8.out _ _ _ _ _ ((by have h1 := ((Da_901.out.bl E_2_8.out)).e.take_ kx (Nat.le_of_lt HKm.out); rwa [← rowsV_take eC eC_len] at h1)) (rowsV_one eC eC_one _) (by have := HKm.out; unfold maxLen; omega) (by have := HKm.out; omega)
                refine ⟨vv, w'', exec_append (by rfl) (by rfl) (by rfl) hrun, Kept.of_from hb, ?_⟩
                have E_2_7 : RowKit.Hid (Ext W3.drew w'') := Lib.hid ho.below
                have hkk : Kept (From_ B0) v1_4 w'' := (Kept.of_ext hw').trans (Kept.of_from hb)
                obtain ⟨AA2_7, cc2_7, rfl, hrr⟩ := ho.rds
                have RR_2_7 := Lib.hid ho
                clear hrr
                obtain ⟨z2_7, gz2_7⟩ : ∃ x, w'' = x := ⟨_, rfl⟩
                rw [gz2_7] at RR_2_7 E_2_7 hkk ⊢
                have ldt2_9 := fun w'' (h : Kept (From_ B0) z2_7 w'') => ldt1_5 w'' (hkk.trans h)
                have ldt2_10 := fun w'' (h : Kept (From_ B0) z2_7 w'') => ldt1_6 w'' (hkk.trans h)
                clear ldt1_5 ldt1_6
                clear hkk hrun ho hb hg hbk gz2_7 hw'
                try simp only [Act.put, List.setIfInBounds_toArray, List.set_cons_zero, List.set_cons_succ]
                refine wpR_two 13 15 (by kernel_rfl) ?_ ?_
                · apply at_run 13 (some 135)
                  · simp only [List.getElem?_toArray, List.getElem?_cons_succ, List.getElem?_cons_zero]; exact rfl
                  · rfl
                  · rfl
                  intro w' hw'
                  have RR_3_12 := Lib.hid (Ow.up RR_2_7.out (hw'))
                  have E_3_12 := Lib.hid (Ext.trans E_2_7.out (hw'))
                  obtain ⟨vv, w'', hrun, ho, hb, hg, hbk⟩ := Ow.app2 (P := Try.prog) 23 23 43 i0 _ 4 40 _ Try.underlying23 hi hz0 hz1 hz2 rfl (by decide) _ _ _ RR_3_12.out _ _ _ _ _ ((by have h1 := ((Da_901.out.bl E_3_12.out)).e.low_ (k := k1) HK1.out; rwa [← rowsV_drop eC eC_len] at h1)) (rowsV_one eC eC_one _) (by have := HKm.out; unfold maxLen; omega) (by have := HKm.out; omega)
                  refine ⟨vv, w'', exec_append (by rfl) (by rfl) (by rfl) hrun, Kept.of_from hb, ?_⟩
                  have E_3_11 : RowKit.Hid (Ext W3.drew w'') := Lib.hid ho.below
                  have hkk : Kept (From_ B0) z2_7 w'' := (Kept.of_ext hw').trans (Kept.of_from hb)
                  obtain ⟨AA3_11, cc3_11, rfl, hrr⟩ := ho.rds
                  have RR_3_11 := Lib.hid ho
                  clear hrr
                  obtain ⟨z3_11, gz3_11⟩ : ∃ x, w'' = x := ⟨_, rfl⟩
                  rw [gz3_11] at RR_3_11 E_3_11 hkk ⊢
                  have ldt3_13 := fun w'' (h : Kept (From_ B0) z3_11 w'') => ldt2_9 w'' (hkk.trans h)
                  have ldt3_14 := fun w'' (h : Kept (From_ B0) z3_11 w'') => ldt2_10 w'' (hkk.trans h)
                  clear ldt2_9 ldt2_10
                  clear hkk hrun ho hb hg hbk gz3_11 hw'
                  try simp only [Act.put, List.setIfInBounds_toArray, List.set_cons_zero, List.set_cons_succ]
                  apply wpR_next 14 (some 136)
                  · simp only [List.getElem?_toArray, List.getElem?_cons_succ, List.getElem?_cons_zero]; exact rfl
                  · rfl
                  · kernel_rfl
                  · kernel_rfl
                  · kernel_rfl
                  · first | exact fun _ _ _ _ h => Exit.noConfusion h.1 | exact fun _ _ _ _ h => h
                  apply Exists.intro
                  apply And.intro
                  · apply yr_run; rfl; intro w' hw'; go_simp; (try with_reducible rfl)
                  simp only [Act.put, List.setIfInBounds_toArray, List.set_cons_zero, List.set_cons_succ]
                  refine wpR_one 15 (by kernel_rfl) ?_
                  apply at_run 15 (some 13)
                  · simp only [List.getElem?_toArray, List.getElem?_cons_succ, List.getElem?_cons_zero]; exact rfl
                  · rfl
                  · rfl
                  intro w' hw'
                  have RR_3_16 := Lib.hid (Ow.up RR_3_11.out (hw'))
                  have E_3_16 := Lib.hid (Ext.trans E_3_11.out (hw'))
                  refine ⟨.pointer (some ⟨w'.heap.size, 0, none⟩), w'.alloc (.cells #[.slice none 0 0, .slice none 0 0] 25), ?_, Kept.of_below (below1 _ _), ?_⟩
                  · go_simp
                  have NE_R_V_3_15 : RowKit.Hid (some w'.heap.size ≠ _) := Lib.hid (Ow.ne_ RR_3_16.out (Nat.le_refl _))
                  have LOv3_15 : RowKit.Hid (W3.drew.heap.size ≤ w'.heap.size) := Lib.hid E_3_16.out.size
                  have RR_3_17 := Lib.hid (Ow.up RR_3_16.out (below1 w' (.cells #[.slice none 0 0, .slice none 0 0] 25)))
                  have E_3_17 := Lib.hid (Ext.trans E_3_16.out (below1 w' (.cells #[.slice none 0 0, .slice none 0 0] 25)))
                  have XV_n3_15 : RowKit.Hid (Whole (w'.alloc (.cells #[.slice none 0 0, .slice none 0 0] 25)) w'.heap.size 25 [.slice none 0 0, .slice none 0 0]) := Lib.hid (Whole.new_ _ _ [.slice none 0 0, .slice none 0 0])
                  have hkk : Kept (From_ B0) z3_11 (w'.alloc (.cells #[.slice none 0 0, .slice none 0 0] 25)) := (Kept.of_ext hw').trans (Kept.of_below (below1 _ _))
                  obtain ⟨v3_18, gv3_18⟩ : ∃ x, w'.alloc (.cells #[.slice none 0 0, .slice none 0 0] 25) = x := ⟨_, rfl⟩
                  rw [gv3_18] at RR_3_17 XV_n3_15 E_3_17 hkk ⊢
                  have ldt3_19 := fun w'' (h : Kept (From_ B0) v3_18 w'') => ldt3_13 w'' (hkk.trans h)
                  have ldt3_20 := fun w'' (h : Kept (From_ B0) v3_18 w'') => ldt3_14 w'' (hkk.trans h)
                  clear ldt3_13 ldt3_14
                  clear gv3_18 hkk
                  obtain ⟨g3_15, gg3_15⟩ : ∃ x, w'.heap.size = x := ⟨_, rfl⟩
                  rw [gg3_15] at XV_n3_15 LOv3_15 NE_R_V_3_15 ⊢
                  clear gg3_15 hw'
                  try simp only [Act.put, List.setIfInBounds_toArray, List.set_cons_zero, List.set_cons_succ]
                  refine wpR_one 16 (by kernel_rfl) ?_
                  apply at_store 16
                  · simp only [List.getElem?_toArray, List.getElem?_cons_succ, List.getElem?_cons_zero]; exact rfl
                  · rfl
                  · rfl
                  intro w' hw'
                  have RR_3_22 := Lib.hid (Ow.up RR_3_17.out (hw'))
                  have XV_3_22 := Lib.hid (Whole.below XV_n3_15.out (hw'))
                  have E_3_22 := Lib.hid (Ext.trans E_3_17.out (hw'))
                  refine ⟨w'.setRow g3_15 #[.slice Aa na ca, .slice AA3_11 (kx + (ma - k1)) cc3_11], store_row_run 25 (.tmp 13) (.tmp 136) rfl g3_15 rfl [.slice Aa na ca, .slice AA3_11 (kx + (ma - k1)) cc3_11] rfl 25 [.slice none 0 0, .slice none 0 0] XV_3_22.out (by kernel_rfl) rfl (by simp [Value.oneCell']), kept_row (show B0 ≤ g3_15 by have h1 := LOv3_15.out; have h2 := HB0.out; omega) _, ?_⟩
                  have HFRR : RowKit.Hid (∀ a, AA3_11 = some a → B0 ≤ a.block) := Lib.hid (fun a ha => by subst ha; exact (RR_3_22.out.own.lt a.block rfl).1)
                  obtain ⟨A_, c_, hv_, hr_⟩ := Ow.rds_row RR_3_22.out NE_R_V_3_15.out #[.slice Aa na ca, .slice AA3_11 (kx + (ma - k1)) cc3_11]
                  obtain ⟨rfl, -, rfl⟩ : AA3_11 = A_ ∧ _ = _ ∧ cc3_11 = c_ := by injection hv_ with a1 a2 a3; exact ⟨a1, a2, a3⟩
                  have UR_r3_21 := Lib.hid hr_
                  clear hr_ hv_
                  have E_r3_21 := Lib.hid (below_row E_3_22.out LOv3_15.out #[.slice Aa na ca, .slice AA3_11 (kx + (ma - k1)) cc3_11])
                  have XV_r3_21 : RowKit.Hid (Whole (w'.setRow g3_15 #[.slice Aa na ca, .slice AA3_11 (kx + (ma - k1)) cc3_11]) g3_15 25 [.slice Aa na ca, .slice AA3_11 (kx + (ma - k1)) cc3_11]) := Lib.hid (Whole.row XV_3_22.out [.slice Aa na ca, .slice AA3_11 (kx + (ma - k1)) cc3_11])
                  have hkk : Kept (From_ B0) v3_18 (w'.setRow g3_15 #[.slice Aa na ca, .slice AA3_11 (kx + (ma - k1)) cc3_11]) := (Kept.of_ext hw').trans (kept_row (show B0 ≤ g3_15 by have h1 := LOv3_15.out; have h2 := HB0.out; omega) _)
                  obtain ⟨v3_23, gv3_23⟩ : ∃ x, w'.setRow g3_15 #[.slice Aa na ca, .slice AA3_11 (kx + (ma - k1)) cc3_11] = x := ⟨_, rfl⟩
                  rw [gv3_23] at XV_r3_21 UR_r3_21 E_r3_21 hkk ⊢
                  have ldt3_24 := fun w'' (h : Kept (From_ B0) v3_23 w'') => ldt3_19 w'' (hkk.trans h)
                  have ldt3_25 := fun w'' (h : Kept (From_ B0) v3_23 w'') => ldt3_20 w'' (hkk.trans h)
                  clear ldt3_19 ldt3_20
                  clear gv3_23 hkk
                  clear hw'
                  try simp only [Act.put, List.setIfInBounds_toArray, List.set_cons_zero, List.set_cons_succ]
                  refine wpR_done (by kernel_rfl) ?_ _
                  intro wE hwE
                  have hn6 := HnJ.out
                  have hx6 := (XV_r3_21.out).bl hwE
                  have hy6 := (UR_r3_21.out).bl hwE
                  rw [hn6] at hx6
                  rw [Nat.zero_add, hn6, List.nil_append, ← rowsV_app, HJ.out] at hy6
                  refine ⟨rfl, AA3_11, cc3_11, g3_15, _, _, _, _, _, _, _, _, _, _, _, _, _, _, _, rfl, Lib.hid ⟨?_, ?_, hx6, hy6⟩⟩
                  · exact Ext.trans ((Below.refl _ _).drew) (Ext.trans E_r3_21.out hwE)
                  · exact Nat.le_trans Bel_901.out.size LOv3_15.out
                · apply at_run 15 (some 13)
                  · simp only [List.getElem?_toArray, List.getElem?_cons_succ, List.getElem?_cons_zero]; exact rfl
                  · rfl
                  · rfl
                  intro w' hw'
                  have RR_4_27 := Lib.hid (Ow.up RR_2_7.out (hw'))
                  have E_4_27 := Lib.hid (Ext.trans E_2_7.out (hw'))
                  refine ⟨.pointer (some ⟨w'.heap.size, 0, none⟩), w'.alloc (.cells #[.slice none 0 0, .slice none 0 0] 25), ?_, Kept.of_below (below1 _ _), ?_⟩
                  · go_simp
                  have NE_R_V_4_26 : RowKit.Hid (some w'.heap.size ≠ _) := Lib.hid (Ow.ne_ RR_4_27.out (Nat.le_refl _))
                  have LOv4_26 : RowKit.Hid (W3.drew.heap.size ≤ w'.heap.size) := Lib.hid E_4_27.out.size
                  have RR_4_28 := Lib.hid (Ow.up RR_4_27.out (below1 w' (.cells #[.slice none 0 0, .slice none 0 0] 25)))
                  have E_4_28 := Lib.hid (Ext.trans E_4_27.out (below1 w' (.cells #[.slice none 0 0, .slice none 0 0] 25)))
                  have XV_n4_26 : RowKit.Hid (Whole (w'.alloc (.cells #[.slice none 0 0, .slice none 0 0] 25)) w'.heap.size 25 [.slice none 0 0, .slice none 0 0]) := Lib.hid (Whole.new_ _ _ [.slice none 0 0, .slice none 0 0])
                  have hkk : Kept (From_ B0) z2_7 (w'.alloc (.cells #[.slice none 0 0, .slice none 0 0] 25)) := (Kept.of_ext hw').trans (Kept.of_below (below1 _ _))
                  obtain ⟨v4_29, gv4_29⟩ : ∃ x, w'.alloc (.cells #[.slice none 0 0, .slice none 0 0] 25) = x := ⟨_, rfl⟩
                  rw [gv4_29] at RR_4_28 XV_n4_26 E_4_28 hkk ⊢
                  have ldt4_30 := fun w'' (h : Kept (From_ B0) v4_29 w'') => ldt2_9 w'' (hkk.trans h)
                  have ldt4_31 := fun w'' (h : Kept (From_ B0) v4_29 w'') => ldt2_10 w'' (hkk.trans h)
                  clear ldt2_9 ldt2_10
                  clear gv4_29 hkk
                  obtain ⟨g4_26, gg4_26⟩ : ∃ x, w'.heap.size = x := ⟨_, rfl⟩
                  rw [gg4_26] at XV_n4_26 LOv4_26 NE_R_V_4_26 ⊢
                  clear gg4_26 hw'
                  try simp only [Act.put, List.setIfInBounds_toArray, List.set_cons_zero, List.set_cons_succ]
                  refine wpR_one 13 (by kernel_rfl) ?_
                  apply at_run 13 (some 135)
                  · simp only [List.getElem?_toArray, List.getElem?_cons_succ, List.getElem?_cons_zero]; exact rfl
                  · rfl
                  · rfl
                  intro w' hw'
                  have RR_4_33 := Lib.hid (Ow.up RR_4_28.out (hw'))
                  have XV_4_33 := Lib.hid (Whole.below XV_n4_26.out (hw'))
                  have E_4_33 := Lib.hid (Ext.trans E_4_28.out (hw'))
                  obtain ⟨vv, w'', hrun, ho, hb, hg, hbk⟩ := Ow.app2 (P := Try.prog) 23 23 43 i0 _ 4 40 _ Try.underlying23 hi hz0 hz1 hz2 rfl (by decide) _ _ _ RR_4_33.out _ _ _ _ _ ((by have h1 := ((Da_901.out.bl E_4_33.out)).e.low_ (k := k1) HK1.out; rwa [← rowsV_drop eC eC_len] at h1)) (rowsV_one eC eC_one _) (by have := HKm.out; unfold maxLen; omega) (by have := HKm.out; omega)
                  refine ⟨vv, w'', exec_append (by rfl) (by rfl) (by rfl) hrun, Kept.of_from hb, ?_⟩
                  have XV_4_32 := Lib.hid (Whole.grown XV_4_33.out hg NE_R_V_4_26.out)
                  have NE_R_V_4_32 := Lib.hid (Ow.ne2 NE_R_V_4_26.out XV_4_33.out.lt hbk)
                  have E_4_32 : RowKit.Hid (Ext W3.drew w'') := Lib.hid ho.below
                  have hkk : Kept (From_ B0) v4_29 w'' := (Kept.of_ext hw').trans (Kept.of_from hb)
                  obtain ⟨AA4_32, cc4_32, rfl, hrr⟩ := ho.rds
                  have RR_4_32 := Lib.hid ho
                  clear hrr
                  obtain ⟨z4_32, gz4_32⟩ : ∃ x, w'' = x := ⟨_, rfl⟩
                  rw [gz4_32] at RR_4_32 XV_4_32 E_4_32 hkk ⊢
                  have ldt4_34 := fun w'' (h : Kept (From_ B0) z4_32 w'') => ldt4_30 w'' (hkk.trans h)
                  have ldt4_35 := fun w'' (h : Kept (From_ B0) z4_32 w'') => ldt4_31 w'' (hkk.trans h)
                  clear ldt4_30 ldt4_31
                  clear hkk hrun ho hb hg hbk gz4_32 hw'
                  try simp only [Act.put, List.setIfInBounds_toArray, List.set_cons_zero, List.set_cons_succ]
                  apply wpR_next 14 (some 136)
                  · simp only [List.getElem?_toArray, List.getElem?_cons_succ, List.getElem?_cons_zero]; exact rfl
                  · rfl
                  · kernel_rfl
                  · kernel_rfl
                  · kernel_rfl
                  · first | exact fun _ _ _ _ h => Exit.noConfusion h.1 | exact fun _ _ _ _ h => h
                  apply Exists.intro
                  apply And.intro
                  · apply yr_run; rfl; intro w' hw'; go_simp; (try with_reducible rfl)
                  simp only [Act.put, List.setIfInBounds_toArray, List.set_cons_zero, List.set_cons_succ]
                  refine wpR_one 16 (by kernel_rfl) ?_
                  apply at_store 16
                  · simp only [List.getElem?_toArray, List.getElem?_cons_succ, List.getElem?_cons_zero]; exact rfl
                  · rfl
                  · rfl
                  intro w' hw'
                  have RR_4_37 := Lib.hid (Ow.up RR_4_32.out (hw'))
                  have XV_4_37 := Lib.hid (Whole.below XV_4_32.out (hw'))
                  have E_4_37 := Lib.hid (Ext.trans E_4_32.out (hw'))
                  refine ⟨w'.setRow g4_26 #[.slice Aa na ca, .slice AA4_32 (kx + (ma - k1)) cc4_32], store_row_run 25 (.tmp 13) (.tmp 136) rfl g4_26 rfl [.slice Aa na ca, .slice AA4_32 (kx + (ma - k1)) cc4_32] rfl 25 [.slice none 0 0, .slice none 0 0] XV_4_37.out (by kernel_rfl) rfl (by simp [Value.oneCell']), kept_row (show B0 ≤ g4_26 by have h1 := LOv4_26.out; have h2 := HB0.out; omega) _, ?_⟩
                  have HFRR : RowKit.Hid (∀ a, AA4_32 = some a → B0 ≤ a.block) := Lib.hid (fun a ha => by subst ha; exact (RR_4_37.out.own.lt a.block rfl).1)
                  obtain ⟨A_, c_, hv_, hr_⟩ := Ow.rds_row RR_4_37.out NE_R_V_4_32.out #[.slice Aa na ca, .slice AA4_32 (kx + (ma - k1)) cc4_32]
                  obtain ⟨rfl, -, rfl⟩ : AA4_32 = A_ ∧ _ = _ ∧ cc4_32 = c_ := by injection hv_ with a1 a2 a3; exact ⟨a1, a2, a3⟩
                  have UR_r4_36 := Lib.hid hr_
                  clear hr_ hv_
                  have E_r4_36 := Lib.hid (below_row E_4_37.out LOv4_26.out #[.slice Aa na ca, .slice AA4_32 (kx + (ma - k1)) cc4_32])
                  have XV_r4_36 : RowKit.Hid (Whole (w'.setRow g4_26 #[.slice Aa na ca, .slice AA4_32 (kx + (ma - k1)) cc4_32]) g4_26 25 [.slice Aa na ca, .slice AA4_32 (kx + (ma - k1)) cc4_32]) := Lib.hid (Whole.row XV_4_37.out [.slice Aa na ca, .slice AA4_32 (kx + (ma - k1)) cc4_32])
                  have hkk : Kept (From_ B0) z4_32 (w'.setRow g4_26 #[.slice Aa na ca, .slice AA4_32 (kx + (ma - k1)) cc4_32]) := (Kept.of_ext hw').trans (kept_row (show B0 ≤ g4_26 by have h1 := LOv4_26.out; have h2 := HB0.out; omega) _)
                  obtain ⟨v4_38, gv4_38⟩ : ∃ x, w'.setRow g4_26 #[.slice Aa na ca, .slice AA4_32 (kx + (ma - k1)) cc4_32] = x := ⟨_, rfl⟩
                  rw [gv4_38] at XV_r4_36 UR_r4_36 E_r4_36 hkk ⊢
                  have ldt4_39 := fun w'' (h : Kept (From_ B0) v4_38 w'') => ldt4_34 w'' (hkk.trans h)
                  have ldt4_40 := fun w'' (h : Kept (From_ B0) v4_38 w'') => ldt4_35 w'' (hkk.trans h)
                  clear ldt4_34 ldt4_35
                  clear gv4_38 hkk
                  clear hw'
                  try simp only [Act.put, List.setIfInBounds_toArray, List.set_cons_zero, List.set_cons_succ]
                  refine wpR_done (by kernel_rfl) ?_ _
                  intro wE hwE
                  have hn6 := HnJ.out
                  have hx6 := (XV_r4_36.out).bl hwE
                  have hy6 := (UR_r4_36.out).bl hwE
                  rw [hn6] at hx6
                  rw [Nat.zero_add, hn6, List.nil_append, ← rowsV_app, HJ.out] at hy6
                  refine ⟨rfl, AA4_32, cc4_32, g4_26, _, _, _, _, _, _, _, _, _, _, _, _, _, _, _, rfl, Lib.hid ⟨?_, ?_, hx6, hy6⟩⟩
                  · exact Ext.trans ((Below.refl _ _).drew) (Ext.trans E_r4_36.out hwE)
                  · exact Nat.le_trans Bel_901.out.size LOv4_26.out
              · apply at_run 15 (some 13)
                · simp only [List.getElem?_toArray, List.getElem?_cons_succ, List.getElem?_cons_zero]; exact rfl
                · rfl
                · rfl
                intro w' hw'
                have RR_5_42 := Lib.hid (Ow.up RR_n1_1.out (hw'))
                have E_5_42 := Lib.hid (Ext.trans E_1_3.out (hw'))
                refine ⟨.pointer (some ⟨w'.heap.size, 0, none⟩), w'.alloc (.cells #[.slice none 0 0, .slice none 0 0] 25), ?_, Kept.of_below (below1 _ _), ?_⟩
                · go_simp
                have NE_R_V_5_41 : RowKit.Hid (some w'.heap.size ≠ _) := Lib.hid (Ow.ne_ RR_5_42.out (Nat.le_refl _))
                have LOv5_41 : RowKit.Hid (W3.drew.heap.size ≤ w'.heap.size) := Lib.hid E_5_42.out.size
                have RR_5_43 := Lib.hid (Ow.up RR_5_42.out (below1 w' (.cells #[.slice none 0 0, .slice none 0 0] 25)))
                have E_5_43 := Lib.hid (Ext.trans E_5_42.out (below1 w' (.cells #[.slice none 0 0, .slice none 0 0] 25)))
                have XV_n5_41 : RowKit.Hid (Whole (w'.alloc (.cells #[.slice none 0 0, .slice none 0 0] 25)) w'.heap.size 25 [.slice none 0 0, .slice none 0 0]) := Lib.hid (Whole.new_ _ _ [.slice none 0 0, .slice none 0 0])
                have hkk : Kept (From_ B0) v1_4 (w'.alloc (.cells #[.slice none 0 0, .slice none 0 0] 25)) := (Kept.of_ext hw').trans (Kept.of_below (below1 _ _))
                obtain ⟨v5_44, gv5_44⟩ : ∃ x, w'.alloc (.cells #[.slice none 0 0, .slice none 0 0] 25) = x := ⟨_, rfl⟩
                rw [gv5_44] at RR_5_43 XV_n5_41 E_5_43 hkk ⊢
                have ldt5_45 := fun w'' (h : Kept (From_ B0) v5_44 w'') => ldt1_5 w'' (hkk.trans h)
                have ldt5_46 := fun w'' (h : Kept (From_ B0) v5_44 w'') => ldt1_6 w'' (hkk.trans h)
                clear ldt1_5 ldt1_6
                clear gv5_44 hkk
                obtain ⟨g5_41, gg5_41⟩ : ∃ x, w'.heap.size = x := ⟨_, rfl⟩
                rw [gg5_41] at XV_n5_41 LOv5_41 NE_R_V_5_41 ⊢
                clear gg5_41 hw'
                try simp only [Act.put, List.setIfInBounds_toArray, List.set_cons_zero, List.set_cons_succ]
                refine wpR_one 7 (by kernel_rfl) ?_
                apply at_run 7 (some 129)
                · simp only [List.getElem?_toArray, List.getElem?_cons_succ, List.getElem?_cons_zero]; exact rfl
                · rfl
                · rfl
                intro w' hw'
                have RR_5_48 := Lib.hid (Ow.up RR_5_43.out (hw'))
                have XV_5_48 := Lib.hid (Whole.below XV_n5_41.out (hw'))
                have E_5_48 := Lib.hid (Ext.trans E_5_43.out (hw'))
                obtain ⟨vv, w'', hrun, ho, hb, hg, hbk⟩ := Ow.app2 (P := Try.prog) 23 23 43 i0 _ 4 40 _ Try.underlying23 hi hz0 hz1 hz2 rfl (by decide) _ _ _ RR_5_48.out _ _ _ _ _ ((by have h1 := ((Da_901.out.bl E_5_48.out)).e.take_ kx (Nat.le_of_lt HKm.out); rwa [← rowsV_take eC eC_len] at h1)) (rowsV_one eC eC_one _) (by have := HKm.out; unfold maxLen; omega) (by have := HKm.out; omega)
                refine ⟨vv, w'', exec_append (by rfl) (by rfl) (by rfl) hrun, Kept.of_from hb, ?_⟩
                have XV_5_47 := Lib.hid (Whole.grown XV_5_48.out hg NE_R_V_5_41.out)
                have NE_R_V_5_47 := Lib.hid (Ow.ne2 NE_R_V_5_41.out XV_5_48.out.lt hbk)
                have E_5_47 : RowKit.Hid (Ext W3.drew w'') := Lib.hid ho.below
                have hkk : Kept (From_ B0) v5_44 w'' := (Kept.of_ext hw').trans (Kept.of_from hb)
                obtain ⟨AA5_47, cc5_47, rfl, hrr⟩ := ho.rds
                have RR_5_47 := Lib.hid ho
                clear hrr
                obtain ⟨z5_47, gz5_47⟩ : ∃ x, w'' = x := ⟨_, rfl⟩
                rw [gz5_47] at RR_5_47 XV_5_47 E_5_47 hkk ⊢
                have ldt5_49 := fun w'' (h : Kept (From_ B0) z5_47 w'') => ldt5_45 w'' (hkk.trans h)
                have ldt5_50 := fun w'' (h : Kept (From_ B0) z5_47 w'') => ldt5_46 w'' (hkk.trans h)
                clear ldt5_45 ldt5_46
                clear hkk hrun ho hb hg hbk gz5_47 hw'
                try simp only [Act.put, List.setIfInBounds_toArray, List.set_cons_zero, List.set_cons_succ]
                refine wpR_one 13 (by kernel_rfl) ?_
                apply at_run 13 (some 135)
                · simp only [List.getElem?_toArray, List.getElem?_cons_succ, List.getElem?_cons_zero]; exact rfl
                · rfl
                · rfl
                intro w' hw'
                have RR_5_52 := Lib.hid (Ow.up RR_5_47.out (hw'))
                have XV_5_52 := Lib.hid (Whole.below XV_5_47.out (hw'))
                have E_5_52 := Lib.hid (Ext.trans E_5_47.out (hw'))
                obtain ⟨vv, w'', hrun, ho, hb, hg, hbk⟩ := Ow.app2 (P := Try.prog) 23 23 43 i0 _ 4 40 _ Try.underlying23 hi hz0 hz1 hz2 rfl (by decide) _ _ _ RR_5_52.out _ _ _ _ _ ((by have h1 := ((Da_901.out.bl E_5_52.out)).e.low_ (k := k1) HK1.out; rwa [← rowsV_drop eC eC_len] at h1)) (rowsV_one eC eC_one _) (by have := HKm.out; unfold maxLen; omega) (by have := HKm.out; omega)
                refine ⟨vv, w'', exec_append (by rfl) (by rfl) (by rfl) hrun, Kept.of_from hb, ?_⟩
                have XV_5_51 := Lib.hid (Whole.grown XV_5_52.out hg NE_R_V_5_47.out)
                have NE_R_V_5_51 := Lib.hid (Ow.ne2 NE_R_V_5_47.out XV_5_52.out.lt hbk)
                have E_5_51 : RowKit.Hid (Ext W3.drew w'') := Lib.hid ho.below
                have hkk : Kept (From_ B0) z5_47 w'' := (Kept.of_ext hw').trans (Kept.of_from hb)
                obtain ⟨AA5_51, cc5_51, rfl, hrr⟩ := ho.rds
                have RR_5_51 := Lib.hid ho
                clear hrr
                obtain ⟨z5_51, gz5_51⟩ : ∃ x, w'' = x := ⟨_, rfl⟩
                rw [gz5_51] at RR_5_51 XV_5_51 E_5_51 hkk ⊢
                have ldt5_53 := fun w'' (h : Kept (From_ B0) z5_51 w'') => ldt5_49 w'' (hkk.trans h)
                have ldt5_54 := fun w'' (h : Kept (From_ B0) z5_51 w'') => ldt5_50 w'' (hkk.trans h)
                clear ldt5_49 ldt5_50
                clear hkk hrun ho hb hg hbk gz5_51 hw'
                try simp only [Act.put, List.setIfInBounds_toArray, List.set_cons_zero, List.set_cons_succ]
                apply wpR_next 14 (some 136)
                · simp only [List.getElem?_toArray, List.getElem?_cons_succ, List.getElem?_cons_zero]; exact rfl
                · rfl
                · kernel_rfl
                · kernel_rfl
                · kernel_rfl
                · first | exact fun _ _ _ _ h => Exit.noConfusion h.1 | exact fun _ _ _ _ h => h
                apply Exists.intro
                apply And.intro
                · apply yr_run; rfl; intro w' hw'; go_simp; (try with_reducible rfl)
                simp only [Act.put, List.setIfInBounds_toArray, List.set_cons_zero, List.set_cons_succ]
                refine wpR_one 16 (by kernel_rfl) ?_
                apply at_store 16
                · simp only [List.getElem?_toArray, List.getElem?_cons_succ, List.getElem?_cons_zero]; exact rfl
                · rfl
                · rfl
                intro w' hw'
                have RR_5_56 := Lib.hid (Ow.up RR_5_51.out (hw'))
                have XV_5_56 := Lib.hid (Whole.below XV_5_51.out (hw'))
                have E_5_56 := Lib.hid (Ext.trans E_5_51.out (hw'))
                refine ⟨w'.setRow g5_41 #[.slice Aa na ca, .slice AA5_51 (kx + (ma - k1)) cc5_51], store_row_run 25 (.tmp 13) (.tmp 136) rfl g5_41 rfl [.slice Aa na ca, .slice AA5_51 (kx + (ma - k1)) cc5_51] rfl 25 [.slice none 0 0, .slice none 0 0] XV_5_56.out (by kernel_rfl) rfl (by simp [Value.oneCell']), kept_row (show B0 ≤ g5_41 by have h1 := LOv5_41.out; have h2 := HB0.out; omega) _, ?_⟩
                have HFRR : RowKit.Hid (∀ a, AA5_51 = some a → B0 ≤ a.block) := Lib.hid (fun a ha => by subst ha; exact (RR_5_56.out.own.lt a.block rfl).1)
                obtain ⟨A_, c_, hv_, hr_⟩ := Ow.rds_row RR_5_56.out NE_R_V_5_51.out #[.slice Aa na ca, .slice AA5_51 (kx + (ma - k1)) cc5_51]
                obtain ⟨rfl, -, rfl⟩ : AA5_51 = A_ ∧ _ = _ ∧ cc5_51 = c_ := by injection hv_ with a1 a2 a3; exact ⟨a1, a2, a3⟩
                have UR_r5_55 := Lib.hid hr_
                clear hr_ hv_
                have E_r5_55 := Lib.hid (below_row E_5_56.out LOv5_41.out #[.slice Aa na ca, .slice AA5_51 (kx + (ma - k1)) cc5_51])
                have XV_r5_55 : RowKit.Hid (Whole (w'.setRow g5_41 #[.slice Aa na ca, .slice AA5_51 (kx + (ma - k1)) cc5_51]) g5_41 25 [.slice Aa na ca, .slice AA5_51 (kx + (ma - k1)) cc5_51]) := Lib.hid (Whole.row XV_5_56.out [.slice Aa na ca, .slice AA5_51 (kx + (ma - k1)) cc5_51])
                have hkk : Kept (From_ B0) z5_51 (w'.setRow g5_41 #[.slice Aa na ca, .slice AA5_51 (kx + (ma - k1)) cc5_51]) := (Kept.of_ext hw').trans (kept_row (show B0 ≤ g5_41 by have h1 := LOv5_41.out; have h2 := HB0.out; omega) _)
                obtain ⟨v5_57, gv5_57⟩ : ∃ x, w'.setRow g5_41 #[.slice Aa na ca, .slice AA5_51 (kx + (ma - k1)) cc5_51] = x := ⟨_, rfl⟩
                rw [gv5_57] at XV_r5_55 UR_r5_55 E_r5_55 hkk ⊢
                have ldt5_58 := fun w'' (h : Kept (From_ B0) v5_57 w'') => ldt5_53 w'' (hkk.trans h)
                have ldt5_59 := fun w'' (h : Kept (From_ B0) v5_57 w'') => ldt5_54 w'' (hkk.trans h)
                clear ldt5_53 ldt5_54
                clear gv5_57 hkk
                clear hw'
                try simp only [Act.put, List.setIfInBounds_toArray, List.set_cons_zero, List.set_cons_succ]
                refine wpR_done (by kernel_rfl) ?_ _
                intro wE hwE
                have hn6 := HnJ.out
                have hx6 := (XV_r5_55.out).bl hwE
                have hy6 := (UR_r5_55.out).bl hwE
                rw [hn6] at hx6
                rw [Nat.zero_add, hn6, List.nil_append, ← rowsV_app, HJ.out] at hy6
                refine ⟨rfl, AA5_51, cc5_51, g5_41, _, _, _, _, _, _, _, _, _, _, _, _, _, _, _, rfl, Lib.hid ⟨?_, ?_, hx6, hy6⟩⟩
                · exact Ext.trans ((Below.refl _ _).drew) (Ext.trans E_r5_55.out hwE)
                · exact Nat.le_trans Bel_901.out.size LOv5_41.out
            · apply at_run 15 (some 13)
              · simp only [List.getElem?_toArray, List.getElem?_cons_succ, List.getElem?_cons_zero]; exact rfl
              · rfl
              · rfl
              intro w' hw'
              have E_6_61 := Lib.hid (Ext.trans EX0.out (hw'))
              refine ⟨.pointer (some ⟨w'.heap.size, 0, none⟩), w'.alloc (.cells #[.slice none 0 0, .slice none 0 0] 25), ?_, Kept.of_below (below1 _ _), ?_⟩
              · go_simp
              have LOv6_60 : RowKit.Hid (W3.drew.heap.size ≤ w'.heap.size) := Lib.hid E_6_61.out.size
              have E_6_62 := Lib.hid (Ext.trans E_6_61.out (below1 w' (.cells #[.slice none 0 0, .slice none 0 0] 25)))
              have XV_n6_60 : RowKit.Hid (Whole (w'.alloc (.cells #[.slice none 0 0, .slice none 0 0] 25)) w'.heap.size 25 [.slice none 0 0, .slice none 0 0]) := Lib.hid (Whole.new_ _ _ [.slice none 0 0, .slice none 0 0])
              have hkk : Kept (From_ B0) W3.drew (w'.alloc (.cells #[.slice none 0 0, .slice none 0 0] 25)) := (Kept.of_ext hw').trans (Kept.of_below (below1 _ _))
              obtain ⟨v6_63, gv6_63⟩ : ∃ x, w'.alloc (.cells #[.slice none 0 0, .slice none 0 0] 25) = x := ⟨_, rfl⟩
              rw [gv6_63] at XV_n6_60 E_6_62 hkk ⊢
              have ldt6_64 := fun w'' (h : Kept (From_ B0) v6_63 w'') => ldt0 w'' (hkk.trans h)
              have ldt6_65 := fun w'' (h : Kept (From_ B0) v6_63 w'') => ldt1 w'' (hkk.trans h)
              clear ldt0 ldt1
              clear gv6_63 hkk
              obtain ⟨g6_60, gg6_60⟩ : ∃ x, w'.heap.size = x := ⟨_, rfl⟩
              rw [gg6_60] at XV_n6_60 LOv6_60  ⊢
              clear gg6_60 hw'
              try simp only [Act.put, List.setIfInBounds_toArray, List.set_cons_zero, List.set_cons_succ]
              refine wpR_one 2 (by kernel_rfl) ?_
              apply at_run 2 (some 124)
              · simp only [List.getElem?_toArray, List.getElem?_cons_succ, List.getElem?_cons_zero]; exact rfl
              · rfl
              · rfl
              intro w' hw'
              have XV_6_67 := Lib.hid (Whole.below XV_n6_60.out (hw'))
              have E_6_67 := Lib.hid (Ext.trans E_6_62.out (hw'))
              refine ⟨.slice (some ⟨w'.heap.size, 0, none⟩) 0 0, w'.alloc (.cells #[] 43), ?_, Kept.of_below (below1 _ _), ?_⟩
              · go_simp
              have RR_n6_66 : RowKit.Hid (Ow W3.drew B0 43 4 (.slice (some ⟨w'.heap.size, 0, none⟩) 0 0) 0 [] (w'.alloc (.cells #[] 43))) := Lib.hid (Ow.new_ (e := 43) (size := 4) (cs := #[]) E_6_67.out (Nat.le_of_eq HB0.out) (by have h1 := E_6_67.out.size; have h2 := HB0.out; omega) (n := 0) (Nat.zero_le _) rfl)
              have NE_R_V_6_66 : RowKit.Hid (some g6_60 ≠ (Value.slice (some ⟨w'.heap.size, 0, none⟩) 0 0).ownBlock) := Lib.hid (fun e => by have h1 := Option.some.inj e; have h2 := XV_6_67.out.lt; have h3 : g6_60 = w'.heap.size := h1; omega)
              have XV_6_68 := Lib.hid (Whole.below XV_6_67.out (below1 w' (.cells #[] 43)))
              have E_6_68 := Lib.hid (Ext.trans E_6_67.out (below1 w' (.cells #[] 43)))
              have hkk : Kept (From_ B0) v6_63 (w'.alloc (.cells #[] 43)) := (Kept.of_ext hw').trans (Kept.of_below (below1 _ _))
              obtain ⟨v6_69, gv6_69⟩ : ∃ x, w'.alloc (.cells #[] 43) = x := ⟨_, rfl⟩
              rw [gv6_69] at RR_n6_66 XV_6_68 E_6_68 hkk ⊢
              have ldt6_70 := fun w'' (h : Kept (From_ B0) v6_69 w'') => ldt6_64 w'' (hkk.trans h)
              have ldt6_71 := fun w'' (h : Kept (From_ B0) v6_69 w'') => ldt6_65 w'' (hkk.trans h)
              clear ldt6_64 ldt6_65
              clear gv6_69 hkk
              obtain ⟨g6_66, gg6_66⟩ : ∃ x, w'.heap.size = x := ⟨_, rfl⟩
              rw [gg6_66] at RR_n6_66 NE_R_V_6_66 ⊢
              clear gg6_66 hw'
              try simp only [Act.put, List.setIfInBounds_toArray, List.set_cons_zero, List.set_cons_succ]
              refine wpR_one 7 (by kernel_rfl) ?_
              apply at_run 7 (some 129)
              · simp only [List.getElem?_toArray, List.getElem?_cons_succ, List.getElem?_cons_zero]; exact rfl
              · rfl
              · rfl
              intro w' hw'
              have RR_6_73 := Lib.hid (Ow.up RR_n6_66.out (hw'))
              have XV_6_73 := Lib.hid (Whole.below XV_6_68.out (hw'))
              have E_6_73 := Lib.hid (Ext.trans E_6_68.out (hw'))
              obtain ⟨vv, w'', hrun, ho, hb, hg, hbk⟩ := Ow.app2 (P := Try.prog) 23 23 43 i0 _ 4 40 _ Try.underlying23 hi hz0 hz1 hz2 rfl (by decide) _ _ _ RR_6_73.out _ _ _ _ _ ((by have h1 := ((Da_901.out.bl E_6_73.out)).e.take_ kx (Nat.le_of_lt HKm.out); rwa [← rowsV_take eC eC_len] at h1)) (rowsV_one eC eC_one _) (by have := HKm.out; unfold maxLen; omega) (by have := HKm.out; omega)
              refine ⟨vv, w'', exec_append (by rfl) (by rfl) (by rfl) hrun, Kept.of_from hb, ?_⟩
              have XV_6_72 := Lib.hid (Whole.grown XV_6_73.out hg NE_R_V_6_66.out)
              have NE_R_V_6_72 := Lib.hid (Ow.ne2 NE_R_V_6_66.out XV_6_73.out.lt hbk)
              have E_6_72 : RowKit.Hid (Ext W3.drew w'') := Lib.hid ho.below
              have hkk : Kept (From_ B0) v6_69 w'' := (Kept.of_ext hw').trans (Kept.of_from hb)
              obtain ⟨AA6_72, cc6_72, rfl, hrr⟩ := ho.rds
              have RR_6_72 := Lib.hid ho
              clear hrr
              obtain ⟨z6_72, gz6_72⟩ : ∃ x, w'' = x := ⟨_, rfl⟩
              rw [gz6_72] at RR_6_72 XV_6_72 E_6_72 hkk ⊢
              have ldt6_74 := fun w'' (h : Kept (From_ B0) z6_72 w'') => ldt6_70 w'' (hkk.trans h)
              have ldt6_75 := fun w'' (h : Kept (From_ B0) z6_72 w'') => ldt6_71 w'' (hkk.trans h)
              clear ldt6_70 ldt6_71
              clear hkk hrun ho hb hg hbk gz6_72 hw'
              try simp only [Act.put, List.setIfInBounds_toArray, List.set_cons_zero, List.set_cons_succ]
              refine wpR_one 13 (by kernel_rfl) ?_
              apply at_run 13 (some 135)
              · simp only [List.getElem?_toArray, List.getElem?_cons_succ, List.getElem?_cons_zero]; exact rfl
              · rfl
              · rfl
              intro w' hw'
              have RR_6_77 := Lib.hid (Ow.up RR_6_72.out (hw'))
              have XV_6_77 := Lib.hid (Whole.below XV_6_72.out (hw'))
              have E_6_77 := Lib.hid (Ext.trans E_6_72.out (hw'))
              obtain ⟨vv, w'', hrun, ho, hb, hg, hbk⟩ := Ow.app2 (P := Try.prog) 23 23 43 i0 _ 4 40 _ Try.underlying23 hi hz0 hz1 hz2 rfl (by decide) _ _ _ RR_6_77.out _ _ _ _ _ ((by have h1 := ((Da_901.out.bl E_6_77.out)).e.low_ (k := k1) HK1.out; rwa [← rowsV_drop eC eC_len] at h1)) (rowsV_one eC eC_one _) (by have := HKm.out; unfold maxLen; omega) (by have := HKm.out; omega)
              refine ⟨vv, w'', exec_append (by rfl) (by rfl) (by rfl) hrun, Kept.of_from hb, ?_⟩
              have XV_6_76 := Lib.hid (Whole.grown XV_6_77.out hg NE_R_V_6_72.out)
              have NE_R_V_6_76 := Lib.hid (Ow.ne2 NE_R_V_6_72.out XV_6_77.out.lt hbk)
              have E_6_76 : RowKit.Hid (Ext W3.drew w'') := Lib.hid ho.below
              have hkk : Kept (From_ B0) z6_72 w'' := (Kept.of_ext hw').trans (Kept.of_from hb)
              obtain ⟨AA6_76, cc6_76, rfl, hrr⟩ := ho.rds
              have RR_6_76 := Lib.hid ho
              clear hrr
              obtain ⟨z6_76, gz6_76⟩ : ∃ x, w'' = x := ⟨_, rfl⟩
              rw [gz6_76] at RR_6_76 XV_6_76 E_6_76 hkk ⊢
              have ldt6_78 := fun w'' (h : Kept (From_ B0) z6_76 w'') => ldt6_74 w'' (hkk.trans h)
              have ldt6_79 := fun w'' (h : Kept (From_ B0) z6_76 w'') => ldt6_75 w'' (hkk.trans h)
              clear ldt6_74 ldt6_75
              clear hkk hrun ho hb hg hbk gz6_76 hw'
              try simp only [Act.put, List.setIfInBounds_toArray, List.set_cons_zero, List.set_cons_succ]
              apply wpR_next 14 (some 136)
              · simp only [List.getElem?_toArray, List.getElem?_cons_succ, List.getElem?_cons_zero]; exact rfl
              · rfl
              · kernel_rfl
              · kernel_rfl
              · kernel_rfl
              · first | exact fun _ _ _ _ h => Exit.noConfusion h.1 | exact fun _ _ _ _ h => h
              apply Exists.intro
              apply And.intro
              · apply yr_run; rfl; intro w' hw'; go_simp; (try with_reducible rfl)
              simp only [Act.put, List.setIfInBounds_toArray, List.set_cons_zero, List.set_cons_succ]
              refine wpR_one 16 (by kernel_rfl) ?_
              apply at_store 16
              · simp only [List.getElem?_toArray, List.getElem?_cons_succ, List.getElem?_cons_zero]; exact rfl
              · rfl
              · rfl
              intro w' hw'
              have RR_6_81 := Lib.hid (Ow.up RR_6_76.out (hw'))
              have XV_6_81 := Lib.hid (Whole.below XV_6_76.out (hw'))
              have E_6_81 := Lib.hid (Ext.trans E_6_76.out (hw'))
              refine ⟨w'.setRow g6_60 #[.slice Aa na ca, .slice AA6_76 (kx + (ma - k1)) cc6_76], store_row_run 25 (.tmp 13) (.tmp 136) rfl g6_60 rfl [.slice Aa na ca, .slice AA6_76 (kx + (ma - k1)) cc6_76] rfl 25 [.slice none 0 0, .slice none 0 0] XV_6_81.out (by kernel_rfl) rfl (by simp [Value.oneCell']), kept_row (show B0 ≤ g6_60 by have h1 := LOv6_60.out; have h2 := HB0.out; omega) _, ?_⟩
              have HFRR : RowKit.Hid (∀ a, AA6_76 = some a → B0 ≤ a.block) := Lib.hid (fun a ha => by subst ha; exact (RR_6_81.out.own.lt a.block rfl).1)
              obtain ⟨A_, c_, hv_, hr_⟩ := Ow.rds_row RR_6_81.out NE_R_V_6_76.out #[.slice Aa na ca, .slice AA6_76 (kx + (ma - k1)) cc6_76]
              obtain ⟨rfl, -, rfl⟩ : AA6_76 = A_ ∧ _ = _ ∧ cc6_76 = c_ := by injection hv_ with a1 a2 a3; exact ⟨a1, a2, a3⟩
              have UR_r6_80 := Lib.hid hr_
              clear hr_ hv_
              have E_r6_80 := Lib.hid (below_row E_6_81.out LOv6_60.out #[.slice Aa na ca, .slice AA6_76 (kx + (ma - k1)) cc6_76])
              have XV_r6_80 : RowKit.Hid (Whole (w'.setRow g6_60 #[.slice Aa na ca, .slice AA6_76 (kx + (ma - k1)) cc6_76]) g6_60 25 [.slice Aa na ca, .slice AA6_76 (kx + (ma - k1)) cc6_76]) := Lib.hid (Whole.row XV_6_81.out [.slice Aa na ca, .slice AA6_76 (kx + (ma - k1)) cc6_76])
              have hkk : Kept (From_ B0) z6_76 (w'.setRow g6_60 #[.slice Aa na ca, .slice AA6_76 (kx + (ma - k1)) cc6_76]) := (Kept.of_ext hw').trans (kept_row (show B0 ≤ g6_60 by have h1 := LOv6_60.out; have h2 := HB0.out; omega) _)
              obtain ⟨v6_82, gv6_82⟩ : ∃ x, w'.setRow g6_60 #[.slice Aa na ca, .slice AA6_76 (kx + (ma - k1)) cc6_76] = x := ⟨_, rfl⟩
              rw [gv6_82] at XV_r6_80 UR_r6_80 E_r6_80 hkk ⊢
              have ldt6_83 := fun w'' (h : Kept (From_ B0) v6_82 w'') => ldt6_78 w'' (hkk.trans h)
              have ldt6_84 := fun w'' (h : Kept (From_ B0) v6_82 w'') => ldt6_79 w'' (hkk.trans h)
              clear ldt6_78 ldt6_79
              clear gv6_82 hkk
              clear hw'
              try simp only [Act.put, List.setIfInBounds_toArray, List.set_cons_zero, List.set_cons_succ]
              refine wpR_done (by kernel_rfl) ?_ _
              intro wE hwE
              have hn6 := HnJ.out
              have hx6 := (XV_r6_80.out).bl hwE
              have hy6 := (UR_r6_80.out).bl hwE
              rw [hn6] at hx6
              rw [Nat.zero_add, hn6, List.nil_append, ← rowsV_app, HJ.out] at hy6
              refine ⟨rfl, AA6_76, cc6_76, g6_60, _, _, _, _, _, _, _, _, _, _, _, _, _, _, _, rfl, Lib.hid ⟨?_, ?_, hx6, hy6⟩⟩
              · exact Ext.trans ((Below.refl _ _).drew) (Ext.trans E_r6_80.out hwE)
              · exact Nat.le_trans Bel_901.out.size LOv6_60.out
          rintro a' w6 ⟨A6, c6, g6, x122, x123, x124, x125, x126, x127, x128, x129, x130, x131, x132, x133, x134, x135, x136, rfl, H6⟩
          have HB6 := Lib.hid (bel_bl HB3.out H6.out.1)
          have HX6 := Lib.hid (HX3.out.bl H6.out.1)
          have HD6 := Lib.hid (HD3.out.bl H6.out.1)
          have HL6 : RowKit.Hid (DgIn w6 Aa na ca Va A6 nJ c6 J) := Lib.hid ⟨HD6.out.v, H6.out.2.2.2, HD6.out.r⟩
          have HY6 : RowKit.Hid (Whole w6 g6 25 [.slice Aa na ca, .slice A6 nJ c6]) := Lib.hid H6.out.2.2.1
          simp only [Act.put, List.setIfInBounds_toArray, List.set_cons_zero, List.set_cons_succ]
          clear H6 HB3 HX3 HD3
          go_upto_region 22 with fail
          have Da_902 := Lib.hid (HD6.out.dr)
          have D0_902 := Lib.hid (HX6.out.dr)
          have L_902 := Lib.hid (HL6.out.dr)
          have Y_902 := Lib.hid (HY6.out.dr)
          have Bel_902 := Lib.hid (bel_dr HB6.out)
          have ld903 : ∀ w', Kept Nil_ w6.drew w' → w'.cell? ⟨b0, 0, none⟩ = some (.slice Aa na ca) := fun w' h => h.nil_cell (D0_902.out.cell (i := 0) rfl)
          have ld904 : ∀ w', Kept Nil_ w6.drew w' → w'.cell? ⟨b0, 1, none⟩ = some (.slice Ba ma ka) := fun w' h => h.nil_cell (D0_902.out.cell (i := 1) rfl)
          have ld905 : ∀ w', Kept Nil_ w6.drew w' → w'.cell? ⟨g6, 0, none⟩ = some (.slice Aa na ca) := fun w' h => h.nil_cell (Y_902.out.cell (i := 0) rfl)
          have ld906 : ∀ w', Kept Nil_ w6.drew w' → w'.cell? ⟨g6, 1, none⟩ = some (.slice A6 nJ c6) := fun w' h => h.nil_cell (Y_902.out.cell (i := 1) rfl)
          refine wp_region_reg Nil_ (by kernel_rfl) ?_
          apply wpR_next 0 (some 137)
          · simp only [List.getElem?_toArray, List.getElem?_cons_succ, List.getElem?_cons_zero]; exact rfl
          · rfl
          · kernel_rfl
          · kernel_rfl
          · kernel_rfl
          · exact fun _ _ _ _ h => h
          apply Exists.intro
          apply And.intro
          · apply yr_run; rfl; intro w' hw'; go_simp; (try with_reducible rfl)
          simp only [Act.put, List.setIfInBounds_toArray, List.set_cons_zero, List.set_cons_succ]
          apply wpR_next 1 (some 138)
          · simp only [List.getElem?_toArray, List.getElem?_cons_succ, List.getElem?_cons_zero]; exact rfl
          · rfl
          · kernel_rfl
          · kernel_rfl
          · kernel_rfl
          · exact fun _ _ _ _ h => h
          apply Exists.intro
          apply And.intro
          · apply yr_run; rfl; intro w' hw'; go_simp; (try with_reducible rfl)
          simp only [Act.put, List.setIfInBounds_toArray, List.set_cons_zero, List.set_cons_succ]
          apply wpR_next 2 (some 139)
          · simp only [List.getElem?_toArray, List.getElem?_cons_succ, List.getElem?_cons_zero]; exact rfl
          · rfl
          · kernel_rfl
          · kernel_rfl
          · kernel_rfl
          · exact fun _ _ _ _ h => h
          apply Exists.intro
          apply And.intro
          · apply yr_run; rfl; intro w' hw'; go_simp; (try with_reducible rfl)
          simp only [Act.put, List.setIfInBounds_toArray, List.set_cons_zero, List.set_cons_succ]
          apply wpR_call 3 (some 140)
          · simp only [List.getElem?_toArray, List.getElem?_cons_succ, List.getElem?_cons_zero]; exact rfl
          · rfl
          · kernel_rfl
          · rfl
          · intro w'; go_simp; first | done | exact ⟨rfl, rfl⟩ | with_reducible rfl
          intro w' hw'
          refine (HFl.out _ _ _ (L_902.out.bl hw')).mono ?_
          rintro e w907 ⟨rfl, hb907⟩
          have Da_907 := Lib.hid ((Da_902.out.bl hw').bl hb907)
          have D0_907 := Lib.hid ((D0_902.out.bl hw').bl hb907)
          have L_907 := Lib.hid ((L_902.out.bl hw').bl hb907)
          have Y_907 := Lib.hid ((Y_902.out.bl hw').bl hb907)
          have Bel_907 := Lib.hid (bel_bl (bel_bl Bel_902.out hw') hb907)
          have ld908 := fun w'' (h : Kept Nil_ w907 w'') => ld903 w'' ((Kept.of_ext hw').trans ((Kept.of_below hb907).trans h))
          have ld909 := fun w'' (h : Kept Nil_ w907 w'') => ld904 w'' ((Kept.of_ext hw').trans ((Kept.of_below hb907).trans h))
          have ld910 := fun w'' (h : Kept Nil_ w907 w'') => ld905 w'' ((Kept.of_ext hw').trans ((Kept.of_below hb907).trans h))
          have ld911 := fun w'' (h : Kept Nil_ w907 w'') => ld906 w'' ((Kept.of_ext hw').trans ((Kept.of_below hb907).trans h))
          refine ⟨_, rfl, Kept.of_below hb907, ?_⟩
          clear hw' hb907
          simp only [Act.put, List.setIfInBounds_toArray, List.set_cons_zero, List.set_cons_succ]
          apply wpR_next 4 (some 141)
          · simp only [List.getElem?_toArray, List.getElem?_cons_succ, List.getElem?_cons_zero]; exact rfl
          · rfl
          · kernel_rfl
          · kernel_rfl
          · kernel_rfl
          · exact fun _ _ _ _ h => h
          apply Exists.intro
          apply And.intro
          · apply yr_run; rfl; intro w' hw'; go_simp; (try with_reducible rfl)
          simp only [Act.put, List.setIfInBounds_toArray, List.set_cons_zero, List.set_cons_succ]
          apply wpR_next 5 (some 142)
          · simp only [List.getElem?_toArray, List.getElem?_cons_succ, List.getElem?_cons_zero]; exact rfl
          · rfl
          · kernel_rfl
          · kernel_rfl
          · kernel_rfl
          · exact fun _ _ _ _ h => h
          apply Exists.intro
          apply And.intro
          · apply yr_run; rfl; intro w' hw'; go_simp; (try with_reducible rfl)
          simp only [Act.put, List.setIfInBounds_toArray, List.set_cons_zero, List.set_cons_succ]
          apply wpR_next 6 (some 143)
          · simp only [List.getElem?_toArray, List.getElem?_cons_succ, List.getElem?_cons_zero]; exact rfl
          · rfl
          · kernel_rfl
          · kernel_rfl
          · kernel_rfl
          · exact fun _ _ _ _ h => h
          apply Exists.intro
          apply And.intro
          · apply yr_run; rfl; intro w' hw'; go_simp; (try with_reducible rfl)
          simp only [Act.put, List.setIfInBounds_toArray, List.set_cons_zero, List.set_cons_succ]
          apply wpR_next 7 (some 144)
          · simp only [List.getElem?_toArray, List.getElem?_cons_succ, List.getElem?_cons_zero]; exact rfl
          · rfl
          · kernel_rfl
          · kernel_rfl
          · kernel_rfl
          · exact fun _ _ _ _ h => h
          apply Exists.intro
          apply And.intro
          · apply yr_run; rfl; intro w' hw'; go_simp; (try with_reducible rfl)
          simp only [Act.put, List.setIfInBounds_toArray, List.set_cons_zero, List.set_cons_succ]
          apply wpR_next 9 (some 146)
          · simp only [List.getElem?_toArray, List.getElem?_cons_succ, List.getElem?_cons_zero]; exact rfl
          · rfl
          · kernel_rfl
          · kernel_rfl
          · kernel_rfl
          · exact fun _ _ _ _ h => h
          apply Exists.intro
          apply And.intro
          · apply yr_run; rfl; intro w' hw'; go_simp; (try with_reducible rfl)
          simp only [Act.put, List.setIfInBounds_toArray, List.set_cons_zero, List.set_cons_succ]
          apply wpR_call 8 (some 145)
          · simp only [List.getElem?_toArray, List.getElem?_cons_succ, List.getElem?_cons_zero]; exact rfl
          · rfl
          · kernel_rfl
          · rfl
          · intro w'; go_simp; first | done | exact ⟨rfl, rfl⟩ | with_reducible rfl
          intro w' hw'
          refine (HCl.out _ (Da_907.out.bl hw')).mono ?_
          rintro e w912 ⟨A5, c5, B5, k5, Wc, rfl, hd5, hs5, hb912⟩
          have HS5 := Lib.hid hs5
          clear hs5
          have Da_912 := Lib.hid ((Da_907.out.bl hw').bl hb912)
          have D0_912 := Lib.hid ((D0_907.out.bl hw').bl hb912)
          have L_912 := Lib.hid ((L_907.out.bl hw').bl hb912)
          have Y_912 := Lib.hid ((Y_907.out.bl hw').bl hb912)
          have Bel_912 := Lib.hid (bel_bl (bel_bl Bel_907.out hw') hb912)
          have ld913 := fun w'' (h : Kept Nil_ w912 w'') => ld908 w'' ((Kept.of_ext hw').trans ((Kept.of_below hb912).trans h))
          have ld914 := fun w'' (h : Kept Nil_ w912 w'') => ld909 w'' ((Kept.of_ext hw').trans ((Kept.of_below hb912).trans h))
          have ld915 := fun w'' (h : Kept Nil_ w912 w'') => ld910 w'' ((Kept.of_ext hw').trans ((Kept.of_below hb912).trans h))
          have ld916 := fun w'' (h : Kept Nil_ w912 w'') => ld911 w'' ((Kept.of_ext hw').trans ((Kept.of_below hb912).trans h))
          refine ⟨_, rfl, Kept.of_below hb912, ?_⟩
          clear hw' hb912
          have Dc_912 := Lib.hid hd5
          clear hd5
          simp only [Act.put, List.setIfInBounds_toArray, List.set_cons_zero, List.set_cons_succ]
          apply wpR_call 10 (some 147)
          · simp only [List.getElem?_toArray, List.getElem?_cons_succ, List.getElem?_cons_zero]; exact rfl
          · rfl
          · kernel_rfl
          · rfl
          · intro w'; go_simp; first | done | exact ⟨rfl, rfl⟩ | with_reducible rfl
          intro w' hw'
          refine (HS1.out _ _ _ _ _ _ (Dc_912.out.bl hw') (Da_912.out.bl hw') HS5.out).mono ?_
          rintro e w917 ⟨rfl, hb917⟩
          have Da_917 := Lib.hid ((Da_912.out.bl hw').bl hb917)
          have D0_917 := Lib.hid ((D0_912.out.bl hw').bl hb917)
          have L_917 := Lib.hid ((L_912.out.bl hw').bl hb917)
          have Y_917 := Lib.hid ((Y_912.out.bl hw').bl hb917)
          have Dc_917 := Lib.hid ((Dc_912.out.bl hw').bl hb917)
          have Bel_917 := Lib.hid (bel_bl (bel_bl Bel_912.out hw') hb917)
          have ld918 := fun w'' (h : Kept Nil_ w917 w'') => ld913 w'' ((Kept.of_ext hw').trans ((Kept.of_below hb917).trans h))
          have ld919 := fun w'' (h : Kept Nil_ w917 w'') => ld914 w'' ((Kept.of_ext hw').trans ((Kept.of_below hb917).trans h))
          have ld920 := fun w'' (h : Kept Nil_ w917 w'') => ld915 w'' ((Kept.of_ext hw').trans ((Kept.of_below hb917).trans h))
          have ld921 := fun w'' (h : Kept Nil_ w917 w'') => ld916 w'' ((Kept.of_ext hw').trans ((Kept.of_below hb917).trans h))
          refine ⟨_, rfl, Kept.of_below hb917, ?_⟩
          clear hw' hb917
          simp only [Act.put, List.setIfInBounds_toArray, List.set_cons_zero, List.set_cons_succ]
          apply wpR_next 11 (some 148)
          · simp only [List.getElem?_toArray, List.getElem?_cons_succ, List.getElem?_cons_zero]; exact rfl
          · rfl
          · kernel_rfl
          · kernel_rfl
          · kernel_rfl
          · exact fun _ _ _ _ h => h
          apply Exists.intro
          apply And.intro
          · apply yr_run; rfl; intro w' hw'; go_simp; (try with_reducible rfl)
          simp only [Act.put, List.setIfInBounds_toArray, List.set_cons_zero, List.set_cons_succ]
          apply wpR_next 12 (some 149)
          · simp only [List.getElem?_toArray, List.getElem?_cons_succ, List.getElem?_cons_zero]; exact rfl
          · rfl
          · kernel_rfl
          · kernel_rfl
          · kernel_rfl
          · exact fun _ _ _ _ h => h
          apply Exists.intro
          apply And.intro
          · apply yr_run; rfl; intro w' hw'; go_simp; (try with_reducible rfl)
          simp only [Act.put, List.setIfInBounds_toArray, List.set_cons_zero, List.set_cons_succ]
          apply wpR_next 13 (some 150)
          · simp only [List.getElem?_toArray, List.getElem?_cons_succ, List.getElem?_cons_zero]; exact rfl
          · rfl
          · kernel_rfl
          · kernel_rfl
          · kernel_rfl
          · exact fun _ _ _ _ h => h
          apply Exists.intro
          apply And.intro
          · apply yr_run; rfl; intro w' hw'; go_simp; (try with_reducible rfl)
          simp only [Act.put, List.setIfInBounds_toArray, List.set_cons_zero, List.set_cons_succ]
          apply wpR_next 14 (some 151)
          · simp only [List.getElem?_toArray, List.getElem?_cons_succ, List.getElem?_cons_zero]; exact rfl
          · rfl
          · kernel_rfl
          · kernel_rfl
          · kernel_rfl
          · exact fun _ _ _ _ h => h
          apply Exists.intro
          apply And.intro
          · apply yr_run; rfl; intro w' hw'; go_simp; (try with_reducible rfl)
          simp only [Act.put, List.setIfInBounds_toArray, List.set_cons_zero, List.set_cons_succ]
          apply wpR_call 15 (some 152)
          · simp only [List.getElem?_toArray, List.getElem?_cons_succ, List.getElem?_cons_zero]; exact rfl
          · rfl
          · kernel_rfl
          · rfl
          · intro w'; go_simp; first | done | exact ⟨rfl, rfl⟩ | with_reducible rfl
          intro w' hw'
          refine (HSl.out _ _ _ (L_917.out.bl hw') (Da_917.out.bl hw')).mono ?_
          rintro e w922 ⟨rfl, hb922⟩
          have Da_922 := Lib.hid ((Da_917.out.bl hw').bl hb922)
          have D0_922 := Lib.hid ((D0_917.out.bl hw').bl hb922)
          have L_922 := Lib.hid ((L_917.out.bl hw').bl hb922)
          have Y_922 := Lib.hid ((Y_917.out.bl hw').bl hb922)
          have Dc_922 := Lib.hid ((Dc_917.out.bl hw').bl hb922)
          have Bel_922 := Lib.hid (bel_bl (bel_bl Bel_917.out hw') hb922)
          have ld923 := fun w'' (h : Kept Nil_ w922 w'') => ld918 w'' ((Kept.of_ext hw').trans ((Kept.of_below hb922).trans h))
          have ld924 := fun w'' (h : Kept Nil_ w922 w'') => ld919 w'' ((Kept.of_ext hw').trans ((Kept.of_below hb922).trans h))
          have ld925 := fun w'' (h : Kept Nil_ w922 w'') => ld920 w'' ((Kept.of_ext hw').trans ((Kept.of_below hb922).trans h))
          have ld926 := fun w'' (h : Kept Nil_ w922 w'') => ld921 w'' ((Kept.of_ext hw').trans ((Kept.of_below hb922).trans h))
          refine ⟨_, rfl, Kept.of_below hb922, ?_⟩
          clear hw' hb922
          simp only [Act.put, List.setIfInBounds_toArray, List.set_cons_zero, List.set_cons_succ]
          apply wpR_next 16 (some 153)
          · simp only [List.getElem?_toArray, List.getElem?_cons_succ, List.getElem?_cons_zero]; exact rfl
          · rfl
          · kernel_rfl
          · kernel_rfl
          · kernel_rfl
          · exact fun _ _ _ _ h => h
          apply Exists.intro
          apply And.intro
          · apply yr_run; rfl; intro w' hw'; go_simp; (try with_reducible rfl)
          simp only [Act.put, List.setIfInBounds_toArray, List.set_cons_zero, List.set_cons_succ]
          apply wpR_next 17 (some 154)
          · simp only [List.getElem?_toArray, List.getElem?_cons_succ, List.getElem?_cons_zero]; exact rfl
          · rfl
          · kernel_rfl
          · kernel_rfl
          · kernel_rfl
          · exact fun _ _ _ _ h => h
          apply Exists.intro
          apply And.intro
          · apply yr_run; rfl; intro w' hw'; go_simp; (try with_reducible rfl)
          simp only [Act.put, List.setIfInBounds_toArray, List.set_cons_zero, List.set_cons_succ]
          apply wpR_next 18 (some 4)
          · simp only [List.getElem?_toArray, List.getElem?_cons_succ, List.getElem?_cons_zero]; exact rfl
          · rfl
          · kernel_rfl
          · kernel_rfl
          · kernel_rfl
          · exact fun _ _ _ _ h => h
          apply Exists.intro
          apply And.intro
          · apply yr_run; rfl; intro w' hw'; go_simp; (try with_reducible rfl)
          simp only [Act.put, List.setIfInBounds_toArray, List.set_cons_zero, List.set_cons_succ]
          refine wpR_done (by kernel_rfl) ?_ _
          intro w927 hw'
          have Da_928 := Lib.hid (Da_922.out.bl hw')
          have D0_928 := Lib.hid (D0_922.out.bl hw')
          have L_928 := Lib.hid (L_922.out.bl hw')
          have Y_928 := Lib.hid (Y_922.out.bl hw')
          have Dc_928 := Lib.hid (Dc_922.out.bl hw')
          have Bel_928 := Lib.hid (bel_bl Bel_922.out hw')
          clear Da_922 D0_922 L_922 Y_922 Dc_922 Bel_922
          clear hw'
          go_wp2
          go_ret
          exact ⟨rfl, Bel_928.out⟩
        · have hxI : (ma : Int) ≤ (kx : Int) := by omega
          have hxI2 : decide ((ma : Int) ≤ (kx : Int)) = true := decide_eq_true hxI
          go_wp2
          go_ret
          exact ⟨rfl, HB3.out⟩
set_option maxRecDepth 100000 in
set_option maxHeartbeats 4000000 in
theorem law_darts (A : Option Addr) (n c : Nat) (Vs : List VC) (B : Option Addr) (m k : Nat) (Es : List EC) (x : Int) (w : World) (h : DgIn w A n c Vs B m k Es) (hg : GoodD Vs Es) (hn : n ≤ maxLen) (hm : m ≤ maxLen) :
    Calls Try.prog 5 #[.agg #[.slice A n c, .slice B m k], .int .i64 x] w fun e w' => e = .returned (.bool true) ∧ Below w.heap.size w w' := by
  by_cases hf : formD ((Vs.take 30).map fewV) (Es.take 50) = 0
  · exact darts_yes A n c Vs B m k Es x w h hg hn hm hf
  · exact darts_no A n c Vs B m k Es x w h hg hn hm hf
end Go.Proofs.Ytdhglhcpgmfpoaa
