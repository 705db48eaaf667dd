/- RingNext's walk. -/
import Derived.Test.YtgbkloilodgjfaaRgL4n
import Derived.Test.YtgbkloilodgjfaaRgJ
import Derived.Test.YtgbkloilodgjfaaCh
namespace Go.Proofs.Ytgbkloilodgjfaa
open Go.RowKit
set_option linter.unusedSimpArgs false
set_option linter.unusedVariables false

set_option maxRecDepth 100000 in
set_option maxHeartbeats 4000000 in
theorem law_rnext_b (A : Option Addr) (n c k : Nat) (L0 L : List D) (d : D) (w : World) (h : RdS w w.heap.size 3 A n c (dartsV L0)) (hn : n ≤ maxLen) (gL : onceD L0 = L) (hk : k < L.length) (gd : L.getD k (0, 0, 0) = d) (h3 : 3 ≤ L.length) :
    Calls Try.prog 10 #[.slice A n c, .agg #[.int .i64 d.1, .int .i64 d.2.1, .int .i64 d.2.2]] w fun e w' => e = .returned (.bool true) ∧ Below w.heap.size w w' := by
  obtain ⟨i0, hi, hz0, hz1, hz2⟩ := info_parts info_dart
  have R0 := Lib.hid h
  obtain ⟨hl40, hnd⟩ := onceD_len L0
  rw [gL] at hl40 hnd
  have hd : d ∈ L := gd ▸ getD_mem hk
  have hik : L.idxOf d = k := by rw [← gd, idx_of_get hnd hk]
  have hRN := fun j => ring_next (j := j) hnd hk
  have hlr := remR_len L d
  have hrl := rem_len hd
  have hnot : ¬ d ∈ turnD (remR L d) := fun x => rem_not hnd d (((rot_turn _).mem _).2 x)
  have hj := joined_facts hnd hd (by omega)
  obtain ⟨n1, gn⟩ : ∃ v, L.length = v := ⟨_, rfl⟩
  have HO : RowKit.Hid (∀ W, RdS W W.heap.size 3 A n c (dartsV L0) → Calls Try.prog 25 #[.slice A n c] W (GivesN W n1 L)) := Lib.hid (fun W h => givesN (gL ▸ once_any A n c L0 W h (by unfold maxLen at hn; omega)) gn)
  have HX := Lib.hid (fun A1 c1 W h => rindex_any A1 n1 c1 L d W h (by omega))
  rw [(idxD_mem hd).1, hik] at HX
  have HP := Lib.hid (fun A1 c1 W h => rprev_any A1 n1 c1 L d W h (by omega))
  have HN := Lib.hid (fun A1 c1 W h => rnext_any A1 n1 c1 L d W h (by omega))
  have HNa := Lib.hid (fun x A1 c1 W h => rnext_any A1 n1 c1 L x W h (by omega))
  rw [decide_eq_true hd] at HP HN
  obtain ⟨p, gp⟩ : ∃ v, prevD L d = v := ⟨_, rfl⟩
  obtain ⟨q, gq⟩ : ∃ v, nextD L d = v := ⟨_, rfl⟩
  rw [gp] at HP
  rw [gq] at HN
  obtain ⟨TM, gTM⟩ : ∃ v, turnD (remR L d) = v := ⟨_, rfl⟩
  obtain ⟨nM, gnM⟩ : ∃ v, TM.length = v := ⟨_, rfl⟩
  have hM : (n1 : Int) - 1 = (nM : Int) := by rw [← gnM, ← gTM, turnD_length]; omega
  have hM40 : nM ≤ 40 := by rw [← gnM, ← gTM, turnD_length]; omega
  have hMw : IntKind.i64.wrap (nM : Int) = (nM : Int) := IntWalk.i64_in _ (by omega)
  have HR := Lib.hid (fun A1 c1 W h => givesN (gTM ▸ rremove_any A1 n1 c1 L d W h (by omega)) gnM)
  rw [gTM] at hnot
  have HXm := Lib.hid (fun A1 c1 W h => rindex_any A1 nM c1 TM d W h (by omega))
  rw [idxD_no hnot] at HXm
  have HQ := Lib.hid (fun A1 c1 W h => rnext_any A1 nM c1 TM p W h (by omega))
  rw [gTM, gp, gq] at hj
  rw [hj] at HQ
  obtain ⟨okq, gok⟩ : ∃ v, decide (p ∈ TM) = v := ⟨_, rfl⟩
  rw [gok] at HQ
  have hq := fun W => eq_dart_run d d W
  have hq2 := fun W => eq_dart_run q q W
  rw [show decide (d = d) = true from decide_eq_true rfl] at hq
  rw [show decide (q = q) = true from decide_eq_true rfl] at hq2
  rw [gn] at hk
  simp only [gn, gd] at hRN
  have HRN := Lib.hid hRN
  have GD := Lib.hid gd
  have hn40 : n1 ≤ 40 := by omega
  have hmem : ∀ i, i < n1 → L.getD i (0, 0, 0) ∈ L := fun i hi => getD_mem (by omega)
  have HME := Lib.hid hmem
  have h3' : ¬ ((n1 : Int) < 3) := by omega
  have h3'' : ¬ (n1 < 3) := by omega
  have h3d : decide ((n1 : Int) < 3) = false := decide_eq_false h3'
  clear h hn gL gn hl40 hnd hd hik hRN hlr hrl hnot gp gq gTM gnM gd hmem h3 gok hj
  go_enter Try.func10, Try.ntmps10
  go_wp2_with fail
  refine (rg_shown _).mono ?_
  rintro e w1 ⟨rfl, hb1⟩
  have R0_2 := Lib.hid ((R0.out.al (.cells #[.int .i64 d.1, .int .i64 d.2.1, .int .i64 d.2.2] 46)).bl hb1)
  have Qd_2 := Lib.hid ((show Whole (w.alloc (.cells #[.int .i64 d.1, .int .i64 d.2.1, .int .i64 d.2.2] 46)) (w.heap.size) (46) (dartsV [d]) from Whole.new2 (by first | rfl | simp)).bl hb1)
  have Bel_2 := Lib.hid (bel_bl (bel_al (Below.refl _ w) (.cells #[.int .i64 d.1, .int .i64 d.2.1, .int .i64 d.2.2] 46)) hb1)
  clear hb1
  go_wp2_with fail
  refine (HO.out _ R0_2.out).mono ?_
  rintro e w3 ⟨A1, c1, rfl, hr1, hb3⟩
  have R0_4 := Lib.hid (R0_2.out.bl hb3)
  have Qd_4 := Lib.hid (Qd_2.out.bl hb3)
  have Bel_4 := Lib.hid (bel_bl Bel_2.out hb3)
  clear hb3
  have R1_4 := Lib.hid hr1
  clear hr1
  obtain ⟨b, off, rfl, _, _⟩ := R1_4.out.darts (by omega)
  have lw6 : (w3).cell? ⟨w.heap.size, 0, none⟩ = some (.int .i64 d.1) := Qd_4.out.cell (i := 0) rfl
  have lw7 : (w3).cell? ⟨w.heap.size, 1, none⟩ = some (.int .i64 d.2.1) := Qd_4.out.cell (i := 1) rfl
  have lw8 : (w3).cell? ⟨w.heap.size, 2, none⟩ = some (.int .i64 d.2.2) := Qd_4.out.cell (i := 2) rfl
  go_wp2_with fail
  clear lw6 lw7 lw8
  refine (HX.out _ _ _ R1_4.out).mono ?_
  rintro e w5 ⟨rfl, hb5⟩
  have Qd_9 := Lib.hid (Qd_4.out.bl hb5)
  have R1_9 := Lib.hid (R1_4.out.bl hb5)
  have Bel_9 := Lib.hid (bel_bl Bel_4.out hb5)
  clear hb5
  have lw11 : (w5).cell? ⟨w.heap.size, 0, none⟩ = some (.int .i64 d.1) := Qd_9.out.cell (i := 0) rfl
  have lw12 : (w5).cell? ⟨w.heap.size, 1, none⟩ = some (.int .i64 d.2.1) := Qd_9.out.cell (i := 1) rfl
  have lw13 : (w5).cell? ⟨w.heap.size, 2, none⟩ = some (.int .i64 d.2.2) := Qd_9.out.cell (i := 2) rfl
  go_wp2_with fail
  clear lw11 lw12 lw13
  refine (HP.out _ _ _ R1_9.out).mono ?_
  rintro e w10 ⟨rfl, hb10⟩
  have Qd_14 := Lib.hid (Qd_9.out.bl hb10)
  have R1_14 := Lib.hid (R1_9.out.bl hb10)
  have Bel_14 := Lib.hid (bel_bl Bel_9.out hb10)
  clear hb10
  have lw16 : ((w10.alloc (.cells #[.int .i64 p.1, .int .i64 p.2.1, .int .i64 p.2.2] 46))).cell? ⟨w.heap.size, 0, none⟩ = some (.int .i64 d.1) := (Qd_14.out.al (.cells #[.int .i64 p.1, .int .i64 p.2.1, .int .i64 p.2.2] 46)).cell (i := 0) rfl
  have lw17 : ((w10.alloc (.cells #[.int .i64 p.1, .int .i64 p.2.1, .int .i64 p.2.2] 46))).cell? ⟨w.heap.size, 1, none⟩ = some (.int .i64 d.2.1) := (Qd_14.out.al (.cells #[.int .i64 p.1, .int .i64 p.2.1, .int .i64 p.2.2] 46)).cell (i := 1) rfl
  have lw18 : ((w10.alloc (.cells #[.int .i64 p.1, .int .i64 p.2.1, .int .i64 p.2.2] 46))).cell? ⟨w.heap.size, 2, none⟩ = some (.int .i64 d.2.2) := (Qd_14.out.al (.cells #[.int .i64 p.1, .int .i64 p.2.1, .int .i64 p.2.2] 46)).cell (i := 2) rfl
  go_wp2_with fail
  clear lw16 lw17 lw18
  refine (HN.out _ _ _ (R1_14.out.al (.cells #[.int .i64 p.1, .int .i64 p.2.1, .int .i64 p.2.2] 46))).mono ?_
  rintro e w15 ⟨rfl, hb15⟩
  have Qd_19 := Lib.hid ((Qd_14.out.al (.cells #[.int .i64 p.1, .int .i64 p.2.1, .int .i64 p.2.2] 46)).bl hb15)
  have R1_19 := Lib.hid ((R1_14.out.al (.cells #[.int .i64 p.1, .int .i64 p.2.1, .int .i64 p.2.2] 46)).bl hb15)
  have Qp_19 := Lib.hid ((show Whole (w10.alloc (.cells #[.int .i64 p.1, .int .i64 p.2.1, .int .i64 p.2.2] 46)) (w10.heap.size) (46) (dartsV [p]) from Whole.new2 (by first | rfl | simp)).bl hb15)
  have Bel_19 := Lib.hid (bel_bl (bel_al Bel_14.out (.cells #[.int .i64 p.1, .int .i64 p.2.1, .int .i64 p.2.2] 46)) hb15)
  clear hb15
  have ls0 : ((w15.alloc (.cells #[.int .i64 q.1, .int .i64 q.2.1, .int .i64 q.2.2] 46))).cell? ⟨w.heap.size, 0, none⟩ = some (.int .i64 d.1) := (Qd_19.out.al (.cells #[.int .i64 q.1, .int .i64 q.2.1, .int .i64 q.2.2] 46)).cell (i := 0) rfl
  have ls1 : ((w15.alloc (.cells #[.int .i64 q.1, .int .i64 q.2.1, .int .i64 q.2.2] 46))).cell? ⟨w.heap.size, 1, none⟩ = some (.int .i64 d.2.1) := (Qd_19.out.al (.cells #[.int .i64 q.1, .int .i64 q.2.1, .int .i64 q.2.2] 46)).cell (i := 1) rfl
  have ls2 : ((w15.alloc (.cells #[.int .i64 q.1, .int .i64 q.2.1, .int .i64 q.2.2] 46))).cell? ⟨w.heap.size, 2, none⟩ = some (.int .i64 d.2.2) := (Qd_19.out.al (.cells #[.int .i64 q.1, .int .i64 q.2.1, .int .i64 q.2.2] 46)).cell (i := 2) rfl
  go_wp2
  clear ls0 ls1 ls2
  have hsz : w15.heap.size + 1 = ((w15.alloc (.cells #[.int .i64 q.1, .int .i64 q.2.1, .int .i64 q.2.2] 46))).heap.size := by simp
  rw [hsz]
  clear hsz
  have Qd_20 := Lib.hid ((Qd_19.out.al (.cells #[.int .i64 q.1, .int .i64 q.2.1, .int .i64 q.2.2] 46)))
  have R1_20 := Lib.hid ((R1_19.out.al (.cells #[.int .i64 q.1, .int .i64 q.2.1, .int .i64 q.2.2] 46)))
  have Qp_20 := Lib.hid ((Qp_19.out.al (.cells #[.int .i64 q.1, .int .i64 q.2.1, .int .i64 q.2.2] 46)))
  have Qn_20 := Lib.hid ((show Whole (w15.alloc (.cells #[.int .i64 q.1, .int .i64 q.2.1, .int .i64 q.2.2] 46)) (w15.heap.size) (46) (dartsV [q]) from Whole.new2 (by first | rfl | simp)))
  have Bel_20 := Lib.hid (bel_al Bel_19.out (.cells #[.int .i64 q.1, .int .i64 q.2.1, .int .i64 q.2.2] 46))
  obtain ⟨v20, gv20⟩ : ∃ x, (w15.alloc (.cells #[.int .i64 q.1, .int .i64 q.2.1, .int .i64 q.2.2] 46)) = x := ⟨_, rfl⟩
  rw [gv20] at Qd_20 R1_20 Qp_20 Qn_20 Bel_20 ⊢
  clear gv20
  go_loopw [12, 13, 14] (fun i _ _ wr => ∃ j : Nat, j ≤ n1 ∧ i = .int .i64 (j : Int) ∧ Below v20.heap.size v20 wr ∧ Whole wr v20.heap.size 46 (dartsV [L.getD ((k + j) % n1) (0, 0, 0)])) (fun i _ _ _ => n1 - (intOf i).toNat)
  case atStart =>
    refine ⟨0, Nat.zero_le _, rfl, below1 _ _, ?_⟩
    rw [Nat.add_zero, Nat.mod_eq_of_lt hk, GD.out]
    exact Whole.new_ _ _ (dartsV [d])
  case round =>
    obtain ⟨j, hj, rfl, hbw, hxx⟩ := hrel
    obtain ⟨x, gx⟩ : ∃ x, L.getD ((k + j) % n1) (0, 0, 0) = x := ⟨_, rfl⟩
    have hRN := HRN.out j
    have hxL := HME.out ((k + j) % n1) (Nat.mod_lt _ (by omega))
    rw [gx] at hxx hRN hxL
    have HXX := Lib.hid hxx
    have HBW := Lib.hid hbw
    have Qd_21 := Lib.hid (Qd_20.out.bl HBW.out)
    have R1_21 := Lib.hid (R1_20.out.bl HBW.out)
    have Qp_21 := Lib.hid (Qp_20.out.bl HBW.out)
    have Qn_21 := Lib.hid (Qn_20.out.bl HBW.out)
    have Bel_21 := Lib.hid (bel_bl Bel_20.out HBW.out)
    by_cases hlt : j < n1
    · obtain ⟨h1, h2⟩ := hRN hlt
      obtain ⟨y, gy⟩ : ∃ y, L.getD ((k + (j + 1)) % n1) (0, 0, 0) = y := ⟨_, rfl⟩
      rw [gy] at h1 h2
      have HNx := Lib.hid (HNa.out x)
      rw [h1, decide_eq_true hxL] at HNx
      have hlti : (j : Int) < (n1 : Int) := by omega
      have GY := Lib.hid gy
      have GX := Lib.hid gx
      clear h1 gy gx hRN hxL
      have lw23 : (wr).cell? ⟨v20.heap.size, 0, none⟩ = some (.int .i64 x.1) := HXX.out.cell (i := 0) rfl
      have lw24 : (wr).cell? ⟨v20.heap.size, 1, none⟩ = some (.int .i64 x.2.1) := HXX.out.cell (i := 1) rfl
      have lw25 : (wr).cell? ⟨v20.heap.size, 2, none⟩ = some (.int .i64 x.2.2) := HXX.out.cell (i := 2) rfl
      go_wp2_with fail
      clear lw23 lw24 lw25
      refine (HNx.out _ _ _ R1_21.out).mono ?_
      rintro e w22 ⟨rfl, hb22⟩
      have Qd_26 := Lib.hid (Qd_21.out.bl hb22)
      have R1_26 := Lib.hid (R1_21.out.bl hb22)
      have Qp_26 := Lib.hid (Qp_21.out.bl hb22)
      have Qn_26 := Lib.hid (Qn_21.out.bl hb22)
      have Qx_26 := Lib.hid (HXX.out.bl hb22)
      have Bel_26 := Lib.hid (bel_bl HBW.out hb22)
      clear hb22
      have lQd0 : ((w22.alloc (.cells #[.int .i64 y.1, .int .i64 y.2.1, .int .i64 y.2.2] 46))).cell? ⟨w.heap.size, 0, none⟩ = some (.int .i64 d.1) := (Qd_26.out.al (.cells #[.int .i64 y.1, .int .i64 y.2.1, .int .i64 y.2.2] 46)).cell (i := 0) rfl
      have lQd1 : ((w22.alloc (.cells #[.int .i64 y.1, .int .i64 y.2.1, .int .i64 y.2.2] 46))).cell? ⟨w.heap.size, 1, none⟩ = some (.int .i64 d.2.1) := (Qd_26.out.al (.cells #[.int .i64 y.1, .int .i64 y.2.1, .int .i64 y.2.2] 46)).cell (i := 1) rfl
      have lQd2 : ((w22.alloc (.cells #[.int .i64 y.1, .int .i64 y.2.1, .int .i64 y.2.2] 46))).cell? ⟨w.heap.size, 2, none⟩ = some (.int .i64 d.2.2) := (Qd_26.out.al (.cells #[.int .i64 y.1, .int .i64 y.2.1, .int .i64 y.2.2] 46)).cell (i := 2) rfl
      have lQy0 : ((w22.alloc (.cells #[.int .i64 y.1, .int .i64 y.2.1, .int .i64 y.2.2] 46))).cell? ⟨w22.heap.size, 0, none⟩ = some (.int .i64 y.1) := (show Whole (w22.alloc (.cells #[.int .i64 y.1, .int .i64 y.2.1, .int .i64 y.2.2] 46)) (w22.heap.size) (46) (dartsV [y]) from Whole.new2 (by first | rfl | simp)).cell (i := 0) rfl
      have lQy1 : ((w22.alloc (.cells #[.int .i64 y.1, .int .i64 y.2.1, .int .i64 y.2.2] 46))).cell? ⟨w22.heap.size, 1, none⟩ = some (.int .i64 y.2.1) := (show Whole (w22.alloc (.cells #[.int .i64 y.1, .int .i64 y.2.1, .int .i64 y.2.2] 46)) (w22.heap.size) (46) (dartsV [y]) from Whole.new2 (by first | rfl | simp)).cell (i := 1) rfl
      have lQy2 : ((w22.alloc (.cells #[.int .i64 y.1, .int .i64 y.2.1, .int .i64 y.2.2] 46))).cell? ⟨w22.heap.size, 2, none⟩ = some (.int .i64 y.2.2) := (show Whole (w22.alloc (.cells #[.int .i64 y.1, .int .i64 y.2.1, .int .i64 y.2.2] 46)) (w22.heap.size) (46) (dartsV [y]) from Whole.new2 (by first | rfl | simp)).cell (i := 2) rfl
      have lQx0 : ((w22.alloc (.cells #[.int .i64 y.1, .int .i64 y.2.1, .int .i64 y.2.2] 46))).cell? ⟨v20.heap.size, 0, none⟩ = some (.int .i64 x.1) := (Qx_26.out.al (.cells #[.int .i64 y.1, .int .i64 y.2.1, .int .i64 y.2.2] 46)).cell (i := 0) rfl
      have lQx1 : ((w22.alloc (.cells #[.int .i64 y.1, .int .i64 y.2.1, .int .i64 y.2.2] 46))).cell? ⟨v20.heap.size, 1, none⟩ = some (.int .i64 x.2.1) := (Qx_26.out.al (.cells #[.int .i64 y.1, .int .i64 y.2.1, .int .i64 y.2.2] 46)).cell (i := 1) rfl
      have lQx2 : ((w22.alloc (.cells #[.int .i64 y.1, .int .i64 y.2.1, .int .i64 y.2.2] 46))).cell? ⟨v20.heap.size, 2, none⟩ = some (.int .i64 x.2.2) := (Qx_26.out.al (.cells #[.int .i64 y.1, .int .i64 y.2.1, .int .i64 y.2.2] 46)).cell (i := 2) rfl
      have fz0 : ((w22.alloc (.cells #[.int .i64 y.1, .int .i64 y.2.1, .int .i64 y.2.2] 46))).frozen? ⟨v20.heap.size, 0, none⟩ = false := (Qx_26.out.al (.cells #[.int .i64 y.1, .int .i64 y.2.1, .int .i64 y.2.2] 46)).free 0
      have fz1 : ((w22.alloc (.cells #[.int .i64 y.1, .int .i64 y.2.1, .int .i64 y.2.2] 46))).frozen? ⟨v20.heap.size, 1, none⟩ = false := (Qx_26.out.al (.cells #[.int .i64 y.1, .int .i64 y.2.1, .int .i64 y.2.2] 46)).free 1
      have fz2 : ((w22.alloc (.cells #[.int .i64 y.1, .int .i64 y.2.1, .int .i64 y.2.2] 46))).frozen? ⟨v20.heap.size, 2, none⟩ = false := (Qx_26.out.al (.cells #[.int .i64 y.1, .int .i64 y.2.1, .int .i64 y.2.2] 46)).free 2
      have HY := Lib.hid (Qx_26.out.al (.cells #[.int .i64 y.1, .int .i64 y.2.1, .int .i64 y.2.2] 46))
      have HB2 : RowKit.Hid (Below v20.heap.size v20 (w22.alloc (.cells #[.int .i64 y.1, .int .i64 y.2.1, .int .i64 y.2.2] 46))) := Lib.hid (bel_al Bel_26.out (.cells #[.int .i64 y.1, .int .i64 y.2.1, .int .i64 y.2.2] 46))
      by_cases hje : j + 1 = n1
      · obtain rfl := h2.2 hje
        have hsub : (n1 : Int) - 1 = (j : Int) := by omega
        clear h2
        go_wp2_with fail
        go_roundw
        case rel =>
          refine ⟨j + 1, by omega, by go_num, ((HB2.out.setCell (Nat.le_refl _) _).setCell (Nat.le_refl _) _).setCell (Nat.le_refl _) _, ?_⟩
          rw [GY.out]
          exact ((HY.out.set_ 0 _).set_ 1 _).set_ 2 _
        case measure => simp [intOf]; omega
      · have hne : ¬ y = d := fun q => hje (h2.1 q)
        have hqn := fun W => eq_dart_run y d W
        rw [decide_eq_false hne] at hqn
        clear h2 hne
        go_wp2_with fail
        go_roundw
        case rel =>
          refine ⟨j + 1, by omega, by go_num, ((HB2.out.setCell (Nat.le_refl _) _).setCell (Nat.le_refl _) _).setCell (Nat.le_refl _) _, ?_⟩
          rw [GY.out]
          exact ((HY.out.set_ 0 _).set_ 1 _).set_ 2 _
        case measure => simp [intOf]; omega
    · have hjn : j = n1 := by omega
      subst hjn
      have hxd : x = d := by rw [← gx, Nat.add_mod_right, Nat.mod_eq_of_lt hk, GD.out]
      subst hxd
      clear hRN hxL gx hlt
      have lw29 : (wr).cell? ⟨w.heap.size, 0, none⟩ = some (.int .i64 x.1) := Qd_21.out.cell (i := 0) rfl
      have lw30 : (wr).cell? ⟨w.heap.size, 1, none⟩ = some (.int .i64 x.2.1) := Qd_21.out.cell (i := 1) rfl
      have lw31 : (wr).cell? ⟨w.heap.size, 2, none⟩ = some (.int .i64 x.2.2) := Qd_21.out.cell (i := 2) rfl
      go_wp2_with fail
      clear lw29 lw30 lw31
      refine (HR.out _ _ _ R1_21.out).mono ?_
      rintro e w28 ⟨A3, c3, rfl, hr3, hb28⟩
      have Qd_32 := Lib.hid (Qd_21.out.bl hb28)
      have R1_32 := Lib.hid (R1_21.out.bl hb28)
      have Qp_32 := Lib.hid (Qp_21.out.bl hb28)
      have Qn_32 := Lib.hid (Qn_21.out.bl hb28)
      have Qx_32 := Lib.hid (HXX.out.bl hb28)
      have Bel_32 := Lib.hid (bel_bl Bel_21.out hb28)
      clear hb28
      have RM_32 := Lib.hid hr3
      clear hr3
      have lw34 : (w28).cell? ⟨w10.heap.size, 0, none⟩ = some (.int .i64 p.1) := Qp_32.out.cell (i := 0) rfl
      have lw35 : (w28).cell? ⟨w10.heap.size, 1, none⟩ = some (.int .i64 p.2.1) := Qp_32.out.cell (i := 1) rfl
      have lw36 : (w28).cell? ⟨w10.heap.size, 2, none⟩ = some (.int .i64 p.2.2) := Qp_32.out.cell (i := 2) rfl
      go_wp2_with fail
      clear lw34 lw35 lw36
      refine (HQ.out _ _ _ RM_32.out).mono ?_
      rintro e w33 ⟨rfl, hb33⟩
      have Qd_37 := Lib.hid (Qd_32.out.bl hb33)
      have R1_37 := Lib.hid (R1_32.out.bl hb33)
      have Qp_37 := Lib.hid (Qp_32.out.bl hb33)
      have Qn_37 := Lib.hid (Qn_32.out.bl hb33)
      have Qx_37 := Lib.hid (Qx_32.out.bl hb33)
      have RM_37 := Lib.hid (RM_32.out.bl hb33)
      have Bel_37 := Lib.hid (bel_bl Bel_32.out hb33)
      clear hb33
      have lw38 : ((w33.alloc (.cells #[.int .i64 q.1, .int .i64 q.2.1, .int .i64 q.2.2] 46))).cell? ⟨w33.heap.size, 0, none⟩ = some (.int .i64 q.1) := (show Whole (w33.alloc (.cells #[.int .i64 q.1, .int .i64 q.2.1, .int .i64 q.2.2] 46)) (w33.heap.size) (46) (dartsV [q]) from Whole.new2 (by first | rfl | simp)).cell (i := 0) rfl
      have lw39 : ((w33.alloc (.cells #[.int .i64 q.1, .int .i64 q.2.1, .int .i64 q.2.2] 46))).cell? ⟨w33.heap.size, 1, none⟩ = some (.int .i64 q.2.1) := (show Whole (w33.alloc (.cells #[.int .i64 q.1, .int .i64 q.2.1, .int .i64 q.2.2] 46)) (w33.heap.size) (46) (dartsV [q]) from Whole.new2 (by first | rfl | simp)).cell (i := 1) rfl
      have lw40 : ((w33.alloc (.cells #[.int .i64 q.1, .int .i64 q.2.1, .int .i64 q.2.2] 46))).cell? ⟨w33.heap.size, 2, none⟩ = some (.int .i64 q.2.2) := (show Whole (w33.alloc (.cells #[.int .i64 q.1, .int .i64 q.2.1, .int .i64 q.2.2] 46)) (w33.heap.size) (46) (dartsV [q]) from Whole.new2 (by first | rfl | simp)).cell (i := 2) rfl
      have lw41 : ((w33.alloc (.cells #[.int .i64 q.1, .int .i64 q.2.1, .int .i64 q.2.2] 46))).cell? ⟨w15.heap.size, 0, none⟩ = some (.int .i64 q.1) := (Qn_37.out.al (.cells #[.int .i64 q.1, .int .i64 q.2.1, .int .i64 q.2.2] 46)).cell (i := 0) rfl
      have lw42 : ((w33.alloc (.cells #[.int .i64 q.1, .int .i64 q.2.1, .int .i64 q.2.2] 46))).cell? ⟨w15.heap.size, 1, none⟩ = some (.int .i64 q.2.1) := (Qn_37.out.al (.cells #[.int .i64 q.1, .int .i64 q.2.1, .int .i64 q.2.2] 46)).cell (i := 1) rfl
      have lw43 : ((w33.alloc (.cells #[.int .i64 q.1, .int .i64 q.2.1, .int .i64 q.2.2] 46))).cell? ⟨w15.heap.size, 2, none⟩ = some (.int .i64 q.2.2) := (Qn_37.out.al (.cells #[.int .i64 q.1, .int .i64 q.2.1, .int .i64 q.2.2] 46)).cell (i := 2) rfl
      go_upto_region 21 with fail
      clear lw38 lw39 lw40 lw41 lw42 lw43
      have Qd_44 := Lib.hid ((Qd_37.out.al (.cells #[.int .i64 q.1, .int .i64 q.2.1, .int .i64 q.2.2] 46)))
      have R1_44 := Lib.hid ((R1_37.out.al (.cells #[.int .i64 q.1, .int .i64 q.2.1, .int .i64 q.2.2] 46)))
      have Qp_44 := Lib.hid ((Qp_37.out.al (.cells #[.int .i64 q.1, .int .i64 q.2.1, .int .i64 q.2.2] 46)))
      have Qn_44 := Lib.hid ((Qn_37.out.al (.cells #[.int .i64 q.1, .int .i64 q.2.1, .int .i64 q.2.2] 46)))
      have Qx_44 := Lib.hid ((Qx_37.out.al (.cells #[.int .i64 q.1, .int .i64 q.2.1, .int .i64 q.2.2] 46)))
      have RM_44 := Lib.hid ((RM_37.out.al (.cells #[.int .i64 q.1, .int .i64 q.2.1, .int .i64 q.2.2] 46)))
      have Q9_44 := Lib.hid ((show Whole (w33.alloc (.cells #[.int .i64 q.1, .int .i64 q.2.1, .int .i64 q.2.2] 46)) (w33.heap.size) (46) (dartsV [q]) from Whole.new2 (by first | rfl | simp)))
      have Bel_44 := Lib.hid (bel_al Bel_37.out (.cells #[.int .i64 q.1, .int .i64 q.2.1, .int .i64 q.2.2] 46))
      obtain ⟨v44, gv44⟩ : ∃ x, (w33.alloc (.cells #[.int .i64 q.1, .int .i64 q.2.1, .int .i64 q.2.2] 46)) = x := ⟨_, rfl⟩
      rw [gv44] at Qd_44 R1_44 Qp_44 Qn_44 Qx_44 RM_44 Q9_44 Bel_44 ⊢
      clear gv44
      have Qd_45 := Lib.hid (Qd_44.out.dr)
      have R1_45 := Lib.hid (R1_44.out.dr)
      have Qp_45 := Lib.hid (Qp_44.out.dr)
      have Qn_45 := Lib.hid (Qn_44.out.dr)
      have Qx_45 := Lib.hid (Qx_44.out.dr)
      have RM_45 := Lib.hid (RM_44.out.dr)
      have Q9_45 := Lib.hid (Q9_44.out.dr)
      have Bel_45 := Lib.hid (bel_dr Bel_44.out)
      have ld46 : ∀ w', Kept Nil_ v44.drew w' → w'.cell? ⟨b, off + k * 3, none⟩ = some (.int .i64 x.1) := fun w' h => h.nil_cell ((R1_45.out.dat hk GD.out).1)
      have ld47 : ∀ w', Kept Nil_ v44.drew w' → w'.cell? ⟨b, off + k * 3 + 1, none⟩ = some (.int .i64 x.2.1) := fun w' h => h.nil_cell ((R1_45.out.dat hk GD.out).2.1)
      have ld48 : ∀ w', Kept Nil_ v44.drew w' → w'.cell? ⟨b, off + k * 3 + 2, none⟩ = some (.int .i64 x.2.2) := fun w' h => h.nil_cell ((R1_45.out.dat hk GD.out).2.2)
      have ld49 : ∀ w', Kept Nil_ v44.drew w' → w'.cell? ⟨w.heap.size, 0, none⟩ = some (.int .i64 x.1) := fun w' h => h.nil_cell (Qd_45.out.cell (i := 0) rfl)
      have ld50 : ∀ w', Kept Nil_ v44.drew w' → w'.cell? ⟨w.heap.size, 1, none⟩ = some (.int .i64 x.2.1) := fun w' h => h.nil_cell (Qd_45.out.cell (i := 1) rfl)
      have ld51 : ∀ w', Kept Nil_ v44.drew w' → w'.cell? ⟨w.heap.size, 2, none⟩ = some (.int .i64 x.2.2) := fun w' h => h.nil_cell (Qd_45.out.cell (i := 2) rfl)
      have ld52 : ∀ w', Kept Nil_ v44.drew w' → w'.cell? ⟨v20.heap.size, 0, none⟩ = some (.int .i64 x.1) := fun w' h => h.nil_cell (Qx_45.out.cell (i := 0) rfl)
      have ld53 : ∀ w', Kept Nil_ v44.drew w' → w'.cell? ⟨v20.heap.size, 1, none⟩ = some (.int .i64 x.2.1) := fun w' h => h.nil_cell (Qx_45.out.cell (i := 1) rfl)
      have ld54 : ∀ w', Kept Nil_ v44.drew w' → w'.cell? ⟨v20.heap.size, 2, none⟩ = some (.int .i64 x.2.2) := fun w' h => h.nil_cell (Qx_45.out.cell (i := 2) rfl)
      refine wp_region_reg Nil_ (by kernel_rfl) ?_
      apply wpR_next 0 (some 103)
      · simp only [List.getElem?_toArray, List.getElem?_cons_succ, List.getElem?_cons_zero]; exact rfl
      · rfl
      · kernel_rfl
      · kernel_rfl
      · kernel_rfl
      · exact fun _ _ _ _ h => h
      apply Exists.intro
      apply And.intro
      · apply yr_run; rfl; intro w' hw'; go_simp; (try with_reducible rfl)
      simp only [Act.put, List.setIfInBounds_toArray, List.set_cons_zero, List.set_cons_succ]
      apply wpR_next 1 (some 104)
      · simp only [List.getElem?_toArray, List.getElem?_cons_succ, List.getElem?_cons_zero]; exact rfl
      · rfl
      · kernel_rfl
      · kernel_rfl
      · kernel_rfl
      · exact fun _ _ _ _ h => h
      apply Exists.intro
      apply And.intro
      · apply yr_run; rfl; intro w' hw'; go_simp; (try with_reducible rfl)
      simp only [Act.put, List.setIfInBounds_toArray, List.set_cons_zero, List.set_cons_succ]
      apply wpR_next 2 (some 105)
      · simp only [List.getElem?_toArray, List.getElem?_cons_succ, List.getElem?_cons_zero]; exact rfl
      · rfl
      · kernel_rfl
      · kernel_rfl
      · kernel_rfl
      · exact fun _ _ _ _ h => h
      apply Exists.intro
      apply And.intro
      · apply yr_run; rfl; intro w' hw'; go_simp; (try with_reducible rfl)
      simp only [Act.put, List.setIfInBounds_toArray, List.set_cons_zero, List.set_cons_succ]
      apply wpR_next 3 (some 106)
      · simp only [List.getElem?_toArray, List.getElem?_cons_succ, List.getElem?_cons_zero]; exact rfl
      · rfl
      · kernel_rfl
      · kernel_rfl
      · kernel_rfl
      · exact fun _ _ _ _ h => h
      apply Exists.intro
      apply And.intro
      · apply yr_run; rfl; intro w' hw'; go_simp; (try with_reducible rfl)
      simp only [Act.put, List.setIfInBounds_toArray, List.set_cons_zero, List.set_cons_succ]
      apply wpR_next 4 (some 107)
      · simp only [List.getElem?_toArray, List.getElem?_cons_succ, List.getElem?_cons_zero]; exact rfl
      · rfl
      · kernel_rfl
      · kernel_rfl
      · kernel_rfl
      · exact fun _ _ _ _ h => h
      apply Exists.intro
      apply And.intro
      · apply yr_run; rfl; intro w' hw'; go_simp; (try with_reducible rfl)
      simp only [Act.put, List.setIfInBounds_toArray, List.set_cons_zero, List.set_cons_succ]
      apply wpR_next 5 (some 108)
      · simp only [List.getElem?_toArray, List.getElem?_cons_succ, List.getElem?_cons_zero]; exact rfl
      · rfl
      · kernel_rfl
      · kernel_rfl
      · kernel_rfl
      · exact fun _ _ _ _ h => h
      apply Exists.intro
      apply And.intro
      · apply yr_run; rfl; intro w' hw'; go_simp; (try with_reducible rfl)
      simp only [Act.put, List.setIfInBounds_toArray, List.set_cons_zero, List.set_cons_succ]
      apply wpR_next 6 (some 109)
      · simp only [List.getElem?_toArray, List.getElem?_cons_succ, List.getElem?_cons_zero]; exact rfl
      · rfl
      · kernel_rfl
      · kernel_rfl
      · kernel_rfl
      · exact fun _ _ _ _ h => h
      apply Exists.intro
      apply And.intro
      · apply yr_run; rfl; intro w' hw'; go_simp; (try with_reducible rfl)
      simp only [Act.put, List.setIfInBounds_toArray, List.set_cons_zero, List.set_cons_succ]
      apply wpR_next 7 (some 110)
      · simp only [List.getElem?_toArray, List.getElem?_cons_succ, List.getElem?_cons_zero]; exact rfl
      · rfl
      · kernel_rfl
      · kernel_rfl
      · kernel_rfl
      · exact fun _ _ _ _ h => h
      apply Exists.intro
      apply And.intro
      · apply yr_run; rfl; intro w' hw'; go_simp; (try with_reducible rfl)
      simp only [Act.put, List.setIfInBounds_toArray, List.set_cons_zero, List.set_cons_succ]
      apply wpR_next 8 (some 111)
      · simp only [List.getElem?_toArray, List.getElem?_cons_succ, List.getElem?_cons_zero]; exact rfl
      · rfl
      · kernel_rfl
      · kernel_rfl
      · kernel_rfl
      · exact fun _ _ _ _ h => h
      apply Exists.intro
      apply And.intro
      · apply yr_run; rfl; intro w' hw'; go_simp; (try with_reducible rfl)
      simp only [Act.put, List.setIfInBounds_toArray, List.set_cons_zero, List.set_cons_succ]
      apply wpR_next 9 (some 112)
      · simp only [List.getElem?_toArray, List.getElem?_cons_succ, List.getElem?_cons_zero]; exact rfl
      · rfl
      · kernel_rfl
      · kernel_rfl
      · kernel_rfl
      · exact fun _ _ _ _ h => h
      apply Exists.intro
      apply And.intro
      · apply yr_run; rfl; intro w' hw'; go_simp; (try with_reducible rfl)
      simp only [Act.put, List.setIfInBounds_toArray, List.set_cons_zero, List.set_cons_succ]
      apply wpR_next 10 (some 113)
      · simp only [List.getElem?_toArray, List.getElem?_cons_succ, List.getElem?_cons_zero]; exact rfl
      · rfl
      · kernel_rfl
      · kernel_rfl
      · kernel_rfl
      · exact fun _ _ _ _ h => h
      apply Exists.intro
      apply And.intro
      · apply yr_run; rfl; intro w' hw'; go_simp; (try with_reducible rfl)
      simp only [Act.put, List.setIfInBounds_toArray, List.set_cons_zero, List.set_cons_succ]
      apply wpR_next 11 (some 114)
      · simp only [List.getElem?_toArray, List.getElem?_cons_succ, List.getElem?_cons_zero]; exact rfl
      · rfl
      · kernel_rfl
      · kernel_rfl
      · kernel_rfl
      · exact fun _ _ _ _ h => h
      apply Exists.intro
      apply And.intro
      · apply yr_run; rfl; intro w' hw'; go_simp; (try with_reducible rfl)
      simp only [Act.put, List.setIfInBounds_toArray, List.set_cons_zero, List.set_cons_succ]
      apply wpR_next 12 (some 115)
      · simp only [List.getElem?_toArray, List.getElem?_cons_succ, List.getElem?_cons_zero]; exact rfl
      · rfl
      · kernel_rfl
      · kernel_rfl
      · kernel_rfl
      · exact fun _ _ _ _ h => h
      apply Exists.intro
      apply And.intro
      · apply yr_run; rfl; intro w' hw'; go_simp; (try with_reducible rfl)
      simp only [Act.put, List.setIfInBounds_toArray, List.set_cons_zero, List.set_cons_succ]
      apply wpR_next 13 (some 116)
      · simp only [List.getElem?_toArray, List.getElem?_cons_succ, List.getElem?_cons_zero]; exact rfl
      · rfl
      · kernel_rfl
      · kernel_rfl
      · kernel_rfl
      · exact fun _ _ _ _ h => h
      apply Exists.intro
      apply And.intro
      · apply yr_run; rfl; intro w' hw'; go_simp; (try with_reducible rfl)
      simp only [Act.put, List.setIfInBounds_toArray, List.set_cons_zero, List.set_cons_succ]
      apply wpR_next 14 (some 117)
      · simp only [List.getElem?_toArray, List.getElem?_cons_succ, List.getElem?_cons_zero]; exact rfl
      · rfl
      · kernel_rfl
      · kernel_rfl
      · kernel_rfl
      · exact fun _ _ _ _ h => h
      apply Exists.intro
      apply And.intro
      · apply yr_run; rfl; intro w' hw'; go_simp; (try with_reducible rfl)
      simp only [Act.put, List.setIfInBounds_toArray, List.set_cons_zero, List.set_cons_succ]
      apply wpR_next 15 (some 118)
      · simp only [List.getElem?_toArray, List.getElem?_cons_succ, List.getElem?_cons_zero]; exact rfl
      · rfl
      · kernel_rfl
      · kernel_rfl
      · kernel_rfl
      · exact fun _ _ _ _ h => h
      apply Exists.intro
      apply And.intro
      · apply yr_run; rfl; intro w' hw'; go_simp; (try with_reducible rfl)
      simp only [Act.put, List.setIfInBounds_toArray, List.set_cons_zero, List.set_cons_succ]
      apply wpR_next 16 (some 119)
      · simp only [List.getElem?_toArray, List.getElem?_cons_succ, List.getElem?_cons_zero]; exact rfl
      · rfl
      · kernel_rfl
      · kernel_rfl
      · kernel_rfl
      · exact fun _ _ _ _ h => h
      apply Exists.intro
      apply And.intro
      · apply yr_run; rfl; intro w' hw'; go_simp; (try with_reducible rfl)
      simp only [Act.put, List.setIfInBounds_toArray, List.set_cons_zero, List.set_cons_succ]
      apply wpR_next 17 (some 120)
      · simp only [List.getElem?_toArray, List.getElem?_cons_succ, List.getElem?_cons_zero]; exact rfl
      · rfl
      · kernel_rfl
      · kernel_rfl
      · kernel_rfl
      · exact fun _ _ _ _ h => h
      apply Exists.intro
      apply And.intro
      · apply yr_run; rfl; intro w' hw'; go_simp; (try with_reducible rfl)
      simp only [Act.put, List.setIfInBounds_toArray, List.set_cons_zero, List.set_cons_succ]
      apply wpR_next 18 (some 121)
      · simp only [List.getElem?_toArray, List.getElem?_cons_succ, List.getElem?_cons_zero]; exact rfl
      · rfl
      · kernel_rfl
      · kernel_rfl
      · kernel_rfl
      · exact fun _ _ _ _ h => h
      apply Exists.intro
      apply And.intro
      · apply yr_run; rfl; intro w' hw'; go_simp; (try with_reducible rfl)
      simp only [Act.put, List.setIfInBounds_toArray, List.set_cons_zero, List.set_cons_succ]
      apply wpR_next 19 (some 122)
      · simp only [List.getElem?_toArray, List.getElem?_cons_succ, List.getElem?_cons_zero]; exact rfl
      · rfl
      · kernel_rfl
      · kernel_rfl
      · kernel_rfl
      · exact fun _ _ _ _ h => h
      apply Exists.intro
      apply And.intro
      · apply yr_run; rfl; intro w' hw'; go_simp; (try with_reducible rfl)
      simp only [Act.put, List.setIfInBounds_toArray, List.set_cons_zero, List.set_cons_succ]
      apply wpR_next 20 (some 123)
      · simp only [List.getElem?_toArray, List.getElem?_cons_succ, List.getElem?_cons_zero]; exact rfl
      · rfl
      · kernel_rfl
      · kernel_rfl
      · kernel_rfl
      · exact fun _ _ _ _ h => h
      apply Exists.intro
      apply And.intro
      · apply yr_run; rfl; intro w' hw'; go_simp; (try with_reducible rfl)
      simp only [Act.put, List.setIfInBounds_toArray, List.set_cons_zero, List.set_cons_succ]
      apply wpR_next 21 (some 124)
      · simp only [List.getElem?_toArray, List.getElem?_cons_succ, List.getElem?_cons_zero]; exact rfl
      · rfl
      · kernel_rfl
      · kernel_rfl
      · kernel_rfl
      · exact fun _ _ _ _ h => h
      apply Exists.intro
      apply And.intro
      · apply yr_run; rfl; intro w' hw'; go_simp; (try with_reducible rfl)
      simp only [Act.put, List.setIfInBounds_toArray, List.set_cons_zero, List.set_cons_succ]
      apply wpR_next 22 (some 125)
      · simp only [List.getElem?_toArray, List.getElem?_cons_succ, List.getElem?_cons_zero]; exact rfl
      · rfl
      · kernel_rfl
      · kernel_rfl
      · kernel_rfl
      · exact fun _ _ _ _ h => h
      apply Exists.intro
      apply And.intro
      · apply yr_run; rfl; intro w' hw'; go_simp; (try with_reducible rfl)
      simp only [Act.put, List.setIfInBounds_toArray, List.set_cons_zero, List.set_cons_succ]
      apply wpR_next 23 (some 126)
      · simp only [List.getElem?_toArray, List.getElem?_cons_succ, List.getElem?_cons_zero]; exact rfl
      · rfl
      · kernel_rfl
      · kernel_rfl
      · kernel_rfl
      · exact fun _ _ _ _ h => h
      apply Exists.intro
      apply And.intro
      · apply yr_run; rfl; intro w' hw'; go_simp; (try with_reducible rfl)
      simp only [Act.put, List.setIfInBounds_toArray, List.set_cons_zero, List.set_cons_succ]
      apply wpR_next 24 (some 127)
      · simp only [List.getElem?_toArray, List.getElem?_cons_succ, List.getElem?_cons_zero]; exact rfl
      · rfl
      · kernel_rfl
      · kernel_rfl
      · kernel_rfl
      · exact fun _ _ _ _ h => h
      apply Exists.intro
      apply And.intro
      · apply yr_run; rfl; intro w' hw'; go_simp; (try with_reducible rfl)
      simp only [Act.put, List.setIfInBounds_toArray, List.set_cons_zero, List.set_cons_succ]
      apply wpR_next 25 (some 128)
      · simp only [List.getElem?_toArray, List.getElem?_cons_succ, List.getElem?_cons_zero]; exact rfl
      · rfl
      · kernel_rfl
      · kernel_rfl
      · kernel_rfl
      · exact fun _ _ _ _ h => h
      apply Exists.intro
      apply And.intro
      · apply yr_run; rfl; intro w' hw'; go_simp; (try with_reducible rfl)
      simp only [Act.put, List.setIfInBounds_toArray, List.set_cons_zero, List.set_cons_succ]
      apply wpR_next 26 (some 129)
      · simp only [List.getElem?_toArray, List.getElem?_cons_succ, List.getElem?_cons_zero]; exact rfl
      · rfl
      · kernel_rfl
      · kernel_rfl
      · kernel_rfl
      · exact fun _ _ _ _ h => h
      apply Exists.intro
      apply And.intro
      · apply yr_run; rfl; intro w' hw'; go_simp; (try with_reducible rfl)
      simp only [Act.put, List.setIfInBounds_toArray, List.set_cons_zero, List.set_cons_succ]
      apply wpR_next 27 (some 130)
      · simp only [List.getElem?_toArray, List.getElem?_cons_succ, List.getElem?_cons_zero]; exact rfl
      · rfl
      · kernel_rfl
      · kernel_rfl
      · kernel_rfl
      · exact fun _ _ _ _ h => h
      apply Exists.intro
      apply And.intro
      · apply yr_run; rfl; intro w' hw'; go_simp; (try with_reducible rfl)
      simp only [Act.put, List.setIfInBounds_toArray, List.set_cons_zero, List.set_cons_succ]
      apply wpR_next 28 (some 131)
      · simp only [List.getElem?_toArray, List.getElem?_cons_succ, List.getElem?_cons_zero]; exact rfl
      · rfl
      · kernel_rfl
      · kernel_rfl
      · kernel_rfl
      · exact fun _ _ _ _ h => h
      apply Exists.intro
      apply And.intro
      · apply yr_run; rfl; intro w' hw'; go_simp; (try with_reducible rfl)
      simp only [Act.put, List.setIfInBounds_toArray, List.set_cons_zero, List.set_cons_succ]
      apply wpR_next 29 (some 132)
      · simp only [List.getElem?_toArray, List.getElem?_cons_succ, List.getElem?_cons_zero]; exact rfl
      · rfl
      · kernel_rfl
      · kernel_rfl
      · kernel_rfl
      · exact fun _ _ _ _ h => h
      apply Exists.intro
      apply And.intro
      · apply yr_run; rfl; intro w' hw'; go_simp; (try with_reducible rfl)
      simp only [Act.put, List.setIfInBounds_toArray, List.set_cons_zero, List.set_cons_succ]
      apply wpR_next 30 (some 133)
      · simp only [List.getElem?_toArray, List.getElem?_cons_succ, List.getElem?_cons_zero]; exact rfl
      · rfl
      · kernel_rfl
      · kernel_rfl
      · kernel_rfl
      · exact fun _ _ _ _ h => h
      apply Exists.intro
      apply And.intro
      · apply yr_run; rfl; intro w' hw'; go_simp; (try with_reducible rfl)
      simp only [Act.put, List.setIfInBounds_toArray, List.set_cons_zero, List.set_cons_succ]
      apply wpR_next 31 (some 134)
      · simp only [List.getElem?_toArray, List.getElem?_cons_succ, List.getElem?_cons_zero]; exact rfl
      · rfl
      · kernel_rfl
      · kernel_rfl
      · kernel_rfl
      · exact fun _ _ _ _ h => h
      apply Exists.intro
      apply And.intro
      · apply yr_run; rfl; intro w' hw'; go_simp; (try with_reducible rfl)
      simp only [Act.put, List.setIfInBounds_toArray, List.set_cons_zero, List.set_cons_succ]
      apply wpR_next 32 (some 135)
      · simp only [List.getElem?_toArray, List.getElem?_cons_succ, List.getElem?_cons_zero]; exact rfl
      · rfl
      · kernel_rfl
      · kernel_rfl
      · kernel_rfl
      · exact fun _ _ _ _ h => h
      apply Exists.intro
      apply And.intro
      · apply yr_run; rfl; intro w' hw'; go_simp; (try with_reducible rfl)
      simp only [Act.put, List.setIfInBounds_toArray, List.set_cons_zero, List.set_cons_succ]
      apply wpR_next 33 (some 136)
      · simp only [List.getElem?_toArray, List.getElem?_cons_succ, List.getElem?_cons_zero]; exact rfl
      · rfl
      · kernel_rfl
      · kernel_rfl
      · kernel_rfl
      · exact fun _ _ _ _ h => h
      apply Exists.intro
      apply And.intro
      · apply yr_run; rfl; intro w' hw'; go_simp; (try with_reducible rfl)
      simp only [Act.put, List.setIfInBounds_toArray, List.set_cons_zero, List.set_cons_succ]
      apply wpR_call 34 (some 137)
      · simp only [List.getElem?_toArray, List.getElem?_cons_succ, List.getElem?_cons_zero]; exact rfl
      · rfl
      · kernel_rfl
      · rfl
      · intro w'; go_simp; first | done | exact ⟨rfl, rfl⟩ | with_reducible rfl
      intro w' hw'
      refine (HXm.out _ _ _ (RM_45.out.bl hw')).mono ?_
      rintro e w55 ⟨rfl, hb55⟩
      have Qd_55 := Lib.hid ((Qd_45.out.bl hw').bl hb55)
      have R1_55 := Lib.hid ((R1_45.out.bl hw').bl hb55)
      have Qp_55 := Lib.hid ((Qp_45.out.bl hw').bl hb55)
      have Qn_55 := Lib.hid ((Qn_45.out.bl hw').bl hb55)
      have Qx_55 := Lib.hid ((Qx_45.out.bl hw').bl hb55)
      have RM_55 := Lib.hid ((RM_45.out.bl hw').bl hb55)
      have Q9_55 := Lib.hid ((Q9_45.out.bl hw').bl hb55)
      have Bel_55 := Lib.hid (bel_bl (bel_bl Bel_45.out hw') hb55)
      have ld56 := fun w'' (h : Kept Nil_ w55 w'') => ld46 w'' ((Kept.of_ext hw').trans ((Kept.of_below hb55).trans h))
      have ld57 := fun w'' (h : Kept Nil_ w55 w'') => ld47 w'' ((Kept.of_ext hw').trans ((Kept.of_below hb55).trans h))
      have ld58 := fun w'' (h : Kept Nil_ w55 w'') => ld48 w'' ((Kept.of_ext hw').trans ((Kept.of_below hb55).trans h))
      have ld59 := fun w'' (h : Kept Nil_ w55 w'') => ld49 w'' ((Kept.of_ext hw').trans ((Kept.of_below hb55).trans h))
      have ld60 := fun w'' (h : Kept Nil_ w55 w'') => ld50 w'' ((Kept.of_ext hw').trans ((Kept.of_below hb55).trans h))
      have ld61 := fun w'' (h : Kept Nil_ w55 w'') => ld51 w'' ((Kept.of_ext hw').trans ((Kept.of_below hb55).trans h))
      have ld62 := fun w'' (h : Kept Nil_ w55 w'') => ld52 w'' ((Kept.of_ext hw').trans ((Kept.of_below hb55).trans h))
      have ld63 := fun w'' (h : Kept Nil_ w55 w'') => ld53 w'' ((Kept.of_ext hw').trans ((Kept.of_below hb55).trans h))
      have ld64 := fun w'' (h : Kept Nil_ w55 w'') => ld54 w'' ((Kept.of_ext hw').trans ((Kept.of_below hb55).trans h))
      refine ⟨_, rfl, Kept.of_below hb55, ?_⟩
      clear hw' hb55
      simp only [Act.put, List.setIfInBounds_toArray, List.set_cons_zero, List.set_cons_succ]
      apply wpR_next 35 (some 138)
      · simp only [List.getElem?_toArray, List.getElem?_cons_succ, List.getElem?_cons_zero]; exact rfl
      · rfl
      · kernel_rfl
      · kernel_rfl
      · kernel_rfl
      · exact fun _ _ _ _ h => h
      apply Exists.intro
      apply And.intro
      · apply yr_run; rfl; intro w' hw'; go_simp; (try with_reducible rfl)
      simp only [Act.put, List.setIfInBounds_toArray, List.set_cons_zero, List.set_cons_succ]
      apply wpR_next 36 (some 139)
      · simp only [List.getElem?_toArray, List.getElem?_cons_succ, List.getElem?_cons_zero]; exact rfl
      · rfl
      · kernel_rfl
      · kernel_rfl
      · kernel_rfl
      · exact fun _ _ _ _ h => h
      apply Exists.intro
      apply And.intro
      · apply yr_run; rfl; intro w' hw'; go_simp; (try with_reducible rfl)
      simp only [Act.put, List.setIfInBounds_toArray, List.set_cons_zero, List.set_cons_succ]
      apply wpR_next 37 (some 4)
      · simp only [List.getElem?_toArray, List.getElem?_cons_succ, List.getElem?_cons_zero]; exact rfl
      · rfl
      · kernel_rfl
      · kernel_rfl
      · kernel_rfl
      · exact fun _ _ _ _ h => h
      apply Exists.intro
      apply And.intro
      · apply yr_run; rfl; intro w' hw'; go_simp; (try with_reducible rfl)
      simp only [Act.put, List.setIfInBounds_toArray, List.set_cons_zero, List.set_cons_succ]
      refine wpR_done (by kernel_rfl) ?_ _
      intro w65 hw'
      have Qd_66 := Lib.hid (Qd_55.out.bl hw')
      have R1_66 := Lib.hid (R1_55.out.bl hw')
      have Qp_66 := Lib.hid (Qp_55.out.bl hw')
      have Qn_66 := Lib.hid (Qn_55.out.bl hw')
      have Qx_66 := Lib.hid (Qx_55.out.bl hw')
      have RM_66 := Lib.hid (RM_55.out.bl hw')
      have Q9_66 := Lib.hid (Q9_55.out.bl hw')
      have Bel_66 := Lib.hid (bel_bl Bel_55.out hw')
      clear hw'
      go_wp2
      go_ret
      exact ⟨by simp, Bel_66.out⟩

end Go.Proofs.Ytgbkloilodgjfaa
