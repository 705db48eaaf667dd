/- FaceRound's walk. -/
import Derived.Test.YtjkbcpikdkidhaaFc19
namespace Go.Proofs.Ytjkbcpikdkidhaa
open Go.RowKit
set_option linter.unusedSimpArgs false
set_option linter.unusedVariables false


theorem faceD_yes {Vs : List VC} {Es : List EC} (h : Formed Vs Es) {x : D} (hx : x ∈ ringsOf Vs) : ∃ p, IsPer (phF Vs) x p ∧ p ≤ 80 ∧ faceD Vs x = orbN (phF Vs) x p := by
  obtain ⟨p, hp, hpl⟩ := h.phi.per hx
  have := h.l80
  exact ⟨p, hp, by omega, by rw [faceD, if_pos hx, orbT_all hp (by omega)]⟩
theorem face_round {Vs : List VC} {Es : List EC} (h : Formed Vs Es) {x : D} (hx : x ∈ ringsOf Vs) {i : Nat} (hi : i < (faceD Vs x).length) :
    (faceD Vs x).getD i (0, 0, 0) ∈ ringsOf Vs ∧ faceD Vs ((faceD Vs x).getD i (0, 0, 0)) = (faceD Vs x).drop i ++ (faceD Vs x).take i ∧ phF Vs ((faceD Vs x).getD i (0, 0, 0)) = (faceD Vs x).getD ((i + 1) % (faceD Vs x).length) (0, 0, 0) := by
  obtain ⟨p, hp, h80, e⟩ := faceD_yes h hx
  rw [e, orb_len] at hi
  have e1 : (orbN (phF Vs) x p).getD i (0, 0, 0) = itN (phF Vs) i x := orb_get hi _
  have hr := h.phi.it hx i
  rw [e, orb_len, e1]
  refine ⟨hr, ?_, ?_⟩
  · rw [faceD, if_pos hr, orbT_all (hp.shift h.phi hx i) h80, orb_rot hp (by omega)]
  · rw [orb_get (Nat.mod_lt _ hp.pos), ← hp.mod, it_succ]
theorem face_head {Vs : List VC} {Es : List EC} (h : Formed Vs Es) {x : D} (hx : x ∈ ringsOf Vs) : 0 < (faceD Vs x).length ∧ (faceD Vs x).getD 0 (0, 0, 0) = x := by
  obtain ⟨p, hp, h80, e⟩ := faceD_yes h hx
  rw [e, orb_len]
  exact ⟨hp.pos, orb_get hp.pos _⟩
set_option maxRecDepth 100000 in
set_option maxHeartbeats 4000000 in
theorem law_round (A : Option Addr) (n c : Nat) (Vs : List VC) (B : Option Addr) (m k : Nat) (Es : List EC) (x1 x2 x3 : Int) (hx : In64 x1 ∧ In64 x2 ∧ In64 x3) (w : World) (h : DgIn w A n c Vs B m k Es) (hg : GoodD Vs Es) (hz : SmD n m Vs) :
    Calls Try.prog 6 #[.agg #[.slice A n c, .slice B m k], .agg #[.int .i64 x1, .int .i64 x2, .int .i64 x3]] w fun e w' => e = .returned (.bool true) ∧ Below w.heap.size w w' := by
  have HFo := Lib.hid (fun W (h : DgIn W A n c Vs B m k Es) => formed05_any A n c Vs B m k Es W h hg hz)
  obtain ⟨fo, gfo⟩ : ∃ z, (formD Vs Es == 0) = z := ⟨_, rfl⟩
  rw [gfo] at HFo
  have Gfo := Lib.hid gfo
  have HDa := Lib.hid h
  have HGd := Lib.hid hg
  have Hz := Lib.hid hz
  clear h hg hz gfo
  go_enter Try.func6, Try.ntmps6
  go_wp2_with fail
  refine (shown05_any _).mono ?_
  rintro e w1 ⟨rfl, hb1⟩
  have Da_2 := Lib.hid (((HDa.out.al (.cells #[.slice A n c, .slice B m k] 25)).al (.cells #[.int .i64 x1, .int .i64 x2, .int .i64 x3] 29)).bl hb1)
  have D0_2 := Lib.hid (((show Whole (w.alloc (.cells #[.slice A n c, .slice B m k] 25)) (w.heap.size) (25) ([.slice A n c, .slice B m k]) from Whole.new2 (by first | rfl | simp)).al (.cells #[.int .i64 x1, .int .i64 x2, .int .i64 x3] 29)).bl hb1)
  have X_2 := Lib.hid ((show Whole ((w.alloc (.cells #[.slice A n c, .slice B m k] 25)).alloc (.cells #[.int .i64 x1, .int .i64 x2, .int .i64 x3] 29)) ((w.heap.size + 1)) (29) ([.int .i64 x1, .int .i64 x2, .int .i64 x3]) from Whole.new2 (by first | rfl | simp)).bl hb1)
  have Bel_2 := Lib.hid (bel_bl (bel_al (bel_al (Below.refl _ w) (.cells #[.slice A n c, .slice B m k] 25)) (.cells #[.int .i64 x1, .int .i64 x2, .int .i64 x3] 29)) hb1)
  clear HDa
  clear hb1
  have LO_D0_3 : RowKit.Hid (w.heap.size ≤ w.heap.size) := Lib.hid (by omega)
  have LO_X_4 : RowKit.Hid (w.heap.size ≤ (w.heap.size + 1)) := Lib.hid (by omega)
  have NE_D0_X : RowKit.Hid (w.heap.size ≠ (w.heap.size + 1)) := Lib.hid (by omega)
  have lw5 : (w1).cell? ⟨w.heap.size, 0, none⟩ = some (.slice A n c) := D0_2.out.cell (i := 0) rfl
  have lw6 : (w1).cell? ⟨w.heap.size, 1, none⟩ = some (.slice B m k) := D0_2.out.cell (i := 1) rfl
  go_wp2_with fail
  clear lw5 lw6
  refine (HFo.out _ Da_2.out).mono ?_
  rintro e w7 ⟨rfl, hb7⟩
  have Da_8 := Lib.hid (Da_2.out.bl hb7)
  have D0_8 := Lib.hid (D0_2.out.bl hb7)
  have X_8 := Lib.hid (X_2.out.bl hb7)
  have Bel_8 := Lib.hid (bel_bl Bel_2.out hb7)
  clear Da_2 D0_2 X_2 Bel_2
  clear hb7
  by_cases hfo : fo = false
  · subst hfo
    go_wp2
    go_ret
    exact ⟨rfl, Bel_8.out⟩
  obtain rfl : fo = true := by simpa using hfo
  have HFm : RowKit.Hid (Formed Vs Es) := Lib.hid ((form0 Vs Es).1 (eq_of_beq Gfo.out))
  have Hsm := Lib.hid (HFm.out.small Da_8.out)
  have Hlv : RowKit.Hid (Vs.length = n) := Lib.hid (Da_8.out.v.rlen vC_len (by decide))
  have Hlw : RowKit.Hid (Es.length = m) := Lib.hid (Da_8.out.e.rlen eC_len (by decide))
  have hn24 : n ≤ 24 := Hsm.out.1
  have hm40 : m ≤ 40 := Hsm.out.2.1
  have HWd : RowKit.Hid (∀ v ∈ Vs, ∀ d ∈ v.2.1.2.2.2, wfD d) := Lib.hid HGd.out.v
  have Hr0 : RowKit.Hid (∀ x ∈ Vs, x.2.1.2.1 ≤ 1000000) := Lib.hid (fun x hx => by have := Hsm.out.2.2 x hx; omega)
  clear hfo HFo Gfo
  have HAt : RowKit.Hid (∀ W, DgIn W A n c Vs B m k Es → Calls Try.prog 31 #[.agg #[.slice A n c, .slice B m k], .agg #[.int .i64 x1, .int .i64 x2, .int .i64 x3]] W fun e w' => ∃ a1 a2, e = .returned (.tuple #[.agg #[.int .i64 a1, .int .i64 a2], .bool (decide ((x1, x2, x3) ∈ ringsOf Vs))]) ∧ Below W.heap.size W w') := Lib.hid (fun W h => by
    have h1 := rat_any A n c Vs B m k Es x1 x2 x3 W h (by omega) (fun x hx => by have := Hr0.out x hx; omega)
    rw [← (at_fnd HFm.out (x1, x2, x3)).2.2]
    refine h1.mono ?_
    rintro e w' ⟨rfl, hb⟩
    exact ⟨_, _, rfl, hb⟩)
  have HSh : RowKit.Hid (∀ W, DgIn W A n c Vs B m k Es → Calls Try.prog 28 #[.agg #[.slice A n c, .slice B m k], .agg #[.int .i64 x1, .int .i64 x2, .int .i64 x3], .agg #[.int .i64 x1, .int .i64 x2, .int .i64 x3]] W fun e w' => e = .returned (.bool (decide ((x1, x2, x3) ∈ faceD Vs (x1, x2, x3)))) ∧ Below W.heap.size W w') := Lib.hid (fun W h => share5_any A n c Vs B m k Es x1 x2 x3 x1 x2 x3 W h HFm.out HGd.out (wfD_in hx))
  have HT0 : RowKit.Hid (∀ W, DgIn W A n c Vs B m k Es → Calls Try.prog 24 #[.agg #[.slice A n c, .slice B m k], .agg #[.int .i64 x1, .int .i64 x2, .int .i64 x3]] W fun e w' => ∃ A' c', e = .returned (.slice A' (faceD Vs (x1, x2, x3)).length c') ∧ RdS w' w'.heap.size 3 A' (faceD Vs (x1, x2, x3)).length c' (dartsV (faceD Vs (x1, x2, x3))) ∧ Below W.heap.size W w') := Lib.hid (fun W h => by
    refine (trace5_any A n c Vs B m k Es x1 x2 x3 W h HFm.out HGd.out (wfD_in hx)).mono ?_
    rintro e w' ⟨A', c', rfl, ho, hb⟩
    exact ⟨A', c', rfl, own_rds ho, hb⟩)
  have HTi : RowKit.Hid ((x1, x2, x3) ∈ ringsOf Vs → ∀ i y1 y2 y3, i < (faceD Vs (x1, x2, x3)).length → (faceD Vs (x1, x2, x3)).getD i (0, 0, 0) = (y1, y2, y3) → (∀ W, DgIn W A n c Vs B m k Es → Calls Try.prog 24 #[.agg #[.slice A n c, .slice B m k], .agg #[.int .i64 y1, .int .i64 y2, .int .i64 y3]] W fun e w' => ∃ A' c', e = .returned (.slice A' (faceD Vs (x1, x2, x3)).length c') ∧ RdS w' w'.heap.size 3 A' (faceD Vs (x1, x2, x3)).length c' (dartsV ((faceD Vs (x1, x2, x3)).drop i ++ (faceD Vs (x1, x2, x3)).take i)) ∧ Below W.heap.size W w') ∧ (∀ W, DgIn W A n c Vs B m k Es → Calls Try.prog 18 #[.agg #[.slice A n c, .slice B m k], .agg #[.int .i64 y1, .int .i64 y2, .int .i64 y3]] W (GivesD W ((faceD Vs (x1, x2, x3)).getD ((i + 1) % (faceD Vs (x1, x2, x3)).length) (0, 0, 0)) true))) := Lib.hid (fun hr i y1 y2 y3 hi hy => by
    obtain ⟨r1, r2, r3⟩ := face_round HFm.out hr hi
    rw [hy] at r1 r2 r3
    have hl : ((faceD Vs (x1, x2, x3)).drop i ++ (faceD Vs (x1, x2, x3)).take i).length = (faceD Vs (x1, x2, x3)).length := by
      rw [List.length_append, List.length_drop, List.length_take]
      omega
    have hw : wfD (y1, y2, y3) := by
      obtain ⟨v, hv, hd⟩ := ring_mem.1 r1
      exact HGd.out.v v hv _ hd
    obtain ⟨e, _, _, q⟩ := (HFm.out.mem _).1 r1
    refine ⟨fun W h => ?_, fun W h => ?_⟩
    · have h1 := trace5_any A n c Vs B m k Es y1 y2 y3 W h HFm.out HGd.out hw
      rw [r2, hl] at h1
      refine h1.mono ?_
      rintro e w' ⟨A', c', rfl, ho, hb⟩
      exact ⟨A', c', rfl, own_rds ho, hb⟩
    · have h1 := phi_any A n c Vs B m k Es y1 y2 y3 W h HFm.out (by simp only at q; omega)
      rw [if_pos r1, decide_eq_true r1, r3] at h1
      exact h1)
  have HNo : RowKit.Hid ((x1, x2, x3) ∉ ringsOf Vs → (faceD Vs (x1, x2, x3)).length = 0 ∧ decide ((x1, x2, x3) ∈ faceD Vs (x1, x2, x3)) = false) := Lib.hid (fun hr => by
    have e : faceD Vs (x1, x2, x3) = [] := by rw [faceD, if_neg hr]
    rw [e]
    exact ⟨rfl, by simp⟩)
  have HYe : RowKit.Hid ((x1, x2, x3) ∈ ringsOf Vs → 0 < (faceD Vs (x1, x2, x3)).length ∧ (faceD Vs (x1, x2, x3)).getD 0 (0, 0, 0) = (x1, x2, x3)) := Lib.hid (fun hr => face_head HFm.out hr)
  have hfl := faceD_len HFm.out (x1, x2, x3)
  obtain ⟨T, gT⟩ : ∃ z, faceD Vs (x1, x2, x3) = z := ⟨_, rfl⟩
  rw [gT] at HT0 HSh HTi HNo HYe hfl
  obtain ⟨tn, gtn⟩ : ∃ z, T.length = z := ⟨_, rfl⟩
  have HTn := Lib.hid gtn
  rw [gtn] at HT0 HTi HNo HYe hfl
  obtain ⟨sh, gsh⟩ : ∃ z, decide ((x1, x2, x3) ∈ T) = z := ⟨_, rfl⟩
  rw [gsh] at HSh HNo
  clear gT gtn gsh hx
  have lw9 : (w7).cell? ⟨w.heap.size, 0, none⟩ = some (.slice A n c) := D0_8.out.cell (i := 0) rfl
  have lw10 : (w7).cell? ⟨w.heap.size, 1, none⟩ = some (.slice B m k) := D0_8.out.cell (i := 1) rfl
  have lw11 : (w7).cell? ⟨(w.heap.size + 1), 0, none⟩ = some (.int .i64 x1) := X_8.out.cell (i := 0) rfl
  have lw12 : (w7).cell? ⟨(w.heap.size + 1), 1, none⟩ = some (.int .i64 x2) := X_8.out.cell (i := 1) rfl
  have lw13 : (w7).cell? ⟨(w.heap.size + 1), 2, none⟩ = some (.int .i64 x3) := X_8.out.cell (i := 2) rfl
  go_wp2_with fail
  clear lw9 lw10 lw11 lw12 lw13
  refine (HT0.out _ Da_8.out).mono ?_
  rintro e w14 ⟨At, ct, rfl, hrt, hb14⟩
  have Da_15 := Lib.hid (Da_8.out.bl hb14)
  have D0_15 := Lib.hid (D0_8.out.bl hb14)
  have X_15 := Lib.hid (X_8.out.bl hb14)
  have Bel_15 := Lib.hid (bel_bl Bel_8.out hb14)
  clear Da_8 D0_8 X_8 Bel_8
  clear hb14
  have T_15 := Lib.hid hrt
  clear hrt
  have lw16 : (w14).cell? ⟨w.heap.size, 0, none⟩ = some (.slice A n c) := D0_15.out.cell (i := 0) rfl
  have lw17 : (w14).cell? ⟨w.heap.size, 1, none⟩ = some (.slice B m k) := D0_15.out.cell (i := 1) rfl
  have lw18 : (w14).cell? ⟨(w.heap.size + 1), 0, none⟩ = some (.int .i64 x1) := X_15.out.cell (i := 0) rfl
  have lw19 : (w14).cell? ⟨(w.heap.size + 1), 1, none⟩ = some (.int .i64 x2) := X_15.out.cell (i := 1) rfl
  have lw20 : (w14).cell? ⟨(w.heap.size + 1), 2, none⟩ = some (.int .i64 x3) := X_15.out.cell (i := 2) rfl
  go_wp2_with fail
  clear lw16 lw17 lw18 lw19 lw20
  refine (HAt.out _ Da_15.out).mono ?_
  rintro e w21 ⟨a1, a2, rfl, hb21⟩
  have Da_22 := Lib.hid (Da_15.out.bl hb21)
  have D0_22 := Lib.hid (D0_15.out.bl hb21)
  have X_22 := Lib.hid (X_15.out.bl hb21)
  have T_22 := Lib.hid (T_15.out.bl hb21)
  have Bel_22 := Lib.hid (bel_bl Bel_15.out hb21)
  clear Da_15 D0_15 X_15 T_15 Bel_15
  clear hb21
  by_cases hxr : (x1, x2, x3) ∈ ringsOf Vs
  · rw [decide_eq_true hxr]
    obtain ⟨hpos, hhd⟩ := HYe.out hxr
    have HTj := Lib.hid (HTi.out hxr)
    have Hhd := Lib.hid hhd
    clear HTi HYe HNo hxr HT0 HAt HSh hhd
    go_upto_region 9 with fail
    have Da_23 := Lib.hid ((Da_22.out.al (.cells #[.int .i64 a1, .int .i64 a2] 27)))
    have D0_23 := Lib.hid ((D0_22.out.al (.cells #[.int .i64 a1, .int .i64 a2] 27)))
    have X_23 := Lib.hid ((X_22.out.al (.cells #[.int .i64 a1, .int .i64 a2] 27)))
    have T_23 := Lib.hid ((T_22.out.al (.cells #[.int .i64 a1, .int .i64 a2] 27)))
    have I_23 := Lib.hid ((show Whole (w21.alloc (.cells #[.int .i64 a1, .int .i64 a2] 27)) (w21.heap.size) (27) ([.int .i64 a1, .int .i64 a2]) from Whole.new2 (by first | rfl | simp)))
    have Bel_23 := Lib.hid (bel_al Bel_22.out (.cells #[.int .i64 a1, .int .i64 a2] 27))
    obtain ⟨v23, gv23⟩ : ∃ x, (w21.alloc (.cells #[.int .i64 a1, .int .i64 a2] 27)) = x := ⟨_, rfl⟩
    rw [gv23] at Da_23 D0_23 X_23 T_23 I_23 Bel_23 ⊢
    clear gv23
    clear Da_22 D0_22 X_22 T_22 Bel_22
    obtain ⟨bd, of2, rfl, hbd, hc⟩ := T_23.out.darts (by omega)
    have HCt : RowKit.Hid (∀ W, Below v23.heap.size v23 W → ∀ i, i < tn → W.cell? ⟨bd, of2 + i * 3, none⟩ = some (.int .i64 (T.getD i (0, 0, 0)).1) ∧ W.cell? ⟨bd, of2 + i * 3 + 1, none⟩ = some (.int .i64 (T.getD i (0, 0, 0)).2.1) ∧ W.cell? ⟨bd, of2 + i * 3 + 2, none⟩ = some (.int .i64 (T.getD i (0, 0, 0)).2.2)) := Lib.hid (fun W hb i hi => by
      obtain ⟨q1, q2, q3⟩ := hc i (by have := HTn.out; omega)
      exact ⟨(hb.cell (p := ⟨bd, of2 + i * 3, none⟩) hbd).trans q1, (hb.cell (p := ⟨bd, of2 + i * 3 + 1, none⟩) hbd).trans q2, (hb.cell (p := ⟨bd, of2 + i * 3 + 2, none⟩) hbd).trans q3⟩)
    have HD5 := Lib.hid (Da_23.out)
    have HX5 := Lib.hid (D0_23.out)
    have HY5 := Lib.hid (X_23.out)
    have HT5 := Lib.hid (T_23.out)
    have HB5 := Lib.hid (Bel_23.out)
    clear hc hbd Da_23 D0_23 X_23 T_23 I_23 Bel_23
    obtain ⟨i0, hi0, hz0, hz1, hz2⟩ := info_partsD info_dartD
    go_wp2
    go_loopw [10] (fun si wr => ∃ i : Nat, i ≤ tn ∧ si = .int .i64 i ∧ RowKit.Hid (Below v23.heap.size v23 wr)) (fun si _ => tn - (intOf si).toNat)
    case atStart => exact ⟨0, by omega, rfl, Lib.hid (Below.refl _ _)⟩
    case round =>
      obtain ⟨i, hi, rfl, HBo⟩ := hrel
      obtain ⟨wo, gwo⟩ : ∃ z, wr = z := ⟨_, rfl⟩
      rw [gwo] at HBo ⊢
      clear gwo
      have HDo := Lib.hid (HD5.out.bl HBo.out)
      have HXo := Lib.hid (HX5.out.bl HBo.out)
      have HTo := Lib.hid (HT5.out.bl HBo.out)
      by_cases hit : i < tn
      · obtain ⟨j2, gj2⟩ : ∃ z, (i + 1) % tn = z := ⟨_, rfl⟩
        have hj2 : j2 < tn := by rw [← gj2]; exact Nat.mod_lt _ hpos
        obtain ⟨⟨y1, y2, y3⟩, gy⟩ : ∃ z, T.getD i (0, 0, 0) = z := ⟨_, rfl⟩
        obtain ⟨⟨z1, z2, z3⟩, gz⟩ : ∃ z, T.getD j2 (0, 0, 0) = z := ⟨_, rfl⟩
        obtain ⟨hTr, hPh⟩ := HTj.out i y1 y2 y3 hit gy
        rw [gj2, gz] at hPh
        have HTr := Lib.hid hTr
        have HPh := Lib.hid hPh
        have HCy : RowKit.Hid (∀ W, Below v23.heap.size v23 W → W.cell? ⟨bd, of2 + i * 3, none⟩ = some (.int .i64 y1) ∧ W.cell? ⟨bd, of2 + i * 3 + 1, none⟩ = some (.int .i64 y2) ∧ W.cell? ⟨bd, of2 + i * 3 + 2, none⟩ = some (.int .i64 y3)) := Lib.hid (fun W hb => by have := HCt.out W hb i hit; rw [gy] at this; exact this)
        have HCz : RowKit.Hid (∀ W, Below v23.heap.size v23 W → W.cell? ⟨bd, of2 + j2 * 3, none⟩ = some (.int .i64 z1) ∧ W.cell? ⟨bd, of2 + j2 * 3 + 1, none⟩ = some (.int .i64 z2) ∧ W.cell? ⟨bd, of2 + j2 * 3 + 2, none⟩ = some (.int .i64 z3)) := Lib.hid (fun W hb => by have := HCt.out W hb j2 hj2; rw [gz] at this; exact this)
        have hwr1 : IntKind.i64.wrap ((i : Int) + 1) = (i : Int) + 1 := IntWalk.i64_in _ (by omega)
        have hmod : ((i : Int) + 1) % (tn : Int) = (j2 : Int) := by rw [← gj2, Int.natCast_emod, Int.natCast_add]; rfl
        have hmod2 : ((i : Int) + 1).tmod (tn : Int) = (j2 : Int) := by rw [Int.tmod_eq_emod_of_nonneg (by omega)]; exact hmod
        have hwr2 : IntKind.i64.wrap (j2 : Int) = (j2 : Int) := IntWalk.i64_in _ (by omega)
        have hrn0 : ((tn : Int) == 0) = false := beq_eq_false_iff_ne.2 (by omega)
        have hrn1 : ¬ tn = 0 := by omega
        clear gj2 gy gz hTr hPh
        go_upto_region 12 with fail
        have Da_911 := Lib.hid (HDo.out.dr)
        have D0_911 := Lib.hid (HXo.out.dr)
        have T_911 := Lib.hid (HTo.out.dr)
        have Bel_911 := Lib.hid (bel_dr HBo.out)
        have ld912 : ∀ w', Kept Nil_ wo.drew w' → w'.cell? ⟨w.heap.size, 0, none⟩ = some (.slice A n c) := fun w' h => h.nil_cell (D0_911.out.cell (i := 0) rfl)
        have ld913 : ∀ w', Kept Nil_ wo.drew w' → w'.cell? ⟨w.heap.size, 1, none⟩ = some (.slice B m k) := fun w' h => h.nil_cell (D0_911.out.cell (i := 1) rfl)
        have ld914 : ∀ w', Kept Nil_ wo.drew w' → w'.cell? ⟨bd, of2 + i * 3, none⟩ = some (.int .i64 y1) := fun w' h => h.nil_cell ((HCy.out _ Bel_911.out).1)
        have ld915 : ∀ w', Kept Nil_ wo.drew w' → w'.cell? ⟨bd, of2 + i * 3 + 1, none⟩ = some (.int .i64 y2) := fun w' h => h.nil_cell ((HCy.out _ Bel_911.out).2.1)
        have ld916 : ∀ w', Kept Nil_ wo.drew w' → w'.cell? ⟨bd, of2 + i * 3 + 2, none⟩ = some (.int .i64 y3) := fun w' h => h.nil_cell ((HCy.out _ Bel_911.out).2.2)
        refine wp_region_reg Nil_ (by kernel_rfl) ?_
        apply wpR_next 0 (some 52)
        · simp only [List.getElem?_toArray, List.getElem?_cons_succ, List.getElem?_cons_zero]; exact rfl
        · rfl
        · kernel_rfl
        · kernel_rfl
        · kernel_rfl
        · exact fun _ _ _ _ h => h
        apply Exists.intro
        apply And.intro
        · apply yr_run; rfl; intro w' hw'; go_simp; (try with_reducible rfl)
        simp only [Act.put, List.setIfInBounds_toArray, List.set_cons_zero, List.set_cons_succ]
        apply wpR_next 1 (some 53)
        · simp only [List.getElem?_toArray, List.getElem?_cons_succ, List.getElem?_cons_zero]; exact rfl
        · rfl
        · kernel_rfl
        · kernel_rfl
        · kernel_rfl
        · exact fun _ _ _ _ h => h
        apply Exists.intro
        apply And.intro
        · apply yr_run; rfl; intro w' hw'; go_simp; (try with_reducible rfl)
        simp only [Act.put, List.setIfInBounds_toArray, List.set_cons_zero, List.set_cons_succ]
        apply wpR_next 2 (some 54)
        · simp only [List.getElem?_toArray, List.getElem?_cons_succ, List.getElem?_cons_zero]; exact rfl
        · rfl
        · kernel_rfl
        · kernel_rfl
        · kernel_rfl
        · exact fun _ _ _ _ h => h
        apply Exists.intro
        apply And.intro
        · apply yr_run; rfl; intro w' hw'; go_simp; (try with_reducible rfl)
        simp only [Act.put, List.setIfInBounds_toArray, List.set_cons_zero, List.set_cons_succ]
        apply wpR_next 3 (some 55)
        · simp only [List.getElem?_toArray, List.getElem?_cons_succ, List.getElem?_cons_zero]; exact rfl
        · rfl
        · kernel_rfl
        · kernel_rfl
        · kernel_rfl
        · exact fun _ _ _ _ h => h
        apply Exists.intro
        apply And.intro
        · apply yr_run; rfl; intro w' hw'; go_simp; (try with_reducible rfl)
        simp only [Act.put, List.setIfInBounds_toArray, List.set_cons_zero, List.set_cons_succ]
        apply wpR_next 4 (some 56)
        · simp only [List.getElem?_toArray, List.getElem?_cons_succ, List.getElem?_cons_zero]; exact rfl
        · rfl
        · kernel_rfl
        · kernel_rfl
        · kernel_rfl
        · exact fun _ _ _ _ h => h
        apply Exists.intro
        apply And.intro
        · apply yr_run; rfl; intro w' hw'; go_simp; (try with_reducible rfl)
        simp only [Act.put, List.setIfInBounds_toArray, List.set_cons_zero, List.set_cons_succ]
        apply wpR_call 5 (some 57)
        · simp only [List.getElem?_toArray, List.getElem?_cons_succ, List.getElem?_cons_zero]; exact rfl
        · rfl
        · kernel_rfl
        · rfl
        · intro w'; go_simp; first | done | exact ⟨rfl, rfl⟩ | with_reducible rfl
        intro w' hw'
        refine (HTr.out _ (Da_911.out.bl hw')).mono ?_
        rintro e w917 ⟨Au, cu, rfl, hru, hb917⟩
        have Da_917 := Lib.hid ((Da_911.out.bl hw').bl hb917)
        have D0_917 := Lib.hid ((D0_911.out.bl hw').bl hb917)
        have T_917 := Lib.hid ((T_911.out.bl hw').bl hb917)
        have Bel_917 := Lib.hid (bel_bl (bel_bl Bel_911.out hw') hb917)
        have ld918 := fun w'' (h : Kept Nil_ w917 w'') => ld912 w'' ((Kept.of_ext hw').trans ((Kept.of_below hb917).trans h))
        have ld919 := fun w'' (h : Kept Nil_ w917 w'') => ld913 w'' ((Kept.of_ext hw').trans ((Kept.of_below hb917).trans h))
        have ld920 := fun w'' (h : Kept Nil_ w917 w'') => ld914 w'' ((Kept.of_ext hw').trans ((Kept.of_below hb917).trans h))
        have ld921 := fun w'' (h : Kept Nil_ w917 w'') => ld915 w'' ((Kept.of_ext hw').trans ((Kept.of_below hb917).trans h))
        have ld922 := fun w'' (h : Kept Nil_ w917 w'') => ld916 w'' ((Kept.of_ext hw').trans ((Kept.of_below hb917).trans h))
        refine ⟨_, rfl, Kept.of_below hb917, ?_⟩
        clear hw' hb917
        have U_917 := Lib.hid hru
        clear hru
        simp only [Act.put, List.setIfInBounds_toArray, List.set_cons_zero, List.set_cons_succ]
        apply wpR_next 6 (some 11)
        · simp only [List.getElem?_toArray, List.getElem?_cons_succ, List.getElem?_cons_zero]; exact rfl
        · rfl
        · kernel_rfl
        · kernel_rfl
        · kernel_rfl
        · exact fun _ _ _ _ h => h
        apply Exists.intro
        apply And.intro
        · apply yr_run; rfl; intro w' hw'; go_simp; (try with_reducible rfl)
        simp only [Act.put, List.setIfInBounds_toArray, List.set_cons_zero, List.set_cons_succ]
        refine wpR_done (by kernel_rfl) ?_ _
        intro w923 hw'
        have Da_924 := Lib.hid (Da_917.out.bl hw')
        have D0_924 := Lib.hid (D0_917.out.bl hw')
        have T_924 := Lib.hid (T_917.out.bl hw')
        have U_924 := Lib.hid (U_917.out.bl hw')
        have Bel_924 := Lib.hid (bel_bl Bel_917.out hw')
        clear Da_917 D0_917 T_917 U_917 Bel_917
        clear hw'
        go_upto_region 13 with fail
        have hr1 := T_924.out.take_ i (Nat.le_of_lt hit)
        rw [← dartsV_take] at hr1
        have hr2 := T_924.out.low_ (Nat.le_of_lt hit)
        rw [← dartsV_drop] at hr2
        have hic : i ≤ ct := by have := T_924.out.le; omega
        obtain ⟨A2, gA2⟩ : ∃ z, (if ct = i then some (⟨bd, of2, none⟩ : Addr) else (some (⟨bd, of2, none⟩ : Addr)).map (·.add (i * 3))) = z := ⟨_, rfl⟩
        obtain ⟨m2, gm2⟩ : ∃ z, tn - i = z := ⟨_, rfl⟩
        obtain ⟨c2, gc2⟩ : ∃ z, ct - i = z := ⟨_, rfl⟩
        rw [gA2, gm2, gc2] at hr2
        have HR1 := Lib.hid hr1.dr
        have HR2 := Lib.hid hr2.dr
        have GA2 := Lib.hid gA2
        have Gm2 := Lib.hid gm2
        have Gc2 := Lib.hid gc2
        have hmi : m2 + i = tn := by omega
        have hit' : i ≤ tn := Nat.le_of_lt hit
        obtain ⟨B2, gB2⟩ : ∃ z, w923.heap.size = z := ⟨_, rfl⟩
        have HBw := Lib.hid gB2
        clear hr1 hr2 gA2 gm2 gc2 gB2
        refine wp_region_reg (From_ B2) (by kernel_rfl) ?_
        apply wpR_next 1 (some 59)
        · simp only [List.getElem?_toArray, List.getElem?_cons_succ, List.getElem?_cons_zero]; exact rfl
        · rfl
        · kernel_rfl
        · kernel_rfl
        · kernel_rfl
        · exact fun _ _ _ _ h => h
        apply Exists.intro
        apply And.intro
        · apply yr_run; rfl; intro w' hw'; go_simp; (try with_reducible rfl)
        simp only [Act.put, List.setIfInBounds_toArray, List.set_cons_zero, List.set_cons_succ]
        apply wpR_next 2 (some 60)
        · simp only [List.getElem?_toArray, List.getElem?_cons_succ, List.getElem?_cons_zero]; exact rfl
        · rfl
        · kernel_rfl
        · kernel_rfl
        · kernel_rfl
        · exact fun _ _ _ _ h => h
        apply Exists.intro
        apply And.intro
        · apply yr_run; rfl; intro w' hw'; go_simp; (try with_reducible rfl)
        simp only [Act.put, List.setIfInBounds_toArray, List.set_cons_zero, List.set_cons_succ]
        apply wpR_next 3 (some 61)
        · simp only [List.getElem?_toArray, List.getElem?_cons_succ, List.getElem?_cons_zero]; exact rfl
        · rfl
        · kernel_rfl
        · kernel_rfl
        · kernel_rfl
        · exact fun _ _ _ _ h => h
        apply Exists.intro
        apply And.intro
        · exact yr_run (by rfl) (fun w' h => exec_slice_low_as 35 29 (.tmp 59) (.tmp 60) rfl Try.underlying35 (s := 3) (by kernel_rfl) rfl rfl hit' GA2.out Gm2.out Gc2.out)
        simp only [Act.put, List.setIfInBounds_toArray, List.set_cons_zero, List.set_cons_succ]
        apply wpR_next 5 (some 63)
        · simp only [List.getElem?_toArray, List.getElem?_cons_succ, List.getElem?_cons_zero]; exact rfl
        · rfl
        · kernel_rfl
        · kernel_rfl
        · kernel_rfl
        · exact fun _ _ _ _ h => h
        apply Exists.intro
        apply And.intro
        · apply yr_run; rfl; intro w' hw'; go_simp; (try with_reducible rfl)
        simp only [Act.put, List.setIfInBounds_toArray, List.set_cons_zero, List.set_cons_succ]
        apply wpR_next 6 (some 64)
        · simp only [List.getElem?_toArray, List.getElem?_cons_succ, List.getElem?_cons_zero]; exact rfl
        · rfl
        · kernel_rfl
        · kernel_rfl
        · kernel_rfl
        · exact fun _ _ _ _ h => h
        apply Exists.intro
        apply And.intro
        · apply yr_run; rfl; intro w' hw'; go_simp; (try with_reducible rfl)
        simp only [Act.put, List.setIfInBounds_toArray, List.set_cons_zero, List.set_cons_succ]
        apply wpR_next 7 (some 65)
        · simp only [List.getElem?_toArray, List.getElem?_cons_succ, List.getElem?_cons_zero]; exact rfl
        · rfl
        · kernel_rfl
        · kernel_rfl
        · kernel_rfl
        · exact fun _ _ _ _ h => h
        apply Exists.intro
        apply And.intro
        · exact yr_run (by rfl) (fun w' h => exec_slice_high 35 29 (.tmp 63) (.tmp 64) rfl Try.underlying35 (s := 3) (by kernel_rfl) rfl rfl hic)
        simp only [Act.put, List.setIfInBounds_toArray, List.set_cons_zero, List.set_cons_succ]
        apply wpR_run 0 (some 58)
        · simp only [List.getElem?_toArray, List.getElem?_cons_succ, List.getElem?_cons_zero]; exact rfl
        · rfl
        · kernel_rfl
        · rfl
        intro w' hw'
        refine ⟨.slice (some ⟨w'.heap.size, 0, none⟩) 0 0, w'.alloc (.cells #[] 29), by go_simp, Kept.of_below (below1 _ _), ?_⟩
        have HO0 : RowKit.Hid (Ow w923.drew B2 29 3 (.slice (some ⟨w'.heap.size, 0, none⟩) 0 0) 0 [] (w'.alloc (.cells #[] 29))) := Lib.hid (Ow.new_ (e := 29) (size := 3) (cs := #[]) hw' (Nat.le_of_eq HBw.out) (by have h1 := hw'.size; have h2 : w923.drew.heap.size = w923.heap.size := rfl; have := HBw.out; omega) (n := 0) (Nat.zero_le _) rfl)
        have E0_ : RowKit.Hid (Below w923.drew.heap.size w923.drew (w'.alloc (.cells #[] 29))) := Lib.hid (bel_al hw' (.cells #[] 29))
        obtain ⟨V0, gV0⟩ : ∃ z, w'.alloc (.cells #[] 29) = z := ⟨_, rfl⟩
        obtain ⟨g0, gg0⟩ : ∃ z, w'.heap.size = z := ⟨_, rfl⟩
        rw [gV0] at HO0 E0_ ⊢
        rw [gg0] at HO0 ⊢
        obtain ⟨s0, gs0⟩ : ∃ z, Value.slice (some ⟨g0, 0, none⟩) 0 0 = z := ⟨_, rfl⟩
        rw [gs0] at HO0 ⊢
        clear hw' gV0 gg0 gs0
        simp only [Act.put, List.setIfInBounds_toArray, List.set_cons_zero, List.set_cons_succ]
        apply wpR_run 4 (some 62)
        · simp only [List.getElem?_toArray, List.getElem?_cons_succ, List.getElem?_cons_zero]; exact rfl
        · rfl
        · kernel_rfl
        · rfl
        intro w' hw'
        obtain ⟨v8, w'', hrun, ho, hb8⟩ := Ow.app (P := Try.prog) 35 35 29 i0 _ 3 24 B2 Try.underlying35 hi0 hz0 hz1 hz2 rfl (by decide) _ _ _ (HO0.out.up hw') _ A2 m2 c2 _ ((HR2.out.up E0_.out E0_.out.size).bl hw') (dartsV_one _) (by unfold maxLen; omega) (by omega)
        obtain ⟨A8, c8, rfl, -⟩ := ho.rds
        refine ⟨_, w'', exec_append (by rfl) (by rfl) (by rfl) hrun, Kept.of_from hb8, ?_⟩
        have HO1 := Lib.hid ho
        have E1_ : RowKit.Hid (Below w923.drew.heap.size w923.drew w'') := Lib.hid (((E0_.out.trans (hw'.mono E0_.out.size))).trans (hb8.mono (by have := HBw.out; show w923.heap.size ≤ B2; omega)))
        obtain ⟨V8, gV8⟩ : ∃ z, w'' = z := ⟨_, rfl⟩
        rw [gV8] at HO1 E1_ ⊢
        clear hw' hrun ho hb8 gV8 HO0 E0_
        simp only [Act.put, List.setIfInBounds_toArray, List.set_cons_zero, List.set_cons_succ]
        apply wpR_run 8 (some 66)
        · simp only [List.getElem?_toArray, List.getElem?_cons_succ, List.getElem?_cons_zero]; exact rfl
        · rfl
        · kernel_rfl
        · rfl
        intro w' hw'
        obtain ⟨v8, w'', hrun, ho, hb8⟩ := Ow.app (P := Try.prog) 35 35 29 i0 _ 3 24 B2 Try.underlying35 hi0 hz0 hz1 hz2 rfl (by decide) _ _ _ (HO1.out.up hw') _ (some ⟨bd, of2, none⟩) i ct _ ((HR1.out.up E1_.out E1_.out.size).bl hw') (dartsV_one _) (by unfold maxLen; omega) (by omega)
        obtain ⟨A9, c9, rfl, -⟩ := ho.rds
        refine ⟨_, w'', exec_append (by rfl) (by rfl) (by rfl) hrun, Kept.of_from hb8, ?_⟩
        have HO2 := Lib.hid ho
        have E2_ : RowKit.Hid (Below w923.drew.heap.size w923.drew w'') := Lib.hid (((E1_.out.trans (hw'.mono E1_.out.size))).trans (hb8.mono (by have := HBw.out; show w923.heap.size ≤ B2; omega)))
        obtain ⟨V9, gV9⟩ : ∃ z, w'' = z := ⟨_, rfl⟩
        rw [gV9] at HO2 E2_ ⊢
        clear hw' hrun ho hb8 gV9 HO1 E1_
        simp only [Act.put, List.setIfInBounds_toArray, List.set_cons_zero, List.set_cons_succ]
        apply wpR_next 9 (some 12)
        · simp only [List.getElem?_toArray, List.getElem?_cons_succ, List.getElem?_cons_zero]; exact rfl
        · rfl
        · kernel_rfl
        · kernel_rfl
        · kernel_rfl
        · exact fun _ _ _ _ h => h
        apply Exists.intro
        apply And.intro
        · apply yr_run; rfl; intro w' hw'; go_simp; (try with_reducible rfl)
        simp only [Act.put, List.setIfInBounds_toArray, List.set_cons_zero, List.set_cons_succ]
        refine wpR_done (by kernel_rfl) ?_ _
        intro W7 hw7
        have HB7 := Lib.hid (Bel_924.out.trans ((bel_bl (bel_dr (Below.refl _ _)) (E2_.out.trans (hw7.mono E2_.out.size))).mono Bel_924.out.size))
        have HD7 := Lib.hid (Da_924.out.bl ((bel_bl (bel_dr (Below.refl _ _)) (E2_.out.trans (hw7.mono E2_.out.size)))))
        have HX7 := Lib.hid (D0_924.out.bl ((bel_bl (bel_dr (Below.refl _ _)) (E2_.out.trans (hw7.mono E2_.out.size)))))
        have HT7 := Lib.hid (T_924.out.bl ((bel_bl (bel_dr (Below.refl _ _)) (E2_.out.trans (hw7.mono E2_.out.size)))))
        have HU7 := Lib.hid (U_924.out.bl ((bel_bl (bel_dr (Below.refl _ _)) (E2_.out.trans (hw7.mono E2_.out.size)))))
        have HV7 : RowKit.Hid (RdS W7 W7.heap.size 3 A9 tn c9 (dartsV (T.drop i ++ T.take i))) := Lib.hid (by
          have h1 := own_rds (HO2.out.up hw7).own
          rw [List.nil_append, ← dartsV_app, Nat.zero_add, hmi] at h1
          exact h1)
        have hval : Value.slice A9 (0 + m2 + i) c9 = .slice A9 tn c9 := by rw [Nat.zero_add, hmi]
        rw [hval]
        clear hval hw7 HO2 E2_ HR1 HR2 GA2 Gm2 Gc2 HBw hmi hit' Da_924 D0_924 T_924 U_924 Bel_924
        have HDr : RowKit.Hid (∀ W, RdS W W.heap.size 3 Au tn cu (dartsV (T.drop i ++ T.take i)) → RdS W W.heap.size 3 A9 tn c9 (dartsV (T.drop i ++ T.take i)) → Calls Try.prog 20 #[.slice Au tn cu, .slice A9 tn c9] W fun e w' => e = .returned (.bool true) ∧ Below W.heap.size W w') := Lib.hid (fun W h1 h2 => by
          have h3 := rdarts_any Au A9 tn tn cu c9 _ _ W h1 h2 (by omega)
          simpa using h3)
        go_wp2_with fail
        refine (HDr.out _ HU7.out HV7.out).mono ?_
        rintro e w961 ⟨rfl, hb961⟩
        have Da_962 := Lib.hid (HD7.out.bl hb961)
        have D0_962 := Lib.hid (HX7.out.bl hb961)
        have T_962 := Lib.hid (HT7.out.bl hb961)
        have U_962 := Lib.hid (HU7.out.bl hb961)
        have V_962 := Lib.hid (HV7.out.bl hb961)
        have Bel_962 := Lib.hid (bel_bl HB7.out hb961)
        clear HD7 HX7 HT7 HU7 HV7 HB7
        clear hb961
        clear HDr
        clear U_962 V_962
        go_upto_region 15 with fail
        have HLd : RowKit.Hid (∀ W', Ext w961.drew W' → W'.cell? ⟨w.heap.size, 0, none⟩ = some (.slice A n c) ∧ W'.cell? ⟨w.heap.size, 1, none⟩ = some (.slice B m k) ∧ W'.cell? ⟨bd, of2 + i * 3, none⟩ = some (.int .i64 y1) ∧ W'.cell? ⟨bd, of2 + i * 3 + 1, none⟩ = some (.int .i64 y2) ∧ W'.cell? ⟨bd, of2 + i * 3 + 2, none⟩ = some (.int .i64 y3)) :=
          Lib.hid (fun W' h => ⟨(D0_962.out.dr.bl h).cell (i := 0) rfl, (D0_962.out.dr.bl h).cell (i := 1) rfl, HCy.out _ (bel_bl (bel_dr Bel_962.out) h)⟩)
        refine wp_region_in3 10 8 (From_ w961.heap.size) (gamL [some (.agg #[.slice A n c, .slice B m k]), some (.slice (some ⟨bd, of2, none⟩) tn ct), some (.int .i64 (i : Int)), some (.pointer (some ⟨bd, of2 + i * 3, none⟩)), some (.agg #[.int .i64 y1, .int .i64 y2, .int .i64 y3]), some (.tuple #[.agg #[.int .i64 z1, .int .i64 z2, .int .i64 z3], .bool true]), some (.tuple #[.agg #[.int .i64 z1, .int .i64 z2, .int .i64 z3], .bool true]), some (.agg #[.int .i64 z1, .int .i64 z2, .int .i64 z3]), some (.bool true), none] 9 w961.heap.size 29 [.int .i64 0, .int .i64 0, .int .i64 0]) (Ext w961.drew) (by kernel_rfl) (by kernel_rfl) (by kernel_rfl) (by kernel_rfl) (by kernel_rfl) (by kernel_rfl) (by simp only [List.getElem?_toArray, List.getElem?_cons_succ, List.getElem?_cons_zero]; exact rfl) (by kernel_rfl) (by kernel_rfl) (by kernel_rfl) ?_ (fun i v w1 w2 h hx => gamL_up i v w1 w2 h hx) (fun _ _ h k => h.trans k) (Ext.refl _) ?_ ?_ ?_
        · exact fun _ _ _ _ h => h
        · intro i hi9
          have hcase : i = 0 ∨ i = 1 ∨ i = 2 ∨ i = 3 ∨ i = 4 ∨ i = 5 ∨ i = 6 ∨ i = 7 ∨ i = 8 ∨ i = 9 := by omega
          rcases hcase with rfl | rfl | rfl | rfl | rfl | rfl | rfl | rfl | rfl | rfl
          · intro o ho x y hg hdep
            simp only [List.getElem?_toArray, List.getElem?_cons_succ, List.getElem?_cons_zero, Option.some.injEq] at ho
            subst ho
            obtain ⟨hl0, hl1, hl2, hl3, hl4⟩ := HLd.out _ hg
            simp only [dsts, List.map_cons, List.map_nil, putAll, Act.put, List.setIfInBounds_toArray, List.set_cons_zero, List.set_cons_succ]
            refine .inl ⟨by rfl, ?_⟩
            go_simp
            exact ⟨Ext.refl _, rfl⟩
          · intro o ho x y hg hdep
            simp only [List.getElem?_toArray, List.getElem?_cons_succ, List.getElem?_cons_zero, Option.some.injEq] at ho
            subst ho
            simp only [dsts, List.map_cons, List.map_nil, putAll, Act.put, List.setIfInBounds_toArray, List.set_cons_zero, List.set_cons_succ]
            refine .inl ⟨by rfl, ?_⟩
            go_simp
            exact ⟨Ext.refl _, rfl⟩
          · intro o ho x y hg hdep
            simp only [List.getElem?_toArray, List.getElem?_cons_succ, List.getElem?_cons_zero, Option.some.injEq] at ho
            subst ho
            simp only [dsts, List.map_cons, List.map_nil, putAll, Act.put, List.setIfInBounds_toArray, List.set_cons_zero, List.set_cons_succ]
            refine .inl ⟨by rfl, ?_⟩
            go_simp
            exact ⟨Ext.refl _, rfl⟩
          · intro o ho x y hg hdep
            simp only [List.getElem?_toArray, List.getElem?_cons_succ, List.getElem?_cons_zero, Option.some.injEq] at ho
            subst ho
            have d1 : x 1 = .slice (some ⟨bd, of2, none⟩) tn ct := hdep 1 (by decide)
            have d2 : x 2 = .int .i64 (i : Int) := hdep 2 (by decide)
            simp only [dsts, List.map_cons, List.map_nil, putAll, Act.put, List.setIfInBounds_toArray, List.set_cons_zero, List.set_cons_succ]
            simp only [d1, d2]
            refine .inl ⟨by rfl, ?_⟩
            go_simp
            exact ⟨Ext.refl _, rfl⟩
          · intro o ho x y hg hdep
            simp only [List.getElem?_toArray, List.getElem?_cons_succ, List.getElem?_cons_zero, Option.some.injEq] at ho
            subst ho
            have d3 : x 3 = .pointer (some ⟨bd, of2 + i * 3, none⟩) := hdep 3 (by decide)
            obtain ⟨hl0, hl1, hl2, hl3, hl4⟩ := HLd.out _ hg
            simp only [dsts, List.map_cons, List.map_nil, putAll, Act.put, List.setIfInBounds_toArray, List.set_cons_zero, List.set_cons_succ]
            simp only [d3]
            refine .inl ⟨by rfl, ?_⟩
            go_simp
            exact ⟨Ext.refl _, rfl⟩
          · intro o ho x y hg hdep
            simp only [List.getElem?_toArray, List.getElem?_cons_succ, List.getElem?_cons_zero, Option.some.injEq] at ho
            subst ho
            have d0 : x 0 = .agg #[.slice A n c, .slice B m k] := hdep 0 (by decide)
            have d4 : x 4 = .agg #[.int .i64 y1, .int .i64 y2, .int .i64 y3] := hdep 4 (by decide)
            simp only [dsts, List.map_cons, List.map_nil, putAll, Act.put, List.setIfInBounds_toArray, List.set_cons_zero, List.set_cons_succ]
            simp only [d0, d4]
            refine .inl ⟨by rfl, outT_call (by go_simp; first | done | exact ⟨rfl, rfl⟩ | with_reducible rfl) ?_⟩
            refine (HPh.out y (Da_962.out.dr.bl hg)).mono ?_
            rintro e w2 ⟨rfl, hb⟩
            exact ⟨_, rfl, hb, rfl⟩
          · intro o ho x y hg hdep
            simp only [List.getElem?_toArray, List.getElem?_cons_succ, List.getElem?_cons_zero, Option.some.injEq] at ho
            subst ho
            have d5 : x 5 = .tuple #[.agg #[.int .i64 z1, .int .i64 z2, .int .i64 z3], .bool true] := hdep 5 (by decide)
            simp only [dsts, List.map_cons, List.map_nil, putAll, Act.put, List.setIfInBounds_toArray, List.set_cons_zero, List.set_cons_succ]
            simp only [d5]
            refine .inl ⟨by rfl, ?_⟩
            go_simp
            exact ⟨Ext.refl _, rfl⟩
          · intro o ho x y hg hdep
            simp only [List.getElem?_toArray, List.getElem?_cons_succ, List.getElem?_cons_zero, Option.some.injEq] at ho
            subst ho
            have d6 : x 6 = .tuple #[.agg #[.int .i64 z1, .int .i64 z2, .int .i64 z3], .bool true] := hdep 6 (by decide)
            simp only [dsts, List.map_cons, List.map_nil, putAll, Act.put, List.setIfInBounds_toArray, List.set_cons_zero, List.set_cons_succ]
            simp only [d6]
            refine .inl ⟨by rfl, ?_⟩
            go_simp
            exact ⟨Ext.refl _, rfl⟩
          · intro o ho x y hg hdep
            simp only [List.getElem?_toArray, List.getElem?_cons_succ, List.getElem?_cons_zero, Option.some.injEq] at ho
            subst ho
            have d6 : x 6 = .tuple #[.agg #[.int .i64 z1, .int .i64 z2, .int .i64 z3], .bool true] := hdep 6 (by decide)
            simp only [dsts, List.map_cons, List.map_nil, putAll, Act.put, List.setIfInBounds_toArray, List.set_cons_zero, List.set_cons_succ]
            simp only [d6]
            refine .inl ⟨by rfl, ?_⟩
            go_simp
            exact ⟨Ext.refl _, rfl⟩
          · intro o ho x y hg hdep
            simp only [List.getElem?_toArray, List.getElem?_cons_succ, List.getElem?_cons_zero, Option.some.injEq] at ho
            subst ho
            simp only [dsts, List.map_cons, List.map_nil, putAll, Act.put, List.setIfInBounds_toArray, List.set_cons_zero, List.set_cons_succ]
            refine .inl ⟨by rfl, outT_run (w' := y.alloc (.cells #[.int .i64 0, .int .i64 0, .int .i64 0] 29)) (by go_simp; first | done | exact rfl | exact ⟨rfl, rfl⟩) (below1 _ _) ?_⟩
            exact ⟨y.heap.size, rfl, hg.size, Whole.new_ _ _ [.int .i64 0, .int .i64 0, .int .i64 0]⟩
        · intro x y hg hall
          have d6 : x 6 = .tuple #[.agg #[.int .i64 z1, .int .i64 z2, .int .i64 z3], .bool true] := hall 6 (by decide) (by decide)
          simp only [dsts, List.map_cons, List.map_nil, putAll, Act.put, List.setIfInBounds_toArray, List.set_cons_zero, List.set_cons_succ]
          simp only [d6]
          refine ⟨.bool true, ?_, rfl⟩
          apply yr_run; rfl; intro w' hw'; go_simp; (try with_reducible rfl)
        intro x y hg hall
        have d7 : x 7 = .agg #[.int .i64 z1, .int .i64 z2, .int .i64 z3] := hall 7 (by decide)
        have d8 : x 8 = .bool true := hall 8 (by decide)
        obtain ⟨gr, d9, hlr, hwr⟩ : ∃ g, x 9 = .pointer (some ⟨g, 0, none⟩) ∧ w961.heap.size ≤ g ∧ Whole y g 29 [.int .i64 0, .int .i64 0, .int .i64 0] := hall 9 (by decide)
        simp only [dsts, List.map_cons, List.map_nil, putAll, Act.put, List.setIfInBounds_toArray, List.set_cons_zero, List.set_cons_succ]
        simp only [d7, d8, d9]
        have HWy := Lib.hid hwr
        have HBy := Lib.hid (bel_bl (bel_dr (Below.refl _ w961)) hg)
        have HLr : RowKit.Hid (w961.heap.size ≤ gr) := Lib.hid hlr
        have HW0 : RowKit.Hid (w961.heap.size ≤ w961.heap.size) := Lib.hid (by omega)
        clear hg hall d7 d8 d9 hlr hwr
        apply wpR_store 10
        · simp only [List.getElem?_toArray, List.getElem?_cons_succ, List.getElem?_cons_zero]; exact rfl
        · rfl
        · kernel_rfl
        · rfl
        intro w' hw'
        refine ⟨w'.setRow gr #[.int .i64 z1, .int .i64 z2, .int .i64 z3], store_row_run 29 (.tmp 14) (.tmp 77) rfl gr rfl [.int .i64 z1, .int .i64 z2, .int .i64 z3] rfl 29 [.int .i64 0, .int .i64 0, .int .i64 0] (HWy.out.bl hw') (by kernel_rfl) rfl (by simp [Value.oneCell']), kept_row (show w961.heap.size ≤ gr by have := HLr.out; have := HW0.out; omega) _, ?_⟩
        have HWz : RowKit.Hid (Whole (w'.setRow gr #[.int .i64 z1, .int .i64 z2, .int .i64 z3]) gr 29 [.int .i64 z1, .int .i64 z2, .int .i64 z3]) := Lib.hid (Whole.row (HWy.out.bl hw') [.int .i64 z1, .int .i64 z2, .int .i64 z3])
        have HBz : RowKit.Hid (Below w961.heap.size w961 (w'.setRow gr #[.int .i64 z1, .int .i64 z2, .int .i64 z3])) := Lib.hid (below_row (bel_bl HBy.out hw') HLr.out _)
        obtain ⟨V1, gV1⟩ : ∃ z, w'.setRow gr #[.int .i64 z1, .int .i64 z2, .int .i64 z3] = z := ⟨_, rfl⟩
        rw [gV1] at HWz HBz ⊢
        clear hw' gV1 HWy HBy
        apply wpR_next 11 (some 15)
        · simp only [List.getElem?_toArray, List.getElem?_cons_succ, List.getElem?_cons_zero]; exact rfl
        · rfl
        · kernel_rfl
        · kernel_rfl
        · kernel_rfl
        · exact fun _ _ _ _ h => h
        apply Exists.intro
        apply And.intro
        · apply yr_run; rfl; intro w' hw'; go_simp; (try with_reducible rfl)
        simp only [Act.put, List.setIfInBounds_toArray, List.set_cons_zero, List.set_cons_succ]
        refine wpR_done (by kernel_rfl) ?_ _
        intro W8 hw8
        have HWr := Lib.hid (HWz.out.bl hw8)
        have HBr := Lib.hid (bel_bl HBz.out hw8)
        clear hw8 HWz HBz HW0
        have HB8 := Lib.hid (Bel_962.out.trans (HBr.out.mono Bel_962.out.size))
        clear HLd Da_962 D0_962 T_962 Bel_962 HBr
        have hqz : ∀ W, (binOp .neq 29 (.agg #[.int .i64 z1, .int .i64 z2, .int .i64 z3]) (.agg #[.int .i64 z1, .int .i64 z2, .int .i64 z3])).run Try.prog W = .ok (.bool false) W := fun W => by
          have e := neq_dart_run (z1, z2, z3) (z1, z2, z3) W
          rw [decide_eq_true rfl] at e
          exact e
        go_upto_region 16 with fail
        have G_981 := Lib.hid (HWr.out.dr)
        have Bel_981 := Lib.hid (bel_dr HB8.out)
        have ld982 : ∀ w', Kept Nil_ W8.drew w' → w'.cell? ⟨gr, 0, none⟩ = some (.int .i64 z1) := fun w' h => h.nil_cell (G_981.out.cell (i := 0) rfl)
        have ld983 : ∀ w', Kept Nil_ W8.drew w' → w'.cell? ⟨gr, 1, none⟩ = some (.int .i64 z2) := fun w' h => h.nil_cell (G_981.out.cell (i := 1) rfl)
        have ld984 : ∀ w', Kept Nil_ W8.drew w' → w'.cell? ⟨gr, 2, none⟩ = some (.int .i64 z3) := fun w' h => h.nil_cell (G_981.out.cell (i := 2) rfl)
        have ld985 : ∀ w', Kept Nil_ W8.drew w' → w'.cell? ⟨bd, of2 + j2 * 3, none⟩ = some (.int .i64 z1) := fun w' h => h.nil_cell ((HCz.out _ Bel_981.out).1)
        have ld986 : ∀ w', Kept Nil_ W8.drew w' → w'.cell? ⟨bd, of2 + j2 * 3 + 1, none⟩ = some (.int .i64 z2) := fun w' h => h.nil_cell ((HCz.out _ Bel_981.out).2.1)
        have ld987 : ∀ w', Kept Nil_ W8.drew w' → w'.cell? ⟨bd, of2 + j2 * 3 + 2, none⟩ = some (.int .i64 z3) := fun w' h => h.nil_cell ((HCz.out _ Bel_981.out).2.2)
        refine wp_region_reg Nil_ (by kernel_rfl) ?_
        apply wpR_next 0 (some 79)
        · simp only [List.getElem?_toArray, List.getElem?_cons_succ, List.getElem?_cons_zero]; exact rfl
        · rfl
        · kernel_rfl
        · kernel_rfl
        · kernel_rfl
        · exact fun _ _ _ _ h => h
        apply Exists.intro
        apply And.intro
        · apply yr_run; rfl; intro w' hw'; go_simp; (try with_reducible rfl)
        simp only [Act.put, List.setIfInBounds_toArray, List.set_cons_zero, List.set_cons_succ]
        apply wpR_next 1 (some 80)
        · simp only [List.getElem?_toArray, List.getElem?_cons_succ, List.getElem?_cons_zero]; exact rfl
        · rfl
        · kernel_rfl
        · kernel_rfl
        · kernel_rfl
        · exact fun _ _ _ _ h => h
        apply Exists.intro
        apply And.intro
        · apply yr_run; rfl; intro w' hw'; go_simp; (try with_reducible rfl)
        simp only [Act.put, List.setIfInBounds_toArray, List.set_cons_zero, List.set_cons_succ]
        apply wpR_next 2 (some 81)
        · simp only [List.getElem?_toArray, List.getElem?_cons_succ, List.getElem?_cons_zero]; exact rfl
        · rfl
        · kernel_rfl
        · kernel_rfl
        · kernel_rfl
        · exact fun _ _ _ _ h => h
        apply Exists.intro
        apply And.intro
        · apply yr_run; rfl; intro w' hw'; go_simp; (try with_reducible rfl)
        simp only [Act.put, List.setIfInBounds_toArray, List.set_cons_zero, List.set_cons_succ]
        apply wpR_next 3 (some 82)
        · simp only [List.getElem?_toArray, List.getElem?_cons_succ, List.getElem?_cons_zero]; exact rfl
        · rfl
        · kernel_rfl
        · kernel_rfl
        · kernel_rfl
        · exact fun _ _ _ _ h => h
        apply Exists.intro
        apply And.intro
        · apply yr_run; rfl; intro w' hw'; go_simp; (try with_reducible rfl)
        simp only [Act.put, List.setIfInBounds_toArray, List.set_cons_zero, List.set_cons_succ]
        apply wpR_next 4 (some 83)
        · simp only [List.getElem?_toArray, List.getElem?_cons_succ, List.getElem?_cons_zero]; exact rfl
        · rfl
        · kernel_rfl
        · kernel_rfl
        · kernel_rfl
        · exact fun _ _ _ _ h => h
        apply Exists.intro
        apply And.intro
        · apply yr_run; rfl; intro w' hw'; go_simp; (try with_reducible rfl)
        simp only [Act.put, List.setIfInBounds_toArray, List.set_cons_zero, List.set_cons_succ]
        apply wpR_next 5 (some 84)
        · simp only [List.getElem?_toArray, List.getElem?_cons_succ, List.getElem?_cons_zero]; exact rfl
        · rfl
        · kernel_rfl
        · kernel_rfl
        · kernel_rfl
        · exact fun _ _ _ _ h => h
        apply Exists.intro
        apply And.intro
        · apply yr_run; rfl; intro w' hw'; go_simp; (try with_reducible rfl)
        simp only [Act.put, List.setIfInBounds_toArray, List.set_cons_zero, List.set_cons_succ]
        apply wpR_next 6 (some 85)
        · simp only [List.getElem?_toArray, List.getElem?_cons_succ, List.getElem?_cons_zero]; exact rfl
        · rfl
        · kernel_rfl
        · kernel_rfl
        · kernel_rfl
        · exact fun _ _ _ _ h => h
        apply Exists.intro
        apply And.intro
        · apply yr_run; rfl; intro w' hw'; go_simp; (try with_reducible rfl)
        simp only [Act.put, List.setIfInBounds_toArray, List.set_cons_zero, List.set_cons_succ]
        apply wpR_next 7 (some 86)
        · simp only [List.getElem?_toArray, List.getElem?_cons_succ, List.getElem?_cons_zero]; exact rfl
        · rfl
        · kernel_rfl
        · kernel_rfl
        · kernel_rfl
        · exact fun _ _ _ _ h => h
        apply Exists.intro
        apply And.intro
        · apply yr_run; rfl; intro w' hw'; go_simp; (try with_reducible rfl)
        simp only [Act.put, List.setIfInBounds_toArray, List.set_cons_zero, List.set_cons_succ]
        apply wpR_next 8 (some 87)
        · simp only [List.getElem?_toArray, List.getElem?_cons_succ, List.getElem?_cons_zero]; exact rfl
        · rfl
        · kernel_rfl
        · kernel_rfl
        · kernel_rfl
        · exact fun _ _ _ _ h => h
        apply Exists.intro
        apply And.intro
        · apply yr_run; rfl; intro w' hw'; go_simp; (try with_reducible rfl)
        simp only [Act.put, List.setIfInBounds_toArray, List.set_cons_zero, List.set_cons_succ]
        apply wpR_next 9 (some 88)
        · simp only [List.getElem?_toArray, List.getElem?_cons_succ, List.getElem?_cons_zero]; exact rfl
        · rfl
        · kernel_rfl
        · kernel_rfl
        · kernel_rfl
        · exact fun _ _ _ _ h => h
        apply Exists.intro
        apply And.intro
        · apply yr_run; rfl; intro w' hw'; go_simp; (try with_reducible rfl)
        simp only [Act.put, List.setIfInBounds_toArray, List.set_cons_zero, List.set_cons_succ]
        apply wpR_next 10 (some 89)
        · simp only [List.getElem?_toArray, List.getElem?_cons_succ, List.getElem?_cons_zero]; exact rfl
        · rfl
        · kernel_rfl
        · kernel_rfl
        · kernel_rfl
        · exact fun _ _ _ _ h => h
        apply Exists.intro
        apply And.intro
        · apply yr_run; rfl; intro w' hw'; go_simp; (try with_reducible rfl)
        simp only [Act.put, List.setIfInBounds_toArray, List.set_cons_zero, List.set_cons_succ]
        apply wpR_next 11 (some 90)
        · simp only [List.getElem?_toArray, List.getElem?_cons_succ, List.getElem?_cons_zero]; exact rfl
        · rfl
        · kernel_rfl
        · kernel_rfl
        · kernel_rfl
        · exact fun _ _ _ _ h => h
        apply Exists.intro
        apply And.intro
        · apply yr_run; rfl; intro w' hw'; go_simp; (try with_reducible rfl)
        simp only [Act.put, List.setIfInBounds_toArray, List.set_cons_zero, List.set_cons_succ]
        apply wpR_next 12 (some 91)
        · simp only [List.getElem?_toArray, List.getElem?_cons_succ, List.getElem?_cons_zero]; exact rfl
        · rfl
        · kernel_rfl
        · kernel_rfl
        · kernel_rfl
        · exact fun _ _ _ _ h => h
        apply Exists.intro
        apply And.intro
        · apply yr_run; rfl; intro w' hw'; go_simp; (try with_reducible rfl)
        simp only [Act.put, List.setIfInBounds_toArray, List.set_cons_zero, List.set_cons_succ]
        apply wpR_next 13 (some 92)
        · simp only [List.getElem?_toArray, List.getElem?_cons_succ, List.getElem?_cons_zero]; exact rfl
        · rfl
        · kernel_rfl
        · kernel_rfl
        · kernel_rfl
        · exact fun _ _ _ _ h => h
        apply Exists.intro
        apply And.intro
        · apply yr_run; rfl; intro w' hw'; go_simp; (try with_reducible rfl)
        simp only [Act.put, List.setIfInBounds_toArray, List.set_cons_zero, List.set_cons_succ]
        refine wpR_done (by kernel_rfl) ?_ _
        intro w988 hw'
        have G_989 := Lib.hid (G_981.out.bl hw')
        have Bel_989 := Lib.hid (bel_bl Bel_981.out hw')
        clear G_981 Bel_981
        clear hw'
        have HBn := Lib.hid Bel_989.out
        clear G_989 Bel_989 hqz
        go_wp2
        go_roundw
        case rel => exact ⟨i + 1, by omega, by go_num, HBn⟩
        case measure => simp [intOf] <;> omega
      · obtain rfl : tn = i := by omega
        have HYo := Lib.hid (HY5.out.bl HBo.out)
        obtain ⟨hc1, hc2, hc3⟩ := HCt.out _ HBo.out 0 hpos
        rw [Hhd.out] at hc1 hc2 hc3
        simp only [Nat.zero_mul, Nat.add_zero] at hc1 hc2 hc3
        have hgt : decide ((0 : Int) < (tn : Int)) = true := decide_eq_true (by omega)
        have hqx : ∀ W, (binOp .eql 29 (.agg #[.int .i64 x1, .int .i64 x2, .int .i64 x3]) (.agg #[.int .i64 x1, .int .i64 x2, .int .i64 x3])).run Try.prog W = .ok (.bool true) W := fun W => by
          have e := eq_dart_run (x1, x2, x3) (x1, x2, x3) W
          rw [decide_eq_true rfl] at e
          exact e
        go_upto_region 18 with fail
        have X_1001 := Lib.hid (HYo.out.dr)
        have Bel_1001 := Lib.hid (bel_dr HBo.out)
        have ld1002 : ∀ w', Kept Nil_ wo.drew w' → w'.cell? ⟨(w.heap.size + 1), 0, none⟩ = some (.int .i64 x1) := fun w' h => h.nil_cell (X_1001.out.cell (i := 0) rfl)
        have ld1003 : ∀ w', Kept Nil_ wo.drew w' → w'.cell? ⟨(w.heap.size + 1), 1, none⟩ = some (.int .i64 x2) := fun w' h => h.nil_cell (X_1001.out.cell (i := 1) rfl)
        have ld1004 : ∀ w', Kept Nil_ wo.drew w' → w'.cell? ⟨(w.heap.size + 1), 2, none⟩ = some (.int .i64 x3) := fun w' h => h.nil_cell (X_1001.out.cell (i := 2) rfl)
        have ld1005 : ∀ w', Kept Nil_ wo.drew w' → w'.cell? ⟨bd, of2, none⟩ = some (.int .i64 x1) := fun w' h => h.nil_cell ((show wo.drew.cell? _ = _ from hc1))
        have ld1006 : ∀ w', Kept Nil_ wo.drew w' → w'.cell? ⟨bd, of2 + 1, none⟩ = some (.int .i64 x2) := fun w' h => h.nil_cell ((show wo.drew.cell? _ = _ from hc2))
        have ld1007 : ∀ w', Kept Nil_ wo.drew w' → w'.cell? ⟨bd, of2 + 2, none⟩ = some (.int .i64 x3) := fun w' h => h.nil_cell ((show wo.drew.cell? _ = _ from hc3))
        refine wp_region_reg Nil_ (by kernel_rfl) ?_
        apply wpR_next 0 (some 93)
        · simp only [List.getElem?_toArray, List.getElem?_cons_succ, List.getElem?_cons_zero]; exact rfl
        · rfl
        · kernel_rfl
        · kernel_rfl
        · kernel_rfl
        · exact fun _ _ _ _ h => h
        apply Exists.intro
        apply And.intro
        · apply yr_run; rfl; intro w' hw'; go_simp; (try with_reducible rfl)
        simp only [Act.put, List.setIfInBounds_toArray, List.set_cons_zero, List.set_cons_succ]
        apply wpR_next 1 (some 94)
        · simp only [List.getElem?_toArray, List.getElem?_cons_succ, List.getElem?_cons_zero]; exact rfl
        · rfl
        · kernel_rfl
        · kernel_rfl
        · kernel_rfl
        · exact fun _ _ _ _ h => h
        apply Exists.intro
        apply And.intro
        · apply yr_run; rfl; intro w' hw'; go_simp; (try with_reducible rfl)
        simp only [Act.put, List.setIfInBounds_toArray, List.set_cons_zero, List.set_cons_succ]
        apply wpR_next 2 (some 95)
        · simp only [List.getElem?_toArray, List.getElem?_cons_succ, List.getElem?_cons_zero]; exact rfl
        · rfl
        · kernel_rfl
        · kernel_rfl
        · kernel_rfl
        · exact fun _ _ _ _ h => h
        apply Exists.intro
        apply And.intro
        · apply yr_run; rfl; intro w' hw'; go_simp; (try with_reducible rfl)
        simp only [Act.put, List.setIfInBounds_toArray, List.set_cons_zero, List.set_cons_succ]
        apply wpR_next 3 (some 96)
        · simp only [List.getElem?_toArray, List.getElem?_cons_succ, List.getElem?_cons_zero]; exact rfl
        · rfl
        · kernel_rfl
        · kernel_rfl
        · kernel_rfl
        · exact fun _ _ _ _ h => h
        apply Exists.intro
        apply And.intro
        · apply yr_run; rfl; intro w' hw'; go_simp; (try with_reducible rfl)
        simp only [Act.put, List.setIfInBounds_toArray, List.set_cons_zero, List.set_cons_succ]
        apply wpR_next 4 (some 97)
        · simp only [List.getElem?_toArray, List.getElem?_cons_succ, List.getElem?_cons_zero]; exact rfl
        · rfl
        · kernel_rfl
        · kernel_rfl
        · kernel_rfl
        · exact fun _ _ _ _ h => h
        apply Exists.intro
        apply And.intro
        · apply yr_run; rfl; intro w' hw'; go_simp; (try with_reducible rfl)
        simp only [Act.put, List.setIfInBounds_toArray, List.set_cons_zero, List.set_cons_succ]
        apply wpR_next 5 (some 98)
        · simp only [List.getElem?_toArray, List.getElem?_cons_succ, List.getElem?_cons_zero]; exact rfl
        · rfl
        · kernel_rfl
        · kernel_rfl
        · kernel_rfl
        · exact fun _ _ _ _ h => h
        apply Exists.intro
        apply And.intro
        · apply yr_run; rfl; intro w' hw'; go_simp; (try with_reducible rfl)
        simp only [Act.put, List.setIfInBounds_toArray, List.set_cons_zero, List.set_cons_succ]
        apply wpR_next 6 (some 99)
        · simp only [List.getElem?_toArray, List.getElem?_cons_succ, List.getElem?_cons_zero]; exact rfl
        · rfl
        · kernel_rfl
        · kernel_rfl
        · kernel_rfl
        · exact fun _ _ _ _ h => h
        apply Exists.intro
        apply And.intro
        · apply yr_run; rfl; intro w' hw'; go_simp; (try with_reducible rfl)
        simp only [Act.put, List.setIfInBounds_toArray, List.set_cons_zero, List.set_cons_succ]
        apply wpR_next 7 (some 100)
        · simp only [List.getElem?_toArray, List.getElem?_cons_succ, List.getElem?_cons_zero]; exact rfl
        · rfl
        · kernel_rfl
        · kernel_rfl
        · kernel_rfl
        · exact fun _ _ _ _ h => h
        apply Exists.intro
        apply And.intro
        · apply yr_run; rfl; intro w' hw'; go_simp; (try with_reducible rfl)
        simp only [Act.put, List.setIfInBounds_toArray, List.set_cons_zero, List.set_cons_succ]
        apply wpR_next 8 (some 101)
        · simp only [List.getElem?_toArray, List.getElem?_cons_succ, List.getElem?_cons_zero]; exact rfl
        · rfl
        · kernel_rfl
        · kernel_rfl
        · kernel_rfl
        · exact fun _ _ _ _ h => h
        apply Exists.intro
        apply And.intro
        · apply yr_run; rfl; intro w' hw'; go_simp; (try with_reducible rfl)
        simp only [Act.put, List.setIfInBounds_toArray, List.set_cons_zero, List.set_cons_succ]
        apply wpR_next 9 (some 102)
        · simp only [List.getElem?_toArray, List.getElem?_cons_succ, List.getElem?_cons_zero]; exact rfl
        · rfl
        · kernel_rfl
        · kernel_rfl
        · kernel_rfl
        · exact fun _ _ _ _ h => h
        apply Exists.intro
        apply And.intro
        · apply yr_run; rfl; intro w' hw'; go_simp; (try with_reducible rfl)
        simp only [Act.put, List.setIfInBounds_toArray, List.set_cons_zero, List.set_cons_succ]
        apply wpR_next 10 (some 103)
        · simp only [List.getElem?_toArray, List.getElem?_cons_succ, List.getElem?_cons_zero]; exact rfl
        · rfl
        · kernel_rfl
        · kernel_rfl
        · kernel_rfl
        · exact fun _ _ _ _ h => h
        apply Exists.intro
        apply And.intro
        · apply yr_run; rfl; intro w' hw'; go_simp; (try with_reducible rfl)
        simp only [Act.put, List.setIfInBounds_toArray, List.set_cons_zero, List.set_cons_succ]
        apply wpR_next 11 (some 104)
        · simp only [List.getElem?_toArray, List.getElem?_cons_succ, List.getElem?_cons_zero]; exact rfl
        · rfl
        · kernel_rfl
        · kernel_rfl
        · kernel_rfl
        · exact fun _ _ _ _ h => h
        apply Exists.intro
        apply And.intro
        · apply yr_run; rfl; intro w' hw'; go_simp; (try with_reducible rfl)
        simp only [Act.put, List.setIfInBounds_toArray, List.set_cons_zero, List.set_cons_succ]
        apply wpR_next 12 (some 105)
        · simp only [List.getElem?_toArray, List.getElem?_cons_succ, List.getElem?_cons_zero]; exact rfl
        · rfl
        · kernel_rfl
        · kernel_rfl
        · kernel_rfl
        · exact fun _ _ _ _ h => h
        apply Exists.intro
        apply And.intro
        · apply yr_run; rfl; intro w' hw'; go_simp; (try with_reducible rfl)
        simp only [Act.put, List.setIfInBounds_toArray, List.set_cons_zero, List.set_cons_succ]
        apply wpR_next 13 (some 4)
        · simp only [List.getElem?_toArray, List.getElem?_cons_succ, List.getElem?_cons_zero]; exact rfl
        · rfl
        · kernel_rfl
        · kernel_rfl
        · kernel_rfl
        · exact fun _ _ _ _ h => h
        apply Exists.intro
        apply And.intro
        · apply yr_run; rfl; intro w' hw'; go_simp; (try with_reducible rfl)
        simp only [Act.put, List.setIfInBounds_toArray, List.set_cons_zero, List.set_cons_succ]
        refine wpR_done (by kernel_rfl) ?_ _
        intro w1008 hw'
        have X_1009 := Lib.hid (X_1001.out.bl hw')
        have Bel_1009 := Lib.hid (bel_bl Bel_1001.out hw')
        clear X_1001 Bel_1001
        clear hw'
        go_wp2
        go_ret
        exact ⟨by first | rfl | simp, HB5.out.trans (Bel_1009.out.mono HB5.out.size)⟩
  · rw [decide_eq_false hxr]
    obtain ⟨h0, hsh⟩ := HNo.out hxr
    subst h0
    subst hsh
    clear HTi HYe HNo hxr HTn HT0 HAt
    have lw23 : ((w21.alloc (.cells #[.int .i64 a1, .int .i64 a2] 27))).cell? ⟨w.heap.size, 0, none⟩ = some (.slice A n c) := (D0_22.out.al (.cells #[.int .i64 a1, .int .i64 a2] 27)).cell (i := 0) rfl
    have lw24 : ((w21.alloc (.cells #[.int .i64 a1, .int .i64 a2] 27))).cell? ⟨w.heap.size, 1, none⟩ = some (.slice B m k) := (D0_22.out.al (.cells #[.int .i64 a1, .int .i64 a2] 27)).cell (i := 1) rfl
    have lw25 : ((w21.alloc (.cells #[.int .i64 a1, .int .i64 a2] 27))).cell? ⟨(w.heap.size + 1), 0, none⟩ = some (.int .i64 x1) := (X_22.out.al (.cells #[.int .i64 a1, .int .i64 a2] 27)).cell (i := 0) rfl
    have lw26 : ((w21.alloc (.cells #[.int .i64 a1, .int .i64 a2] 27))).cell? ⟨(w.heap.size + 1), 1, none⟩ = some (.int .i64 x2) := (X_22.out.al (.cells #[.int .i64 a1, .int .i64 a2] 27)).cell (i := 1) rfl
    have lw27 : ((w21.alloc (.cells #[.int .i64 a1, .int .i64 a2] 27))).cell? ⟨(w.heap.size + 1), 2, none⟩ = some (.int .i64 x3) := (X_22.out.al (.cells #[.int .i64 a1, .int .i64 a2] 27)).cell (i := 2) rfl
    go_wp2_with fail
    clear lw23 lw24 lw25 lw26 lw27
    refine (HSh.out _ (Da_22.out.al (.cells #[.int .i64 a1, .int .i64 a2] 27))).mono ?_
    rintro e w28 ⟨rfl, hb28⟩
    have Da_29 := Lib.hid ((Da_22.out.al (.cells #[.int .i64 a1, .int .i64 a2] 27)).bl hb28)
    have D0_29 := Lib.hid ((D0_22.out.al (.cells #[.int .i64 a1, .int .i64 a2] 27)).bl hb28)
    have X_29 := Lib.hid ((X_22.out.al (.cells #[.int .i64 a1, .int .i64 a2] 27)).bl hb28)
    have T_29 := Lib.hid ((T_22.out.al (.cells #[.int .i64 a1, .int .i64 a2] 27)).bl hb28)
    have I_29 := Lib.hid ((show Whole (w21.alloc (.cells #[.int .i64 a1, .int .i64 a2] 27)) (w21.heap.size) (27) ([.int .i64 a1, .int .i64 a2]) from Whole.new2 (by first | rfl | simp)).bl hb28)
    have Bel_29 := Lib.hid (bel_bl (bel_al Bel_22.out (.cells #[.int .i64 a1, .int .i64 a2] 27)) hb28)
    clear Da_22 D0_22 X_22 T_22 Bel_22
    clear hb28
    go_wp2
    go_ret
    exact ⟨by first | rfl | simp, Bel_29.out⟩
end Go.Proofs.Ytjkbcpikdkidhaa
