/- The document's Trace. -/
import Derived.Test.YtpindjknngcccaaFc11
import Derived.Test.YtpindjknngcccaaFcD
namespace Go.Proofs.Ytpindjknngcccaa
open Go.RowKit
set_option linter.unusedSimpArgs false
set_option linter.unusedVariables false


def lenS : Value → Nat
  | .slice _ n _ => n
  | _ => 0
theorem Ow.cell_ {w W : World} {B size n g : Nat} {e : TypeId} {v : Value} {xs : List Value} (h : Ow w B e size v n xs W) (hne : some g ≠ v.ownBlock) (hg : w.heap.size ≤ g) (i : Nat) (u : Value) : Ow w B e size v n xs (W.setCell ⟨g, i, none⟩ u) :=
  ⟨own_cell_far h.own hne u, h.below.setCell (p := ⟨g, i, none⟩) hg u, h.lo, by simpa [World.setCell] using h.hi⟩
theorem orb_more {f : D → D} (x : D) (j : Nat) : orbN f x (j + 1) = orbN f x j ++ [itN f j x] := by
  unfold orbN
  rw [List.range_succ, List.map_append]
  rfl
set_option maxRecDepth 100000 in
set_option maxHeartbeats 4000000 in
theorem rtrace_any (A : Option Addr) (n c : Nat) (Vs : List VC) (B : Option Addr) (m k : Nat) (Es : List EC) (x1 x2 x3 : Int) (w : World) (h : DgIn w A n c Vs B m k Es) (hf : Formed Vs Es) (hb : -9223372036854775808 ≤ x3 ∧ x3 ≤ 9223372036854775807) :
    Calls Try.prog 25 #[.agg #[.slice A n c, .slice B m k], .agg #[.int .i64 x1, .int .i64 x2, .int .i64 x3]] w fun e w' => ∃ A' c', e = .returned (.slice A' (faceD Vs (x1, x2, x3)).length c') ∧ w'.ownsRow w.heap.size 39 3 (.slice A' (faceD Vs (x1, x2, x3)).length c') (faceD Vs (x1, x2, x3)).length (dartsV (faceD Vs (x1, x2, x3))) ∧ Below w.heap.size w w' := by
  have HDa := Lib.hid h
  have HFm := Lib.hid hf
  obtain ⟨i0, hi0, hz0, hz1, hz2⟩ := info_partsD info_dartD
  have hPx := fun W (h : DgIn W A n c Vs B m k Es) => rphi_any A n c Vs B m k Es x1 x2 x3 W h hf hb
  have HPy : RowKit.Hid (∀ y1 y2 y3 : Int, (y1, y2, y3) ∈ ringsOf Vs → ∀ W, DgIn W A n c Vs B m k Es → Calls Try.prog 44 #[.agg #[.slice A n c, .slice B m k], .agg #[.int .i64 y1, .int .i64 y2, .int .i64 y3]] W (GivesD W (phF Vs (y1, y2, y3)) true)) := Lib.hid (fun y1 y2 y3 hy W h => by
    obtain ⟨e, _, _, q⟩ := (hf.mem _).1 hy
    have := rphi_any A n c Vs B m k Es y1 y2 y3 W h hf (by simp only at q; omega)
    rwa [if_pos hy, decide_eq_true hy] at this)
  by_cases hx : (x1, x2, x3) ∈ ringsOf Vs
  · obtain ⟨p, hp, hpl⟩ := hf.phi.per hx
    have h80 := hf.l80
    have ef : faceD Vs (x1, x2, x3) = orbN (phF Vs) (x1, x2, x3) p := by rw [faceD, if_pos hx, orbT_all hp (by omega)]
    have hp80 : p ≤ 80 := by omega
    simp only [if_pos hx, decide_eq_true hx] at hPx
    rw [ef, orb_len]
    have HPx := Lib.hid hPx
    have Hp := Lib.hid hp
    have Hx := Lib.hid hx
    obtain ⟨⟨p1, p2, p3⟩, gp⟩ : ∃ z, phF Vs (x1, x2, x3) = z := ⟨_, rfl⟩
    rw [gp] at HPx
    have Gp := Lib.hid gp
    have hpos := hp.pos
    clear h hf hb hPx hx hp hpl h80 ef gp
    go_enter Try.func25, Try.ntmps25
    go_upto_region 1 with fail
    have hx0 : Whole ((w.alloc (.cells #[.slice A n c, .slice B m k] 25)).alloc (.cells #[.int .i64 x1, .int .i64 x2, .int .i64 x3] 39)) (w.heap.size) 25 [.slice A n c, .slice B m k] := ((Whole.new_ w 25 [.slice A n c, .slice B m k]).alloc (.cells #[.int .i64 x1, .int .i64 x2, .int .i64 x3] 39))
    have hx1 : Whole ((w.alloc (.cells #[.slice A n c, .slice B m k] 25)).alloc (.cells #[.int .i64 x1, .int .i64 x2, .int .i64 x3] 39)) (w.heap.size + 1) 39 [.int .i64 x1, .int .i64 x2, .int .i64 x3] := (Whole.new2 (w := (w.alloc (.cells #[.slice A n c, .slice B m k] 25))) (by simp))
    have hbl : Below w.heap.size w ((w.alloc (.cells #[.slice A n c, .slice B m k] 25)).alloc (.cells #[.int .i64 x1, .int .i64 x2, .int .i64 x3] 39)) := (bel_al (below1 w (.cells #[.slice A n c, .slice B m k] 25)) (.cells #[.int .i64 x1, .int .i64 x2, .int .i64 x3] 39))
    have hsz : w.heap.size + 1 + 1 ≤ (((w.alloc (.cells #[.slice A n c, .slice B m k] 25)).alloc (.cells #[.int .i64 x1, .int .i64 x2, .int .i64 x3] 39))).heap.size := by simp
    obtain ⟨W0, gW0⟩ : ∃ z, ((w.alloc (.cells #[.slice A n c, .slice B m k] 25)).alloc (.cells #[.int .i64 x1, .int .i64 x2, .int .i64 x3] 39)) = z := ⟨_, rfl⟩
    rw [gW0] at hx0 hx1 hbl hsz
    obtain ⟨b1, gb1⟩ : ∃ z, w.heap.size + 1 = z := ⟨_, rfl⟩
    rw [gb1] at hx1
    obtain ⟨b0, gb0⟩ : ∃ z, w.heap.size = z := ⟨_, rfl⟩
    rw [gb0] at hx0
    have HX0 := Lib.hid hx0
    have HX1 := Lib.hid hx1
    have HB0 := Lib.hid hbl
    have HS0 := Lib.hid hsz
    have Gb0 := Lib.hid gb0
    have Lb0 : RowKit.Hid (w.heap.size ≤ b0) := Lib.hid (by omega)
    have Gb1 := Lib.hid gb1
    have Lb1 : RowKit.Hid (w.heap.size ≤ b1) := Lib.hid (by omega)
    have N01 : RowKit.Hid (b0 ≠ b1) := Lib.hid (by omega)
    rw [gW0, gb1, gb0]
    clear gW0 hbl hsz hx0 hx1 gb0 gb1
    have HD1 := Lib.hid (HX0.out.al (.cells #[] 39))
    have HX1 := Lib.hid (HX1.out.al (.cells #[] 39))
    have HO1 : RowKit.Hid (Ow w (b1 + 1) 39 3 (.slice (some ⟨W0.heap.size, 0, none⟩) 0 0) 0 [] (W0.alloc (.cells #[] 39))) := Lib.hid (Ow.new_ (cs := #[]) HB0.out (by have := Lb1.out; omega) (by have := HX1.out.lt; simp at this; have := HS0.out; have := Gb1.out; omega) (by unfold maxLen; omega) rfl)
    have c0 := HD1.out.cell (i := 0) rfl
    have c1 := HD1.out.cell (i := 1) rfl
    have d0 := HX1.out.cell (i := 0) rfl
    have d1 := HX1.out.cell (i := 1) rfl
    have d2 := HX1.out.cell (i := 2) rfl
    go_wp2_with fail
    refine (HPx.out _ (HDa.out.bl HO1.out.below)).mono ?_
    rintro e w2 ⟨rfl, hb2⟩
    have HD2 := Lib.hid (HD1.out.bl hb2)
    have HX2 := Lib.hid (HX1.out.bl hb2)
    have HO2 := Lib.hid (HO1.out.up hb2)
    clear c0 c1 d0 d1 d2 HD1 HX1 HO1 HX0 HB0
    have HO2n : RowKit.Hid (some w2.heap.size ≠ (Value.slice (some ⟨W0.heap.size, 0, none⟩) 0 0).ownBlock) := Lib.hid (HO2.out.ne_ (Nat.le_refl _))
    clear hb2
    have HD3 := Lib.hid (HD2.out.al (.cells #[.int .i64 p1, .int .i64 p2, .int .i64 p3] 39))
    have HXc := Lib.hid (HX2.out.al (.cells #[.int .i64 p1, .int .i64 p2, .int .i64 p3] 39))
    have HY3 := Lib.hid (Whole.new_ w2 39 [.int .i64 p1, .int .i64 p2, .int .i64 p3])
    have HO3 := Lib.hid (HO2.out.up (below1 w2 (.cells #[.int .i64 p1, .int .i64 p2, .int .i64 p3] 39)))
    go_upto_region 5 with fail
    have L3a : w.heap.size ≤ w2.heap.size := HO2.out.below.size
    have N3a : b1 < w2.heap.size := HX2.out.lt
    obtain ⟨W3, gW3⟩ : ∃ z, w2.alloc (.cells #[.int .i64 p1, .int .i64 p2, .int .i64 p3] 39) = z := ⟨_, rfl⟩
    obtain ⟨b3, gb3⟩ : ∃ z, w2.heap.size = z := ⟨_, rfl⟩
    obtain ⟨g1, gg1⟩ : ∃ z, W0.heap.size = z := ⟨_, rfl⟩
    rw [gW3] at HD3 HXc HY3 HO3 ⊢
    rw [gb3] at HY3 HO2n L3a N3a ⊢
    rw [gg1] at HO3 HO2n ⊢
    have L3 := Lib.hid L3a
    have N3 := Lib.hid N3a
    obtain ⟨v0, gv0⟩ : ∃ z, Value.slice (some ⟨g1, 0, none⟩) 0 0 = z := ⟨_, rfl⟩
    rw [gv0] at HO3 HO2n ⊢
    clear gW3 gb3 gg1 gv0 HD2 HX2 HO2 L3a N3a
    have d0 := HXc.out.cell (i := 0) rfl
    have d1 := HXc.out.cell (i := 1) rfl
    have d2 := HXc.out.cell (i := 2) rfl
    obtain ⟨v5, w5, hrun, how5, hb5, hg5, ho5⟩ := Ow.app2 (P := Try.prog) 40 40 39 i0 _ 3 24 (b1 + 1) Try.underlying40 hi0 hz0 hz1 hz2 rfl (by decide) _ 0 _ (HO3.out.up (below1 _ _)) _ (some ⟨W3.heap.size, 0, none⟩) 1 1 (dartsV [(x1, x2, x3)]) (RdS.whole3 (L := [(x1, x2, x3)]) (Whole.new_ W3 39 [.int .i64 x1, .int .i64 x2, .int .i64 x3])) (dartsV_one _) (by unfold maxLen; omega) (by omega)
    obtain ⟨A5, c5, rfl, -⟩ := how5.rds
    have HN5 : RowKit.Hid (some b3 ≠ (Value.slice A5 1 c5).ownBlock) := Lib.hid (Ow.ne2 HO2n.out (by have := HY3.out.lt; simp; omega) ho5)
    have HD5 := Lib.hid ((HD3.out.al (.cells #[.int .i64 x1, .int .i64 x2, .int .i64 x3] 39)).at_ (hb5.block b0 (by have := Gb0.out; have := Gb1.out; omega)))
    have HX5 := Lib.hid ((HXc.out.al (.cells #[.int .i64 x1, .int .i64 x2, .int .i64 x3] 39)).at_ (hb5.block b1 (by omega)))
    have HY5 := Lib.hid ((HY3.out.al (.cells #[.int .i64 x1, .int .i64 x2, .int .i64 x3] 39)).grown hg5 HO2n.out)
    have HO5 : RowKit.Hid (Ow w (b1 + 1) 39 3 (.slice A5 1 c5) 1 (dartsV (orbN (phF Vs) (x1, x2, x3) 1)) w5) := Lib.hid how5
    have Hrun := Lib.hid hrun
    clear hrun how5 hb5 hg5 ho5 HD3 HXc HY3 HO3 HO2n
    go_wp2_with (first
      | (at_builtin
         refine wpList_app rfl (.tmp 18) (.tmp 20) _ rfl rfl rfl Hrun.out ?_
         clear d0 d1 d2 Hrun))
    skip
    go_loopw [5] (fun so wr => ∃ (j : Nat) (A2 : Option Addr) (c2 : Nat) (y1 y2 y3 : Int), 1 ≤ j ∧ j ≤ p ∧ so = .slice A2 j c2 ∧ RowKit.Hid (Whole wr b0 25 [.slice A n c, .slice B m k]) ∧ RowKit.Hid (Whole wr b1 39 [.int .i64 x1, .int .i64 x2, .int .i64 x3]) ∧ RowKit.Hid (Whole wr b3 39 [.int .i64 y1, .int .i64 y2, .int .i64 y3]) ∧ RowKit.Hid (Ow w (b1 + 1) 39 3 (.slice A2 j c2) j (dartsV (orbN (phF Vs) (x1, x2, x3) j)) wr) ∧ RowKit.Hid (some b3 ≠ (Value.slice A2 j c2).ownBlock) ∧ RowKit.Hid (itN (phF Vs) j (x1, x2, x3) = (y1, y2, y3))) (fun so _ => p - (lenS so))
    case atStart => exact ⟨1, A5, c5, p1, p2, p3, by omega, hpos, rfl, HD5, HX5, HY5, HO5, HN5, Lib.hid Gp.out⟩
    case round =>
      clear HD5 HX5 HY5 HO5 HN5
      obtain ⟨j, A2, c2, y1, y2, y3, hj1, hj, rfl, HD, HX, HY, HO, HN, HI⟩ := hrel
      obtain ⟨wo, gwo⟩ : ∃ z, wr = z := ⟨_, rfl⟩
      rw [gwo] at HD HX HY HO ⊢
      clear gwo
      have c0 := HD.out.cell (i := 0) rfl
      have c1 := HD.out.cell (i := 1) rfl
      have d0 := HX.out.cell (i := 0) rfl
      have d1 := HX.out.cell (i := 1) rfl
      have d2 := HX.out.cell (i := 2) rfl
      have e0 := HY.out.cell (i := 0) rfl
      have e1 := HY.out.cell (i := 1) rfl
      have e2 := HY.out.cell (i := 2) rfl
      by_cases hjp : j < p
      · have hne : ¬ (y1, y2, y3) = (x1, x2, x3) := fun e => Hp.out.ne j (by omega) hjp (HI.out.trans e)
        have hyr : (y1, y2, y3) ∈ ringsOf Vs := HI.out ▸ HFm.out.phi.it Hx.out j
        have hlt : decide ((j : Int) < 82) = true := decide_eq_true (by omega)
        have HPj := Lib.hid (HPy.out y1 y2 y3 hyr)
        obtain ⟨⟨q1, q2, q3⟩, gq⟩ : ∃ z, phF Vs (y1, y2, y3) = z := ⟨_, rfl⟩
        rw [gq] at HPj
        have HI2 : RowKit.Hid (itN (phF Vs) (j + 1) (x1, x2, x3) = (q1, q2, q3)) := Lib.hid (by rw [it_succ, HI.out, gq])
        have HOn : RowKit.Hid (dartsV (orbN (phF Vs) (x1, x2, x3) j) ++ dartsV [(y1, y2, y3)] = dartsV (orbN (phF Vs) (x1, x2, x3) (j + 1))) := Lib.hid (by rw [orb_more, HI.out, dartsV_app])
        have ht : ∀ W, (binOp .neq 39 (.agg #[.int .i64 y1, .int .i64 y2, .int .i64 y3]) (.agg #[.int .i64 x1, .int .i64 x2, .int .i64 x3])).run Try.prog W = .ok (.bool true) W := fun W => by
          have e := neq_dart_run (y1, y2, y3) (x1, x2, x3) W
          rw [decide_eq_false hne] at e
          exact e
        clear hne hyr gq
        go_upto_region 7 with fail
        clear ht hlt
        obtain ⟨v7, w7, hrun, how7, hb7, hg7, ho7⟩ := Ow.app2 (P := Try.prog) 40 40 39 i0 _ 3 24 (b1 + 1) Try.underlying40 hi0 hz0 hz1 hz2 rfl (by decide) _ j _ (HO.out.up (below1 _ _)) _ (some ⟨wo.heap.size, 0, none⟩) 1 1 (dartsV [(y1, y2, y3)]) (RdS.whole3 (L := [(y1, y2, y3)]) (Whole.new_ wo 39 [.int .i64 y1, .int .i64 y2, .int .i64 y3])) (dartsV_one _) (by unfold maxLen; omega) (by omega)
        obtain ⟨A7, c7, rfl, -⟩ := how7.rds
        have HN7 : RowKit.Hid (some b3 ≠ (Value.slice A7 (j + 1) c7).ownBlock) := Lib.hid (Ow.ne2 HN.out (by have := HY.out.lt; simp; omega) ho7)
        have HD7 := Lib.hid ((HD.out.al (.cells #[.int .i64 y1, .int .i64 y2, .int .i64 y3] 39)).at_ (hb7.block b0 (by have := Gb0.out; have := Gb1.out; omega)))
        have HX7 := Lib.hid ((HX.out.al (.cells #[.int .i64 y1, .int .i64 y2, .int .i64 y3] 39)).at_ (hb7.block b1 (by omega)))
        have HY7 := Lib.hid ((HY.out.al (.cells #[.int .i64 y1, .int .i64 y2, .int .i64 y3] 39)).grown hg7 HN.out)
        have HO7 : RowKit.Hid (Ow w (b1 + 1) 39 3 (.slice A7 (j + 1) c7) (j + 1) (dartsV (orbN (phF Vs) (x1, x2, x3) (j + 1))) w7) := Lib.hid (by rw [← HOn.out]; exact how7)
        have Hrun := Lib.hid hrun
        clear hrun how7 hb7 hg7 ho7 HD HX HY HO HN
        go_upto_region 8 with (first
          | (at_builtin
             refine wpList_app rfl (.tmp 30) (.tmp 32) _ rfl rfl rfl Hrun.out ?_
             clear c0 c1 d0 d1 d2 e0 e1 e2 Hrun))
        have c0 := HD7.out.cell (i := 0) rfl
        have c1 := HD7.out.cell (i := 1) rfl
        have e0 := HY7.out.cell (i := 0) rfl
        have e1 := HY7.out.cell (i := 1) rfl
        have e2 := HY7.out.cell (i := 2) rfl
        go_wp2_with fail
        refine (HPj.out _ (HDa.out.bl HO7.out.below)).mono ?_
        rintro e w8 ⟨rfl, hb8⟩
        have HD8 := Lib.hid (HD7.out.bl hb8)
        have HX8 := Lib.hid (HX7.out.bl hb8)
        have HY8 := Lib.hid (HY7.out.bl hb8)
        have HO8 := Lib.hid (HO7.out.up hb8)
        clear hb8 c0 c1 e0 e1 e2 HD7 HX7 HY7 HO7
        have f0 := HY8.out.free 0
        have f1 := HY8.out.free 1
        have f2 := HY8.out.free 2
        have e0 := HY8.out.cell (i := 0) rfl
        have e1 := HY8.out.cell (i := 1) rfl
        have e2 := HY8.out.cell (i := 2) rfl
        go_wp2
        have hn0 : b0 ≠ b3 := by have := N3.out; have := Gb0.out; have := Gb1.out; omega
        have hn1 : b1 ≠ b3 := by have := N3.out; omega
        have HD9 := Lib.hid (((HD8.out.far (p := ⟨b3, 0, none⟩) hn0 (.int .i64 q1)).far (p := ⟨b3, 1, none⟩) hn0 (.int .i64 q2)).far (p := ⟨b3, 2, none⟩) hn0 (.int .i64 q3))
        have HX9 := Lib.hid (((HX8.out.far (p := ⟨b3, 0, none⟩) hn1 (.int .i64 q1)).far (p := ⟨b3, 1, none⟩) hn1 (.int .i64 q2)).far (p := ⟨b3, 2, none⟩) hn1 (.int .i64 q3))
        have HY9 := Lib.hid (((HY8.out.set_ 0 (.int .i64 q1)).set_ 1 (.int .i64 q2)).set_ 2 (.int .i64 q3))
        have HO9 := Lib.hid (((HO8.out.cell_ HN7.out L3.out 0 (.int .i64 q1)).cell_ HN7.out L3.out 1 (.int .i64 q2)).cell_ HN7.out L3.out 2 (.int .i64 q3))
        clear e0 e1 e2 f0 f1 f2
        go_roundw
        case rel => exact ⟨j + 1, A7, c7, q1, q2, q3, by omega, hjp, by go_num, HD9, HX9, HY9, HO9, HN7, HI2⟩
        case measure => simp [lenS]; omega
      · obtain rfl : p = j := by omega
        have he : (y1, y2, y3) = (x1, x2, x3) := HI.out.symm.trans Hp.out.back
        simp only [Prod.mk.injEq] at he
        obtain ⟨rfl, rfl, rfl⟩ := he
        have ht : ∀ W, (binOp .neq 39 (.agg #[.int .i64 y1, .int .i64 y2, .int .i64 y3]) (.agg #[.int .i64 y1, .int .i64 y2, .int .i64 y3])).run Try.prog W = .ok (.bool false) W := fun W => by
          have e := neq_dart_run (y1, y2, y3) (y1, y2, y3) W
          rw [decide_eq_true rfl] at e
          exact e
        go_wp2
        go_ret
        exact ⟨A2, c2, rfl, own_base HO.out.own (by have := Lb1.out; omega), HO.out.below⟩
  · have ef : faceD Vs (x1, x2, x3) = [] := by rw [faceD, if_neg hx]
    simp only [if_neg hx, decide_eq_false hx] at hPx
    rw [ef]
    have HPx := Lib.hid hPx
    clear h hf hb hPx hx ef HPy
    go_enter Try.func25, Try.ntmps25
    go_upto_region 1 with fail
    have hx0 : Whole ((w.alloc (.cells #[.slice A n c, .slice B m k] 25)).alloc (.cells #[.int .i64 x1, .int .i64 x2, .int .i64 x3] 39)) (w.heap.size) 25 [.slice A n c, .slice B m k] := ((Whole.new_ w 25 [.slice A n c, .slice B m k]).alloc (.cells #[.int .i64 x1, .int .i64 x2, .int .i64 x3] 39))
    have hx1 : Whole ((w.alloc (.cells #[.slice A n c, .slice B m k] 25)).alloc (.cells #[.int .i64 x1, .int .i64 x2, .int .i64 x3] 39)) (w.heap.size + 1) 39 [.int .i64 x1, .int .i64 x2, .int .i64 x3] := (Whole.new2 (w := (w.alloc (.cells #[.slice A n c, .slice B m k] 25))) (by simp))
    have hbl : Below w.heap.size w ((w.alloc (.cells #[.slice A n c, .slice B m k] 25)).alloc (.cells #[.int .i64 x1, .int .i64 x2, .int .i64 x3] 39)) := (bel_al (below1 w (.cells #[.slice A n c, .slice B m k] 25)) (.cells #[.int .i64 x1, .int .i64 x2, .int .i64 x3] 39))
    have hsz : w.heap.size + 1 + 1 ≤ (((w.alloc (.cells #[.slice A n c, .slice B m k] 25)).alloc (.cells #[.int .i64 x1, .int .i64 x2, .int .i64 x3] 39))).heap.size := by simp
    obtain ⟨W0, gW0⟩ : ∃ z, ((w.alloc (.cells #[.slice A n c, .slice B m k] 25)).alloc (.cells #[.int .i64 x1, .int .i64 x2, .int .i64 x3] 39)) = z := ⟨_, rfl⟩
    rw [gW0] at hx0 hx1 hbl hsz
    obtain ⟨b1, gb1⟩ : ∃ z, w.heap.size + 1 = z := ⟨_, rfl⟩
    rw [gb1] at hx1
    obtain ⟨b0, gb0⟩ : ∃ z, w.heap.size = z := ⟨_, rfl⟩
    rw [gb0] at hx0
    have HX0 := Lib.hid hx0
    have HX1 := Lib.hid hx1
    have HB0 := Lib.hid hbl
    have HS0 := Lib.hid hsz
    have Gb0 := Lib.hid gb0
    have Lb0 : RowKit.Hid (w.heap.size ≤ b0) := Lib.hid (by omega)
    have Gb1 := Lib.hid gb1
    have Lb1 : RowKit.Hid (w.heap.size ≤ b1) := Lib.hid (by omega)
    have N01 : RowKit.Hid (b0 ≠ b1) := Lib.hid (by omega)
    rw [gW0, gb1, gb0]
    clear gW0 hbl hsz hx0 hx1 gb0 gb1
    have HD1 := Lib.hid (HX0.out.al (.cells #[] 39))
    have HX1 := Lib.hid (HX1.out.al (.cells #[] 39))
    have HO1 : RowKit.Hid (Ow w (b1 + 1) 39 3 (.slice (some ⟨W0.heap.size, 0, none⟩) 0 0) 0 [] (W0.alloc (.cells #[] 39))) := Lib.hid (Ow.new_ (cs := #[]) HB0.out (by have := Lb1.out; omega) (by have := HX1.out.lt; simp at this; have := HS0.out; have := Gb1.out; omega) (by unfold maxLen; omega) rfl)
    have c0 := HD1.out.cell (i := 0) rfl
    have c1 := HD1.out.cell (i := 1) rfl
    have d0 := HX1.out.cell (i := 0) rfl
    have d1 := HX1.out.cell (i := 1) rfl
    have d2 := HX1.out.cell (i := 2) rfl
    go_wp2_with fail
    refine (HPx.out _ (HDa.out.bl HO1.out.below)).mono ?_
    rintro e w2 ⟨rfl, hb2⟩
    have HD2 := Lib.hid (HD1.out.bl hb2)
    have HX2 := Lib.hid (HX1.out.bl hb2)
    have HO2 := Lib.hid (HO1.out.up hb2)
    clear c0 c1 d0 d1 d2 HD1 HX1 HO1 HX0 HB0
    go_wp2
    go_ret
    exact ⟨_, _, rfl, own_base (HO2.out.up (below1 _ _)).own (by have := Lb1.out; omega), (HO2.out.up (below1 _ _)).below⟩
end Go.Proofs.Ytpindjknngcccaa
