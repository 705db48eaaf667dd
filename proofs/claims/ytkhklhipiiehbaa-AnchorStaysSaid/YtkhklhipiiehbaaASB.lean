/- Several texts in one. -/
import Derived.Test.YtkhklhipiiehbaaASA
import Derived.WalkMore
import Derived.Deep.CutBlock

/- Find: the dart that is told of one that is gone. -/
namespace Go.Proofs.Ytkhklhipiiehbaa
open Go.RowKit
set_option linter.unusedSimpArgs false
set_option linter.unusedVariables false

set_option maxRecDepth 100000 in
set_option maxHeartbeats 4000000 in
theorem find_any (A : Option Addr) (n c : Nat) (G : List Gn) (d : D) (w : World) (h : RdS w w.heap.size 6 A n c (rowsV gnC G)) (hn : n ≤ 1000000) :
    Calls Try.prog 13 #[.slice A n c, .agg #[.int .i64 d.1, .int .i64 d.2.1, .int .i64 d.2.2]] w fun e w' => e = .returned (.tuple #[.agg #[.int .i64 (findG G d).1.1, .int .i64 (findG G d).1.2.1, .int .i64 (findG G d).1.2.2], .bool (findG G d).2]) ∧ Below w.heap.size w w' := by
  have H := Lib.hid h
  have Hl := Lib.hid (h.rlen gnC_len (by decide))
  obtain ⟨⟨r, ok⟩, gr⟩ : ∃ z, findG G d = z := ⟨_, rfl⟩
  rw [gr]
  have HG := Lib.hid gr
  clear h gr
  go_enter Try.func13, Try.ntmps13
  go_wp2
  have hx0 : Whole ((w.alloc (.cells #[.int .i64 d.1, .int .i64 d.2.1, .int .i64 d.2.2] 32)).alloc (.cells #[.int .i64 0, .int .i64 0, .int .i64 0] 32)) (w.heap.size) 32 [.int .i64 d.1, .int .i64 d.2.1, .int .i64 d.2.2] := ((Whole.new_ w 32 [.int .i64 d.1, .int .i64 d.2.1, .int .i64 d.2.2]).alloc (.cells #[.int .i64 0, .int .i64 0, .int .i64 0] 32))
  have hx1 : Whole ((w.alloc (.cells #[.int .i64 d.1, .int .i64 d.2.1, .int .i64 d.2.2] 32)).alloc (.cells #[.int .i64 0, .int .i64 0, .int .i64 0] 32)) (w.heap.size + 1) 32 [.int .i64 0, .int .i64 0, .int .i64 0] := (Whole.new2 (w := (w.alloc (.cells #[.int .i64 d.1, .int .i64 d.2.1, .int .i64 d.2.2] 32))) (by simp))
  have hbl : Below w.heap.size w ((w.alloc (.cells #[.int .i64 d.1, .int .i64 d.2.1, .int .i64 d.2.2] 32)).alloc (.cells #[.int .i64 0, .int .i64 0, .int .i64 0] 32)) := (bel_al (below1 w (.cells #[.int .i64 d.1, .int .i64 d.2.1, .int .i64 d.2.2] 32)) (.cells #[.int .i64 0, .int .i64 0, .int .i64 0] 32))
  have hsz : w.heap.size + 1 + 1 ≤ (((w.alloc (.cells #[.int .i64 d.1, .int .i64 d.2.1, .int .i64 d.2.2] 32)).alloc (.cells #[.int .i64 0, .int .i64 0, .int .i64 0] 32))).heap.size := by simp
  obtain ⟨W0, gW0⟩ : ∃ z, ((w.alloc (.cells #[.int .i64 d.1, .int .i64 d.2.1, .int .i64 d.2.2] 32)).alloc (.cells #[.int .i64 0, .int .i64 0, .int .i64 0] 32)) = z := ⟨_, rfl⟩
  rw [gW0] at hx0 hx1 hbl hsz
  obtain ⟨b1, gb1⟩ : ∃ z, w.heap.size + 1 = z := ⟨_, rfl⟩
  rw [gb1] at hx1
  obtain ⟨b0, gb0⟩ : ∃ z, w.heap.size = z := ⟨_, rfl⟩
  rw [gb0] at hx0
  have HX0 := Lib.hid hx0
  have HX1 := Lib.hid hx1
  have HB0 := Lib.hid hbl
  have HS0 := Lib.hid hsz
  have Gb0 := Lib.hid gb0
  have Lb0 : RowKit.Hid (w.heap.size ≤ b0) := Lib.hid (by omega)
  have Gb1 := Lib.hid gb1
  have Lb1 : RowKit.Hid (w.heap.size ≤ b1) := Lib.hid (by omega)
  have N01 : RowKit.Hid (b0 ≠ b1) := Lib.hid (by omega)
  rw [gW0, gb1, gb0]
  clear gW0 hbl hsz hx0 hx1 gb0 gb1
  go_loopw [10] (fun si wr => ∃ j : Nat, j ≤ n ∧ si = .int .i64 j ∧ RowKit.Hid (Below w.heap.size w wr) ∧ RowKit.Hid (Whole wr b0 32 [.int .i64 d.1, .int .i64 d.2.1, .int .i64 d.2.2]) ∧ RowKit.Hid (Whole wr b1 32 [.int .i64 0, .int .i64 0, .int .i64 0]) ∧ RowKit.Hid (findG (G.drop j) d = (r, ok))) (fun si _ => n - (intOf si).toNat)
  case atStart => exact ⟨0, by omega, rfl, HB0, HX0, HX1, HG⟩
  case round =>
    clear HB0 HX0 HX1 HG
    obtain ⟨j, hj, rfl, HB, HX0, HX1, HG⟩ := hrel
    obtain ⟨wo, gwo⟩ : ∃ z, wr = z := ⟨_, rfl⟩
    rw [gwo] at HB HX0 HX1 ⊢
    clear gwo
    by_cases hjn : j < n
    · obtain ⟨x, hx⟩ : ∃ x, G[j]? = some x := ⟨_, List.getElem?_eq_getElem (by have := Hl.out; omega)⟩
      have hdr : G.drop j = x :: G.drop (j + 1) := by
        rw [List.drop_eq_getElem_cons (List.getElem?_eq_some_iff.1 hx).1, (List.getElem?_eq_some_iff.1 hx).2]
      have hg2 := HG.out
      rw [hdr] at hg2
      have HG2 := Lib.hid hg2
      obtain ⟨bb, off, rfl, hbB, hpl⟩ := H.out.place gnC_len (by decide) (by omega)
      have hbw := HB.out
      have q0 := hpl j _ hx 0 _ rfl
      have q1 := hpl j _ hx 1 _ rfl
      have q2 := hpl j _ hx 2 _ rfl
      have q3 := hpl j _ hx 3 _ rfl
      have q4 := hpl j _ hx 4 _ rfl
      have q5 := hpl j _ hx 5 _ rfl
      simp only [Addr.add_lit, Nat.add_zero] at q0 q1 q2 q3 q4 q5
      have l0 := (hbw.cell (p := ⟨bb, off + j * 6, none⟩) hbB).trans q0
      have l1 := (hbw.cell (p := ⟨bb, off + j * 6 + 1, none⟩) hbB).trans q1
      have l2 := (hbw.cell (p := ⟨bb, off + j * 6 + 2, none⟩) hbB).trans q2
      have l3 := (hbw.cell (p := ⟨bb, off + j * 6 + 3, none⟩) hbB).trans q3
      have l4 := (hbw.cell (p := ⟨bb, off + j * 6 + 4, none⟩) hbB).trans q4
      have l5 := (hbw.cell (p := ⟨bb, off + j * 6 + 5, none⟩) hbB).trans q5
      clear hbw q0 q1 q2 q3 q4 q5
      have HBa := Lib.hid (bel_al HB.out (.cells #[.int .i64 x.1.1, .int .i64 x.1.2.1, .int .i64 x.1.2.2, .int .i64 x.2.1, .int .i64 x.2.2.1, .int .i64 x.2.2.2] 36))
      have HX03 := Lib.hid (HX0.out.alloc (.cells #[.int .i64 x.1.1, .int .i64 x.1.2.1, .int .i64 x.1.2.2, .int .i64 x.2.1, .int .i64 x.2.2.1, .int .i64 x.2.2.2] 36))
      have HX13 := Lib.hid (HX1.out.alloc (.cells #[.int .i64 x.1.1, .int .i64 x.1.2.1, .int .i64 x.1.2.2, .int .i64 x.2.1, .int .i64 x.2.2.1, .int .i64 x.2.2.2] 36))
      have z0 := HX03.out.cell (i := 0) rfl
      have z1 := HX03.out.cell (i := 1) rfl
      have z2 := HX03.out.cell (i := 2) rfl
      have hq := eq_dart_run x.1 d
      clear hx hdr hg2 hpl hbB HG HB HX0 HX1
      by_cases hd : x.1 = d
      · rw [decide_eq_true hd] at hq
        have hg := HG2.out
        rw [findG, if_pos hd] at hg
        injection hg with hg1 hg2
        subst hg1 hg2
        have f0 := HX13.out.free 0
        have f1 := HX13.out.free 1
        have f2 := HX13.out.free 2
        have k0 := HX13.out.cell (i := 0) rfl
        have k1 := HX13.out.cell (i := 1) rfl
        have k2 := HX13.out.cell (i := 2) rfl
        have HY := Lib.hid (((HX13.out.set_ 0 (.int .i64 x.2.1)).set_ 1 (.int .i64 x.2.2.1)).set_ 2 (.int .i64 x.2.2.2))
        have HBf := Lib.hid (((HBa.out.setCell (p := ⟨b1, 0, none⟩) Lb1.out (.int .i64 x.2.1)).setCell (p := ⟨b1, 1, none⟩) Lb1.out (.int .i64 x.2.2.1)).setCell (p := ⟨b1, 2, none⟩) Lb1.out (.int .i64 x.2.2.2))
        clear HX13 HX03 HBa HG2 hd
        go_wp2
        exact ret_whole2 rfl b1 rfl rfl HY.out Try.underlying32 rfl (by kernel_rfl) rfl ⟨rfl, HBf.out⟩
      · rw [decide_eq_false hd] at hq
        have hg := HG2.out
        rw [findG, if_neg hd] at hg
        have HG4 := Lib.hid hg
        clear hg HG2 hd
        go_wp2
        go_roundw
        case rel => exact ⟨j + 1, by omega, by go_num, HBa, HX03, HX13, HG4⟩
        case measure => simp [intOf]; omega
    · obtain rfl : n = j := by omega
      have hg := HG.out
      rw [List.drop_eq_nil_of_le (by have := Hl.out; omega)] at hg
      replace hg : (zD, false) = (r, ok) := hg
      injection hg with hg1 hg2
      subst hg1 hg2
      have f0 := HX1.out.free 0
      have f1 := HX1.out.free 1
      have f2 := HX1.out.free 2
      have k0 := HX1.out.cell (i := 0) rfl
      have k1 := HX1.out.cell (i := 1) rfl
      have k2 := HX1.out.cell (i := 2) rfl
      have HY := Lib.hid (((HX1.out.set_ 0 (.int .i64 0)).set_ 1 (.int .i64 0)).set_ 2 (.int .i64 0))
      have HBf := Lib.hid (((HB.out.setCell (p := ⟨b1, 0, none⟩) Lb1.out (.int .i64 0)).setCell (p := ⟨b1, 1, none⟩) Lb1.out (.int .i64 0)).setCell (p := ⟨b1, 2, none⟩) Lb1.out (.int .i64 0))
      clear HG HX1
      go_wp2
      exact ret_whole2 rfl b1 rfl rfl HY.out Try.underlying32 rfl (by kernel_rfl) rfl ⟨rfl, HBf.out⟩
end Go.Proofs.Ytkhklhipiiehbaa

/- Resolve: the dart that stands for one now. -/
namespace Go.Proofs.Ytkhklhipiiehbaa
open Go.RowKit
set_option linter.unusedSimpArgs false
set_option linter.unusedVariables false

/-- A dart stands in a ring. -/
def stV (Vs : List VC) (x : D) : Bool := (atV Vs x).2
set_option maxRecDepth 100000 in
set_option maxHeartbeats 4000000 in
theorem res_any (A : Option Addr) (n c : Nat) (Vs : List VC) (B : Option Addr) (m k : Nat) (Es : List EC) (C : Option Addr) (g gc : Nat) (G : List Gn) (d : D) (w : World) (h : DgIn w A n c Vs B m k Es) (hn : n ≤ 1000000) (hr : ∀ y ∈ Vs, y.2.1.2.1 ≤ 1000000) (hg : RdS w w.heap.size 6 C g gc (rowsV gnC G)) (hgl : g ≤ 1000000) :
    Calls Try.prog 10 #[.agg #[.slice A n c, .slice B m k, .slice C g gc], .agg #[.int .i64 d.1, .int .i64 d.2.1, .int .i64 d.2.2]] w fun e w' => e = .returned (.agg #[.int .i64 (resG (stV Vs) G g d).1, .int .i64 (resG (stV Vs) G g d).2.1, .int .i64 (resG (stV Vs) G g d).2.2]) ∧ Below w.heap.size w w' := by
  have HA := Lib.hid (fun W (hb : Below w.heap.size w W) (x : D) => at_any A n c Vs B m k Es x.1 x.2.1 x.2.2 W (h.below hb) hn hr)
  have HF := Lib.hid (fun W (hb : Below w.heap.size w W) (x : D) => find_any C g gc G x W (hg.bl hb) hgl)
  obtain ⟨R, gR⟩ : ∃ z, resG (stV Vs) G g d = z := ⟨_, rfl⟩
  rw [gR]
  have HG := Lib.hid gR
  clear h hg gR hr
  go_enter Try.func10, Try.ntmps10
  go_wp2
  go_step3
  go_wp2
  go_step3
  go_wp2
  have hx0 : Whole (((w.alloc (.cells #[.slice A n c, .slice B m k, .slice C g gc] 28)).alloc (.cells #[.int .i64 d.1, .int .i64 d.2.1, .int .i64 d.2.2] 32)).alloc (.cells #[.int .i64 0, .int .i64 0, .int .i64 0] 32)) (w.heap.size) 28 [.slice A n c, .slice B m k, .slice C g gc] := (((Whole.new_ w 28 [.slice A n c, .slice B m k, .slice C g gc]).alloc (.cells #[.int .i64 d.1, .int .i64 d.2.1, .int .i64 d.2.2] 32)).alloc (.cells #[.int .i64 0, .int .i64 0, .int .i64 0] 32))
  have hx1 : Whole (((w.alloc (.cells #[.slice A n c, .slice B m k, .slice C g gc] 28)).alloc (.cells #[.int .i64 d.1, .int .i64 d.2.1, .int .i64 d.2.2] 32)).alloc (.cells #[.int .i64 0, .int .i64 0, .int .i64 0] 32)) (w.heap.size + 1) 32 [.int .i64 d.1, .int .i64 d.2.1, .int .i64 d.2.2] := ((Whole.new2 (w := (w.alloc (.cells #[.slice A n c, .slice B m k, .slice C g gc] 28))) (by simp)).alloc (.cells #[.int .i64 0, .int .i64 0, .int .i64 0] 32))
  have hx2 : Whole (((w.alloc (.cells #[.slice A n c, .slice B m k, .slice C g gc] 28)).alloc (.cells #[.int .i64 d.1, .int .i64 d.2.1, .int .i64 d.2.2] 32)).alloc (.cells #[.int .i64 0, .int .i64 0, .int .i64 0] 32)) (w.heap.size + 1 + 1) 32 [.int .i64 0, .int .i64 0, .int .i64 0] := (Whole.new2 (w := ((w.alloc (.cells #[.slice A n c, .slice B m k, .slice C g gc] 28)).alloc (.cells #[.int .i64 d.1, .int .i64 d.2.1, .int .i64 d.2.2] 32))) (by simp))
  have hbl : Below w.heap.size w (((w.alloc (.cells #[.slice A n c, .slice B m k, .slice C g gc] 28)).alloc (.cells #[.int .i64 d.1, .int .i64 d.2.1, .int .i64 d.2.2] 32)).alloc (.cells #[.int .i64 0, .int .i64 0, .int .i64 0] 32)) := (bel_al (bel_al (below1 w (.cells #[.slice A n c, .slice B m k, .slice C g gc] 28)) (.cells #[.int .i64 d.1, .int .i64 d.2.1, .int .i64 d.2.2] 32)) (.cells #[.int .i64 0, .int .i64 0, .int .i64 0] 32))
  have hsz : w.heap.size + 1 + 1 + 1 ≤ ((((w.alloc (.cells #[.slice A n c, .slice B m k, .slice C g gc] 28)).alloc (.cells #[.int .i64 d.1, .int .i64 d.2.1, .int .i64 d.2.2] 32)).alloc (.cells #[.int .i64 0, .int .i64 0, .int .i64 0] 32))).heap.size := by simp
  obtain ⟨W0, gW0⟩ : ∃ z, (((w.alloc (.cells #[.slice A n c, .slice B m k, .slice C g gc] 28)).alloc (.cells #[.int .i64 d.1, .int .i64 d.2.1, .int .i64 d.2.2] 32)).alloc (.cells #[.int .i64 0, .int .i64 0, .int .i64 0] 32)) = z := ⟨_, rfl⟩
  rw [gW0] at hx0 hx1 hx2 hbl hsz
  obtain ⟨b2, gb2⟩ : ∃ z, w.heap.size + 1 + 1 = z := ⟨_, rfl⟩
  rw [gb2] at hx2
  obtain ⟨b1, gb1⟩ : ∃ z, w.heap.size + 1 = z := ⟨_, rfl⟩
  rw [gb1] at hx1
  obtain ⟨b0, gb0⟩ : ∃ z, w.heap.size = z := ⟨_, rfl⟩
  rw [gb0] at hx0
  have HX0 := Lib.hid hx0
  have HX1 := Lib.hid hx1
  have HX2 := Lib.hid hx2
  have HB0 := Lib.hid hbl
  have HS0 := Lib.hid hsz
  have Gb0 := Lib.hid gb0
  have Lb0 : RowKit.Hid (w.heap.size ≤ b0) := Lib.hid (by omega)
  have Gb1 := Lib.hid gb1
  have Lb1 : RowKit.Hid (w.heap.size ≤ b1) := Lib.hid (by omega)
  have Gb2 := Lib.hid gb2
  have Lb2 : RowKit.Hid (w.heap.size ≤ b2) := Lib.hid (by omega)
  have N01 : RowKit.Hid (b0 ≠ b1) := Lib.hid (by omega)
  have N02 : RowKit.Hid (b0 ≠ b2) := Lib.hid (by omega)
  have N12 : RowKit.Hid (b1 ≠ b2) := Lib.hid (by omega)
  rw [gW0, gb2, gb1, gb0]
  clear gW0 hbl hsz hx0 hx1 hx2 gb0 gb1 gb2
  go_loopw [5] (fun sl wr => ∃ (q : Nat) (y : D), q ≤ g ∧ sl = .int .i64 q ∧ RowKit.Hid (Below w.heap.size w wr) ∧ RowKit.Hid (Whole wr b0 28 [.slice A n c, .slice B m k, .slice C g gc]) ∧ RowKit.Hid (Whole wr b1 32 [.int .i64 y.1, .int .i64 y.2.1, .int .i64 y.2.2]) ∧ RowKit.Hid (Whole wr b2 32 [.int .i64 0, .int .i64 0, .int .i64 0]) ∧ RowKit.Hid (resG (stV Vs) G q y = R)) (fun sl _ => (intOf sl).toNat)
  case atStart => exact ⟨g, d, Nat.le_refl _, rfl, HB0, HX0, HX1, HX2, HG⟩
  case round =>
    clear HB0 HX0 HX1 HX2 HG
    obtain ⟨q, y, hq, rfl, HB, HX0, HX1, HX2, HG⟩ := hrel
    obtain ⟨wo, gwo⟩ : ∃ z, wr = z := ⟨_, rfl⟩
    rw [gwo] at HB HX0 HX1 HX2 ⊢
    clear gwo
    have hA1 := HA.out wo HB.out y
    have hF1 := fun W hb => HF.out W hb y
    have hSt : stV Vs y = (atV Vs y).2 := rfl
    have hFt := findG_mem (G := G) (d := y)
    have hSelf := fun h => resG_self (stV Vs) G q (d := y) h
    have hTold := fun p h ht => resG_told (stV Vs) G p (d := y) h ht
    have hNone := fun h ht => resG_none (stV Vs) G q (d := y) h ht
    have hEnd := fun h => resG_end (stV Vs) G (d := y) h
    obtain ⟨⟨⟨a1, a2⟩, sb⟩, ga⟩ : ∃ z, atV Vs y = z := ⟨_, rfl⟩
    obtain ⟨⟨⟨t1, t2, t3⟩, tb⟩, gt⟩ : ∃ z, findG G y = z := ⟨_, rfl⟩
    rw [ga] at hA1 hSt
    rw [gt] at hF1 hTold hNone
    replace hSt : stV Vs y = sb := hSt
    have HSt := Lib.hid hSt
    have HSelf := Lib.hid hSelf
    have HTold := Lib.hid hTold
    have HNone := Lib.hid hNone
    have HEnd := Lib.hid hEnd
    have HA1 := Lib.hid hA1
    have HF1 := Lib.hid hF1
    have c0 := HX0.out.cell (i := 0) rfl
    have c1 := HX0.out.cell (i := 1) rfl
    have e0 := HX1.out.cell (i := 0) rfl
    have e1 := HX1.out.cell (i := 1) rfl
    have e2 := HX1.out.cell (i := 2) rfl
    clear hA1 hF1 hSt hFt hSelf hTold hNone hEnd ga gt
    obtain ⟨y1, y2, y3⟩ := y
    cases sb with
    | true =>
      have hR := (HSelf.out HSt.out).symm.trans HG.out
      obtain rfl := hR
      clear HG HTold HNone HEnd HSelf HSt
      go_wp2_with (first
        | (go_at_call 21
           refine HA1.out.mono ?_
           rintro e w1 ⟨rfl, hb1⟩
           have HB1 := Lib.hid (bel_al (bel_bl HB.out hb1) (.cells #[.int .i64 a1, .int .i64 a2] 30))
           have HX01 := Lib.hid ((HX0.out.below hb1).alloc (.cells #[.int .i64 a1, .int .i64 a2] 30))
           have HX11 := Lib.hid ((HX1.out.below hb1).alloc (.cells #[.int .i64 a1, .int .i64 a2] 30))
           have HX21 := Lib.hid ((HX2.out.below hb1).alloc (.cells #[.int .i64 a1, .int .i64 a2] 30))
           have c2 := HX01.out.cell (i := 2) rfl
           have p0 := HX11.out.cell (i := 0) rfl
           have p1 := HX11.out.cell (i := 1) rfl
           have p2 := HX11.out.cell (i := 2) rfl
           clear hb1 HX0 HX1 HX2 c0 c1 e0 e1 e2 HA1)
        | (go_at_call 13
           refine (HF1.out _ HB1.out).mono ?_
           rintro e w2 ⟨rfl, hb2⟩
           have HB2 := Lib.hid (bel_al (bel_bl HB1.out hb2) (.cells #[.int .i64 t1, .int .i64 t2, .int .i64 t3] 32))
           have HX02 := Lib.hid ((HX01.out.below hb2).alloc (.cells #[.int .i64 t1, .int .i64 t2, .int .i64 t3] 32))
           have HX12 := Lib.hid ((HX11.out.below hb2).alloc (.cells #[.int .i64 t1, .int .i64 t2, .int .i64 t3] 32))
           have HX22 := Lib.hid ((HX21.out.below hb2).alloc (.cells #[.int .i64 t1, .int .i64 t2, .int .i64 t3] 32))
           have s0 := HX12.out.cell (i := 0) rfl
           have s1 := HX12.out.cell (i := 1) rfl
           have s2 := HX12.out.cell (i := 2) rfl
           have k0 := HX22.out.cell (i := 0) rfl
           have k1 := HX22.out.cell (i := 1) rfl
           have k2 := HX22.out.cell (i := 2) rfl
           have f0 := HX22.out.free 0
           have f1 := HX22.out.free 1
           have f2 := HX22.out.free 2
           clear hb2 HX01 HX11 HX21 c2 p0 p1 p2 HB1 HF1))
      rw [Exit.noGoto_ret]
      exact ret_whole rfl b2 rfl (((HX22.out.set_ 0 (.int .i64 y1)).set_ 1 (.int .i64 y2)).set_ 2 (.int .i64 y3)) Try.underlying32 rfl (by kernel_rfl) rfl ⟨rfl, (((HB2.out.setCell (p := ⟨b2, 0, none⟩) Lb2.out (.int .i64 y1)).setCell (p := ⟨b2, 1, none⟩) Lb2.out (.int .i64 y2)).setCell (p := ⟨b2, 2, none⟩) Lb2.out (.int .i64 y3))⟩
    | false =>
      have hns : ¬ stV Vs (y1, y2, y3) = true := by rw [HSt.out]; decide
      cases tb with
      | false =>
        have hR := (HNone.out hns (fun e => by cases e)).symm.trans HG.out
        obtain rfl := hR
        clear HG HTold HNone HEnd HSelf HSt hns
        go_wp2_with (first
          | (go_at_call 21
             refine HA1.out.mono ?_
             rintro e w1 ⟨rfl, hb1⟩
             have HB1 := Lib.hid (bel_al (bel_bl HB.out hb1) (.cells #[.int .i64 a1, .int .i64 a2] 30))
             have HX01 := Lib.hid ((HX0.out.below hb1).alloc (.cells #[.int .i64 a1, .int .i64 a2] 30))
             have HX11 := Lib.hid ((HX1.out.below hb1).alloc (.cells #[.int .i64 a1, .int .i64 a2] 30))
             have HX21 := Lib.hid ((HX2.out.below hb1).alloc (.cells #[.int .i64 a1, .int .i64 a2] 30))
             have c2 := HX01.out.cell (i := 2) rfl
             have p0 := HX11.out.cell (i := 0) rfl
             have p1 := HX11.out.cell (i := 1) rfl
             have p2 := HX11.out.cell (i := 2) rfl
             clear hb1 HX0 HX1 HX2 c0 c1 e0 e1 e2 HA1)
          | (go_at_call 13
             refine (HF1.out _ HB1.out).mono ?_
             rintro e w2 ⟨rfl, hb2⟩
             have HB2 := Lib.hid (bel_al (bel_bl HB1.out hb2) (.cells #[.int .i64 t1, .int .i64 t2, .int .i64 t3] 32))
             have HX02 := Lib.hid ((HX01.out.below hb2).alloc (.cells #[.int .i64 t1, .int .i64 t2, .int .i64 t3] 32))
             have HX12 := Lib.hid ((HX11.out.below hb2).alloc (.cells #[.int .i64 t1, .int .i64 t2, .int .i64 t3] 32))
             have HX22 := Lib.hid ((HX21.out.below hb2).alloc (.cells #[.int .i64 t1, .int .i64 t2, .int .i64 t3] 32))
             have k0 := HX22.out.cell (i := 0) rfl
             have k1 := HX22.out.cell (i := 1) rfl
             have k2 := HX22.out.cell (i := 2) rfl
             have f0 := HX22.out.free 0
             have f1 := HX22.out.free 1
             have f2 := HX22.out.free 2
             clear hb2 HX01 HX11 HX21 c2 p0 p1 p2 HB1 HF1))
        rw [Exit.noGoto_ret]
        exact ret_whole rfl b2 rfl (((HX22.out.set_ 0 (.int .i64 0)).set_ 1 (.int .i64 0)).set_ 2 (.int .i64 0)) Try.underlying32 rfl (by kernel_rfl) rfl ⟨rfl, (((HB2.out.setCell (p := ⟨b2, 0, none⟩) Lb2.out (.int .i64 0)).setCell (p := ⟨b2, 1, none⟩) Lb2.out (.int .i64 0)).setCell (p := ⟨b2, 2, none⟩) Lb2.out (.int .i64 0))⟩
      | true =>
        cases q with
        | zero =>
          have hR := (HEnd.out hns).symm.trans HG.out
          obtain rfl := hR
          clear HG HTold HNone HEnd HSelf HSt hns
          rw [show ((0 : Nat) : Int) = 0 from rfl]
          go_wp2_with (first
            | (go_at_call 21
               refine HA1.out.mono ?_
               rintro e w1 ⟨rfl, hb1⟩
               have HB1 := Lib.hid (bel_al (bel_bl HB.out hb1) (.cells #[.int .i64 a1, .int .i64 a2] 30))
               have HX01 := Lib.hid ((HX0.out.below hb1).alloc (.cells #[.int .i64 a1, .int .i64 a2] 30))
               have HX11 := Lib.hid ((HX1.out.below hb1).alloc (.cells #[.int .i64 a1, .int .i64 a2] 30))
               have HX21 := Lib.hid ((HX2.out.below hb1).alloc (.cells #[.int .i64 a1, .int .i64 a2] 30))
               have c2 := HX01.out.cell (i := 2) rfl
               have p0 := HX11.out.cell (i := 0) rfl
               have p1 := HX11.out.cell (i := 1) rfl
               have p2 := HX11.out.cell (i := 2) rfl
               clear hb1 HX0 HX1 HX2 c0 c1 e0 e1 e2 HA1)
            | (go_at_call 13
               refine (HF1.out _ HB1.out).mono ?_
               rintro e w2 ⟨rfl, hb2⟩
               have HB2 := Lib.hid (bel_al (bel_bl HB1.out hb2) (.cells #[.int .i64 t1, .int .i64 t2, .int .i64 t3] 32))
               have HX02 := Lib.hid ((HX01.out.below hb2).alloc (.cells #[.int .i64 t1, .int .i64 t2, .int .i64 t3] 32))
               have HX12 := Lib.hid ((HX11.out.below hb2).alloc (.cells #[.int .i64 t1, .int .i64 t2, .int .i64 t3] 32))
               have HX22 := Lib.hid ((HX21.out.below hb2).alloc (.cells #[.int .i64 t1, .int .i64 t2, .int .i64 t3] 32))
               have k0 := HX22.out.cell (i := 0) rfl
               have k1 := HX22.out.cell (i := 1) rfl
               have k2 := HX22.out.cell (i := 2) rfl
               have f0 := HX22.out.free 0
               have f1 := HX22.out.free 1
               have f2 := HX22.out.free 2
               clear hb2 HX01 HX11 HX21 c2 p0 p1 p2 HB1 HF1))
          rw [Exit.noGoto_ret]
          exact ret_whole rfl b2 rfl (((HX22.out.set_ 0 (.int .i64 0)).set_ 1 (.int .i64 0)).set_ 2 (.int .i64 0)) Try.underlying32 rfl (by kernel_rfl) rfl ⟨rfl, (((HB2.out.setCell (p := ⟨b2, 0, none⟩) Lb2.out (.int .i64 0)).setCell (p := ⟨b2, 1, none⟩) Lb2.out (.int .i64 0)).setCell (p := ⟨b2, 2, none⟩) Lb2.out (.int .i64 0))⟩
        | succ p =>
          have HG3 := Lib.hid ((HTold.out p hns rfl).symm.trans HG.out)
          have hq0 : ((p + 1 : Nat) : Int) ≠ 0 := by omega
          clear HG HTold HNone HEnd HSelf HSt hns
          go_wp2_with (first
            | (go_at_call 21
               refine HA1.out.mono ?_
               rintro e w1 ⟨rfl, hb1⟩
               have HB1 := Lib.hid (bel_al (bel_bl HB.out hb1) (.cells #[.int .i64 a1, .int .i64 a2] 30))
               have HX01 := Lib.hid ((HX0.out.below hb1).alloc (.cells #[.int .i64 a1, .int .i64 a2] 30))
               have HX11 := Lib.hid ((HX1.out.below hb1).alloc (.cells #[.int .i64 a1, .int .i64 a2] 30))
               have HX21 := Lib.hid ((HX2.out.below hb1).alloc (.cells #[.int .i64 a1, .int .i64 a2] 30))
               have c2 := HX01.out.cell (i := 2) rfl
               have p0 := HX11.out.cell (i := 0) rfl
               have p1 := HX11.out.cell (i := 1) rfl
               have p2 := HX11.out.cell (i := 2) rfl
               clear hb1 HX0 HX1 HX2 c0 c1 e0 e1 e2 HA1)
            | (go_at_call 13
               refine (HF1.out _ HB1.out).mono ?_
               rintro e w2 ⟨rfl, hb2⟩
               have HB2 := Lib.hid (bel_al (bel_bl HB1.out hb2) (.cells #[.int .i64 t1, .int .i64 t2, .int .i64 t3] 32))
               have HX02 := Lib.hid ((HX01.out.below hb2).alloc (.cells #[.int .i64 t1, .int .i64 t2, .int .i64 t3] 32))
               have HX12 := Lib.hid ((HX11.out.below hb2).alloc (.cells #[.int .i64 t1, .int .i64 t2, .int .i64 t3] 32))
               have HX22 := Lib.hid ((HX21.out.below hb2).alloc (.cells #[.int .i64 t1, .int .i64 t2, .int .i64 t3] 32))
               have k0 := HX12.out.cell (i := 0) rfl
               have k1 := HX12.out.cell (i := 1) rfl
               have k2 := HX12.out.cell (i := 2) rfl
               have f0 := HX12.out.free 0
               have f1 := HX12.out.free 1
               have f2 := HX12.out.free 2
               clear hb2 HX01 HX11 HX21 c2 p0 p1 p2 HB1 HF1))
          go_roundw
          case rel => exact ⟨p, (t1, t2, t3), by omega, by go_num, Lib.hid (((HB2.out.setCell (p := ⟨b1, 0, none⟩) Lb1.out (.int .i64 t1)).setCell (p := ⟨b1, 1, none⟩) Lb1.out (.int .i64 t2)).setCell (p := ⟨b1, 2, none⟩) Lb1.out (.int .i64 t3)), Lib.hid (((HX02.out.far (p := ⟨b1, 0, none⟩) N01.out (.int .i64 t1)).far (p := ⟨b1, 1, none⟩) N01.out (.int .i64 t2)).far (p := ⟨b1, 2, none⟩) N01.out (.int .i64 t3)), Lib.hid (((HX12.out.set_ 0 (.int .i64 t1)).set_ 1 (.int .i64 t2)).set_ 2 (.int .i64 t3)), Lib.hid (((HX22.out.far (p := ⟨b1, 0, none⟩) (fun e => N12.out e.symm) (.int .i64 t1)).far (p := ⟨b1, 1, none⟩) (fun e => N12.out e.symm) (.int .i64 t2)).far (p := ⟨b1, 2, none⟩) (fun e => N12.out e.symm) (.int .i64 t3)), HG3⟩
          case measure => simp [intOf]
end Go.Proofs.Ytkhklhipiiehbaa

/- Corner: where a corner is now. -/
namespace Go.Proofs.Ytkhklhipiiehbaa
open Go.RowKit
set_option linter.unusedSimpArgs false
set_option linter.unusedVariables false

/-- The dart behind which the corner is now. -/
def nearC (Vs : List VC) (G : List Gn) (g : Nat) (v : Int × Int) (a : D) : D := if resG (stV Vs) G g a ∈ (fndV Vs v).1.2.1.2.2.2 then resG (stV Vs) G g a else zD
set_option maxRecDepth 100000 in
set_option maxHeartbeats 4000000 in
theorem corner_no (A : Option Addr) (n c : Nat) (Vs : List VC) (B : Option Addr) (m k : Nat) (Es : List EC) (C : Option Addr) (g gc : Nat) (G : List Gn) (v1 v2 d1 d2 d3 : Int) (w : World) (h : DgIn w A n c Vs B m k Es) (hn : n ≤ 1000000) (hr : ∀ y ∈ Vs, y.2.1.2.1 ≤ 1000000) (hg : RdS w w.heap.size 6 C g gc (rowsV gnC G)) (hgl : g ≤ 1000000) (hv : (fndV Vs (v1, v2)).2 = false) :
    Calls Try.prog 14 #[.agg #[.slice A n c, .slice B m k, .slice C g gc], .agg #[.int .i64 v1, .int .i64 v2, .int .i64 d1, .int .i64 d2, .int .i64 d3]] w fun e w' => e = .returned (.tuple #[.agg #[.int .i64 0, .int .i64 0, .int .i64 0, .int .i64 0, .int .i64 0], .int .i64 13]) ∧ Below w.heap.size w w' := by
  have HV := Lib.hid (fun W (hb : Below w.heap.size w W) r ok gr => vertex_any A n c Vs B m k Es v1 v2 W (h.below hb) hn hr r ok gr)
  have HF := Lib.hid (fun W (hb : Below w.heap.size w W) => res_any A n c Vs B m k Es C g gc G (d1, d2, d3) W (h.below hb) hn hr (hg.bl hb) hgl)
  have hrn := (fndV_ring h hr (v1, v2)).2
  obtain ⟨⟨r, ok⟩, gr⟩ : ∃ z, fndV Vs (v1, v2) = z := ⟨_, rfl⟩
  rw [gr] at hv hrn
  obtain ⟨⟨i1, i2⟩, ⟨rA, rn, rc, rL⟩, lb, at_⟩ := r
  obtain rfl : ok = false := hv
  replace HV : RowKit.Hid (∀ W, Below w.heap.size w W → Calls Try.prog 27 #[.agg #[.slice A n c, .slice B m k], .agg #[.int .i64 v1, .int .i64 v2]] W fun e w' => ∃ A' c', e = .returned (.tuple #[.agg #[.int .i64 i1, .int .i64 i2, .slice A' rn c', .string lb, .int .i64 at_], .bool false]) ∧ Ow W W.heap.size 32 3 (.slice A' rn c') rn (dartsV rL) w') := Lib.hid (fun W hb => HV.out W hb _ _ gr)
  replace hrn : rn ≤ 1000000 := hrn
  have Hrn := Lib.hid hrn
  clear h hg hrn gr hr
  clear HF
  go_enter Try.func14, Try.ntmps14
  go_wp2_with fail
  have hx0 : Whole (((w.alloc (.cells #[.slice A n c, .slice B m k, .slice C g gc] 28)).alloc (.cells #[.int .i64 v1, .int .i64 v2, .int .i64 d1, .int .i64 d2, .int .i64 d3] 34)).alloc (.cells #[.int .i64 0, .int .i64 0, .int .i64 0, .int .i64 0, .int .i64 0] 34)) (w.heap.size) 28 [.slice A n c, .slice B m k, .slice C g gc] := (((Whole.new_ w 28 [.slice A n c, .slice B m k, .slice C g gc]).alloc (.cells #[.int .i64 v1, .int .i64 v2, .int .i64 d1, .int .i64 d2, .int .i64 d3] 34)).alloc (.cells #[.int .i64 0, .int .i64 0, .int .i64 0, .int .i64 0, .int .i64 0] 34))
  have hx1 : Whole (((w.alloc (.cells #[.slice A n c, .slice B m k, .slice C g gc] 28)).alloc (.cells #[.int .i64 v1, .int .i64 v2, .int .i64 d1, .int .i64 d2, .int .i64 d3] 34)).alloc (.cells #[.int .i64 0, .int .i64 0, .int .i64 0, .int .i64 0, .int .i64 0] 34)) (w.heap.size + 1) 34 [.int .i64 v1, .int .i64 v2, .int .i64 d1, .int .i64 d2, .int .i64 d3] := ((Whole.new2 (w := (w.alloc (.cells #[.slice A n c, .slice B m k, .slice C g gc] 28))) (by simp)).alloc (.cells #[.int .i64 0, .int .i64 0, .int .i64 0, .int .i64 0, .int .i64 0] 34))
  have hx2 : Whole (((w.alloc (.cells #[.slice A n c, .slice B m k, .slice C g gc] 28)).alloc (.cells #[.int .i64 v1, .int .i64 v2, .int .i64 d1, .int .i64 d2, .int .i64 d3] 34)).alloc (.cells #[.int .i64 0, .int .i64 0, .int .i64 0, .int .i64 0, .int .i64 0] 34)) (w.heap.size + 1 + 1) 34 [.int .i64 0, .int .i64 0, .int .i64 0, .int .i64 0, .int .i64 0] := (Whole.new2 (w := ((w.alloc (.cells #[.slice A n c, .slice B m k, .slice C g gc] 28)).alloc (.cells #[.int .i64 v1, .int .i64 v2, .int .i64 d1, .int .i64 d2, .int .i64 d3] 34))) (by simp))
  have hbl : Below w.heap.size w (((w.alloc (.cells #[.slice A n c, .slice B m k, .slice C g gc] 28)).alloc (.cells #[.int .i64 v1, .int .i64 v2, .int .i64 d1, .int .i64 d2, .int .i64 d3] 34)).alloc (.cells #[.int .i64 0, .int .i64 0, .int .i64 0, .int .i64 0, .int .i64 0] 34)) := (bel_al (bel_al (below1 w (.cells #[.slice A n c, .slice B m k, .slice C g gc] 28)) (.cells #[.int .i64 v1, .int .i64 v2, .int .i64 d1, .int .i64 d2, .int .i64 d3] 34)) (.cells #[.int .i64 0, .int .i64 0, .int .i64 0, .int .i64 0, .int .i64 0] 34))
  have hsz : w.heap.size + 1 + 1 + 1 ≤ ((((w.alloc (.cells #[.slice A n c, .slice B m k, .slice C g gc] 28)).alloc (.cells #[.int .i64 v1, .int .i64 v2, .int .i64 d1, .int .i64 d2, .int .i64 d3] 34)).alloc (.cells #[.int .i64 0, .int .i64 0, .int .i64 0, .int .i64 0, .int .i64 0] 34))).heap.size := by simp
  obtain ⟨W0, gW0⟩ : ∃ z, (((w.alloc (.cells #[.slice A n c, .slice B m k, .slice C g gc] 28)).alloc (.cells #[.int .i64 v1, .int .i64 v2, .int .i64 d1, .int .i64 d2, .int .i64 d3] 34)).alloc (.cells #[.int .i64 0, .int .i64 0, .int .i64 0, .int .i64 0, .int .i64 0] 34)) = z := ⟨_, rfl⟩
  rw [gW0] at hx0 hx1 hx2 hbl hsz
  obtain ⟨b2, gb2⟩ : ∃ z, w.heap.size + 1 + 1 = z := ⟨_, rfl⟩
  rw [gb2] at hx2
  obtain ⟨b1, gb1⟩ : ∃ z, w.heap.size + 1 = z := ⟨_, rfl⟩
  rw [gb1] at hx1
  obtain ⟨b0, gb0⟩ : ∃ z, w.heap.size = z := ⟨_, rfl⟩
  rw [gb0] at hx0
  have HX0 := Lib.hid hx0
  have HX1 := Lib.hid hx1
  have HX2 := Lib.hid hx2
  have HB0 := Lib.hid hbl
  have HS0 := Lib.hid hsz
  have Gb0 := Lib.hid gb0
  have Lb0 : RowKit.Hid (w.heap.size ≤ b0) := Lib.hid (by omega)
  have Gb1 := Lib.hid gb1
  have Lb1 : RowKit.Hid (w.heap.size ≤ b1) := Lib.hid (by omega)
  have Gb2 := Lib.hid gb2
  have Lb2 : RowKit.Hid (w.heap.size ≤ b2) := Lib.hid (by omega)
  have N01 : RowKit.Hid (b0 ≠ b1) := Lib.hid (by omega)
  have N02 : RowKit.Hid (b0 ≠ b2) := Lib.hid (by omega)
  have N12 : RowKit.Hid (b1 ≠ b2) := Lib.hid (by omega)
  rw [gW0, gb2, gb1, gb0]
  clear gW0 hbl hsz hx0 hx1 hx2 gb0 gb1 gb2
  replace HV := Lib.hid (HV.out _ HB0.out)
  have c0 := HX0.out.cell (i := 0) rfl
  have c1 := HX0.out.cell (i := 1) rfl
  have e0 := HX1.out.cell (i := 0) rfl
  have e1 := HX1.out.cell (i := 1) rfl
  go_wp2_with (first
    | (go_at_call 27
       refine HV.out.mono ?_
       rintro e w1 ⟨A', c', rfl, ho⟩
       have hb1 := ho.below
       have HB1 := Lib.hid (bel_al (bel_bl HB0.out hb1) (.cells #[.int .i64 i1, .int .i64 i2, .slice A' rn c', .string lb, .int .i64 at_] 53))
       have HX01 := Lib.hid ((HX0.out.below hb1).alloc (.cells #[.int .i64 i1, .int .i64 i2, .slice A' rn c', .string lb, .int .i64 at_] 53))
       have HX11 := Lib.hid ((HX1.out.below hb1).alloc (.cells #[.int .i64 i1, .int .i64 i2, .slice A' rn c', .string lb, .int .i64 at_] 53))
       have HX21 := Lib.hid ((HX2.out.below hb1).alloc (.cells #[.int .i64 i1, .int .i64 i2, .slice A' rn c', .string lb, .int .i64 at_] 53))
       have HV1 : RowKit.Hid (Whole (w1.alloc (.cells #[.int .i64 i1, .int .i64 i2, .slice A' rn c', .string lb, .int .i64 at_] 53)) w1.heap.size 53 [.int .i64 i1, .int .i64 i2, .slice A' rn c', .string lb, .int .i64 at_]) := Lib.hid (Whole.new_ _ _ _)
       obtain ⟨_, _, he, hrd⟩ := ho.rds
       injection he with h1 h2 h3
       subst h1 h3
       have HR1 := Lib.hid (hrd.al (.cells #[.int .i64 i1, .int .i64 i2, .slice A' rn c', .string lb, .int .i64 at_] 53))
       have k0 := HX21.out.cell (i := 0) rfl
       have k1 := HX21.out.cell (i := 1) rfl
       have k2 := HX21.out.cell (i := 2) rfl
       have k3 := HX21.out.cell (i := 3) rfl
       have k4 := HX21.out.cell (i := 4) rfl
       have f0 := HX21.out.free 0
       have f1 := HX21.out.free 1
       have f2 := HX21.out.free 2
       have f3 := HX21.out.free 3
       have f4 := HX21.out.free 4
       clear hb1 ho HX0 HX1 HX2 hrd c0 c1 e0 e1 HV)
)
  exact ret_whole2 rfl b2 rfl rfl (((((HX21.out.set_ 0 (.int .i64 0)).set_ 1 (.int .i64 0)).set_ 2 (.int .i64 0)).set_ 3 (.int .i64 0)).set_ 4 (.int .i64 0)) Try.underlying34 rfl (by kernel_rfl) rfl ⟨rfl, (((((HB1.out.setCell (p := ⟨b2, 0, none⟩) Lb2.out (.int .i64 0)).setCell (p := ⟨b2, 1, none⟩) Lb2.out (.int .i64 0)).setCell (p := ⟨b2, 2, none⟩) Lb2.out (.int .i64 0)).setCell (p := ⟨b2, 3, none⟩) Lb2.out (.int .i64 0)).setCell (p := ⟨b2, 4, none⟩) Lb2.out (.int .i64 0))⟩
set_option maxRecDepth 100000 in
set_option maxHeartbeats 4000000 in
theorem corner_yes (A : Option Addr) (n c : Nat) (Vs : List VC) (B : Option Addr) (m k : Nat) (Es : List EC) (C : Option Addr) (g gc : Nat) (G : List Gn) (v1 v2 d1 d2 d3 : Int) (w : World) (h : DgIn w A n c Vs B m k Es) (hn : n ≤ 1000000) (hr : ∀ y ∈ Vs, y.2.1.2.1 ≤ 1000000) (hg : RdS w w.heap.size 6 C g gc (rowsV gnC G)) (hgl : g ≤ 1000000) (hv : (fndV Vs (v1, v2)).2 = true) :
    Calls Try.prog 14 #[.agg #[.slice A n c, .slice B m k, .slice C g gc], .agg #[.int .i64 v1, .int .i64 v2, .int .i64 d1, .int .i64 d2, .int .i64 d3]] w fun e w' => e = .returned (.tuple #[.agg #[.int .i64 v1, .int .i64 v2, .int .i64 (nearC Vs G g (v1, v2) (d1, d2, d3)).1, .int .i64 (nearC Vs G g (v1, v2) (d1, d2, d3)).2.1, .int .i64 (nearC Vs G g (v1, v2) (d1, d2, d3)).2.2], .int .i64 0]) ∧ Below w.heap.size w w' := by
  have HV := Lib.hid (fun W (hb : Below w.heap.size w W) r ok gr => vertex_any A n c Vs B m k Es v1 v2 W (h.below hb) hn hr r ok gr)
  have HF := Lib.hid (fun W (hb : Below w.heap.size w W) => res_any A n c Vs B m k Es C g gc G (d1, d2, d3) W (h.below hb) hn hr (hg.bl hb) hgl)
  have hrn := (fndV_ring h hr (v1, v2)).2
  obtain ⟨⟨r, ok⟩, gr⟩ : ∃ z, fndV Vs (v1, v2) = z := ⟨_, rfl⟩
  rw [gr] at hv hrn
  obtain ⟨⟨i1, i2⟩, ⟨rA, rn, rc, rL⟩, lb, at_⟩ := r
  obtain rfl : ok = true := hv
  replace HV : RowKit.Hid (∀ W, Below w.heap.size w W → Calls Try.prog 27 #[.agg #[.slice A n c, .slice B m k], .agg #[.int .i64 v1, .int .i64 v2]] W fun e w' => ∃ A' c', e = .returned (.tuple #[.agg #[.int .i64 i1, .int .i64 i2, .slice A' rn c', .string lb, .int .i64 at_], .bool true]) ∧ Ow W W.heap.size 32 3 (.slice A' rn c') rn (dartsV rL) w') := Lib.hid (fun W hb => HV.out W hb _ _ gr)
  replace hrn : rn ≤ 1000000 := hrn
  have Hrn := Lib.hid hrn
  have HN : RowKit.Hid (nearC Vs G g (v1, v2) (d1, d2, d3) = if resG (stV Vs) G g (d1, d2, d3) ∈ rL then resG (stV Vs) G g (d1, d2, d3) else zD) := Lib.hid (by unfold nearC; rw [gr])
  clear h hg hrn gr hr
  have hnc : nearC Vs G g (v1, v2) (d1, d2, d3) = if resG (stV Vs) G g (d1, d2, d3) ∈ rL then resG (stV Vs) G g (d1, d2, d3) else zD := HN.out
  obtain ⟨⟨r1, r2, r3⟩, gR⟩ : ∃ z, resG (stV Vs) G g (d1, d2, d3) = z := ⟨_, rfl⟩
  rw [gR] at hnc HF
  obtain ⟨⟨z1, z2, z3⟩, gZ⟩ : ∃ z, nearC Vs G g (v1, v2) (d1, d2, d3) = z := ⟨_, rfl⟩
  rw [gZ] at hnc ⊢
  replace HF : RowKit.Hid (∀ W, Below w.heap.size w W → Calls Try.prog 10 #[.agg #[.slice A n c, .slice B m k, .slice C g gc], .agg #[.int .i64 d1, .int .i64 d2, .int .i64 d3]] W fun e w' => e = .returned (.agg #[.int .i64 r1, .int .i64 r2, .int .i64 r3]) ∧ Below W.heap.size W w') := HF
  have Hnc := Lib.hid hnc
  have HI : RowKit.Hid (idxD rL (r1, r2, r3) = if (r1, r2, r3) ∈ rL then (rL.idxOf (r1, r2, r3) : Int) else -1) := Lib.hid rfl
  clear hnc gR gZ HN
  go_enter Try.func14, Try.ntmps14
  go_wp2_with fail
  have hx0 : Whole (((w.alloc (.cells #[.slice A n c, .slice B m k, .slice C g gc] 28)).alloc (.cells #[.int .i64 v1, .int .i64 v2, .int .i64 d1, .int .i64 d2, .int .i64 d3] 34)).alloc (.cells #[.int .i64 0, .int .i64 0, .int .i64 0, .int .i64 0, .int .i64 0] 34)) (w.heap.size) 28 [.slice A n c, .slice B m k, .slice C g gc] := (((Whole.new_ w 28 [.slice A n c, .slice B m k, .slice C g gc]).alloc (.cells #[.int .i64 v1, .int .i64 v2, .int .i64 d1, .int .i64 d2, .int .i64 d3] 34)).alloc (.cells #[.int .i64 0, .int .i64 0, .int .i64 0, .int .i64 0, .int .i64 0] 34))
  have hx1 : Whole (((w.alloc (.cells #[.slice A n c, .slice B m k, .slice C g gc] 28)).alloc (.cells #[.int .i64 v1, .int .i64 v2, .int .i64 d1, .int .i64 d2, .int .i64 d3] 34)).alloc (.cells #[.int .i64 0, .int .i64 0, .int .i64 0, .int .i64 0, .int .i64 0] 34)) (w.heap.size + 1) 34 [.int .i64 v1, .int .i64 v2, .int .i64 d1, .int .i64 d2, .int .i64 d3] := ((Whole.new2 (w := (w.alloc (.cells #[.slice A n c, .slice B m k, .slice C g gc] 28))) (by simp)).alloc (.cells #[.int .i64 0, .int .i64 0, .int .i64 0, .int .i64 0, .int .i64 0] 34))
  have hx2 : Whole (((w.alloc (.cells #[.slice A n c, .slice B m k, .slice C g gc] 28)).alloc (.cells #[.int .i64 v1, .int .i64 v2, .int .i64 d1, .int .i64 d2, .int .i64 d3] 34)).alloc (.cells #[.int .i64 0, .int .i64 0, .int .i64 0, .int .i64 0, .int .i64 0] 34)) (w.heap.size + 1 + 1) 34 [.int .i64 0, .int .i64 0, .int .i64 0, .int .i64 0, .int .i64 0] := (Whole.new2 (w := ((w.alloc (.cells #[.slice A n c, .slice B m k, .slice C g gc] 28)).alloc (.cells #[.int .i64 v1, .int .i64 v2, .int .i64 d1, .int .i64 d2, .int .i64 d3] 34))) (by simp))
  have hbl : Below w.heap.size w (((w.alloc (.cells #[.slice A n c, .slice B m k, .slice C g gc] 28)).alloc (.cells #[.int .i64 v1, .int .i64 v2, .int .i64 d1, .int .i64 d2, .int .i64 d3] 34)).alloc (.cells #[.int .i64 0, .int .i64 0, .int .i64 0, .int .i64 0, .int .i64 0] 34)) := (bel_al (bel_al (below1 w (.cells #[.slice A n c, .slice B m k, .slice C g gc] 28)) (.cells #[.int .i64 v1, .int .i64 v2, .int .i64 d1, .int .i64 d2, .int .i64 d3] 34)) (.cells #[.int .i64 0, .int .i64 0, .int .i64 0, .int .i64 0, .int .i64 0] 34))
  have hsz : w.heap.size + 1 + 1 + 1 ≤ ((((w.alloc (.cells #[.slice A n c, .slice B m k, .slice C g gc] 28)).alloc (.cells #[.int .i64 v1, .int .i64 v2, .int .i64 d1, .int .i64 d2, .int .i64 d3] 34)).alloc (.cells #[.int .i64 0, .int .i64 0, .int .i64 0, .int .i64 0, .int .i64 0] 34))).heap.size := by simp
  obtain ⟨W0, gW0⟩ : ∃ z, (((w.alloc (.cells #[.slice A n c, .slice B m k, .slice C g gc] 28)).alloc (.cells #[.int .i64 v1, .int .i64 v2, .int .i64 d1, .int .i64 d2, .int .i64 d3] 34)).alloc (.cells #[.int .i64 0, .int .i64 0, .int .i64 0, .int .i64 0, .int .i64 0] 34)) = z := ⟨_, rfl⟩
  rw [gW0] at hx0 hx1 hx2 hbl hsz
  obtain ⟨b2, gb2⟩ : ∃ z, w.heap.size + 1 + 1 = z := ⟨_, rfl⟩
  rw [gb2] at hx2
  obtain ⟨b1, gb1⟩ : ∃ z, w.heap.size + 1 = z := ⟨_, rfl⟩
  rw [gb1] at hx1
  obtain ⟨b0, gb0⟩ : ∃ z, w.heap.size = z := ⟨_, rfl⟩
  rw [gb0] at hx0
  have HX0 := Lib.hid hx0
  have HX1 := Lib.hid hx1
  have HX2 := Lib.hid hx2
  have HB0 := Lib.hid hbl
  have HS0 := Lib.hid hsz
  have Gb0 := Lib.hid gb0
  have Lb0 : RowKit.Hid (w.heap.size ≤ b0) := Lib.hid (by omega)
  have Gb1 := Lib.hid gb1
  have Lb1 : RowKit.Hid (w.heap.size ≤ b1) := Lib.hid (by omega)
  have Gb2 := Lib.hid gb2
  have Lb2 : RowKit.Hid (w.heap.size ≤ b2) := Lib.hid (by omega)
  have N01 : RowKit.Hid (b0 ≠ b1) := Lib.hid (by omega)
  have N02 : RowKit.Hid (b0 ≠ b2) := Lib.hid (by omega)
  have N12 : RowKit.Hid (b1 ≠ b2) := Lib.hid (by omega)
  rw [gW0, gb2, gb1, gb0]
  clear gW0 hbl hsz hx0 hx1 hx2 gb0 gb1 gb2
  replace HV := Lib.hid (HV.out _ HB0.out)
  have c0 := HX0.out.cell (i := 0) rfl
  have c1 := HX0.out.cell (i := 1) rfl
  have e0 := HX1.out.cell (i := 0) rfl
  have e1 := HX1.out.cell (i := 1) rfl
  obtain ⟨ix, gix⟩ : ∃ z, idxD rL (r1, r2, r3) = z := ⟨_, rfl⟩
  have hix := HI.out
  rw [gix] at hix
  by_cases hm : (r1, r2, r3) ∈ rL
  · rw [if_pos hm] at hix
    have hz := Hnc.out
    rw [if_pos hm] at hz
    simp only [Prod.mk.injEq] at hz
    obtain ⟨h1, h2, h3⟩ := hz
    subst z1 z2 z3
    have hq : decide (ix < 0) = false := decide_eq_false (by omega)
    clear hix hm Hnc HI
    go_wp2_with (first
      | (go_at_call 27
         refine HV.out.mono ?_
         rintro e w1 ⟨A', c', rfl, ho⟩
         have hb1 := ho.below
         have HB1 := Lib.hid (bel_al (bel_bl HB0.out hb1) (.cells #[.int .i64 i1, .int .i64 i2, .slice A' rn c', .string lb, .int .i64 at_] 53))
         have HX01 := Lib.hid ((HX0.out.below hb1).alloc (.cells #[.int .i64 i1, .int .i64 i2, .slice A' rn c', .string lb, .int .i64 at_] 53))
         have HX11 := Lib.hid ((HX1.out.below hb1).alloc (.cells #[.int .i64 i1, .int .i64 i2, .slice A' rn c', .string lb, .int .i64 at_] 53))
         have HX21 := Lib.hid ((HX2.out.below hb1).alloc (.cells #[.int .i64 i1, .int .i64 i2, .slice A' rn c', .string lb, .int .i64 at_] 53))
         have HV1 : RowKit.Hid (Whole (w1.alloc (.cells #[.int .i64 i1, .int .i64 i2, .slice A' rn c', .string lb, .int .i64 at_] 53)) w1.heap.size 53 [.int .i64 i1, .int .i64 i2, .slice A' rn c', .string lb, .int .i64 at_]) := Lib.hid (Whole.new_ _ _ _)
         obtain ⟨_, _, he, hrd⟩ := ho.rds
         injection he with h1 h2 h3
         subst h1 h3
         have HR1 := Lib.hid (hrd.al (.cells #[.int .i64 i1, .int .i64 i2, .slice A' rn c', .string lb, .int .i64 at_] 53))
         have a0 := HX01.out.cell (i := 0) rfl
         have a1 := HX01.out.cell (i := 1) rfl
         have a2 := HX01.out.cell (i := 2) rfl
         have p2 := HX11.out.cell (i := 2) rfl
         have p3 := HX11.out.cell (i := 3) rfl
         have p4 := HX11.out.cell (i := 4) rfl
         clear hb1 ho HX0 HX1 HX2 hrd c0 c1 e0 e1 HV)

      | (go_at_call 10
         refine (HF.out _ HB1.out).mono ?_
         rintro e w2 ⟨rfl, hb2⟩
         have HB2 := Lib.hid (bel_al (bel_bl HB1.out hb2) (.cells #[.int .i64 r1, .int .i64 r2, .int .i64 r3] 32))
         have HX02 := Lib.hid ((HX01.out.below hb2).alloc (.cells #[.int .i64 r1, .int .i64 r2, .int .i64 r3] 32))
         have HX12 := Lib.hid ((HX11.out.below hb2).alloc (.cells #[.int .i64 r1, .int .i64 r2, .int .i64 r3] 32))
         have HX22 := Lib.hid ((HX21.out.below hb2).alloc (.cells #[.int .i64 r1, .int .i64 r2, .int .i64 r3] 32))
         have HV2 := Lib.hid ((HV1.out.below hb2).alloc (.cells #[.int .i64 r1, .int .i64 r2, .int .i64 r3] 32))
         have HQ2 : RowKit.Hid (Whole (w2.alloc (.cells #[.int .i64 r1, .int .i64 r2, .int .i64 r3] 32)) w2.heap.size 32 [.int .i64 r1, .int .i64 r2, .int .i64 r3]) := Lib.hid (Whole.new_ _ _ _)
         have HR2 := Lib.hid ((HR1.out.bl hb2).al (.cells #[.int .i64 r1, .int .i64 r2, .int .i64 r3] 32))
         have Lq : RowKit.Hid (w.heap.size ≤ w2.heap.size) := Lib.hid (bel_bl HB1.out hb2).size
         have m1 : b1 ≠ w2.heap.size := Nat.ne_of_lt (HX11.out.below hb2).lt
         have m2 : b2 ≠ w2.heap.size := Nat.ne_of_lt (HX21.out.below hb2).lt
         have s2 := HV2.out.cell (i := 2) rfl
         clear hb2 HX01 HX11 HX21 HV1 HR1 a0 a1 a2 p2 p3 p4 HB1 HF)

      | (go_at_call 28
         refine (rindex_any A' rn c' rL (r1, r2, r3) _ HR2.out (by have := Hrn.out; omega)).mono ?_
         rw [gix]
         rintro e w3 ⟨rfl, hb3⟩
         have HB3 := Lib.hid (bel_bl HB2.out hb3)
         have HX13 := Lib.hid (HX12.out.below hb3)
         have HX23 := Lib.hid (HX22.out.below hb3)
         have HQ3 := Lib.hid (HQ2.out.below hb3)
         have e0 := HX13.out.cell (i := 0) rfl
         have e1 := HX13.out.cell (i := 1) rfl
         have u0 := HQ3.out.cell (i := 0) rfl
         have u1 := HQ3.out.cell (i := 1) rfl
         have u2 := HQ3.out.cell (i := 2) rfl
         have fu0 := HQ3.out.free 0
         have fu1 := HQ3.out.free 1
         have fu2 := HQ3.out.free 2
         have k0 := HX23.out.cell (i := 0) rfl
         have k1 := HX23.out.cell (i := 1) rfl
         have k2 := HX23.out.cell (i := 2) rfl
         have k3 := HX23.out.cell (i := 3) rfl
         have k4 := HX23.out.cell (i := 4) rfl
         have f0 := HX23.out.free 0
         have f1 := HX23.out.free 1
         have f2 := HX23.out.free 2
         have f3 := HX23.out.free 3
         have f4 := HX23.out.free 4
         clear hb3 HX02 HX12 HX22 HV2 HR2 HQ2 HB2 s2)
)
    exact ret_whole2 rfl b2 rfl rfl (((((HX23.out.set_ 0 (.int .i64 v1)).set_ 1 (.int .i64 v2)).set_ 2 (.int .i64 r1)).set_ 3 (.int .i64 r2)).set_ 4 (.int .i64 r3)) Try.underlying34 rfl (by kernel_rfl) rfl ⟨rfl, (((((HB3.out.setCell (p := ⟨b2, 0, none⟩) Lb2.out (.int .i64 v1)).setCell (p := ⟨b2, 1, none⟩) Lb2.out (.int .i64 v2)).setCell (p := ⟨b2, 2, none⟩) Lb2.out (.int .i64 r1)).setCell (p := ⟨b2, 3, none⟩) Lb2.out (.int .i64 r2)).setCell (p := ⟨b2, 4, none⟩) Lb2.out (.int .i64 r3))⟩
  · rw [if_neg hm] at hix
    have hz := Hnc.out
    rw [if_neg hm] at hz
    unfold zD at hz
    simp only [Prod.mk.injEq] at hz
    obtain ⟨rfl, rfl, rfl⟩ := hz
    have hq : decide (ix < 0) = true := decide_eq_true (by omega)
    clear hix hm Hnc HI
    go_wp2_with (first
      | (go_at_call 27
         refine HV.out.mono ?_
         rintro e w1 ⟨A', c', rfl, ho⟩
         have hb1 := ho.below
         have HB1 := Lib.hid (bel_al (bel_bl HB0.out hb1) (.cells #[.int .i64 i1, .int .i64 i2, .slice A' rn c', .string lb, .int .i64 at_] 53))
         have HX01 := Lib.hid ((HX0.out.below hb1).alloc (.cells #[.int .i64 i1, .int .i64 i2, .slice A' rn c', .string lb, .int .i64 at_] 53))
         have HX11 := Lib.hid ((HX1.out.below hb1).alloc (.cells #[.int .i64 i1, .int .i64 i2, .slice A' rn c', .string lb, .int .i64 at_] 53))
         have HX21 := Lib.hid ((HX2.out.below hb1).alloc (.cells #[.int .i64 i1, .int .i64 i2, .slice A' rn c', .string lb, .int .i64 at_] 53))
         have HV1 : RowKit.Hid (Whole (w1.alloc (.cells #[.int .i64 i1, .int .i64 i2, .slice A' rn c', .string lb, .int .i64 at_] 53)) w1.heap.size 53 [.int .i64 i1, .int .i64 i2, .slice A' rn c', .string lb, .int .i64 at_]) := Lib.hid (Whole.new_ _ _ _)
         obtain ⟨_, _, he, hrd⟩ := ho.rds
         injection he with h1 h2 h3
         subst h1 h3
         have HR1 := Lib.hid (hrd.al (.cells #[.int .i64 i1, .int .i64 i2, .slice A' rn c', .string lb, .int .i64 at_] 53))
         have a0 := HX01.out.cell (i := 0) rfl
         have a1 := HX01.out.cell (i := 1) rfl
         have a2 := HX01.out.cell (i := 2) rfl
         have p2 := HX11.out.cell (i := 2) rfl
         have p3 := HX11.out.cell (i := 3) rfl
         have p4 := HX11.out.cell (i := 4) rfl
         clear hb1 ho HX0 HX1 HX2 hrd c0 c1 e0 e1 HV)

      | (go_at_call 10
         refine (HF.out _ HB1.out).mono ?_
         rintro e w2 ⟨rfl, hb2⟩
         have HB2 := Lib.hid (bel_al (bel_bl HB1.out hb2) (.cells #[.int .i64 r1, .int .i64 r2, .int .i64 r3] 32))
         have HX02 := Lib.hid ((HX01.out.below hb2).alloc (.cells #[.int .i64 r1, .int .i64 r2, .int .i64 r3] 32))
         have HX12 := Lib.hid ((HX11.out.below hb2).alloc (.cells #[.int .i64 r1, .int .i64 r2, .int .i64 r3] 32))
         have HX22 := Lib.hid ((HX21.out.below hb2).alloc (.cells #[.int .i64 r1, .int .i64 r2, .int .i64 r3] 32))
         have HV2 := Lib.hid ((HV1.out.below hb2).alloc (.cells #[.int .i64 r1, .int .i64 r2, .int .i64 r3] 32))
         have HQ2 : RowKit.Hid (Whole (w2.alloc (.cells #[.int .i64 r1, .int .i64 r2, .int .i64 r3] 32)) w2.heap.size 32 [.int .i64 r1, .int .i64 r2, .int .i64 r3]) := Lib.hid (Whole.new_ _ _ _)
         have HR2 := Lib.hid ((HR1.out.bl hb2).al (.cells #[.int .i64 r1, .int .i64 r2, .int .i64 r3] 32))
         have Lq : RowKit.Hid (w.heap.size ≤ w2.heap.size) := Lib.hid (bel_bl HB1.out hb2).size
         have m1 : b1 ≠ w2.heap.size := Nat.ne_of_lt (HX11.out.below hb2).lt
         have m2 : b2 ≠ w2.heap.size := Nat.ne_of_lt (HX21.out.below hb2).lt
         have s2 := HV2.out.cell (i := 2) rfl
         clear hb2 HX01 HX11 HX21 HV1 HR1 a0 a1 a2 p2 p3 p4 HB1 HF)

      | (go_at_call 28
         refine (rindex_any A' rn c' rL (r1, r2, r3) _ HR2.out (by have := Hrn.out; omega)).mono ?_
         rw [gix]
         rintro e w3 ⟨rfl, hb3⟩
         have HB3 := Lib.hid (bel_bl HB2.out hb3)
         have HX13 := Lib.hid (HX12.out.below hb3)
         have HX23 := Lib.hid (HX22.out.below hb3)
         have HQ3 := Lib.hid (HQ2.out.below hb3)
         have e0 := HX13.out.cell (i := 0) rfl
         have e1 := HX13.out.cell (i := 1) rfl
         have u0 := HQ3.out.cell (i := 0) rfl
         have u1 := HQ3.out.cell (i := 1) rfl
         have u2 := HQ3.out.cell (i := 2) rfl
         have fu0 := HQ3.out.free 0
         have fu1 := HQ3.out.free 1
         have fu2 := HQ3.out.free 2
         have k0 := HX23.out.cell (i := 0) rfl
         have k1 := HX23.out.cell (i := 1) rfl
         have k2 := HX23.out.cell (i := 2) rfl
         have k3 := HX23.out.cell (i := 3) rfl
         have k4 := HX23.out.cell (i := 4) rfl
         have f0 := HX23.out.free 0
         have f1 := HX23.out.free 1
         have f2 := HX23.out.free 2
         have f3 := HX23.out.free 3
         have f4 := HX23.out.free 4
         clear hb3 HX02 HX12 HX22 HV2 HR2 HQ2 HB2 s2)
)
    exact ret_whole2 rfl b2 rfl rfl ((((((((HX23.out.far (p := ⟨w2.heap.size, 0, none⟩) m2 (.int .i64 0)).far (p := ⟨w2.heap.size, 1, none⟩) m2 (.int .i64 0)).far (p := ⟨w2.heap.size, 2, none⟩) m2 (.int .i64 0)).set_ 0 (.int .i64 v1)).set_ 1 (.int .i64 v2)).set_ 2 (.int .i64 0)).set_ 3 (.int .i64 0)).set_ 4 (.int .i64 0)) Try.underlying34 rfl (by kernel_rfl) rfl ⟨rfl, ((((((((HB3.out.setCell (p := ⟨w2.heap.size, 0, none⟩) Lq.out (.int .i64 0)).setCell (p := ⟨w2.heap.size, 1, none⟩) Lq.out (.int .i64 0)).setCell (p := ⟨w2.heap.size, 2, none⟩) Lq.out (.int .i64 0)).setCell (p := ⟨b2, 0, none⟩) Lb2.out (.int .i64 v1)).setCell (p := ⟨b2, 1, none⟩) Lb2.out (.int .i64 v2)).setCell (p := ⟨b2, 2, none⟩) Lb2.out (.int .i64 0)).setCell (p := ⟨b2, 3, none⟩) Lb2.out (.int .i64 0)).setCell (p := ⟨b2, 4, none⟩) Lb2.out (.int .i64 0))⟩
end Go.Proofs.Ytkhklhipiiehbaa

/- The law's dart. -/
namespace Go.Proofs.Ytkhklhipiiehbaa
open Go.RowKit
set_option linter.unusedSimpArgs false
set_option linter.unusedVariables false

set_option maxRecDepth 100000 in
theorem dart11_any (n : Int) (w : World) : Calls Try.prog 20 #[.int .i64 n] w fun e w' => e = .returned (.agg #[.int .i64 1, .int .i64 n, .int .i64 0]) ∧ Below w.heap.size w w' := by
  go_enter Try.func20, Try.ntmps20
  go_wp2
  exact ret_whole rfl w.heap.size rfl (Whole.new_ w 32 [.int .i64 1, .int .i64 n, .int .i64 0]) Try.underlying32 rfl (by kernel_rfl) rfl ⟨rfl, below1 _ _⟩
end Go.Proofs.Ytkhklhipiiehbaa

/- The document's example of layer 11. -/
namespace Go.Proofs.Ytkhklhipiiehbaa
open Go.RowKit
set_option linter.unusedSimpArgs false
set_option linter.unusedVariables false

def shVs (r : Nat) : List VC := [((1, 9), (some ⟨r, 0, none⟩, 1, 1, [(1, 1, 0)]), ByteArray.empty, 0)]
def shGs : List Gn := [((1, 2, 0), (1, 1, 0)), ((1, 3, 0), (1, 2, 0))]
theorem sh_res3 (r : Nat) : resG (stV (shVs r)) shGs 2 (1, 3, 0) = (1, 1, 0) := (show _ = resG (stV (shVs 0)) shGs 2 (1, 3, 0) from rfl).trans (by kernel_rfl)
theorem sh_res4 (r : Nat) : resG (stV (shVs r)) shGs 2 (1, 4, 0) = (0, 0, 0) := (show _ = resG (stV (shVs 0)) shGs 2 (1, 4, 0) from rfl).trans (by kernel_rfl)
/-- The example's state in memory. -/
structure ShIn (w : World) (gr gv gg gs : Nat) : Prop where
  r : Whole w gr 32 [.int .i64 1, .int .i64 1, .int .i64 0]
  v : Whole w gv 53 [.int .i64 1, .int .i64 9, .slice (some ⟨gr, 0, none⟩) 1 1, .string { data := #[] }, .int .i64 0]
  g : Whole w gg 36 [.int .i64 1, .int .i64 2, .int .i64 0, .int .i64 1, .int .i64 1, .int .i64 0, .int .i64 1, .int .i64 3, .int .i64 0, .int .i64 1, .int .i64 2, .int .i64 0]
  s : Whole w gs 28 [.slice (some ⟨gv, 0, none⟩) 1 1, .slice none 0 0, .slice (some ⟨gg, 0, none⟩) 2 2]
theorem ShIn.dg {w : World} {gr gv gg gs : Nat} (h : ShIn w gr gv gg gs) : DgIn w (some ⟨gv, 0, none⟩) 1 1 (shVs gr) none 0 0 [] :=
  ⟨RdS.of_whole (t := 53) h.v rfl, RdS.no _ _ _, fun x hx => by
    obtain rfl := List.mem_singleton.1 hx
    exact ⟨by show 1 ≤ maxLen; unfold maxLen; omega, RdS.whole3 (t := 32) (L := [(1, 1, 0)]) h.r⟩⟩
theorem ShIn.res {w : World} {gr gv gg gs : Nat} (h : ShIn w gr gv gg gs) (d : D) (r : D) (hr : resG (stV (shVs gr)) shGs 2 d = r) (W : World) (hb : Below w.heap.size w W) : Calls Try.prog 10 #[.agg #[.slice (some ⟨gv, 0, none⟩) 1 1, .slice none 0 0, .slice (some ⟨gg, 0, none⟩) 2 2], .agg #[.int .i64 d.1, .int .i64 d.2.1, .int .i64 d.2.2]] W fun e w' => e = .returned (.agg #[.int .i64 r.1, .int .i64 r.2.1, .int .i64 r.2.2]) ∧ Below W.heap.size W w' := by
  have e := res_any (some ⟨gv, 0, none⟩) 1 1 (shVs gr) none 0 0 [] (some ⟨gg, 0, none⟩) 2 2 shGs d W (h.dg.below hb) (by omega) (fun y hy => by
    obtain rfl := List.mem_singleton.1 hy
    show 1 ≤ 1000000
    omega) (RdS.of_whole (t := 36) (h.g.below hb) rfl) (by omega)
  rw [hr] at e
  exact e
set_option maxRecDepth 100000 in
set_option maxHeartbeats 4000000 in
theorem shown11_any (w : World) : Calls Try.prog 7 #[] w fun e w' => e = .returned (.bool true) ∧ Below w.heap.size w w' := by
  go_enter Try.func7, Try.ntmps7
  go_wp2_with fail
  refine (dart11_any _ _).mono ?_
  rintro e w1 ⟨rfl, hb1⟩
  have HB1 := Lib.hid hb1
  clear hb1
  go_wp2_with fail
  refine (dart11_any _ _).mono ?_
  rintro e w2 ⟨rfl, hb2⟩
  have HB2 := Lib.hid (bel_bl (bel_al (bel_al HB1.out (.cells #[.int .i64 1, .int .i64 1, .int .i64 0] 32)) (.cells #[.int .i64 1, .int .i64 9, .slice (some ⟨w1.heap.size, 0, none⟩) 1 1, .string { data := #[] }, .int .i64 0] 53)) hb2)
  have HR2 : RowKit.Hid (Whole w2 w1.heap.size 32 [.int .i64 1, .int .i64 1, .int .i64 0]) := Lib.hid (((Whole.new_ w1 32 [.int .i64 1, .int .i64 1, .int .i64 0]).alloc _).below hb2)
  have HV2 : RowKit.Hid (Whole w2 (w1.heap.size + 1) 53 [.int .i64 1, .int .i64 9, .slice (some ⟨w1.heap.size, 0, none⟩) 1 1, .string { data := #[] }, .int .i64 0]) := Lib.hid ((Whole.new2 (w := w1.alloc (.cells #[.int .i64 1, .int .i64 1, .int .i64 0] 32)) (by simp)).below hb2)
  obtain ⟨gr, ggr⟩ : ∃ z, w1.heap.size = z := ⟨_, rfl⟩
  rw [ggr] at HR2 HV2 ⊢
  obtain ⟨gv, ggv⟩ : ∃ z, gr + 1 = z := ⟨_, rfl⟩
  rw [ggv] at HV2 ⊢
  clear hb2 HB1 ggr ggv
  go_wp2_with fail
  refine (dart11_any _ _).mono ?_
  rintro e w3 ⟨rfl, hb3⟩
  have HB3 := Lib.hid (bel_bl HB2.out hb3)
  have HR3 := Lib.hid (HR2.out.below hb3)
  have HV3 := Lib.hid (HV2.out.below hb3)
  clear hb3 HB2 HR2 HV2
  go_wp2_with fail
  refine (dart11_any _ _).mono ?_
  rintro e w4 ⟨rfl, hb4⟩
  have HB4 := Lib.hid (bel_bl HB3.out hb4)
  have HR4 := Lib.hid (HR3.out.below hb4)
  have HV4 := Lib.hid (HV3.out.below hb4)
  clear hb4 HB3 HR3 HV3
  go_wp2_with fail
  refine (dart11_any _ _).mono ?_
  rintro e w5 ⟨rfl, hb5⟩
  have HB5 := Lib.hid (bel_bl HB4.out hb5)
  have HR5 := Lib.hid (HR4.out.below hb5)
  have HV5 := Lib.hid (HV4.out.below hb5)
  clear hb5 HB4 HR4 HV4
  go_upto_region 2 with fail
  obtain ⟨gg, ggg⟩ : ∃ z, w5.heap.size = z := ⟨_, rfl⟩
  obtain ⟨gs, ggs⟩ : ∃ z, gg + 1 = z := ⟨_, rfl⟩
  have HS : RowKit.Hid (ShIn ((w5.alloc (.cells #[.int .i64 1, .int .i64 2, .int .i64 0, .int .i64 1, .int .i64 1, .int .i64 0, .int .i64 1, .int .i64 3, .int .i64 0, .int .i64 1, .int .i64 2, .int .i64 0] 36)).alloc (.cells #[.slice (some ⟨gv, 0, none⟩) 1 1, .slice none 0 0, .slice (some ⟨gg, 0, none⟩) 2 2] 28)) gr gv gg gs) := Lib.hid ⟨(HR5.out.alloc _).alloc _, (HV5.out.alloc _).alloc _, (Whole.new2 ggg.symm).alloc _, Whole.new2 (by simp; omega)⟩
  have HB6 := Lib.hid (bel_al (bel_al HB5.out (.cells #[.int .i64 1, .int .i64 2, .int .i64 0, .int .i64 1, .int .i64 1, .int .i64 0, .int .i64 1, .int .i64 3, .int .i64 0, .int .i64 1, .int .i64 2, .int .i64 0] 36)) (.cells #[.slice (some ⟨gv, 0, none⟩) 1 1, .slice none 0 0, .slice (some ⟨gg, 0, none⟩) 2 2] 28))
  rw [ggg, ggs]
  obtain ⟨W, gW⟩ : ∃ z, (w5.alloc (.cells #[.int .i64 1, .int .i64 2, .int .i64 0, .int .i64 1, .int .i64 1, .int .i64 0, .int .i64 1, .int .i64 3, .int .i64 0, .int .i64 1, .int .i64 2, .int .i64 0] 36)).alloc (.cells #[.slice (some ⟨gv, 0, none⟩) 1 1, .slice none 0 0, .slice (some ⟨gg, 0, none⟩) 2 2] 28) = z := ⟨_, rfl⟩
  rw [gW] at HS HB6 ⊢
  clear ggg ggs gW HB5 HR5 HV5
  have hk : ∀ w', Kept Nil_ W.drew w' → Below W.heap.size W w' := fun w' h => bel_bl (bel_dr (Below.refl _ _)) (h.below (Nat.le_refl _) (fun _ _ h => h))
  have HD : RowKit.Hid (∀ n w', Calls Try.prog 20 #[.int .i64 n] w' fun e w'' => e = .returned (.agg #[.int .i64 1, .int .i64 n, .int .i64 0]) ∧ Below w'.heap.size w' w'') := Lib.hid dart11_any
  have HR3 : RowKit.Hid (∀ w', Kept Nil_ W.drew w' → Calls Try.prog 10 #[.agg #[.slice (some ⟨gv, 0, none⟩) 1 1, .slice none 0 0, .slice (some ⟨gg, 0, none⟩) 2 2], .agg #[.int .i64 1, .int .i64 3, .int .i64 0]] w' fun e w'' => e = .returned (.agg #[.int .i64 1, .int .i64 1, .int .i64 0]) ∧ Below w'.heap.size w' w'') := Lib.hid (fun w' h => HS.out.res (1, 3, 0) (1, 1, 0) (sh_res3 gr) w' (hk w' h))
  have HR4 : RowKit.Hid (∀ w', Kept Nil_ W.drew w' → Calls Try.prog 10 #[.agg #[.slice (some ⟨gv, 0, none⟩) 1 1, .slice none 0 0, .slice (some ⟨gg, 0, none⟩) 2 2], .agg #[.int .i64 1, .int .i64 4, .int .i64 0]] w' fun e w'' => e = .returned (.agg #[.int .i64 0, .int .i64 0, .int .i64 0]) ∧ Below w'.heap.size w' w'') := Lib.hid (fun w' h => HS.out.res (1, 4, 0) (0, 0, 0) (sh_res4 gr) w' (hk w' h))
  have ld0 : ∀ w', Kept Nil_ W.drew w' → w'.cell? ⟨gs, 0, none⟩ = some (.slice (some ⟨gv, 0, none⟩) 1 1) := fun w' h => h.nil_cell (HS.out.s.dr.cell (i := 0) rfl)
  have ld1 : ∀ w', Kept Nil_ W.drew w' → w'.cell? ⟨gs, 1, none⟩ = some (.slice none 0 0) := fun w' h => h.nil_cell (HS.out.s.dr.cell (i := 1) rfl)
  have ld2 : ∀ w', Kept Nil_ W.drew w' → w'.cell? ⟨gs, 2, none⟩ = some (.slice (some ⟨gg, 0, none⟩) 2 2) := fun w' h => h.nil_cell (HS.out.s.dr.cell (i := 2) rfl)
  have heq1 : ∀ W, (binOp .eql 32 (.agg #[.int .i64 1, .int .i64 1, .int .i64 0]) (.agg #[.int .i64 1, .int .i64 1, .int .i64 0])).run Try.prog W = .ok (.bool true) W := fun W => by
    have e := eq_dart_run (1, 1, 0) (1, 1, 0) W
    rw [decide_eq_true rfl] at e
    exact e
  have heq2 : ∀ W, (binOp .eql 32 (.agg #[.int .i64 0, .int .i64 0, .int .i64 0]) (.agg #[.int .i64 0, .int .i64 0, .int .i64 0])).run Try.prog W = .ok (.bool true) W := fun W => by
    have e := eq_dart_run (0, 0, 0) (0, 0, 0) W
    rw [decide_eq_true rfl] at e
    exact e
  clear hk HS
  refine wp_region_reg (Nil_) (by kernel_rfl) ?_
  apply wpR_next 0 (some 16)
  · simp only [List.getElem?_toArray, List.getElem?_cons_succ, List.getElem?_cons_zero]; exact rfl
  · rfl
  · kernel_rfl
  · kernel_rfl
  · kernel_rfl
  · exact fun _ _ _ _ h => h
  apply Exists.intro
  apply And.intro
  · apply yr_run; rfl; intro w' hw'; go_simp; (try with_reducible rfl)
  simp only [Act.put, List.setIfInBounds_toArray, List.set_cons_zero, List.set_cons_succ]
  apply wpR_next 1 (some 17)
  · simp only [List.getElem?_toArray, List.getElem?_cons_succ, List.getElem?_cons_zero]; exact rfl
  · rfl
  · kernel_rfl
  · kernel_rfl
  · kernel_rfl
  · exact fun _ _ _ _ h => h
  apply Exists.intro
  apply And.intro
  · apply yr_call; rfl; rotate_left; intro w' hw'; exact HD.out 3 w'; intro w'; go_simp
  simp only [Act.put, List.setIfInBounds_toArray, List.set_cons_zero, List.set_cons_succ]
  apply wpR_next 2 (some 18)
  · simp only [List.getElem?_toArray, List.getElem?_cons_succ, List.getElem?_cons_zero]; exact rfl
  · rfl
  · kernel_rfl
  · kernel_rfl
  · kernel_rfl
  · exact fun _ _ _ _ h => h
  apply Exists.intro
  apply And.intro
  · apply yr_call; rfl; rotate_left; intro w' hw'; exact HR3.out w' hw'; intro w'; go_simp
  simp only [Act.put, List.setIfInBounds_toArray, List.set_cons_zero, List.set_cons_succ]
  apply wpR_next 3 (some 19)
  · simp only [List.getElem?_toArray, List.getElem?_cons_succ, List.getElem?_cons_zero]; exact rfl
  · rfl
  · kernel_rfl
  · kernel_rfl
  · kernel_rfl
  · exact fun _ _ _ _ h => h
  apply Exists.intro
  apply And.intro
  · apply yr_call; rfl; rotate_left; intro w' hw'; exact HD.out 1 w'; intro w'; go_simp
  simp only [Act.put, List.setIfInBounds_toArray, List.set_cons_zero, List.set_cons_succ]
  apply wpR_next 4 (some 20)
  · simp only [List.getElem?_toArray, List.getElem?_cons_succ, List.getElem?_cons_zero]; exact rfl
  · rfl
  · kernel_rfl
  · kernel_rfl
  · kernel_rfl
  · exact fun _ _ _ _ h => h
  apply Exists.intro
  apply And.intro
  · exact yr_run (by rfl) (fun w' hw' => exec_binop_agg .eql 32 (.tmp 18) (.tmp 19) 32 rfl rfl rfl (by kernel_rfl) (heq1 w'))
  simp only [Act.put, List.setIfInBounds_toArray, List.set_cons_zero, List.set_cons_succ]
  apply wpR_next 5 (some 21)
  · simp only [List.getElem?_toArray, List.getElem?_cons_succ, List.getElem?_cons_zero]; exact rfl
  · rfl
  · kernel_rfl
  · kernel_rfl
  · kernel_rfl
  · exact fun _ _ _ _ h => h
  apply Exists.intro
  apply And.intro
  · apply yr_run; rfl; intro w' hw'; go_simp; (try with_reducible rfl)
  simp only [Act.put, List.setIfInBounds_toArray, List.set_cons_zero, List.set_cons_succ]
  apply wpR_next 6 (some 22)
  · simp only [List.getElem?_toArray, List.getElem?_cons_succ, List.getElem?_cons_zero]; exact rfl
  · rfl
  · kernel_rfl
  · kernel_rfl
  · kernel_rfl
  · exact fun _ _ _ _ h => h
  apply Exists.intro
  apply And.intro
  · apply yr_run; rfl; intro w' hw'; go_simp; (try with_reducible rfl)
  simp only [Act.put, List.setIfInBounds_toArray, List.set_cons_zero, List.set_cons_succ]
  apply wpR_next 7 (some 23)
  · simp only [List.getElem?_toArray, List.getElem?_cons_succ, List.getElem?_cons_zero]; exact rfl
  · rfl
  · kernel_rfl
  · kernel_rfl
  · kernel_rfl
  · exact fun _ _ _ _ h => h
  apply Exists.intro
  apply And.intro
  · apply yr_call; rfl; rotate_left; intro w' hw'; exact HD.out 4 w'; intro w'; go_simp
  simp only [Act.put, List.setIfInBounds_toArray, List.set_cons_zero, List.set_cons_succ]
  apply wpR_next 8 (some 24)
  · simp only [List.getElem?_toArray, List.getElem?_cons_succ, List.getElem?_cons_zero]; exact rfl
  · rfl
  · kernel_rfl
  · kernel_rfl
  · kernel_rfl
  · exact fun _ _ _ _ h => h
  apply Exists.intro
  apply And.intro
  · apply yr_call; rfl; rotate_left; intro w' hw'; exact HR4.out w' hw'; intro w'; go_simp
  simp only [Act.put, List.setIfInBounds_toArray, List.set_cons_zero, List.set_cons_succ]
  apply wpR_next 9 (some 25)
  · simp only [List.getElem?_toArray, List.getElem?_cons_succ, List.getElem?_cons_zero]; exact rfl
  · rfl
  · kernel_rfl
  · kernel_rfl
  · kernel_rfl
  · exact fun _ _ _ _ h => h
  apply Exists.intro
  apply And.intro
  · apply yr_run; rfl; intro w' hw'; go_simp; (try with_reducible rfl)
  simp only [Act.put, List.setIfInBounds_toArray, List.set_cons_zero, List.set_cons_succ]
  apply wpR_next 10 (some 26)
  · simp only [List.getElem?_toArray, List.getElem?_cons_succ, List.getElem?_cons_zero]; exact rfl
  · rfl
  · kernel_rfl
  · kernel_rfl
  · kernel_rfl
  · exact fun _ _ _ _ h => h
  apply Exists.intro
  apply And.intro
  · exact yr_run (by rfl) (fun w' hw' => exec_binop_agg .eql 32 (.tmp 24) (.tmp 25) 32 rfl rfl rfl (by kernel_rfl) (heq2 w'))
  simp only [Act.put, List.setIfInBounds_toArray, List.set_cons_zero, List.set_cons_succ]
  apply wpR_next 11 (some 27)
  · simp only [List.getElem?_toArray, List.getElem?_cons_succ, List.getElem?_cons_zero]; exact rfl
  · rfl
  · kernel_rfl
  · kernel_rfl
  · kernel_rfl
  · exact fun _ _ _ _ h => h
  apply Exists.intro
  apply And.intro
  · apply yr_run; rfl; intro w' hw'; go_simp; (try with_reducible rfl)
  simp only [Act.put, List.setIfInBounds_toArray, List.set_cons_zero, List.set_cons_succ]
  apply wpR_next 12 (some 0)
  · simp only [List.getElem?_toArray, List.getElem?_cons_succ, List.getElem?_cons_zero]; exact rfl
  · rfl
  · kernel_rfl
  · kernel_rfl
  · kernel_rfl
  · exact fun _ _ _ _ h => h
  apply Exists.intro
  apply And.intro
  · apply yr_run; rfl; intro w' hw'; go_simp; (try with_reducible rfl)
  simp only [Act.put, List.setIfInBounds_toArray, List.set_cons_zero, List.set_cons_succ]
  refine wpR_done (by kernel_rfl) ?_ _
  intro W3 hw3
  have HB7 := Lib.hid (bel_bl (bel_bl HB6.out (bel_dr (Below.refl _ _))) hw3)
  clear hw3 ld0 ld1 ld2 heq1 heq2 HD HR3 HR4 HB6
  go_wp2
  go_ret
  exact ⟨rfl, HB7.out⟩
end Go.Proofs.Ytkhklhipiiehbaa

/- AnchorChains. -/
namespace Go.Proofs.Ytkhklhipiiehbaa
open Go.RowKit
set_option linter.unusedSimpArgs false
set_option linter.unusedVariables false

theorem info_gone : (Try.prog.info? 36).map (fun i => (i.zero, i.size, i.bytes)) = some (some (.agg #[.int .i64 0, .int .i64 0, .int .i64 0, .int .i64 0, .int .i64 0, .int .i64 0]), 6, 48) := by kernel_rfl
def chVs (r : Nat) : List VC := [((1, 1), (some ⟨r, 0, none⟩, 1, 1, [(1, 1, 0)]), ByteArray.empty, 0)]
/-- Between two rounds: the row of darts that are gone grows. -/
structure ChIn (w : World) (B2 gr gv gs : Nat) (n : Nat) (rd : Bool) (i : Nat) (u : Value) (wr : World) : Prop where
  ow : Ow w B2 36 6 u i (rowsV gnC (chainG n rd i)) wr
  r : Whole wr gr 32 [.int .i64 1, .int .i64 1, .int .i64 0]
  v : Whole wr gv 53 [.int .i64 1, .int .i64 1, .slice (some ⟨gr, 0, none⟩) 1 1, .string { data := #[] }, .int .i64 0]
  s : Whole wr gs 28 [.slice (some ⟨gv, 0, none⟩) 1 1, .slice none 0 0, u]
section
variable {w wr wr' : World} {B2 gr gv gs n i : Nat} {rd : Bool} {u : Value}
theorem ChIn.below (h : ChIn w B2 gr gv gs n rd i u wr) (hb : Below wr.heap.size wr wr') : ChIn w B2 gr gv gs n rd i u wr' :=
  ⟨h.ow.up hb, h.r.below hb, h.v.below hb, h.s.below hb⟩
theorem ChIn.store (h : ChIn w B2 gr gv gs n rd i u wr) (hr : gr ≠ gs) (hv : gv ≠ gs) (hs : gs < B2) (hl : w.heap.size ≤ gs) {u' : Value} {j : Nat} (ho : Ow w B2 36 6 u' j (rowsV gnC (chainG n rd j)) wr') (hb : Below B2 wr wr') (h0 : gr < B2) (h1 : gv < B2) : ChIn w B2 gr gv gs n rd j u' (wr'.setCell ⟨gs, 2, none⟩ u') :=
  ⟨ho.set_far (ho.low_ne hs) hl u', (h.r.at_ (hb.block _ h0)).set_far' hr u', (h.v.at_ (hb.block _ h1)).set_far' hv u', (h.s.at_ (hb.block _ hs)).set_ 2 u'⟩
theorem ChIn.far (h : ChIn w B2 gr gv gs n rd i u wr) {g j : Nat} (hg : wr.heap.size ≤ g ∨ (gr ≠ g ∧ gv ≠ g ∧ gs ≠ g ∧ some g ≠ u.ownBlock ∧ w.heap.size ≤ g)) (hw : w.heap.size ≤ g) (x : Value) : ChIn w B2 gr gv gs n rd i u (wr.setCell ⟨g, j, none⟩ x) := by
  have h1 := h.r.lt
  have h2 := h.v.lt
  have h3 := h.s.lt
  have h4 : some g ≠ u.ownBlock := hg.elim (fun q => h.ow.ne_ q) (fun q => q.2.2.2.1)
  exact ⟨h.ow.set_far h4 hw x, h.r.set_far' (by omega) x, h.v.set_far' (by omega) x, h.s.set_far' (by omega) x⟩
theorem ChIn.dg (h : ChIn w B2 gr gv gs n rd i u wr) : DgIn wr (some ⟨gv, 0, none⟩) 1 1 (chVs gr) none 0 0 [] :=
  ⟨RdS.of_whole (t := 53) h.v rfl, RdS.no _ _ _, fun x hx => by
    obtain rfl := List.mem_singleton.1 hx
    exact ⟨by show 1 ≤ maxLen; unfold maxLen; omega, RdS.whole3 (t := 32) (L := [(1, 1, 0)]) h.r⟩⟩
theorem ch_short (gr : Nat) : ∀ y ∈ chVs gr, y.2.1.2.1 ≤ 1000000 := fun y hy => by
  obtain rfl := List.mem_singleton.1 hy
  show 1 ≤ 1000000
  omega
theorem ChIn.res {A : Option Addr} {c : Nat} (h : ChIn w B2 gr gv gs n rd n (.slice A n c) wr) (hn : n ≤ 64) (k : Int) (r : D) (hr : resG (stV (chVs gr)) (chainG n rd n) n (dN k) = r) (W : World) (hb : Below wr.heap.size wr W) : Calls Try.prog 10 #[.agg #[.slice (some ⟨gv, 0, none⟩) 1 1, .slice none 0 0, .slice A n c], .agg #[.int .i64 1, .int .i64 k, .int .i64 0]] W fun e w' => e = .returned (.agg #[.int .i64 r.1, .int .i64 r.2.1, .int .i64 r.2.2]) ∧ Below W.heap.size W w' := by
  obtain ⟨_, _, he, hrd⟩ := (h.below hb).ow.rds
  injection he with h1 h2 h3
  subst h1 h3
  have e := res_any (some ⟨gv, 0, none⟩) 1 1 (chVs gr) none 0 0 [] A n c (chainG n rd n) (dN k) W (h.dg.below hb) (by omega) (ch_short gr) hrd (by omega)
  rw [hr] at e
  exact e
theorem ChIn.corner {A : Option Addr} {c : Nat} (h : ChIn w B2 gr gv gs n rd n (.slice A n c) wr) (hn : n ≤ 64) (k : Int) (r : D) (hr : nearC (chVs gr) (chainG n rd n) n (1, 1) (dN k) = r) (W : World) (hb : Below wr.heap.size wr W) : Calls Try.prog 14 #[.agg #[.slice (some ⟨gv, 0, none⟩) 1 1, .slice none 0 0, .slice A n c], .agg #[.int .i64 1, .int .i64 1, .int .i64 1, .int .i64 k, .int .i64 0]] W fun e w' => e = .returned (.tuple #[.agg #[.int .i64 1, .int .i64 1, .int .i64 r.1, .int .i64 r.2.1, .int .i64 r.2.2], .int .i64 0]) ∧ Below W.heap.size W w' := by
  obtain ⟨_, _, he, hrd⟩ := (h.below hb).ow.rds
  injection he with h1 h2 h3
  subst h1 h3
  have e := corner_yes (some ⟨gv, 0, none⟩) 1 1 (chVs gr) none 0 0 [] A n c (chainG n rd n) 1 1 1 k 0 W (h.dg.below hb) (by omega) (ch_short gr) hrd (by omega) rfl
  rw [show ((1 : Int), k, (0 : Int)) = dN k from rfl, hr] at e
  exact e
end
end Go.Proofs.Ytkhklhipiiehbaa

/- The law's few: a state of few vertices, edges and darts that are gone. -/
namespace Go.Proofs.Ytkhklhipiiehbaa
open Go.RowKit
set_option linter.unusedSimpArgs false
set_option linter.unusedVariables false

theorem take_snoc11 {α : Type} (l : List α) (k : Nat) (x : α) (h : l[k]? = some x) : l.take (k + 1) = l.take k ++ [x] := by
  rw [List.take_add_one, h]
  rfl
theorem rows_one11 {α : Type} (f : α → List Value) (x : α) : rowsV f [x] = f x := by simp [rowsV]
def cutV (v : VC) : VC := if 82 < v.2.1.2.1 then (v.1, (v.2.1.1, 82, v.2.1.2.2.1, v.2.1.2.2.2.take 82), v.2.2) else v
def fewVs (Vs : List VC) : List VC := (Vs.take 26).map cutV
theorem cutV_short (v : VC) : (cutV v).2.1.2.1 ≤ 82 := by
  unfold cutV
  split
  · exact Nat.le_refl _
  · rename_i h; omega
theorem RgOk.cut {w : World} {v : VC} (h : RgOk w v.2.1) : RgOk w (cutV v).2.1 := by
  unfold cutV
  split
  · rename_i h30
    refine ⟨h.1, ?_⟩
    have := h.2.take_ 82 (by omega)
    rw [dartsV_rows, ← rowsV_take dC dC_len] at this
    show RdS w w.heap.size 3 v.2.1.1 82 v.2.1.2.2.1 (dartsV (v.2.1.2.2.2.take 82))
    rw [dartsV_rows]
    exact this
  · exact h
theorem fewVs_short (Vs : List VC) : ∀ y ∈ fewVs Vs, y.2.1.2.1 ≤ 82 := fun y hy => by
  obtain ⟨z, -, rfl⟩ := List.mem_map.1 hy
  exact cutV_short z
theorem fewVs_len (Vs : List VC) : (fewVs Vs).length ≤ 26 := by unfold fewVs; rw [List.length_map, List.length_take]; omega
/-- How many rounds a loop over l of at most N makes. -/
theorem take_all11 {α : Type} {l : List α} {N k n : Nat} (hl : l.length = n) (hkn : k ≤ n) (hkN : k ≤ N) (h : ¬ (k < n ∧ k < N)) : (l.take N).take k = l.take N ∧ k = (l.take N).length := by
  rw [List.length_take, hl]
  exact ⟨List.take_of_length_le (by rw [List.length_take, hl]; omega), by omega⟩
theorem map_take11 {α β : Type} (f : α → β) (l : List α) (N k : Nat) : (l.map f).take k = (l.take k).map f := List.map_take.symm
theorem vC_one11 (x : VC) : ∀ u ∈ vC x, u.oneCell' = true := by simp [vC, Value.oneCell']
theorem eC_one11 (x : EC) : ∀ u ∈ eC x, u.oneCell' = true := by simp [eC, Value.oneCell']
theorem rowsV_one11 {α : Type} (f : α → List Value) (h : ∀ x, ∀ u ∈ f x, u.oneCell' = true) : ∀ L, ∀ u ∈ rowsV f L, u.oneCell' = true
  | [], u, hu => by cases hu
  | x :: L, u, hu => by
    rcases List.mem_append.1 (show u ∈ f x ++ rowsV f L from hu) with q | q
    · exact h x u q
    · exact rowsV_one11 f h L u q
set_option maxRecDepth 100000 in
set_option maxHeartbeats 4000000 in
theorem few11_any (A : Option Addr) (n c : Nat) (Vs : List VC) (B : Option Addr) (m k : Nat) (Es : List EC) (C : Option Addr) (g gc : Nat) (G : List Gn) (w : World) (h : DgIn w A n c Vs B m k Es) (hg : RdS w w.heap.size 6 C g gc (rowsV gnC G)) (hn : n ≤ maxLen) (hm : m ≤ maxLen) (hgl : g ≤ maxLen) :
    Calls Try.prog 8 #[.agg #[.slice A n c, .slice B m k, .slice C g gc]] w fun e w' => ∃ A' c' B' k' C' g', e = .returned (.agg #[.slice A' (fewVs Vs).length c', .slice B' (Es.take 42).length k', .slice C' (G.take 410).length g']) ∧ DgIn w' A' (fewVs Vs).length c' (fewVs Vs) B' (Es.take 42).length k' (Es.take 42) ∧ RdS w' w'.heap.size 6 C' (G.take 410).length g' (rowsV gnC (G.take 410)) ∧ Below w.heap.size w w' ∧ (∀ a, A' = some a → 0 < (fewVs Vs).length → w.heap.size ≤ a.block) ∧ (∀ a, B' = some a → 0 < (Es.take 42).length → w.heap.size ≤ a.block) ∧ (∀ a, C' = some a → 0 < (G.take 410).length → w.heap.size ≤ a.block) := by
  have HV := Lib.hid h.v
  have HE := Lib.hid h.e
  have HGn := Lib.hid hg
  have HRg := Lib.hid h.r
  have HVl := Lib.hid (h.v.rlen vC_len (by decide))
  have HEl := Lib.hid (h.e.rlen eC_len (by decide))
  have HGnl := Lib.hid (hg.rlen gnC_len (by decide))
  obtain ⟨iV, hiV, z0iV, z1iV, z2iV⟩ := info_partsD info_vertex
  obtain ⟨iE, hiE, z0iE, z1iE, z2iE⟩ := info_partsD info_edge
  obtain ⟨iG, hiG, z0iG, z1iG, z2iG⟩ := info_partsD info_gone
  unfold maxLen at hn hm hgl
  obtain ⟨nV, gnV⟩ : ∃ z, (fewVs Vs).length = z := ⟨_, rfl⟩
  obtain ⟨nE, gnE⟩ : ∃ z, (Es.take 42).length = z := ⟨_, rfl⟩
  obtain ⟨nG, gnG⟩ : ∃ z, (G.take 410).length = z := ⟨_, rfl⟩
  rw [gnV, gnE, gnG]
  have GnV := Lib.hid gnV
  have GnE := Lib.hid gnE
  have GnG := Lib.hid gnG
  clear h hg gnV gnE gnG
  go_enter Try.func8, Try.ntmps8
  go_upto_region 3 with fail
  have hx0 : Whole ((w.alloc (.cells #[.slice A n c, .slice B m k, .slice C g gc] 28)).alloc (.cells #[.slice none 0 0, .slice none 0 0, .slice none 0 0] 28)) w.heap.size 28 [.slice A n c, .slice B m k, .slice C g gc] := (Whole.new_ w 28 [.slice A n c, .slice B m k, .slice C g gc]).alloc _
  have hx1 : Whole ((w.alloc (.cells #[.slice A n c, .slice B m k, .slice C g gc] 28)).alloc (.cells #[.slice none 0 0, .slice none 0 0, .slice none 0 0] 28)) (w.heap.size + 1) 28 [.slice none 0 0, .slice none 0 0, .slice none 0 0] := Whole.new2 (w := w.alloc (.cells #[.slice A n c, .slice B m k, .slice C g gc] 28)) (by simp)
  have hbl := bel_al (below1 w (.cells #[.slice A n c, .slice B m k, .slice C g gc] 28)) (.cells #[.slice none 0 0, .slice none 0 0, .slice none 0 0] 28)
  have hsz : w.heap.size + 1 + 1 = ((w.alloc (.cells #[.slice A n c, .slice B m k, .slice C g gc] 28)).alloc (.cells #[.slice none 0 0, .slice none 0 0, .slice none 0 0] 28)).heap.size := by simp
  obtain ⟨W0, gW0⟩ : ∃ z, ((w.alloc (.cells #[.slice A n c, .slice B m k, .slice C g gc] 28)).alloc (.cells #[.slice none 0 0, .slice none 0 0, .slice none 0 0] 28)) = z := ⟨_, rfl⟩
  rw [gW0] at hx0 hx1 hbl hsz ⊢
  rw [hsz]
  obtain ⟨b1, gb1⟩ : ∃ z, w.heap.size + 1 = z := ⟨_, rfl⟩
  rw [gb1] at hx1 ⊢
  obtain ⟨b0, gb0⟩ : ∃ z, w.heap.size = z := ⟨_, rfl⟩
  rw [gb0] at hx0 ⊢
  have HX0_1 := Lib.hid hx0
  have HX1_1 := Lib.hid hx1
  have HBW_1 := Lib.hid hbl
  have Lb1 : RowKit.Hid (w.heap.size ≤ b1 ∧ b1 < W0.heap.size) := Lib.hid (by omega)
  clear hx0 hx1 hbl hsz gW0 gb1 gb0
  obtain ⟨wS, gwS⟩ : ∃ z, W0.alloc (.cells #[] 53) = z := ⟨_, rfl⟩
  have HO0 : RowKit.Hid (Ow W0 W0.heap.size 53 5 (.slice (some ⟨W0.heap.size, 0, none⟩) 0 0) 0 (rowsV vC ((fewVs Vs).take 0)) wS) := Lib.hid (gwS ▸ Ow.new_ (cs := #[]) (Below.refl _ _) (Nat.le_refl _) (Nat.le_refl _) (Nat.zero_le _) rfl)
  obtain ⟨v0, gv0⟩ : ∃ z : Value, .slice (some ⟨W0.heap.size, 0, none⟩) 0 0 = z := ⟨_, rfl⟩
  have HV0 : RowKit.Hid (v0 = v0) := Lib.hid rfl
  rw [gwS, gv0]
  rw [gv0] at HO0
  clear gwS gv0
  go_loopw [3, 4] (fun v i wr => ∃ j1 : Nat, j1 ≤ 26 ∧ j1 ≤ n ∧ i = .int .i64 (j1 : Int) ∧ RowKit.Hid (Ow W0 W0.heap.size 53 5 v j1 (rowsV vC ((fewVs Vs).take j1)) wr)) (fun _ i _ => 26 - (intOf i).toNat)
  case atStart => exact ⟨0, Nat.zero_le _, Nat.zero_le _, rfl, HO0⟩
  case round =>
    clear HO0 HV0
    obtain ⟨j1, hk6, hkn, rfl, HO⟩ := hrel
    obtain ⟨wo1, gwo⟩ : ∃ z, wr = z := ⟨_, rfl⟩
    rw [gwo] at HO ⊢
    clear gwo
    obtain ⟨Ac1, cc1, rfl, -⟩ := HO.out.rds
    have cb := (HX0_1.out.below HO.out.below).cell (i := 0) rfl
    by_cases hlt : j1 < n ∧ j1 < 26
    · obtain ⟨hl1, hl2⟩ := hlt
      have hi1 : (j1 : Int) < (n : Int) := by omega
      have hi2 : (j1 : Int) < 26 := by omega
      obtain ⟨x, hx⟩ : ∃ x, Vs[j1]? = some x := ⟨_, List.getElem?_eq_getElem (by have := HVl.out; omega)⟩
      have hrg := HRg.out x (List.mem_of_getElem? hx)
      have hrle : x.2.1.2.1 ≤ x.2.1.2.2.1 := hrg.2.le
      have HNx : RowKit.Hid ((fewVs Vs).take (j1 + 1) = (fewVs Vs).take j1 ++ [cutV x]) := Lib.hid (take_snoc11 _ _ _ (by unfold fewVs; rw [List.getElem?_map, List.getElem?_take, if_pos hl2, hx]; rfl))
      obtain ⟨b, off, gAb, hbB, hpl⟩ := (HV.out.bl (bel_bl HBW_1.out HO.out.below)).place vC_len (by decide) (by omega)
      have HP := Lib.hid (hpl j1 x hx)
      rw [gAb] at cb
      clear hx hpl hbB
      clear hrg
      go_upto_region 5 with fail
      refine wp_region_lit ?_
      refine wl_read (v := ?_) (some 23) rfl (by rfl) ?_ ?_
      rotate_left
      · go_simp; (try with_reducible rfl)
      simp only [Act.put, List.setIfInBounds_toArray, List.set_cons_zero, List.set_cons_succ]
      refine wl_read (v := ?_) (some 24) rfl (by rfl) ?_ ?_
      rotate_left
      · go_simp; (try with_reducible rfl)
      simp only [Act.put, List.setIfInBounds_toArray, List.set_cons_zero, List.set_cons_succ]
      refine wl_read (v := ?_) (some 25) rfl (by rfl) ?_ ?_
      rotate_left
      · go_simp; (try with_reducible rfl)
      simp only [Act.put, List.setIfInBounds_toArray, List.set_cons_zero, List.set_cons_succ]
      refine wl_read (v := ?_) (some 26) rfl (by rfl) ?_ ?_
      rotate_left
      · go_simp; (try with_reducible rfl)
      simp only [Act.put, List.setIfInBounds_toArray, List.set_cons_zero, List.set_cons_succ]
      refine wl_read (v := ?_) (some 27) rfl (by rfl) ?_ ?_
      rotate_left
      · go_simp; (try with_reducible rfl)
      simp only [Act.put, List.setIfInBounds_toArray, List.set_cons_zero, List.set_cons_succ]
      refine wl_load_at (some 28) rfl (by rfl) 53 (.tmp 27) rfl ⟨b, off + j1 * 5, none⟩ rfl (vC x) _ HP.out Try.underlying53 rfl (by kernel_rfl) ?_
      simp only [Act.put, List.setIfInBounds_toArray, List.set_cons_zero, List.set_cons_succ]
      refine wl_new 5 rfl rfl rfl 53 (.tmp 28) rfl rfl #[.int .i64 0, .int .i64 0, .slice none 0 0, .string { data := #[] }, .int .i64 0] ?_ (vC x).toArray (by simp) rfl (by kernel_rfl) rfl (by simp [vC, Value.oneCell']) ?_
      · go_simp; (try with_reducible rfl)
      simp only [Act.put, List.setIfInBounds_toArray, List.set_cons_zero, List.set_cons_succ]
      have HO2 := Lib.hid (HO.out.up (below1 wo1 (.cells (vC x).toArray 53)))
      have HY2 : RowKit.Hid (Whole (wo1.alloc (.cells (vC x).toArray 53)) wo1.heap.size 53 (vC x)) := Lib.hid (Whole.new_ _ _ _)
      have Hg5 : RowKit.Hid (W0.heap.size ≤ wo1.heap.size) := Lib.hid HO.out.below.size
      have HNe : RowKit.Hid (some wo1.heap.size ≠ _) := Lib.hid (Ow.ne_ HO.out (Nat.le_refl _))
      obtain ⟨W2, gW2⟩ : ∃ z, wo1.alloc (.cells (vC x).toArray 53) = z := ⟨_, rfl⟩
      obtain ⟨g5, gg5⟩ : ∃ z, wo1.heap.size = z := ⟨_, rfl⟩
      rw [gW2] at HO2 HY2 ⊢
      rw [gg5] at HY2 Hg5 HNe ⊢
      clear gW2 gg5 HO HP cb gAb
      obtain ⟨N, gN⟩ : ∃ z, x.2.1.2.1 = z := ⟨_, rfl⟩
      rw [gN] at hrle
      have GN := Lib.hid gN
      have y2 : W2.cell? ⟨g5, 2, none⟩ = some (.slice x.2.1.1 N x.2.1.2.2.1) := gN ▸ HY2.out.cell (i := 2) rfl
      have z2 := HY2.out.free 2
      clear gN
      by_cases ht : 82 < N
      · have ht1 : decide ((82 : Int) < (N : Int)) = true := decide_eq_true (by omega)
        have ht2 : 82 ≤ x.2.1.2.2.1 := by omega
        go_upto_region 8 with fail
        have hY3 := HY2.out.set_ 2 (.slice x.2.1.1 82 x.2.1.2.2.1)
        obtain ⟨x', gx'⟩ : ∃ z, cutV x = z := ⟨_, rfl⟩
        have hcc : (vC x).set 2 (.slice x.2.1.1 82 x.2.1.2.2.1) = vC x' := by
          rw [← gx', cutV, if_pos (by have := GN.out; omega)]
          rfl
        rw [hcc] at hY3
        have HY3 := Lib.hid hY3
        rw [gx'] at HNx
        have HO3 : RowKit.Hid (Ow W0 W0.heap.size 53 5 (.slice Ac1 j1 cc1) j1 (rowsV vC ((fewVs Vs).take j1)) (W2.setCell ⟨g5, 2, none⟩ (.slice x.2.1.1 82 x.2.1.2.2.1))) := Lib.hid ⟨own_cell_far HO2.out.own HNe.out _, HO2.out.below.setCell (p := ⟨g5, 2, none⟩) Hg5.out _, HO2.out.lo, by simpa [World.setCell] using HO2.out.hi⟩
        obtain ⟨W3, gW3⟩ : ∃ z, W2.setCell ⟨g5, 2, none⟩ (.slice x.2.1.1 82 x.2.1.2.2.1) = z := ⟨_, rfl⟩
        rw [gW3] at HY3 HO3 ⊢
        clear gW3 hY3 hcc gx' y2 z2 ht1 ht2 ht HO2 HY2 hrle
        refine wp_region_lit ?_
        refine wl_read (v := ?_) (some 37) rfl (by rfl) ?_ ?_
        rotate_left
        · go_simp; (try with_reducible rfl)
        simp only [Act.put, List.setIfInBounds_toArray, List.set_cons_zero, List.set_cons_succ]
        refine wl_load (some 38) rfl (by rfl) 53 (.tmp 5) rfl g5 rfl 53 (vC x') _ HY3.out Try.underlying53 rfl (by kernel_rfl) ?_
        simp only [Act.put, List.setIfInBounds_toArray, List.set_cons_zero, List.set_cons_succ]
        clear HY3
        refine wl_buildSlice (some 39) rfl (by rfl) 22 53 1 #[(0, .tmp 38)] rfl Try.underlying22 (vC x').toArray (by kernel_rfl) ?_
        simp only [Act.put, List.setIfInBounds_toArray, List.set_cons_zero, List.set_cons_succ]
        have HL4 : RowKit.Hid (RdS (W3.alloc (.cells (vC x').toArray 53)) (W3.alloc (.cells (vC x').toArray 53)).heap.size 5 (some ⟨W3.heap.size, 0, none⟩) 1 1 (rowsV vC [x'])) := Lib.hid (by rw [rows_one11]; exact RdS.of_whole (Whole.new_ _ _ _) rfl)
        have HO4 := Lib.hid (HO3.out.up (below1 W3 (.cells (vC x').toArray 53)))
        obtain ⟨W4, gW4⟩ : ∃ z, W3.alloc (.cells (vC x').toArray 53) = z := ⟨_, rfl⟩
        obtain ⟨g8, gg8⟩ : ∃ z, W3.heap.size = z := ⟨_, rfl⟩
        rw [gW4] at HL4 HO4 ⊢
        rw [gg8] at HL4 ⊢
        clear gW4 gg8 HO3
        go_wp2_with (first
          | (at_builtin
             refine wpList_push2 rfl (.tmp 37) (.tmp 39) _ rfl _ 53 iV _ 5 64 Try.underlying22 hiV z0iV z1iV z2iV rfl (by decide) _ _ _ rfl HO4.out _ _ _ _ _ rfl HL4.out (rowsV_one11 vC vC_one11 [x']) (by unfold maxLen; omega) (by omega) ?_
             intro v5 W5 how5 hb5 hgr5
             obtain ⟨A5, c5, rfl, -⟩ := how5.rds
             have HO5 := Lib.hid how5
             clear how5 hb5 hgr5))
        go_roundw
        case rel =>
          refine ⟨j1 + 1, by omega, by omega, by go_num, Lib.hid ?_⟩
          rw [HNx.out, rowsV_app]
          exact HO5.out
        case measure => simp [intOf]; omega
      · have ht1 : decide ((82 : Int) < (N : Int)) = false := decide_eq_false (by omega)
        obtain ⟨x', gx'⟩ : ∃ z, cutV x = z := ⟨_, rfl⟩
        have hcc : x = x' := by rw [← gx', cutV, if_neg (by have := GN.out; omega)]
        rw [gx'] at HNx
        have Hcc := Lib.hid hcc
        clear ht gx' hcc
        go_upto_region 8 with fail
        have HY3 : RowKit.Hid (Whole W2 g5 53 (vC x')) := Lib.hid (Hcc.out ▸ HY2.out)
        have HO3 := HO2
        obtain ⟨W3, gW3⟩ : ∃ z, W2 = z := ⟨_, rfl⟩
        rw [gW3] at HY3 HO3 ⊢
        clear gW3 y2 z2 ht1 HO2 HY2 hrle
        refine wp_region_lit ?_
        refine wl_read (v := ?_) (some 37) rfl (by rfl) ?_ ?_
        rotate_left
        · go_simp; (try with_reducible rfl)
        simp only [Act.put, List.setIfInBounds_toArray, List.set_cons_zero, List.set_cons_succ]
        refine wl_load (some 38) rfl (by rfl) 53 (.tmp 5) rfl g5 rfl 53 (vC x') _ HY3.out Try.underlying53 rfl (by kernel_rfl) ?_
        simp only [Act.put, List.setIfInBounds_toArray, List.set_cons_zero, List.set_cons_succ]
        clear HY3
        refine wl_buildSlice (some 39) rfl (by rfl) 22 53 1 #[(0, .tmp 38)] rfl Try.underlying22 (vC x').toArray (by kernel_rfl) ?_
        simp only [Act.put, List.setIfInBounds_toArray, List.set_cons_zero, List.set_cons_succ]
        have HL4 : RowKit.Hid (RdS (W3.alloc (.cells (vC x').toArray 53)) (W3.alloc (.cells (vC x').toArray 53)).heap.size 5 (some ⟨W3.heap.size, 0, none⟩) 1 1 (rowsV vC [x'])) := Lib.hid (by rw [rows_one11]; exact RdS.of_whole (Whole.new_ _ _ _) rfl)
        have HO4 := Lib.hid (HO3.out.up (below1 W3 (.cells (vC x').toArray 53)))
        obtain ⟨W4, gW4⟩ : ∃ z, W3.alloc (.cells (vC x').toArray 53) = z := ⟨_, rfl⟩
        obtain ⟨g8, gg8⟩ : ∃ z, W3.heap.size = z := ⟨_, rfl⟩
        rw [gW4] at HL4 HO4 ⊢
        rw [gg8] at HL4 ⊢
        clear gW4 gg8 HO3
        go_wp2_with (first
          | (at_builtin
             refine wpList_push2 rfl (.tmp 37) (.tmp 39) _ rfl _ 53 iV _ 5 64 Try.underlying22 hiV z0iV z1iV z2iV rfl (by decide) _ _ _ rfl HO4.out _ _ _ _ _ rfl HL4.out (rowsV_one11 vC vC_one11 [x']) (by unfold maxLen; omega) (by omega) ?_
             intro v5 W5 how5 hb5 hgr5
             obtain ⟨A5, c5, rfl, -⟩ := how5.rds
             have HO5 := Lib.hid how5
             clear how5 hb5 hgr5))
        go_roundw
        case rel =>
          refine ⟨j1 + 1, by omega, by omega, by go_num, Lib.hid ?_⟩
          rw [HNx.out, rowsV_app]
          exact HO5.out
        case measure => simp [intOf]; omega
    · obtain ⟨hq1, hq2⟩ := take_all11 HVl.out hkn hk6 hlt
      have hq3 : (fewVs Vs).take j1 = fewVs Vs := by unfold fewVs; rw [map_take11 _ _ 26, hq1]
      have hq4 : j1 = (fewVs Vs).length := by unfold fewVs; rw [List.length_map]; exact hq2
      have hO := HO.out
      rw [hq3] at hO
      have Hq4_1 := Lib.hid hq4
      have HOe_1 := Lib.hid hO
      clear hO hq1 hq2 hq3 hq4 HO
      go_upto_region 3 with fail
      go_cut [20] (fun v z => v = .bool false ∧ z = wo1)
      case first =>
        by_cases hkn2 : (j1 : Int) < (n : Int)
        · have hk6b : decide ((j1 : Int) < 26) = false := decide_eq_false (fun q => hlt ⟨by omega, by omega⟩)
          clear hlt
          go_wp2
          go_meet
          exact ⟨rfl, rfl⟩
        · have hk6b : decide ((j1 : Int) < (n : Int)) = false := decide_eq_false hkn2
          clear hlt
          go_wp2
          go_meet
          exact ⟨rfl, rfl⟩
      case rest =>
        obtain ⟨rfl, hwc⟩ := hcut
        replace hwc := hwc.symm
        subst hwc
        clear hlt cb hk6 hkn
        obtain ⟨_, _, he1, hrd1⟩ := HOe_1.out.rds
        injection he1 with qa1 qb1 qc1
        subst qa1 qc1
        have HR_1 := Lib.hid hrd1
        have HRn_1 : RowKit.Hid (∀ a, Ac1 = some a → 0 < j1 → W0.heap.size ≤ a.block) := Lib.hid (fun a ha h0 => by
          subst ha
          exact (HOe_1.out.own.lt a.block rfl).1)
        have HX0_2 := Lib.hid (HX0_1.out.below HOe_1.out.below)
        have HX1_2 := Lib.hid (HX1_1.out.below HOe_1.out.below)
        have HBW_2 := Lib.hid (bel_bl HBW_1.out HOe_1.out.below)
        have HSz_1 : RowKit.Hid (W0.heap.size ≤ wo1.heap.size) := Lib.hid HOe_1.out.below.size
        have HBl_1 := Lib.hid HOe_1.out.below
        clear hrd1 HX0_1 HX1_1 HBW_1 HOe_1
        go_upto_region 11 with fail
        obtain ⟨wS, gwS⟩ : ∃ z, wo1.alloc (.cells #[] 65) = z := ⟨_, rfl⟩
        have HO0 : RowKit.Hid (Ow wo1 wo1.heap.size 65 4 (.slice (some ⟨wo1.heap.size, 0, none⟩) 0 0) 0 (rowsV eC ((Es.take 42).take 0)) wS) := Lib.hid (gwS ▸ Ow.new_ (cs := #[]) (Below.refl _ _) (Nat.le_refl _) (Nat.le_refl _) (Nat.zero_le _) rfl)
        obtain ⟨v0, gv0⟩ : ∃ z : Value, .slice (some ⟨wo1.heap.size, 0, none⟩) 0 0 = z := ⟨_, rfl⟩
        have HV0 : RowKit.Hid (v0 = v0) := Lib.hid rfl
        rw [gwS, gv0]
        rw [gv0] at HO0
        clear gwS gv0
        go_loopw [6, 7] (fun v i wr => ∃ j2 : Nat, j2 ≤ 42 ∧ j2 ≤ m ∧ i = .int .i64 (j2 : Int) ∧ RowKit.Hid (Ow wo1 wo1.heap.size 65 4 v j2 (rowsV eC ((Es.take 42).take j2)) wr)) (fun _ i _ => 42 - (intOf i).toNat)
        case atStart => exact ⟨0, Nat.zero_le _, Nat.zero_le _, rfl, HO0⟩
        case round =>
          clear HO0 HV0
          obtain ⟨j2, hk6, hkn, rfl, HO⟩ := hrel
          obtain ⟨wo2, gwo⟩ : ∃ z, wr = z := ⟨_, rfl⟩
          rw [gwo] at HO ⊢
          clear gwo
          obtain ⟨Ac2, cc2, rfl, -⟩ := HO.out.rds
          have cb := (HX0_2.out.below HO.out.below).cell (i := 1) rfl
          by_cases hlt : j2 < m ∧ j2 < 42
          · obtain ⟨hl1, hl2⟩ := hlt
            have hi1 : (j2 : Int) < (m : Int) := by omega
            have hi2 : (j2 : Int) < 42 := by omega
            obtain ⟨x, hx⟩ : ∃ x, Es[j2]? = some x := ⟨_, List.getElem?_eq_getElem (by have := HEl.out; omega)⟩
            have HNx : RowKit.Hid ((Es.take 42).take (j2 + 1) = (Es.take 42).take j2 ++ [x]) := Lib.hid (take_snoc11 _ _ _ (by rw [List.getElem?_take, if_pos hl2, hx]))
            obtain ⟨b, off, gAb, hbB, hpl⟩ := (HE.out.bl (bel_bl HBW_2.out HO.out.below)).place eC_len (by decide) (by omega)
            have HP := Lib.hid (hpl j2 x hx)
            rw [gAb] at cb
            clear hx hpl hbB
            go_upto_region 13 with fail
            refine wp_region_lit ?_
            refine wl_read (v := ?_) (some 54) rfl (by rfl) ?_ ?_
            rotate_left
            · go_simp; (try with_reducible rfl)
            simp only [Act.put, List.setIfInBounds_toArray, List.set_cons_zero, List.set_cons_succ]
            refine wl_read (v := ?_) (some 55) rfl (by rfl) ?_ ?_
            rotate_left
            · go_simp; (try with_reducible rfl)
            simp only [Act.put, List.setIfInBounds_toArray, List.set_cons_zero, List.set_cons_succ]
            refine wl_read (v := ?_) (some 56) rfl (by rfl) ?_ ?_
            rotate_left
            · go_simp; (try with_reducible rfl)
            simp only [Act.put, List.setIfInBounds_toArray, List.set_cons_zero, List.set_cons_succ]
            refine wl_read (v := ?_) (some 57) rfl (by rfl) ?_ ?_
            rotate_left
            · go_simp; (try with_reducible rfl)
            simp only [Act.put, List.setIfInBounds_toArray, List.set_cons_zero, List.set_cons_succ]
            refine wl_read (v := ?_) (some 58) rfl (by rfl) ?_ ?_
            rotate_left
            · go_simp; (try with_reducible rfl)
            simp only [Act.put, List.setIfInBounds_toArray, List.set_cons_zero, List.set_cons_succ]
            refine wl_read (v := ?_) (some 59) rfl (by rfl) ?_ ?_
            rotate_left
            · go_simp; (try with_reducible rfl)
            simp only [Act.put, List.setIfInBounds_toArray, List.set_cons_zero, List.set_cons_succ]
            refine wl_load_at (some 60) rfl (by rfl) 65 (.tmp 59) rfl ⟨b, off + j2 * 4, none⟩ rfl (eC x) _ HP.out Try.underlying65 rfl (by kernel_rfl) ?_
            simp only [Act.put, List.setIfInBounds_toArray, List.set_cons_zero, List.set_cons_succ]
            have HO3 := HO
            obtain ⟨W3, gW3⟩ : ∃ z, wo2 = z := ⟨_, rfl⟩
            rw [gW3] at HO3 ⊢
            clear gW3 HO HP cb gAb
            refine wl_buildSlice (some 61) rfl (by rfl) 23 65 1 #[(0, .tmp 60)] rfl Try.underlying23 (eC x).toArray (by kernel_rfl) ?_
            simp only [Act.put, List.setIfInBounds_toArray, List.set_cons_zero, List.set_cons_succ]
            have HL4 : RowKit.Hid (RdS (W3.alloc (.cells (eC x).toArray 65)) (W3.alloc (.cells (eC x).toArray 65)).heap.size 4 (some ⟨W3.heap.size, 0, none⟩) 1 1 (rowsV eC [x])) := Lib.hid (by rw [rows_one11]; exact RdS.of_whole (Whole.new_ _ _ _) rfl)
            have HO4 := Lib.hid (HO3.out.up (below1 W3 (.cells (eC x).toArray 65)))
            obtain ⟨W4, gW4⟩ : ∃ z, W3.alloc (.cells (eC x).toArray 65) = z := ⟨_, rfl⟩
            obtain ⟨g8, gg8⟩ : ∃ z, W3.heap.size = z := ⟨_, rfl⟩
            rw [gW4] at HL4 HO4 ⊢
            rw [gg8] at HL4 ⊢
            clear gW4 gg8 HO3
            go_wp2_with (first
              | (at_builtin
                 refine wpList_push2 rfl (.tmp 54) (.tmp 61) _ rfl _ 65 iE _ 4 40 Try.underlying23 hiE z0iE z1iE z2iE rfl (by decide) _ _ _ rfl HO4.out _ _ _ _ _ rfl HL4.out (rowsV_one11 eC eC_one11 [x]) (by unfold maxLen; omega) (by omega) ?_
                 intro v5 W5 how5 hb5 hgr5
                 obtain ⟨A5, c5, rfl, -⟩ := how5.rds
                 have HO5 := Lib.hid how5
                 clear how5 hb5 hgr5))
            go_roundw
            case rel =>
              refine ⟨j2 + 1, by omega, by omega, by go_num, Lib.hid ?_⟩
              rw [HNx.out, rowsV_app]
              exact HO5.out
            case measure => simp [intOf]; omega
          · obtain ⟨hq1, hq2⟩ := take_all11 HEl.out hkn hk6 hlt
            have hq3 := hq1
            have hq4 := hq2
            have hO := HO.out
            rw [hq3] at hO
            have Hq4_2 := Lib.hid hq4
            have HOe_2 := Lib.hid hO
            clear hO hq1 hq2 hq3 hq4 HO
            go_upto_region 11 with fail
            go_cut [51] (fun v z => v = .bool false ∧ z = wo2)
            case first =>
              by_cases hkn2 : (j2 : Int) < (m : Int)
              · have hk6b : decide ((j2 : Int) < 42) = false := decide_eq_false (fun q => hlt ⟨by omega, by omega⟩)
                clear hlt
                go_wp2
                go_meet
                exact ⟨rfl, rfl⟩
              · have hk6b : decide ((j2 : Int) < (m : Int)) = false := decide_eq_false hkn2
                clear hlt
                go_wp2
                go_meet
                exact ⟨rfl, rfl⟩
            case rest =>
              obtain ⟨rfl, hwc⟩ := hcut
              replace hwc := hwc.symm
              subst hwc
              clear hlt cb hk6 hkn
              obtain ⟨_, _, he2, hrd2⟩ := HOe_2.out.rds
              injection he2 with qa2 qb2 qc2
              subst qa2 qc2
              have HR_2 := Lib.hid hrd2
              have HRn_2 : RowKit.Hid (∀ a, Ac2 = some a → 0 < j2 → wo1.heap.size ≤ a.block) := Lib.hid (fun a ha h0 => by
                subst ha
                exact (HOe_2.out.own.lt a.block rfl).1)
              have HX0_3 := Lib.hid (HX0_2.out.below HOe_2.out.below)
              have HX1_3 := Lib.hid (HX1_2.out.below HOe_2.out.below)
              have HBW_3 := Lib.hid (bel_bl HBW_2.out HOe_2.out.below)
              have HSz_2 : RowKit.Hid (wo1.heap.size ≤ wo2.heap.size) := Lib.hid HOe_2.out.below.size
              have HBl_2 := Lib.hid HOe_2.out.below
              clear hrd2 HX0_2 HX1_2 HBW_2 HOe_2
              go_upto_region 16 with fail
              obtain ⟨wS, gwS⟩ : ∃ z, wo2.alloc (.cells #[] 36) = z := ⟨_, rfl⟩
              have HO0 : RowKit.Hid (Ow wo2 wo2.heap.size 36 6 (.slice (some ⟨wo2.heap.size, 0, none⟩) 0 0) 0 (rowsV gnC ((G.take 410).take 0)) wS) := Lib.hid (gwS ▸ Ow.new_ (cs := #[]) (Below.refl _ _) (Nat.le_refl _) (Nat.le_refl _) (Nat.zero_le _) rfl)
              obtain ⟨v0, gv0⟩ : ∃ z : Value, .slice (some ⟨wo2.heap.size, 0, none⟩) 0 0 = z := ⟨_, rfl⟩
              have HV0 : RowKit.Hid (v0 = v0) := Lib.hid rfl
              rw [gwS, gv0]
              rw [gv0] at HO0
              clear gwS gv0
              go_loopw [8, 9] (fun v i wr => ∃ j3 : Nat, j3 ≤ 410 ∧ j3 ≤ g ∧ i = .int .i64 (j3 : Int) ∧ RowKit.Hid (Ow wo2 wo2.heap.size 36 6 v j3 (rowsV gnC ((G.take 410).take j3)) wr)) (fun _ i _ => 410 - (intOf i).toNat)
              case atStart => exact ⟨0, Nat.zero_le _, Nat.zero_le _, rfl, HO0⟩
              case round =>
                clear HO0 HV0
                obtain ⟨j3, hk6, hkn, rfl, HO⟩ := hrel
                obtain ⟨wo3, gwo⟩ : ∃ z, wr = z := ⟨_, rfl⟩
                rw [gwo] at HO ⊢
                clear gwo
                obtain ⟨Ac3, cc3, rfl, -⟩ := HO.out.rds
                have cb := (HX0_3.out.below HO.out.below).cell (i := 2) rfl
                by_cases hlt : j3 < g ∧ j3 < 410
                · obtain ⟨hl1, hl2⟩ := hlt
                  have hi1 : (j3 : Int) < (g : Int) := by omega
                  have hi2 : (j3 : Int) < 410 := by omega
                  obtain ⟨x, hx⟩ : ∃ x, G[j3]? = some x := ⟨_, List.getElem?_eq_getElem (by have := HGnl.out; omega)⟩
                  have HNx : RowKit.Hid ((G.take 410).take (j3 + 1) = (G.take 410).take j3 ++ [x]) := Lib.hid (take_snoc11 _ _ _ (by rw [List.getElem?_take, if_pos hl2, hx]))
                  obtain ⟨b, off, gAb, hbB, hpl⟩ := (HGn.out.bl (bel_bl HBW_3.out HO.out.below)).place gnC_len (by decide) (by omega)
                  have HP := Lib.hid (hpl j3 x hx)
                  rw [gAb] at cb
                  clear hx hpl hbB
                  go_upto_region 18 with fail
                  refine wp_region_lit ?_
                  refine wl_read (v := ?_) (some 75) rfl (by rfl) ?_ ?_
                  rotate_left
                  · go_simp; (try with_reducible rfl)
                  simp only [Act.put, List.setIfInBounds_toArray, List.set_cons_zero, List.set_cons_succ]
                  refine wl_read (v := ?_) (some 76) rfl (by rfl) ?_ ?_
                  rotate_left
                  · go_simp; (try with_reducible rfl)
                  simp only [Act.put, List.setIfInBounds_toArray, List.set_cons_zero, List.set_cons_succ]
                  refine wl_read (v := ?_) (some 77) rfl (by rfl) ?_ ?_
                  rotate_left
                  · go_simp; (try with_reducible rfl)
                  simp only [Act.put, List.setIfInBounds_toArray, List.set_cons_zero, List.set_cons_succ]
                  refine wl_read (v := ?_) (some 78) rfl (by rfl) ?_ ?_
                  rotate_left
                  · go_simp; (try with_reducible rfl)
                  simp only [Act.put, List.setIfInBounds_toArray, List.set_cons_zero, List.set_cons_succ]
                  refine wl_read (v := ?_) (some 79) rfl (by rfl) ?_ ?_
                  rotate_left
                  · go_simp; (try with_reducible rfl)
                  simp only [Act.put, List.setIfInBounds_toArray, List.set_cons_zero, List.set_cons_succ]
                  refine wl_load_at (some 80) rfl (by rfl) 36 (.tmp 79) rfl ⟨b, off + j3 * 6, none⟩ rfl (gnC x) _ HP.out Try.underlying36 rfl (by kernel_rfl) ?_
                  simp only [Act.put, List.setIfInBounds_toArray, List.set_cons_zero, List.set_cons_succ]
                  have HO3 := HO
                  obtain ⟨W3, gW3⟩ : ∃ z, wo3 = z := ⟨_, rfl⟩
                  rw [gW3] at HO3 ⊢
                  clear gW3 HO HP cb gAb
                  refine wl_buildSlice (some 81) rfl (by rfl) 26 36 1 #[(0, .tmp 80)] rfl Try.underlying26 (gnC x).toArray (by kernel_rfl) ?_
                  simp only [Act.put, List.setIfInBounds_toArray, List.set_cons_zero, List.set_cons_succ]
                  have HL4 : RowKit.Hid (RdS (W3.alloc (.cells (gnC x).toArray 36)) (W3.alloc (.cells (gnC x).toArray 36)).heap.size 6 (some ⟨W3.heap.size, 0, none⟩) 1 1 (rowsV gnC [x])) := Lib.hid (by rw [rows_one11]; exact RdS.of_whole (Whole.new_ _ _ _) rfl)
                  have HO4 := Lib.hid (HO3.out.up (below1 W3 (.cells (gnC x).toArray 36)))
                  obtain ⟨W4, gW4⟩ : ∃ z, W3.alloc (.cells (gnC x).toArray 36) = z := ⟨_, rfl⟩
                  obtain ⟨g8, gg8⟩ : ∃ z, W3.heap.size = z := ⟨_, rfl⟩
                  rw [gW4] at HL4 HO4 ⊢
                  rw [gg8] at HL4 ⊢
                  clear gW4 gg8 HO3
                  go_wp2_with (first
                    | (at_builtin
                       refine wpList_push2 rfl (.tmp 75) (.tmp 81) _ rfl _ 36 iG _ 6 48 Try.underlying26 hiG z0iG z1iG z2iG rfl (by decide) _ _ _ rfl HO4.out _ _ _ _ _ rfl HL4.out (rowsV_one11 gnC gnC_one [x]) (by unfold maxLen; omega) (by omega) ?_
                       intro v5 W5 how5 hb5 hgr5
                       obtain ⟨A5, c5, rfl, -⟩ := how5.rds
                       have HO5 := Lib.hid how5
                       clear how5 hb5 hgr5))
                  go_roundw
                  case rel =>
                    refine ⟨j3 + 1, by omega, by omega, by go_num, Lib.hid ?_⟩
                    rw [HNx.out, rowsV_app]
                    exact HO5.out
                  case measure => simp [intOf]; omega
                · obtain ⟨hq1, hq2⟩ := take_all11 HGnl.out hkn hk6 hlt
                  have hq3 := hq1
                  have hq4 := hq2
                  have hO := HO.out
                  rw [hq3] at hO
                  have Hq4_3 := Lib.hid hq4
                  have HOe_3 := Lib.hid hO
                  clear hO hq1 hq2 hq3 hq4 HO
                  go_upto_region 16 with fail
                  go_cut [72] (fun v z => v = .bool false ∧ z = wo3)
                  case first =>
                    by_cases hkn2 : (j3 : Int) < (g : Int)
                    · have hk6b : decide ((j3 : Int) < 410) = false := decide_eq_false (fun q => hlt ⟨by omega, by omega⟩)
                      clear hlt
                      go_wp2
                      go_meet
                      exact ⟨rfl, rfl⟩
                    · have hk6b : decide ((j3 : Int) < (g : Int)) = false := decide_eq_false hkn2
                      clear hlt
                      go_wp2
                      go_meet
                      exact ⟨rfl, rfl⟩
                  case rest =>
                    obtain ⟨rfl, hwc⟩ := hcut
                    replace hwc := hwc.symm
                    subst hwc
                    clear hlt cb hk6 hkn
                    obtain ⟨_, _, he3, hrd3⟩ := HOe_3.out.rds
                    injection he3 with qa3 qb3 qc3
                    subst qa3 qc3
                    have HR_3 := Lib.hid hrd3
                    have HRn_3 : RowKit.Hid (∀ a, Ac3 = some a → 0 < j3 → wo2.heap.size ≤ a.block) := Lib.hid (fun a ha h0 => by
                      subst ha
                      exact (HOe_3.out.own.lt a.block rfl).1)
                    have HX0_4 := Lib.hid (HX0_3.out.below HOe_3.out.below)
                    have HX1_4 := Lib.hid (HX1_3.out.below HOe_3.out.below)
                    have HBW_4 := Lib.hid (bel_bl HBW_3.out HOe_3.out.below)
                    have HSz_3 : RowKit.Hid (wo2.heap.size ≤ wo3.heap.size) := Lib.hid HOe_3.out.below.size
                    have HBl_3 := Lib.hid HOe_3.out.below
                    clear hrd3 HX0_3 HX1_3 HBW_3 HOe_3
                    have hR1 := (HR_1.out.bl HBl_2.out).bl HBl_3.out
                    have hR2 := HR_2.out.bl HBl_3.out
                    have hR3 := HR_3.out
                    have f0 := HX1_4.out.free 0
                    have f1 := HX1_4.out.free 1
                    have f2 := HX1_4.out.free 2
                    have k0 := HX1_4.out.cell (i := 0) rfl
                    have k1 := HX1_4.out.cell (i := 1) rfl
                    have k2 := HX1_4.out.cell (i := 2) rfl
                    have h1n : ∀ a, Ac1 = some a → 0 < j1 → a.block ≠ b1 := fun a ha h0 => by have := HRn_1.out a ha h0; have := Lb1.out; omega
                    have h2n : ∀ a, Ac2 = some a → 0 < j2 → a.block ≠ b1 := fun a ha h0 => by have := HRn_2.out a ha h0; have := Lb1.out; have := HSz_1.out; omega
                    have h3n : ∀ a, Ac3 = some a → 0 < j3 → a.block ≠ b1 := fun a ha h0 => by have := HRn_3.out a ha h0; have := Lb1.out; have := HSz_1.out; have := HSz_2.out; omega
                    have hw1 := ((HX1_4.out.set_ 0 (.slice Ac1 j1 cc1)).set_ 1 (.slice Ac2 j2 cc2)).set_ 2 (.slice Ac3 j3 cc3)
                    have hbel := ((HBW_4.out.setCell (p := ⟨b1, 0, none⟩) Lb1.out.1 (.slice Ac1 j1 cc1)).setCell (p := ⟨b1, 1, none⟩) Lb1.out.1 (.slice Ac2 j2 cc2)).setCell (p := ⟨b1, 2, none⟩) Lb1.out.1 (.slice Ac3 j3 cc3)
                    have hpost : ∃ A' c' B' k' C' g', Ending.returned (.agg #[.slice Ac1 j1 cc1, .slice Ac2 j2 cc2, .slice Ac3 j3 cc3]) = .returned (.agg #[.slice A' nV c', .slice B' nE k', .slice C' nG g']) ∧ DgIn (((wo3.setCell ⟨b1, 0, none⟩ (.slice Ac1 j1 cc1)).setCell ⟨b1, 1, none⟩ (.slice Ac2 j2 cc2)).setCell ⟨b1, 2, none⟩ (.slice Ac3 j3 cc3)) A' nV c' (fewVs Vs) B' nE k' (Es.take 42) ∧ RdS (((wo3.setCell ⟨b1, 0, none⟩ (.slice Ac1 j1 cc1)).setCell ⟨b1, 1, none⟩ (.slice Ac2 j2 cc2)).setCell ⟨b1, 2, none⟩ (.slice Ac3 j3 cc3)) (((wo3.setCell ⟨b1, 0, none⟩ (.slice Ac1 j1 cc1)).setCell ⟨b1, 1, none⟩ (.slice Ac2 j2 cc2)).setCell ⟨b1, 2, none⟩ (.slice Ac3 j3 cc3)).heap.size 6 C' nG g' (rowsV gnC (G.take 410)) ∧ Below w.heap.size w (((wo3.setCell ⟨b1, 0, none⟩ (.slice Ac1 j1 cc1)).setCell ⟨b1, 1, none⟩ (.slice Ac2 j2 cc2)).setCell ⟨b1, 2, none⟩ (.slice Ac3 j3 cc3)) ∧ (∀ a, A' = some a → 0 < nV → w.heap.size ≤ a.block) ∧ (∀ a, B' = some a → 0 < nE → w.heap.size ≤ a.block) ∧ (∀ a, C' = some a → 0 < nG → w.heap.size ≤ a.block) := by
                      rw [← Hq4_1.out.trans GnV.out, ← Hq4_2.out.trans GnE.out, ← Hq4_3.out.trans GnG.out]
                      refine ⟨Ac1, cc1, Ac2, cc2, Ac3, cc3, rfl, ⟨(((hR1.far_ h1n _).far_ h1n _).far_ h1n _).up (Below.refl _ _) (by simp [World.setCell]), (((hR2.far_ h2n _).far_ h2n _).far_ h2n _).up (Below.refl _ _) (by simp [World.setCell]), fun y hy => ?_⟩, (((hR3.far_ h3n _).far_ h3n _).far_ h3n _).up (Below.refl _ _) (by simp [World.setCell]), hbel, fun a ha h0 => by have := HRn_1.out a ha h0; have := Lb1.out; omega, fun a ha h0 => by have := HRn_2.out a ha h0; have := Lb1.out; have := HSz_1.out; omega, fun a ha h0 => by have := HRn_3.out a ha h0; have := Lb1.out; have := HSz_1.out; have := HSz_2.out; omega⟩
                      obtain ⟨z, hz, rfl⟩ := List.mem_map.1 hy
                      exact (RgOk.cut (HRg.out z (List.mem_of_mem_take hz))).below hbel
                    have Hpost := Lib.hid hpost
                    have Hw1 := Lib.hid hw1
                    clear hpost hw1 hbel h1n h2n h3n hR1 hR2 hR3
                    go_wp2
                    exact ret_whole rfl b1 rfl Hw1.out Try.underlying28 rfl (by kernel_rfl) rfl Hpost.out
end Go.Proofs.Ytkhklhipiiehbaa
