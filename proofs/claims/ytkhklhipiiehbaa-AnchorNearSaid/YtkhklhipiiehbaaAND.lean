/- 'AnchorNear' answers true for every state, every name and every dart.
   No condition beyond the row's own. -/
import Derived.Test.YtkhklhipiiehbaaANC
import Derived.ProofKit
import Derived.Below
import Derived.Carry
import Derived.WideKeyArgs
import Derived.OpenShut
import Derived.Deep.Slices
import Derived.Test.YtkhklhipiiehbaaProg
import Derived.KernelRfl
import Derived.Test.YtkhklhipiiehbaaANA
import Derived.Test.YtkhklhipiiehbaaRows

/- AnchorNear. -/
namespace Go.Proofs.Ytkhklhipiiehbaa
open Go.RowKit
set_option linter.unusedSimpArgs false
set_option linter.unusedVariables false

section
variable {W W' w0 : World} {b0 : Nat} {A B C : Option Addr} {n c m k g gc : Nat} {V : List VC} {E : List EC} {G : List Gn} {x1 x2 d1 d2 d3 z1 z2 z3 i1 i2 at_ ix : Int} {rA : Option Addr} {rn rc : Nat} {rL : List D} {lb : ByteArray} {ok : Bool}
theorem StIn.cor_no5 (h : StIn W b0 A n c V B m k E C g gc G) (hv : (fndV V (x1, x2)).2 = false) :
    Calls Try.prog 14 #[.agg #[.slice A n c, .slice B m k, .slice C g gc], .agg #[.int .i64 x1, .int .i64 x2, .int .i64 d1, .int .i64 d2, .int .i64 d3]] W fun e w' => e = .returned (.tuple #[.agg #[.int .i64 0, .int .i64 0, .int .i64 0, .int .i64 0, .int .i64 0], .int .i64 13]) ∧ Below W.heap.size W w' := h.cor_no hv (d1, d2, d3)
theorem StIn.cor_yes5 (h : StIn W b0 A n c V B m k E C g gc G) (hv : (fndV V (x1, x2)).2 = true) (hz : nearC V G g (x1, x2) (d1, d2, d3) = (z1, z2, z3)) :
    Calls Try.prog 14 #[.agg #[.slice A n c, .slice B m k, .slice C g gc], .agg #[.int .i64 x1, .int .i64 x2, .int .i64 d1, .int .i64 d2, .int .i64 d3]] W fun e w' => e = .returned (.tuple #[.agg #[.int .i64 x1, .int .i64 x2, .int .i64 z1, .int .i64 z2, .int .i64 z3], .int .i64 0]) ∧ Below W.heap.size W w' := h.cor_yes hv (d1, d2, d3) hz
theorem StIn.res5 (h : StIn W b0 A n c V B m k E C g gc G) (hz : resG (stV V) G g (d1, d2, d3) = (z1, z2, z3)) :
    Calls Try.prog 10 #[.agg #[.slice A n c, .slice B m k, .slice C g gc], .agg #[.int .i64 d1, .int .i64 d2, .int .i64 d3]] W fun e w' => e = .returned (.agg #[.int .i64 z1, .int .i64 z2, .int .i64 z3]) ∧ Below W.heap.size W w' := h.res (d1, d2, d3) hz
theorem StIn.find5 (h : StIn W b0 A n c V B m k E C g gc G) (hz : findG G (d1, d2, d3) = ((z1, z2, z3), ok)) :
    Calls Try.prog 13 #[.slice C g gc, .agg #[.int .i64 d1, .int .i64 d2, .int .i64 d3]] W fun e w' => e = .returned (.tuple #[.agg #[.int .i64 z1, .int .i64 z2, .int .i64 z3], .bool ok]) ∧ Below W.heap.size W w' := h.find (d1, d2, d3) hz
theorem StIn.rat5 (h : StIn W b0 A n c V B m k E C g gc G) (hz : stV V (d1, d2, d3) = ok) :
    Calls Try.prog 11 #[.agg #[.slice A n c, .slice B m k], .agg #[.int .i64 d1, .int .i64 d2, .int .i64 d3]] W fun e w' => ∃ i1 i2 : Int, e = .returned (.tuple #[.agg #[.int .i64 i1, .int .i64 i2], .bool ok]) ∧ Below W.heap.size W w' := h.rat (d1, d2, d3) hz
theorem StIn.rvert5 (h : StIn W b0 A n c V B m k E C g gc G) (hz : fndV V (x1, x2) = (((i1, i2), (rA, rn, rc, rL), lb, at_), ok)) :
    Calls Try.prog 15 #[.agg #[.slice A n c, .slice B m k], .agg #[.int .i64 x1, .int .i64 x2]] W fun e w' => e = .returned (.tuple #[.agg #[.int .i64 i1, .int .i64 i2, .slice rA rn rc, .string lb, .int .i64 at_], .bool ok]) ∧ Below W.heap.size W w' := h.rvert (x1, x2) hz
theorem StIn.ring5 (h : StIn W b0 A n c V B m k E C g gc G) (hz : fndV V (x1, x2) = (((i1, i2), (rA, rn, rc, rL), lb, at_), ok)) (hi : idxD rL (d1, d2, d3) = ix) :
    Calls Try.prog 16 #[.slice rA rn rc, .agg #[.int .i64 d1, .int .i64 d2, .int .i64 d3]] W fun e w' => e = .returned (.int .i64 ix) ∧ Below W.heap.size W w' := h.ring (x1, x2) hz (d1, d2, d3) hi
end
theorem eq_cor_self (a b c d e : Int) (W : World) : (binOp .eql 34 (.agg #[.int .i64 a, .int .i64 b, .int .i64 c, .int .i64 d, .int .i64 e]) (.agg #[.int .i64 a, .int .i64 b, .int .i64 c, .int .i64 d, .int .i64 e])).run Try.prog W = .ok (.bool true) W := by
  simp [go_sem]
theorem eq_dart_self (a b c : Int) (W : World) : (binOp .eql 32 (.agg #[.int .i64 a, .int .i64 b, .int .i64 c]) (.agg #[.int .i64 a, .int .i64 b, .int .i64 c])).run Try.prog W = .ok (.bool true) W := by
  have e := eq_dart_run (a, b, c) (a, b, c) W
  rw [decide_eq_true rfl] at e
  exact e
theorem eq_id_self (a b : Int) (W : World) : (binOp .eql 30 (.agg #[.int .i64 a, .int .i64 b]) (.agg #[.int .i64 a, .int .i64 b])).run Try.prog W = .ok (.bool true) W :=
  (eq_id a b a b W).trans (by simp)
theorem near_in {V : List VC} {G : List Gn} {g : Nat} {x : Int × Int} {r : VC} (hz : fndV V x = (r, true)) {d : D} (hd : d ∈ r.2.1.2.2.2) : nearC V G g x d = d ∧ resG (stV V) G g d = d := by
  have hr := resG_self (stV V) G g (stV_mem hz hd)
  refine ⟨?_, hr⟩
  unfold nearC
  rw [hz, hr, if_pos hd]
theorem near_off {V : List VC} {G : List Gn} {g : Nat} {x : Int × Int} {r : VC} {ok : Bool} (hz : fndV V x = (r, ok)) {d : D} (hd : ¬ d ∈ r.2.1.2.2.2) (h : stV V d = true ∨ (findG G d).2 = false) : nearC V G g x d = zD := by
  unfold nearC
  rw [hz]
  by_cases hs : stV V d = true
  · rw [resG_self _ _ _ hs, if_neg hd]
  · have hf : ¬ (findG G d).2 = true := by
      rcases h with h | h
      · exact absurd h hs
      · rw [h]; decide
    rw [resG_none _ _ _ hs hf]
    split <;> rfl
theorem near_to {V : List VC} {G : List Gn} {g : Nat} {d tz : D} (hs : stV V d = false) (hf : findG G d = (tz, true)) (hg : G.length = g) (ht : stV V tz = true) : resG (stV V) G g d = tz := by
  have hm := findG_mem (G := G) (d := d) (by rw [hf])
  have hl : 0 < G.length := List.length_pos_of_mem hm
  obtain ⟨p, rfl⟩ : ∃ p, g = p + 1 := ⟨g - 1, by omega⟩
  rw [resG_told _ _ p (by rw [hs]; decide) (by rw [hf]), hf]
  exact resG_self _ _ _ ht
theorem near_same {V : List VC} {G : List Gn} {g : Nat} {x : Int × Int} {d tz : D} (h : resG (stV V) G g d = tz) (ht : stV V tz = true) : nearC V G g x tz = nearC V G g x d := by
  unfold nearC
  rw [h, resG_self _ _ _ ht]
set_option maxRecDepth 100000 in
set_option maxHeartbeats 4000000 in
theorem law_near (A : Option Addr) (n c : Nat) (Vs : List VC) (B : Option Addr) (m k : Nat) (Es : List EC) (C : Option Addr) (g gc : Nat) (G : List Gn) (x1 x2 d1 d2 d3 : Int) (w : World) (h : DgIn w A n c Vs B m k Es) (hg : RdS w w.heap.size 6 C g gc (rowsV gnC G)) (hn : n ≤ maxLen) (hm : m ≤ maxLen) (hgl : g ≤ maxLen) :
    Calls Try.prog 5 #[.agg #[.slice A n c, .slice B m k, .slice C g gc], .agg #[.int .i64 x1, .int .i64 x2], .agg #[.int .i64 d1, .int .i64 d2, .int .i64 d3]] w fun e w' => e = .returned (.bool true) ∧ Below w.heap.size w w' := by
  have H0 := Lib.hid h
  have HG0 := Lib.hid hg
  clear h hg
  go_enter Try.func5, Try.ntmps5
  go_wp2_with fail
  have hx0 : Whole (((w.alloc (.cells #[.slice A n c, .slice B m k, .slice C g gc] 28)).alloc (.cells #[.int .i64 x1, .int .i64 x2] 30)).alloc (.cells #[.int .i64 d1, .int .i64 d2, .int .i64 d3] 32)) (w.heap.size) 28 [.slice A n c, .slice B m k, .slice C g gc] := (((Whole.new_ w 28 [.slice A n c, .slice B m k, .slice C g gc]).alloc (.cells #[.int .i64 x1, .int .i64 x2] 30)).alloc (.cells #[.int .i64 d1, .int .i64 d2, .int .i64 d3] 32))
  have hx1 : Whole (((w.alloc (.cells #[.slice A n c, .slice B m k, .slice C g gc] 28)).alloc (.cells #[.int .i64 x1, .int .i64 x2] 30)).alloc (.cells #[.int .i64 d1, .int .i64 d2, .int .i64 d3] 32)) (w.heap.size + 1) 30 [.int .i64 x1, .int .i64 x2] := ((Whole.new2 (w := (w.alloc (.cells #[.slice A n c, .slice B m k, .slice C g gc] 28))) (by simp)).alloc (.cells #[.int .i64 d1, .int .i64 d2, .int .i64 d3] 32))
  have hx2 : Whole (((w.alloc (.cells #[.slice A n c, .slice B m k, .slice C g gc] 28)).alloc (.cells #[.int .i64 x1, .int .i64 x2] 30)).alloc (.cells #[.int .i64 d1, .int .i64 d2, .int .i64 d3] 32)) (w.heap.size + 1 + 1) 32 [.int .i64 d1, .int .i64 d2, .int .i64 d3] := (Whole.new2 (w := ((w.alloc (.cells #[.slice A n c, .slice B m k, .slice C g gc] 28)).alloc (.cells #[.int .i64 x1, .int .i64 x2] 30))) (by simp))
  have hbl : Below w.heap.size w (((w.alloc (.cells #[.slice A n c, .slice B m k, .slice C g gc] 28)).alloc (.cells #[.int .i64 x1, .int .i64 x2] 30)).alloc (.cells #[.int .i64 d1, .int .i64 d2, .int .i64 d3] 32)) := (bel_al (bel_al (below1 w (.cells #[.slice A n c, .slice B m k, .slice C g gc] 28)) (.cells #[.int .i64 x1, .int .i64 x2] 30)) (.cells #[.int .i64 d1, .int .i64 d2, .int .i64 d3] 32))
  have hsz : w.heap.size + 1 + 1 + 1 ≤ ((((w.alloc (.cells #[.slice A n c, .slice B m k, .slice C g gc] 28)).alloc (.cells #[.int .i64 x1, .int .i64 x2] 30)).alloc (.cells #[.int .i64 d1, .int .i64 d2, .int .i64 d3] 32))).heap.size := by simp
  obtain ⟨W0, gW0⟩ : ∃ z, (((w.alloc (.cells #[.slice A n c, .slice B m k, .slice C g gc] 28)).alloc (.cells #[.int .i64 x1, .int .i64 x2] 30)).alloc (.cells #[.int .i64 d1, .int .i64 d2, .int .i64 d3] 32)) = z := ⟨_, rfl⟩
  rw [gW0] at hx0 hx1 hx2 hbl hsz
  obtain ⟨b2, gb2⟩ : ∃ z, w.heap.size + 1 + 1 = z := ⟨_, rfl⟩
  rw [gb2] at hx2
  obtain ⟨b1, gb1⟩ : ∃ z, w.heap.size + 1 = z := ⟨_, rfl⟩
  rw [gb1] at hx1
  obtain ⟨b0, gb0⟩ : ∃ z, w.heap.size = z := ⟨_, rfl⟩
  rw [gb0] at hx0
  have HX0 := Lib.hid hx0
  have HX1 := Lib.hid hx1
  have HX2 := Lib.hid hx2
  have HB0 := Lib.hid hbl
  have HS0 := Lib.hid hsz
  have Gb0 := Lib.hid gb0
  have Lb0 : RowKit.Hid (w.heap.size ≤ b0) := Lib.hid (by omega)
  have Gb1 := Lib.hid gb1
  have Lb1 : RowKit.Hid (w.heap.size ≤ b1) := Lib.hid (by omega)
  have Gb2 := Lib.hid gb2
  have Lb2 : RowKit.Hid (w.heap.size ≤ b2) := Lib.hid (by omega)
  have N01 : RowKit.Hid (b0 ≠ b1) := Lib.hid (by omega)
  have N02 : RowKit.Hid (b0 ≠ b2) := Lib.hid (by omega)
  have N12 : RowKit.Hid (b1 ≠ b2) := Lib.hid (by omega)
  rw [gW0, gb2, gb1, gb0]
  clear gW0 hbl hsz hx0 hx1 hx2 gb0 gb1 gb2
  refine (shown11_any W0).mono ?_
  rintro e w1 ⟨rfl, hb1⟩
  have HB1 := Lib.hid (bel_bl HB0.out hb1)
  have HY0 := Lib.hid (HX0.out.below hb1)
  have HY1 := Lib.hid (HX1.out.below hb1)
  have HY2 := Lib.hid (HX2.out.below hb1)
  have HS1 : RowKit.Hid (b0 < w1.heap.size) := Lib.hid HY0.out.lt
  have c0 := HY0.out.cell (i := 0) rfl
  have c1 := HY0.out.cell (i := 1) rfl
  have c2 := HY0.out.cell (i := 2) rfl
  clear hb1 HB0 HS0 HX0 HX1 HX2
  go_wp2_with fail
  refine (few11_step H0.out HG0.out hn hm hgl HB1.out Lb0.out HS1.out).mono ?_
  rintro e w2 ⟨A', n', c', B', m', k', C', g', gc', rfl, hd2, hg2, hg410, hb2⟩
  have HB2 := Lib.hid (bel_bl HB1.out hb2)
  have HZ0 := Lib.hid (HY0.out.below hb2)
  have HZ1 := Lib.hid (HY1.out.below hb2)
  have HZ2 := Lib.hid (HY2.out.below hb2)
  have k0 := HZ0.out.cell (i := 0) rfl
  have k1 := HZ0.out.cell (i := 1) rfl
  have k2 := HZ0.out.cell (i := 2) rfl
  have f0 := HZ0.out.free 0
  have f1 := HZ0.out.free 1
  have f2 := HZ0.out.free 2
  have HD2 := Lib.hid hd2
  have HG2 := Lib.hid hg2
  have HV410 := Lib.hid hg410
  clear hb2 hd2 hg2 hg410 c0 c1 c2 HB1 HS1 H0 HG0 HY0 HY1 HY2
  go_wp2_with fail
  have HD3 := Lib.hid (((HD2.out.set 0 (.slice A' n' c')).set 1 (.slice B' m' k')).set 2 (.slice C' g' gc'))
  have HG3 := Lib.hid (((HG2.out.set 0 (.slice A' n' c')).set 1 (.slice B' m' k')).set 2 (.slice C' g' gc'))
  have HQ0 := Lib.hid (((HZ0.out.set_ 0 (.slice A' n' c')).set_ 1 (.slice B' m' k')).set_ 2 (.slice C' g' gc'))
  have HQ1 := Lib.hid (((HZ1.out.set_far' (i := 0) (fun e => N01.out e.symm) (.slice A' n' c')).set_far' (i := 1) (fun e => N01.out e.symm) (.slice B' m' k')).set_far' (i := 2) (fun e => N01.out e.symm) (.slice C' g' gc'))
  have HQ2 := Lib.hid (((HZ2.out.set_far' (i := 0) (fun e => N02.out e.symm) (.slice A' n' c')).set_far' (i := 1) (fun e => N02.out e.symm) (.slice B' m' k')).set_far' (i := 2) (fun e => N02.out e.symm) (.slice C' g' gc'))
  have HB3 := Lib.hid (((HB2.out.setCell (p := ⟨b0, 0, none⟩) Lb0.out (.slice A' n' c')).setCell (p := ⟨b0, 1, none⟩) Lb0.out (.slice B' m' k')).setCell (p := ⟨b0, 2, none⟩) Lb0.out (.slice C' g' gc'))
  obtain ⟨W3, gW3⟩ : ∃ z, (((w2.setCell ⟨b0, 0, none⟩ (.slice A' n' c')).setCell ⟨b0, 1, none⟩ (.slice B' m' k')).setCell ⟨b0, 2, none⟩ (.slice C' g' gc')) = z := ⟨_, rfl⟩
  rw [gW3] at HD3 HG3 HB3 HQ0 HQ1 HQ2 ⊢
  clear gW3 k0 k1 k2 f0 f1 f2 HD2 HG2 HB2 HZ0 HZ1 HZ2
  refine (rising_step HG3.out HV410.out HQ0.out.lt).mono ?_
  rintro e w4 ⟨C2, g2, gc2, rfl, hg4, hg5, hl4, hb4⟩
  have HB4 := Lib.hid (bel_bl HB3.out hb4)
  have HD4 := Lib.hid (HD3.out.below hb4)
  have HR0 := Lib.hid (HQ0.out.below hb4)
  have HR1 := Lib.hid (HQ1.out.below hb4)
  have HR2 := Lib.hid (HQ2.out.below hb4)
  have HG4 := Lib.hid hg4
  have m2 := HR0.out.cell (i := 2) rfl
  have fm2 := HR0.out.free 2
  have Hl4 := Lib.hid hl4
  have Hg5 := Lib.hid hg5
  clear hb4 hg4 hg5 hl4 HD3 HG3 HB3 HV410 HQ0 HQ1 HQ2
  go_upto_if 30 with fail
  have HD5 := Lib.hid (HD4.out.set 2 (.slice C2 g2 gc2))
  have HG5 := Lib.hid (HG4.out.set 2 (.slice C2 g2 gc2))
  have HT0 := Lib.hid (HR0.out.set_ 2 (.slice C2 g2 gc2))
  have HT1 := Lib.hid (HR1.out.set_far' (i := 2) (fun e => N01.out e.symm) (.slice C2 g2 gc2))
  have HT2 := Lib.hid (HR2.out.set_far' (i := 2) (fun e => N02.out e.symm) (.slice C2 g2 gc2))
  have HB5 := Lib.hid (HB4.out.setCell (p := ⟨b0, 2, none⟩) Lb0.out (.slice C2 g2 gc2))
  obtain ⟨W5, gW5⟩ : ∃ z, (w4.setCell ⟨b0, 2, none⟩ (.slice C2 g2 gc2)) = z := ⟨_, rfl⟩
  rw [gW5] at HD5 HG5 HB5 HT0 HT1 HT2 ⊢
  clear gW5 m2 fm2 HD4 HG4 HB4 HR0 HR1 HR2
  go_cut [] (fun z => ∃ g3, StIn z b0 A' n' c' (fewVs Vs) B' m' k' (Es.take 42) C2 g3 gc2 ((risG (G.take 410)).take 390) ∧ Below w.heap.size w z ∧ Whole z b1 30 [.int .i64 x1, .int .i64 x2] ∧ Whole z b2 32 [.int .i64 d1, .int .i64 d2, .int .i64 d3])
  case first =>
    have e2 := HT0.out.cell (i := 2) rfl
    have fe2 := HT0.out.free 2
    by_cases h390 : 390 < g2
    · have q1 : decide ((390 : Int) < (g2 : Int)) = true := decide_eq_true (by omega)
      have q3 : decide (390 < g2) = true := decide_eq_true h390
      have q2 : 390 ≤ gc2 := by have := HG5.out.gn.le; omega
      have HD6 := Lib.hid (HD5.out.set 2 (.slice C2 390 gc2))
      have HG6 := Lib.hid ((HG5.out.take 390 (by omega)).set 2 (.slice C2 390 gc2))
      have HT6 := Lib.hid (HT0.out.set_ 2 (.slice C2 390 gc2))
      have HB6 := Lib.hid (HB5.out.setCell (p := ⟨b0, 2, none⟩) Lb0.out (.slice C2 390 gc2))
      have HT6_1 := Lib.hid (HT1.out.set_far' (i := 2) (fun e => N01.out e.symm) (.slice C2 390 gc2))
      have HT6_2 := Lib.hid (HT2.out.set_far' (i := 2) (fun e => N02.out e.symm) (.slice C2 390 gc2))
      clear HD5 HG5 HB5 HT0 HT1 HT2
      go_wp2_with fail
      go_meet
      exact ⟨390, ⟨HD6.out.dg, HG6.out.gn, HT6.out, HD6.out.n26, HD6.out.r82, Nat.le_refl _⟩, HB6.out, HT6_1.out, HT6_2.out⟩
    · have q1 : decide ((390 : Int) < (g2 : Int)) = false := decide_eq_false (by omega)
      have q3 : decide (390 < g2) = false := decide_eq_false h390
      have HN : RowKit.Hid (g2 ≤ 390) := Lib.hid (by omega)
      go_wp2_with fail
      go_meet
      exact ⟨g2, ⟨HD5.out.dg, by rw [List.take_of_length_le (by rw [Hl4.out]; exact HN.out)]; exact HG5.out.gn, HT0.out, HD5.out.n26, HD5.out.r82, HN.out⟩, HB5.out, HT1.out, HT2.out⟩
  case rest =>
    clear HD5 HG5 HB5 Hl4 Hg5 HT0 HT1 HT2
    obtain ⟨g3, hS, hB, hX1, hX2⟩ := hcut
    obtain ⟨V, gV⟩ : ∃ z, fewVs Vs = z := ⟨_, rfl⟩
    obtain ⟨E, gE⟩ : ∃ z, Es.take 42 = z := ⟨_, rfl⟩
    obtain ⟨GG, gGG⟩ : ∃ z, (risG (G.take 410)).take 390 = z := ⟨_, rfl⟩
    rw [gV, gE, gGG] at hS
    have HS := Lib.hid hS
    have HB := Lib.hid hB
    have HX1 := Lib.hid hX1
    have HX2 := Lib.hid hX2
    clear hS hB gV gE gGG hX1 hX2
    obtain ⟨⟨⟨⟨i1, i2⟩, ⟨rA, rn, rc, rL⟩, lb, at_⟩, ok⟩, gr⟩ : ∃ z, fndV V (x1, x2) = z := ⟨_, rfl⟩
    have Hgr := Lib.hid gr
    have HLn := Lib.hid HS.out.len
    clear gr
    cases ok with
    | false =>
      have s0 := HS.out.box.cell (i := 0) rfl
      have s1 := HS.out.box.cell (i := 1) rfl
      have s2 := HS.out.box.cell (i := 2) rfl
      have cHX10 := HX1.out.cell (i := 0) rfl
      have cHX11 := HX1.out.cell (i := 1) rfl
      have cHX20 := HX2.out.cell (i := 0) rfl
      have cHX21 := HX2.out.cell (i := 1) rfl
      have cHX22 := HX2.out.cell (i := 2) rfl
      go_wp2_with fail
      clear s0 s1 s2 cHX10 cHX11 cHX20 cHX21 cHX22
      refine (HS.out.cor_no5 (congrArg Prod.snd Hgr.out)).mono ?_
      rintro e w1_x ⟨rfl, hb1_x⟩
      have HS_1 := Lib.hid ((HS.out.below hb1_x).below (below1 w1_x (.cells #[.int .i64 0, .int .i64 0, .int .i64 0, .int .i64 0, .int .i64 0] 34)))
      have HB_1 := Lib.hid (bel_al (bel_bl HB.out hb1_x) (.cells #[.int .i64 0, .int .i64 0, .int .i64 0, .int .i64 0, .int .i64 0] 34))
      have HX1_1 := Lib.hid ((HX1.out.below hb1_x).below (below1 w1_x (.cells #[.int .i64 0, .int .i64 0, .int .i64 0, .int .i64 0, .int .i64 0] 34)))
      have HX2_1 := Lib.hid ((HX2.out.below hb1_x).below (below1 w1_x (.cells #[.int .i64 0, .int .i64 0, .int .i64 0, .int .i64 0, .int .i64 0] 34)))
      have HC_1 : RowKit.Hid (Whole (w1_x.alloc (.cells #[.int .i64 0, .int .i64 0, .int .i64 0, .int .i64 0, .int .i64 0] 34)) w1_x.heap.size 34 [.int .i64 0, .int .i64 0, .int .i64 0, .int .i64 0, .int .i64 0]) := Lib.hid (Whole.new_ _ _ _)
      clear hb1_x HS HB HX1 HX2
      have s0 := HS_1.out.box.cell (i := 0) rfl
      have s1 := HS_1.out.box.cell (i := 1) rfl
      have s2 := HS_1.out.box.cell (i := 2) rfl
      have cHX10 := HX1_1.out.cell (i := 0) rfl
      have cHX11 := HX1_1.out.cell (i := 1) rfl
      have cHX20 := HX2_1.out.cell (i := 0) rfl
      have cHX21 := HX2_1.out.cell (i := 1) rfl
      have cHX22 := HX2_1.out.cell (i := 2) rfl
      have cHC0 := HC_1.out.cell (i := 0) rfl
      have cHC1 := HC_1.out.cell (i := 1) rfl
      have cHC2 := HC_1.out.cell (i := 2) rfl
      have cHC3 := HC_1.out.cell (i := 3) rfl
      have cHC4 := HC_1.out.cell (i := 4) rfl
      go_wp2_with fail
      clear s0 s1 s2 cHX10 cHX11 cHX20 cHX21 cHX22 cHC0 cHC1 cHC2 cHC3 cHC4
      refine (HS_1.out.rvert5 Hgr.out).mono ?_
      rintro e w2_x ⟨rfl, hb2_x⟩
      have HS_2 := Lib.hid ((HS_1.out.below hb2_x).below (below1 w2_x (.cells #[.int .i64 i1, .int .i64 i2, .slice rA rn rc, .string lb, .int .i64 at_] 53)))
      have HB_2 := Lib.hid (bel_al (bel_bl HB_1.out hb2_x) (.cells #[.int .i64 i1, .int .i64 i2, .slice rA rn rc, .string lb, .int .i64 at_] 53))
      have HX1_2 := Lib.hid ((HX1_1.out.below hb2_x).below (below1 w2_x (.cells #[.int .i64 i1, .int .i64 i2, .slice rA rn rc, .string lb, .int .i64 at_] 53)))
      have HX2_2 := Lib.hid ((HX2_1.out.below hb2_x).below (below1 w2_x (.cells #[.int .i64 i1, .int .i64 i2, .slice rA rn rc, .string lb, .int .i64 at_] 53)))
      have HC_2 := Lib.hid ((HC_1.out.below hb2_x).below (below1 w2_x (.cells #[.int .i64 i1, .int .i64 i2, .slice rA rn rc, .string lb, .int .i64 at_] 53)))
      have HV_2 : RowKit.Hid (Whole (w2_x.alloc (.cells #[.int .i64 i1, .int .i64 i2, .slice rA rn rc, .string lb, .int .i64 at_] 53)) w2_x.heap.size 53 [.int .i64 i1, .int .i64 i2, .slice rA rn rc, .string lb, .int .i64 at_]) := Lib.hid (Whole.new_ _ _ _)
      clear hb2_x HS_1 HB_1 HX1_1 HX2_1 HC_1
      have s0 := HS_2.out.box.cell (i := 0) rfl
      have s1 := HS_2.out.box.cell (i := 1) rfl
      have s2 := HS_2.out.box.cell (i := 2) rfl
      have cHX10 := HX1_2.out.cell (i := 0) rfl
      have cHX11 := HX1_2.out.cell (i := 1) rfl
      have cHX20 := HX2_2.out.cell (i := 0) rfl
      have cHX21 := HX2_2.out.cell (i := 1) rfl
      have cHX22 := HX2_2.out.cell (i := 2) rfl
      have cHC0 := HC_2.out.cell (i := 0) rfl
      have cHC1 := HC_2.out.cell (i := 1) rfl
      have cHC2 := HC_2.out.cell (i := 2) rfl
      have cHC3 := HC_2.out.cell (i := 3) rfl
      have cHC4 := HC_2.out.cell (i := 4) rfl
      have cHV0 := HV_2.out.cell (i := 0) rfl
      have cHV1 := HV_2.out.cell (i := 1) rfl
      have cHV2 := HV_2.out.cell (i := 2) rfl
      have cHV3 := HV_2.out.cell (i := 3) rfl
      have cHV4 := HV_2.out.cell (i := 4) rfl
      go_wp2
      clear s0 s1 s2 cHX10 cHX11 cHX20 cHX21 cHX22 cHC0 cHC1 cHC2 cHC3 cHC4 cHV0 cHV1 cHV2 cHV3 cHV4
      go_ret
      exact ⟨rfl, HB_2.out⟩
    | true =>
      obtain ⟨ix, gix⟩ : ∃ z, idxD rL (d1, d2, d3) = z := ⟨_, rfl⟩
      have Hix := Lib.hid gix
      have hid : idxD rL (d1, d2, d3) = if (d1, d2, d3) ∈ rL then (rL.idxOf (d1, d2, d3) : Int) else -1 := rfl
      rw [gix] at hid
      clear gix
      by_cases hd : (d1, d2, d3) ∈ rL
      · rw [if_pos hd] at hid
        have hq : decide (0 ≤ ix) = true := decide_eq_true (by omega)
        have hnr := near_in (G := GG) (g := g3) Hgr.out hd
        have Hnr := Lib.hid hnr.1
        have Hrs := Lib.hid hnr.2
        clear hid hd hnr
        have s0 := HS.out.box.cell (i := 0) rfl
        have s1 := HS.out.box.cell (i := 1) rfl
        have s2 := HS.out.box.cell (i := 2) rfl
        have cHX10 := HX1.out.cell (i := 0) rfl
        have cHX11 := HX1.out.cell (i := 1) rfl
        have cHX20 := HX2.out.cell (i := 0) rfl
        have cHX21 := HX2.out.cell (i := 1) rfl
        have cHX22 := HX2.out.cell (i := 2) rfl
        go_wp2_with fail
        clear s0 s1 s2 cHX10 cHX11 cHX20 cHX21 cHX22
        refine (HS.out.cor_yes5 (congrArg Prod.snd Hgr.out) Hnr.out).mono ?_
        rintro e w1_x ⟨rfl, hb1_x⟩
        have HS_1 := Lib.hid ((HS.out.below hb1_x).below (below1 w1_x (.cells #[.int .i64 x1, .int .i64 x2, .int .i64 d1, .int .i64 d2, .int .i64 d3] 34)))
        have HB_1 := Lib.hid (bel_al (bel_bl HB.out hb1_x) (.cells #[.int .i64 x1, .int .i64 x2, .int .i64 d1, .int .i64 d2, .int .i64 d3] 34))
        have HX1_1 := Lib.hid ((HX1.out.below hb1_x).below (below1 w1_x (.cells #[.int .i64 x1, .int .i64 x2, .int .i64 d1, .int .i64 d2, .int .i64 d3] 34)))
        have HX2_1 := Lib.hid ((HX2.out.below hb1_x).below (below1 w1_x (.cells #[.int .i64 x1, .int .i64 x2, .int .i64 d1, .int .i64 d2, .int .i64 d3] 34)))
        have HC_1 : RowKit.Hid (Whole (w1_x.alloc (.cells #[.int .i64 x1, .int .i64 x2, .int .i64 d1, .int .i64 d2, .int .i64 d3] 34)) w1_x.heap.size 34 [.int .i64 x1, .int .i64 x2, .int .i64 d1, .int .i64 d2, .int .i64 d3]) := Lib.hid (Whole.new_ _ _ _)
        clear hb1_x HS HB HX1 HX2
        have s0 := HS_1.out.box.cell (i := 0) rfl
        have s1 := HS_1.out.box.cell (i := 1) rfl
        have s2 := HS_1.out.box.cell (i := 2) rfl
        have cHX10 := HX1_1.out.cell (i := 0) rfl
        have cHX11 := HX1_1.out.cell (i := 1) rfl
        have cHX20 := HX2_1.out.cell (i := 0) rfl
        have cHX21 := HX2_1.out.cell (i := 1) rfl
        have cHX22 := HX2_1.out.cell (i := 2) rfl
        have cHC0 := HC_1.out.cell (i := 0) rfl
        have cHC1 := HC_1.out.cell (i := 1) rfl
        have cHC2 := HC_1.out.cell (i := 2) rfl
        have cHC3 := HC_1.out.cell (i := 3) rfl
        have cHC4 := HC_1.out.cell (i := 4) rfl
        go_wp2_with fail
        clear s0 s1 s2 cHX10 cHX11 cHX20 cHX21 cHX22 cHC0 cHC1 cHC2 cHC3 cHC4
        refine (HS_1.out.rvert5 Hgr.out).mono ?_
        rintro e w2_x ⟨rfl, hb2_x⟩
        have HS_2 := Lib.hid ((HS_1.out.below hb2_x).below (below1 w2_x (.cells #[.int .i64 i1, .int .i64 i2, .slice rA rn rc, .string lb, .int .i64 at_] 53)))
        have HB_2 := Lib.hid (bel_al (bel_bl HB_1.out hb2_x) (.cells #[.int .i64 i1, .int .i64 i2, .slice rA rn rc, .string lb, .int .i64 at_] 53))
        have HX1_2 := Lib.hid ((HX1_1.out.below hb2_x).below (below1 w2_x (.cells #[.int .i64 i1, .int .i64 i2, .slice rA rn rc, .string lb, .int .i64 at_] 53)))
        have HX2_2 := Lib.hid ((HX2_1.out.below hb2_x).below (below1 w2_x (.cells #[.int .i64 i1, .int .i64 i2, .slice rA rn rc, .string lb, .int .i64 at_] 53)))
        have HC_2 := Lib.hid ((HC_1.out.below hb2_x).below (below1 w2_x (.cells #[.int .i64 i1, .int .i64 i2, .slice rA rn rc, .string lb, .int .i64 at_] 53)))
        have HV_2 : RowKit.Hid (Whole (w2_x.alloc (.cells #[.int .i64 i1, .int .i64 i2, .slice rA rn rc, .string lb, .int .i64 at_] 53)) w2_x.heap.size 53 [.int .i64 i1, .int .i64 i2, .slice rA rn rc, .string lb, .int .i64 at_]) := Lib.hid (Whole.new_ _ _ _)
        clear hb2_x HS_1 HB_1 HX1_1 HX2_1 HC_1
        have s0 := HS_2.out.box.cell (i := 0) rfl
        have s1 := HS_2.out.box.cell (i := 1) rfl
        have s2 := HS_2.out.box.cell (i := 2) rfl
        have cHX10 := HX1_2.out.cell (i := 0) rfl
        have cHX11 := HX1_2.out.cell (i := 1) rfl
        have cHX20 := HX2_2.out.cell (i := 0) rfl
        have cHX21 := HX2_2.out.cell (i := 1) rfl
        have cHX22 := HX2_2.out.cell (i := 2) rfl
        have cHC0 := HC_2.out.cell (i := 0) rfl
        have cHC1 := HC_2.out.cell (i := 1) rfl
        have cHC2 := HC_2.out.cell (i := 2) rfl
        have cHC3 := HC_2.out.cell (i := 3) rfl
        have cHC4 := HC_2.out.cell (i := 4) rfl
        have cHV0 := HV_2.out.cell (i := 0) rfl
        have cHV1 := HV_2.out.cell (i := 1) rfl
        have cHV2 := HV_2.out.cell (i := 2) rfl
        have cHV3 := HV_2.out.cell (i := 3) rfl
        have cHV4 := HV_2.out.cell (i := 4) rfl
        go_wp2_with fail
        clear s0 s1 s2 cHX10 cHX11 cHX20 cHX21 cHX22 cHC0 cHC1 cHC2 cHC3 cHC4 cHV0 cHV1 cHV2 cHV3 cHV4
        refine (HS_2.out.ring5 Hgr.out Hix.out).mono ?_
        rintro e w3_x ⟨rfl, hb3_x⟩
        have HS_3 := Lib.hid (HS_2.out.below hb3_x)
        have HB_3 := Lib.hid (bel_bl HB_2.out hb3_x)
        have HX1_3 := Lib.hid (HX1_2.out.below hb3_x)
        have HX2_3 := Lib.hid (HX2_2.out.below hb3_x)
        have HC_3 := Lib.hid (HC_2.out.below hb3_x)
        have HV_3 := Lib.hid (HV_2.out.below hb3_x)
        clear hb3_x HS_2 HB_2 HX1_2 HX2_2 HC_2 HV_2
        go_upto_region 11 with fail
        obtain ⟨Wd, gWd⟩ : ∃ z, w3_x = z := ⟨_, rfl⟩
        rw [gWd] at HS_3 HB_3 HX1_3 HX2_3 HC_3 HV_3 ⊢
        clear gWd
        have ls0 : ∀ w', Kept Nil_ Wd.drew w' → w'.cell? ⟨b0, 0, none⟩ = some (.slice A' n' c') := fun w' h => h.nil_cell (HS_3.out.box.dr.cell (i := 0) rfl)
        have ls1 : ∀ w', Kept Nil_ Wd.drew w' → w'.cell? ⟨b0, 1, none⟩ = some (.slice B' m' k') := fun w' h => h.nil_cell (HS_3.out.box.dr.cell (i := 1) rfl)
        have ls2 : ∀ w', Kept Nil_ Wd.drew w' → w'.cell? ⟨b0, 2, none⟩ = some (.slice C2 g3 gc2) := fun w' h => h.nil_cell (HS_3.out.box.dr.cell (i := 2) rfl)
        have lHX10 : ∀ w', Kept Nil_ Wd.drew w' → w'.cell? ⟨b1, 0, none⟩ = some (.int .i64 x1) := fun w' h => h.nil_cell (HX1_3.out.dr.cell (i := 0) rfl)
        have lHX11 : ∀ w', Kept Nil_ Wd.drew w' → w'.cell? ⟨b1, 1, none⟩ = some (.int .i64 x2) := fun w' h => h.nil_cell (HX1_3.out.dr.cell (i := 1) rfl)
        have lHX20 : ∀ w', Kept Nil_ Wd.drew w' → w'.cell? ⟨b2, 0, none⟩ = some (.int .i64 d1) := fun w' h => h.nil_cell (HX2_3.out.dr.cell (i := 0) rfl)
        have lHX21 : ∀ w', Kept Nil_ Wd.drew w' → w'.cell? ⟨b2, 1, none⟩ = some (.int .i64 d2) := fun w' h => h.nil_cell (HX2_3.out.dr.cell (i := 1) rfl)
        have lHX22 : ∀ w', Kept Nil_ Wd.drew w' → w'.cell? ⟨b2, 2, none⟩ = some (.int .i64 d3) := fun w' h => h.nil_cell (HX2_3.out.dr.cell (i := 2) rfl)
        have lHC0 : ∀ w', Kept Nil_ Wd.drew w' → w'.cell? ⟨w1_x.heap.size, 0, none⟩ = some (.int .i64 x1) := fun w' h => h.nil_cell (HC_3.out.dr.cell (i := 0) rfl)
        have lHC1 : ∀ w', Kept Nil_ Wd.drew w' → w'.cell? ⟨w1_x.heap.size, 1, none⟩ = some (.int .i64 x2) := fun w' h => h.nil_cell (HC_3.out.dr.cell (i := 1) rfl)
        have lHC2 : ∀ w', Kept Nil_ Wd.drew w' → w'.cell? ⟨w1_x.heap.size, 2, none⟩ = some (.int .i64 d1) := fun w' h => h.nil_cell (HC_3.out.dr.cell (i := 2) rfl)
        have lHC3 : ∀ w', Kept Nil_ Wd.drew w' → w'.cell? ⟨w1_x.heap.size, 3, none⟩ = some (.int .i64 d2) := fun w' h => h.nil_cell (HC_3.out.dr.cell (i := 3) rfl)
        have lHC4 : ∀ w', Kept Nil_ Wd.drew w' → w'.cell? ⟨w1_x.heap.size, 4, none⟩ = some (.int .i64 d3) := fun w' h => h.nil_cell (HC_3.out.dr.cell (i := 4) rfl)
        have lHV0 : ∀ w', Kept Nil_ Wd.drew w' → w'.cell? ⟨w2_x.heap.size, 0, none⟩ = some (.int .i64 i1) := fun w' h => h.nil_cell (HV_3.out.dr.cell (i := 0) rfl)
        have lHV1 : ∀ w', Kept Nil_ Wd.drew w' → w'.cell? ⟨w2_x.heap.size, 1, none⟩ = some (.int .i64 i2) := fun w' h => h.nil_cell (HV_3.out.dr.cell (i := 1) rfl)
        have lHV2 : ∀ w', Kept Nil_ Wd.drew w' → w'.cell? ⟨w2_x.heap.size, 2, none⟩ = some (.slice rA rn rc) := fun w' h => h.nil_cell (HV_3.out.dr.cell (i := 2) rfl)
        have lHV3 : ∀ w', Kept Nil_ Wd.drew w' → w'.cell? ⟨w2_x.heap.size, 3, none⟩ = some (.string lb) := fun w' h => h.nil_cell (HV_3.out.dr.cell (i := 3) rfl)
        have lHV4 : ∀ w', Kept Nil_ Wd.drew w' → w'.cell? ⟨w2_x.heap.size, 4, none⟩ = some (.int .i64 at_) := fun w' h => h.nil_cell (HV_3.out.dr.cell (i := 4) rfl)
        have HKb : RowKit.Hid (∀ w', Kept Nil_ Wd.drew w' → Below Wd.heap.size Wd w') := Lib.hid (fun w' h => bel_bl (bel_dr (Below.refl _ _)) (h.below (Nat.le_refl _) (fun _ _ h => h)))
        have heqD := eq_dart_self d1 d2 d3
        refine wp_region_reg (Nil_) (by kernel_rfl) ?_
        apply wpR_next 0 (some 62)
        · simp only [List.getElem?_toArray, List.getElem?_cons_succ, List.getElem?_cons_zero]; exact rfl
        · rfl
        · kernel_rfl
        · kernel_rfl
        · kernel_rfl
        · exact fun _ _ _ _ h => h
        apply Exists.intro
        apply And.intro
        · apply yr_run; rfl; intro w' hw'; go_simp; (try with_reducible rfl)
        simp only [Act.put, List.setIfInBounds_toArray, List.set_cons_zero, List.set_cons_succ]
        apply wpR_next 1 (some 63)
        · simp only [List.getElem?_toArray, List.getElem?_cons_succ, List.getElem?_cons_zero]; exact rfl
        · rfl
        · kernel_rfl
        · kernel_rfl
        · kernel_rfl
        · exact fun _ _ _ _ h => h
        apply Exists.intro
        apply And.intro
        · apply yr_run; rfl; intro w' hw'; go_simp; (try with_reducible rfl)
        simp only [Act.put, List.setIfInBounds_toArray, List.set_cons_zero, List.set_cons_succ]
        apply wpR_next 2 (some 64)
        · simp only [List.getElem?_toArray, List.getElem?_cons_succ, List.getElem?_cons_zero]; exact rfl
        · rfl
        · kernel_rfl
        · kernel_rfl
        · kernel_rfl
        · exact fun _ _ _ _ h => h
        apply Exists.intro
        apply And.intro
        · apply yr_run; rfl; intro w' hw'; go_simp; (try with_reducible rfl)
        simp only [Act.put, List.setIfInBounds_toArray, List.set_cons_zero, List.set_cons_succ]
        apply wpR_next 3 (some 65)
        · simp only [List.getElem?_toArray, List.getElem?_cons_succ, List.getElem?_cons_zero]; exact rfl
        · rfl
        · kernel_rfl
        · kernel_rfl
        · kernel_rfl
        · exact fun _ _ _ _ h => h
        apply Exists.intro
        apply And.intro
        · apply yr_run; rfl; intro w' hw'; go_simp; (try with_reducible rfl)
        simp only [Act.put, List.setIfInBounds_toArray, List.set_cons_zero, List.set_cons_succ]
        apply wpR_next 4 (some 66)
        · simp only [List.getElem?_toArray, List.getElem?_cons_succ, List.getElem?_cons_zero]; exact rfl
        · rfl
        · kernel_rfl
        · kernel_rfl
        · kernel_rfl
        · exact fun _ _ _ _ h => h
        apply Exists.intro
        apply And.intro
        · apply yr_run; rfl; intro w' hw'; go_simp; (try with_reducible rfl)
        simp only [Act.put, List.setIfInBounds_toArray, List.set_cons_zero, List.set_cons_succ]
        apply wpR_next 5 (some 67)
        · simp only [List.getElem?_toArray, List.getElem?_cons_succ, List.getElem?_cons_zero]; exact rfl
        · rfl
        · kernel_rfl
        · kernel_rfl
        · kernel_rfl
        · exact fun _ _ _ _ h => h
        apply Exists.intro
        apply And.intro
        · apply yr_run; rfl; intro w' hw'; go_simp; (try with_reducible rfl)
        simp only [Act.put, List.setIfInBounds_toArray, List.set_cons_zero, List.set_cons_succ]
        apply wpR_next 6 (some 68)
        · simp only [List.getElem?_toArray, List.getElem?_cons_succ, List.getElem?_cons_zero]; exact rfl
        · rfl
        · kernel_rfl
        · kernel_rfl
        · kernel_rfl
        · exact fun _ _ _ _ h => h
        apply Exists.intro
        apply And.intro
        · apply yr_run; rfl; intro w' hw'; go_simp; (try with_reducible rfl)
        simp only [Act.put, List.setIfInBounds_toArray, List.set_cons_zero, List.set_cons_succ]
        apply wpR_next 7 (some 69)
        · simp only [List.getElem?_toArray, List.getElem?_cons_succ, List.getElem?_cons_zero]; exact rfl
        · rfl
        · kernel_rfl
        · kernel_rfl
        · kernel_rfl
        · exact fun _ _ _ _ h => h
        apply Exists.intro
        apply And.intro
        · apply yr_run; rfl; intro w' hw'; go_simp; (try with_reducible rfl)
        simp only [Act.put, List.setIfInBounds_toArray, List.set_cons_zero, List.set_cons_succ]
        apply wpR_next 8 (some 70)
        · simp only [List.getElem?_toArray, List.getElem?_cons_succ, List.getElem?_cons_zero]; exact rfl
        · rfl
        · kernel_rfl
        · kernel_rfl
        · kernel_rfl
        · exact fun _ _ _ _ h => h
        apply Exists.intro
        apply And.intro
        · apply yr_run; rfl; intro w' hw'; go_simp; (try with_reducible rfl)
        simp only [Act.put, List.setIfInBounds_toArray, List.set_cons_zero, List.set_cons_succ]
        apply wpR_next 9 (some 71)
        · simp only [List.getElem?_toArray, List.getElem?_cons_succ, List.getElem?_cons_zero]; exact rfl
        · rfl
        · kernel_rfl
        · kernel_rfl
        · kernel_rfl
        · exact fun _ _ _ _ h => h
        apply Exists.intro
        apply And.intro
        · exact yr_run (by rfl) (fun w' hw' => exec_binop_agg .eql 32 (.tmp 69) (.tmp 70) 32 rfl rfl rfl (by kernel_rfl) (heqD w'))
        simp only [Act.put, List.setIfInBounds_toArray, List.set_cons_zero, List.set_cons_succ]
        apply wpR_next 10 (some 72)
        · simp only [List.getElem?_toArray, List.getElem?_cons_succ, List.getElem?_cons_zero]; exact rfl
        · rfl
        · kernel_rfl
        · kernel_rfl
        · kernel_rfl
        · exact fun _ _ _ _ h => h
        apply Exists.intro
        apply And.intro
        · apply yr_run; rfl; intro w' hw'; go_simp; (try with_reducible rfl)
        simp only [Act.put, List.setIfInBounds_toArray, List.set_cons_zero, List.set_cons_succ]
        apply wpR_next 11 (some 73)
        · simp only [List.getElem?_toArray, List.getElem?_cons_succ, List.getElem?_cons_zero]; exact rfl
        · rfl
        · kernel_rfl
        · kernel_rfl
        · kernel_rfl
        · exact fun _ _ _ _ h => h
        apply Exists.intro
        apply And.intro
        · apply yr_run; rfl; intro w' hw'; go_simp; (try with_reducible rfl)
        simp only [Act.put, List.setIfInBounds_toArray, List.set_cons_zero, List.set_cons_succ]
        apply wpR_next 12 (some 74)
        · simp only [List.getElem?_toArray, List.getElem?_cons_succ, List.getElem?_cons_zero]; exact rfl
        · rfl
        · kernel_rfl
        · kernel_rfl
        · kernel_rfl
        · exact fun _ _ _ _ h => h
        apply Exists.intro
        apply And.intro
        · apply yr_run; rfl; intro w' hw'; go_simp; (try with_reducible rfl)
        simp only [Act.put, List.setIfInBounds_toArray, List.set_cons_zero, List.set_cons_succ]
        apply wpR_next 13 (some 75)
        · simp only [List.getElem?_toArray, List.getElem?_cons_succ, List.getElem?_cons_zero]; exact rfl
        · rfl
        · kernel_rfl
        · kernel_rfl
        · kernel_rfl
        · exact fun _ _ _ _ h => h
        apply Exists.intro
        apply And.intro
        · apply yr_run; rfl; intro w' hw'; go_simp; (try with_reducible rfl)
        simp only [Act.put, List.setIfInBounds_toArray, List.set_cons_zero, List.set_cons_succ]
        apply wpR_next 14 (some 76)
        · simp only [List.getElem?_toArray, List.getElem?_cons_succ, List.getElem?_cons_zero]; exact rfl
        · rfl
        · kernel_rfl
        · kernel_rfl
        · kernel_rfl
        · exact fun _ _ _ _ h => h
        apply Exists.intro
        apply And.intro
        · apply yr_call; rfl; rotate_left; intro w' hw'; exact (HS_3.out.below (HKb.out w' hw')).res5 Hrs.out; intro w'; go_simp
        simp only [Act.put, List.setIfInBounds_toArray, List.set_cons_zero, List.set_cons_succ]
        apply wpR_next 15 (some 77)
        · simp only [List.getElem?_toArray, List.getElem?_cons_succ, List.getElem?_cons_zero]; exact rfl
        · rfl
        · kernel_rfl
        · kernel_rfl
        · kernel_rfl
        · exact fun _ _ _ _ h => h
        apply Exists.intro
        apply And.intro
        · apply yr_run; rfl; intro w' hw'; go_simp; (try with_reducible rfl)
        simp only [Act.put, List.setIfInBounds_toArray, List.set_cons_zero, List.set_cons_succ]
        apply wpR_next 16 (some 78)
        · simp only [List.getElem?_toArray, List.getElem?_cons_succ, List.getElem?_cons_zero]; exact rfl
        · rfl
        · kernel_rfl
        · kernel_rfl
        · kernel_rfl
        · exact fun _ _ _ _ h => h
        apply Exists.intro
        apply And.intro
        · exact yr_run (by rfl) (fun w' hw' => exec_binop_agg .eql 32 (.tmp 76) (.tmp 77) 32 rfl rfl rfl (by kernel_rfl) (heqD w'))
        simp only [Act.put, List.setIfInBounds_toArray, List.set_cons_zero, List.set_cons_succ]
        apply wpR_next 17 (some 79)
        · simp only [List.getElem?_toArray, List.getElem?_cons_succ, List.getElem?_cons_zero]; exact rfl
        · rfl
        · kernel_rfl
        · kernel_rfl
        · kernel_rfl
        · exact fun _ _ _ _ h => h
        apply Exists.intro
        apply And.intro
        · apply yr_run; rfl; intro w' hw'; go_simp; (try with_reducible rfl)
        simp only [Act.put, List.setIfInBounds_toArray, List.set_cons_zero, List.set_cons_succ]
        apply wpR_next 18 (some 6)
        · simp only [List.getElem?_toArray, List.getElem?_cons_succ, List.getElem?_cons_zero]; exact rfl
        · rfl
        · kernel_rfl
        · kernel_rfl
        · kernel_rfl
        · exact fun _ _ _ _ h => h
        apply Exists.intro
        apply And.intro
        · apply yr_run; rfl; intro w' hw'; go_simp; (try with_reducible rfl)
        simp only [Act.put, List.setIfInBounds_toArray, List.set_cons_zero, List.set_cons_succ]
        refine wpR_done (by kernel_rfl) ?_ _
        intro W3 hw3
        have HB3 := Lib.hid (bel_bl (bel_dr HB_3.out) hw3)
        clear hw3 ls0 ls1 ls2 lHX10 lHX11 lHX20 lHX21 lHX22 lHC0 lHC1 lHC2 lHC3 lHC4 lHV0 lHV1 lHV2 lHV3 lHV4 HKb
        go_wp2
        go_ret
        exact ⟨rfl, HB3.out⟩
      · rw [if_neg hd] at hid
        have hq : decide (0 ≤ ix) = false := decide_eq_false (by omega)
        have HNo := Lib.hid (fun h => near_off (G := GG) (g := g3) Hgr.out (d := (d1, d2, d3)) hd h)
        clear hid hd
        obtain ⟨st, gst⟩ : ∃ z, stV V (d1, d2, d3) = z := ⟨_, rfl⟩
        obtain ⟨⟨⟨t1, t2, t3⟩, tb⟩, gfd⟩ : ∃ z, findG GG (d1, d2, d3) = z := ⟨_, rfl⟩
        have Hst := Lib.hid gst
        have Hfd := Lib.hid gfd
        clear gst gfd
        cases st with
        | true =>
          have Hnr : RowKit.Hid (nearC V GG g3 (x1, x2) (d1, d2, d3) = (0, 0, 0)) := Lib.hid (HNo.out (.inl Hst.out))
          clear HNo
          have s0 := HS.out.box.cell (i := 0) rfl
          have s1 := HS.out.box.cell (i := 1) rfl
          have s2 := HS.out.box.cell (i := 2) rfl
          have cHX10 := HX1.out.cell (i := 0) rfl
          have cHX11 := HX1.out.cell (i := 1) rfl
          have cHX20 := HX2.out.cell (i := 0) rfl
          have cHX21 := HX2.out.cell (i := 1) rfl
          have cHX22 := HX2.out.cell (i := 2) rfl
          go_wp2_with fail
          clear s0 s1 s2 cHX10 cHX11 cHX20 cHX21 cHX22
          refine (HS.out.cor_yes5 (congrArg Prod.snd Hgr.out) Hnr.out).mono ?_
          rintro e w1_x ⟨rfl, hb1_x⟩
          have HS_1 := Lib.hid ((HS.out.below hb1_x).below (below1 w1_x (.cells #[.int .i64 x1, .int .i64 x2, .int .i64 0, .int .i64 0, .int .i64 0] 34)))
          have HB_1 := Lib.hid (bel_al (bel_bl HB.out hb1_x) (.cells #[.int .i64 x1, .int .i64 x2, .int .i64 0, .int .i64 0, .int .i64 0] 34))
          have HX1_1 := Lib.hid ((HX1.out.below hb1_x).below (below1 w1_x (.cells #[.int .i64 x1, .int .i64 x2, .int .i64 0, .int .i64 0, .int .i64 0] 34)))
          have HX2_1 := Lib.hid ((HX2.out.below hb1_x).below (below1 w1_x (.cells #[.int .i64 x1, .int .i64 x2, .int .i64 0, .int .i64 0, .int .i64 0] 34)))
          have HC_1 : RowKit.Hid (Whole (w1_x.alloc (.cells #[.int .i64 x1, .int .i64 x2, .int .i64 0, .int .i64 0, .int .i64 0] 34)) w1_x.heap.size 34 [.int .i64 x1, .int .i64 x2, .int .i64 0, .int .i64 0, .int .i64 0]) := Lib.hid (Whole.new_ _ _ _)
          clear hb1_x HS HB HX1 HX2
          have s0 := HS_1.out.box.cell (i := 0) rfl
          have s1 := HS_1.out.box.cell (i := 1) rfl
          have s2 := HS_1.out.box.cell (i := 2) rfl
          have cHX10 := HX1_1.out.cell (i := 0) rfl
          have cHX11 := HX1_1.out.cell (i := 1) rfl
          have cHX20 := HX2_1.out.cell (i := 0) rfl
          have cHX21 := HX2_1.out.cell (i := 1) rfl
          have cHX22 := HX2_1.out.cell (i := 2) rfl
          have cHC0 := HC_1.out.cell (i := 0) rfl
          have cHC1 := HC_1.out.cell (i := 1) rfl
          have cHC2 := HC_1.out.cell (i := 2) rfl
          have cHC3 := HC_1.out.cell (i := 3) rfl
          have cHC4 := HC_1.out.cell (i := 4) rfl
          go_wp2_with fail
          clear s0 s1 s2 cHX10 cHX11 cHX20 cHX21 cHX22 cHC0 cHC1 cHC2 cHC3 cHC4
          refine (HS_1.out.rvert5 Hgr.out).mono ?_
          rintro e w2_x ⟨rfl, hb2_x⟩
          have HS_2 := Lib.hid ((HS_1.out.below hb2_x).below (below1 w2_x (.cells #[.int .i64 i1, .int .i64 i2, .slice rA rn rc, .string lb, .int .i64 at_] 53)))
          have HB_2 := Lib.hid (bel_al (bel_bl HB_1.out hb2_x) (.cells #[.int .i64 i1, .int .i64 i2, .slice rA rn rc, .string lb, .int .i64 at_] 53))
          have HX1_2 := Lib.hid ((HX1_1.out.below hb2_x).below (below1 w2_x (.cells #[.int .i64 i1, .int .i64 i2, .slice rA rn rc, .string lb, .int .i64 at_] 53)))
          have HX2_2 := Lib.hid ((HX2_1.out.below hb2_x).below (below1 w2_x (.cells #[.int .i64 i1, .int .i64 i2, .slice rA rn rc, .string lb, .int .i64 at_] 53)))
          have HC_2 := Lib.hid ((HC_1.out.below hb2_x).below (below1 w2_x (.cells #[.int .i64 i1, .int .i64 i2, .slice rA rn rc, .string lb, .int .i64 at_] 53)))
          have HV_2 : RowKit.Hid (Whole (w2_x.alloc (.cells #[.int .i64 i1, .int .i64 i2, .slice rA rn rc, .string lb, .int .i64 at_] 53)) w2_x.heap.size 53 [.int .i64 i1, .int .i64 i2, .slice rA rn rc, .string lb, .int .i64 at_]) := Lib.hid (Whole.new_ _ _ _)
          clear hb2_x HS_1 HB_1 HX1_1 HX2_1 HC_1
          have s0 := HS_2.out.box.cell (i := 0) rfl
          have s1 := HS_2.out.box.cell (i := 1) rfl
          have s2 := HS_2.out.box.cell (i := 2) rfl
          have cHX10 := HX1_2.out.cell (i := 0) rfl
          have cHX11 := HX1_2.out.cell (i := 1) rfl
          have cHX20 := HX2_2.out.cell (i := 0) rfl
          have cHX21 := HX2_2.out.cell (i := 1) rfl
          have cHX22 := HX2_2.out.cell (i := 2) rfl
          have cHC0 := HC_2.out.cell (i := 0) rfl
          have cHC1 := HC_2.out.cell (i := 1) rfl
          have cHC2 := HC_2.out.cell (i := 2) rfl
          have cHC3 := HC_2.out.cell (i := 3) rfl
          have cHC4 := HC_2.out.cell (i := 4) rfl
          have cHV0 := HV_2.out.cell (i := 0) rfl
          have cHV1 := HV_2.out.cell (i := 1) rfl
          have cHV2 := HV_2.out.cell (i := 2) rfl
          have cHV3 := HV_2.out.cell (i := 3) rfl
          have cHV4 := HV_2.out.cell (i := 4) rfl
          go_wp2_with fail
          clear s0 s1 s2 cHX10 cHX11 cHX20 cHX21 cHX22 cHC0 cHC1 cHC2 cHC3 cHC4 cHV0 cHV1 cHV2 cHV3 cHV4
          refine (HS_2.out.ring5 Hgr.out Hix.out).mono ?_
          rintro e w3_x ⟨rfl, hb3_x⟩
          have HS_3 := Lib.hid (HS_2.out.below hb3_x)
          have HB_3 := Lib.hid (bel_bl HB_2.out hb3_x)
          have HX1_3 := Lib.hid (HX1_2.out.below hb3_x)
          have HX2_3 := Lib.hid (HX2_2.out.below hb3_x)
          have HC_3 := Lib.hid (HC_2.out.below hb3_x)
          have HV_3 := Lib.hid (HV_2.out.below hb3_x)
          clear hb3_x HS_2 HB_2 HX1_2 HX2_2 HC_2 HV_2
          have s0 := HS_3.out.box.cell (i := 0) rfl
          have s1 := HS_3.out.box.cell (i := 1) rfl
          have s2 := HS_3.out.box.cell (i := 2) rfl
          have cHX10 := HX1_3.out.cell (i := 0) rfl
          have cHX11 := HX1_3.out.cell (i := 1) rfl
          have cHX20 := HX2_3.out.cell (i := 0) rfl
          have cHX21 := HX2_3.out.cell (i := 1) rfl
          have cHX22 := HX2_3.out.cell (i := 2) rfl
          have cHC0 := HC_3.out.cell (i := 0) rfl
          have cHC1 := HC_3.out.cell (i := 1) rfl
          have cHC2 := HC_3.out.cell (i := 2) rfl
          have cHC3 := HC_3.out.cell (i := 3) rfl
          have cHC4 := HC_3.out.cell (i := 4) rfl
          have cHV0 := HV_3.out.cell (i := 0) rfl
          have cHV1 := HV_3.out.cell (i := 1) rfl
          have cHV2 := HV_3.out.cell (i := 2) rfl
          have cHV3 := HV_3.out.cell (i := 3) rfl
          have cHV4 := HV_3.out.cell (i := 4) rfl
          go_wp2_with fail
          clear s0 s1 s2 cHX10 cHX11 cHX20 cHX21 cHX22 cHC0 cHC1 cHC2 cHC3 cHC4 cHV0 cHV1 cHV2 cHV3 cHV4
          refine (HS_3.out.rat5 Hst.out).mono ?_
          rintro e w4_x ⟨j1, j2, rfl, hb4_x⟩
          have HS_4 := Lib.hid ((HS_3.out.below hb4_x).below (below1 w4_x (.cells #[.int .i64 j1, .int .i64 j2] 30)))
          have HB_4 := Lib.hid (bel_al (bel_bl HB_3.out hb4_x) (.cells #[.int .i64 j1, .int .i64 j2] 30))
          have HX1_4 := Lib.hid ((HX1_3.out.below hb4_x).below (below1 w4_x (.cells #[.int .i64 j1, .int .i64 j2] 30)))
          have HX2_4 := Lib.hid ((HX2_3.out.below hb4_x).below (below1 w4_x (.cells #[.int .i64 j1, .int .i64 j2] 30)))
          have HC_4 := Lib.hid ((HC_3.out.below hb4_x).below (below1 w4_x (.cells #[.int .i64 j1, .int .i64 j2] 30)))
          have HV_4 := Lib.hid ((HV_3.out.below hb4_x).below (below1 w4_x (.cells #[.int .i64 j1, .int .i64 j2] 30)))
          have HA_4 : RowKit.Hid (Whole (w4_x.alloc (.cells #[.int .i64 j1, .int .i64 j2] 30)) w4_x.heap.size 30 [.int .i64 j1, .int .i64 j2]) := Lib.hid (Whole.new_ _ _ _)
          clear hb4_x HS_3 HB_3 HX1_3 HX2_3 HC_3 HV_3
          have s0 := HS_4.out.box.cell (i := 0) rfl
          have s1 := HS_4.out.box.cell (i := 1) rfl
          have s2 := HS_4.out.box.cell (i := 2) rfl
          have cHX10 := HX1_4.out.cell (i := 0) rfl
          have cHX11 := HX1_4.out.cell (i := 1) rfl
          have cHX20 := HX2_4.out.cell (i := 0) rfl
          have cHX21 := HX2_4.out.cell (i := 1) rfl
          have cHX22 := HX2_4.out.cell (i := 2) rfl
          have cHC0 := HC_4.out.cell (i := 0) rfl
          have cHC1 := HC_4.out.cell (i := 1) rfl
          have cHC2 := HC_4.out.cell (i := 2) rfl
          have cHC3 := HC_4.out.cell (i := 3) rfl
          have cHC4 := HC_4.out.cell (i := 4) rfl
          have cHV0 := HV_4.out.cell (i := 0) rfl
          have cHV1 := HV_4.out.cell (i := 1) rfl
          have cHV2 := HV_4.out.cell (i := 2) rfl
          have cHV3 := HV_4.out.cell (i := 3) rfl
          have cHV4 := HV_4.out.cell (i := 4) rfl
          have cHA0 := HA_4.out.cell (i := 0) rfl
          have cHA1 := HA_4.out.cell (i := 1) rfl
          go_wp2_with fail
          clear s0 s1 s2 cHX10 cHX11 cHX20 cHX21 cHX22 cHC0 cHC1 cHC2 cHC3 cHC4 cHV0 cHV1 cHV2 cHV3 cHV4 cHA0 cHA1
          refine (HS_4.out.find5 Hfd.out).mono ?_
          rintro e w5_x ⟨rfl, hb5_x⟩
          have HS_5 := Lib.hid ((HS_4.out.below hb5_x).below (below1 w5_x (.cells #[.int .i64 t1, .int .i64 t2, .int .i64 t3] 32)))
          have HB_5 := Lib.hid (bel_al (bel_bl HB_4.out hb5_x) (.cells #[.int .i64 t1, .int .i64 t2, .int .i64 t3] 32))
          have HX1_5 := Lib.hid ((HX1_4.out.below hb5_x).below (below1 w5_x (.cells #[.int .i64 t1, .int .i64 t2, .int .i64 t3] 32)))
          have HX2_5 := Lib.hid ((HX2_4.out.below hb5_x).below (below1 w5_x (.cells #[.int .i64 t1, .int .i64 t2, .int .i64 t3] 32)))
          have HC_5 := Lib.hid ((HC_4.out.below hb5_x).below (below1 w5_x (.cells #[.int .i64 t1, .int .i64 t2, .int .i64 t3] 32)))
          have HV_5 := Lib.hid ((HV_4.out.below hb5_x).below (below1 w5_x (.cells #[.int .i64 t1, .int .i64 t2, .int .i64 t3] 32)))
          have HA_5 := Lib.hid ((HA_4.out.below hb5_x).below (below1 w5_x (.cells #[.int .i64 t1, .int .i64 t2, .int .i64 t3] 32)))
          have HT_5 : RowKit.Hid (Whole (w5_x.alloc (.cells #[.int .i64 t1, .int .i64 t2, .int .i64 t3] 32)) w5_x.heap.size 32 [.int .i64 t1, .int .i64 t2, .int .i64 t3]) := Lib.hid (Whole.new_ _ _ _)
          clear hb5_x HS_4 HB_4 HX1_4 HX2_4 HC_4 HV_4 HA_4
          have heq0 := eq_dart_self 0 0 0
          have s0 := HS_5.out.box.cell (i := 0) rfl
          have s1 := HS_5.out.box.cell (i := 1) rfl
          have s2 := HS_5.out.box.cell (i := 2) rfl
          have cHX10 := HX1_5.out.cell (i := 0) rfl
          have cHX11 := HX1_5.out.cell (i := 1) rfl
          have cHX20 := HX2_5.out.cell (i := 0) rfl
          have cHX21 := HX2_5.out.cell (i := 1) rfl
          have cHX22 := HX2_5.out.cell (i := 2) rfl
          have cHC0 := HC_5.out.cell (i := 0) rfl
          have cHC1 := HC_5.out.cell (i := 1) rfl
          have cHC2 := HC_5.out.cell (i := 2) rfl
          have cHC3 := HC_5.out.cell (i := 3) rfl
          have cHC4 := HC_5.out.cell (i := 4) rfl
          have cHV0 := HV_5.out.cell (i := 0) rfl
          have cHV1 := HV_5.out.cell (i := 1) rfl
          have cHV2 := HV_5.out.cell (i := 2) rfl
          have cHV3 := HV_5.out.cell (i := 3) rfl
          have cHV4 := HV_5.out.cell (i := 4) rfl
          have cHA0 := HA_5.out.cell (i := 0) rfl
          have cHA1 := HA_5.out.cell (i := 1) rfl
          have cHT0 := HT_5.out.cell (i := 0) rfl
          have cHT1 := HT_5.out.cell (i := 1) rfl
          have cHT2 := HT_5.out.cell (i := 2) rfl
          go_wp2
          clear s0 s1 s2 cHX10 cHX11 cHX20 cHX21 cHX22 cHC0 cHC1 cHC2 cHC3 cHC4 cHV0 cHV1 cHV2 cHV3 cHV4 cHA0 cHA1 cHT0 cHT1 cHT2
          go_ret
          exact ⟨rfl, HB_5.out⟩
        | false =>
          cases tb with
          | false =>
            have Hnr : RowKit.Hid (nearC V GG g3 (x1, x2) (d1, d2, d3) = (0, 0, 0)) := Lib.hid (HNo.out (.inr (by rw [Hfd.out])))
            clear HNo
            have s0 := HS.out.box.cell (i := 0) rfl
            have s1 := HS.out.box.cell (i := 1) rfl
            have s2 := HS.out.box.cell (i := 2) rfl
            have cHX10 := HX1.out.cell (i := 0) rfl
            have cHX11 := HX1.out.cell (i := 1) rfl
            have cHX20 := HX2.out.cell (i := 0) rfl
            have cHX21 := HX2.out.cell (i := 1) rfl
            have cHX22 := HX2.out.cell (i := 2) rfl
            go_wp2_with fail
            clear s0 s1 s2 cHX10 cHX11 cHX20 cHX21 cHX22
            refine (HS.out.cor_yes5 (congrArg Prod.snd Hgr.out) Hnr.out).mono ?_
            rintro e w1_x ⟨rfl, hb1_x⟩
            have HS_1 := Lib.hid ((HS.out.below hb1_x).below (below1 w1_x (.cells #[.int .i64 x1, .int .i64 x2, .int .i64 0, .int .i64 0, .int .i64 0] 34)))
            have HB_1 := Lib.hid (bel_al (bel_bl HB.out hb1_x) (.cells #[.int .i64 x1, .int .i64 x2, .int .i64 0, .int .i64 0, .int .i64 0] 34))
            have HX1_1 := Lib.hid ((HX1.out.below hb1_x).below (below1 w1_x (.cells #[.int .i64 x1, .int .i64 x2, .int .i64 0, .int .i64 0, .int .i64 0] 34)))
            have HX2_1 := Lib.hid ((HX2.out.below hb1_x).below (below1 w1_x (.cells #[.int .i64 x1, .int .i64 x2, .int .i64 0, .int .i64 0, .int .i64 0] 34)))
            have HC_1 : RowKit.Hid (Whole (w1_x.alloc (.cells #[.int .i64 x1, .int .i64 x2, .int .i64 0, .int .i64 0, .int .i64 0] 34)) w1_x.heap.size 34 [.int .i64 x1, .int .i64 x2, .int .i64 0, .int .i64 0, .int .i64 0]) := Lib.hid (Whole.new_ _ _ _)
            clear hb1_x HS HB HX1 HX2
            have s0 := HS_1.out.box.cell (i := 0) rfl
            have s1 := HS_1.out.box.cell (i := 1) rfl
            have s2 := HS_1.out.box.cell (i := 2) rfl
            have cHX10 := HX1_1.out.cell (i := 0) rfl
            have cHX11 := HX1_1.out.cell (i := 1) rfl
            have cHX20 := HX2_1.out.cell (i := 0) rfl
            have cHX21 := HX2_1.out.cell (i := 1) rfl
            have cHX22 := HX2_1.out.cell (i := 2) rfl
            have cHC0 := HC_1.out.cell (i := 0) rfl
            have cHC1 := HC_1.out.cell (i := 1) rfl
            have cHC2 := HC_1.out.cell (i := 2) rfl
            have cHC3 := HC_1.out.cell (i := 3) rfl
            have cHC4 := HC_1.out.cell (i := 4) rfl
            go_wp2_with fail
            clear s0 s1 s2 cHX10 cHX11 cHX20 cHX21 cHX22 cHC0 cHC1 cHC2 cHC3 cHC4
            refine (HS_1.out.rvert5 Hgr.out).mono ?_
            rintro e w2_x ⟨rfl, hb2_x⟩
            have HS_2 := Lib.hid ((HS_1.out.below hb2_x).below (below1 w2_x (.cells #[.int .i64 i1, .int .i64 i2, .slice rA rn rc, .string lb, .int .i64 at_] 53)))
            have HB_2 := Lib.hid (bel_al (bel_bl HB_1.out hb2_x) (.cells #[.int .i64 i1, .int .i64 i2, .slice rA rn rc, .string lb, .int .i64 at_] 53))
            have HX1_2 := Lib.hid ((HX1_1.out.below hb2_x).below (below1 w2_x (.cells #[.int .i64 i1, .int .i64 i2, .slice rA rn rc, .string lb, .int .i64 at_] 53)))
            have HX2_2 := Lib.hid ((HX2_1.out.below hb2_x).below (below1 w2_x (.cells #[.int .i64 i1, .int .i64 i2, .slice rA rn rc, .string lb, .int .i64 at_] 53)))
            have HC_2 := Lib.hid ((HC_1.out.below hb2_x).below (below1 w2_x (.cells #[.int .i64 i1, .int .i64 i2, .slice rA rn rc, .string lb, .int .i64 at_] 53)))
            have HV_2 : RowKit.Hid (Whole (w2_x.alloc (.cells #[.int .i64 i1, .int .i64 i2, .slice rA rn rc, .string lb, .int .i64 at_] 53)) w2_x.heap.size 53 [.int .i64 i1, .int .i64 i2, .slice rA rn rc, .string lb, .int .i64 at_]) := Lib.hid (Whole.new_ _ _ _)
            clear hb2_x HS_1 HB_1 HX1_1 HX2_1 HC_1
            have s0 := HS_2.out.box.cell (i := 0) rfl
            have s1 := HS_2.out.box.cell (i := 1) rfl
            have s2 := HS_2.out.box.cell (i := 2) rfl
            have cHX10 := HX1_2.out.cell (i := 0) rfl
            have cHX11 := HX1_2.out.cell (i := 1) rfl
            have cHX20 := HX2_2.out.cell (i := 0) rfl
            have cHX21 := HX2_2.out.cell (i := 1) rfl
            have cHX22 := HX2_2.out.cell (i := 2) rfl
            have cHC0 := HC_2.out.cell (i := 0) rfl
            have cHC1 := HC_2.out.cell (i := 1) rfl
            have cHC2 := HC_2.out.cell (i := 2) rfl
            have cHC3 := HC_2.out.cell (i := 3) rfl
            have cHC4 := HC_2.out.cell (i := 4) rfl
            have cHV0 := HV_2.out.cell (i := 0) rfl
            have cHV1 := HV_2.out.cell (i := 1) rfl
            have cHV2 := HV_2.out.cell (i := 2) rfl
            have cHV3 := HV_2.out.cell (i := 3) rfl
            have cHV4 := HV_2.out.cell (i := 4) rfl
            go_wp2_with fail
            clear s0 s1 s2 cHX10 cHX11 cHX20 cHX21 cHX22 cHC0 cHC1 cHC2 cHC3 cHC4 cHV0 cHV1 cHV2 cHV3 cHV4
            refine (HS_2.out.ring5 Hgr.out Hix.out).mono ?_
            rintro e w3_x ⟨rfl, hb3_x⟩
            have HS_3 := Lib.hid (HS_2.out.below hb3_x)
            have HB_3 := Lib.hid (bel_bl HB_2.out hb3_x)
            have HX1_3 := Lib.hid (HX1_2.out.below hb3_x)
            have HX2_3 := Lib.hid (HX2_2.out.below hb3_x)
            have HC_3 := Lib.hid (HC_2.out.below hb3_x)
            have HV_3 := Lib.hid (HV_2.out.below hb3_x)
            clear hb3_x HS_2 HB_2 HX1_2 HX2_2 HC_2 HV_2
            have s0 := HS_3.out.box.cell (i := 0) rfl
            have s1 := HS_3.out.box.cell (i := 1) rfl
            have s2 := HS_3.out.box.cell (i := 2) rfl
            have cHX10 := HX1_3.out.cell (i := 0) rfl
            have cHX11 := HX1_3.out.cell (i := 1) rfl
            have cHX20 := HX2_3.out.cell (i := 0) rfl
            have cHX21 := HX2_3.out.cell (i := 1) rfl
            have cHX22 := HX2_3.out.cell (i := 2) rfl
            have cHC0 := HC_3.out.cell (i := 0) rfl
            have cHC1 := HC_3.out.cell (i := 1) rfl
            have cHC2 := HC_3.out.cell (i := 2) rfl
            have cHC3 := HC_3.out.cell (i := 3) rfl
            have cHC4 := HC_3.out.cell (i := 4) rfl
            have cHV0 := HV_3.out.cell (i := 0) rfl
            have cHV1 := HV_3.out.cell (i := 1) rfl
            have cHV2 := HV_3.out.cell (i := 2) rfl
            have cHV3 := HV_3.out.cell (i := 3) rfl
            have cHV4 := HV_3.out.cell (i := 4) rfl
            go_wp2_with fail
            clear s0 s1 s2 cHX10 cHX11 cHX20 cHX21 cHX22 cHC0 cHC1 cHC2 cHC3 cHC4 cHV0 cHV1 cHV2 cHV3 cHV4
            refine (HS_3.out.rat5 Hst.out).mono ?_
            rintro e w4_x ⟨j1, j2, rfl, hb4_x⟩
            have HS_4 := Lib.hid ((HS_3.out.below hb4_x).below (below1 w4_x (.cells #[.int .i64 j1, .int .i64 j2] 30)))
            have HB_4 := Lib.hid (bel_al (bel_bl HB_3.out hb4_x) (.cells #[.int .i64 j1, .int .i64 j2] 30))
            have HX1_4 := Lib.hid ((HX1_3.out.below hb4_x).below (below1 w4_x (.cells #[.int .i64 j1, .int .i64 j2] 30)))
            have HX2_4 := Lib.hid ((HX2_3.out.below hb4_x).below (below1 w4_x (.cells #[.int .i64 j1, .int .i64 j2] 30)))
            have HC_4 := Lib.hid ((HC_3.out.below hb4_x).below (below1 w4_x (.cells #[.int .i64 j1, .int .i64 j2] 30)))
            have HV_4 := Lib.hid ((HV_3.out.below hb4_x).below (below1 w4_x (.cells #[.int .i64 j1, .int .i64 j2] 30)))
            have HA_4 : RowKit.Hid (Whole (w4_x.alloc (.cells #[.int .i64 j1, .int .i64 j2] 30)) w4_x.heap.size 30 [.int .i64 j1, .int .i64 j2]) := Lib.hid (Whole.new_ _ _ _)
            clear hb4_x HS_3 HB_3 HX1_3 HX2_3 HC_3 HV_3
            have s0 := HS_4.out.box.cell (i := 0) rfl
            have s1 := HS_4.out.box.cell (i := 1) rfl
            have s2 := HS_4.out.box.cell (i := 2) rfl
            have cHX10 := HX1_4.out.cell (i := 0) rfl
            have cHX11 := HX1_4.out.cell (i := 1) rfl
            have cHX20 := HX2_4.out.cell (i := 0) rfl
            have cHX21 := HX2_4.out.cell (i := 1) rfl
            have cHX22 := HX2_4.out.cell (i := 2) rfl
            have cHC0 := HC_4.out.cell (i := 0) rfl
            have cHC1 := HC_4.out.cell (i := 1) rfl
            have cHC2 := HC_4.out.cell (i := 2) rfl
            have cHC3 := HC_4.out.cell (i := 3) rfl
            have cHC4 := HC_4.out.cell (i := 4) rfl
            have cHV0 := HV_4.out.cell (i := 0) rfl
            have cHV1 := HV_4.out.cell (i := 1) rfl
            have cHV2 := HV_4.out.cell (i := 2) rfl
            have cHV3 := HV_4.out.cell (i := 3) rfl
            have cHV4 := HV_4.out.cell (i := 4) rfl
            have cHA0 := HA_4.out.cell (i := 0) rfl
            have cHA1 := HA_4.out.cell (i := 1) rfl
            go_wp2_with fail
            clear s0 s1 s2 cHX10 cHX11 cHX20 cHX21 cHX22 cHC0 cHC1 cHC2 cHC3 cHC4 cHV0 cHV1 cHV2 cHV3 cHV4 cHA0 cHA1
            refine (HS_4.out.find5 Hfd.out).mono ?_
            rintro e w5_x ⟨rfl, hb5_x⟩
            have HS_5 := Lib.hid ((HS_4.out.below hb5_x).below (below1 w5_x (.cells #[.int .i64 t1, .int .i64 t2, .int .i64 t3] 32)))
            have HB_5 := Lib.hid (bel_al (bel_bl HB_4.out hb5_x) (.cells #[.int .i64 t1, .int .i64 t2, .int .i64 t3] 32))
            have HX1_5 := Lib.hid ((HX1_4.out.below hb5_x).below (below1 w5_x (.cells #[.int .i64 t1, .int .i64 t2, .int .i64 t3] 32)))
            have HX2_5 := Lib.hid ((HX2_4.out.below hb5_x).below (below1 w5_x (.cells #[.int .i64 t1, .int .i64 t2, .int .i64 t3] 32)))
            have HC_5 := Lib.hid ((HC_4.out.below hb5_x).below (below1 w5_x (.cells #[.int .i64 t1, .int .i64 t2, .int .i64 t3] 32)))
            have HV_5 := Lib.hid ((HV_4.out.below hb5_x).below (below1 w5_x (.cells #[.int .i64 t1, .int .i64 t2, .int .i64 t3] 32)))
            have HA_5 := Lib.hid ((HA_4.out.below hb5_x).below (below1 w5_x (.cells #[.int .i64 t1, .int .i64 t2, .int .i64 t3] 32)))
            have HT_5 : RowKit.Hid (Whole (w5_x.alloc (.cells #[.int .i64 t1, .int .i64 t2, .int .i64 t3] 32)) w5_x.heap.size 32 [.int .i64 t1, .int .i64 t2, .int .i64 t3]) := Lib.hid (Whole.new_ _ _ _)
            clear hb5_x HS_4 HB_4 HX1_4 HX2_4 HC_4 HV_4 HA_4
            have heq0 := eq_dart_self 0 0 0
            have s0 := HS_5.out.box.cell (i := 0) rfl
            have s1 := HS_5.out.box.cell (i := 1) rfl
            have s2 := HS_5.out.box.cell (i := 2) rfl
            have cHX10 := HX1_5.out.cell (i := 0) rfl
            have cHX11 := HX1_5.out.cell (i := 1) rfl
            have cHX20 := HX2_5.out.cell (i := 0) rfl
            have cHX21 := HX2_5.out.cell (i := 1) rfl
            have cHX22 := HX2_5.out.cell (i := 2) rfl
            have cHC0 := HC_5.out.cell (i := 0) rfl
            have cHC1 := HC_5.out.cell (i := 1) rfl
            have cHC2 := HC_5.out.cell (i := 2) rfl
            have cHC3 := HC_5.out.cell (i := 3) rfl
            have cHC4 := HC_5.out.cell (i := 4) rfl
            have cHV0 := HV_5.out.cell (i := 0) rfl
            have cHV1 := HV_5.out.cell (i := 1) rfl
            have cHV2 := HV_5.out.cell (i := 2) rfl
            have cHV3 := HV_5.out.cell (i := 3) rfl
            have cHV4 := HV_5.out.cell (i := 4) rfl
            have cHA0 := HA_5.out.cell (i := 0) rfl
            have cHA1 := HA_5.out.cell (i := 1) rfl
            have cHT0 := HT_5.out.cell (i := 0) rfl
            have cHT1 := HT_5.out.cell (i := 1) rfl
            have cHT2 := HT_5.out.cell (i := 2) rfl
            go_wp2
            clear s0 s1 s2 cHX10 cHX11 cHX20 cHX21 cHX22 cHC0 cHC1 cHC2 cHC3 cHC4 cHV0 cHV1 cHV2 cHV3 cHV4 cHA0 cHA1 cHT0 cHT1 cHT2
            go_ret
            exact ⟨rfl, HB_5.out⟩
          | true =>
            obtain ⟨⟨z1, z2, z3⟩, gz⟩ : ∃ z, nearC V GG g3 (x1, x2) (d1, d2, d3) = z := ⟨_, rfl⟩
            have Hnr := Lib.hid gz
            obtain ⟨st2, gst2⟩ : ∃ z, stV V (t1, t2, t3) = z := ⟨_, rfl⟩
            have Hst2 := Lib.hid gst2
            clear gz gst2 HNo
            cases st2 with
            | true =>
              have Hrs := Lib.hid (near_to Hst.out Hfd.out HLn.out Hst2.out)
              have Hnt : RowKit.Hid (nearC V GG g3 (x1, x2) (t1, t2, t3) = (z1, z2, z3)) := Lib.hid ((near_same Hrs.out Hst2.out).trans Hnr.out)
              have s0 := HS.out.box.cell (i := 0) rfl
              have s1 := HS.out.box.cell (i := 1) rfl
              have s2 := HS.out.box.cell (i := 2) rfl
              have cHX10 := HX1.out.cell (i := 0) rfl
              have cHX11 := HX1.out.cell (i := 1) rfl
              have cHX20 := HX2.out.cell (i := 0) rfl
              have cHX21 := HX2.out.cell (i := 1) rfl
              have cHX22 := HX2.out.cell (i := 2) rfl
              go_wp2_with fail
              clear s0 s1 s2 cHX10 cHX11 cHX20 cHX21 cHX22
              refine (HS.out.cor_yes5 (congrArg Prod.snd Hgr.out) Hnr.out).mono ?_
              rintro e w1_x ⟨rfl, hb1_x⟩
              have HS_1 := Lib.hid ((HS.out.below hb1_x).below (below1 w1_x (.cells #[.int .i64 x1, .int .i64 x2, .int .i64 z1, .int .i64 z2, .int .i64 z3] 34)))
              have HB_1 := Lib.hid (bel_al (bel_bl HB.out hb1_x) (.cells #[.int .i64 x1, .int .i64 x2, .int .i64 z1, .int .i64 z2, .int .i64 z3] 34))
              have HX1_1 := Lib.hid ((HX1.out.below hb1_x).below (below1 w1_x (.cells #[.int .i64 x1, .int .i64 x2, .int .i64 z1, .int .i64 z2, .int .i64 z3] 34)))
              have HX2_1 := Lib.hid ((HX2.out.below hb1_x).below (below1 w1_x (.cells #[.int .i64 x1, .int .i64 x2, .int .i64 z1, .int .i64 z2, .int .i64 z3] 34)))
              have HC_1 : RowKit.Hid (Whole (w1_x.alloc (.cells #[.int .i64 x1, .int .i64 x2, .int .i64 z1, .int .i64 z2, .int .i64 z3] 34)) w1_x.heap.size 34 [.int .i64 x1, .int .i64 x2, .int .i64 z1, .int .i64 z2, .int .i64 z3]) := Lib.hid (Whole.new_ _ _ _)
              clear hb1_x HS HB HX1 HX2
              have s0 := HS_1.out.box.cell (i := 0) rfl
              have s1 := HS_1.out.box.cell (i := 1) rfl
              have s2 := HS_1.out.box.cell (i := 2) rfl
              have cHX10 := HX1_1.out.cell (i := 0) rfl
              have cHX11 := HX1_1.out.cell (i := 1) rfl
              have cHX20 := HX2_1.out.cell (i := 0) rfl
              have cHX21 := HX2_1.out.cell (i := 1) rfl
              have cHX22 := HX2_1.out.cell (i := 2) rfl
              have cHC0 := HC_1.out.cell (i := 0) rfl
              have cHC1 := HC_1.out.cell (i := 1) rfl
              have cHC2 := HC_1.out.cell (i := 2) rfl
              have cHC3 := HC_1.out.cell (i := 3) rfl
              have cHC4 := HC_1.out.cell (i := 4) rfl
              go_wp2_with fail
              clear s0 s1 s2 cHX10 cHX11 cHX20 cHX21 cHX22 cHC0 cHC1 cHC2 cHC3 cHC4
              refine (HS_1.out.rvert5 Hgr.out).mono ?_
              rintro e w2_x ⟨rfl, hb2_x⟩
              have HS_2 := Lib.hid ((HS_1.out.below hb2_x).below (below1 w2_x (.cells #[.int .i64 i1, .int .i64 i2, .slice rA rn rc, .string lb, .int .i64 at_] 53)))
              have HB_2 := Lib.hid (bel_al (bel_bl HB_1.out hb2_x) (.cells #[.int .i64 i1, .int .i64 i2, .slice rA rn rc, .string lb, .int .i64 at_] 53))
              have HX1_2 := Lib.hid ((HX1_1.out.below hb2_x).below (below1 w2_x (.cells #[.int .i64 i1, .int .i64 i2, .slice rA rn rc, .string lb, .int .i64 at_] 53)))
              have HX2_2 := Lib.hid ((HX2_1.out.below hb2_x).below (below1 w2_x (.cells #[.int .i64 i1, .int .i64 i2, .slice rA rn rc, .string lb, .int .i64 at_] 53)))
              have HC_2 := Lib.hid ((HC_1.out.below hb2_x).below (below1 w2_x (.cells #[.int .i64 i1, .int .i64 i2, .slice rA rn rc, .string lb, .int .i64 at_] 53)))
              have HV_2 : RowKit.Hid (Whole (w2_x.alloc (.cells #[.int .i64 i1, .int .i64 i2, .slice rA rn rc, .string lb, .int .i64 at_] 53)) w2_x.heap.size 53 [.int .i64 i1, .int .i64 i2, .slice rA rn rc, .string lb, .int .i64 at_]) := Lib.hid (Whole.new_ _ _ _)
              clear hb2_x HS_1 HB_1 HX1_1 HX2_1 HC_1
              have s0 := HS_2.out.box.cell (i := 0) rfl
              have s1 := HS_2.out.box.cell (i := 1) rfl
              have s2 := HS_2.out.box.cell (i := 2) rfl
              have cHX10 := HX1_2.out.cell (i := 0) rfl
              have cHX11 := HX1_2.out.cell (i := 1) rfl
              have cHX20 := HX2_2.out.cell (i := 0) rfl
              have cHX21 := HX2_2.out.cell (i := 1) rfl
              have cHX22 := HX2_2.out.cell (i := 2) rfl
              have cHC0 := HC_2.out.cell (i := 0) rfl
              have cHC1 := HC_2.out.cell (i := 1) rfl
              have cHC2 := HC_2.out.cell (i := 2) rfl
              have cHC3 := HC_2.out.cell (i := 3) rfl
              have cHC4 := HC_2.out.cell (i := 4) rfl
              have cHV0 := HV_2.out.cell (i := 0) rfl
              have cHV1 := HV_2.out.cell (i := 1) rfl
              have cHV2 := HV_2.out.cell (i := 2) rfl
              have cHV3 := HV_2.out.cell (i := 3) rfl
              have cHV4 := HV_2.out.cell (i := 4) rfl
              go_wp2_with fail
              clear s0 s1 s2 cHX10 cHX11 cHX20 cHX21 cHX22 cHC0 cHC1 cHC2 cHC3 cHC4 cHV0 cHV1 cHV2 cHV3 cHV4
              refine (HS_2.out.ring5 Hgr.out Hix.out).mono ?_
              rintro e w3_x ⟨rfl, hb3_x⟩
              have HS_3 := Lib.hid (HS_2.out.below hb3_x)
              have HB_3 := Lib.hid (bel_bl HB_2.out hb3_x)
              have HX1_3 := Lib.hid (HX1_2.out.below hb3_x)
              have HX2_3 := Lib.hid (HX2_2.out.below hb3_x)
              have HC_3 := Lib.hid (HC_2.out.below hb3_x)
              have HV_3 := Lib.hid (HV_2.out.below hb3_x)
              clear hb3_x HS_2 HB_2 HX1_2 HX2_2 HC_2 HV_2
              have s0 := HS_3.out.box.cell (i := 0) rfl
              have s1 := HS_3.out.box.cell (i := 1) rfl
              have s2 := HS_3.out.box.cell (i := 2) rfl
              have cHX10 := HX1_3.out.cell (i := 0) rfl
              have cHX11 := HX1_3.out.cell (i := 1) rfl
              have cHX20 := HX2_3.out.cell (i := 0) rfl
              have cHX21 := HX2_3.out.cell (i := 1) rfl
              have cHX22 := HX2_3.out.cell (i := 2) rfl
              have cHC0 := HC_3.out.cell (i := 0) rfl
              have cHC1 := HC_3.out.cell (i := 1) rfl
              have cHC2 := HC_3.out.cell (i := 2) rfl
              have cHC3 := HC_3.out.cell (i := 3) rfl
              have cHC4 := HC_3.out.cell (i := 4) rfl
              have cHV0 := HV_3.out.cell (i := 0) rfl
              have cHV1 := HV_3.out.cell (i := 1) rfl
              have cHV2 := HV_3.out.cell (i := 2) rfl
              have cHV3 := HV_3.out.cell (i := 3) rfl
              have cHV4 := HV_3.out.cell (i := 4) rfl
              go_wp2_with fail
              clear s0 s1 s2 cHX10 cHX11 cHX20 cHX21 cHX22 cHC0 cHC1 cHC2 cHC3 cHC4 cHV0 cHV1 cHV2 cHV3 cHV4
              refine (HS_3.out.rat5 Hst.out).mono ?_
              rintro e w4_x ⟨j1, j2, rfl, hb4_x⟩
              have HS_4 := Lib.hid ((HS_3.out.below hb4_x).below (below1 w4_x (.cells #[.int .i64 j1, .int .i64 j2] 30)))
              have HB_4 := Lib.hid (bel_al (bel_bl HB_3.out hb4_x) (.cells #[.int .i64 j1, .int .i64 j2] 30))
              have HX1_4 := Lib.hid ((HX1_3.out.below hb4_x).below (below1 w4_x (.cells #[.int .i64 j1, .int .i64 j2] 30)))
              have HX2_4 := Lib.hid ((HX2_3.out.below hb4_x).below (below1 w4_x (.cells #[.int .i64 j1, .int .i64 j2] 30)))
              have HC_4 := Lib.hid ((HC_3.out.below hb4_x).below (below1 w4_x (.cells #[.int .i64 j1, .int .i64 j2] 30)))
              have HV_4 := Lib.hid ((HV_3.out.below hb4_x).below (below1 w4_x (.cells #[.int .i64 j1, .int .i64 j2] 30)))
              have HA_4 : RowKit.Hid (Whole (w4_x.alloc (.cells #[.int .i64 j1, .int .i64 j2] 30)) w4_x.heap.size 30 [.int .i64 j1, .int .i64 j2]) := Lib.hid (Whole.new_ _ _ _)
              clear hb4_x HS_3 HB_3 HX1_3 HX2_3 HC_3 HV_3
              have s0 := HS_4.out.box.cell (i := 0) rfl
              have s1 := HS_4.out.box.cell (i := 1) rfl
              have s2 := HS_4.out.box.cell (i := 2) rfl
              have cHX10 := HX1_4.out.cell (i := 0) rfl
              have cHX11 := HX1_4.out.cell (i := 1) rfl
              have cHX20 := HX2_4.out.cell (i := 0) rfl
              have cHX21 := HX2_4.out.cell (i := 1) rfl
              have cHX22 := HX2_4.out.cell (i := 2) rfl
              have cHC0 := HC_4.out.cell (i := 0) rfl
              have cHC1 := HC_4.out.cell (i := 1) rfl
              have cHC2 := HC_4.out.cell (i := 2) rfl
              have cHC3 := HC_4.out.cell (i := 3) rfl
              have cHC4 := HC_4.out.cell (i := 4) rfl
              have cHV0 := HV_4.out.cell (i := 0) rfl
              have cHV1 := HV_4.out.cell (i := 1) rfl
              have cHV2 := HV_4.out.cell (i := 2) rfl
              have cHV3 := HV_4.out.cell (i := 3) rfl
              have cHV4 := HV_4.out.cell (i := 4) rfl
              have cHA0 := HA_4.out.cell (i := 0) rfl
              have cHA1 := HA_4.out.cell (i := 1) rfl
              go_wp2_with fail
              clear s0 s1 s2 cHX10 cHX11 cHX20 cHX21 cHX22 cHC0 cHC1 cHC2 cHC3 cHC4 cHV0 cHV1 cHV2 cHV3 cHV4 cHA0 cHA1
              refine (HS_4.out.find5 Hfd.out).mono ?_
              rintro e w5_x ⟨rfl, hb5_x⟩
              have HS_5 := Lib.hid ((HS_4.out.below hb5_x).below (below1 w5_x (.cells #[.int .i64 t1, .int .i64 t2, .int .i64 t3] 32)))
              have HB_5 := Lib.hid (bel_al (bel_bl HB_4.out hb5_x) (.cells #[.int .i64 t1, .int .i64 t2, .int .i64 t3] 32))
              have HX1_5 := Lib.hid ((HX1_4.out.below hb5_x).below (below1 w5_x (.cells #[.int .i64 t1, .int .i64 t2, .int .i64 t3] 32)))
              have HX2_5 := Lib.hid ((HX2_4.out.below hb5_x).below (below1 w5_x (.cells #[.int .i64 t1, .int .i64 t2, .int .i64 t3] 32)))
              have HC_5 := Lib.hid ((HC_4.out.below hb5_x).below (below1 w5_x (.cells #[.int .i64 t1, .int .i64 t2, .int .i64 t3] 32)))
              have HV_5 := Lib.hid ((HV_4.out.below hb5_x).below (below1 w5_x (.cells #[.int .i64 t1, .int .i64 t2, .int .i64 t3] 32)))
              have HA_5 := Lib.hid ((HA_4.out.below hb5_x).below (below1 w5_x (.cells #[.int .i64 t1, .int .i64 t2, .int .i64 t3] 32)))
              have HT_5 : RowKit.Hid (Whole (w5_x.alloc (.cells #[.int .i64 t1, .int .i64 t2, .int .i64 t3] 32)) w5_x.heap.size 32 [.int .i64 t1, .int .i64 t2, .int .i64 t3]) := Lib.hid (Whole.new_ _ _ _)
              clear hb5_x HS_4 HB_4 HX1_4 HX2_4 HC_4 HV_4 HA_4
              have s0 := HS_5.out.box.cell (i := 0) rfl
              have s1 := HS_5.out.box.cell (i := 1) rfl
              have s2 := HS_5.out.box.cell (i := 2) rfl
              have cHX10 := HX1_5.out.cell (i := 0) rfl
              have cHX11 := HX1_5.out.cell (i := 1) rfl
              have cHX20 := HX2_5.out.cell (i := 0) rfl
              have cHX21 := HX2_5.out.cell (i := 1) rfl
              have cHX22 := HX2_5.out.cell (i := 2) rfl
              have cHC0 := HC_5.out.cell (i := 0) rfl
              have cHC1 := HC_5.out.cell (i := 1) rfl
              have cHC2 := HC_5.out.cell (i := 2) rfl
              have cHC3 := HC_5.out.cell (i := 3) rfl
              have cHC4 := HC_5.out.cell (i := 4) rfl
              have cHV0 := HV_5.out.cell (i := 0) rfl
              have cHV1 := HV_5.out.cell (i := 1) rfl
              have cHV2 := HV_5.out.cell (i := 2) rfl
              have cHV3 := HV_5.out.cell (i := 3) rfl
              have cHV4 := HV_5.out.cell (i := 4) rfl
              have cHA0 := HA_5.out.cell (i := 0) rfl
              have cHA1 := HA_5.out.cell (i := 1) rfl
              have cHT0 := HT_5.out.cell (i := 0) rfl
              have cHT1 := HT_5.out.cell (i := 1) rfl
              have cHT2 := HT_5.out.cell (i := 2) rfl
              go_wp2_with fail
              clear s0 s1 s2 cHX10 cHX11 cHX20 cHX21 cHX22 cHC0 cHC1 cHC2 cHC3 cHC4 cHV0 cHV1 cHV2 cHV3 cHV4 cHA0 cHA1 cHT0 cHT1 cHT2
              refine (HS_5.out.rat5 Hst2.out).mono ?_
              rintro e w6_x ⟨j3, j4, rfl, hb6_x⟩
              have HS_6 := Lib.hid ((HS_5.out.below hb6_x).below (below1 w6_x (.cells #[.int .i64 j3, .int .i64 j4] 30)))
              have HB_6 := Lib.hid (bel_al (bel_bl HB_5.out hb6_x) (.cells #[.int .i64 j3, .int .i64 j4] 30))
              have HX1_6 := Lib.hid ((HX1_5.out.below hb6_x).below (below1 w6_x (.cells #[.int .i64 j3, .int .i64 j4] 30)))
              have HX2_6 := Lib.hid ((HX2_5.out.below hb6_x).below (below1 w6_x (.cells #[.int .i64 j3, .int .i64 j4] 30)))
              have HC_6 := Lib.hid ((HC_5.out.below hb6_x).below (below1 w6_x (.cells #[.int .i64 j3, .int .i64 j4] 30)))
              have HV_6 := Lib.hid ((HV_5.out.below hb6_x).below (below1 w6_x (.cells #[.int .i64 j3, .int .i64 j4] 30)))
              have HA_6 := Lib.hid ((HA_5.out.below hb6_x).below (below1 w6_x (.cells #[.int .i64 j3, .int .i64 j4] 30)))
              have HT_6 := Lib.hid ((HT_5.out.below hb6_x).below (below1 w6_x (.cells #[.int .i64 j3, .int .i64 j4] 30)))
              have HA2_6 : RowKit.Hid (Whole (w6_x.alloc (.cells #[.int .i64 j3, .int .i64 j4] 30)) w6_x.heap.size 30 [.int .i64 j3, .int .i64 j4]) := Lib.hid (Whole.new_ _ _ _)
              clear hb6_x HS_5 HB_5 HX1_5 HX2_5 HC_5 HV_5 HA_5 HT_5
              have s0 := HS_6.out.box.cell (i := 0) rfl
              have s1 := HS_6.out.box.cell (i := 1) rfl
              have s2 := HS_6.out.box.cell (i := 2) rfl
              have cHX10 := HX1_6.out.cell (i := 0) rfl
              have cHX11 := HX1_6.out.cell (i := 1) rfl
              have cHX20 := HX2_6.out.cell (i := 0) rfl
              have cHX21 := HX2_6.out.cell (i := 1) rfl
              have cHX22 := HX2_6.out.cell (i := 2) rfl
              have cHC0 := HC_6.out.cell (i := 0) rfl
              have cHC1 := HC_6.out.cell (i := 1) rfl
              have cHC2 := HC_6.out.cell (i := 2) rfl
              have cHC3 := HC_6.out.cell (i := 3) rfl
              have cHC4 := HC_6.out.cell (i := 4) rfl
              have cHV0 := HV_6.out.cell (i := 0) rfl
              have cHV1 := HV_6.out.cell (i := 1) rfl
              have cHV2 := HV_6.out.cell (i := 2) rfl
              have cHV3 := HV_6.out.cell (i := 3) rfl
              have cHV4 := HV_6.out.cell (i := 4) rfl
              have cHA0 := HA_6.out.cell (i := 0) rfl
              have cHA1 := HA_6.out.cell (i := 1) rfl
              have cHT0 := HT_6.out.cell (i := 0) rfl
              have cHT1 := HT_6.out.cell (i := 1) rfl
              have cHT2 := HT_6.out.cell (i := 2) rfl
              have cHA20 := HA2_6.out.cell (i := 0) rfl
              have cHA21 := HA2_6.out.cell (i := 1) rfl
              go_wp2_with fail
              clear s0 s1 s2 cHX10 cHX11 cHX20 cHX21 cHX22 cHC0 cHC1 cHC2 cHC3 cHC4 cHV0 cHV1 cHV2 cHV3 cHV4 cHA0 cHA1 cHT0 cHT1 cHT2 cHA20 cHA21
              refine (HS_6.out.cor_yes5 (congrArg Prod.snd Hgr.out) Hnt.out).mono ?_
              rintro e w7_x ⟨rfl, hb7_x⟩
              have HS_7 := Lib.hid ((HS_6.out.below hb7_x).below (below1 w7_x (.cells #[.int .i64 x1, .int .i64 x2, .int .i64 z1, .int .i64 z2, .int .i64 z3] 34)))
              have HB_7 := Lib.hid (bel_al (bel_bl HB_6.out hb7_x) (.cells #[.int .i64 x1, .int .i64 x2, .int .i64 z1, .int .i64 z2, .int .i64 z3] 34))
              have HX1_7 := Lib.hid ((HX1_6.out.below hb7_x).below (below1 w7_x (.cells #[.int .i64 x1, .int .i64 x2, .int .i64 z1, .int .i64 z2, .int .i64 z3] 34)))
              have HX2_7 := Lib.hid ((HX2_6.out.below hb7_x).below (below1 w7_x (.cells #[.int .i64 x1, .int .i64 x2, .int .i64 z1, .int .i64 z2, .int .i64 z3] 34)))
              have HC_7 := Lib.hid ((HC_6.out.below hb7_x).below (below1 w7_x (.cells #[.int .i64 x1, .int .i64 x2, .int .i64 z1, .int .i64 z2, .int .i64 z3] 34)))
              have HV_7 := Lib.hid ((HV_6.out.below hb7_x).below (below1 w7_x (.cells #[.int .i64 x1, .int .i64 x2, .int .i64 z1, .int .i64 z2, .int .i64 z3] 34)))
              have HA_7 := Lib.hid ((HA_6.out.below hb7_x).below (below1 w7_x (.cells #[.int .i64 x1, .int .i64 x2, .int .i64 z1, .int .i64 z2, .int .i64 z3] 34)))
              have HT_7 := Lib.hid ((HT_6.out.below hb7_x).below (below1 w7_x (.cells #[.int .i64 x1, .int .i64 x2, .int .i64 z1, .int .i64 z2, .int .i64 z3] 34)))
              have HA2_7 := Lib.hid ((HA2_6.out.below hb7_x).below (below1 w7_x (.cells #[.int .i64 x1, .int .i64 x2, .int .i64 z1, .int .i64 z2, .int .i64 z3] 34)))
              have HC2_7 : RowKit.Hid (Whole (w7_x.alloc (.cells #[.int .i64 x1, .int .i64 x2, .int .i64 z1, .int .i64 z2, .int .i64 z3] 34)) w7_x.heap.size 34 [.int .i64 x1, .int .i64 x2, .int .i64 z1, .int .i64 z2, .int .i64 z3]) := Lib.hid (Whole.new_ _ _ _)
              clear hb7_x HS_6 HB_6 HX1_6 HX2_6 HC_6 HV_6 HA_6 HT_6 HA2_6
              go_upto_region 19 with fail
              obtain ⟨Wd, gWd⟩ : ∃ z, (w7_x.alloc (.cells #[.int .i64 x1, .int .i64 x2, .int .i64 z1, .int .i64 z2, .int .i64 z3] 34)) = z := ⟨_, rfl⟩
              rw [gWd] at HS_7 HB_7 HX1_7 HX2_7 HC_7 HV_7 HA_7 HT_7 HA2_7 HC2_7 ⊢
              clear gWd
              have ls0 : ∀ w', Kept Nil_ Wd.drew w' → w'.cell? ⟨b0, 0, none⟩ = some (.slice A' n' c') := fun w' h => h.nil_cell (HS_7.out.box.dr.cell (i := 0) rfl)
              have ls1 : ∀ w', Kept Nil_ Wd.drew w' → w'.cell? ⟨b0, 1, none⟩ = some (.slice B' m' k') := fun w' h => h.nil_cell (HS_7.out.box.dr.cell (i := 1) rfl)
              have ls2 : ∀ w', Kept Nil_ Wd.drew w' → w'.cell? ⟨b0, 2, none⟩ = some (.slice C2 g3 gc2) := fun w' h => h.nil_cell (HS_7.out.box.dr.cell (i := 2) rfl)
              have lHX10 : ∀ w', Kept Nil_ Wd.drew w' → w'.cell? ⟨b1, 0, none⟩ = some (.int .i64 x1) := fun w' h => h.nil_cell (HX1_7.out.dr.cell (i := 0) rfl)
              have lHX11 : ∀ w', Kept Nil_ Wd.drew w' → w'.cell? ⟨b1, 1, none⟩ = some (.int .i64 x2) := fun w' h => h.nil_cell (HX1_7.out.dr.cell (i := 1) rfl)
              have lHX20 : ∀ w', Kept Nil_ Wd.drew w' → w'.cell? ⟨b2, 0, none⟩ = some (.int .i64 d1) := fun w' h => h.nil_cell (HX2_7.out.dr.cell (i := 0) rfl)
              have lHX21 : ∀ w', Kept Nil_ Wd.drew w' → w'.cell? ⟨b2, 1, none⟩ = some (.int .i64 d2) := fun w' h => h.nil_cell (HX2_7.out.dr.cell (i := 1) rfl)
              have lHX22 : ∀ w', Kept Nil_ Wd.drew w' → w'.cell? ⟨b2, 2, none⟩ = some (.int .i64 d3) := fun w' h => h.nil_cell (HX2_7.out.dr.cell (i := 2) rfl)
              have lHC0 : ∀ w', Kept Nil_ Wd.drew w' → w'.cell? ⟨w1_x.heap.size, 0, none⟩ = some (.int .i64 x1) := fun w' h => h.nil_cell (HC_7.out.dr.cell (i := 0) rfl)
              have lHC1 : ∀ w', Kept Nil_ Wd.drew w' → w'.cell? ⟨w1_x.heap.size, 1, none⟩ = some (.int .i64 x2) := fun w' h => h.nil_cell (HC_7.out.dr.cell (i := 1) rfl)
              have lHC2 : ∀ w', Kept Nil_ Wd.drew w' → w'.cell? ⟨w1_x.heap.size, 2, none⟩ = some (.int .i64 z1) := fun w' h => h.nil_cell (HC_7.out.dr.cell (i := 2) rfl)
              have lHC3 : ∀ w', Kept Nil_ Wd.drew w' → w'.cell? ⟨w1_x.heap.size, 3, none⟩ = some (.int .i64 z2) := fun w' h => h.nil_cell (HC_7.out.dr.cell (i := 3) rfl)
              have lHC4 : ∀ w', Kept Nil_ Wd.drew w' → w'.cell? ⟨w1_x.heap.size, 4, none⟩ = some (.int .i64 z3) := fun w' h => h.nil_cell (HC_7.out.dr.cell (i := 4) rfl)
              have lHV0 : ∀ w', Kept Nil_ Wd.drew w' → w'.cell? ⟨w2_x.heap.size, 0, none⟩ = some (.int .i64 i1) := fun w' h => h.nil_cell (HV_7.out.dr.cell (i := 0) rfl)
              have lHV1 : ∀ w', Kept Nil_ Wd.drew w' → w'.cell? ⟨w2_x.heap.size, 1, none⟩ = some (.int .i64 i2) := fun w' h => h.nil_cell (HV_7.out.dr.cell (i := 1) rfl)
              have lHV2 : ∀ w', Kept Nil_ Wd.drew w' → w'.cell? ⟨w2_x.heap.size, 2, none⟩ = some (.slice rA rn rc) := fun w' h => h.nil_cell (HV_7.out.dr.cell (i := 2) rfl)
              have lHV3 : ∀ w', Kept Nil_ Wd.drew w' → w'.cell? ⟨w2_x.heap.size, 3, none⟩ = some (.string lb) := fun w' h => h.nil_cell (HV_7.out.dr.cell (i := 3) rfl)
              have lHV4 : ∀ w', Kept Nil_ Wd.drew w' → w'.cell? ⟨w2_x.heap.size, 4, none⟩ = some (.int .i64 at_) := fun w' h => h.nil_cell (HV_7.out.dr.cell (i := 4) rfl)
              have lHA0 : ∀ w', Kept Nil_ Wd.drew w' → w'.cell? ⟨w4_x.heap.size, 0, none⟩ = some (.int .i64 j1) := fun w' h => h.nil_cell (HA_7.out.dr.cell (i := 0) rfl)
              have lHA1 : ∀ w', Kept Nil_ Wd.drew w' → w'.cell? ⟨w4_x.heap.size, 1, none⟩ = some (.int .i64 j2) := fun w' h => h.nil_cell (HA_7.out.dr.cell (i := 1) rfl)
              have lHT0 : ∀ w', Kept Nil_ Wd.drew w' → w'.cell? ⟨w5_x.heap.size, 0, none⟩ = some (.int .i64 t1) := fun w' h => h.nil_cell (HT_7.out.dr.cell (i := 0) rfl)
              have lHT1 : ∀ w', Kept Nil_ Wd.drew w' → w'.cell? ⟨w5_x.heap.size, 1, none⟩ = some (.int .i64 t2) := fun w' h => h.nil_cell (HT_7.out.dr.cell (i := 1) rfl)
              have lHT2 : ∀ w', Kept Nil_ Wd.drew w' → w'.cell? ⟨w5_x.heap.size, 2, none⟩ = some (.int .i64 t3) := fun w' h => h.nil_cell (HT_7.out.dr.cell (i := 2) rfl)
              have lHA20 : ∀ w', Kept Nil_ Wd.drew w' → w'.cell? ⟨w6_x.heap.size, 0, none⟩ = some (.int .i64 j3) := fun w' h => h.nil_cell (HA2_7.out.dr.cell (i := 0) rfl)
              have lHA21 : ∀ w', Kept Nil_ Wd.drew w' → w'.cell? ⟨w6_x.heap.size, 1, none⟩ = some (.int .i64 j4) := fun w' h => h.nil_cell (HA2_7.out.dr.cell (i := 1) rfl)
              have lHC20 : ∀ w', Kept Nil_ Wd.drew w' → w'.cell? ⟨w7_x.heap.size, 0, none⟩ = some (.int .i64 x1) := fun w' h => h.nil_cell (HC2_7.out.dr.cell (i := 0) rfl)
              have lHC21 : ∀ w', Kept Nil_ Wd.drew w' → w'.cell? ⟨w7_x.heap.size, 1, none⟩ = some (.int .i64 x2) := fun w' h => h.nil_cell (HC2_7.out.dr.cell (i := 1) rfl)
              have lHC22 : ∀ w', Kept Nil_ Wd.drew w' → w'.cell? ⟨w7_x.heap.size, 2, none⟩ = some (.int .i64 z1) := fun w' h => h.nil_cell (HC2_7.out.dr.cell (i := 2) rfl)
              have lHC23 : ∀ w', Kept Nil_ Wd.drew w' → w'.cell? ⟨w7_x.heap.size, 3, none⟩ = some (.int .i64 z2) := fun w' h => h.nil_cell (HC2_7.out.dr.cell (i := 3) rfl)
              have lHC24 : ∀ w', Kept Nil_ Wd.drew w' → w'.cell? ⟨w7_x.heap.size, 4, none⟩ = some (.int .i64 z3) := fun w' h => h.nil_cell (HC2_7.out.dr.cell (i := 4) rfl)
              have HKb : RowKit.Hid (∀ w', Kept Nil_ Wd.drew w' → Below Wd.heap.size Wd w') := Lib.hid (fun w' h => bel_bl (bel_dr (Below.refl _ _)) (h.below (Nat.le_refl _) (fun _ _ h => h)))
              have heqC := eq_cor_self x1 x2 z1 z2 z3
              have heqT := eq_dart_self t1 t2 t3
              refine wp_region_reg (Nil_) (by kernel_rfl) ?_
              apply wpR_next 0 (some 126)
              · simp only [List.getElem?_toArray, List.getElem?_cons_succ, List.getElem?_cons_zero]; exact rfl
              · rfl
              · kernel_rfl
              · kernel_rfl
              · kernel_rfl
              · exact fun _ _ _ _ h => h
              apply Exists.intro
              apply And.intro
              · apply yr_run; rfl; intro w' hw'; go_simp; (try with_reducible rfl)
              simp only [Act.put, List.setIfInBounds_toArray, List.set_cons_zero, List.set_cons_succ]
              apply wpR_next 1 (some 127)
              · simp only [List.getElem?_toArray, List.getElem?_cons_succ, List.getElem?_cons_zero]; exact rfl
              · rfl
              · kernel_rfl
              · kernel_rfl
              · kernel_rfl
              · exact fun _ _ _ _ h => h
              apply Exists.intro
              apply And.intro
              · apply yr_run; rfl; intro w' hw'; go_simp; (try with_reducible rfl)
              simp only [Act.put, List.setIfInBounds_toArray, List.set_cons_zero, List.set_cons_succ]
              apply wpR_next 2 (some 128)
              · simp only [List.getElem?_toArray, List.getElem?_cons_succ, List.getElem?_cons_zero]; exact rfl
              · rfl
              · kernel_rfl
              · kernel_rfl
              · kernel_rfl
              · exact fun _ _ _ _ h => h
              apply Exists.intro
              apply And.intro
              · apply yr_run; rfl; intro w' hw'; go_simp; (try with_reducible rfl)
              simp only [Act.put, List.setIfInBounds_toArray, List.set_cons_zero, List.set_cons_succ]
              apply wpR_next 3 (some 129)
              · simp only [List.getElem?_toArray, List.getElem?_cons_succ, List.getElem?_cons_zero]; exact rfl
              · rfl
              · kernel_rfl
              · kernel_rfl
              · kernel_rfl
              · exact fun _ _ _ _ h => h
              apply Exists.intro
              apply And.intro
              · apply yr_run; rfl; intro w' hw'; go_simp; (try with_reducible rfl)
              simp only [Act.put, List.setIfInBounds_toArray, List.set_cons_zero, List.set_cons_succ]
              apply wpR_next 4 (some 130)
              · simp only [List.getElem?_toArray, List.getElem?_cons_succ, List.getElem?_cons_zero]; exact rfl
              · rfl
              · kernel_rfl
              · kernel_rfl
              · kernel_rfl
              · exact fun _ _ _ _ h => h
              apply Exists.intro
              apply And.intro
              · apply yr_run; rfl; intro w' hw'; go_simp; (try with_reducible rfl)
              simp only [Act.put, List.setIfInBounds_toArray, List.set_cons_zero, List.set_cons_succ]
              apply wpR_next 5 (some 131)
              · simp only [List.getElem?_toArray, List.getElem?_cons_succ, List.getElem?_cons_zero]; exact rfl
              · rfl
              · kernel_rfl
              · kernel_rfl
              · kernel_rfl
              · exact fun _ _ _ _ h => h
              apply Exists.intro
              apply And.intro
              · apply yr_run; rfl; intro w' hw'; go_simp; (try with_reducible rfl)
              simp only [Act.put, List.setIfInBounds_toArray, List.set_cons_zero, List.set_cons_succ]
              apply wpR_next 6 (some 132)
              · simp only [List.getElem?_toArray, List.getElem?_cons_succ, List.getElem?_cons_zero]; exact rfl
              · rfl
              · kernel_rfl
              · kernel_rfl
              · kernel_rfl
              · exact fun _ _ _ _ h => h
              apply Exists.intro
              apply And.intro
              · apply yr_run; rfl; intro w' hw'; go_simp; (try with_reducible rfl)
              simp only [Act.put, List.setIfInBounds_toArray, List.set_cons_zero, List.set_cons_succ]
              apply wpR_next 7 (some 133)
              · simp only [List.getElem?_toArray, List.getElem?_cons_succ, List.getElem?_cons_zero]; exact rfl
              · rfl
              · kernel_rfl
              · kernel_rfl
              · kernel_rfl
              · exact fun _ _ _ _ h => h
              apply Exists.intro
              apply And.intro
              · apply yr_run; rfl; intro w' hw'; go_simp; (try with_reducible rfl)
              simp only [Act.put, List.setIfInBounds_toArray, List.set_cons_zero, List.set_cons_succ]
              apply wpR_next 8 (some 134)
              · simp only [List.getElem?_toArray, List.getElem?_cons_succ, List.getElem?_cons_zero]; exact rfl
              · rfl
              · kernel_rfl
              · kernel_rfl
              · kernel_rfl
              · exact fun _ _ _ _ h => h
              apply Exists.intro
              apply And.intro
              · apply yr_run; rfl; intro w' hw'; go_simp; (try with_reducible rfl)
              simp only [Act.put, List.setIfInBounds_toArray, List.set_cons_zero, List.set_cons_succ]
              apply wpR_next 9 (some 135)
              · simp only [List.getElem?_toArray, List.getElem?_cons_succ, List.getElem?_cons_zero]; exact rfl
              · rfl
              · kernel_rfl
              · kernel_rfl
              · kernel_rfl
              · exact fun _ _ _ _ h => h
              apply Exists.intro
              apply And.intro
              · apply yr_run; rfl; intro w' hw'; go_simp; (try with_reducible rfl)
              simp only [Act.put, List.setIfInBounds_toArray, List.set_cons_zero, List.set_cons_succ]
              apply wpR_next 10 (some 136)
              · simp only [List.getElem?_toArray, List.getElem?_cons_succ, List.getElem?_cons_zero]; exact rfl
              · rfl
              · kernel_rfl
              · kernel_rfl
              · kernel_rfl
              · exact fun _ _ _ _ h => h
              apply Exists.intro
              apply And.intro
              · apply yr_run; rfl; intro w' hw'; go_simp; (try with_reducible rfl)
              simp only [Act.put, List.setIfInBounds_toArray, List.set_cons_zero, List.set_cons_succ]
              apply wpR_next 11 (some 137)
              · simp only [List.getElem?_toArray, List.getElem?_cons_succ, List.getElem?_cons_zero]; exact rfl
              · rfl
              · kernel_rfl
              · kernel_rfl
              · kernel_rfl
              · exact fun _ _ _ _ h => h
              apply Exists.intro
              apply And.intro
              · apply yr_run; rfl; intro w' hw'; go_simp; (try with_reducible rfl)
              simp only [Act.put, List.setIfInBounds_toArray, List.set_cons_zero, List.set_cons_succ]
              apply wpR_next 12 (some 138)
              · simp only [List.getElem?_toArray, List.getElem?_cons_succ, List.getElem?_cons_zero]; exact rfl
              · rfl
              · kernel_rfl
              · kernel_rfl
              · kernel_rfl
              · exact fun _ _ _ _ h => h
              apply Exists.intro
              apply And.intro
              · exact yr_run (by rfl) (fun w' hw' => exec_binop_agg .eql 34 (.tmp 136) (.tmp 137) 34 rfl rfl rfl (by kernel_rfl) (heqC w'))
              simp only [Act.put, List.setIfInBounds_toArray, List.set_cons_zero, List.set_cons_succ]
              apply wpR_next 13 (some 139)
              · simp only [List.getElem?_toArray, List.getElem?_cons_succ, List.getElem?_cons_zero]; exact rfl
              · rfl
              · kernel_rfl
              · kernel_rfl
              · kernel_rfl
              · exact fun _ _ _ _ h => h
              apply Exists.intro
              apply And.intro
              · apply yr_run; rfl; intro w' hw'; go_simp; (try with_reducible rfl)
              simp only [Act.put, List.setIfInBounds_toArray, List.set_cons_zero, List.set_cons_succ]
              apply wpR_next 14 (some 140)
              · simp only [List.getElem?_toArray, List.getElem?_cons_succ, List.getElem?_cons_zero]; exact rfl
              · rfl
              · kernel_rfl
              · kernel_rfl
              · kernel_rfl
              · exact fun _ _ _ _ h => h
              apply Exists.intro
              apply And.intro
              · apply yr_run; rfl; intro w' hw'; go_simp; (try with_reducible rfl)
              simp only [Act.put, List.setIfInBounds_toArray, List.set_cons_zero, List.set_cons_succ]
              apply wpR_next 15 (some 141)
              · simp only [List.getElem?_toArray, List.getElem?_cons_succ, List.getElem?_cons_zero]; exact rfl
              · rfl
              · kernel_rfl
              · kernel_rfl
              · kernel_rfl
              · exact fun _ _ _ _ h => h
              apply Exists.intro
              apply And.intro
              · apply yr_run; rfl; intro w' hw'; go_simp; (try with_reducible rfl)
              simp only [Act.put, List.setIfInBounds_toArray, List.set_cons_zero, List.set_cons_succ]
              apply wpR_next 16 (some 142)
              · simp only [List.getElem?_toArray, List.getElem?_cons_succ, List.getElem?_cons_zero]; exact rfl
              · rfl
              · kernel_rfl
              · kernel_rfl
              · kernel_rfl
              · exact fun _ _ _ _ h => h
              apply Exists.intro
              apply And.intro
              · apply yr_run; rfl; intro w' hw'; go_simp; (try with_reducible rfl)
              simp only [Act.put, List.setIfInBounds_toArray, List.set_cons_zero, List.set_cons_succ]
              apply wpR_next 17 (some 143)
              · simp only [List.getElem?_toArray, List.getElem?_cons_succ, List.getElem?_cons_zero]; exact rfl
              · rfl
              · kernel_rfl
              · kernel_rfl
              · kernel_rfl
              · exact fun _ _ _ _ h => h
              apply Exists.intro
              apply And.intro
              · apply yr_call; rfl; rotate_left; intro w' hw'; exact (HS_7.out.below (HKb.out w' hw')).res5 Hrs.out; intro w'; go_simp
              simp only [Act.put, List.setIfInBounds_toArray, List.set_cons_zero, List.set_cons_succ]
              apply wpR_next 18 (some 144)
              · simp only [List.getElem?_toArray, List.getElem?_cons_succ, List.getElem?_cons_zero]; exact rfl
              · rfl
              · kernel_rfl
              · kernel_rfl
              · kernel_rfl
              · exact fun _ _ _ _ h => h
              apply Exists.intro
              apply And.intro
              · apply yr_run; rfl; intro w' hw'; go_simp; (try with_reducible rfl)
              simp only [Act.put, List.setIfInBounds_toArray, List.set_cons_zero, List.set_cons_succ]
              apply wpR_next 19 (some 145)
              · simp only [List.getElem?_toArray, List.getElem?_cons_succ, List.getElem?_cons_zero]; exact rfl
              · rfl
              · kernel_rfl
              · kernel_rfl
              · kernel_rfl
              · exact fun _ _ _ _ h => h
              apply Exists.intro
              apply And.intro
              · exact yr_run (by rfl) (fun w' hw' => exec_binop_agg .eql 32 (.tmp 143) (.tmp 144) 32 rfl rfl rfl (by kernel_rfl) (heqT w'))
              simp only [Act.put, List.setIfInBounds_toArray, List.set_cons_zero, List.set_cons_succ]
              apply wpR_next 20 (some 146)
              · simp only [List.getElem?_toArray, List.getElem?_cons_succ, List.getElem?_cons_zero]; exact rfl
              · rfl
              · kernel_rfl
              · kernel_rfl
              · kernel_rfl
              · exact fun _ _ _ _ h => h
              apply Exists.intro
              apply And.intro
              · apply yr_run; rfl; intro w' hw'; go_simp; (try with_reducible rfl)
              simp only [Act.put, List.setIfInBounds_toArray, List.set_cons_zero, List.set_cons_succ]
              apply wpR_next 21 (some 6)
              · simp only [List.getElem?_toArray, List.getElem?_cons_succ, List.getElem?_cons_zero]; exact rfl
              · rfl
              · kernel_rfl
              · kernel_rfl
              · kernel_rfl
              · exact fun _ _ _ _ h => h
              apply Exists.intro
              apply And.intro
              · apply yr_run; rfl; intro w' hw'; go_simp; (try with_reducible rfl)
              simp only [Act.put, List.setIfInBounds_toArray, List.set_cons_zero, List.set_cons_succ]
              refine wpR_done (by kernel_rfl) ?_ _
              intro W3 hw3
              have HB3 := Lib.hid (bel_bl (bel_dr HB_7.out) hw3)
              clear hw3 ls0 ls1 ls2 lHX10 lHX11 lHX20 lHX21 lHX22 lHC0 lHC1 lHC2 lHC3 lHC4 lHV0 lHV1 lHV2 lHV3 lHV4 lHA0 lHA1 lHT0 lHT1 lHT2 lHA20 lHA21 lHC20 lHC21 lHC22 lHC23 lHC24 HKb
              go_wp2
              go_ret
              exact ⟨rfl, HB3.out⟩
            | false =>
              have s0 := HS.out.box.cell (i := 0) rfl
              have s1 := HS.out.box.cell (i := 1) rfl
              have s2 := HS.out.box.cell (i := 2) rfl
              have cHX10 := HX1.out.cell (i := 0) rfl
              have cHX11 := HX1.out.cell (i := 1) rfl
              have cHX20 := HX2.out.cell (i := 0) rfl
              have cHX21 := HX2.out.cell (i := 1) rfl
              have cHX22 := HX2.out.cell (i := 2) rfl
              go_wp2_with fail
              clear s0 s1 s2 cHX10 cHX11 cHX20 cHX21 cHX22
              refine (HS.out.cor_yes5 (congrArg Prod.snd Hgr.out) Hnr.out).mono ?_
              rintro e w1_x ⟨rfl, hb1_x⟩
              have HS_1 := Lib.hid ((HS.out.below hb1_x).below (below1 w1_x (.cells #[.int .i64 x1, .int .i64 x2, .int .i64 z1, .int .i64 z2, .int .i64 z3] 34)))
              have HB_1 := Lib.hid (bel_al (bel_bl HB.out hb1_x) (.cells #[.int .i64 x1, .int .i64 x2, .int .i64 z1, .int .i64 z2, .int .i64 z3] 34))
              have HX1_1 := Lib.hid ((HX1.out.below hb1_x).below (below1 w1_x (.cells #[.int .i64 x1, .int .i64 x2, .int .i64 z1, .int .i64 z2, .int .i64 z3] 34)))
              have HX2_1 := Lib.hid ((HX2.out.below hb1_x).below (below1 w1_x (.cells #[.int .i64 x1, .int .i64 x2, .int .i64 z1, .int .i64 z2, .int .i64 z3] 34)))
              have HC_1 : RowKit.Hid (Whole (w1_x.alloc (.cells #[.int .i64 x1, .int .i64 x2, .int .i64 z1, .int .i64 z2, .int .i64 z3] 34)) w1_x.heap.size 34 [.int .i64 x1, .int .i64 x2, .int .i64 z1, .int .i64 z2, .int .i64 z3]) := Lib.hid (Whole.new_ _ _ _)
              clear hb1_x HS HB HX1 HX2
              have s0 := HS_1.out.box.cell (i := 0) rfl
              have s1 := HS_1.out.box.cell (i := 1) rfl
              have s2 := HS_1.out.box.cell (i := 2) rfl
              have cHX10 := HX1_1.out.cell (i := 0) rfl
              have cHX11 := HX1_1.out.cell (i := 1) rfl
              have cHX20 := HX2_1.out.cell (i := 0) rfl
              have cHX21 := HX2_1.out.cell (i := 1) rfl
              have cHX22 := HX2_1.out.cell (i := 2) rfl
              have cHC0 := HC_1.out.cell (i := 0) rfl
              have cHC1 := HC_1.out.cell (i := 1) rfl
              have cHC2 := HC_1.out.cell (i := 2) rfl
              have cHC3 := HC_1.out.cell (i := 3) rfl
              have cHC4 := HC_1.out.cell (i := 4) rfl
              go_wp2_with fail
              clear s0 s1 s2 cHX10 cHX11 cHX20 cHX21 cHX22 cHC0 cHC1 cHC2 cHC3 cHC4
              refine (HS_1.out.rvert5 Hgr.out).mono ?_
              rintro e w2_x ⟨rfl, hb2_x⟩
              have HS_2 := Lib.hid ((HS_1.out.below hb2_x).below (below1 w2_x (.cells #[.int .i64 i1, .int .i64 i2, .slice rA rn rc, .string lb, .int .i64 at_] 53)))
              have HB_2 := Lib.hid (bel_al (bel_bl HB_1.out hb2_x) (.cells #[.int .i64 i1, .int .i64 i2, .slice rA rn rc, .string lb, .int .i64 at_] 53))
              have HX1_2 := Lib.hid ((HX1_1.out.below hb2_x).below (below1 w2_x (.cells #[.int .i64 i1, .int .i64 i2, .slice rA rn rc, .string lb, .int .i64 at_] 53)))
              have HX2_2 := Lib.hid ((HX2_1.out.below hb2_x).below (below1 w2_x (.cells #[.int .i64 i1, .int .i64 i2, .slice rA rn rc, .string lb, .int .i64 at_] 53)))
              have HC_2 := Lib.hid ((HC_1.out.below hb2_x).below (below1 w2_x (.cells #[.int .i64 i1, .int .i64 i2, .slice rA rn rc, .string lb, .int .i64 at_] 53)))
              have HV_2 : RowKit.Hid (Whole (w2_x.alloc (.cells #[.int .i64 i1, .int .i64 i2, .slice rA rn rc, .string lb, .int .i64 at_] 53)) w2_x.heap.size 53 [.int .i64 i1, .int .i64 i2, .slice rA rn rc, .string lb, .int .i64 at_]) := Lib.hid (Whole.new_ _ _ _)
              clear hb2_x HS_1 HB_1 HX1_1 HX2_1 HC_1
              have s0 := HS_2.out.box.cell (i := 0) rfl
              have s1 := HS_2.out.box.cell (i := 1) rfl
              have s2 := HS_2.out.box.cell (i := 2) rfl
              have cHX10 := HX1_2.out.cell (i := 0) rfl
              have cHX11 := HX1_2.out.cell (i := 1) rfl
              have cHX20 := HX2_2.out.cell (i := 0) rfl
              have cHX21 := HX2_2.out.cell (i := 1) rfl
              have cHX22 := HX2_2.out.cell (i := 2) rfl
              have cHC0 := HC_2.out.cell (i := 0) rfl
              have cHC1 := HC_2.out.cell (i := 1) rfl
              have cHC2 := HC_2.out.cell (i := 2) rfl
              have cHC3 := HC_2.out.cell (i := 3) rfl
              have cHC4 := HC_2.out.cell (i := 4) rfl
              have cHV0 := HV_2.out.cell (i := 0) rfl
              have cHV1 := HV_2.out.cell (i := 1) rfl
              have cHV2 := HV_2.out.cell (i := 2) rfl
              have cHV3 := HV_2.out.cell (i := 3) rfl
              have cHV4 := HV_2.out.cell (i := 4) rfl
              go_wp2_with fail
              clear s0 s1 s2 cHX10 cHX11 cHX20 cHX21 cHX22 cHC0 cHC1 cHC2 cHC3 cHC4 cHV0 cHV1 cHV2 cHV3 cHV4
              refine (HS_2.out.ring5 Hgr.out Hix.out).mono ?_
              rintro e w3_x ⟨rfl, hb3_x⟩
              have HS_3 := Lib.hid (HS_2.out.below hb3_x)
              have HB_3 := Lib.hid (bel_bl HB_2.out hb3_x)
              have HX1_3 := Lib.hid (HX1_2.out.below hb3_x)
              have HX2_3 := Lib.hid (HX2_2.out.below hb3_x)
              have HC_3 := Lib.hid (HC_2.out.below hb3_x)
              have HV_3 := Lib.hid (HV_2.out.below hb3_x)
              clear hb3_x HS_2 HB_2 HX1_2 HX2_2 HC_2 HV_2
              have s0 := HS_3.out.box.cell (i := 0) rfl
              have s1 := HS_3.out.box.cell (i := 1) rfl
              have s2 := HS_3.out.box.cell (i := 2) rfl
              have cHX10 := HX1_3.out.cell (i := 0) rfl
              have cHX11 := HX1_3.out.cell (i := 1) rfl
              have cHX20 := HX2_3.out.cell (i := 0) rfl
              have cHX21 := HX2_3.out.cell (i := 1) rfl
              have cHX22 := HX2_3.out.cell (i := 2) rfl
              have cHC0 := HC_3.out.cell (i := 0) rfl
              have cHC1 := HC_3.out.cell (i := 1) rfl
              have cHC2 := HC_3.out.cell (i := 2) rfl
              have cHC3 := HC_3.out.cell (i := 3) rfl
              have cHC4 := HC_3.out.cell (i := 4) rfl
              have cHV0 := HV_3.out.cell (i := 0) rfl
              have cHV1 := HV_3.out.cell (i := 1) rfl
              have cHV2 := HV_3.out.cell (i := 2) rfl
              have cHV3 := HV_3.out.cell (i := 3) rfl
              have cHV4 := HV_3.out.cell (i := 4) rfl
              go_wp2_with fail
              clear s0 s1 s2 cHX10 cHX11 cHX20 cHX21 cHX22 cHC0 cHC1 cHC2 cHC3 cHC4 cHV0 cHV1 cHV2 cHV3 cHV4
              refine (HS_3.out.rat5 Hst.out).mono ?_
              rintro e w4_x ⟨j1, j2, rfl, hb4_x⟩
              have HS_4 := Lib.hid ((HS_3.out.below hb4_x).below (below1 w4_x (.cells #[.int .i64 j1, .int .i64 j2] 30)))
              have HB_4 := Lib.hid (bel_al (bel_bl HB_3.out hb4_x) (.cells #[.int .i64 j1, .int .i64 j2] 30))
              have HX1_4 := Lib.hid ((HX1_3.out.below hb4_x).below (below1 w4_x (.cells #[.int .i64 j1, .int .i64 j2] 30)))
              have HX2_4 := Lib.hid ((HX2_3.out.below hb4_x).below (below1 w4_x (.cells #[.int .i64 j1, .int .i64 j2] 30)))
              have HC_4 := Lib.hid ((HC_3.out.below hb4_x).below (below1 w4_x (.cells #[.int .i64 j1, .int .i64 j2] 30)))
              have HV_4 := Lib.hid ((HV_3.out.below hb4_x).below (below1 w4_x (.cells #[.int .i64 j1, .int .i64 j2] 30)))
              have HA_4 : RowKit.Hid (Whole (w4_x.alloc (.cells #[.int .i64 j1, .int .i64 j2] 30)) w4_x.heap.size 30 [.int .i64 j1, .int .i64 j2]) := Lib.hid (Whole.new_ _ _ _)
              clear hb4_x HS_3 HB_3 HX1_3 HX2_3 HC_3 HV_3
              have s0 := HS_4.out.box.cell (i := 0) rfl
              have s1 := HS_4.out.box.cell (i := 1) rfl
              have s2 := HS_4.out.box.cell (i := 2) rfl
              have cHX10 := HX1_4.out.cell (i := 0) rfl
              have cHX11 := HX1_4.out.cell (i := 1) rfl
              have cHX20 := HX2_4.out.cell (i := 0) rfl
              have cHX21 := HX2_4.out.cell (i := 1) rfl
              have cHX22 := HX2_4.out.cell (i := 2) rfl
              have cHC0 := HC_4.out.cell (i := 0) rfl
              have cHC1 := HC_4.out.cell (i := 1) rfl
              have cHC2 := HC_4.out.cell (i := 2) rfl
              have cHC3 := HC_4.out.cell (i := 3) rfl
              have cHC4 := HC_4.out.cell (i := 4) rfl
              have cHV0 := HV_4.out.cell (i := 0) rfl
              have cHV1 := HV_4.out.cell (i := 1) rfl
              have cHV2 := HV_4.out.cell (i := 2) rfl
              have cHV3 := HV_4.out.cell (i := 3) rfl
              have cHV4 := HV_4.out.cell (i := 4) rfl
              have cHA0 := HA_4.out.cell (i := 0) rfl
              have cHA1 := HA_4.out.cell (i := 1) rfl
              go_wp2_with fail
              clear s0 s1 s2 cHX10 cHX11 cHX20 cHX21 cHX22 cHC0 cHC1 cHC2 cHC3 cHC4 cHV0 cHV1 cHV2 cHV3 cHV4 cHA0 cHA1
              refine (HS_4.out.find5 Hfd.out).mono ?_
              rintro e w5_x ⟨rfl, hb5_x⟩
              have HS_5 := Lib.hid ((HS_4.out.below hb5_x).below (below1 w5_x (.cells #[.int .i64 t1, .int .i64 t2, .int .i64 t3] 32)))
              have HB_5 := Lib.hid (bel_al (bel_bl HB_4.out hb5_x) (.cells #[.int .i64 t1, .int .i64 t2, .int .i64 t3] 32))
              have HX1_5 := Lib.hid ((HX1_4.out.below hb5_x).below (below1 w5_x (.cells #[.int .i64 t1, .int .i64 t2, .int .i64 t3] 32)))
              have HX2_5 := Lib.hid ((HX2_4.out.below hb5_x).below (below1 w5_x (.cells #[.int .i64 t1, .int .i64 t2, .int .i64 t3] 32)))
              have HC_5 := Lib.hid ((HC_4.out.below hb5_x).below (below1 w5_x (.cells #[.int .i64 t1, .int .i64 t2, .int .i64 t3] 32)))
              have HV_5 := Lib.hid ((HV_4.out.below hb5_x).below (below1 w5_x (.cells #[.int .i64 t1, .int .i64 t2, .int .i64 t3] 32)))
              have HA_5 := Lib.hid ((HA_4.out.below hb5_x).below (below1 w5_x (.cells #[.int .i64 t1, .int .i64 t2, .int .i64 t3] 32)))
              have HT_5 : RowKit.Hid (Whole (w5_x.alloc (.cells #[.int .i64 t1, .int .i64 t2, .int .i64 t3] 32)) w5_x.heap.size 32 [.int .i64 t1, .int .i64 t2, .int .i64 t3]) := Lib.hid (Whole.new_ _ _ _)
              clear hb5_x HS_4 HB_4 HX1_4 HX2_4 HC_4 HV_4 HA_4
              have s0 := HS_5.out.box.cell (i := 0) rfl
              have s1 := HS_5.out.box.cell (i := 1) rfl
              have s2 := HS_5.out.box.cell (i := 2) rfl
              have cHX10 := HX1_5.out.cell (i := 0) rfl
              have cHX11 := HX1_5.out.cell (i := 1) rfl
              have cHX20 := HX2_5.out.cell (i := 0) rfl
              have cHX21 := HX2_5.out.cell (i := 1) rfl
              have cHX22 := HX2_5.out.cell (i := 2) rfl
              have cHC0 := HC_5.out.cell (i := 0) rfl
              have cHC1 := HC_5.out.cell (i := 1) rfl
              have cHC2 := HC_5.out.cell (i := 2) rfl
              have cHC3 := HC_5.out.cell (i := 3) rfl
              have cHC4 := HC_5.out.cell (i := 4) rfl
              have cHV0 := HV_5.out.cell (i := 0) rfl
              have cHV1 := HV_5.out.cell (i := 1) rfl
              have cHV2 := HV_5.out.cell (i := 2) rfl
              have cHV3 := HV_5.out.cell (i := 3) rfl
              have cHV4 := HV_5.out.cell (i := 4) rfl
              have cHA0 := HA_5.out.cell (i := 0) rfl
              have cHA1 := HA_5.out.cell (i := 1) rfl
              have cHT0 := HT_5.out.cell (i := 0) rfl
              have cHT1 := HT_5.out.cell (i := 1) rfl
              have cHT2 := HT_5.out.cell (i := 2) rfl
              go_wp2_with fail
              clear s0 s1 s2 cHX10 cHX11 cHX20 cHX21 cHX22 cHC0 cHC1 cHC2 cHC3 cHC4 cHV0 cHV1 cHV2 cHV3 cHV4 cHA0 cHA1 cHT0 cHT1 cHT2
              refine (HS_5.out.rat5 Hst2.out).mono ?_
              rintro e w6_x ⟨j3, j4, rfl, hb6_x⟩
              have HS_6 := Lib.hid ((HS_5.out.below hb6_x).below (below1 w6_x (.cells #[.int .i64 j3, .int .i64 j4] 30)))
              have HB_6 := Lib.hid (bel_al (bel_bl HB_5.out hb6_x) (.cells #[.int .i64 j3, .int .i64 j4] 30))
              have HX1_6 := Lib.hid ((HX1_5.out.below hb6_x).below (below1 w6_x (.cells #[.int .i64 j3, .int .i64 j4] 30)))
              have HX2_6 := Lib.hid ((HX2_5.out.below hb6_x).below (below1 w6_x (.cells #[.int .i64 j3, .int .i64 j4] 30)))
              have HC_6 := Lib.hid ((HC_5.out.below hb6_x).below (below1 w6_x (.cells #[.int .i64 j3, .int .i64 j4] 30)))
              have HV_6 := Lib.hid ((HV_5.out.below hb6_x).below (below1 w6_x (.cells #[.int .i64 j3, .int .i64 j4] 30)))
              have HA_6 := Lib.hid ((HA_5.out.below hb6_x).below (below1 w6_x (.cells #[.int .i64 j3, .int .i64 j4] 30)))
              have HT_6 := Lib.hid ((HT_5.out.below hb6_x).below (below1 w6_x (.cells #[.int .i64 j3, .int .i64 j4] 30)))
              have HA2_6 : RowKit.Hid (Whole (w6_x.alloc (.cells #[.int .i64 j3, .int .i64 j4] 30)) w6_x.heap.size 30 [.int .i64 j3, .int .i64 j4]) := Lib.hid (Whole.new_ _ _ _)
              clear hb6_x HS_5 HB_5 HX1_5 HX2_5 HC_5 HV_5 HA_5 HT_5
              have heqI := eq_id_self x1 x2
              have s0 := HS_6.out.box.cell (i := 0) rfl
              have s1 := HS_6.out.box.cell (i := 1) rfl
              have s2 := HS_6.out.box.cell (i := 2) rfl
              have cHX10 := HX1_6.out.cell (i := 0) rfl
              have cHX11 := HX1_6.out.cell (i := 1) rfl
              have cHX20 := HX2_6.out.cell (i := 0) rfl
              have cHX21 := HX2_6.out.cell (i := 1) rfl
              have cHX22 := HX2_6.out.cell (i := 2) rfl
              have cHC0 := HC_6.out.cell (i := 0) rfl
              have cHC1 := HC_6.out.cell (i := 1) rfl
              have cHC2 := HC_6.out.cell (i := 2) rfl
              have cHC3 := HC_6.out.cell (i := 3) rfl
              have cHC4 := HC_6.out.cell (i := 4) rfl
              have cHV0 := HV_6.out.cell (i := 0) rfl
              have cHV1 := HV_6.out.cell (i := 1) rfl
              have cHV2 := HV_6.out.cell (i := 2) rfl
              have cHV3 := HV_6.out.cell (i := 3) rfl
              have cHV4 := HV_6.out.cell (i := 4) rfl
              have cHA0 := HA_6.out.cell (i := 0) rfl
              have cHA1 := HA_6.out.cell (i := 1) rfl
              have cHT0 := HT_6.out.cell (i := 0) rfl
              have cHT1 := HT_6.out.cell (i := 1) rfl
              have cHT2 := HT_6.out.cell (i := 2) rfl
              have cHA20 := HA2_6.out.cell (i := 0) rfl
              have cHA21 := HA2_6.out.cell (i := 1) rfl
              go_wp2
              clear s0 s1 s2 cHX10 cHX11 cHX20 cHX21 cHX22 cHC0 cHC1 cHC2 cHC3 cHC4 cHV0 cHV1 cHV2 cHV3 cHV4 cHA0 cHA1 cHT0 cHT1 cHT2 cHA20 cHA21
              go_ret
              exact ⟨rfl, HB_6.out⟩
end Go.Proofs.Ytkhklhipiiehbaa

/- Words for all layers, in one text. -/
namespace Go.Proofs.Ytkhklhipiiehbaa
open Go.ChangeShapes Go.WideShapes Go.ChangeAt Go.RowKit

section
variable {H : Type} {enc : TypeId × Value → H} {P : Program}

/-- A row of arguments reads as it did where below the old heap's end nothing has turned. -/
theorem trodAll_stays (hl : laidOutB P = true) {W W' : World} (hb : Below W.heap.size W W') : ∀ (ts : List TypeId) (vs : List Value) (ds : List (DataW H)) (ps : List MemPlace) (sp : Nat → Bool),
    (∀ t ∈ ts, P.readableRec t = true ∧ t < P.types.size) → DataW.TrodAll enc P W 0 (fun _ => true) true ts vs ds ps →
    (∀ p ∈ ps, p.block < W.heap.size) → (∀ p ∈ ps, sp p.block = true) → DataW.TrodAll enc P W' 0 sp true ts vs ds ps
  | [], _, _, _, _, _, h, _, _ => by
    obtain ⟨rfl, rfl, rfl⟩ := trodAll_nil h
    exact rfl
  | t :: ts, vs, ds, ps, sp, ht, h, hlt, hs => by
    obtain ⟨v, vs', d, ds', p, q, rfl, rfl, rfl, h1, h2⟩ := trodAll_cons h
    have ⟨hr, hrow⟩ := ht t (by simp)
    refine ⟨p, q, WideElems.Trod_stays hl hr hrow h1 (fun x hx => hb.same (hlt x (by simp [hx]))) (fun x hx => hs x (by simp [hx])), ?_, rfl⟩
    exact trodAll_stays hl hb ts vs' ds' q sp (fun t' h' => ht t' (by simp [h'])) h2 (fun x hx => hlt x (by simp [hx])) (fun x hx => hs x (by simp [hx]))

/-- A law's post. -/
theorem law_post {f : Func} {s : ChangeSpec} {tb : TypeId} {W W' : World} {args : Array Value} {ds gs : List (DataW H)} {before : List MemPlace}
    (hl : laidOutB P = true) (hts : f.params.toList.all (fun t => P.readableRec t && decide (t < P.types.size)) = true) (hr : f.resultTypes = #[tb]) (htb : P.underlying tb = some .bool) (hv : s.vars = [])
    (hfn : (s.fn H (ds ++ gs)).results = [.lit (.bool true)] ∧ (s.fn H (ds ++ gs)).args = ds ∧ (s.fn H (ds ++ gs)).vars = [])
    (hW : DataW.Whole enc P f.params.toList s.vars false W args.toList ds gs before) (hb : Below W.heap.size W W') :
    s.post enc P f false true false false W args (.bool true) W' := by
  have hts' : ∀ t ∈ f.params.toList, P.readableRec t = true ∧ t < P.types.size := fun t ht => by
    have h := List.all_eq_true.1 hts t ht
    simpa using h
  have hlt : ∀ p ∈ before, p.block < W.heap.size := fun p hp => hW.lt p hp
  have hW' := hW
  obtain ⟨p, q, hA, hV, rfl, hfz, hnd⟩ := hW
  rw [hv] at hV
  obtain ⟨rfl, rfl⟩ := trodVars_none hV
  obtain ⟨e1, e2, e3⟩ := hfn
  refine ⟨ds, [], p ++ [], [], p, [], hW', ?_, ?_, ?_, ?_, fun h => by cases h⟩
  · rw [e1, hr]
    exact trodAll_mk1 (shut_bool htb _)
  · rw [e2]
    exact trodAll_stays hl hb _ _ _ _ _ hts' hA (fun x hx => hlt x (by simp [hx])) (fun x hx => by simpa using hlt x (by simp [hx]))
  · rw [e3, hv]
    rfl
  · exact World.keptBut_mono (fun x hx => ⟨hx, by simpa using hx⟩) (hb.frame (· ∈ p ++ []))
end
end Go.Proofs.Ytkhklhipiiehbaa

/- A law's arguments opened: types that are flat rows of int; what such a value is. -/
namespace Go.Proofs.Ytkhklhipiiehbaa
open Go.ChangeShapes Go.WideShapes Go.ChangeAt Go.RowKit

section
variable {H : Type} {P : Program}

def In64 (n : Int) : Prop := -9223372036854775808 ≤ n ∧ n ≤ 9223372036854775807
end
end Go.Proofs.Ytkhklhipiiehbaa

/- The laws' types as rows of int; what the row's shutting asks of the program. -/
namespace Go.Proofs.Ytkhklhipiiehbaa
open Go.ChangeShapes Go.WideShapes Go.ChangeAt Go.RowKit

theorem Try.own : ownKnob Try.prog.godebug = none := by kernel_rfl
theorem Try.laidOut : laidOutB Try.prog = true := by kernel_rfl

end Go.Proofs.Ytkhklhipiiehbaa

/- A law's slice argument opened: its elements are rows of ints, or bytes. -/
namespace Go.Proofs.Ytkhklhipiiehbaa
open Go.ChangeShapes Go.WideShapes Go.ChangeAt Go.RowKit Go.Deep

section
variable {H : Type} {P : Program}

end
end Go.Proofs.Ytkhklhipiiehbaa

/- A law's arguments opened, by the type: ints, bools, texts, slices, structs of these. -/
namespace Go.Proofs.Ytkhklhipiiehbaa
open Go.ChangeShapes Go.WideShapes Go.ChangeAt Go.RowKit Go.Deep

section
variable {H : Type} {P : Program} {α β : Type}

/-- What reads as data at type t is the cells of some a with p. -/
def Row1 (H : Type) (P : Program) (t : TypeId) (f : α → List Value) (p : World → α → Prop) : Prop :=
  ∀ (enc : TypeId × Value → H) (w : World) (held : Bool) (fuel : Nat) (cs : List Value) (x : DataW H × List MemPlace),
    DataW.trod enc P w 0 (fun _ => true) held fuel t cs = some x → ∃ a, cs = f a ∧ p w a

theorem row1_int {t : TypeId} (ht : P.underlying t = some (.int .i64)) : Row1 H P t (fun n : Int => [.int .i64 n]) (fun _ n => In64 n) := by
  intro enc w held fuel cs x h
  obtain ⟨n, rfl, _, hw⟩ := DataW.trod_int ht h
  exact ⟨n, rfl, bounds_i64 hw⟩
theorem row1_string {t : TypeId} (ht : P.underlying t = some .string) : Row1 H P t (fun s : ByteArray => [.string s]) (fun _ s => s.size ≤ maxLen) := by
  intro enc w held fuel cs x h
  obtain ⟨s, rfl, _, hs⟩ := DataW.trod_string ht h
  exact ⟨s, rfl, hs⟩
theorem Row1.map {t : TypeId} {f : α → List Value} {p : World → α → Prop} (h : Row1 H P t f p) (g : α → β) {f' : β → List Value} {p' : World → β → Prop} (hf : ∀ a, f a = f' (g a)) (hp : ∀ w a, p w a → p' w (g a)) : Row1 H P t f' p' := by
  intro enc w held fuel cs x hx
  obtain ⟨a, rfl, ha⟩ := h enc w held fuel cs x hx
  exact ⟨g a, hf a, hp w a ha⟩

/-- What the fields from cell off on read as. -/
def Fields_ (H : Type) (P : Program) (fs : List Field) (off m : Nat) (g : α → List Value) (q : World → α → Prop) : Prop :=
  ∀ (enc : TypeId × Value → H) (w : World) (held : Bool) (n : Nat) (cs : List Value),
    (∀ fl ∈ fs, ∃ y, DataW.trod enc P w 0 (fun _ => true) held n fl.type ((cs.drop fl.offset).take (P.cellsOf fl.type)) = some y) → ∃ a, (cs.drop off).take m = g a ∧ q w a
theorem fields_nil (off : Nat) : Fields_ H P [] off 0 (fun _ : Unit => []) (fun _ _ => True) := fun _ _ _ _ cs _ => ⟨(), by simp, trivial⟩
theorem fields_cons {fl : Field} {fs : List Field} {off k m : Nat} {f : α → List Value} {p : World → α → Prop} {g : β → List Value} {q : World → β → Prop}
    (h : Row1 H P fl.type f p) (ho : fl.offset = off) (hc : P.cellsOf fl.type = k) (hr : Fields_ H P fs (off + k) m g q) :
    Fields_ H P (fl :: fs) off (k + m) (fun ab : α × β => f ab.1 ++ g ab.2) (fun w ab => p w ab.1 ∧ q w ab.2) := by
  intro enc w held n cs hall
  obtain ⟨y, hy⟩ := hall fl (by simp)
  obtain ⟨a, ha, pa⟩ := h _ _ _ _ _ _ hy
  obtain ⟨b, hb, qb⟩ := hr enc w held n cs (fun fl' h' => hall fl' (by simp [h']))
  rw [ho, hc] at ha
  refine ⟨(a, b), ?_, pa, qb⟩
  show _ = f a ++ g b
  rw [← ha, ← hb, List.take_add, List.drop_drop]
theorem row1_struct {t : TypeId} {fs : List Field} {m : Nat} {g : α → List Value} {q : World → α → Prop} (ht : P.underlying t = some (.struct fs.toArray)) (hc : P.cellsOf t = m) (h : Fields_ H P fs 0 m g q) : Row1 H P t g q := by
  intro enc w held fuel cs x hx
  obtain ⟨xs, n, _, _, hl, hlen, hg⟩ := DataW.trod_struct ht hx
  obtain ⟨a, ha, qa⟩ := h enc w held n cs (fun fl hfl => by
    obtain ⟨i, hi⟩ := List.getElem?_of_mem hfl
    have h1 := hg i fl (by simpa using hi)
    have hlt : i < xs.length := by
      rw [hlen]
      simpa using (List.getElem?_eq_some_iff.1 hi).1
    exact ⟨xs[i], by rw [h1, List.getElem?_eq_getElem hlt]⟩)
  refine ⟨a, ?_, qa⟩
  rw [← ha, List.drop_zero, List.take_of_length_le (by omega)]

theorem row1_rows {e : TypeId} {k : Nat} {f : α → List Value} {p : World → α → Prop} (hi : Row1 H P e f p) (hc : P.cellsOf e = k) (hk : ∀ a, (f a).length = k) (enc : TypeId × Value → H) (W : World) (held : Bool) (a : Addr) (nn : Nat) :
    ∀ n : Nat, (∀ i, i < n → ∃ cs' D, W.cells? 0 (a.add (i * P.cellsOf e)) (P.cellsOf e) = some cs' ∧ DataW.trod enc P W 0 (fun _ => true) held nn e cs' = some D) →
      ∃ l : List α, l.length = n ∧ (∀ j u, (rowsV f l)[j]? = some u → W.cell? (a.add j) = some u) ∧ ∀ x ∈ l, p W x
  | 0, _ => ⟨[], rfl, fun j u h => (by simp [rowsV] at h), fun x h => (by cases h)⟩
  | n + 1, h => by
    obtain ⟨l, hl, hq, hp⟩ := row1_rows hi hc hk enc W held a nn n (fun i hi => h i (by omega))
    obtain ⟨cs', D, h1, h2⟩ := h n (by omega)
    obtain ⟨x, rfl, hx⟩ := hi _ _ _ _ _ _ h2
    rw [hc] at h1
    obtain ⟨_, hln, hat⟩ := World.cells?_some h1
    have hlen : (rowsV f l).length = n * k := by rw [rowsV_length f hk, hl]
    refine ⟨l ++ [x], by simp [hl], fun j u hj => ?_, fun y hy => ?_⟩
    · rw [rowsV_app] at hj
      rcases Nat.lt_or_ge j (n * k) with hlt | hge
      · rw [List.getElem?_append_left (by omega)] at hj
        exact hq j u hj
      · rw [List.getElem?_append_right (by omega), hlen] at hj
        simp only [rowsV, List.append_nil] at hj
        have hjk : j - n * k < k := by
          rcases Nat.lt_or_ge (j - n * k) k with h3 | h3
          · exact h3
          · rw [List.getElem?_eq_none (by rw [hk]; exact h3)] at hj
            cases hj
        have h4 := hat (j - n * k) hjk
        rw [hj, add_add, show n * k + (j - n * k) = j by omega] at h4
        exact h4
    · rcases List.mem_append.1 hy with hy | hy
      · exact hp y hy
      · obtain rfl := List.mem_singleton.1 hy
        exact hx

/-- What a slice reads as. -/
def SlOk (k : Nat) (f : α → List Value) (p : World → α → Prop) (w : World) (s : Option Addr × Nat × Nat × List α) : Prop :=
  s.2.2.1 ≤ maxLen ∧ RdS w w.heap.size k s.1 s.2.1 s.2.2.1 (rowsV f s.2.2.2) ∧ ∀ x ∈ s.2.2.2, p w x
def slCells (s : Option Addr × Nat × Nat × List α) : List Value := [.slice s.1 s.2.1 s.2.2.1]
theorem row1_slice {t e : TypeId} {k : Nat} {f : α → List Value} {p : World → α → Prop} (hi : Row1 H P e f p) (ht : P.underlying t = some (.slice e)) (hc : P.cellsOf e = k) (hk : ∀ a, (f a).length = k) (h0 : 0 < k) :
    Row1 H P t (slCells (α := α)) (SlOk k f p) := by
  intro enc W held fuel cs x hf
  rcases open_slice ht hf with ⟨rfl, _⟩ | ⟨a, n, c, m, q, D, Pl, rfl, hb, hl, hm, hmm, hx, hel⟩
  · exact ⟨(none, 0, 0, []), rfl, Nat.zero_le _, ⟨by simp [rowsV], fun _ => ⟨rfl, rfl⟩, Nat.le_refl _, fun a ha => (by cases ha), fun a ha => (by cases ha)⟩, fun x hx => (by cases hx)⟩
  · have hmc : m = c := by simpa using hmm
    clear hmm
    subst m
    obtain ⟨l, hlen, hcell, hp⟩ := row1_rows hi hc hk enc W held a q n (fun i him => by
      obtain ⟨cs', h1, h2⟩ := hel i (by omega)
      exact ⟨cs', _, h1, h2⟩)
    refine ⟨(some a, n, c, l), rfl, hm, ⟨by rw [rowsV_length f hk, hlen], fun e => (by cases e), hl, fun a' ha hn => ?_, fun a' ha j u hu => ?_⟩, hp⟩
    · obtain rfl := Option.some.inj ha
      have h0' : 0 < (rowsV f l).length := by rw [rowsV_length f hk, hlen]; exact Nat.mul_pos hn h0
      have := World.block_lt_of_cell? W _ (hcell 0 _ (List.getElem?_eq_getElem h0'))
      simpa [Addr.add] using this
    · obtain rfl := Option.some.inj ha
      exact hcell j u hu

theorem open_row1_struct {w W : World} {t : TypeId} {fs : Array Field} {f : α → List Value} {p : World → α → Prop} {r : Reach} {b0 : Nat} {enc : TypeId × Value → H} {held : Bool} {v : Value} {d : DataW H} {ps : List MemPlace}
    (hi : Row1 H P t f p) (ht : P.underlying t = some (.struct fs)) (hv : Value.okWide P w r b0 t v) (hd : DataW.Trod enc P W 0 (fun _ => true) held t v d ps) :
    ∃ a, v = .agg (f a).toArray ∧ p W a := by
  simp only [Value.okWide, ht] at hv
  obtain ⟨cs, rfl, _, _⟩ := hv
  obtain ⟨fuel, hf⟩ := hd
  obtain ⟨a, q, ha⟩ := hi _ _ _ _ _ _ hf
  refine ⟨a, ?_, ha⟩
  simp only [Value.cells] at q
  rw [← q, Array.toArray_toList]
end
end Go.Proofs.Ytkhklhipiiehbaa

/- The laws' types of the diagram layers: names, darts, vertices, edges, diagrams. -/
namespace Go.Proofs.Ytkhklhipiiehbaa
open Go.ChangeShapes Go.WideShapes Go.ChangeAt Go.RowKit

theorem row1_id (H : Type) : Row1 H Try.prog 30 idC (fun _ x => In64 x.1 ∧ In64 x.2) :=
  (row1_struct Try.underlying30 (by kernel_rfl) (fields_cons (k := 1) (row1_int Try.underlying3) rfl (by kernel_rfl) (fields_cons (k := 1) (row1_int Try.underlying3) rfl (by kernel_rfl) (fields_nil _)))).map
    (fun a => (a.1, a.2.1)) (fun _ => rfl) (fun _ _ h => ⟨h.1, h.2.1⟩)
theorem row1_dart (H : Type) : Row1 H Try.prog 32 dC (fun _ x => In64 x.1 ∧ In64 x.2.1 ∧ In64 x.2.2) :=
  (row1_struct Try.underlying32 (by kernel_rfl) (fields_cons (k := 2) (row1_id H) rfl (by kernel_rfl) (fields_cons (k := 1) (row1_int Try.underlying3) rfl (by kernel_rfl) (fields_nil _)))).map
    (fun a => (a.1.1, a.1.2, a.2.1)) (fun _ => rfl) (fun _ _ h => ⟨h.1.1, h.1.2, h.2.1⟩)
def VOk (W : World) (v : VC) : Prop := SlOk 3 dC (fun _ x => In64 x.1 ∧ In64 x.2.1 ∧ In64 x.2.2) W v.2.1 ∧ v.2.2.1.size ≤ maxLen
theorem row1_vertex (H : Type) : Row1 H Try.prog 53 vC VOk :=
  (row1_struct Try.underlying53 (by kernel_rfl) (fields_cons (k := 2) (row1_id H) rfl (by kernel_rfl) (fields_cons (k := 1) (row1_slice (row1_dart H) Try.underlying51 (by kernel_rfl) dC_len (by decide)) rfl (by kernel_rfl)
    (fields_cons (k := 1) (row1_string Try.underlying9) rfl (by kernel_rfl) (fields_cons (k := 1) (row1_int Try.underlying3) rfl (by kernel_rfl) (fields_nil _)))))).map
    (fun a => (a.1, a.2.1, a.2.2.1, a.2.2.2.1)) (fun _ => rfl) (fun _ _ h => ⟨h.2.1, h.2.2.1⟩)
def EOk (_ : World) (e : EC) : Prop := In64 e.1.1 ∧ In64 e.1.2 ∧ e.2.1.size ≤ maxLen
theorem row1_edge (H : Type) : Row1 H Try.prog 65 eC EOk :=
  (row1_struct Try.underlying65 (by kernel_rfl) (fields_cons (k := 2) (row1_id H) rfl (by kernel_rfl)
    (fields_cons (k := 1) (row1_string Try.underlying9) rfl (by kernel_rfl) (fields_cons (k := 1) (row1_int Try.underlying3) rfl (by kernel_rfl) (fields_nil _))))).map
    (fun a => (a.1, a.2.1, a.2.2.1)) (fun _ => rfl) (fun _ _ h => ⟨h.1.1, h.1.2, h.2.1⟩)
abbrev DgT := (Option Addr × Nat × Nat × List VC) × (Option Addr × Nat × Nat × List EC)
def dgC (d : DgT) : List Value := [.slice d.1.1 d.1.2.1 d.1.2.2.1, .slice d.2.1 d.2.2.1 d.2.2.2.1]
def DgOk (W : World) (d : DgT) : Prop := SlOk 5 vC VOk W d.1 ∧ SlOk 4 eC EOk W d.2
theorem row1_diagram (H : Type) : Row1 H Try.prog 25 dgC DgOk :=
  (row1_struct Try.underlying25 (by kernel_rfl) (fields_cons (k := 1) (row1_slice (row1_vertex H) Try.underlying22 (by kernel_rfl) vC_len (by decide)) rfl (by kernel_rfl)
    (fields_cons (k := 1) (row1_slice (row1_edge H) Try.underlying23 (by kernel_rfl) eC_len (by decide)) rfl (by kernel_rfl) (fields_nil _)))).map
    (fun a => (a.1, a.2.1)) (fun _ => rfl) (fun _ _ h => ⟨h.1, h.2.1⟩)
theorem DgOk.dg {W : World} {d : DgT} (h : DgOk W d) : DgIn W d.1.1 d.1.2.1 d.1.2.2.1 d.1.2.2.2 d.2.1 d.2.2.1 d.2.2.2.1 d.2.2.2.2 :=
  ⟨h.1.2.1, h.2.2.1, fun x hx => ⟨(h.1.2.2 x hx).1.1, by rw [dartsV_rows]; exact (h.1.2.2 x hx).1.2.1⟩⟩
theorem DgOk.max {W : World} {d : DgT} (h : DgOk W d) : d.1.2.1 ≤ maxLen ∧ d.2.2.1 ≤ maxLen := ⟨Nat.le_trans h.1.2.1.le h.1.1, Nat.le_trans h.2.2.1.le h.2.1⟩
end Go.Proofs.Ytkhklhipiiehbaa

/- Types of layer 11 as data. -/
namespace Go.Proofs.Ytkhklhipiiehbaa
open Go.ChangeShapes Go.WideShapes Go.ChangeAt Go.RowKit
set_option linter.unusedSimpArgs false
set_option linter.unusedVariables false

def GnOk (_ : World) (x : Gn) : Prop := In64 x.1.1 ∧ In64 x.1.2.1 ∧ In64 x.1.2.2
theorem row1_gone (H : Type) : Row1 H Try.prog 36 gnC GnOk :=
  (row1_struct Try.underlying36 (by kernel_rfl) (fields_cons (k := 3) (row1_dart H) rfl (by kernel_rfl) (fields_cons (k := 3) (row1_dart H) rfl (by kernel_rfl) (fields_nil _)))).map
    (fun a => (a.1, a.2.1)) (fun _ => rfl) (fun _ _ h => h.1)
abbrev StT := DgT × (Option Addr × Nat × Nat × List Gn)
def stC (s : StT) : List Value := [.slice s.1.1.1 s.1.1.2.1 s.1.1.2.2.1, .slice s.1.2.1 s.1.2.2.1 s.1.2.2.2.1, .slice s.2.1 s.2.2.1 s.2.2.2.1]
def StOk (W : World) (s : StT) : Prop := DgOk W s.1 ∧ SlOk 6 gnC GnOk W s.2
theorem row1_state (H : Type) : Row1 H Try.prog 28 stC StOk :=
  (row1_struct Try.underlying28 (by kernel_rfl) (fields_cons (k := 2) (row1_diagram H) rfl (by kernel_rfl)
    (fields_cons (k := 1) (row1_slice (row1_gone H) Try.underlying26 (by kernel_rfl) gnC_len (by decide)) rfl (by kernel_rfl) (fields_nil _)))).map
    (fun a => (a.1, a.2.1)) (fun _ => rfl) (fun _ _ h => ⟨h.1, h.2.1⟩)
end Go.Proofs.Ytkhklhipiiehbaa

/- 'AnchorNear' answers true for every state, every name and every dart.
   No condition beyond the row's own. -/
namespace Go.Proofs.Ytkhklhipiiehbaa
open Go.ChangeShapes Go.WideShapes Go.ChangeAt Go.RowKit
namespace lawAnchorNear

set_option maxRecDepth 100000 in
theorem contract (H : Type) (enc : TypeId × Value → H) (W : World) (base : Nat) (args : Array Value) (ds gs : List (DataW H)) (before : List MemPlace)
    (hval : ∀ (j : Nat) t v, Try.f5.params[j]? = some t → args[j]? = some v → Value.okWide Try.prog W .any base t v)
    (hW : DataW.Whole enc Try.prog Try.f5.params.toList Rows.anchorNearSpec.vars false W args.toList ds gs before) :
    Calls Try.prog 5 args W fun e W' => ∃ v, e = .returned v ∧ Rows.anchorNearSpec.post enc Try.prog Try.f5 false true false false W args v W' := by
  have hW' := hW
  obtain ⟨p, q, hA, hV, rfl, hfz, hnd⟩ := hW
  obtain ⟨rfl, rfl⟩ := trodVars_none hV
  rw [Try.params5] at hA hval
  obtain ⟨v0, v1, v2, d0, d1, d2, p0, p1, p2, rfl, rfl, rfl, h0, h1, h2⟩ := trodAll_three hA
  obtain ⟨s, rfl, hx0⟩ := open_row1_struct (row1_state H) Try.underlying28 (hval 0 28 v0 rfl rfl) h0
  obtain ⟨x, rfl, hx1⟩ := open_row1_struct (row1_id H) Try.underlying30 (hval 1 30 v1 rfl rfl) h1
  obtain ⟨d, rfl, hx2⟩ := open_row1_struct (row1_dart H) Try.underlying32 (hval 2 32 v2 rfl rfl) h2
  refine (law_near s.1.1.1 s.1.1.2.1 s.1.1.2.2.1 s.1.1.2.2.2 s.1.2.1 s.1.2.2.1 s.1.2.2.2.1 s.1.2.2.2.2 s.2.1 s.2.2.1 s.2.2.2.1 s.2.2.2.2 x.1 x.2 d.1 d.2.1 d.2.2 W hx0.1.dg hx0.2.2.1 hx0.1.max.1 hx0.1.max.2 (Nat.le_trans hx0.2.2.1.le hx0.2.1)).mono fun e W' ⟨he, hb⟩ => ⟨_, he, ?_⟩
  exact law_post Try.laidOut (by kernel_rfl) (tb := 4) (by kernel_rfl) Try.underlying4 rfl ⟨rfl, rfl, rfl⟩ hW' hb

set_option maxRecDepth 100000 in
theorem lifted (os : Os) (started : os.Started) (H : Type) (enc : TypeId × Value → H) :
    ReturnsInHanded {} Try.checked os 5 .any (Rows.anchorNearSpec.pre6 enc Try.prog Try.f5 Rows.anchorNearRow.domain false) (Rows.anchorNearSpec.post enc Try.prog Try.f5 false true false false) := by
  refine returnsInHanded_of_change (C := Try.checked) Try.own started (by kernel_rfl) Try.func5
    (ChangeSpec.witness6 (enc := enc) (C := Try.checked) false ⟨#[], #[.agg #[.slice none 0 0, .slice none 0 0, .slice none 0 0], .agg #[.int .i64 0, .int .i64 0], .agg #[.int .i64 0, .int .i64 0, .int .i64 0]], []⟩ 8 (by kernel_rfl) (by kernel_rfl) (by kernel_rfl) (by kernel_rfl)) ?_
  intro W base args ds gs before hval hW _ _
  exact contract H enc W base args ds gs before hval hW

theorem proved : Rows.AnchorNearSaid :=
  OpenClaim.holds_of_wide 5 Try.f5 rfl rfl rfl rfl rfl rfl rfl ⟨rfl, rfl, rfl, rfl, rfl⟩ rfl rfl rfl rfl rfl (by kernel_rfl) Try.func5 (by kernel_rfl)
    (of_decide_eq_true (by kernel_rfl)) (by unfold Func.isWrapper; first | (rw [if_pos (by decide +kernel)]; kernel_rfl) | (rw [if_neg (by decide +kernel)]; exact ⟨rfl, rfl⟩))
    (fun os started H enc _ => lifted os started H enc)
end lawAnchorNear
end Go.Proofs.Ytkhklhipiiehbaa
