/- Words for all layers, in one text. -/
import Derived.Test.YtpindjknngcccaaGU
import Derived.Test.YtpindjknngcccaaFw7

/- What is counted of a diagram that is well formed; and the document's examples of layer 7. -/
namespace Go.Proofs.Ytpindjknngcccaa
open Go.RowKit
set_option linter.unusedSimpArgs false
set_option linter.unusedVariables false


/-- The genus, in numbers. -/
def genF (Vs : List VC) (Es : List EC) : Int := (2 * ((cntF (labF Vs) : Nat) : Int) - Vs.length + Es.length - ((facN Vs Es + aloneN Vs : Nat) : Int)).tdiv 2
theorem gen_num {Vs : List VC} {Es : List EC} (h : Formed Vs Es) {t : Nat} (e : 2 * cntF (labF Vs) + Es.length = Vs.length + (facN Vs Es + aloneN Vs) + 2 * t) : genF Vs Es = (t : Int) := by
  unfold genF
  have : (2 * ((cntF (labF Vs) : Nat) : Int) - Vs.length + Es.length - ((facN Vs Es + aloneN Vs : Nat) : Int)) = 2 * (t : Int) := by omega
  rw [this, Int.tdiv_eq_ediv_of_nonneg (by omega)]
  omega
section
variable {A : Option Addr} {n c : Nat} {Vs : List VC} {B : Option Addr} {m k : Nat} {Es : List EC}
theorem fac_small (hf : Formed Vs Es) : facN Vs Es ≤ 80 := by
  obtain ⟨P, hP, e⟩ := facN_reps hf
  rw [e]
  have h1 := nd_le hP.nd hP.sub
  have := hf.l80
  omega
theorem fac_any (hf : Formed Vs Es) (hg : GoodD Vs Es) : ∀ W, DgIn W A n c Vs B m k Es → Calls Try.prog 40 #[.agg #[.slice A n c, .slice B m k]] W fun e w' => ∃ A' c', e = .returned (.slice A' (facN Vs Es) c') ∧ Below W.heap.size W w' := fun W h => by
  refine (faces5_any A n c Vs B m k Es W h hf hg).mono ?_
  rintro e w' ⟨A', c', X, rfl, -, hX, hb⟩
  have hl := congrArg List.length hX
  rw [List.length_map] at hl
  rw [hl]
  exact ⟨A', c', rfl, hb⟩
theorem dg_lens {w : World} (h : DgIn w A n c Vs B m k Es) : Vs.length = n ∧ Es.length = m := ⟨h.v.rlen vC_len (by decide), h.e.rlen eC_len (by decide)⟩
theorem cntF_small (hf : Formed Vs Es) : cntF (labF Vs) ≤ 24 := by
  have := cnt_le Vs
  have := hf.v24
  omega
theorem cnt7_any (hf : Formed Vs Es) (hg : GoodD Vs Es) : ∀ W, DgIn W A n c Vs B m k Es → Calls Try.prog 15 #[.agg #[.slice A n c, .slice B m k]] W fun e w' => e = .returned (.tuple #[.int .i64 (n : Int), .int .i64 (m : Int), .int .i64 ((facN Vs Es + aloneN Vs : Nat) : Int), .int .i64 ((cntF (labF Vs) : Nat) : Int)]) ∧ Below W.heap.size W w' := fun W h => by
  have hp := hf.pre h hg
  have h1 := hf.small h
  exact ecnt_any A n c Vs B m k Es (facN Vs Es) (cntF (labF Vs)) W h hp.n (by omega) (by have := fac_small hf; omega) (by have := cntF_small hf; omega) (fac_any hf hg) (fun W h => count_any A n c Vs B m k Es W h hp.n hp.r hg.v)
theorem gen7_eq {w : World} (h : DgIn w A n c Vs B m k Es) : (2 * ((cntF (labF Vs) : Nat) : Int) - (n : Int) + (m : Int) - ((facN Vs Es + aloneN Vs : Nat) : Int)).tdiv 2 = genF Vs Es := by
  obtain ⟨h1, h2⟩ := dg_lens h
  rw [genF, h1, h2]
theorem gen7_any (hf : Formed Vs Es) (hg : GoodD Vs Es) : ∀ W, DgIn W A n c Vs B m k Es → Calls Try.prog 17 #[.agg #[.slice A n c, .slice B m k]] W fun e w' => e = .returned (.int .i64 (genF Vs Es)) ∧ Below W.heap.size W w' := fun W h => by
  have hp := hf.pre h hg
  have h1 := hf.small h
  have h2 := alone_le Vs
  have h3 := (dg_lens h).1
  exact egenus_any A n c Vs B m k Es (facN Vs Es + aloneN Vs) (cntF (labF Vs)) (genF Vs Es) W h hp.n (by omega) (by have := fac_small hf; omega) (by have := cntF_small hf; omega) (gen7_eq h) (cnt7_any hf hg)
theorem plan7_any (hf : Formed Vs Es) (hg : GoodD Vs Es) : ∀ W, DgIn W A n c Vs B m k Es → Calls Try.prog 19 #[.agg #[.slice A n c, .slice B m k]] W fun e w' => e = .returned (.bool (genF Vs Es == 0)) ∧ Below W.heap.size W w' := fun W h =>
  eplan_any A n c Vs B m k Es (genF Vs Es) W h (gen7_any hf hg)
theorem rform7_any (hr : ∀ x ∈ Vs, x.2.1.2.1 ≤ 1000000) (hg : GoodD Vs Es) : ∀ W, DgIn W A n c Vs B m k Es → Calls Try.prog 14 #[.agg #[.slice A n c, .slice B m k]] W fun e w' => e = .returned (.int .i64 (formD Vs Es)) ∧ Below W.heap.size W w' := fun W h => formR_eq Vs Es ▸ rform_any A n c Vs B m k Es W h (fun x hx => by have := hr x hx; omega) hg.lv hg.le
end
def twV (r : Option Addr) (a b c e : D) : List VC := [((1, 1), (r, 4, 4, [a, b, c, e]), ByteArray.empty, 0)]
def twE : List EC := [((1, 2), ByteArray.empty, 0), ((1, 3), ByteArray.empty, 0)]
theorem tw1_formed (r : Option Addr) : Formed (twV r (1, 2, 0) (1, 2, 1) (1, 3, 0) (1, 3, 1)) twE := (form0 _ _).1 ((show formD (twV r (1, 2, 0) (1, 2, 1) (1, 3, 0) (1, 3, 1)) twE = formD (twV none (1, 2, 0) (1, 2, 1) (1, 3, 0) (1, 3, 1)) twE from rfl).trans (by kernel_rfl))
theorem tw2_formed (r : Option Addr) : Formed (twV r (1, 2, 0) (1, 3, 0) (1, 2, 1) (1, 3, 1)) twE := (form0 _ _).1 ((show formD (twV r (1, 2, 0) (1, 3, 0) (1, 2, 1) (1, 3, 1)) twE = formD (twV none (1, 2, 0) (1, 3, 0) (1, 2, 1) (1, 3, 1)) twE from rfl).trans (by kernel_rfl))
theorem tw0_formed : Formed [] [] := (form0 _ _).1 (by kernel_rfl)
theorem tw1_gen (r : Option Addr) : genF (twV r (1, 2, 0) (1, 2, 1) (1, 3, 0) (1, 3, 1)) twE = 0 := (show _ = genF (twV none (1, 2, 0) (1, 2, 1) (1, 3, 0) (1, 3, 1)) twE from rfl).trans (by kernel_rfl)
theorem tw2_gen (r : Option Addr) : genF (twV r (1, 2, 0) (1, 3, 0) (1, 2, 1) (1, 3, 1)) twE = 1 := (show _ = genF (twV none (1, 2, 0) (1, 3, 0) (1, 2, 1) (1, 3, 1)) twE from rfl).trans (by kernel_rfl)
theorem tw0_gen : genF [] [] = 0 := by kernel_rfl
theorem tw_wf : wfD (1, 2, 0) ∧ wfD (1, 2, 1) ∧ wfD (1, 3, 0) ∧ wfD (1, 3, 1) := ⟨⟨by decide, by decide, by decide⟩, ⟨by decide, by decide, by decide⟩, ⟨by decide, by decide, by decide⟩, ⟨by decide, by decide, by decide⟩⟩
theorem tw_good (r : Option Addr) (a b c e : D) (ha : wfD a) (hb : wfD b) (hc : wfD c) (he : wfD e) : GoodD (twV r a b c e) twE := ⟨fun x hx d hd => by
    obtain rfl := List.mem_singleton.1 hx
    have hd : d ∈ [a, b, c, e] := hd
    simp only [List.mem_cons, List.mem_nil_iff, or_false] at hd
    rcases hd with rfl | rfl | rfl | rfl <;> assumption, fun x hx => by
    rcases List.mem_cons.1 hx with rfl | hx
    · exact ⟨tw_wf.1, tw_wf.2.1⟩
    · obtain rfl := List.mem_singleton.1 hx
      exact ⟨tw_wf.2.2.1, tw_wf.2.2.2⟩, fun x hx => by
    obtain rfl := List.mem_singleton.1 hx
    exact Nat.zero_le _, fun x hx => by
    rcases List.mem_cons.1 hx with rfl | hx
    · exact Nat.zero_le _
    · obtain rfl := List.mem_singleton.1 hx
      exact Nat.zero_le _⟩
theorem tw0_good : GoodD [] [] := ⟨fun x hx => (by cases hx), fun x hx => (by cases hx), fun x hx => (by cases hx), fun x hx => (by cases hx)⟩
end Go.Proofs.Ytpindjknngcccaa

/- Examples of layer 7. -/
namespace Go.Proofs.Ytpindjknngcccaa
open Go.RowKit
set_option linter.unusedSimpArgs false
set_option linter.unusedVariables false

set_option maxRecDepth 100000 in
set_option maxHeartbeats 4000000 in
theorem dart7 (x y : Int) (w : World) : Calls Try.prog 31 #[.int .i64 x, .int .i64 y] w fun e w' => e = .returned (.agg #[.int .i64 1, .int .i64 x, .int .i64 y]) ∧ Below w.heap.size w w' := by
  go_enter Try.func31, Try.ntmps31
  have HX := Lib.hid (Whole.new_ w 39 [.int .i64 0, .int .i64 0, .int .i64 0])
  have f0 := HX.out.free 0
  have f1 := HX.out.free 1
  have f2 := HX.out.free 2
  have z0 := HX.out.cell (i := 0) rfl
  have z1 := HX.out.cell (i := 1) rfl
  have z2 := HX.out.cell (i := 2) rfl
  have HY := Lib.hid (((HX.out.set_ 0 (.int .i64 1)).set_ 1 (.int .i64 x)).set_ 2 (.int .i64 y))
  have HB := Lib.hid ((((below1 w (.cells #[.int .i64 0, .int .i64 0, .int .i64 0] 39)).setCell (p := ⟨w.heap.size, 0, none⟩) (Nat.le_refl _) (.int .i64 1)).setCell (p := ⟨w.heap.size, 1, none⟩) (Nat.le_refl _) (.int .i64 x)).setCell (p := ⟨w.heap.size, 2, none⟩) (Nat.le_refl _) (.int .i64 y))
  go_wp2
  first
  | exact ret_whole rfl (w.heap.size) rfl HY.out Try.underlying39 rfl (by kernel_rfl) rfl ⟨rfl, HB.out⟩
  | exact ret_whole rfl (w.heap.size) rfl (Whole.new_ w 39 [.int .i64 1, .int .i64 x, .int .i64 y]) Try.underlying39 rfl (by kernel_rfl) rfl ⟨rfl, below1 _ _⟩
set_option maxRecDepth 100000 in
set_option maxHeartbeats 4000000 in
theorem two7 (a1 a2 a3 b1 b2 b3 c1 c2 c3 e1 e2 e3 : Int) (w : World) : Calls Try.prog 30 #[.agg #[.int .i64 a1, .int .i64 a2, .int .i64 a3], .agg #[.int .i64 b1, .int .i64 b2, .int .i64 b3], .agg #[.int .i64 c1, .int .i64 c2, .int .i64 c3], .agg #[.int .i64 e1, .int .i64 e2, .int .i64 e3]] w fun r w' => ∃ g A' B', r = .returned (.agg #[.slice A' 1 1, .slice B' 2 2]) ∧ DgIn w' A' 1 1 (twV g (a1, a2, a3) (b1, b2, b3) (c1, c2, c3) (e1, e2, e3)) B' 2 2 twE ∧ Below w.heap.size w w' := by
  go_enter Try.func30, Try.ntmps30
  have HR := Lib.hid ((((show Whole ((((((w.alloc (.cells #[.int .i64 a1, .int .i64 a2, .int .i64 a3] 39)).alloc (.cells #[.int .i64 b1, .int .i64 b2, .int .i64 b3] 39)).alloc (.cells #[.int .i64 c1, .int .i64 c2, .int .i64 c3] 39)).alloc (.cells #[.int .i64 e1, .int .i64 e2, .int .i64 e3] 39)).alloc (.cells #[.slice (some ⟨w.heap.size + 1 + 1 + 1 + 1 + 1 + 1, 0, none⟩) 1 1, .slice (some ⟨w.heap.size + 1 + 1 + 1 + 1 + 1 + 1 + 1, 0, none⟩) 2 2] 25)).alloc (.cells #[.int .i64 a1, .int .i64 a2, .int .i64 a3, .int .i64 b1, .int .i64 b2, .int .i64 b3, .int .i64 c1, .int .i64 c2, .int .i64 c3, .int .i64 e1, .int .i64 e2, .int .i64 e3] 39)) ((w.heap.size + 1 + 1 + 1 + 1 + 1)) (39) ([.int .i64 a1, .int .i64 a2, .int .i64 a3, .int .i64 b1, .int .i64 b2, .int .i64 b3, .int .i64 c1, .int .i64 c2, .int .i64 c3, .int .i64 e1, .int .i64 e2, .int .i64 e3]) from Whole.new2 (by first | rfl | simp)).al (.cells #[.int .i64 1, .int .i64 1, .slice (some ⟨w.heap.size + 1 + 1 + 1 + 1 + 1, 0, none⟩) 4 4, .string { data := #[] }, .int .i64 0] 42)).al (.cells #[.int .i64 1, .int .i64 2, .string { data := #[] }, .int .i64 0, .int .i64 1, .int .i64 3, .string { data := #[] }, .int .i64 0] 37)))
  have HV := Lib.hid (((show Whole (((((((w.alloc (.cells #[.int .i64 a1, .int .i64 a2, .int .i64 a3] 39)).alloc (.cells #[.int .i64 b1, .int .i64 b2, .int .i64 b3] 39)).alloc (.cells #[.int .i64 c1, .int .i64 c2, .int .i64 c3] 39)).alloc (.cells #[.int .i64 e1, .int .i64 e2, .int .i64 e3] 39)).alloc (.cells #[.slice (some ⟨w.heap.size + 1 + 1 + 1 + 1 + 1 + 1, 0, none⟩) 1 1, .slice (some ⟨w.heap.size + 1 + 1 + 1 + 1 + 1 + 1 + 1, 0, none⟩) 2 2] 25)).alloc (.cells #[.int .i64 a1, .int .i64 a2, .int .i64 a3, .int .i64 b1, .int .i64 b2, .int .i64 b3, .int .i64 c1, .int .i64 c2, .int .i64 c3, .int .i64 e1, .int .i64 e2, .int .i64 e3] 39)).alloc (.cells #[.int .i64 1, .int .i64 1, .slice (some ⟨w.heap.size + 1 + 1 + 1 + 1 + 1, 0, none⟩) 4 4, .string { data := #[] }, .int .i64 0] 42)) ((w.heap.size + 1 + 1 + 1 + 1 + 1 + 1)) (42) ([.int .i64 1, .int .i64 1, .slice (some ⟨w.heap.size + 1 + 1 + 1 + 1 + 1, 0, none⟩) 4 4, .string { data := #[] }, .int .i64 0]) from Whole.new2 (by first | rfl | simp)).al (.cells #[.int .i64 1, .int .i64 2, .string { data := #[] }, .int .i64 0, .int .i64 1, .int .i64 3, .string { data := #[] }, .int .i64 0] 37)))
  have HE := Lib.hid ((show Whole ((((((((w.alloc (.cells #[.int .i64 a1, .int .i64 a2, .int .i64 a3] 39)).alloc (.cells #[.int .i64 b1, .int .i64 b2, .int .i64 b3] 39)).alloc (.cells #[.int .i64 c1, .int .i64 c2, .int .i64 c3] 39)).alloc (.cells #[.int .i64 e1, .int .i64 e2, .int .i64 e3] 39)).alloc (.cells #[.slice (some ⟨w.heap.size + 1 + 1 + 1 + 1 + 1 + 1, 0, none⟩) 1 1, .slice (some ⟨w.heap.size + 1 + 1 + 1 + 1 + 1 + 1 + 1, 0, none⟩) 2 2] 25)).alloc (.cells #[.int .i64 a1, .int .i64 a2, .int .i64 a3, .int .i64 b1, .int .i64 b2, .int .i64 b3, .int .i64 c1, .int .i64 c2, .int .i64 c3, .int .i64 e1, .int .i64 e2, .int .i64 e3] 39)).alloc (.cells #[.int .i64 1, .int .i64 1, .slice (some ⟨w.heap.size + 1 + 1 + 1 + 1 + 1, 0, none⟩) 4 4, .string { data := #[] }, .int .i64 0] 42)).alloc (.cells #[.int .i64 1, .int .i64 2, .string { data := #[] }, .int .i64 0, .int .i64 1, .int .i64 3, .string { data := #[] }, .int .i64 0] 37)) ((w.heap.size + 1 + 1 + 1 + 1 + 1 + 1 + 1)) (37) ([.int .i64 1, .int .i64 2, .string { data := #[] }, .int .i64 0, .int .i64 1, .int .i64 3, .string { data := #[] }, .int .i64 0]) from Whole.new2 (by first | rfl | simp)))
  have HG := Lib.hid (((((show Whole (((((w.alloc (.cells #[.int .i64 a1, .int .i64 a2, .int .i64 a3] 39)).alloc (.cells #[.int .i64 b1, .int .i64 b2, .int .i64 b3] 39)).alloc (.cells #[.int .i64 c1, .int .i64 c2, .int .i64 c3] 39)).alloc (.cells #[.int .i64 e1, .int .i64 e2, .int .i64 e3] 39)).alloc (.cells #[.slice (some ⟨w.heap.size + 1 + 1 + 1 + 1 + 1 + 1, 0, none⟩) 1 1, .slice (some ⟨w.heap.size + 1 + 1 + 1 + 1 + 1 + 1 + 1, 0, none⟩) 2 2] 25)) ((w.heap.size + 1 + 1 + 1 + 1)) (25) ([.slice (some ⟨w.heap.size + 1 + 1 + 1 + 1 + 1 + 1, 0, none⟩) 1 1, .slice (some ⟨w.heap.size + 1 + 1 + 1 + 1 + 1 + 1 + 1, 0, none⟩) 2 2]) from Whole.new2 (by first | rfl | simp)).al (.cells #[.int .i64 a1, .int .i64 a2, .int .i64 a3, .int .i64 b1, .int .i64 b2, .int .i64 b3, .int .i64 c1, .int .i64 c2, .int .i64 c3, .int .i64 e1, .int .i64 e2, .int .i64 e3] 39)).al (.cells #[.int .i64 1, .int .i64 1, .slice (some ⟨w.heap.size + 1 + 1 + 1 + 1 + 1, 0, none⟩) 4 4, .string { data := #[] }, .int .i64 0] 42)).al (.cells #[.int .i64 1, .int .i64 2, .string { data := #[] }, .int .i64 0, .int .i64 1, .int .i64 3, .string { data := #[] }, .int .i64 0] 37)))
  have HB := Lib.hid ((bel_al (bel_al (bel_al (bel_al (bel_al (bel_al (bel_al (bel_al (Below.refl _ w) (.cells #[.int .i64 a1, .int .i64 a2, .int .i64 a3] 39)) (.cells #[.int .i64 b1, .int .i64 b2, .int .i64 b3] 39)) (.cells #[.int .i64 c1, .int .i64 c2, .int .i64 c3] 39)) (.cells #[.int .i64 e1, .int .i64 e2, .int .i64 e3] 39)) (.cells #[.slice (some ⟨w.heap.size + 1 + 1 + 1 + 1 + 1 + 1, 0, none⟩) 1 1, .slice (some ⟨w.heap.size + 1 + 1 + 1 + 1 + 1 + 1 + 1, 0, none⟩) 2 2] 25)) (.cells #[.int .i64 a1, .int .i64 a2, .int .i64 a3, .int .i64 b1, .int .i64 b2, .int .i64 b3, .int .i64 c1, .int .i64 c2, .int .i64 c3, .int .i64 e1, .int .i64 e2, .int .i64 e3] 39)) (.cells #[.int .i64 1, .int .i64 1, .slice (some ⟨w.heap.size + 1 + 1 + 1 + 1 + 1, 0, none⟩) 4 4, .string { data := #[] }, .int .i64 0] 42)) (.cells #[.int .i64 1, .int .i64 2, .string { data := #[] }, .int .i64 0, .int .i64 1, .int .i64 3, .string { data := #[] }, .int .i64 0] 37)))
  have HD : RowKit.Hid (DgIn _ (some ⟨w.heap.size + 1 + 1 + 1 + 1 + 1 + 1, 0, none⟩) 1 1 (twV (some ⟨w.heap.size + 1 + 1 + 1 + 1 + 1, 0, none⟩) (a1, a2, a3) (b1, b2, b3) (c1, c2, c3) (e1, e2, e3)) (some ⟨w.heap.size + 1 + 1 + 1 + 1 + 1 + 1 + 1, 0, none⟩) 2 2 twE) := Lib.hid ⟨RdS.of_whole (t := 42) HV.out rfl, RdS.of_whole (t := 37) HE.out rfl, fun x hx => by
    obtain rfl := List.mem_singleton.1 hx
    exact ⟨by show 4 ≤ maxLen; unfold maxLen; omega, RdS.whole3 (t := 39) (L := [(a1, a2, a3), (b1, b2, b3), (c1, c2, c3), (e1, e2, e3)]) HR.out⟩⟩
  go_wp2
  exact ret_whole rfl (w.heap.size + 1 + 1 + 1 + 1) rfl HG.out Try.underlying25 rfl (by kernel_rfl) rfl ⟨_, _, _, rfl, HD.out, HB.out⟩
end Go.Proofs.Ytpindjknngcccaa

/- Examples of layer 7. -/
namespace Go.Proofs.Ytpindjknngcccaa
open Go.RowKit
set_option linter.unusedSimpArgs false
set_option linter.unusedVariables false

set_option maxRecDepth 100000 in
set_option maxHeartbeats 4000000 in
theorem shown07_any (w : World) : Calls Try.prog 10 #[] w fun e w' => e = .returned (.bool true) ∧ Below w.heap.size w w' := by
  go_enter Try.func10, Try.ntmps10
  go_wp2_with fail
  refine (dart7 2 0 _).mono ?_
  rintro e w1 ⟨rfl, hb1⟩
  have Bel_2 := Lib.hid (bel_bl (Below.refl _ w) hb1)
  clear hb1
  go_wp2_with fail
  refine (dart7 2 1 _).mono ?_
  rintro e w3 ⟨rfl, hb3⟩
  have Bel_4 := Lib.hid (bel_bl Bel_2.out hb3)
  clear Bel_2
  clear hb3
  go_wp2_with fail
  refine (dart7 3 0 _).mono ?_
  rintro e w5 ⟨rfl, hb5⟩
  have Bel_6 := Lib.hid (bel_bl Bel_4.out hb5)
  clear Bel_4
  clear hb5
  go_wp2_with fail
  refine (dart7 3 1 _).mono ?_
  rintro e w7 ⟨rfl, hb7⟩
  have Bel_8 := Lib.hid (bel_bl Bel_6.out hb7)
  clear Bel_6
  clear hb7
  go_wp2_with fail
  refine (two7 1 2 0 1 2 1 1 3 0 1 3 1 _).mono ?_
  rintro e w9 ⟨ga, Aa, Ba, rfl, hda, hb9⟩
  have Bel_10 := Lib.hid (bel_bl Bel_8.out hb9)
  clear Bel_8
  clear hb9
  have Da_10 := Lib.hid hda
  clear hda
  go_wp2_with fail
  refine ((tw1_gen ga ▸ gen7_any (tw1_formed ga) (tw_good ga _ _ _ _ tw_wf.1 tw_wf.2.1 tw_wf.2.2.1 tw_wf.2.2.2) _ Da_10.out)).mono ?_
  rintro e w11 ⟨rfl, hb11⟩
  have Da_12 := Lib.hid (Da_10.out.bl hb11)
  have Bel_12 := Lib.hid (bel_bl Bel_10.out hb11)
  clear Da_10 Bel_10
  clear hb11
  go_wp2_with fail
  refine (dart7 2 0 _).mono ?_
  rintro e w13 ⟨rfl, hb13⟩
  have Da_14 := Lib.hid (Da_12.out.bl hb13)
  have Bel_14 := Lib.hid (bel_bl Bel_12.out hb13)
  clear Da_12 Bel_12
  clear hb13
  go_wp2_with fail
  refine (dart7 3 0 _).mono ?_
  rintro e w15 ⟨rfl, hb15⟩
  have Da_16 := Lib.hid (Da_14.out.bl hb15)
  have Bel_16 := Lib.hid (bel_bl Bel_14.out hb15)
  clear Da_14 Bel_14
  clear hb15
  go_wp2_with fail
  refine (dart7 2 1 _).mono ?_
  rintro e w17 ⟨rfl, hb17⟩
  have Da_18 := Lib.hid (Da_16.out.bl hb17)
  have Bel_18 := Lib.hid (bel_bl Bel_16.out hb17)
  clear Da_16 Bel_16
  clear hb17
  go_wp2_with fail
  refine (dart7 3 1 _).mono ?_
  rintro e w19 ⟨rfl, hb19⟩
  have Da_20 := Lib.hid (Da_18.out.bl hb19)
  have Bel_20 := Lib.hid (bel_bl Bel_18.out hb19)
  clear Da_18 Bel_18
  clear hb19
  go_wp2_with fail
  refine (two7 1 2 0 1 3 0 1 2 1 1 3 1 _).mono ?_
  rintro e w21 ⟨gb, Ab, Bb, rfl, hdb, hb21⟩
  have Da_22 := Lib.hid (Da_20.out.bl hb21)
  have Bel_22 := Lib.hid (bel_bl Bel_20.out hb21)
  clear Da_20 Bel_20
  clear hb21
  have Db_22 := Lib.hid hdb
  clear hdb
  go_wp2_with fail
  refine ((tw2_gen gb ▸ gen7_any (tw2_formed gb) (tw_good gb _ _ _ _ tw_wf.1 tw_wf.2.2.1 tw_wf.2.1 tw_wf.2.2.2) _ Db_22.out)).mono ?_
  rintro e w23 ⟨rfl, hb23⟩
  have Da_24 := Lib.hid (Da_22.out.bl hb23)
  have Db_24 := Lib.hid (Db_22.out.bl hb23)
  have Bel_24 := Lib.hid (bel_bl Bel_22.out hb23)
  clear Da_22 Db_22 Bel_22
  clear hb23
  go_wp2_with fail
  refine ((tw0_gen ▸ plan7_any (A := none) (n := 0) (c := 0) (B := none) (m := 0) (k := 0) tw0_formed tw0_good _ ⟨RdS.no _ _ _, RdS.no _ _ _, fun x hx => (by cases hx)⟩)).mono ?_
  rintro e w25 ⟨rfl, hb25⟩
  have Da_26 := Lib.hid (Da_24.out.bl hb25)
  have Db_26 := Lib.hid (Db_24.out.bl hb25)
  have Bel_26 := Lib.hid (bel_bl Bel_24.out hb25)
  clear Da_24 Db_24 Bel_24
  clear hb25
  go_wp2
  go_ret
  exact ⟨rfl, Bel_26.out⟩
end Go.Proofs.Ytpindjknngcccaa
