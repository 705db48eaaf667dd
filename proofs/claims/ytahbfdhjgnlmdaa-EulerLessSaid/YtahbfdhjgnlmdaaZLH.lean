/- Several texts in one. -/
import Derived.Test.YtahbfdhjgnlmdaaZLG
import Derived.Test.YtahbfdhjgnlmdaaZLA
import Derived.Test.YtahbfdhjgnlmdaaZLF
import Derived.Test.YtahbfdhjgnlmdaaZLD

/- Examples of layer 7. -/
namespace Go.Proofs.Ytahbfdhjgnlmdaa
open Go.RowKit
set_option linter.unusedSimpArgs false
set_option linter.unusedVariables false

set_option maxRecDepth 100000 in
set_option maxHeartbeats 4000000 in
theorem dart7 (x y : Int) (w : World) : Calls Try.prog 30 #[.int .i64 x, .int .i64 y] w fun e w' => e = .returned (.agg #[.int .i64 1, .int .i64 x, .int .i64 y]) ∧ Below w.heap.size w w' := by
  go_enter Try.func30, Try.ntmps30
  have HX := Lib.hid (Whole.new_ w 35 [.int .i64 0, .int .i64 0, .int .i64 0])
  have f0 := HX.out.free 0
  have f1 := HX.out.free 1
  have f2 := HX.out.free 2
  have z0 := HX.out.cell (i := 0) rfl
  have z1 := HX.out.cell (i := 1) rfl
  have z2 := HX.out.cell (i := 2) rfl
  have HY := Lib.hid (((HX.out.set_ 0 (.int .i64 1)).set_ 1 (.int .i64 x)).set_ 2 (.int .i64 y))
  have HB := Lib.hid ((((below1 w (.cells #[.int .i64 0, .int .i64 0, .int .i64 0] 35)).setCell (p := ⟨w.heap.size, 0, none⟩) (Nat.le_refl _) (.int .i64 1)).setCell (p := ⟨w.heap.size, 1, none⟩) (Nat.le_refl _) (.int .i64 x)).setCell (p := ⟨w.heap.size, 2, none⟩) (Nat.le_refl _) (.int .i64 y))
  go_wp2
  first
  | exact ret_whole rfl (w.heap.size) rfl HY.out Try.underlying35 rfl (by kernel_rfl) rfl ⟨rfl, HB.out⟩
  | exact ret_whole rfl (w.heap.size) rfl (Whole.new_ w 35 [.int .i64 1, .int .i64 x, .int .i64 y]) Try.underlying35 rfl (by kernel_rfl) rfl ⟨rfl, below1 _ _⟩
set_option maxRecDepth 100000 in
set_option maxHeartbeats 4000000 in
theorem two7 (a1 a2 a3 b1 b2 b3 c1 c2 c3 e1 e2 e3 : Int) (w : World) : Calls Try.prog 29 #[.agg #[.int .i64 a1, .int .i64 a2, .int .i64 a3], .agg #[.int .i64 b1, .int .i64 b2, .int .i64 b3], .agg #[.int .i64 c1, .int .i64 c2, .int .i64 c3], .agg #[.int .i64 e1, .int .i64 e2, .int .i64 e3]] w fun r w' => ∃ g A' B', r = .returned (.agg #[.slice A' 1 1, .slice B' 2 2]) ∧ DgIn w' A' 1 1 (twV g (a1, a2, a3) (b1, b2, b3) (c1, c2, c3) (e1, e2, e3)) B' 2 2 twE ∧ Below w.heap.size w w' := by
  go_enter Try.func29, Try.ntmps29
  have HR := Lib.hid ((((show Whole ((((((w.alloc (.cells #[.int .i64 a1, .int .i64 a2, .int .i64 a3] 35)).alloc (.cells #[.int .i64 b1, .int .i64 b2, .int .i64 b3] 35)).alloc (.cells #[.int .i64 c1, .int .i64 c2, .int .i64 c3] 35)).alloc (.cells #[.int .i64 e1, .int .i64 e2, .int .i64 e3] 35)).alloc (.cells #[.slice (some ⟨w.heap.size + 1 + 1 + 1 + 1 + 1 + 1, 0, none⟩) 1 1, .slice (some ⟨w.heap.size + 1 + 1 + 1 + 1 + 1 + 1 + 1, 0, none⟩) 2 2] 25)).alloc (.cells #[.int .i64 a1, .int .i64 a2, .int .i64 a3, .int .i64 b1, .int .i64 b2, .int .i64 b3, .int .i64 c1, .int .i64 c2, .int .i64 c3, .int .i64 e1, .int .i64 e2, .int .i64 e3] 35)) ((w.heap.size + 1 + 1 + 1 + 1 + 1)) (35) ([.int .i64 a1, .int .i64 a2, .int .i64 a3, .int .i64 b1, .int .i64 b2, .int .i64 b3, .int .i64 c1, .int .i64 c2, .int .i64 c3, .int .i64 e1, .int .i64 e2, .int .i64 e3]) from Whole.new2 (by first | rfl | simp)).al (.cells #[.int .i64 1, .int .i64 1, .slice (some ⟨w.heap.size + 1 + 1 + 1 + 1 + 1, 0, none⟩) 4 4, .string { data := #[] }, .int .i64 0] 38)).al (.cells #[.int .i64 1, .int .i64 2, .string { data := #[] }, .int .i64 0, .int .i64 1, .int .i64 3, .string { data := #[] }, .int .i64 0] 33)))
  have HV := Lib.hid (((show Whole (((((((w.alloc (.cells #[.int .i64 a1, .int .i64 a2, .int .i64 a3] 35)).alloc (.cells #[.int .i64 b1, .int .i64 b2, .int .i64 b3] 35)).alloc (.cells #[.int .i64 c1, .int .i64 c2, .int .i64 c3] 35)).alloc (.cells #[.int .i64 e1, .int .i64 e2, .int .i64 e3] 35)).alloc (.cells #[.slice (some ⟨w.heap.size + 1 + 1 + 1 + 1 + 1 + 1, 0, none⟩) 1 1, .slice (some ⟨w.heap.size + 1 + 1 + 1 + 1 + 1 + 1 + 1, 0, none⟩) 2 2] 25)).alloc (.cells #[.int .i64 a1, .int .i64 a2, .int .i64 a3, .int .i64 b1, .int .i64 b2, .int .i64 b3, .int .i64 c1, .int .i64 c2, .int .i64 c3, .int .i64 e1, .int .i64 e2, .int .i64 e3] 35)).alloc (.cells #[.int .i64 1, .int .i64 1, .slice (some ⟨w.heap.size + 1 + 1 + 1 + 1 + 1, 0, none⟩) 4 4, .string { data := #[] }, .int .i64 0] 38)) ((w.heap.size + 1 + 1 + 1 + 1 + 1 + 1)) (38) ([.int .i64 1, .int .i64 1, .slice (some ⟨w.heap.size + 1 + 1 + 1 + 1 + 1, 0, none⟩) 4 4, .string { data := #[] }, .int .i64 0]) from Whole.new2 (by first | rfl | simp)).al (.cells #[.int .i64 1, .int .i64 2, .string { data := #[] }, .int .i64 0, .int .i64 1, .int .i64 3, .string { data := #[] }, .int .i64 0] 33)))
  have HE := Lib.hid ((show Whole ((((((((w.alloc (.cells #[.int .i64 a1, .int .i64 a2, .int .i64 a3] 35)).alloc (.cells #[.int .i64 b1, .int .i64 b2, .int .i64 b3] 35)).alloc (.cells #[.int .i64 c1, .int .i64 c2, .int .i64 c3] 35)).alloc (.cells #[.int .i64 e1, .int .i64 e2, .int .i64 e3] 35)).alloc (.cells #[.slice (some ⟨w.heap.size + 1 + 1 + 1 + 1 + 1 + 1, 0, none⟩) 1 1, .slice (some ⟨w.heap.size + 1 + 1 + 1 + 1 + 1 + 1 + 1, 0, none⟩) 2 2] 25)).alloc (.cells #[.int .i64 a1, .int .i64 a2, .int .i64 a3, .int .i64 b1, .int .i64 b2, .int .i64 b3, .int .i64 c1, .int .i64 c2, .int .i64 c3, .int .i64 e1, .int .i64 e2, .int .i64 e3] 35)).alloc (.cells #[.int .i64 1, .int .i64 1, .slice (some ⟨w.heap.size + 1 + 1 + 1 + 1 + 1, 0, none⟩) 4 4, .string { data := #[] }, .int .i64 0] 38)).alloc (.cells #[.int .i64 1, .int .i64 2, .string { data := #[] }, .int .i64 0, .int .i64 1, .int .i64 3, .string { data := #[] }, .int .i64 0] 33)) ((w.heap.size + 1 + 1 + 1 + 1 + 1 + 1 + 1)) (33) ([.int .i64 1, .int .i64 2, .string { data := #[] }, .int .i64 0, .int .i64 1, .int .i64 3, .string { data := #[] }, .int .i64 0]) from Whole.new2 (by first | rfl | simp)))
  have HG := Lib.hid (((((show Whole (((((w.alloc (.cells #[.int .i64 a1, .int .i64 a2, .int .i64 a3] 35)).alloc (.cells #[.int .i64 b1, .int .i64 b2, .int .i64 b3] 35)).alloc (.cells #[.int .i64 c1, .int .i64 c2, .int .i64 c3] 35)).alloc (.cells #[.int .i64 e1, .int .i64 e2, .int .i64 e3] 35)).alloc (.cells #[.slice (some ⟨w.heap.size + 1 + 1 + 1 + 1 + 1 + 1, 0, none⟩) 1 1, .slice (some ⟨w.heap.size + 1 + 1 + 1 + 1 + 1 + 1 + 1, 0, none⟩) 2 2] 25)) ((w.heap.size + 1 + 1 + 1 + 1)) (25) ([.slice (some ⟨w.heap.size + 1 + 1 + 1 + 1 + 1 + 1, 0, none⟩) 1 1, .slice (some ⟨w.heap.size + 1 + 1 + 1 + 1 + 1 + 1 + 1, 0, none⟩) 2 2]) from Whole.new2 (by first | rfl | simp)).al (.cells #[.int .i64 a1, .int .i64 a2, .int .i64 a3, .int .i64 b1, .int .i64 b2, .int .i64 b3, .int .i64 c1, .int .i64 c2, .int .i64 c3, .int .i64 e1, .int .i64 e2, .int .i64 e3] 35)).al (.cells #[.int .i64 1, .int .i64 1, .slice (some ⟨w.heap.size + 1 + 1 + 1 + 1 + 1, 0, none⟩) 4 4, .string { data := #[] }, .int .i64 0] 38)).al (.cells #[.int .i64 1, .int .i64 2, .string { data := #[] }, .int .i64 0, .int .i64 1, .int .i64 3, .string { data := #[] }, .int .i64 0] 33)))
  have HB := Lib.hid ((bel_al (bel_al (bel_al (bel_al (bel_al (bel_al (bel_al (bel_al (Below.refl _ w) (.cells #[.int .i64 a1, .int .i64 a2, .int .i64 a3] 35)) (.cells #[.int .i64 b1, .int .i64 b2, .int .i64 b3] 35)) (.cells #[.int .i64 c1, .int .i64 c2, .int .i64 c3] 35)) (.cells #[.int .i64 e1, .int .i64 e2, .int .i64 e3] 35)) (.cells #[.slice (some ⟨w.heap.size + 1 + 1 + 1 + 1 + 1 + 1, 0, none⟩) 1 1, .slice (some ⟨w.heap.size + 1 + 1 + 1 + 1 + 1 + 1 + 1, 0, none⟩) 2 2] 25)) (.cells #[.int .i64 a1, .int .i64 a2, .int .i64 a3, .int .i64 b1, .int .i64 b2, .int .i64 b3, .int .i64 c1, .int .i64 c2, .int .i64 c3, .int .i64 e1, .int .i64 e2, .int .i64 e3] 35)) (.cells #[.int .i64 1, .int .i64 1, .slice (some ⟨w.heap.size + 1 + 1 + 1 + 1 + 1, 0, none⟩) 4 4, .string { data := #[] }, .int .i64 0] 38)) (.cells #[.int .i64 1, .int .i64 2, .string { data := #[] }, .int .i64 0, .int .i64 1, .int .i64 3, .string { data := #[] }, .int .i64 0] 33)))
  have HD : RowKit.Hid (DgIn _ (some ⟨w.heap.size + 1 + 1 + 1 + 1 + 1 + 1, 0, none⟩) 1 1 (twV (some ⟨w.heap.size + 1 + 1 + 1 + 1 + 1, 0, none⟩) (a1, a2, a3) (b1, b2, b3) (c1, c2, c3) (e1, e2, e3)) (some ⟨w.heap.size + 1 + 1 + 1 + 1 + 1 + 1 + 1, 0, none⟩) 2 2 twE) := Lib.hid ⟨RdS.of_whole (t := 38) HV.out rfl, RdS.of_whole (t := 33) HE.out rfl, fun x hx => by
    obtain rfl := List.mem_singleton.1 hx
    exact ⟨by show 4 ≤ maxLen; unfold maxLen; omega, RdS.whole3 (t := 35) (L := [(a1, a2, a3), (b1, b2, b3), (c1, c2, c3), (e1, e2, e3)]) HR.out⟩⟩
  go_wp2
  exact ret_whole rfl (w.heap.size + 1 + 1 + 1 + 1) rfl HG.out Try.underlying25 rfl (by kernel_rfl) rfl ⟨_, _, _, rfl, HD.out, HB.out⟩
end Go.Proofs.Ytahbfdhjgnlmdaa

/- Examples of layer 7. -/
namespace Go.Proofs.Ytahbfdhjgnlmdaa
open Go.RowKit
set_option linter.unusedSimpArgs false
set_option linter.unusedVariables false

set_option maxRecDepth 100000 in
set_option maxHeartbeats 4000000 in
theorem shown07_any (w : World) : Calls Try.prog 9 #[] w fun e w' => e = .returned (.bool true) ∧ Below w.heap.size w w' := by
  go_enter Try.func9, Try.ntmps9
  go_wp2_with fail
  refine (dart7 2 0 _).mono ?_
  rintro e w1 ⟨rfl, hb1⟩
  have Bel_2 := Lib.hid (bel_bl (Below.refl _ w) hb1)
  clear hb1
  go_wp2_with fail
  refine (dart7 2 1 _).mono ?_
  rintro e w3 ⟨rfl, hb3⟩
  have Bel_4 := Lib.hid (bel_bl Bel_2.out hb3)
  clear Bel_2
  clear hb3
  go_wp2_with fail
  refine (dart7 3 0 _).mono ?_
  rintro e w5 ⟨rfl, hb5⟩
  have Bel_6 := Lib.hid (bel_bl Bel_4.out hb5)
  clear Bel_4
  clear hb5
  go_wp2_with fail
  refine (dart7 3 1 _).mono ?_
  rintro e w7 ⟨rfl, hb7⟩
  have Bel_8 := Lib.hid (bel_bl Bel_6.out hb7)
  clear Bel_6
  clear hb7
  go_wp2_with fail
  refine (two7 1 2 0 1 2 1 1 3 0 1 3 1 _).mono ?_
  rintro e w9 ⟨ga, Aa, Ba, rfl, hda, hb9⟩
  have Bel_10 := Lib.hid (bel_bl Bel_8.out hb9)
  clear Bel_8
  clear hb9
  have Da_10 := Lib.hid hda
  clear hda
  go_wp2_with fail
  refine ((tw1_gen ga ▸ gen7_any (tw1_formed ga) (tw_good ga _ _ _ _ tw_wf.1 tw_wf.2.1 tw_wf.2.2.1 tw_wf.2.2.2) _ Da_10.out)).mono ?_
  rintro e w11 ⟨rfl, hb11⟩
  have Da_12 := Lib.hid (Da_10.out.bl hb11)
  have Bel_12 := Lib.hid (bel_bl Bel_10.out hb11)
  clear Da_10 Bel_10
  clear hb11
  go_wp2_with fail
  refine (dart7 2 0 _).mono ?_
  rintro e w13 ⟨rfl, hb13⟩
  have Da_14 := Lib.hid (Da_12.out.bl hb13)
  have Bel_14 := Lib.hid (bel_bl Bel_12.out hb13)
  clear Da_12 Bel_12
  clear hb13
  go_wp2_with fail
  refine (dart7 3 0 _).mono ?_
  rintro e w15 ⟨rfl, hb15⟩
  have Da_16 := Lib.hid (Da_14.out.bl hb15)
  have Bel_16 := Lib.hid (bel_bl Bel_14.out hb15)
  clear Da_14 Bel_14
  clear hb15
  go_wp2_with fail
  refine (dart7 2 1 _).mono ?_
  rintro e w17 ⟨rfl, hb17⟩
  have Da_18 := Lib.hid (Da_16.out.bl hb17)
  have Bel_18 := Lib.hid (bel_bl Bel_16.out hb17)
  clear Da_16 Bel_16
  clear hb17
  go_wp2_with fail
  refine (dart7 3 1 _).mono ?_
  rintro e w19 ⟨rfl, hb19⟩
  have Da_20 := Lib.hid (Da_18.out.bl hb19)
  have Bel_20 := Lib.hid (bel_bl Bel_18.out hb19)
  clear Da_18 Bel_18
  clear hb19
  go_wp2_with fail
  refine (two7 1 2 0 1 3 0 1 2 1 1 3 1 _).mono ?_
  rintro e w21 ⟨gb, Ab, Bb, rfl, hdb, hb21⟩
  have Da_22 := Lib.hid (Da_20.out.bl hb21)
  have Bel_22 := Lib.hid (bel_bl Bel_20.out hb21)
  clear Da_20 Bel_20
  clear hb21
  have Db_22 := Lib.hid hdb
  clear hdb
  go_wp2_with fail
  refine ((tw2_gen gb ▸ gen7_any (tw2_formed gb) (tw_good gb _ _ _ _ tw_wf.1 tw_wf.2.2.1 tw_wf.2.1 tw_wf.2.2.2) _ Db_22.out)).mono ?_
  rintro e w23 ⟨rfl, hb23⟩
  have Da_24 := Lib.hid (Da_22.out.bl hb23)
  have Db_24 := Lib.hid (Db_22.out.bl hb23)
  have Bel_24 := Lib.hid (bel_bl Bel_22.out hb23)
  clear Da_22 Db_22 Bel_22
  clear hb23
  go_wp2_with fail
  refine ((tw0_gen ▸ plan7_any (A := none) (n := 0) (c := 0) (B := none) (m := 0) (k := 0) tw0_formed tw0_good _ ⟨RdS.no _ _ _, RdS.no _ _ _, fun x hx => (by cases hx)⟩)).mono ?_
  rintro e w25 ⟨rfl, hb25⟩
  have Da_26 := Lib.hid (Da_24.out.bl hb25)
  have Db_26 := Lib.hid (Db_24.out.bl hb25)
  have Bel_26 := Lib.hid (bel_bl Bel_24.out hb25)
  clear Da_24 Db_24 Bel_24
  clear hb25
  go_wp2
  go_ret
  exact ⟨rfl, Bel_26.out⟩
end Go.Proofs.Ytahbfdhjgnlmdaa

/- One element taken out of a permutation: orbits are as many as they were, but for one that was alone. -/
namespace Go.Proofs.Ytahbfdhjgnlmdaa
open Go.RowKit
set_option linter.unusedSimpArgs false
set_option linter.unusedVariables false
section
variable {α : Type} {f f' : α → α} {L L' P : List α}
theorem cut_pm [DecidableEq α] (h : Pm f L) {a : α} (ha : a ∈ L) (hn : L'.Nodup) (hL : ∀ y, y ∈ L' ↔ y ∈ L ∧ y ≠ a) (hf : ∀ z ∈ L', f' z = if f z = a then f a else f z) : Pm f' L' := by
  refine ⟨hn, fun z hz => ?_, fun z hz w hw e => ?_⟩
  · obtain ⟨z1, z2⟩ := (hL z).1 hz
    rw [hf z hz]
    split
    · rename_i q
      refine (hL _).2 ⟨h.cl a ha, fun q2 => z2 (h.inj _ z1 _ ha (q.trans q2.symm))⟩
    · rename_i q
      exact (hL _).2 ⟨h.cl z z1, q⟩
  · obtain ⟨z1, z2⟩ := (hL z).1 hz
    obtain ⟨w1, w2⟩ := (hL w).1 hw
    rw [hf z hz, hf w hw] at e
    by_cases q : f z = a
    · by_cases r : f w = a
      · exact h.inj _ z1 _ w1 (q.trans r.symm)
      · rw [if_pos q, if_neg r] at e
        exact absurd (h.inj _ ha _ w1 e).symm w2
    · by_cases r : f w = a
      · rw [if_neg q, if_pos r] at e
        exact absurd (h.inj _ z1 _ ha e) z2
      · rw [if_neg q, if_neg r] at e
        exact h.inj _ z1 _ w1 e
theorem cut_to [DecidableEq α] (h : Pm f L) {a : α} (ha : a ∈ L) (hL : ∀ y, y ∈ L' ↔ y ∈ L ∧ y ≠ a) (hf : ∀ z ∈ L', f' z = if f z = a then f a else f z) {x : α} (hx : x ∈ L') :
    ∀ n i, i ≤ n → itN f i x ≠ a → Rl f' x (itN f i x) := by
  obtain ⟨x1, x2⟩ := (hL x).1 hx
  intro n
  induction n with
  | zero =>
    intro i hi _
    obtain rfl : i = 0 := by omega
    exact Rl.refl x
  | succ n ih =>
    intro i hi hne
    cases i with
    | zero => exact Rl.refl x
    | succ j =>
      by_cases q : itN f j x = a
      · cases j with
        | zero => exact absurd q x2
        | succ k =>
          have e1 : f (itN f k x) = a := (it_succ k x).symm.trans q
          have e2 : itN f (k + 1 + 1) x = f a := by rw [it_succ, q]
          rw [e2] at hne ⊢
          have hk : itN f k x ≠ a := fun r => hne (by rw [← e1, r] ; rw [r] at e1; rw [e1]; exact e1)
          have r1 := ih k (by omega) hk
          have hm : itN f k x ∈ L' := (hL _).2 ⟨h.it x1 k, hk⟩
          have e3 : f' (itN f k x) = f a := by rw [hf _ hm, if_pos e1]
          exact r1.trans (e3 ▸ Rl.one (f := f') (itN f k x))
      · have r1 := ih j (by omega) q
        have hm : itN f j x ∈ L' := (hL _).2 ⟨h.it x1 j, q⟩
        rw [it_succ] at hne ⊢
        have e3 : f' (itN f j x) = f (itN f j x) := by rw [hf _ hm, if_neg hne]
        exact r1.trans (e3 ▸ Rl.one (f := f') (itN f j x))
theorem cut_of [DecidableEq α] (h : Pm f L) (h' : Pm f' L') {a : α} (hL : ∀ y, y ∈ L' ↔ y ∈ L ∧ y ≠ a) (hf : ∀ z ∈ L', f' z = if f z = a then f a else f z) {x : α} (hx : x ∈ L') :
    ∀ i, Rl f x (itN f' i x)
  | 0 => Rl.refl x
  | i + 1 => by
    have r := cut_of h h' hL hf hx i
    refine r.trans ?_
    rw [it_succ, hf _ (h'.it hx i)]
    split
    · rename_i q
      exact (q ▸ Rl.one (f := f) (itN f' i x)).trans (Rl.one (f := f) a)
    · exact Rl.one _
theorem cut_rl [DecidableEq α] (h : Pm f L) (h' : Pm f' L') {a : α} (ha : a ∈ L) (hL : ∀ y, y ∈ L' ↔ y ∈ L ∧ y ≠ a) (hf : ∀ z ∈ L', f' z = if f z = a then f a else f z) {x y : α} (hx : x ∈ L') (hy : y ≠ a) : Rl f' x y ↔ Rl f x y := by
  constructor
  · rintro ⟨i, rfl⟩
    exact cut_of h h' hL hf hx i
  · rintro ⟨i, rfl⟩
    exact cut_to h ha hL hf hx i i (Nat.le_refl _) hy
theorem cut_orbs [DecidableEq α] (h : Pm f L) {a : α} (ha : a ∈ L) (hn : L'.Nodup) (hL : ∀ y, y ∈ L' ↔ y ∈ L ∧ y ≠ a) (hf : ∀ z ∈ L', f' z = if f z = a then f a else f z) (hP : Reps f L P) :
    Pm f' L' ∧ ∃ P', Reps f' L' P' ∧ P'.length + (if f a = a then 1 else 0) = P.length := by
  have h' := cut_pm h ha hn hL hf
  have hr : ∀ {x y : α}, x ∈ L' → y ≠ a → (Rl f' x y ↔ Rl f x y) := fun hx hy => cut_rl h h' ha hL hf hx hy
  refine ⟨h', ?_⟩
  by_cases q : f a = a
  · rw [if_pos q]
    have hfix : ∀ i, itN f i a = a := fun i => by
      induction i with
      | zero => rfl
      | succ i ih => rw [it_succ, ih, q]
    have hto : ∀ {p}, p ∈ L → Rl f p a → p = a := fun {p} hp r => by
      obtain ⟨i, e⟩ := r.symm h hp
      rw [← e, hfix]
    have haP : a ∈ P := by
      obtain ⟨p, hp, r⟩ := hP.all a ha
      exact hto (hP.sub p hp) r ▸ hp
    have hmem : ∀ p, p ∈ P.erase a ↔ p ≠ a ∧ p ∈ P := fun p => hP.nd.mem_erase_iff
    refine ⟨P.erase a, ⟨hP.nd.erase a, fun p hp => ?_, fun x hx => ?_, fun p hp r hr2 e => ?_⟩, ?_⟩
    · obtain ⟨p1, p2⟩ := (hmem p).1 hp
      exact (hL p).2 ⟨hP.sub p p2, p1⟩
    · obtain ⟨x1, x2⟩ := (hL x).1 hx
      obtain ⟨p, hp, r⟩ := hP.all x x1
      have hpa : p ≠ a := fun e => by
        obtain ⟨i, e2⟩ := r
        rw [e, hfix] at e2
        exact x2 e2.symm
      exact ⟨p, (hmem p).2 ⟨hpa, hp⟩, (hr ((hL p).2 ⟨hP.sub p hp, hpa⟩) x2).2 r⟩
    · obtain ⟨p1, p2⟩ := (hmem p).1 hp
      obtain ⟨r1, r2⟩ := (hmem r).1 hr2
      exact hP.one p p2 r r2 ((hr ((hL p).2 ⟨hP.sub p p2, p1⟩) r1).1 e)
    · have := List.length_erase_of_mem haP
      have := List.length_pos_of_mem haP
      omega
  · rw [if_neg q]
    have hfa : f a ∈ L' := (hL _).2 ⟨h.cl a ha, q⟩
    have hg : ∀ p ∈ P, (if p = a then f a else p) ∈ L' := fun p hp => by
      split
      · exact hfa
      · rename_i e
        exact (hL p).2 ⟨hP.sub p hp, e⟩
    have hgr : ∀ p, p ∈ P → Rl f p (if p = a then f a else p) := fun p hp => by
      split
      · rename_i e
        rw [e]
        exact Rl.one a
      · exact Rl.refl p
    have hone : ∀ p ∈ P, ∀ r ∈ P, Rl f (if p = a then f a else p) (if r = a then f a else r) → p = r := fun p hp r hr2 e =>
      hP.one p hp r hr2 (((hgr p hp).trans e).trans ((hgr r hr2).symm h (hP.sub r hr2)))
    refine ⟨P.map fun p => if p = a then f a else p, ⟨?_, fun x hx => ?_, fun x hx => ?_, fun p hp r hr2 e => ?_⟩, by simp⟩
    · rw [List.nodup_iff_pairwise_ne, List.pairwise_map]
      exact (List.nodup_iff_pairwise_ne.1 hP.nd).imp_of_mem (fun {p r} hp hr2 hne e => hne (hone p hp r hr2 (e ▸ Rl.refl _)))
    · obtain ⟨p, hp, rfl⟩ := List.mem_map.1 hx
      exact hg p hp
    · obtain ⟨x1, x2⟩ := (hL x).1 hx
      obtain ⟨p, hp, r⟩ := hP.all x x1
      refine ⟨_, List.mem_map.2 ⟨p, hp, rfl⟩, (hr (hg p hp) x2).2 ?_⟩
      exact ((hgr p hp).symm h (hP.sub p hp)).trans r
    · obtain ⟨p, hp3, rfl⟩ := List.mem_map.1 hp
      obtain ⟨r, hr3, rfl⟩ := List.mem_map.1 hr2
      have h2 := ((hL _).1 (hg r hr3)).2
      rw [hone p hp3 r hr3 ((hr (hg p hp3) h2).1 e)]
end
end Go.Proofs.Ytahbfdhjgnlmdaa

/- Edge by edge, in any order. -/
namespace Go.Proofs.Ytahbfdhjgnlmdaa
open Go.RowKit
set_option linter.unusedSimpArgs false
set_option linter.unusedVariables false

theorem nodup_of_map {α β : Type} {g : α → β} : ∀ {L : List α}, (L.map g).Nodup → L.Nodup
  | [], _ => List.nodup_nil
  | x :: r, h => by
    rw [List.map_cons, List.nodup_cons] at h
    exact List.nodup_cons.2 ⟨fun q => h.1 (List.mem_map.2 ⟨x, q, rfl⟩), nodup_of_map h.2⟩
def lbG (Vs : List VC) (Fs : List EC) : List Int := joins (Fs.map (peF Vs)) (upN Vs.length)
section
variable {Vs : List VC} {Es Fs : List EC}
theorem gpairs_lt (h : Formed Vs Es) (hs : ∀ e ∈ Fs, e ∈ Es) : ∀ p ∈ Fs.map (peF Vs), p.1 < Vs.length ∧ p.2 < Vs.length := fun p hp => by
  obtain ⟨e, he, rfl⟩ := List.mem_map.1 hp
  obtain ⟨h1, h2⟩ := h.ends (hs e he)
  exact ⟨plD_lt h1, plD_lt h2⟩
theorem lbG_lab (h : Formed Vs Es) (hs : ∀ e ∈ Fs, e ∈ Es) : Lab Vs.length (fun i j => False ∨ (i, j) ∈ Fs.map (peF Vs)) (lbG Vs Fs) := joins_lab _ _ _ (gpairs_lt h hs) (Lab.up Vs.length)
theorem lbG_step (h : Formed Vs Es) (hs : ∀ e ∈ Fs, e ∈ Es) {d : D} (hd : d ∈ ringsOf Vs) : (lbG Vs Fs).getD (plD Vs (fkF Vs (Fs.map (·.1)) d)) 0 = (lbG Vs Fs).getD (plD Vs d) 0 := by
  rw [fkF, plD_sg h.once (alF_mem h _ hd)]
  unfold alF
  split
  · rename_i q
    obtain ⟨e, he, e1⟩ := List.mem_map.1 q
    have hm : peF Vs e ∈ Fs.map (peF Vs) := List.mem_map.2 ⟨e, he, rfl⟩
    obtain ⟨h1, h2⟩ := gpairs_lt h hs _ hm
    have hc := (lbG_lab h hs).co (peF Vs e).1 (peF Vs e).2 h1 h2 (.inr hm)
    obtain ⟨_, _, _, hs⟩ := (h.mem d).1 hd
    obtain ⟨a, b, c⟩ := d
    simp only at hs e1
    have ea : (peF Vs e).1 = plD Vs (a, b, 0) := by show plD Vs (e.1.1, e.1.2, 0) = _; rw [e1]
    have eb : (peF Vs e).2 = plD Vs (a, b, 1) := by show plD Vs (e.1.1, e.1.2, 1) = _; rw [e1]
    simp only [ea, eb] at hc
    rcases hs with rfl | rfl
    · exact hc.symm
    · exact hc
  · rfl
theorem lbG_face (h : Formed Vs Es) (hs : ∀ e ∈ Fs, e ∈ Es) {x y : D} (hx : x ∈ ringsOf Vs) (r : Rl (fkF Vs (Fs.map (·.1))) x y) : (lbG Vs Fs).getD (plD Vs y) 0 = (lbG Vs Fs).getD (plD Vs x) 0 := by
  obtain ⟨i, rfl⟩ := r
  induction i with
  | zero => rfl
  | succ i ih => rw [it_succ, lbG_step h hs ((fk_pm h _).it hx i), ih]
theorem euler_step (h : Formed Vs Es) (hs : ∀ e ∈ Fs, e ∈ Es) {e : EC} (he : e ∈ Es) (hno : e.1 ∉ Fs.map (·.1)) {P : List D} {t : Nat} (hP : Reps (fkF Vs (Fs.map (·.1))) (ringsOf Vs) P) (hE : 2 * cntF (lbG Vs Fs) + Fs.length = Vs.length + P.length + aloneN Vs + 2 * t) :
    ∃ P' t', Reps (fkF Vs ((Fs ++ [e]).map (·.1))) (ringsOf Vs) P' ∧ 2 * cntF (lbG Vs (Fs ++ [e])) + (Fs ++ [e]).length = Vs.length + P'.length + aloneN Vs + 2 * t' ∧ (t' = t ∨ t' = t + 1) := by
  obtain ⟨m0, m1⟩ := h.ends he
  have hp0 := plD_lt m0
  have hp1 := plD_lt m1
  have el : ((Fs ++ [e]).map (·.1)) = Fs.map (·.1) ++ [e.1] := by rw [List.map_append]; rfl
  have hno' : (e.1.1, e.1.2) ∉ Fs.map (·.1) := hno
  have a1 : ∀ s, alF ((Fs ++ [e]).map (·.1)) (e.1.1, e.1.2, s) = othD (e.1.1, e.1.2, s) := fun s => if_pos (by rw [el]; exact List.mem_append.2 (.inr (List.mem_singleton.2 rfl)))
  have a2 : ∀ s, alF (Fs.map (·.1)) (e.1.1, e.1.2, s) = (e.1.1, e.1.2, s) := fun s => if_neg hno'
  have hne : ((e.1.1, e.1.2, 0) : D) ≠ (e.1.1, e.1.2, 1) := fun q => by simp at q
  obtain ⟨P', hP', h1, h2⟩ := swap_orbs (fk_pm h (Fs.map (·.1))) (fk_pm h ((Fs ++ [e]).map (·.1))) m0 m1 hne
    (by rw [fkF, fkF, a1, a2]; rfl) (by rw [fkF, fkF, a1, a2]; rfl) (fun z hz z0 z1 => by
      have : alF ((Fs ++ [e]).map (·.1)) z = alF (Fs.map (·.1)) z := by
        unfold alF
        rw [el]
        have hz2 : (z.1, z.2.1) ≠ e.1 := fun q => by
          obtain ⟨_, _, _, hs⟩ := (h.mem z).1 hz
          obtain ⟨a, b, c⟩ := z
          simp only at hs q
          rcases hs with rfl | rfl
          · exact z0 (by rw [← q])
          · exact z1 (by rw [← q])
        by_cases q : (z.1, z.2.1) ∈ Fs.map (·.1)
        · rw [if_pos q, if_pos (List.mem_append.2 (.inl q))]
        · rw [if_neg q, if_neg (fun hm => (List.mem_append.1 hm).elim q (fun hm => hz2 (List.mem_singleton.1 hm)))]
      rw [fkF, fkF, this]) hP
  have hL : lbG Vs (Fs ++ [e]) = joinF (lbG Vs Fs) ((lbG Vs Fs).getD (plD Vs (e.1.1, e.1.2, 0)) 0) ((lbG Vs Fs).getD (plD Vs (e.1.1, e.1.2, 1)) 0) := by
    unfold lbG joins
    rw [List.map_append, List.foldl_append]
    rfl
  have hlen := (lbG_lab h hs).len
  have hj := cnt_join (lbG_lab h hs).ok (p := plD Vs (e.1.1, e.1.2, 0)) (q := plD Vs (e.1.1, e.1.2, 1)) (by omega) (by omega)
  rw [← hL] at hj
  have hll : (Fs ++ [e]).length = Fs.length + 1 := by simp
  rw [hll]
  by_cases hr : Rl (fkF Vs (Fs.map (·.1))) (e.1.1, e.1.2, 0) (e.1.1, e.1.2, 1)
  · rw [if_pos (lbG_face h hs m0 hr).symm] at hj
    have := h1 hr
    exact ⟨P', t, hP', by omega, .inl rfl⟩
  · have := h2 hr
    by_cases hq : (lbG Vs Fs).getD (plD Vs (e.1.1, e.1.2, 0)) 0 = (lbG Vs Fs).getD (plD Vs (e.1.1, e.1.2, 1)) 0
    · rw [if_pos hq] at hj
      exact ⟨P', t + 1, hP', by omega, .inr rfl⟩
    · rw [if_neg hq] at hj
      exact ⟨P', t, hP', by omega, .inl rfl⟩
theorem euler_any (h : Formed Vs Es) : ∀ (k : Nat) (Fs : List EC), Fs.length = k → (∀ e ∈ Fs, e ∈ Es) → (Fs.map (·.1)).Nodup → ∃ P t, Reps (fkF Vs (Fs.map (·.1))) (ringsOf Vs) P ∧ 2 * cntF (lbG Vs Fs) + Fs.length = Vs.length + P.length + aloneN Vs + 2 * t
  | 0, Fs, hk, _, _ => by
    obtain rfl : Fs = [] := List.eq_nil_of_length_eq_zero hk
    obtain ⟨P, t, hP, hE⟩ := euler_inv h 0 (Nat.zero_le _)
    exact ⟨P, t, hP, hE⟩
  | k + 1, Fs, hk, hs, hnd => by
    have hne : Fs ≠ [] := fun e => by rw [e] at hk; cases hk
    obtain ⟨Gs, e, rfl⟩ : ∃ Gs e, Fs = Gs ++ [e] := ⟨Fs.dropLast, Fs.getLast hne, (List.dropLast_concat_getLast hne).symm⟩
    rw [List.map_append, List.nodup_append] at hnd
    obtain ⟨P, t, hP, hE⟩ := euler_any h k Gs (by simpa using hk) (fun x hx => hs x (List.mem_append.2 (.inl hx))) hnd.1
    obtain ⟨P', t', h1, h2, _⟩ := euler_step h (fun x hx => hs x (List.mem_append.2 (.inl hx))) (hs e (List.mem_append.2 (.inr (List.mem_singleton.2 rfl)))) (fun q => hnd.2.2 _ q _ (List.mem_singleton.2 rfl) rfl) hP hE
    exact ⟨P', t', h1, h2⟩
theorem lbG_all (h : Formed Vs Es) (hm : ∀ e, e ∈ Fs ↔ e ∈ Es) : lbG Vs Fs = labF Vs := by
  rw [← lbK_all h]
  have h1 := lbG_lab h (fun e he => (hm e).1 he)
  have e1 : (fun i j => False ∨ (i, j) ∈ Fs.map (peF Vs)) = (fun i j => False ∨ (i, j) ∈ (Es.take Es.length).map (peF Vs)) := by
    funext i j
    rw [List.take_length]
    refine propext (or_congr Iff.rfl ?_)
    rw [List.mem_map, List.mem_map]
    exact ⟨fun ⟨e, he, q⟩ => ⟨e, (hm e).1 he, q⟩, fun ⟨e, he, q⟩ => ⟨e, (hm e).2 he, q⟩⟩
  rw [e1] at h1
  exact h1.uniq (lbK_lab h Es.length)
theorem fkG_all (h : Formed Vs Es) (hm : ∀ e, e ∈ Fs ↔ e ∈ Es) {d : D} (hd : d ∈ ringsOf Vs) : fkF Vs (Fs.map (·.1)) d = phF Vs d := by
  obtain ⟨e, he, e1, _⟩ := (h.mem d).1 hd
  have : alF (Fs.map (·.1)) d = othD d := if_pos (List.mem_map.2 ⟨e, (hm e).2 he, e1⟩)
  rw [fkF, this]
  rfl
/-- Without one edge: what is left has a number t of its own, and all together t or one more. -/
theorem euler_but (h : Formed Vs Es) {Fs : List EC} {e : EC} (hm : ∀ x, x ∈ Fs ++ [e] ↔ x ∈ Es) (hnd : ((Fs ++ [e]).map (·.1)).Nodup) :
    ∃ P t, Reps (fkF Vs (Fs.map (·.1))) (ringsOf Vs) P ∧ 2 * cntF (lbG Vs Fs) + Fs.length = Vs.length + P.length + aloneN Vs + 2 * t ∧ (genF Vs Es = (t : Int) ∨ genF Vs Es = (t : Int) + 1) := by
  have hs : ∀ x ∈ Fs, x ∈ Es := fun x hx => (hm x).1 (List.mem_append.2 (.inl hx))
  have he : e ∈ Es := (hm e).1 (List.mem_append.2 (.inr (List.mem_singleton.2 rfl)))
  rw [List.map_append, List.nodup_append] at hnd
  have hno : e.1 ∉ Fs.map (·.1) := fun q => hnd.2.2 _ q _ (List.mem_singleton.2 rfl) rfl
  obtain ⟨P, t, hP, hE⟩ := euler_any h _ Fs rfl hs hnd.1
  obtain ⟨P', t', h1, h2, h3⟩ := euler_step h hs he hno hP hE
  refine ⟨P, t, hP, hE, ?_⟩
  rw [lbG_all h hm] at h2
  have h4 := h1.congr (fk_pm h _) (fun x hx => fkG_all h hm hx)
  obtain ⟨P0, hP0, ef⟩ := facN_reps h
  have hl := hP0.len h.phi h4
  have hlen : (Fs ++ [e]).length = Es.length := by
    have n1 : ((Fs ++ [e]).map (·.1)).Nodup := by rw [List.map_append, List.nodup_append]; exact hnd
    have n2 := nodup_of_map n1
    have n3 := nodup_of_map (rise_nodup h.re)
    exact ((List.perm_ext_iff_of_nodup n2 n3).2 hm).length_eq
  rw [hlen] at h2
  have hg := gen_num h (t := t') (by omega)
  rw [hg]
  rcases h3 with rfl | rfl
  · exact .inl rfl
  · exact .inr (by omega)
end
end Go.Proofs.Ytahbfdhjgnlmdaa

/- The other way round: as many orbits of each length. -/
namespace Go.Proofs.Ytahbfdhjgnlmdaa
open Go.RowKit
set_option linter.unusedSimpArgs false
set_option linter.unusedVariables false
set_option linter.unusedSectionVars false
section
variable {α : Type} [DecidableEq α] {f f' u : α → α} {L P Q : List α}
end
end Go.Proofs.Ytahbfdhjgnlmdaa

/- A dart that stands at another vertex, or at two: what a caller needs; a diagram whose rings are replaced one by one. -/
namespace Go.Proofs.Ytahbfdhjgnlmdaa
open Go.RowKit
set_option linter.unusedSimpArgs false
set_option linter.unusedVariables false


/-- A cell that holds what a row does not hold is none of the row's. -/
theorem rds_poke {w : World} {B s n c : Nat} {A : Option Addr} {xs : List Value} (h : RdS w B s A n c xs) {p : Addr} {v : Value} (hp : w.cell? p = some v) (hv : ¬ v ∈ xs) (u : Value) : RdS (w.setCell p u) B s A n c xs :=
  ⟨h.len, h.none_, h.le, h.low, fun a ha j z hz => by
    have h1 := h.cell a ha j z hz
    by_cases e : p = a.add j
    · rw [← e, hp] at h1
      obtain rfl := Option.some.inj h1
      exact absurd (List.mem_of_getElem? hz) hv
    · rw [World.cell?_setCell_other _ _ _ _ e]
      exact h1⟩
theorem size_setCell (w : World) (p : Addr) (u : Value) : (w.setCell p u).heap.size = w.heap.size := by simp
theorem rowsV_mem {α : Type} {f : α → List Value} : ∀ {L : List α} {v : Value}, v ∈ rowsV f L → ∃ x ∈ L, v ∈ f x := by
  intro L
  induction L with
  | nil => intro v h; cases h
  | cons a r ih =>
    intro v h
    rcases List.mem_append.1 (show v ∈ f a ++ rowsV f r from h) with h | h
    · exact ⟨a, List.mem_cons_self .., h⟩
    · obtain ⟨x, hx, h2⟩ := ih h
      exact ⟨x, List.mem_cons_of_mem _ hx, h2⟩
theorem no_slice_e {Es : List EC} {A : Option Addr} {n c : Nat} : ¬ Value.slice A n c ∈ rowsV eC Es := fun h => by
  obtain ⟨x, _, hx⟩ := rowsV_mem h
  simp [eC] at hx
theorem no_slice_d {L : List D} {A : Option Addr} {n c : Nat} : ¬ Value.slice A n c ∈ dartsV L := fun h => by
  rw [dartsV_rows] at h
  obtain ⟨x, _, hx⟩ := rowsV_mem h
  simp [dC] at hx
/-- A diagram whose vertices are of one's own. -/
structure Wr (W : World) (lo : Nat) (A : Option Addr) (n c : Nat) (Us : List VC) (B : Option Addr) (m k : Nat) (Es : List EC) : Prop where
  v : W.ownsRow lo 38 5 (.slice A n c) n (rowsV vC Us)
  e : RdS W W.heap.size 4 B m k (rowsV eC Es)
  r : ∀ x ∈ Us, RgOk W x.2.1
section
variable {W W' : World} {lo : Nat} {A : Option Addr} {n c : Nat} {Us : List VC} {B : Option Addr} {m k : Nat} {Es : List EC}
theorem Cl.wr (h : Cl W lo A n c Us B m k Es) : Wr W lo A n c Us B m k Es := ⟨h.v, h.dg.e, h.dg.r⟩
theorem Wr.dg (h : Wr W lo A n c Us B m k Es) : DgIn W A n c Us B m k Es := ⟨own_rds h.v, h.e, h.r⟩
theorem Wr.bl (h : Wr W lo A n c Us B m k Es) (hb : Below W.heap.size W W') : Wr W' lo A n c Us B m k Es := ⟨own_up h.v hb, h.e.bl hb, fun x hx => (h.r x hx).bl hb⟩
theorem Wr.al (h : Wr W lo A n c Us B m k Es) (o : Obj) : Wr (W.alloc o) lo A n c Us B m k Es := h.bl (below1 W o)
theorem Wr.dr (h : Wr W lo A n c Us B m k Es) : Wr W.drew lo A n c Us B m k Es := h.bl ((Below.refl _ _).drew)
theorem rg_poke {g i : Nat} {R : Rg} (h : RgOk W R) {A1 : Option Addr} {n1 c1 : Nat} (hp : W.cell? ⟨g, i, none⟩ = some (.slice A1 n1 c1)) (u : Value) : RgOk (W.setCell ⟨g, i, none⟩ u) R :=
  ⟨h.1, by rw [size_setCell]; exact rds_poke h.2 hp no_slice_d u⟩
theorem Wr.far (h : Wr W lo A n c Us B m k Es) {g i : Nat} {A1 : Option Addr} {n1 c1 : Nat} (hp : W.cell? ⟨g, i, none⟩ = some (.slice A1 n1 c1)) (hg : ∀ a, A = some a → g ≠ a.block) (u : Value) : Wr (W.setCell ⟨g, i, none⟩ u) lo A n c Us B m k Es :=
  ⟨own_cell_far h.v (fun e => by
    cases A with
    | none => cases e
    | some a =>
      exact hg a rfl (Option.some.inj e)) u, by rw [size_setCell]; exact rds_poke h.e hp no_slice_e u, fun x hx => rg_poke (h.r x hx) hp u⟩
theorem Wr.put (h : Wr W lo A n c Us B m k Es) {j : Nat} {x : VC} (hx : Us[j]? = some x) (hj : j < n) (R : Rg) (hR : RgOk W R) :
    ∃ g, A = some ⟨g, 0, none⟩ ∧ lo ≤ g ∧ (∃ cs, Whole W g 38 cs) ∧ W.cell? ⟨g, j * 5 + 2, none⟩ = some (.slice x.2.1.1 x.2.1.2.1 x.2.1.2.2.1) ∧ W.frozen? ⟨g, j * 5 + 2, none⟩ = false ∧
      Wr (W.setCell ⟨g, j * 5 + 2, none⟩ (.slice R.1 R.2.1 R.2.2.1)) lo A n c (Us.set j (x.1, R, x.2.2)) B m k Es := by
  obtain ⟨g, junk, e, hlo, hw, hc, hf, ho⟩ := own_poke (i := 2) (y := (x.1, R, x.2.2)) (u := .slice R.1 R.2.1 R.2.2.1) vC_len h.v hx hj (by omega) rfl
  have hc2 : W.cell? ⟨g, j * 5 + 2, none⟩ = some (.slice x.2.1.1 x.2.1.2.1 x.2.1.2.2.1) := hc.trans rfl
  refine ⟨g, e, hlo, ⟨_, hw⟩, hc2, hf, ho, by rw [size_setCell]; exact rds_poke h.e hc2 no_slice_e _, fun y hy => rg_poke ?_ hc2 _⟩
  rcases List.mem_or_eq_of_mem_set hy with hy | rfl
  · exact h.r y hy
  · exact hR
end
end Go.Proofs.Ytahbfdhjgnlmdaa

/- The document's Clone. -/
namespace Go.Proofs.Ytahbfdhjgnlmdaa
open Go.RowKit
set_option linter.unusedSimpArgs false
set_option linter.unusedVariables false


theorem own_lo0 {W : World} {B B' n : Nat} {e : TypeId} {size : Nat} {v : Value} {xs : List Value} (h : W.ownsRow B e size v n xs) (hB : B' ≤ B) : W.ownsRow B' e size v n xs := by
  refine ⟨h.1, ?_⟩
  rcases h.2 with hn | ⟨g, cap, cur, h1, hb, rest⟩
  · exact .inl hn
  · exact .inr ⟨g, cap, cur, h1, Nat.le_trans hB hb, rest⟩
/-- A diagram that is copied, vertex by vertex. -/
structure ClS (W : World) (lo : Nat) (A : Option Addr) (n c : Nat) (Ws : List VC) (B : Option Addr) (m k : Nat) (Es : List EC) : Prop where
  v : W.ownsRow lo 38 5 (.slice A n c) n (rowsV vC Ws)
  e : W.ownsRow lo 33 4 (.slice B m k) m (rowsV eC Es)
  r : ∀ x ∈ Ws, W.ownsRow lo 35 3 (.slice x.2.1.1 x.2.1.2.1 x.2.1.2.2.1) x.2.1.2.1 (dartsV x.2.1.2.2.2)
section
variable {W W' : World} {lo : Nat} {A : Option Addr} {n c : Nat} {Ws : List VC} {B : Option Addr} {m k : Nat} {Es : List EC}
theorem ClS.bl (h : ClS W lo A n c Ws B m k Es) (hb : Below W.heap.size W W') : ClS W' lo A n c Ws B m k Es := ⟨own_up h.v hb, own_up h.e hb, fun x hx => own_up (h.r x hx) hb⟩
theorem ClS.al (h : ClS W lo A n c Ws B m k Es) (o : Obj) : ClS (W.alloc o) lo A n c Ws B m k Es := h.bl (below1 W o)
theorem ClS.wr (h : ClS W lo A n c Ws B m k Es) : Wr W lo A n c Ws B m k Es := ⟨h.v, own_rds h.e, fun x hx => ⟨own_cap (h.r x hx), own_rds (h.r x hx)⟩⟩
/-- A write to a block of another type. -/
theorem ClS.far (h : ClS W lo A n c Ws B m k Es) {g i : Nat} {T : TypeId} {cs : List Value} (hw : Whole W g T cs) (h1 : T ≠ 38) (h2 : T ≠ 33) (h3 : T ≠ 35) (u : Value) : ClS (W.setCell ⟨g, i, none⟩ u) lo A n c Ws B m k Es :=
  ⟨own_cell_far h.v (own_ne h.v hw h1) u, own_cell_far h.e (own_ne h.e hw h2) u, fun x hx => own_cell_far (h.r x hx) (own_ne (h.r x hx) hw h3) u⟩
theorem ClS.far2 (h : ClS W lo A n c Ws B m k Es) {g i : Nat} {cs : List Value} (hw : Whole W g 38 cs) (hv : some g ≠ (Value.slice A n c).ownBlock) (u : Value) : ClS (W.setCell ⟨g, i, none⟩ u) lo A n c Ws B m k Es :=
  ⟨own_cell_far h.v hv u, own_cell_far h.e (own_ne h.e hw (by decide)) u, fun x hx => own_cell_far (h.r x hx) (own_ne (h.r x hx) hw (by decide)) u⟩
/-- One vertex more. -/
theorem ClS.push {P : Program} (h : ClS W lo A n c Ws B m k Es) (x : VC) (hx : W.ownsRow lo 35 3 (.slice x.2.1.1 x.2.1.2.1 x.2.1.2.2.1) x.2.1.2.1 (dartsV x.2.1.2.2.2)) (t ty : TypeId) (i : TypeInfo) (z : Value) (ht : P.underlying t = some (.slice 38)) (hi : P.info? 38 = some i) (hz : i.zero = some z) (hsize : i.size = 5) (hby : i.bytes = 64) (hzs : z.cells.size = 5)
    (hn : n ≤ 1000000) (hlo : lo ≤ W.heap.size) (g : Nat) (hr : RdS W W.heap.size 5 (some ⟨g, 0, none⟩) 1 1 (vC x)) :
    ∃ A' c' W', (Builtin.append_ #[t, t] ty #[.slice A n c, .slice (some ⟨g, 0, none⟩) 1 1]).run P W = .ok (.slice A' (n + 1) c') W' ∧ ClS W' lo A' (n + 1) c' (Ws ++ [x]) B m k Es ∧ Below lo W W' ∧ W.grownBy W' (Value.slice A n c).ownBlock := by
  obtain ⟨v', W2, hrun, hown, hg, hn0, hb⟩ := run_append_own_at (P := P) W lo t ty 38 i z 5 64 ht hi hz hsize hby hzs (by decide) _ n _ h.v ⟨g, 0, none⟩ 1 1 _ hr.len (hr.cell _ rfl) (vC_one x) (by unfold maxLen; omega) (by omega) hlo
  have hk : ∀ k, (Value.slice A n c).ownBlock = some k → lo ≤ k := fun k hk => (h.v.lt k hk).1
  obtain ⟨A', c', rfl, _⟩ := RdS.of_own hown
  have e : rowsV vC Ws ++ vC x = rowsV vC (Ws ++ [x]) := by rw [rowsV_app]; simp [rowsV]
  rw [e] at hown
  have keep : ∀ {T : TypeId} {s : Nat} {v : Value} {j : Nat} {xs : List Value}, W.ownsRow lo T s v j xs → 38 ≠ T → W2.ownsRow lo T s v j xs := fun {T s v j xs} ho hT => ho.kept hg (by
    cases hv : v.ownBlock with
    | none => exact .inl rfl
    | some g => exact .inr fun q => own_two h.v ho hT q.symm hv)
  refine ⟨A', c', W2, hrun, ⟨hown, keep h.e (by decide), fun y hy => ?_⟩, (Below.refl lo W).grown hg hlo hk, hg⟩
  rcases List.mem_append.1 hy with hy | hy
  · exact keep (h.r y hy) (by decide)
  · obtain rfl := List.mem_singleton.1 hy
    exact keep hx (by decide)
end
end Go.Proofs.Ytahbfdhjgnlmdaa

/- A diagram whose vertices and edges are of one's own; its rings turned the other way round, in numbers. -/
namespace Go.Proofs.Ytahbfdhjgnlmdaa
open Go.RowKit
set_option linter.unusedSimpArgs false
set_option linter.unusedVariables false

structure Wro (W : World) (lo : Nat) (A : Option Addr) (n c : Nat) (Us : List VC) (B : Option Addr) (m k : Nat) (Es : List EC) : Prop where
  v : W.ownsRow lo 38 5 (.slice A n c) n (rowsV vC Us)
  e : W.ownsRow lo 33 4 (.slice B m k) m (rowsV eC Es)
  r : ∀ x ∈ Us, RgOk W x.2.1
section
variable {W W' : World} {lo : Nat} {A : Option Addr} {n c : Nat} {Us : List VC} {B : Option Addr} {m k : Nat} {Es : List EC}
theorem Wro.dg (h : Wro W lo A n c Us B m k Es) : DgIn W A n c Us B m k Es := ⟨own_rds h.v, own_rds h.e, h.r⟩
theorem Wro.bl (h : Wro W lo A n c Us B m k Es) (hb : Below W.heap.size W W') : Wro W' lo A n c Us B m k Es := ⟨own_up h.v hb, own_up h.e hb, fun x hx => (h.r x hx).bl hb⟩
theorem Wro.al (h : Wro W lo A n c Us B m k Es) (o : Obj) : Wro (W.alloc o) lo A n c Us B m k Es := h.bl (below1 W o)
theorem Wro.dr (h : Wro W lo A n c Us B m k Es) : Wro W.drew lo A n c Us B m k Es := h.bl ((Below.refl _ _).drew)
theorem Wro.put (h : Wro W lo A n c Us B m k Es) {j : Nat} {x : VC} (hx : Us[j]? = some x) (hj : j < n) (R : Rg) (hR : RgOk W R) :
    ∃ g, A = some ⟨g, 0, none⟩ ∧ lo ≤ g ∧ (∃ cs, Whole W g 38 cs) ∧ W.cell? ⟨g, j * 5 + 2, none⟩ = some (.slice x.2.1.1 x.2.1.2.1 x.2.1.2.2.1) ∧ W.frozen? ⟨g, j * 5 + 2, none⟩ = false ∧
      Wro (W.setCell ⟨g, j * 5 + 2, none⟩ (.slice R.1 R.2.1 R.2.2.1)) lo A n c (Us.set j (x.1, R, x.2.2)) B m k Es := by
  obtain ⟨g, junk, e, hlo, hw, hc, hf, ho⟩ := own_poke (i := 2) (y := (x.1, R, x.2.2)) (u := .slice R.1 R.2.1 R.2.2.1) vC_len h.v hx hj (by omega) rfl
  have hc2 : W.cell? ⟨g, j * 5 + 2, none⟩ = some (.slice x.2.1.1 x.2.1.2.1 x.2.1.2.2.1) := hc.trans rfl
  refine ⟨g, e, hlo, ⟨_, hw⟩, hc2, hf, ho, own_cell_far h.e (own_ne h.e hw (by decide)) _, fun y hy => rg_poke ?_ hc2 _⟩
  rcases List.mem_or_eq_of_mem_set hy with hy | rfl
  · exact h.r y hy
  · exact hR
end
end Go.Proofs.Ytahbfdhjgnlmdaa

/- The other way round: the turned diagram, its faces. -/
namespace Go.Proofs.Ytahbfdhjgnlmdaa
open Go.RowKit
set_option linter.unusedSimpArgs false
set_option linter.unusedVariables false

theorem nxtR_get {R : List D} (hn : R.Nodup) {k : Nat} (hk : k < R.length) : nxtR R (R.getD k (0, 0, 0)) = R.getD ((k + 1) % R.length) (0, 0, 0) := by
  have e : R.getD k (0, 0, 0) = R[k] := by rw [List.getD_eq_getElem?_getD, List.getElem?_eq_getElem hk]; rfl
  rw [nxtR, e, hn.idxOf_getElem k hk]
theorem getD_at {R : List D} {y : D} (h : y ∈ R) : ∃ k, k < R.length ∧ R.getD k (0, 0, 0) = y := by
  obtain ⟨k, hk, e⟩ := List.getElem_of_mem h
  exact ⟨k, hk, by rw [List.getD_eq_getElem?_getD, List.getElem?_eq_getElem hk]; exact e⟩
theorem rot_get (X Y : List D) {k : Nat} (hk : k < (Y ++ X).length) : (Y ++ X).getD k (0, 0, 0) = (X ++ Y).getD ((k + X.length) % (X ++ Y).length) (0, 0, 0) := by
  rw [List.length_append] at hk
  rw [List.getD_eq_getElem?_getD, List.getD_eq_getElem?_getD, List.length_append]
  by_cases q : k < Y.length
  · rw [List.getElem?_append_left q, Nat.mod_eq_of_lt (by omega), List.getElem?_append_right (by omega), Nat.add_sub_cancel]
  · rw [List.getElem?_append_right (by omega)]
    have e : (k + X.length) % (X.length + Y.length) = k - Y.length := by
      rw [show k + X.length = (k - Y.length) + (X.length + Y.length) by omega, Nat.add_mod_right, Nat.mod_eq_of_lt (by omega)]
    rw [e, List.getElem?_append_left (by omega)]
theorem nxtR_rot {A B : List D} (h : Rot A B) (hn : A.Nodup) {y : D} (hy : y ∈ A) : nxtR B y = nxtR A y := by
  obtain ⟨X, Y, rfl, rfl⟩ := h
  have hnB : (Y ++ X).Nodup := List.perm_append_comm.nodup_iff.1 hn
  obtain ⟨k, hk, rfl⟩ := getD_at (R := Y ++ X) (List.perm_append_comm.mem_iff.1 hy)
  have hl : (Y ++ X).length = (X ++ Y).length := by simp [Nat.add_comm]
  have hpos : 0 < (X ++ Y).length := by omega
  rw [nxtR_get hnB hk, rot_get X Y (Nat.mod_lt _ (by omega)), rot_get X Y hk, nxtR_get hn (Nat.mod_lt _ hpos), hl]
  congr 1
  rw [Nat.mod_add_mod, Nat.mod_add_mod]
  congr 1
  omega
theorem nxV_same : ∀ (Us Ws : List VC) (f : D → Option D), Us.map (fun v => v.2.1.2.2.2) = Ws.map (fun v => v.2.1.2.2.2) → nxV Us f = nxV Ws f
  | [], [], _, _ => rfl
  | [], _ :: _, _, h => by cases h
  | _ :: _, [], _, h => by cases h
  | u :: r, v :: s, f, h => by
    rw [List.map_cons, List.map_cons] at h
    injection h with h1 h2
    rw [nxV, nxV, h1]
    exact nxV_same r s _ h2
theorem sigM_same {Us Ws : List VC} (h : Us.map vS = Ws.map vS) : sigM Us = sigM Ws := by
  have h1 := congrArg (List.map (fun s : (Int × Int) × List D × ByteArray × Int => s.2.1)) h
  rw [List.map_map, List.map_map] at h1
  exact nxV_same Us Ws _ h1
theorem phF_same {Us Ws : List VC} (h : Us.map vS = Ws.map vS) : phF Us = phF Ws := by
  funext y
  rw [phF, phF, sgF, sgF, sigM_same h]
section
variable {Vs Us : List VC} {Es : List EC}
end
end Go.Proofs.Ytahbfdhjgnlmdaa

/- An edge more between two vertices, in numbers: it joins their two parts, and no others. -/
namespace Go.Proofs.Ytahbfdhjgnlmdaa
open Go.RowKit
set_option linter.unusedSimpArgs false
set_option linter.unusedVariables false

section
variable {Us Vs : List VC} {Es : List EC} {x y : I2}
end
end Go.Proofs.Ytahbfdhjgnlmdaa

/- An edge more, in numbers: rings, next darts, how many faces. -/
namespace Go.Proofs.Ytahbfdhjgnlmdaa
open Go.RowKit
set_option linter.unusedSimpArgs false
set_option linter.unusedVariables false

/-- One behind x: what comes next in the longer ring. -/
theorem nxtR_end (B : List D) (x d : D) (hn : (B ++ [x, d]).Nodup) : nxtR (B ++ [x, d]) x = d ∧ nxtR (B ++ [x, d]) d = nxtR (B ++ [x]) x ∧ ∀ z ∈ B, nxtR (B ++ [x, d]) z = nxtR (B ++ [x]) z := by
  have hn1 : (B ++ [x]).Nodup := by
    have : (B ++ [x, d]) = (B ++ [x]) ++ [d] := by simp
    rw [this] at hn
    exact (List.nodup_append.1 hn).1
  have g : ∀ (i : Nat) (h : i < B.length), (B ++ [x, d]).getD i (0, 0, 0) = B[i] := fun i h => by
    rw [List.getD_eq_getElem?_getD, List.getElem?_append_left h, List.getElem?_eq_getElem h]; rfl
  have g' : ∀ (i : Nat) (h : i < B.length), (B ++ [x]).getD i (0, 0, 0) = B[i] := fun i h => by
    rw [List.getD_eq_getElem?_getD, List.getElem?_append_left h, List.getElem?_eq_getElem h]; rfl
  have gx : (B ++ [x, d]).getD B.length (0, 0, 0) = x := by
    rw [List.getD_eq_getElem?_getD, List.getElem?_append_right (Nat.le_refl _), Nat.sub_self]; rfl
  have gx' : (B ++ [x]).getD B.length (0, 0, 0) = x := by
    rw [List.getD_eq_getElem?_getD, List.getElem?_append_right (Nat.le_refl _), Nat.sub_self]; rfl
  have gd : (B ++ [x, d]).getD (B.length + 1) (0, 0, 0) = d := by
    rw [List.getD_eq_getElem?_getD, List.getElem?_append_right (by omega), show B.length + 1 - B.length = 1 by omega]; rfl
  have hl : (B ++ [x, d]).length = B.length + 2 := by simp
  have hl' : (B ++ [x]).length = B.length + 1 := by simp
  have g0 : (B ++ [x, d]).getD 0 (0, 0, 0) = (B ++ [x]).getD 0 (0, 0, 0) := by
    cases B with
    | nil => rfl
    | cons b r => rfl
  refine ⟨?_, ?_, fun z hz => ?_⟩
  · have := nxtR_get hn (k := B.length) (by omega)
    rw [gx, hl, Nat.mod_eq_of_lt (by omega), gd] at this
    exact this
  · have h1 := nxtR_get hn (k := B.length + 1) (by omega)
    rw [gd, hl, show B.length + 1 + 1 = B.length + 2 by omega, Nat.mod_self] at h1
    have h2 := nxtR_get hn1 (k := B.length) (by omega)
    rw [gx', hl', Nat.mod_self] at h2
    rw [h1, h2, g0]
  · obtain ⟨i, hi, rfl⟩ := List.getElem_of_mem hz
    have h1 := nxtR_get hn (k := i) (by omega)
    rw [g i hi, hl, Nat.mod_eq_of_lt (by omega)] at h1
    have h2 := nxtR_get hn1 (k := i) (by omega)
    rw [g' i hi, hl', Nat.mod_eq_of_lt (by omega)] at h2
    rw [h1, h2]
    by_cases q : i + 1 < B.length
    · rw [g _ q, g' _ q]
    · have e : i + 1 = B.length := by omega
      rw [e, gx, gx']
/-- Rings that hold what the other sides of their darts are: no word on edges. -/
structure Rung (Vs : List VC) : Prop where
  nd : (ringsOf Vs).Nodup
  ot : ∀ d ∈ ringsOf Vs, othD d ∈ ringsOf Vs
section
variable {Vs : List VC}
theorem Rung.phi (h : Rung Vs) : Pm (phF Vs) (ringsOf Vs) :=
  ⟨h.nd, fun x hx => (sig_pm h.nd).cl _ (h.ot x hx), fun x hx y hy e => by
    have := (sig_pm h.nd).inj _ (h.ot x hx) _ (h.ot y hy) e
    rw [← oth_oth x, this, oth_oth]⟩
theorem Rung.trG (h : Rung Vs) (x : D) : ∀ (k : Nat) (y : D), y ∈ ringsOf Vs → trG (sigM Vs) x k y = orbT (phF Vs) x k y
  | 0, _, _ => rfl
  | k + 1, y, hy => by
    have hz := h.phi.cl y hy
    rw [Go.Proofs.Ytahbfdhjgnlmdaa.trG, orbT, sigM_eq h.nd, if_pos (h.ot y hy)]
    show y :: (if phF Vs y = x then [] else Go.Proofs.Ytahbfdhjgnlmdaa.trG (sigM Vs) x k (phF Vs y)) = _
    rw [Rung.trG h x k _ hz]
theorem Rung.face (h : Rung Vs) (N : Nat) {x : D} (hx : x ∈ ringsOf Vs) : faceL (sigM Vs) N x = orbT (phF Vs) x N x := by
  rw [faceL, sigM_eq h.nd, if_pos hx, ← h.trG x N x hx]
  rfl
theorem Rung.faces (h : Rung Vs) (N : Nat) : ∀ (l T : List D), (∀ x ∈ l, x ∈ ringsOf Vs) → facesF (sigM Vs) N l T = orbsF (phF Vs) N l T
  | [], _, _ => rfl
  | x :: r, T, hl => by
    have hx := hl x (List.mem_cons_self ..)
    have hr := fun y hy => hl y (List.mem_cons_of_mem _ hy)
    rw [facesF, orbsF, Rung.faces h N r _ hr, Rung.faces h N r _ hr, h.face N hx]
    by_cases q : x ∈ T
    · rw [if_pos q, if_pos q]
    · rw [if_neg q, if_neg q]
end
end Go.Proofs.Ytahbfdhjgnlmdaa

/- The other way round, in numbers: faces, lone vertices, parts, genus are as they were. -/
namespace Go.Proofs.Ytahbfdhjgnlmdaa
open Go.RowKit
set_option linter.unusedSimpArgs false
set_option linter.unusedVariables false

theorem alone_vS (Ws : List VC) : aloneN Ws = ((Ws.map vS).filter fun s => decide (s.2.1 = [])).length := by
  rw [List.filter_map, List.length_map]
  rfl
end Go.Proofs.Ytahbfdhjgnlmdaa

/- An edge taken out, in numbers. -/
namespace Go.Proofs.Ytahbfdhjgnlmdaa
open Go.RowKit
set_option linter.unusedSimpArgs false
set_option linter.unusedVariables false

theorem filD_mem {L : List D} {x d : D} : d ∈ filD L x ↔ d ∈ L ∧ d ≠ x := by
  unfold filD
  simp [List.mem_filter]
theorem filD_not {L : List D} {x : D} (h : ¬ x ∈ L) : filD L x = L := by
  unfold filD
  rw [List.filter_eq_self]
  exact fun a ha => decide_eq_true fun e => h (e ▸ ha)
/-- The next dart, where one is taken out. -/
theorem nxtR_fil {R : List D} (hn : R.Nodup) {x : D} (hx : x ∈ R) : (∀ z ∈ R, z ≠ x → nxtR (turnD (filD R x)) z = if nxtR R z = x then nxtR R x else nxtR R z) ∧ (nxtR R x = x ↔ filD R x = []) := by
  obtain ⟨X, Y, rfl⟩ := List.append_of_mem hx
  have hxn : x ∉ X ∧ x ∉ Y := by
    rw [List.nodup_append] at hn
    exact ⟨fun q => hn.2.2 x q x (List.mem_cons_self ..) rfl, fun q => (List.nodup_cons.1 hn.2.1).1 q⟩
  have ef : filD (X ++ x :: Y) x = X ++ Y := by
    have e1 := filD_not hxn.1
    have e2 := filD_not hxn.2
    unfold filD at e1 e2 ⊢
    rw [List.filter_append, List.filter_cons, if_neg (by simp), e1, e2]
  have r1 : Rot (X ++ x :: Y) ((Y ++ X) ++ [x]) := ⟨X ++ [x], Y, by simp, by simp⟩
  have r2 : Rot (X ++ Y) (Y ++ X) := ⟨X, Y, rfl, rfl⟩
  have hn1 : ((Y ++ X) ++ [x]).Nodup := r1.nodup hn
  have hnf : (filD (X ++ x :: Y) x).Nodup := hn.filter _
  have hm : ∀ z, z ∈ X ++ x :: Y ↔ z ∈ (Y ++ X) ++ [x] := fun z => r1.mem z
  have n1 : ∀ z ∈ X ++ x :: Y, nxtR ((Y ++ X) ++ [x]) z = nxtR (X ++ x :: Y) z := fun z hz => nxtR_rot r1 hn hz
  rw [ef] at hnf
  have n2 : ∀ z ∈ X ++ Y, nxtR (turnD (X ++ Y)) z = nxtR (Y ++ X) z := fun z hz => by
    rw [nxtR_rot (rot_turn (X ++ Y)) hnf hz, nxtR_rot r2 hnf hz]
  rw [ef]
  obtain ⟨B, gB⟩ : ∃ z, Y ++ X = z := ⟨_, rfl⟩
  have hXY : X ++ Y = [] ↔ B = [] := by
    rw [← gB]
    constructor
    · intro q; rw [List.append_eq_nil_iff] at q; rw [q.1, q.2]; rfl
    · intro q; rw [List.append_eq_nil_iff] at q; rw [q.1, q.2]; rfl
  have hmB : ∀ z, z ∈ X ++ Y ↔ z ∈ B := fun z => by rw [← gB]; exact r2.mem z
  rw [gB] at hn1 hm n1 n2
  rw [hXY]
  have hBx : x ∉ B := fun q => by
    rw [← gB] at q
    exact (List.mem_append.1 q).elim hxn.2 hxn.1
  have in_ : ∀ z ∈ X ++ x :: Y, z ≠ x → z ∈ B := fun z hz hne => ((List.mem_append.1 ((hm z).1 hz)).elim id fun q => absurd (List.mem_singleton.1 q) hne)
  have nx : nxtR (X ++ x :: Y) x = nxtR (B ++ [x]) x := (n1 x hx).symm
  by_cases hB : B = []
  · refine ⟨fun z hz hne => ?_, ⟨fun _ => hB, fun _ => ?_⟩⟩
    · have := in_ z hz hne
      rw [hB] at this
      cases this
    · rw [nx, hB]
      simp [nxtR]
  · obtain ⟨C, c, gC⟩ : ∃ C c, B = C ++ [c] := ⟨B.dropLast, B.getLast hB, (List.dropLast_concat_getLast hB).symm⟩
    have hn2 : (C ++ [c, x]).Nodup := by rw [gC] at hn1; simpa using hn1
    have e2 : B ++ [x] = C ++ [c, x] := by rw [gC]; simp
    obtain ⟨q1, q2, q3⟩ := nxtR_end C c x hn2
    rw [← e2] at q1 q2 q3
    rw [← gC] at q2 q3
    have hcB : c ∈ B := by rw [gC]; simp
    refine ⟨fun z hz hne => ?_, ⟨fun q => ?_, fun q => absurd q hB⟩⟩
    · have hzB := in_ z hz hne
      rw [n2 z ((hmB z).2 hzB), ← n1 z hz, nx]
      by_cases hzc : z = c
      · rw [hzc, q1, if_pos rfl, q2]
      · have hzC : z ∈ C := by
          rw [gC] at hzB
          exact (List.mem_append.1 hzB).elim id fun q => absurd (List.mem_singleton.1 q) hzc
        have hm2 : nxtR B z ∈ B := nxtR_mem hzB
        rw [q3 z hzC, if_neg (fun q : nxtR B z = x => hBx (q ▸ hm2))]
    · rw [nx, q2] at q
      have h9 : nxtR B c ∈ B := nxtR_mem hcB
      rw [q] at h9
      exact absurd h9 hBx
section
variable {Vs Us : List VC} {Es : List EC}
theorem rem_mem (hn : (ringsOf Vs).Nodup) {x d : D} : d ∈ ringsOf (Vs.map (remV x)) ↔ d ∈ ringsOf Vs ∧ d ≠ x := by
  rw [(rings_rem x Vs).mem_iff, filD_mem]
theorem rem_nodup (hn : (ringsOf Vs).Nodup) (x : D) : (ringsOf (Vs.map (remV x))).Nodup := (rings_rem x Vs).nodup_iff.2 (hn.filter _)
theorem rem_sg (hn : (ringsOf Vs).Nodup) {x z : D} (hx : x ∈ ringsOf Vs) (hz : z ∈ ringsOf Vs) (hne : z ≠ x) : sgF (Vs.map (remV x)) z = if sgF Vs z = x then sgF Vs x else sgF Vs z := by
  obtain ⟨v, hv, hr⟩ := ring_mem.1 hz
  have hzr : z ∈ (remV x v).2.1.2.2.2 := (turn_perm _).mem_iff.2 (filD_mem.2 ⟨hr, hne⟩)
  rw [sgF_at (rem_nodup hn x) (List.mem_map.2 ⟨v, hv, rfl⟩) hzr, sgF_at hn hv hr]
  show nxtR (turnD (filD v.2.1.2.2.2 x)) z = _
  have hnv := ring_nodup hn hv
  by_cases q : x ∈ v.2.1.2.2.2
  · rw [sgF_at hn hv q]
    exact (nxtR_fil hnv q).1 z hr hne
  · rw [filD_not q, nxtR_rot (rot_turn _) hnv hr, if_neg (fun e : nxtR v.2.1.2.2.2 z = x => q (e ▸ nxtR_mem hr))]
theorem alone_none {x : D} : ∀ {Vs : List VC}, (∀ v ∈ Vs, x ∉ v.2.1.2.2.2) → aloneN (Vs.map (remV x)) = aloneN Vs
  | [], _ => rfl
  | v :: r, h => by
    have ih := alone_none (x := x) (Vs := r) (fun u hu => h u (List.mem_cons_of_mem _ hu))
    have e : (remV x v).2.1.2.2.2 = [] ↔ v.2.1.2.2.2 = [] := by
      show turnD (filD v.2.1.2.2.2 x) = [] ↔ _
      rw [filD_not (h v (List.mem_cons_self ..)), ← List.length_eq_zero_iff, turnD_len, List.length_eq_zero_iff]
    unfold aloneN at ih ⊢
    rw [List.map_cons, List.filter_cons, List.filter_cons]
    by_cases q : v.2.1.2.2.2 = []
    · rw [if_pos (decide_eq_true (e.2 q)), if_pos (decide_eq_true q), List.length_cons, List.length_cons, ih]
    · rw [if_neg (by simpa using fun q2 => q (e.1 q2)), if_neg (by simpa using q), ih]
theorem alone_rem {x : D} : ∀ {Vs : List VC}, (ringsOf Vs).Nodup → ∀ {v : VC}, v ∈ Vs → x ∈ v.2.1.2.2.2 → aloneN (Vs.map (remV x)) = aloneN Vs + if filD v.2.1.2.2.2 x = [] then 1 else 0
  | [], _, v, hv, _ => by cases hv
  | u :: r, hn, v, hv, hx => by
    rw [ringsOf_cons, List.nodup_append] at hn
    have hlen : (remV x u).2.1.2.2.2 = [] ↔ filD u.2.1.2.2.2 x = [] := by
      show turnD (filD u.2.1.2.2.2 x) = [] ↔ _
      rw [← List.length_eq_zero_iff, turnD_len, List.length_eq_zero_iff]
    by_cases q : x ∈ u.2.1.2.2.2
    · have hno : ∀ y ∈ r, x ∉ y.2.1.2.2.2 := fun y hy hq => hn.2.2 x q x (ring_mem.2 ⟨y, hy, hq⟩) rfl
      obtain rfl : v = u := by
        rcases List.mem_cons.1 hv with e | e
        · exact e
        · exact absurd hx (hno v e)
      have ih := alone_none hno
      have hv0 : ¬ v.2.1.2.2.2 = [] := fun e => by rw [e] at q; cases q
      unfold aloneN at ih ⊢
      rw [List.map_cons, List.filter_cons, List.filter_cons, if_neg (c := (decide (v.2.1.2.2.2 = [])) = true) (by simpa using hv0)]
      by_cases w : filD v.2.1.2.2.2 x = []
      · rw [if_pos (decide_eq_true (hlen.2 w)), List.length_cons, ih, if_pos w]
      · rw [if_neg (by simpa using fun q2 => w (hlen.1 q2)), ih, if_neg w]
        rfl
    · have hvr : v ∈ r := by
        rcases List.mem_cons.1 hv with e | e
        · exact absurd (e ▸ hx) q
        · exact e
      have ih := alone_rem (x := x) hn.2.1 hvr hx
      have e : (remV x u).2.1.2.2.2 = [] ↔ u.2.1.2.2.2 = [] := by rw [hlen, filD_not q]
      unfold aloneN at ih ⊢
      rw [List.map_cons, List.filter_cons, List.filter_cons]
      by_cases w : u.2.1.2.2.2 = []
      · rw [if_pos (decide_eq_true (e.2 w)), if_pos (decide_eq_true w), List.length_cons, List.length_cons, ih]
        omega
      · rw [if_neg (by simpa using fun q2 => w (e.1 q2)), if_neg (by simpa using w), ih]
/-- A dart that no edge of those leads on from is taken out of its ring. -/
theorem rem_reps (hn : (ringsOf Vs).Nodup) {l : List I2} (hp : Pm (fkF Vs l) (ringsOf Vs)) (hc : ∀ z ∈ ringsOf Vs, alF l z ∈ ringsOf Vs) {x : D} (hx : x ∈ ringsOf Vs) (hxl : alF l x = x) {P : List D} (hP : Reps (fkF Vs l) (ringsOf Vs) P) :
    Pm (fkF (Vs.map (remV x)) l) (ringsOf (Vs.map (remV x))) ∧ (∀ z ∈ ringsOf (Vs.map (remV x)), alF l z ∈ ringsOf (Vs.map (remV x))) ∧ ∃ P', Reps (fkF (Vs.map (remV x)) l) (ringsOf (Vs.map (remV x))) P' ∧ P'.length + aloneN (Vs.map (remV x)) = P.length + aloneN Vs := by
  have hal : ∀ z, z ≠ x → alF l z ≠ x := fun z hz e => hz (by rw [← alF_alF l z, e, hxl])
  obtain ⟨h1, P', h2, h3⟩ := cut_orbs (f' := fkF (Vs.map (remV x)) l) hp hx (rem_nodup hn x) (fun y => rem_mem hn) (fun z hz => by
    obtain ⟨z1, z2⟩ := (rem_mem hn).1 hz
    show sgF (Vs.map (remV x)) (alF l z) = if sgF Vs (alF l z) = x then sgF Vs (alF l x) else sgF Vs (alF l z)
    rw [hxl]
    exact rem_sg hn hx (hc z z1) (hal z z2)) hP
  refine ⟨h1, fun z hz => ?_, P', h2, ?_⟩
  · obtain ⟨z1, z2⟩ := (rem_mem hn).1 hz
    exact (rem_mem hn).2 ⟨hc z z1, hal z z2⟩
  · obtain ⟨v, hv, hr⟩ := ring_mem.1 hx
    have e1 := alone_rem hn hv hr
    have e2 : fkF Vs l x = nxtR v.2.1.2.2.2 x := by
      show sgF Vs (alF l x) = _
      rw [hxl, sgF_at hn hv hr]
    have e3 := (nxtR_fil (ring_nodup hn hv) hr).2
    rw [e2] at h3
    by_cases q : filD v.2.1.2.2.2 x = []
    · rw [if_pos (e3.2 q)] at h3
      rw [if_pos q] at e1
      omega
    · rw [if_neg (fun w => q (e3.1 w))] at h3
      rw [if_neg q] at e1
      omega
end
end Go.Proofs.Ytahbfdhjgnlmdaa

/- An edge more, in numbers: parts, lone vertices, the genus. -/
namespace Go.Proofs.Ytahbfdhjgnlmdaa
open Go.RowKit
set_option linter.unusedSimpArgs false
set_option linter.unusedVariables false

theorem ats_vS {Us Ms : List VC} (h : Us.map vS = Ms.map vS) (i : Nat) (y : I2) : Ats Us i y → Ats Ms i y := by
  rintro ⟨u, hu, x, hx, e⟩
  have hi := congrArg (fun L : List ((Int × Int) × List D × ByteArray × Int) => L[i]?) h
  simp only [List.getElem?_map] at hi
  rw [hu] at hi
  cases hv : Ms[i]? with
  | none => rw [hv] at hi; cases hi
  | some v =>
    rw [hv] at hi
    have e1 : vS u = vS v := Option.some.inj hi
    have e2 : u.2.1.2.2.2 = v.2.1.2.2.2 := congrArg (fun s : (Int × Int) × List D × ByteArray × Int => s.2.1) e1
    exact ⟨v, hv, x, e2 ▸ hx, e⟩
section
variable {Vs Us : List VC} {Es : List EC}
end
end Go.Proofs.Ytahbfdhjgnlmdaa

/- An edge taken out: the rest is formed; its genus is no greater, and at most one less. -/
namespace Go.Proofs.Ytahbfdhjgnlmdaa
open Go.RowKit
set_option linter.unusedSimpArgs false
set_option linter.unusedVariables false

def lessV (e : EC) (Vs : List VC) : List VC := (Vs.map (remV (e.1.1, e.1.2, 0))).map (remV (e.1.1, e.1.2, 1))
def lessE (k : Nat) (Es : List EC) : List EC := Es.take k ++ Es.drop (k + 1)
section
variable {Vs Us : List VC} {Es : List EC}
theorem lessE_perm {k : Nat} {e : EC} (he : Es[k]? = some e) : (lessE k Es ++ [e]).Perm Es := by
  obtain ⟨hk, q⟩ := List.getElem?_eq_some_iff.1 he
  have e1 : Es = Es.take k ++ e :: Es.drop (k + 1) := by
    rw [← q, ← List.drop_eq_getElem_cons hk, List.take_append_drop]
  conv => rhs; rw [e1]
  unfold lessE
  rw [List.append_assoc]
  exact List.Perm.append_left _ List.perm_append_comm
theorem lessE_sub (k : Nat) : (lessE k Es).Sublist Es := by
  unfold lessE
  rw [← List.eraseIdx_eq_take_drop_succ]
  exact List.eraseIdx_sublist ..
theorem less_mem (h : Formed Vs Es) {e : EC} {d : D} : d ∈ ringsOf (lessV e Vs) ↔ d ∈ ringsOf Vs ∧ d ≠ (e.1.1, e.1.2, 0) ∧ d ≠ (e.1.1, e.1.2, 1) := by
  unfold lessV
  rw [rem_mem (rem_nodup h.once _), rem_mem h.once, and_assoc]
theorem lessE_mem (h : Formed Vs Es) {k : Nat} {e : EC} (he : Es[k]? = some e) (x : EC) : x ∈ lessE k Es ↔ x ∈ Es ∧ x.1 ≠ e.1 := by
  have hp := lessE_perm he
  have hnd : ((lessE k Es ++ [e]).map (·.1)).Nodup := (hp.map _).nodup_iff.2 (rise_nodup h.re)
  rw [List.map_append, List.nodup_append] at hnd
  constructor
  · intro hx
    exact ⟨(lessE_sub k).subset hx, fun q => hnd.2.2 x.1 (List.mem_map.2 ⟨x, hx, rfl⟩) e.1 (List.mem_singleton.2 rfl) q⟩
  · rintro ⟨hx, hne⟩
    rcases List.mem_append.1 (hp.mem_iff.2 hx) with q | q
    · exact q
    · rw [List.mem_singleton.1 q] at hne
      exact absurd rfl hne
theorem less_formed (h : Formed Vs Es) {k : Nat} {e : EC} (he : Es[k]? = some e) : Formed (lessV e Vs) (lessE k Es) := by
  have hsub := lessE_sub (Es := Es) k
  have hn1 := rem_nodup h.once (e.1.1, e.1.2, 0)
  have hn2 : (ringsOf (lessV e Vs)).Nodup := rem_nodup hn1 _
  refine ⟨by simpa [lessV] using h.v24, Nat.le_trans hsub.length_le h.e40, ?_, ?_, ?_, ?_, ?_, ?_, ?_, ?_⟩
  · rw [lessV, List.map_map, List.map_map]
    exact h.rv
  · have h1 := (riseF_iff _ _).1 h.re
    have hs := hsub.map (·.1)
    exact (riseF_iff _ _).2 ⟨fun x hx => h1.1 x (hs.subset hx), fun y hy => (by cases hy), h1.2.2.sublist hs⟩
  · rw [List.all_eq_true]
    intro v hv
    obtain ⟨u, hu, rfl⟩ := List.mem_map.1 hv
    exact decide_eq_true (turn_ok ((ring_nodup hn1 hu).filter _))
  · refine (List.perm_ext_iff_of_nodup hn2 (edS_nodup _ [] List.nodup_nil)).2 fun d => ?_
    rw [less_mem h, edS_mem, h.mem]
    obtain ⟨a, b, c⟩ := d
    constructor
    · rintro ⟨⟨e', he', e1, hs⟩, q0, q1⟩
      simp only at e1 hs
      refine .inr ⟨e', (lessE_mem h he e').2 ⟨he', fun q => ?_⟩, ?_⟩
      · rw [e1] at q
        rcases hs with rfl | rfl
        · exact q0 (by rw [← q])
        · exact q1 (by rw [← q])
      · rw [e1]
        rcases hs with rfl | rfl
        · exact .inl rfl
        · exact .inr rfl
    · rintro (q | ⟨e', he', hs⟩)
      · cases q
      · obtain ⟨h1, h2⟩ := (lessE_mem h he e').1 he'
        have e1 : e'.1 = (a, b) := by
          rcases hs with q | q <;> (injection q with q1 q2; injection q2 with q2 q3; rw [q1, q2])
        have e2 : c = 0 ∨ c = 1 := by
          rcases hs with q | q <;> (injection q with q1 q2; injection q2 with q2 q3)
          · exact .inl q3
          · exact .inr q3
        refine ⟨⟨e', h1, e1, e2⟩, fun q => ?_, fun q => ?_⟩ <;> (injection q with q1 q2; injection q2 with q2 q3; exact h2 (by rw [e1, q1, q2]))
  · rw [List.all_eq_true]
    intro v hv
    obtain ⟨u, hu, rfl⟩ := List.mem_map.1 hv
    obtain ⟨y, hy, rfl⟩ := List.mem_map.1 hu
    exact List.all_eq_true.1 h.lv y hy
  · rw [List.all_eq_true]
    exact fun x hx => List.all_eq_true.1 h.le x (hsub.subset hx)
  · rw [List.all_eq_true]
    intro v hv
    obtain ⟨u, hu, rfl⟩ := List.mem_map.1 hv
    obtain ⟨y, hy, rfl⟩ := List.mem_map.1 hu
    exact List.all_eq_true.1 h.av y hy
  · rw [List.all_eq_true]
    exact fun x hx => List.all_eq_true.1 h.ae x (hsub.subset hx)
theorem less_pl (h : Formed Vs Es) {e : EC} {d : D} (hd : d ∈ ringsOf (lessV e Vs)) : plD (lessV e Vs) d = plD Vs d := by
  obtain ⟨v, hv, hr⟩ := plD_at hd
  unfold lessV at hv
  rw [List.getElem?_map, List.getElem?_map] at hv
  cases hu : Vs[plD (lessV e Vs) d]? with
  | none => rw [lessV] at hu; rw [hu] at hv; cases hv
  | some u =>
    have hu2 := hu
    rw [lessV] at hu2
    rw [hu2] at hv
    obtain rfl := Option.some.inj hv
    have h1 := (filD_mem.1 ((turn_perm _).mem_iff.1 hr)).1
    have h2 := (filD_mem.1 ((turn_perm _).mem_iff.1 h1)).1
    exact (plD_eq h.once hu h2).symm
theorem less_genus (h : Formed Vs Es) {k : Nat} {e : EC} (he : Es[k]? = some e) : genF Vs Es = genF (lessV e Vs) (lessE k Es) ∨ genF Vs Es = genF (lessV e Vs) (lessE k Es) + 1 := by
  have hp := lessE_perm he
  have hF := less_formed h he
  have hem := List.mem_of_getElem? he
  obtain ⟨P, t, hP, hE, hg⟩ := euler_but h (fun x => hp.mem_iff) ((hp.map _).nodup_iff.2 (rise_nodup h.re))
  have hno : (e.1.1, e.1.2) ∉ (lessE k Es).map (·.1) := fun q => by
    obtain ⟨x, hx, q2⟩ := List.mem_map.1 q
    exact ((lessE_mem h he x).1 hx).2 q2
  have hal : ∀ s, alF ((lessE k Es).map (·.1)) (e.1.1, e.1.2, s) = (e.1.1, e.1.2, s) := fun s => if_neg hno
  obtain ⟨m0, m1⟩ := h.ends hem
  obtain ⟨p1, c1, P1, hP1, e1⟩ := rem_reps h.once (fk_pm h _) (fun z hz => alF_mem h _ hz) m0 (hal 0) hP
  obtain ⟨p2, c2, P2, hP2, e2⟩ := rem_reps (rem_nodup h.once _) p1 c1 ((rem_mem h.once).2 ⟨m1, fun q => by simp at q⟩) (hal 1) hP1
  have h3 : Reps (phF (lessV e Vs)) (ringsOf (lessV e Vs)) P2 := hP2.congr p2 (fun x hx => fk_all hF hx)
  obtain ⟨P0, hP0, ef⟩ := facN_reps hF
  have hl := hP0.len hF.phi h3
  have hlab : lbG Vs (lessE k Es) = labF (lessV e Vs) := by
    rw [← lbK_all hF, lbK, List.take_length, lbG]
    have q1 : (lessV e Vs).length = Vs.length := by simp [lessV]
    rw [q1]
    congr 1
    refine List.map_congr_left fun x hx => ?_
    obtain ⟨n0, n1⟩ := hF.ends hx
    rw [peF, peF, less_pl h n0, less_pl h n1]
  rw [hlab] at hE
  have hvl : (lessV e Vs).length = Vs.length := by simp [lessV]
  have hal2 : aloneN (lessV e Vs) = aloneN ((Vs.map (remV (e.1.1, e.1.2, 0))).map (remV (e.1.1, e.1.2, 1))) := rfl
  have hg2 := gen_num hF (t := t) (by rw [hvl, ef, hl, hal2]; omega)
  rw [hg2]
  exact hg
theorem gen_same (h : Us.map vS = Vs.map vS) : genF Us Es = genF Vs Es := by
  have hl : Us.length = Vs.length := by simpa using congrArg List.length h
  have h1 : facN Us Es = facN Vs Es := by unfold facN; rw [phF_same h]
  have h2 : aloneN Us = aloneN Vs := by rw [alone_vS, h, ← alone_vS]
  have h3 : labF Us = labF Vs := labF_same hl (fun i y => ⟨ats_vS h i y, ats_vS h.symm i y⟩)
  unfold genF
  rw [h1, h2, h3, hl]
end
end Go.Proofs.Ytahbfdhjgnlmdaa

/- The document's Turn and Remove: what they tell is a row of one's own. -/
namespace Go.Proofs.Ytahbfdhjgnlmdaa
open Go.RowKit
set_option linter.unusedSimpArgs false
set_option linter.unusedVariables false

def GivesO (w : World) (L : List D) (e : Ending) (w' : World) : Prop :=
  ∃ A c, e = .returned (.slice A L.length c) ∧ w'.ownsRow w.heap.size 35 3 (.slice A L.length c) L.length (dartsV L) ∧ Below w.heap.size w w'

set_option maxRecDepth 100000 in
set_option maxHeartbeats 1000000 in
theorem rfturno_any (A : Option Addr) (n c : Nat) (L : List D) (w : World) (h : RdS w w.heap.size 3 A n c (dartsV L)) (hn : n ≤ 1000000) :
    Calls Try.prog 36 #[.slice A n c] w (GivesO w (turnD L)) := by
  obtain ⟨i0, hi, hz0, hz1, hz2⟩ := info_parts info_dart
  have HR := Lib.hid h
  have hl := h.dlen
  subst hl
  clear h
  go_enter Try.func36, Try.ntmps36
  go_wp2
  go_loopw [3, 4] (fun lv i wr => ∃ k : Nat, k ≤ L.length ∧ i = .int .i64 k ∧ lv = .int .i64 (leastI L k : Int) ∧ Below w.heap.size w wr) (fun _ i _ => L.length - (intOf i).toNat)
  case atStart => exact ⟨0, Nat.zero_le _, rfl, rfl, Below.refl _ _⟩
  case round =>
    obtain ⟨k2, hk2, rfl, rfl, hbw⟩ := hrel
    have HBw := Lib.hid hbw
    by_cases hlt2 : k2 < L.length
    · obtain ⟨b, off, rfl, hb, hc⟩ := (HR.out.up hbw hbw.size).darts (by omega)
      obtain ⟨d1, d2, d3⟩ := hc k2 hlt2
      have hlm := leastI_le L k2
      have hlm2 : leastI L k2 < L.length := by omega
      obtain ⟨e1, e2, e3⟩ := hc (leastI L k2) hlm2
      have hs : leastI L (k2 + 1) = if ordT (L.getD k2 (0, 0, 0)) (L.getD (leastI L k2) (0, 0, 0)) < 0 then k2 else leastI L k2 := rfl
      obtain ⟨m, gm⟩ : ∃ v, leastI L k2 = v := ⟨_, rfl⟩
      rw [gm] at e1 e2 e3 hlm hlm2 hs ⊢
      obtain ⟨x, gx⟩ : ∃ v, L.getD k2 (0, 0, 0) = v := ⟨_, rfl⟩
      obtain ⟨y, gy⟩ : ∃ v, L.getD m (0, 0, 0) = v := ⟨_, rfl⟩
      rw [gx] at d1 d2 d3 hs
      rw [gy] at e1 e2 e3 hs
      have HOr := rorderdart_any x.1 x.2.1 x.2.2 y.1 y.2.1 y.2.2
      have ho : ordD x.1 x.2.1 x.2.2 y.1 y.2.1 y.2.2 = ordT x y := rfl
      obtain ⟨ov, gov⟩ : ∃ v, ordT x y = v := ⟨_, rfl⟩
      rw [ho, gov] at HOr
      rw [gov] at hs
      have HOr' := Lib.hid HOr
      have HS := Lib.hid hs
      clear hc gm gx gy ho gov HOr hs
      go_upto_region 5 with fail
      have g0 : ∀ w', Kept Nil_ wr.drew w' → w'.cell? ⟨b, off + k2 * 3, none⟩ = some (.int .i64 x.1) := fun w' h => h.nil_cell d1
      have g1 : ∀ w', Kept Nil_ wr.drew w' → w'.cell? ⟨b, off + k2 * 3 + 1, none⟩ = some (.int .i64 x.2.1) := fun w' h => h.nil_cell d2
      have g2 : ∀ w', Kept Nil_ wr.drew w' → w'.cell? ⟨b, off + k2 * 3 + 2, none⟩ = some (.int .i64 x.2.2) := fun w' h => h.nil_cell d3
      have g3 : ∀ w', Kept Nil_ wr.drew w' → w'.cell? ⟨b, off + m * 3, none⟩ = some (.int .i64 y.1) := fun w' h => h.nil_cell e1
      have g4 : ∀ w', Kept Nil_ wr.drew w' → w'.cell? ⟨b, off + m * 3 + 1, none⟩ = some (.int .i64 y.2.1) := fun w' h => h.nil_cell e2
      have g5 : ∀ w', Kept Nil_ wr.drew w' → w'.cell? ⟨b, off + m * 3 + 2, none⟩ = some (.int .i64 y.2.2) := fun w' h => h.nil_cell e3
      have hE : RowKit.Hid (Below w.heap.size w wr.drew) := HBw.out.drew
      clear hbw
      by_cases ho : ov < 0
      · rw [if_pos ho] at HS
        refine wp_region_reg (Nil_) (by kernel_rfl) ?_
        apply wpR_next 0 (some 13)
        · simp only [List.getElem?_toArray, List.getElem?_cons_succ, List.getElem?_cons_zero]; exact rfl
        · rfl
        · kernel_rfl
        · kernel_rfl
        · kernel_rfl
        · exact fun _ _ _ _ h => h
        apply Exists.intro
        apply And.intro
        · apply yr_run; rfl; intro w' hw'; go_simp; (try with_reducible rfl)
        simp only [Act.put, List.setIfInBounds_toArray, List.set_cons_zero, List.set_cons_succ]
        apply wpR_next 1 (some 14)
        · simp only [List.getElem?_toArray, List.getElem?_cons_succ, List.getElem?_cons_zero]; exact rfl
        · rfl
        · kernel_rfl
        · kernel_rfl
        · kernel_rfl
        · exact fun _ _ _ _ h => h
        apply Exists.intro
        apply And.intro
        · apply yr_run; rfl; intro w' hw'; go_simp; (try with_reducible rfl)
        simp only [Act.put, List.setIfInBounds_toArray, List.set_cons_zero, List.set_cons_succ]
        apply wpR_next 2 (some 15)
        · simp only [List.getElem?_toArray, List.getElem?_cons_succ, List.getElem?_cons_zero]; exact rfl
        · rfl
        · kernel_rfl
        · kernel_rfl
        · kernel_rfl
        · exact fun _ _ _ _ h => h
        apply Exists.intro
        apply And.intro
        · apply yr_run; rfl; intro w' hw'; go_simp; (try with_reducible rfl)
        simp only [Act.put, List.setIfInBounds_toArray, List.set_cons_zero, List.set_cons_succ]
        apply wpR_next 3 (some 16)
        · simp only [List.getElem?_toArray, List.getElem?_cons_succ, List.getElem?_cons_zero]; exact rfl
        · rfl
        · kernel_rfl
        · kernel_rfl
        · kernel_rfl
        · exact fun _ _ _ _ h => h
        apply Exists.intro
        apply And.intro
        · apply yr_run; rfl; intro w' hw'; go_simp; (try with_reducible rfl)
        simp only [Act.put, List.setIfInBounds_toArray, List.set_cons_zero, List.set_cons_succ]
        apply wpR_next 4 (some 17)
        · simp only [List.getElem?_toArray, List.getElem?_cons_succ, List.getElem?_cons_zero]; exact rfl
        · rfl
        · kernel_rfl
        · kernel_rfl
        · kernel_rfl
        · exact fun _ _ _ _ h => h
        apply Exists.intro
        apply And.intro
        · apply yr_run; rfl; intro w' hw'; go_simp; (try with_reducible rfl)
        simp only [Act.put, List.setIfInBounds_toArray, List.set_cons_zero, List.set_cons_succ]
        apply wpR_next 5 (some 18)
        · simp only [List.getElem?_toArray, List.getElem?_cons_succ, List.getElem?_cons_zero]; exact rfl
        · rfl
        · kernel_rfl
        · kernel_rfl
        · kernel_rfl
        · exact fun _ _ _ _ h => h
        apply Exists.intro
        apply And.intro
        · apply yr_run; rfl; intro w' hw'; go_simp; (try with_reducible rfl)
        simp only [Act.put, List.setIfInBounds_toArray, List.set_cons_zero, List.set_cons_succ]
        apply wpR_next 6 (some 19)
        · simp only [List.getElem?_toArray, List.getElem?_cons_succ, List.getElem?_cons_zero]; exact rfl
        · rfl
        · kernel_rfl
        · kernel_rfl
        · kernel_rfl
        · exact fun _ _ _ _ h => h
        apply Exists.intro
        apply And.intro
        · apply yr_run; rfl; intro w' hw'; go_simp; (try with_reducible rfl)
        simp only [Act.put, List.setIfInBounds_toArray, List.set_cons_zero, List.set_cons_succ]
        apply wpR_next 7 (some 20)
        · simp only [List.getElem?_toArray, List.getElem?_cons_succ, List.getElem?_cons_zero]; exact rfl
        · rfl
        · kernel_rfl
        · kernel_rfl
        · kernel_rfl
        · exact fun _ _ _ _ h => h
        apply Exists.intro
        apply And.intro
        · apply yr_run; rfl; intro w' hw'; go_simp; (try with_reducible rfl)
        simp only [Act.put, List.setIfInBounds_toArray, List.set_cons_zero, List.set_cons_succ]
        apply wpR_next 8 (some 21)
        · simp only [List.getElem?_toArray, List.getElem?_cons_succ, List.getElem?_cons_zero]; exact rfl
        · rfl
        · kernel_rfl
        · kernel_rfl
        · kernel_rfl
        · exact fun _ _ _ _ h => h
        apply Exists.intro
        apply And.intro
        · apply yr_call; rfl; rotate_left; intro w' hw'; exact HOr'.out w'; intro w'; go_simp
        simp only [Act.put, List.setIfInBounds_toArray, List.set_cons_zero, List.set_cons_succ]
        apply wpR_next 9 (some 22)
        · simp only [List.getElem?_toArray, List.getElem?_cons_succ, List.getElem?_cons_zero]; exact rfl
        · rfl
        · kernel_rfl
        · kernel_rfl
        · kernel_rfl
        · exact fun _ _ _ _ h => h
        apply Exists.intro
        apply And.intro
        · apply yr_run; rfl; intro w' hw'; go_simp; (try with_reducible rfl)
        simp only [Act.put, List.setIfInBounds_toArray, List.set_cons_zero, List.set_cons_succ]
        refine wpR_done (by kernel_rfl) ?_ _
        intro w' hw'
        have hE2 : RowKit.Hid (Below w.heap.size w w') := hE.out.trans (hw'.mono hE.out.size)
        clear g0 g1 g2 g3 g4 g5 hw' d1 d2 d3 e1 e2 e3
        go_wp2
        go_roundw
        case rel => exact ⟨k2 + 1, by omega, by go_num, by rw [HS.out], hE2.out⟩
        case measure => simp [intOf]; omega
      · rw [if_neg ho] at HS
        refine wp_region_reg (Nil_) (by kernel_rfl) ?_
        apply wpR_next 0 (some 13)
        · simp only [List.getElem?_toArray, List.getElem?_cons_succ, List.getElem?_cons_zero]; exact rfl
        · rfl
        · kernel_rfl
        · kernel_rfl
        · kernel_rfl
        · exact fun _ _ _ _ h => h
        apply Exists.intro
        apply And.intro
        · apply yr_run; rfl; intro w' hw'; go_simp; (try with_reducible rfl)
        simp only [Act.put, List.setIfInBounds_toArray, List.set_cons_zero, List.set_cons_succ]
        apply wpR_next 1 (some 14)
        · simp only [List.getElem?_toArray, List.getElem?_cons_succ, List.getElem?_cons_zero]; exact rfl
        · rfl
        · kernel_rfl
        · kernel_rfl
        · kernel_rfl
        · exact fun _ _ _ _ h => h
        apply Exists.intro
        apply And.intro
        · apply yr_run; rfl; intro w' hw'; go_simp; (try with_reducible rfl)
        simp only [Act.put, List.setIfInBounds_toArray, List.set_cons_zero, List.set_cons_succ]
        apply wpR_next 2 (some 15)
        · simp only [List.getElem?_toArray, List.getElem?_cons_succ, List.getElem?_cons_zero]; exact rfl
        · rfl
        · kernel_rfl
        · kernel_rfl
        · kernel_rfl
        · exact fun _ _ _ _ h => h
        apply Exists.intro
        apply And.intro
        · apply yr_run; rfl; intro w' hw'; go_simp; (try with_reducible rfl)
        simp only [Act.put, List.setIfInBounds_toArray, List.set_cons_zero, List.set_cons_succ]
        apply wpR_next 3 (some 16)
        · simp only [List.getElem?_toArray, List.getElem?_cons_succ, List.getElem?_cons_zero]; exact rfl
        · rfl
        · kernel_rfl
        · kernel_rfl
        · kernel_rfl
        · exact fun _ _ _ _ h => h
        apply Exists.intro
        apply And.intro
        · apply yr_run; rfl; intro w' hw'; go_simp; (try with_reducible rfl)
        simp only [Act.put, List.setIfInBounds_toArray, List.set_cons_zero, List.set_cons_succ]
        apply wpR_next 4 (some 17)
        · simp only [List.getElem?_toArray, List.getElem?_cons_succ, List.getElem?_cons_zero]; exact rfl
        · rfl
        · kernel_rfl
        · kernel_rfl
        · kernel_rfl
        · exact fun _ _ _ _ h => h
        apply Exists.intro
        apply And.intro
        · apply yr_run; rfl; intro w' hw'; go_simp; (try with_reducible rfl)
        simp only [Act.put, List.setIfInBounds_toArray, List.set_cons_zero, List.set_cons_succ]
        apply wpR_next 5 (some 18)
        · simp only [List.getElem?_toArray, List.getElem?_cons_succ, List.getElem?_cons_zero]; exact rfl
        · rfl
        · kernel_rfl
        · kernel_rfl
        · kernel_rfl
        · exact fun _ _ _ _ h => h
        apply Exists.intro
        apply And.intro
        · apply yr_run; rfl; intro w' hw'; go_simp; (try with_reducible rfl)
        simp only [Act.put, List.setIfInBounds_toArray, List.set_cons_zero, List.set_cons_succ]
        apply wpR_next 6 (some 19)
        · simp only [List.getElem?_toArray, List.getElem?_cons_succ, List.getElem?_cons_zero]; exact rfl
        · rfl
        · kernel_rfl
        · kernel_rfl
        · kernel_rfl
        · exact fun _ _ _ _ h => h
        apply Exists.intro
        apply And.intro
        · apply yr_run; rfl; intro w' hw'; go_simp; (try with_reducible rfl)
        simp only [Act.put, List.setIfInBounds_toArray, List.set_cons_zero, List.set_cons_succ]
        apply wpR_next 7 (some 20)
        · simp only [List.getElem?_toArray, List.getElem?_cons_succ, List.getElem?_cons_zero]; exact rfl
        · rfl
        · kernel_rfl
        · kernel_rfl
        · kernel_rfl
        · exact fun _ _ _ _ h => h
        apply Exists.intro
        apply And.intro
        · apply yr_run; rfl; intro w' hw'; go_simp; (try with_reducible rfl)
        simp only [Act.put, List.setIfInBounds_toArray, List.set_cons_zero, List.set_cons_succ]
        apply wpR_next 8 (some 21)
        · simp only [List.getElem?_toArray, List.getElem?_cons_succ, List.getElem?_cons_zero]; exact rfl
        · rfl
        · kernel_rfl
        · kernel_rfl
        · kernel_rfl
        · exact fun _ _ _ _ h => h
        apply Exists.intro
        apply And.intro
        · apply yr_call; rfl; rotate_left; intro w' hw'; exact HOr'.out w'; intro w'; go_simp
        simp only [Act.put, List.setIfInBounds_toArray, List.set_cons_zero, List.set_cons_succ]
        apply wpR_next 9 (some 22)
        · simp only [List.getElem?_toArray, List.getElem?_cons_succ, List.getElem?_cons_zero]; exact rfl
        · rfl
        · kernel_rfl
        · kernel_rfl
        · kernel_rfl
        · exact fun _ _ _ _ h => h
        apply Exists.intro
        apply And.intro
        · apply yr_run; rfl; intro w' hw'; go_simp; (try with_reducible rfl)
        simp only [Act.put, List.setIfInBounds_toArray, List.set_cons_zero, List.set_cons_succ]
        refine wpR_done (by kernel_rfl) ?_ _
        intro w' hw'
        have hE2 : RowKit.Hid (Below w.heap.size w w') := hE.out.trans (hw'.mono hE.out.size)
        clear g0 g1 g2 g3 g4 g5 hw' d1 d2 d3 e1 e2 e3
        go_wp2
        go_roundw
        case rel => exact ⟨k2 + 1, by omega, by go_num, by rw [HS.out], hE2.out⟩
        case measure => simp [intOf]; omega
    · have hkl : k2 = L.length := by omega
      subst hkl
      have hlm := leastI_le L L.length
      have ht := turnD_get L
      have hlen := turnD_length L
      obtain ⟨R, gR⟩ : ∃ v, turnD L = v := ⟨_, rfl⟩
      obtain ⟨m, gm⟩ : ∃ v, leastI L L.length = v := ⟨_, rfl⟩
      rw [gm, gR] at ht
      rw [gR] at hlen
      rw [gm] at hlm ⊢
      have GR := Lib.hid gR
      have HT := Lib.hid ht
      have HLen := Lib.hid hlen
      clear ht gm gR hlen
      obtain ⟨W1, rfl⟩ : ∃ x : World, x = wr := ⟨_, rfl⟩
      have HO : RowKit.Hid (Ow w w.heap.size 35 3 (.slice (some ⟨W1.heap.size, 0, none⟩) 0 0) 0 [] (W1.alloc (.cells #[] 35))) := Ow.new_ (cs := #[]) HBw.out (Nat.le_refl _) HBw.out.size (Nat.zero_le _) rfl
      clear hbw
      go_wp2
      go_loopw [5, 6] (fun v i wr => ∃ k : Nat, k ≤ L.length ∧ i = .int .i64 k ∧ Ow w w.heap.size 35 3 v (R.take k).length (dartsV (R.take k)) wr) (fun _ i _ => L.length - (intOf i).toNat)
      case atStart => exact ⟨0, Nat.zero_le _, rfl, HO.out⟩
      case round =>
        clear HO
        obtain ⟨k, hk, rfl, how⟩ := hrel
        have HO := Lib.hid how
        by_cases hlt : k < L.length
        · obtain ⟨b, off, rfl, hb, hc⟩ := (HR.out.up how.below how.below.size).darts (by omega)
          have hj : (m + k) % L.length < L.length := Nat.mod_lt _ (by omega)
          have hmod : ((m : Int) + (k : Int)) % (L.length : Int) = (((m + k) % L.length : Nat) : Int) := by rw [Int.natCast_emod, Int.natCast_add]
          have hx := HT.out k hlt
          obtain ⟨j, gj⟩ : ∃ v, (m + k) % L.length = v := ⟨_, rfl⟩
          rw [gj] at hj hmod hx
          obtain ⟨c1, c2, c3⟩ := hc j hj
          obtain ⟨x, gx⟩ : ∃ v, L.getD j (0, 0, 0) = v := ⟨_, rfl⟩
          rw [gx] at c1 c2 c3 hx
          have HX := Lib.hid hx
          have HTk := Lib.hid (take_snocD R k (by rw [HLen.out]; exact hlt))
          have hlk : (R.take k).length ≤ 1000000 := by
            have := List.length_take_le k R
            omega
          clear hc how gj gx hx
          go_wp2_with (first
            | (at_builtin
               refine wpList_push rfl (.tmp 31) (.tmp 41) _ rfl _ 35 i0 _ 3 24 Try.underlying36 hi hz0 hz1 hz2 rfl (by decide) _ _ _ rfl (by exact HO.out.up (below1 _ _)) _ (some ⟨wr.heap.size, 0, none⟩) 1 1 (dartsV [x]) rfl (by exact RdS.whole3 (L := [x]) (Whole.new_ _ _ _)) (dartsV_one [x]) (by unfold maxLen; omega) (by omega) ?_
               intro v1 w1 how1 hb1
               have HO1 := Lib.hid how1
               clear how1 hb1))
          go_roundw
          case rel =>
            refine ⟨k + 1, by omega, by go_num, ?_⟩
            rw [HTk.out, HX.out, List.length_append, dartsV_app]
            exact HO1.out
          case measure => simp [intOf]; omega
        · have htk : R.take k = R := List.take_of_length_le (by rw [HLen.out]; omega)
          rw [htk] at HO
          clear how htk
          obtain ⟨A1, c1, hv, hr1⟩ := HO.out.rds
          subst hv
          have HR1 := Lib.hid hr1
          clear hr1
          go_wp2
          go_ret
          rw [GR.out]
          exact ⟨A1, c1, rfl, own_lo0 HO.out.own (by omega), HO.out.below⟩

set_option maxRecDepth 100000 in
set_option maxHeartbeats 1000000 in
theorem rfremoveo_any (A : Option Addr) (n c : Nat) (L : List D) (d : D) (w : World) (h : RdS w w.heap.size 3 A n c (dartsV L)) (hn : n ≤ 999000) :
    Calls Try.prog 12 #[.slice A n c, .agg #[.int .i64 d.1, .int .i64 d.2.1, .int .i64 d.2.2]] w (GivesO w (turnD (filD L d))) := by
  obtain ⟨i0, hi, hz0, hz1, hz2⟩ := info_parts info_dart
  have HT := Lib.hid (fun A n c L W h hn => rfturno_any A n c L W h hn)
  have HR := Lib.hid h
  have hl := h.dlen
  subst hl
  have h00 : (Ow w (w.heap.size + 1) 35 3 (.slice (some ⟨w.heap.size + 1, 0, none⟩) 0 0) 0 [] ((w.alloc (.cells #[.int .i64 d.1, .int .i64 d.2.1, .int .i64 d.2.2] 35)).alloc (.cells #[] 35))) := by
    have := Ow.new_ (e := 35) (size := 3) (cs := #[]) (below1 w (.cells #[.int .i64 d.1, .int .i64 d.2.1, .int .i64 d.2.2] 35)) (B := w.heap.size + 1) (by omega) (by simp) (n := 0) (Nat.zero_le _) rfl
    simpa using this
  have hO0 := Lib.hid h00
  have hD0 : RowKit.Hid (Whole ((w.alloc (.cells #[.int .i64 d.1, .int .i64 d.2.1, .int .i64 d.2.2] 35)).alloc (.cells #[] 35)) w.heap.size 35 (dartsV [d])) := (Whole.new_ w _ (dartsV [d])).alloc _
  clear h h00
  go_enter Try.func12, Try.ntmps12
  go_wp2
  go_loopw [5, 6] (fun v i wr => ∃ k : Nat, k ≤ L.length ∧ i = .int .i64 k ∧ Ow w (w.heap.size + 1) 35 3 v ((L.take k).filter (fun x => decide (x ≠ d))).length (dartsV ((L.take k).filter (fun x => decide (x ≠ d)))) wr ∧ Whole wr w.heap.size 35 (dartsV [d])) (fun _ i _ => L.length - (intOf i).toNat)
  case atStart => exact ⟨0, Nat.zero_le _, rfl, hO0.out, hD0.out⟩
  case round =>
    clear hO0 hD0
    obtain ⟨k, hk, rfl, how, hd⟩ := hrel
    have HO := Lib.hid how
    have HD := Lib.hid hd
    by_cases hlt : k < L.length
    · obtain ⟨b, off, rfl, hb, hc⟩ := (HR.out.up how.below how.below.size).darts (by omega)
      obtain ⟨c1, c2, c3⟩ := hc k hlt
      have hfl : ((L.take k).filter (fun x => decide (x ≠ d))).length ≤ 1000000 := by
        have := List.length_filter_le (fun x => decide (x ≠ d)) (L.take k)
        have := List.length_take_le k L
        omega
      have hf := filter_snoc L d k hlt
      obtain ⟨x, gx⟩ : ∃ v, L.getD k (0, 0, 0) = v := ⟨_, rfl⟩
      rw [gx] at c1 c2 c3 hf
      have d0 := hd.cell (i := 0) rfl
      have d1 := hd.cell (i := 1) rfl
      have d2 := hd.cell (i := 2) rfl
      have hq := neq_dart_run x d
      obtain ⟨F, gF⟩ : ∃ v, (L.take k).filter (fun x => decide (x ≠ d)) = v := ⟨_, rfl⟩
      rw [gF] at HO hf hfl
      have HF := Lib.hid hf
      clear hc how gx gF hf hd
      by_cases he : x = d
      · have he' : (!decide (x = d)) = false := by simpa using he
        rw [he'] at hq
        rw [if_pos he, List.append_nil] at HF
        clear he he'
        go_wp2
        go_quiet (fail)
        go_wp2
        go_roundw
        case rel =>
          refine ⟨k + 1, by omega, by go_num, ?_, HD.out.at_ rfl⟩
          rw [HF.out]
          exact HO.out.up (below_drewN _ _ _)
        case measure => simp [intOf]; omega
      · have he' : (!decide (x = d)) = true := by simpa using he
        rw [he'] at hq
        rw [if_neg he] at HF
        clear he he'
        go_wp2
        go_quiet (fail)
        go_wp2_with (first
          | (at_builtin
             refine wpList_push rfl (.tmp 20) (.tmp 25) _ rfl _ 35 i0 _ 3 24 Try.underlying36 hi hz0 hz1 hz2 rfl (by decide) _ _ _ rfl (by exact (HO.out.up (below_drewN _ _ _)).up (below1 _ _)) _ (some ⟨wr.heap.size, 0, none⟩) 1 1 (dartsV [x]) rfl (by exact RdS.whole3 (L := [x]) (Whole.new2 (by simp))) (dartsV_one [x]) (by unfold maxLen; omega) (by omega) ?_
             intro v1 w1 how1 hb1
             have HO1 := Lib.hid how1
             have HD1 : RowKit.Hid (Whole w1 w.heap.size 35 (dartsV [d])) := (Whole.at_ (Whole.alloc (HD.out.at_ rfl) _) (hb1.block _ (by omega)))
             clear how1 hb1))
        go_roundw
        case rel =>
          refine ⟨k + 1, by omega, by go_num, ?_, HD1.out⟩
          rw [HF.out, List.length_append, dartsV_app]
          exact HO1.out
        case measure => simp [intOf]; omega
    · have htk : (L.take k).filter (fun x => decide (x ≠ d)) = filD L d := by rw [List.take_of_length_le (by omega)]; rfl
      rw [htk] at HO
      have hfl : (filD L d).length ≤ 1000000 := by
        have := List.length_filter_le (fun x => decide (x ≠ d)) L
        unfold filD
        omega
      clear how htk hd
      obtain ⟨A1, c1, hv, hr1⟩ := HO.out.rds
      subst hv
      have HR1 := Lib.hid hr1
      clear hr1
      go_wp2_with (first
        | (go_at_call 36; refine (HT.out _ _ _ _ _ (by exact HR1.out) hfl).mono ?_; rintro e w2 ⟨A2, c2, rfl, hr2, hb2⟩; have HB2 := Lib.hid hb2; have R2 := Lib.hid hr2; clear hb2 hr2))
      go_ret
      exact ⟨A2, c2, rfl, own_lo0 R2.out HO.out.below.size, HO.out.below.trans (HB2.out.mono HO.out.below.size)⟩

end Go.Proofs.Ytahbfdhjgnlmdaa

/- EulerLess: the numbers behind the walk. -/
namespace Go.Proofs.Ytahbfdhjgnlmdaa
open Go.RowKit
set_option linter.unusedSimpArgs false
set_option linter.unusedVariables false

theorem own_row_far {w : World} {lo k n g : Nat} {T : TypeId} {v : Value} {xs : List Value} (h : w.ownsRow lo T k v n xs) (hne : some g ≠ v.ownBlock) (cs : Array Value) : (w.setRow g cs).ownsRow lo T k v n xs :=
  h.kept (row := some g) ⟨rfl, rfl, rfl, by simp [World.setRow], fun i _ hk => setRow_other w g i cs (fun e => hk (by rw [e]))⟩ (by first | exact hne | exact hne.symm | exact .inr hne | exact .inr hne.symm)
/-- A vertex's ring without two darts. -/
def lesR (x y : D) (r : List D) : List D := turnD (filD (turnD (filD r x)) y)
theorem less_vS {Vs Us : List VC} {e : EC} {L : List ((Int × Int) × List D × ByteArray × Int)} (h : Us.map vS = Vs.map (fun v => (v.1, lesR (e.1.1, e.1.2, 0) (e.1.1, e.1.2, 1) v.2.1.2.2.2, v.2.2.1, v.2.2.2))) : Us.map vS = (lessV e Vs).map vS := by
  rw [h, lessV, List.map_map, List.map_map]
  rfl
/-- A diagram as another one, at another place. -/
theorem good_same {Vs Us : List VC} {Es Fs : List EC} (hg : GoodD Vs Es) (hv : ∀ u ∈ Us, (∀ d ∈ u.2.1.2.2.2, ∃ x ∈ Vs, d ∈ x.2.1.2.2.2) ∧ ∃ x ∈ Vs, u.2.2.1 = x.2.2.1) (he : ∀ e ∈ Fs, e ∈ Es) : GoodD Us Fs := by
  refine ⟨fun u hu d hd => ?_, fun e h => hg.e e (he e h), fun u hu => ?_, fun e h => hg.le e (he e h)⟩
  · obtain ⟨x, hx, hdx⟩ := (hv u hu).1 d hd
    exact hg.v x hx d hdx
  · obtain ⟨x, hx, q⟩ := (hv u hu).2
    rw [q]
    exact hg.lv x hx
theorem less_good {Vs Us : List VC} {Es : List EC} {e : EC} {k : Nat} (hg : GoodD Vs Es) (h : Us.map vS = (lessV e Vs).map vS) : GoodD Us (lessE k Es) := by
  refine good_same hg (fun u hu => ?_) (fun x hx => (lessE_sub k).subset hx)
  have h1 : vS u ∈ (lessV e Vs).map vS := h ▸ List.mem_map.2 ⟨u, hu, rfl⟩
  obtain ⟨x, hx, q⟩ := List.mem_map.1 h1
  rw [lessV, List.map_map] at hx
  obtain ⟨y, hy, rfl⟩ := List.mem_map.1 hx
  have q1 : u.2.1.2.2.2 = lesR (e.1.1, e.1.2, 0) (e.1.1, e.1.2, 1) y.2.1.2.2.2 := (congrArg (·.2.1) q).symm
  have q2 : u.2.2.1 = y.2.2.1 := (congrArg (·.2.2.1) q).symm
  refine ⟨fun d hd => ⟨y, hy, ?_⟩, y, hy, q2⟩
  rw [q1, lesR] at hd
  have h1 := (filD_mem.1 ((turn_perm _).mem_iff.1 hd)).1
  exact (filD_mem.1 ((turn_perm _).mem_iff.1 h1)).1
section
variable {Vs Us : List VC} {Es : List EC} {e : EC} {k : Nat} {A A2 B B2 : Option Addr} {n c m kk n2 c2 m2 k2 : Nat}
theorem less_calls (hf : Formed Vs Es) (hg : GoodD Vs Es) (he : Es[k]? = some e) (h : Us.map vS = (lessV e Vs).map vS) :
    ∃ t t2 : Nat, t ≤ 100 ∧ (t = t2 ∨ t = t2 + 1) ∧ (∀ W, DgIn W A n c Vs B m kk Es → Calls Try.prog 13 #[.agg #[.slice A n c, .slice B m kk]] W fun e w' => e = .returned (.int .i64 (t : Int)) ∧ Below W.heap.size W w') ∧
      (∀ W, DgIn W A2 n2 c2 Us B2 m2 k2 (lessE k Es) → Calls Try.prog 13 #[.agg #[.slice A2 n2 c2, .slice B2 m2 k2]] W fun e w' => e = .returned (.int .i64 (t2 : Int)) ∧ Below W.heap.size W w') ∧
      (∀ W, DgIn W A2 n2 c2 Us B2 m2 k2 (lessE k Es) → Calls Try.prog 14 #[.agg #[.slice A2 n2 c2, .slice B2 m2 k2]] W fun e w' => e = .returned (.bool (((t2 : Nat) : Int) == 0)) ∧ Below W.heap.size W w') ∧
      (∀ W, DgIn W A2 n2 c2 Us B2 m2 k2 (lessE k Es) → Calls Try.prog 11 #[.agg #[.slice A2 n2 c2, .slice B2 m2 k2]] W fun e w' => e = .returned (.int .i64 0) ∧ Below W.heap.size W w') := by
  have hF := less_formed hf he
  have hFu := hF.same h
  have hgu := less_good (k := k) hg h
  have e1 := less_genus hf he
  rw [← gen_same h (Es := lessE k Es)] at e1
  obtain ⟨t, q1, q2, -⟩ := euler_all hf
  have g1 := gen_num hf q1
  obtain ⟨t2, p1, p2, -⟩ := euler_all hFu
  have g2 := gen_num hFu p1
  have h40 := hf.e40
  rw [g1, g2] at e1
  refine ⟨t, t2, by omega, by omega, ?_, ?_, ?_, ?_⟩
  · have := gen7_any (A := A) (n := n) (c := c) (B := B) (m := m) (k := kk) hf hg
    rwa [g1] at this
  · have := gen7_any (A := A2) (n := n2) (c := c2) (B := B2) (m := m2) (k := k2) hFu hgu
    rwa [g2] at this
  · have := plan7_any (A := A2) (n := n2) (c := c2) (B := B2) (m := m2) (k := k2) hFu hgu
    rwa [g2] at this
  · intro W hW
    have hsm := hFu.small hW
    have := rform7_any (A := A2) (n := n2) (c := c2) (B := B2) (m := m2) (k := k2) (fun x hx => by have := hsm.2.2 x hx; omega) hgu W hW
    rwa [(form0 _ _).2 hFu] at this
end

end Go.Proofs.Ytahbfdhjgnlmdaa
