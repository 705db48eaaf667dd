/- The laws' calls of a net, read. -/
import Derived.Test.YtibbibpfnpjjdaaNAH
import Derived.Test.YtibbibpfnpjjdaaNAD
import Derived.ProofKit
import Derived.Below
import Derived.Carry
import Derived.WideKeyArgs
import Derived.OpenShut
import Derived.Deep.Slices
import Derived.Test.YtibbibpfnpjjdaaProg
import Derived.KernelRfl
import Derived.Test.YtibbibpfnpjjdaaNAA

/- A call of both: Deliver, At. -/
namespace Go.Proofs.Ytibbibpfnpjjdaa
open Go.RowKit
set_option linter.unusedSimpArgs false
set_option linter.unusedVariables false

set_option maxRecDepth 100000 in
set_option maxHeartbeats 4000000 in
theorem does_3 {B g t : Nat} {go : Option Nat} {A : Option Addr} {c : Nat} {es : List Sl} {y : Nat} {A' : Option Addr} {c' : Nat} {es' : List Sl} {s : NtS} (w : World) (h : TwIn B w g t go A c es y A' c' es' s s) (hs : NtOk s) (o : OpA) (hk : kd o.1.1 = 3) (ho : OpOk B w o) (hT : ∀ x ∈ s.2, x ≤ 100000) :
    Calls Try.prog 13 #[.pointer (some ⟨g, 0, none⟩), .pointer (some ⟨y, 0, none⟩), .agg (oC o).toArray] w fun e w' => e = .returned (.bool true) ∧ TwSt B g t y go A A' w (opN s o) (opN s o) w' := by
  obtain ⟨⟨k, i, a⟩, ⟨Af, nf, cf⟩, Fs⟩ := o
  have HOP : RowKit.Hid (opN s ((k, i, a), (Af, nf, cf), Fs) = delivN s i) := Lib.hid (by
    unfold opN
    show (match kd k with | 3 => _ | 4 => _ | 5 => _ | 6 => _ | 7 => _ | _ => _) = _
    rw [show kd k = 3 from hk]
    rfl)
  have hkd : bits .and .i64 k 7 = 3 := by rw [(kd_is k).1, show kd k = 3 from hk]; rfl
  have hB := below1 w (.cells #[.int .i64 k, .int .i64 i, .int .i64 a, .slice Af nf cf] 40)
  have HX : RowKit.Hid (Whole (w.alloc (.cells #[.int .i64 k, .int .i64 i, .int .i64 a, .slice Af nf cf] 40)) w.heap.size 40 [.int .i64 k, .int .i64 i, .int .i64 a, .slice Af nf cf]) := Lib.hid (Whole.new_ _ _ [_, _, _, _])
  have HW := Lib.hid (h.below hB)
  have HO := Lib.hid (ho.below hB)
  have HB := Lib.hid hB
  have HLT : RowKit.Hid (∀ b, TwS g t go A y A' b → b < w.heap.size) := Lib.hid (fun b hb => (h.lt b hb).2)
  have Hs := Lib.hid hs
  have HT2 : RowKit.Hid (∀ x ∈ s.2, 0 ≤ x ∧ x ≤ 100000) := Lib.hid (nt_small h.nt.tal hT)
  have HT : RowKit.Hid (∀ x ∈ s.2, x ≤ 1000000) := Lib.hid (fun x hx => by have := hT x hx; omega)
  have HT3 : RowKit.Hid (∀ x ∈ s.2, 0 ≤ x ∧ x ≤ 1000000) := Lib.hid (fun x hx => by have := HT2.out x hx; omega)
  clear h ho hs hT hB hk
  unfold oC
  go_enter Try.func13, Try.ntmps13
  go_upto_region 1 with fail
  obtain ⟨W1, gW1⟩ : ∃ z, w.alloc (.cells #[.int .i64 k, .int .i64 i, .int .i64 a, .slice Af nf cf] 40) = z := ⟨_, rfl⟩
  obtain ⟨b5, gb5⟩ : ∃ z, w.heap.size = z := ⟨_, rfl⟩
  have HG0 : RowKit.Hid (w.heap.size = b5) := Lib.hid gb5
  rw [gW1] at HX HW HO HB ⊢
  rw [gb5] at HX HLT ⊢
  have HG1 : RowKit.Hid (b5 < W1.heap.size) := Lib.hid HX.out.lt
  clear gW1 gb5
  have l0 := HX.out.cell (i := 0) rfl
  obtain ⟨⟨f, M, er⟩, hfm⟩ : ∃ z, atR s i = z := ⟨_, rfl⟩
  have HR := Lib.hid hfm
  have l1 := HX.out.cell (i := 1) rfl
  clear hfm
  have HD := Lib.hid (nt_deliv W1 HW.out.nt Hs.out i HT.out)
  go_upto_region 3 with fail
  clear hkd l0
  go_wp2_with fail
  refine HD.out.mono ?_
  rintro e1 w2 ⟨A2, c2, rfl, hr2, hn2, go1, es1, hN, hG⟩
  rw [HR.out] at hr2 hn2 ⊢
  have htw := HW.out.nstep hN hG
  have HW2 := Lib.hid htw.1
  have HG2 := Lib.hid htw.2
  clear htw hN hG
  have HR2 := Lib.hid hr2
  have HN2 := Lib.hid hn2
  have HX2 := Lib.hid (HG2.out.k.whole HX.out (fun q => by have := HLT.out _ q; omega))
  clear hr2 hn2 HD HX HW l1
  rename_i hK
  refine hK _ _ ?_
  refine wl_read (v := ?_) (some 22) rfl (by rfl) ?_ ?_
  rotate_left
  · go_simp; (try with_reducible rfl)
  simp only [Act.put, List.setIfInBounds_toArray, List.set_cons_zero, List.set_cons_succ]
  refine wl_read (v := .agg (frCells f A2 M.length c2).toArray) (some 27) rfl (by rfl) ?_ ?_
  · go_simp; (try rfl)
  simp only [Act.put, List.setIfInBounds_toArray, List.set_cons_zero, List.set_cons_succ]
  refine wl_read (v := ?_) (some 28) rfl (by rfl) ?_ ?_
  rotate_left
  · go_simp; (try with_reducible rfl)
  simp only [Act.put, List.setIfInBounds_toArray, List.set_cons_zero, List.set_cons_succ]
  refine wl_new 7 rfl rfl rfl 34 (.tmp 27) rfl rfl #[.int .i64 0, .int .i64 0, .int .i64 0, .int .i64 0, .int .i64 0, .int .i64 0, .slice none 0 0] ?_ (frCells f A2 M.length c2).toArray (by simp) rfl (by kernel_rfl) rfl (by simp [frCells, Value.oneCell']) ?_
  · go_simp; (try with_reducible rfl)
  simp only [Act.put, List.setIfInBounds_toArray, List.set_cons_zero, List.set_cons_succ]
  have HY3 : RowKit.Hid (Whole (w2.alloc (.cells (frCells f A2 M.length c2).toArray 34)) w2.heap.size 34 (frCells f A2 M.length c2)) := Lib.hid (Whole.new_ _ _ _)
  have HG7 : RowKit.Hid (W1.heap.size ≤ w2.heap.size) := Lib.hid HG2.out.k.size
  have hB3 := below1 w2 (.cells (frCells f A2 M.length c2).toArray 34)
  have HR3 := Lib.hid (HR2.out.al (.cells (frCells f A2 M.length c2).toArray 34))
  have HW3 := Lib.hid (HW2.out.below hB3)
  have HX3 := Lib.hid (HX2.out.al (.cells (frCells f A2 M.length c2).toArray 34))
  have HG3 := Lib.hid (HG2.out.trans (NtGo.below hB3))
  obtain ⟨w3, gw3⟩ : ∃ z, w2.alloc (.cells (frCells f A2 M.length c2).toArray 34) = z := ⟨_, rfl⟩
  obtain ⟨b7, gb7⟩ : ∃ z, w2.heap.size = z := ⟨_, rfl⟩
  rw [gw3] at HY3 HR3 HW3 HX3 HG3 ⊢
  rw [gb7] at HY3 HG7 ⊢
  clear gw3 gb7 hB3 HR2 HW2 HX2 HG2 hK
  have l1 := HX3.out.cell (i := 1) rfl
  have HD := Lib.hid (yt_deliv w3 HW3.out.yt Hs.out i HT3.out)
  go_upto_region 4 with fail
  go_wp2_with fail
  refine HD.out.mono ?_
  rintro e1 w4 ⟨A3, c3, rfl, hr4, hn4, A5, c5, es5, hY, hG⟩
  rw [HR.out] at hr4 hn4 ⊢
  have htw := HW3.out.ystep hY hG
  have HW4 := Lib.hid htw.1
  have HG4 := Lib.hid (HG3.out.trans htw.2)
  have hk4 := hG.k
  have HKY : RowKit.Hid (Kept (YtT y A') w3 w4) := Lib.hid hk4
  clear htw hY hG hk4
  have HR5 := Lib.hid hr4
  have HR4 := Lib.hid (HR3.out.kept_ne HKY.out (fun a ha hp q => by have h1 := HLT.out _ (.inr q); have h2 := HN2.out a ha hp; have := HG1.out; omega))
  have HY4 := Lib.hid (HKY.out.whole HY3.out (fun q => by have h1 := HLT.out _ (.inr q); have := HG7.out; have := HG1.out; omega))
  clear hr4 hn4 HD HW3 HX3 HG3 HR3 HY3 HKY l1
  rename_i hK
  refine hK _ _ ?_
  refine wl_read (v := ?_) (some 29) rfl (by rfl) ?_ ?_
  rotate_left
  · go_simp; (try with_reducible rfl)
  simp only [Act.put, List.setIfInBounds_toArray, List.set_cons_zero, List.set_cons_succ]
  refine wl_read (v := .agg (frCells f A3 M.length c3).toArray) (some 34) rfl (by rfl) ?_ ?_
  · go_simp; (try rfl)
  simp only [Act.put, List.setIfInBounds_toArray, List.set_cons_zero, List.set_cons_succ]
  refine wl_read (v := ?_) (some 35) rfl (by rfl) ?_ ?_
  rotate_left
  · go_simp; (try with_reducible rfl)
  simp only [Act.put, List.setIfInBounds_toArray, List.set_cons_zero, List.set_cons_succ]
  refine wl_new 9 rfl rfl rfl 34 (.tmp 34) rfl rfl #[.int .i64 0, .int .i64 0, .int .i64 0, .int .i64 0, .int .i64 0, .int .i64 0, .slice none 0 0] ?_ (frCells f A3 M.length c3).toArray (by simp) rfl (by kernel_rfl) rfl (by simp [frCells, Value.oneCell']) ?_
  · go_simp; (try with_reducible rfl)
  simp only [Act.put, List.setIfInBounds_toArray, List.set_cons_zero, List.set_cons_succ]
  have HY6 : RowKit.Hid (Whole (w4.alloc (.cells (frCells f A3 M.length c3).toArray 34)) w4.heap.size 34 (frCells f A3 M.length c3)) := Lib.hid (Whole.new_ _ _ _)
  have hB5 := below1 w4 (.cells (frCells f A3 M.length c3).toArray 34)
  have HRa := Lib.hid (HR4.out.al (.cells (frCells f A3 M.length c3).toArray 34))
  have HRb := Lib.hid (HR5.out.al (.cells (frCells f A3 M.length c3).toArray 34))
  have HY5 := Lib.hid (HY4.out.al (.cells (frCells f A3 M.length c3).toArray 34))
  have HW5 := Lib.hid (HW4.out.below hB5)
  have HG5 := Lib.hid (HG4.out.trans (NtGo.below hB5))
  obtain ⟨w5, gw5⟩ : ∃ z, w4.alloc (.cells (frCells f A3 M.length c3).toArray 34) = z := ⟨_, rfl⟩
  obtain ⟨b9, gb9⟩ : ∃ z, w4.heap.size = z := ⟨_, rfl⟩
  rw [gw5] at HY5 HY6 HRa HRb HW5 HG5 ⊢
  rw [gb9] at HY6 ⊢
  clear gw5 gb9 hB5 HR4 HR5 HY4 HW4 HG4 hK
  have HSm := Lib.hid (same_any f f A2 A3 M.length c2 M.length c3 M M w5 HRa.out HRb.out)
  rw [sameF_self] at HSm
  go_upto_region 5 with fail
  refine wp_region_lit ?_
  refine wl_load (some 36) rfl (by rfl) 34 (.tmp 7) rfl b7 rfl 34 (frCells f A2 M.length c2) _ HY5.out Try.underlying34 rfl (by kernel_rfl) ?_
  simp only [Act.put, List.setIfInBounds_toArray, List.set_cons_zero, List.set_cons_succ]
  refine wl_load (some 37) rfl (by rfl) 34 (.tmp 9) rfl b9 rfl 34 (frCells f A3 M.length c3) _ HY6.out Try.underlying34 rfl (by kernel_rfl) ?_
  simp only [Act.put, List.setIfInBounds_toArray, List.set_cons_zero, List.set_cons_succ]
  go_wp2_with fail
  refine HSm.out.mono ?_
  rintro e1 w6 ⟨rfl, hb6⟩
  have HW6 := Lib.hid (HW5.out.below hb6)
  have HG6 := Lib.hid ((NtGo.below HB.out).trans (HG5.out.trans (NtGo.below hb6)))
  clear hb6 HSm HY5 HY6 HRa HRb HW5 HG5
  go_wp2
  go_ret
  rw [HOP.out]
  exact ⟨rfl, go1, A, c, es1, A5, c5, es5, HW6.out, HG6.out⟩
set_option maxRecDepth 100000 in
set_option maxHeartbeats 4000000 in
theorem does_7 {B g t : Nat} {go : Option Nat} {A : Option Addr} {c : Nat} {es : List Sl} {y : Nat} {A' : Option Addr} {c' : Nat} {es' : List Sl} {s : NtS} (w : World) (h : TwIn B w g t go A c es y A' c' es' s s) (hs : NtOk s) (o : OpA) (hk : kd o.1.1 = 7) (ho : OpOk B w o) (hT : ∀ x ∈ s.2, x ≤ 100000) :
    Calls Try.prog 13 #[.pointer (some ⟨g, 0, none⟩), .pointer (some ⟨y, 0, none⟩), .agg (oC o).toArray] w fun e w' => e = .returned (.bool true) ∧ TwSt B g t y go A A' w (opN s o) (opN s o) w' := by
  obtain ⟨⟨k, i, a⟩, ⟨Af, nf, cf⟩, Fs⟩ := o
  have HOP : RowKit.Hid (opN s ((k, i, a), (Af, nf, cf), Fs) = s) := Lib.hid (by
    unfold opN
    show (match kd k with | 3 => _ | 4 => _ | 5 => _ | 6 => _ | 7 => _ | _ => _) = _
    rw [show kd k = 7 from hk]
    rfl)
  have hkd : bits .and .i64 k 7 = 7 := by rw [(kd_is k).1, show kd k = 7 from hk]; rfl
  have hB := below1 w (.cells #[.int .i64 k, .int .i64 i, .int .i64 a, .slice Af nf cf] 40)
  have HX : RowKit.Hid (Whole (w.alloc (.cells #[.int .i64 k, .int .i64 i, .int .i64 a, .slice Af nf cf] 40)) w.heap.size 40 [.int .i64 k, .int .i64 i, .int .i64 a, .slice Af nf cf]) := Lib.hid (Whole.new_ _ _ [_, _, _, _])
  have HW := Lib.hid (h.below hB)
  have HO := Lib.hid (ho.below hB)
  have HB := Lib.hid hB
  have HLT : RowKit.Hid (∀ b, TwS g t go A y A' b → b < w.heap.size) := Lib.hid (fun b hb => (h.lt b hb).2)
  have Hs := Lib.hid hs
  have HT2 : RowKit.Hid (∀ x ∈ s.2, 0 ≤ x ∧ x ≤ 100000) := Lib.hid (nt_small h.nt.tal hT)
  have HT : RowKit.Hid (∀ x ∈ s.2, x ≤ 1000000) := Lib.hid (fun x hx => by have := hT x hx; omega)
  have HT3 : RowKit.Hid (∀ x ∈ s.2, 0 ≤ x ∧ x ≤ 1000000) := Lib.hid (fun x hx => by have := HT2.out x hx; omega)
  clear h ho hs hT hB hk
  unfold oC
  go_enter Try.func13, Try.ntmps13
  go_upto_region 1 with fail
  obtain ⟨W1, gW1⟩ : ∃ z, w.alloc (.cells #[.int .i64 k, .int .i64 i, .int .i64 a, .slice Af nf cf] 40) = z := ⟨_, rfl⟩
  obtain ⟨b5, gb5⟩ : ∃ z, w.heap.size = z := ⟨_, rfl⟩
  have HG0 : RowKit.Hid (w.heap.size = b5) := Lib.hid gb5
  rw [gW1] at HX HW HO HB ⊢
  rw [gb5] at HX HLT ⊢
  have HG1 : RowKit.Hid (b5 < W1.heap.size) := Lib.hid HX.out.lt
  clear gW1 gb5
  have l0 := HX.out.cell (i := 0) rfl
  obtain ⟨⟨f, M, er⟩, hfm⟩ : ∃ z, atR s i = z := ⟨_, rfl⟩
  have HR := Lib.hid hfm
  have l1 := HX.out.cell (i := 1) rfl
  clear hfm
  have HD := Lib.hid (nt_at W1 HW.out.nt Hs.out i)
  go_upto_region 14 with fail
  clear hkd l0
  go_wp2_with fail
  refine HD.out.mono ?_
  rintro e1 w2 ⟨A2, c2, rfl, hr2, hn2, hb2⟩
  rw [HR.out] at hr2 hn2 ⊢
  have HW2 := Lib.hid (HW.out.below hb2)
  have HG2 := Lib.hid (NtGo.below (S := TwS g t go A y A') hb2)
  clear hb2
  have HR2 := Lib.hid hr2
  have HN2 := Lib.hid hn2
  have HX2 := Lib.hid (HG2.out.k.whole HX.out (fun q => by have := HLT.out _ q; omega))
  clear hr2 hn2 HD HX HW l1
  rename_i hK
  refine hK _ _ ?_
  refine wl_read (v := ?_) (some 84) rfl (by rfl) ?_ ?_
  rotate_left
  · go_simp; (try with_reducible rfl)
  simp only [Act.put, List.setIfInBounds_toArray, List.set_cons_zero, List.set_cons_succ]
  refine wl_read (v := .agg (frCells f A2 M.length c2).toArray) (some 89) rfl (by rfl) ?_ ?_
  · go_simp; (try rfl)
  simp only [Act.put, List.setIfInBounds_toArray, List.set_cons_zero, List.set_cons_succ]
  refine wl_read (v := ?_) (some 90) rfl (by rfl) ?_ ?_
  rotate_left
  · go_simp; (try with_reducible rfl)
  simp only [Act.put, List.setIfInBounds_toArray, List.set_cons_zero, List.set_cons_succ]
  refine wl_new 12 rfl rfl rfl 34 (.tmp 89) rfl rfl #[.int .i64 0, .int .i64 0, .int .i64 0, .int .i64 0, .int .i64 0, .int .i64 0, .slice none 0 0] ?_ (frCells f A2 M.length c2).toArray (by simp) rfl (by kernel_rfl) rfl (by simp [frCells, Value.oneCell']) ?_
  · go_simp; (try with_reducible rfl)
  simp only [Act.put, List.setIfInBounds_toArray, List.set_cons_zero, List.set_cons_succ]
  have HY3 : RowKit.Hid (Whole (w2.alloc (.cells (frCells f A2 M.length c2).toArray 34)) w2.heap.size 34 (frCells f A2 M.length c2)) := Lib.hid (Whole.new_ _ _ _)
  have HG7 : RowKit.Hid (W1.heap.size ≤ w2.heap.size) := Lib.hid HG2.out.k.size
  have hB3 := below1 w2 (.cells (frCells f A2 M.length c2).toArray 34)
  have HR3 := Lib.hid (HR2.out.al (.cells (frCells f A2 M.length c2).toArray 34))
  have HW3 := Lib.hid (HW2.out.below hB3)
  have HX3 := Lib.hid (HX2.out.al (.cells (frCells f A2 M.length c2).toArray 34))
  have HG3 := Lib.hid (HG2.out.trans (NtGo.below hB3))
  obtain ⟨w3, gw3⟩ : ∃ z, w2.alloc (.cells (frCells f A2 M.length c2).toArray 34) = z := ⟨_, rfl⟩
  obtain ⟨b7, gb7⟩ : ∃ z, w2.heap.size = z := ⟨_, rfl⟩
  rw [gw3] at HY3 HR3 HW3 HX3 HG3 ⊢
  rw [gb7] at HY3 HG7 ⊢
  clear gw3 gb7 hB3 HR2 HW2 HX2 HG2 hK
  have l1 := HX3.out.cell (i := 1) rfl
  have HD := Lib.hid (yt_at w3 HW3.out.yt Hs.out i)
  go_upto_region 15 with fail
  go_wp2_with fail
  refine HD.out.mono ?_
  rintro e1 w4 ⟨A3, c3, rfl, hr4, hn4, hb4⟩
  rw [HR.out] at hr4 hn4 ⊢
  have HW4 := Lib.hid (HW3.out.below hb4)
  have HG4 := Lib.hid (HG3.out.trans (NtGo.below hb4))
  have HKY : RowKit.Hid (Kept (YtT y A') w3 w4) := Lib.hid (Kept.of_below hb4)
  clear hb4
  have HR5 := Lib.hid hr4
  have HR4 := Lib.hid (HR3.out.kept_ne HKY.out (fun a ha hp q => by have h1 := HLT.out _ (.inr q); have h2 := HN2.out a ha hp; have := HG1.out; omega))
  have HY4 := Lib.hid (HKY.out.whole HY3.out (fun q => by have h1 := HLT.out _ (.inr q); have := HG7.out; have := HG1.out; omega))
  clear hr4 hn4 HD HW3 HX3 HG3 HR3 HY3 HKY l1
  rename_i hK
  refine hK _ _ ?_
  refine wl_read (v := ?_) (some 91) rfl (by rfl) ?_ ?_
  rotate_left
  · go_simp; (try with_reducible rfl)
  simp only [Act.put, List.setIfInBounds_toArray, List.set_cons_zero, List.set_cons_succ]
  refine wl_read (v := .agg (frCells f A3 M.length c3).toArray) (some 96) rfl (by rfl) ?_ ?_
  · go_simp; (try rfl)
  simp only [Act.put, List.setIfInBounds_toArray, List.set_cons_zero, List.set_cons_succ]
  refine wl_read (v := ?_) (some 97) rfl (by rfl) ?_ ?_
  rotate_left
  · go_simp; (try with_reducible rfl)
  simp only [Act.put, List.setIfInBounds_toArray, List.set_cons_zero, List.set_cons_succ]
  refine wl_new 14 rfl rfl rfl 34 (.tmp 96) rfl rfl #[.int .i64 0, .int .i64 0, .int .i64 0, .int .i64 0, .int .i64 0, .int .i64 0, .slice none 0 0] ?_ (frCells f A3 M.length c3).toArray (by simp) rfl (by kernel_rfl) rfl (by simp [frCells, Value.oneCell']) ?_
  · go_simp; (try with_reducible rfl)
  simp only [Act.put, List.setIfInBounds_toArray, List.set_cons_zero, List.set_cons_succ]
  have HY6 : RowKit.Hid (Whole (w4.alloc (.cells (frCells f A3 M.length c3).toArray 34)) w4.heap.size 34 (frCells f A3 M.length c3)) := Lib.hid (Whole.new_ _ _ _)
  have hB5 := below1 w4 (.cells (frCells f A3 M.length c3).toArray 34)
  have HRa := Lib.hid (HR4.out.al (.cells (frCells f A3 M.length c3).toArray 34))
  have HRb := Lib.hid (HR5.out.al (.cells (frCells f A3 M.length c3).toArray 34))
  have HY5 := Lib.hid (HY4.out.al (.cells (frCells f A3 M.length c3).toArray 34))
  have HW5 := Lib.hid (HW4.out.below hB5)
  have HG5 := Lib.hid (HG4.out.trans (NtGo.below hB5))
  obtain ⟨w5, gw5⟩ : ∃ z, w4.alloc (.cells (frCells f A3 M.length c3).toArray 34) = z := ⟨_, rfl⟩
  obtain ⟨b9, gb9⟩ : ∃ z, w4.heap.size = z := ⟨_, rfl⟩
  rw [gw5] at HY5 HY6 HRa HRb HW5 HG5 ⊢
  rw [gb9] at HY6 ⊢
  clear gw5 gb9 hB5 HR4 HR5 HY4 HW4 HG4 hK
  have HSm := Lib.hid (same_any f f A2 A3 M.length c2 M.length c3 M M w5 HRa.out HRb.out)
  rw [sameF_self] at HSm
  go_upto_region 16 with fail
  refine wp_region_lit ?_
  refine wl_load (some 98) rfl (by rfl) 34 (.tmp 12) rfl b7 rfl 34 (frCells f A2 M.length c2) _ HY5.out Try.underlying34 rfl (by kernel_rfl) ?_
  simp only [Act.put, List.setIfInBounds_toArray, List.set_cons_zero, List.set_cons_succ]
  refine wl_load (some 99) rfl (by rfl) 34 (.tmp 14) rfl b9 rfl 34 (frCells f A3 M.length c3) _ HY6.out Try.underlying34 rfl (by kernel_rfl) ?_
  simp only [Act.put, List.setIfInBounds_toArray, List.set_cons_zero, List.set_cons_succ]
  go_wp2_with fail
  refine HSm.out.mono ?_
  rintro e1 w6 ⟨rfl, hb6⟩
  have HW6 := Lib.hid (HW5.out.below hb6)
  have HG6 := Lib.hid ((NtGo.below HB.out).trans (HG5.out.trans (NtGo.below hb6)))
  clear hb6 HSm HY5 HY6 HRa HRb HW5 HG5
  go_wp2
  go_ret
  rw [HOP.out]
  exact ⟨rfl, go, A, c, es, A', c', es', HW6.out, HG6.out⟩
end Go.Proofs.Ytibbibpfnpjjdaa

/- A call of both: Drop, Double, Turn. -/
namespace Go.Proofs.Ytibbibpfnpjjdaa
open Go.RowKit
set_option linter.unusedSimpArgs false
set_option linter.unusedVariables false

set_option maxRecDepth 100000 in
set_option maxHeartbeats 4000000 in
theorem does_4 {B g t : Nat} {go : Option Nat} {A : Option Addr} {c : Nat} {es : List Sl} {y : Nat} {A' : Option Addr} {c' : Nat} {es' : List Sl} {s : NtS} (w : World) (h : TwIn B w g t go A c es y A' c' es' s s) (hs : NtOk s) (o : OpA) (hk : kd o.1.1 = 4) (ho : OpOk B w o) (hT : ∀ x ∈ s.2, x ≤ 100000) :
    Calls Try.prog 13 #[.pointer (some ⟨g, 0, none⟩), .pointer (some ⟨y, 0, none⟩), .agg (oC o).toArray] w fun e w' => e = .returned (.bool true) ∧ TwSt B g t y go A A' w (opN s o) (opN s o) w' := by
  obtain ⟨⟨k, i, a⟩, ⟨Af, nf, cf⟩, Fs⟩ := o
  have HOP : RowKit.Hid (opN s ((k, i, a), (Af, nf, cf), Fs) = dropN s i) := Lib.hid (by
    unfold opN
    show (match kd k with | 3 => _ | 4 => _ | 5 => _ | 6 => _ | 7 => _ | _ => _) = _
    rw [show kd k = 4 from hk]
    rfl)
  have hkd : bits .and .i64 k 7 = 4 := by rw [(kd_is k).1, show kd k = 4 from hk]; rfl
  have hB := below1 w (.cells #[.int .i64 k, .int .i64 i, .int .i64 a, .slice Af nf cf] 40)
  have HX : RowKit.Hid (Whole (w.alloc (.cells #[.int .i64 k, .int .i64 i, .int .i64 a, .slice Af nf cf] 40)) w.heap.size 40 [.int .i64 k, .int .i64 i, .int .i64 a, .slice Af nf cf]) := Lib.hid (Whole.new_ _ _ [_, _, _, _])
  have HW := Lib.hid (h.below hB)
  have HO := Lib.hid (ho.below hB)
  have HB := Lib.hid hB
  have HLT : RowKit.Hid (∀ b, TwS g t go A y A' b → b < w.heap.size) := Lib.hid (fun b hb => (h.lt b hb).2)
  have Hs := Lib.hid hs
  have HT2 : RowKit.Hid (∀ x ∈ s.2, 0 ≤ x ∧ x ≤ 100000) := Lib.hid (nt_small h.nt.tal hT)
  have HT : RowKit.Hid (∀ x ∈ s.2, x ≤ 1000000) := Lib.hid (fun x hx => by have := hT x hx; omega)
  have HT3 : RowKit.Hid (∀ x ∈ s.2, 0 ≤ x ∧ x ≤ 1000000) := Lib.hid (fun x hx => by have := HT2.out x hx; omega)
  clear h ho hs hT hB hk
  unfold oC
  go_enter Try.func13, Try.ntmps13
  go_upto_region 1 with fail
  obtain ⟨W1, gW1⟩ : ∃ z, w.alloc (.cells #[.int .i64 k, .int .i64 i, .int .i64 a, .slice Af nf cf] 40) = z := ⟨_, rfl⟩
  obtain ⟨b5, gb5⟩ : ∃ z, w.heap.size = z := ⟨_, rfl⟩
  have HG0 : RowKit.Hid (w.heap.size = b5) := Lib.hid gb5
  rw [gW1] at HX HW HO HB ⊢
  rw [gb5] at HX HLT ⊢
  have HG1 : RowKit.Hid (b5 < W1.heap.size) := Lib.hid HX.out.lt
  clear gW1 gb5
  have l0 := HX.out.cell (i := 0) rfl
  have ld1 : ∀ w', Kept (fun b => b ≠ b5) W1.drew w' → w'.cell? ⟨b5, 1, none⟩ = some (.int .i64 i) := fun w' hk => hk.cell (HX.out.drew.cell (i := 1) rfl) (fun q => q rfl)
  obtain ⟨er, ger⟩ : ∃ z, hasE s i = z := ⟨_, rfl⟩
  have GER := Lib.hid ger
  clear ger
  have HW0 := Lib.hid (HW.out.below ((Below.refl W1.heap.size W1).drew))
  have HB0 : RowKit.Hid (Below w.heap.size w W1.drew) := Lib.hid HB.out.drew
  clear HW HB
  have HW := HW0
  go_upto_region 8 with fail
  clear hkd l0
  refine wp_region_reg (fun b => b ≠ b5) (by kernel_rfl) ?_
  apply wpR_next 0 (some 47)
  · simp only [List.getElem?_toArray, List.getElem?_cons_succ, List.getElem?_cons_zero]; exact rfl
  · rfl
  · kernel_rfl
  · kernel_rfl
  · kernel_rfl
  · exact fun _ _ _ _ h => h
  apply Exists.intro
  apply And.intro
  · apply yr_run; rfl; intro w' hw'; go_simp; (try with_reducible rfl)
  simp only [Act.put, List.setIfInBounds_toArray, List.set_cons_zero, List.set_cons_succ]
  apply wpR_next 1 (some 48)
  · simp only [List.getElem?_toArray, List.getElem?_cons_succ, List.getElem?_cons_zero]; exact rfl
  · rfl
  · kernel_rfl
  · kernel_rfl
  · kernel_rfl
  · exact fun _ _ _ _ h => h
  apply Exists.intro
  apply And.intro
  · apply yr_run; rfl; intro w' hw'; go_simp; (try with_reducible rfl)
  simp only [Act.put, List.setIfInBounds_toArray, List.set_cons_zero, List.set_cons_succ]
  apply wpR_next 2 (some 49)
  · simp only [List.getElem?_toArray, List.getElem?_cons_succ, List.getElem?_cons_zero]; exact rfl
  · rfl
  · kernel_rfl
  · kernel_rfl
  · kernel_rfl
  · exact fun _ _ _ _ h => h
  apply Exists.intro
  apply And.intro
  · apply yr_run; rfl; intro w' hw'; go_simp; (try with_reducible rfl)
  simp only [Act.put, List.setIfInBounds_toArray, List.set_cons_zero, List.set_cons_succ]
  apply wpR_next 4 (some 51)
  · simp only [List.getElem?_toArray, List.getElem?_cons_succ, List.getElem?_cons_zero]; exact rfl
  · rfl
  · kernel_rfl
  · kernel_rfl
  · kernel_rfl
  · exact fun _ _ _ _ h => h
  apply Exists.intro
  apply And.intro
  · apply yr_run; rfl; intro w' hw'; go_simp; (try with_reducible rfl)
  simp only [Act.put, List.setIfInBounds_toArray, List.set_cons_zero, List.set_cons_succ]
  apply wpR_next 5 (some 52)
  · simp only [List.getElem?_toArray, List.getElem?_cons_succ, List.getElem?_cons_zero]; exact rfl
  · rfl
  · kernel_rfl
  · kernel_rfl
  · kernel_rfl
  · exact fun _ _ _ _ h => h
  apply Exists.intro
  apply And.intro
  · apply yr_run; rfl; intro w' hw'; go_simp; (try with_reducible rfl)
  simp only [Act.put, List.setIfInBounds_toArray, List.set_cons_zero, List.set_cons_succ]
  apply wpR_next 6 (some 53)
  · simp only [List.getElem?_toArray, List.getElem?_cons_succ, List.getElem?_cons_zero]; exact rfl
  · rfl
  · kernel_rfl
  · kernel_rfl
  · kernel_rfl
  · exact fun _ _ _ _ h => h
  apply Exists.intro
  apply And.intro
  · apply yr_run; rfl; intro w' hw'; go_simp; (try with_reducible rfl)
  simp only [Act.put, List.setIfInBounds_toArray, List.set_cons_zero, List.set_cons_succ]
  apply wpR_call 3 (some 50)
  · simp only [List.getElem?_toArray, List.getElem?_cons_succ, List.getElem?_cons_zero]; exact rfl
  · rfl
  · kernel_rfl
  · rfl
  · intro w'; go_simp; first | done | exact ⟨rfl, rfl⟩ | with_reducible rfl
  intro w' hw'
  refine (nt_drop' w' (HW.out.below hw').nt Hs.out i HT.out).mono ?_
  rintro e w'' ⟨rfl, go1, A1, c1, es1, hN, hG⟩
  refine ⟨_, rfl, hG.k.wider (fun b _ q => by have := HLT.out b (.inl q); omega), ?_⟩
  have htw := (HW.out.below hw').nstep hN hG
  have HW2 := Lib.hid htw.1
  have HG2 := Lib.hid ((NtGo.below hw').trans htw.2)
  clear htw hN hG hw'
  obtain ⟨V2, gV2⟩ : ∃ z, w'' = z := ⟨_, rfl⟩
  rw [gV2] at HW2 HG2 ⊢
  clear gV2
  simp only [Act.put, List.setIfInBounds_toArray, List.set_cons_zero, List.set_cons_succ]
  apply wpR_call 7 (some 54)
  · simp only [List.getElem?_toArray, List.getElem?_cons_succ, List.getElem?_cons_zero]; exact rfl
  · rfl
  · kernel_rfl
  · rfl
  · intro w'; go_simp; first | done | exact ⟨rfl, rfl⟩ | with_reducible rfl
  intro w' hw'
  refine (yt_drop w' (HW2.out.below hw').yt Hs.out i HT3.out).mono ?_
  rintro e w'' ⟨rfl, A5, c5, es5, hY, hG⟩
  refine ⟨_, rfl, hG.k.wider (fun b _ q => by have := HLT.out b (.inr q); omega), ?_⟩
  have htw := (HW2.out.below hw').ystep hY hG
  have HW3 := Lib.hid htw.1
  have HG3 := Lib.hid (HG2.out.trans ((NtGo.below hw').trans htw.2))
  clear htw hY hG hw'
  obtain ⟨V3, gV3⟩ : ∃ z, w'' = z := ⟨_, rfl⟩
  rw [gV3] at HW3 HG3 ⊢
  clear gV3
  simp only [Act.put, List.setIfInBounds_toArray, List.set_cons_zero, List.set_cons_succ]
  apply wpR_next 8 (some 55)
  · simp only [List.getElem?_toArray, List.getElem?_cons_succ, List.getElem?_cons_zero]; exact rfl
  · rfl
  · kernel_rfl
  · kernel_rfl
  · kernel_rfl
  · exact fun _ _ _ _ h => h
  apply Exists.intro
  apply And.intro
  · apply yr_run; rfl; intro w' hw'; go_simp; (try with_reducible rfl)
  simp only [Act.put, List.setIfInBounds_toArray, List.set_cons_zero, List.set_cons_succ]
  apply wpR_next 9 (some 6)
  · simp only [List.getElem?_toArray, List.getElem?_cons_succ, List.getElem?_cons_zero]; exact rfl
  · rfl
  · kernel_rfl
  · kernel_rfl
  · kernel_rfl
  · exact fun _ _ _ _ h => h
  apply Exists.intro
  apply And.intro
  · apply yr_run; rfl; intro w' hw'; go_simp; (try with_reducible rfl)
  simp only [Act.put, List.setIfInBounds_toArray, List.set_cons_zero, List.set_cons_succ]
  refine wpR_done (by kernel_rfl) ?_ _
  intro W6 hw6
  have HW6 := Lib.hid (HW3.out.below hw6)
  have HG6 := Lib.hid ((NtGo.below HB0.out).trans (HG3.out.trans (NtGo.below hw6)))
  clear hw6 HW3 HG3 ld1
  go_wp2
  go_ret
  rw [HOP.out]
  exact ⟨rfl, go1, A1, c1, es1, A5, c5, es5, HW6.out, HG6.out⟩
set_option maxRecDepth 100000 in
set_option maxHeartbeats 4000000 in
theorem does_5 {B g t : Nat} {go : Option Nat} {A : Option Addr} {c : Nat} {es : List Sl} {y : Nat} {A' : Option Addr} {c' : Nat} {es' : List Sl} {s : NtS} (w : World) (h : TwIn B w g t go A c es y A' c' es' s s) (hs : NtOk s) (o : OpA) (hk : kd o.1.1 = 5) (ho : OpOk B w o) (hT : ∀ x ∈ s.2, x ≤ 100000) :
    Calls Try.prog 13 #[.pointer (some ⟨g, 0, none⟩), .pointer (some ⟨y, 0, none⟩), .agg (oC o).toArray] w fun e w' => e = .returned (.bool true) ∧ TwSt B g t y go A A' w (opN s o) (opN s o) w' := by
  obtain ⟨⟨k, i, a⟩, ⟨Af, nf, cf⟩, Fs⟩ := o
  have HOP : RowKit.Hid (opN s ((k, i, a), (Af, nf, cf), Fs) = doubN s i) := Lib.hid (by
    unfold opN
    show (match kd k with | 3 => _ | 4 => _ | 5 => _ | 6 => _ | 7 => _ | _ => _) = _
    rw [show kd k = 5 from hk]
    rfl)
  have hkd : bits .and .i64 k 7 = 5 := by rw [(kd_is k).1, show kd k = 5 from hk]; rfl
  have hB := below1 w (.cells #[.int .i64 k, .int .i64 i, .int .i64 a, .slice Af nf cf] 40)
  have HX : RowKit.Hid (Whole (w.alloc (.cells #[.int .i64 k, .int .i64 i, .int .i64 a, .slice Af nf cf] 40)) w.heap.size 40 [.int .i64 k, .int .i64 i, .int .i64 a, .slice Af nf cf]) := Lib.hid (Whole.new_ _ _ [_, _, _, _])
  have HW := Lib.hid (h.below hB)
  have HO := Lib.hid (ho.below hB)
  have HB := Lib.hid hB
  have HLT : RowKit.Hid (∀ b, TwS g t go A y A' b → b < w.heap.size) := Lib.hid (fun b hb => (h.lt b hb).2)
  have Hs := Lib.hid hs
  have HT2 : RowKit.Hid (∀ x ∈ s.2, 0 ≤ x ∧ x ≤ 100000) := Lib.hid (nt_small h.nt.tal hT)
  have HT : RowKit.Hid (∀ x ∈ s.2, x ≤ 1000000) := Lib.hid (fun x hx => by have := hT x hx; omega)
  have HT3 : RowKit.Hid (∀ x ∈ s.2, 0 ≤ x ∧ x ≤ 1000000) := Lib.hid (fun x hx => by have := HT2.out x hx; omega)
  clear h ho hs hT hB hk
  unfold oC
  go_enter Try.func13, Try.ntmps13
  go_upto_region 1 with fail
  obtain ⟨W1, gW1⟩ : ∃ z, w.alloc (.cells #[.int .i64 k, .int .i64 i, .int .i64 a, .slice Af nf cf] 40) = z := ⟨_, rfl⟩
  obtain ⟨b5, gb5⟩ : ∃ z, w.heap.size = z := ⟨_, rfl⟩
  have HG0 : RowKit.Hid (w.heap.size = b5) := Lib.hid gb5
  rw [gW1] at HX HW HO HB ⊢
  rw [gb5] at HX HLT ⊢
  have HG1 : RowKit.Hid (b5 < W1.heap.size) := Lib.hid HX.out.lt
  clear gW1 gb5
  have l0 := HX.out.cell (i := 0) rfl
  have ld1 : ∀ w', Kept (fun b => b ≠ b5) W1.drew w' → w'.cell? ⟨b5, 1, none⟩ = some (.int .i64 i) := fun w' hk => hk.cell (HX.out.drew.cell (i := 1) rfl) (fun q => q rfl)
  obtain ⟨er, ger⟩ : ∃ z, doubE s i = z := ⟨_, rfl⟩
  have GER := Lib.hid ger
  clear ger
  have HW0 := Lib.hid (HW.out.below ((Below.refl W1.heap.size W1).drew))
  have HB0 : RowKit.Hid (Below w.heap.size w W1.drew) := Lib.hid HB.out.drew
  clear HW HB
  have HW := HW0
  go_upto_region 10 with fail
  clear hkd l0
  refine wp_region_reg (fun b => b ≠ b5) (by kernel_rfl) ?_
  apply wpR_next 0 (some 58)
  · simp only [List.getElem?_toArray, List.getElem?_cons_succ, List.getElem?_cons_zero]; exact rfl
  · rfl
  · kernel_rfl
  · kernel_rfl
  · kernel_rfl
  · exact fun _ _ _ _ h => h
  apply Exists.intro
  apply And.intro
  · apply yr_run; rfl; intro w' hw'; go_simp; (try with_reducible rfl)
  simp only [Act.put, List.setIfInBounds_toArray, List.set_cons_zero, List.set_cons_succ]
  apply wpR_next 1 (some 59)
  · simp only [List.getElem?_toArray, List.getElem?_cons_succ, List.getElem?_cons_zero]; exact rfl
  · rfl
  · kernel_rfl
  · kernel_rfl
  · kernel_rfl
  · exact fun _ _ _ _ h => h
  apply Exists.intro
  apply And.intro
  · apply yr_run; rfl; intro w' hw'; go_simp; (try with_reducible rfl)
  simp only [Act.put, List.setIfInBounds_toArray, List.set_cons_zero, List.set_cons_succ]
  apply wpR_next 2 (some 60)
  · simp only [List.getElem?_toArray, List.getElem?_cons_succ, List.getElem?_cons_zero]; exact rfl
  · rfl
  · kernel_rfl
  · kernel_rfl
  · kernel_rfl
  · exact fun _ _ _ _ h => h
  apply Exists.intro
  apply And.intro
  · apply yr_run; rfl; intro w' hw'; go_simp; (try with_reducible rfl)
  simp only [Act.put, List.setIfInBounds_toArray, List.set_cons_zero, List.set_cons_succ]
  apply wpR_next 4 (some 62)
  · simp only [List.getElem?_toArray, List.getElem?_cons_succ, List.getElem?_cons_zero]; exact rfl
  · rfl
  · kernel_rfl
  · kernel_rfl
  · kernel_rfl
  · exact fun _ _ _ _ h => h
  apply Exists.intro
  apply And.intro
  · apply yr_run; rfl; intro w' hw'; go_simp; (try with_reducible rfl)
  simp only [Act.put, List.setIfInBounds_toArray, List.set_cons_zero, List.set_cons_succ]
  apply wpR_next 5 (some 63)
  · simp only [List.getElem?_toArray, List.getElem?_cons_succ, List.getElem?_cons_zero]; exact rfl
  · rfl
  · kernel_rfl
  · kernel_rfl
  · kernel_rfl
  · exact fun _ _ _ _ h => h
  apply Exists.intro
  apply And.intro
  · apply yr_run; rfl; intro w' hw'; go_simp; (try with_reducible rfl)
  simp only [Act.put, List.setIfInBounds_toArray, List.set_cons_zero, List.set_cons_succ]
  apply wpR_next 6 (some 64)
  · simp only [List.getElem?_toArray, List.getElem?_cons_succ, List.getElem?_cons_zero]; exact rfl
  · rfl
  · kernel_rfl
  · kernel_rfl
  · kernel_rfl
  · exact fun _ _ _ _ h => h
  apply Exists.intro
  apply And.intro
  · apply yr_run; rfl; intro w' hw'; go_simp; (try with_reducible rfl)
  simp only [Act.put, List.setIfInBounds_toArray, List.set_cons_zero, List.set_cons_succ]
  apply wpR_call 3 (some 61)
  · simp only [List.getElem?_toArray, List.getElem?_cons_succ, List.getElem?_cons_zero]; exact rfl
  · rfl
  · kernel_rfl
  · rfl
  · intro w'; go_simp; first | done | exact ⟨rfl, rfl⟩ | with_reducible rfl
  intro w' hw'
  refine (nt_doub w' (HW.out.below hw').nt Hs.out i HT.out).mono ?_
  rintro e w'' ⟨rfl, go1, A1, c1, es1, hN, hG⟩
  refine ⟨_, rfl, hG.k.wider (fun b _ q => by have := HLT.out b (.inl q); omega), ?_⟩
  have htw := (HW.out.below hw').nstep hN hG
  have HW2 := Lib.hid htw.1
  have HG2 := Lib.hid ((NtGo.below hw').trans htw.2)
  clear htw hN hG hw'
  obtain ⟨V2, gV2⟩ : ∃ z, w'' = z := ⟨_, rfl⟩
  rw [gV2] at HW2 HG2 ⊢
  clear gV2
  simp only [Act.put, List.setIfInBounds_toArray, List.set_cons_zero, List.set_cons_succ]
  apply wpR_call 7 (some 65)
  · simp only [List.getElem?_toArray, List.getElem?_cons_succ, List.getElem?_cons_zero]; exact rfl
  · rfl
  · kernel_rfl
  · rfl
  · intro w'; go_simp; first | done | exact ⟨rfl, rfl⟩ | with_reducible rfl
  intro w' hw'
  refine (yt_doub w' (HW2.out.below hw').yt Hs.out i HT3.out).mono ?_
  rintro e w'' ⟨rfl, A5, c5, es5, hY, hG⟩
  refine ⟨_, rfl, hG.k.wider (fun b _ q => by have := HLT.out b (.inr q); omega), ?_⟩
  have htw := (HW2.out.below hw').ystep hY hG
  have HW3 := Lib.hid htw.1
  have HG3 := Lib.hid (HG2.out.trans ((NtGo.below hw').trans htw.2))
  clear htw hY hG hw'
  obtain ⟨V3, gV3⟩ : ∃ z, w'' = z := ⟨_, rfl⟩
  rw [gV3] at HW3 HG3 ⊢
  clear gV3
  simp only [Act.put, List.setIfInBounds_toArray, List.set_cons_zero, List.set_cons_succ]
  apply wpR_next 8 (some 66)
  · simp only [List.getElem?_toArray, List.getElem?_cons_succ, List.getElem?_cons_zero]; exact rfl
  · rfl
  · kernel_rfl
  · kernel_rfl
  · kernel_rfl
  · exact fun _ _ _ _ h => h
  apply Exists.intro
  apply And.intro
  · apply yr_run; rfl; intro w' hw'; go_simp; (try with_reducible rfl)
  simp only [Act.put, List.setIfInBounds_toArray, List.set_cons_zero, List.set_cons_succ]
  apply wpR_next 9 (some 6)
  · simp only [List.getElem?_toArray, List.getElem?_cons_succ, List.getElem?_cons_zero]; exact rfl
  · rfl
  · kernel_rfl
  · kernel_rfl
  · kernel_rfl
  · exact fun _ _ _ _ h => h
  apply Exists.intro
  apply And.intro
  · apply yr_run; rfl; intro w' hw'; go_simp; (try with_reducible rfl)
  simp only [Act.put, List.setIfInBounds_toArray, List.set_cons_zero, List.set_cons_succ]
  refine wpR_done (by kernel_rfl) ?_ _
  intro W6 hw6
  have HW6 := Lib.hid (HW3.out.below hw6)
  have HG6 := Lib.hid ((NtGo.below HB0.out).trans (HG3.out.trans (NtGo.below hw6)))
  clear hw6 HW3 HG3 ld1
  go_wp2
  go_ret
  rw [HOP.out]
  exact ⟨rfl, go1, A1, c1, es1, A5, c5, es5, HW6.out, HG6.out⟩
set_option maxRecDepth 100000 in
set_option maxHeartbeats 4000000 in
theorem does_6 {B g t : Nat} {go : Option Nat} {A : Option Addr} {c : Nat} {es : List Sl} {y : Nat} {A' : Option Addr} {c' : Nat} {es' : List Sl} {s : NtS} (w : World) (h : TwIn B w g t go A c es y A' c' es' s s) (hs : NtOk s) (o : OpA) (hk : kd o.1.1 = 6) (ho : OpOk B w o) (hT : ∀ x ∈ s.2, x ≤ 100000) :
    Calls Try.prog 13 #[.pointer (some ⟨g, 0, none⟩), .pointer (some ⟨y, 0, none⟩), .agg (oC o).toArray] w fun e w' => e = .returned (.bool true) ∧ TwSt B g t y go A A' w (opN s o) (opN s o) w' := by
  obtain ⟨⟨k, i, a⟩, ⟨Af, nf, cf⟩, Fs⟩ := o
  have HOP : RowKit.Hid (opN s ((k, i, a), (Af, nf, cf), Fs) = turnN s i a) := Lib.hid (by
    unfold opN
    show (match kd k with | 3 => _ | 4 => _ | 5 => _ | 6 => _ | 7 => _ | _ => _) = _
    rw [show kd k = 6 from hk]
    rfl)
  have hkd : bits .and .i64 k 7 = 6 := by rw [(kd_is k).1, show kd k = 6 from hk]; rfl
  have hB := below1 w (.cells #[.int .i64 k, .int .i64 i, .int .i64 a, .slice Af nf cf] 40)
  have HX : RowKit.Hid (Whole (w.alloc (.cells #[.int .i64 k, .int .i64 i, .int .i64 a, .slice Af nf cf] 40)) w.heap.size 40 [.int .i64 k, .int .i64 i, .int .i64 a, .slice Af nf cf]) := Lib.hid (Whole.new_ _ _ [_, _, _, _])
  have HW := Lib.hid (h.below hB)
  have HO := Lib.hid (ho.below hB)
  have HB := Lib.hid hB
  have HLT : RowKit.Hid (∀ b, TwS g t go A y A' b → b < w.heap.size) := Lib.hid (fun b hb => (h.lt b hb).2)
  have Hs := Lib.hid hs
  have HT2 : RowKit.Hid (∀ x ∈ s.2, 0 ≤ x ∧ x ≤ 100000) := Lib.hid (nt_small h.nt.tal hT)
  have HT : RowKit.Hid (∀ x ∈ s.2, x ≤ 1000000) := Lib.hid (fun x hx => by have := hT x hx; omega)
  have HT3 : RowKit.Hid (∀ x ∈ s.2, 0 ≤ x ∧ x ≤ 1000000) := Lib.hid (fun x hx => by have := HT2.out x hx; omega)
  clear h ho hs hT hB hk
  unfold oC
  go_enter Try.func13, Try.ntmps13
  go_upto_region 1 with fail
  obtain ⟨W1, gW1⟩ : ∃ z, w.alloc (.cells #[.int .i64 k, .int .i64 i, .int .i64 a, .slice Af nf cf] 40) = z := ⟨_, rfl⟩
  obtain ⟨b5, gb5⟩ : ∃ z, w.heap.size = z := ⟨_, rfl⟩
  have HG0 : RowKit.Hid (w.heap.size = b5) := Lib.hid gb5
  rw [gW1] at HX HW HO HB ⊢
  rw [gb5] at HX HLT ⊢
  have HG1 : RowKit.Hid (b5 < W1.heap.size) := Lib.hid HX.out.lt
  clear gW1 gb5
  have l0 := HX.out.cell (i := 0) rfl
  have ld1 : ∀ w', Kept (fun b => b ≠ b5) W1.drew w' → w'.cell? ⟨b5, 1, none⟩ = some (.int .i64 i) := fun w' hk => hk.cell (HX.out.drew.cell (i := 1) rfl) (fun q => q rfl)
  have ld2 : ∀ w', Kept (fun b => b ≠ b5) W1.drew w' → w'.cell? ⟨b5, 2, none⟩ = some (.int .i64 a) := fun w' hk => hk.cell (HX.out.drew.cell (i := 2) rfl) (fun q => q rfl)
  obtain ⟨er, ger⟩ : ∃ z, turnE s i a = z := ⟨_, rfl⟩
  have GER := Lib.hid ger
  clear ger
  have HW0 := Lib.hid (HW.out.below ((Below.refl W1.heap.size W1).drew))
  have HB0 : RowKit.Hid (Below w.heap.size w W1.drew) := Lib.hid HB.out.drew
  clear HW HB
  have HW := HW0
  go_upto_region 12 with fail
  clear hkd l0
  refine wp_region_reg (fun b => b ≠ b5) (by kernel_rfl) ?_
  apply wpR_next 0 (some 69)
  · simp only [List.getElem?_toArray, List.getElem?_cons_succ, List.getElem?_cons_zero]; exact rfl
  · rfl
  · kernel_rfl
  · kernel_rfl
  · kernel_rfl
  · exact fun _ _ _ _ h => h
  apply Exists.intro
  apply And.intro
  · apply yr_run; rfl; intro w' hw'; go_simp; (try with_reducible rfl)
  simp only [Act.put, List.setIfInBounds_toArray, List.set_cons_zero, List.set_cons_succ]
  apply wpR_next 1 (some 70)
  · simp only [List.getElem?_toArray, List.getElem?_cons_succ, List.getElem?_cons_zero]; exact rfl
  · rfl
  · kernel_rfl
  · kernel_rfl
  · kernel_rfl
  · exact fun _ _ _ _ h => h
  apply Exists.intro
  apply And.intro
  · apply yr_run; rfl; intro w' hw'; go_simp; (try with_reducible rfl)
  simp only [Act.put, List.setIfInBounds_toArray, List.set_cons_zero, List.set_cons_succ]
  apply wpR_next 2 (some 71)
  · simp only [List.getElem?_toArray, List.getElem?_cons_succ, List.getElem?_cons_zero]; exact rfl
  · rfl
  · kernel_rfl
  · kernel_rfl
  · kernel_rfl
  · exact fun _ _ _ _ h => h
  apply Exists.intro
  apply And.intro
  · apply yr_run; rfl; intro w' hw'; go_simp; (try with_reducible rfl)
  simp only [Act.put, List.setIfInBounds_toArray, List.set_cons_zero, List.set_cons_succ]
  apply wpR_next 3 (some 72)
  · simp only [List.getElem?_toArray, List.getElem?_cons_succ, List.getElem?_cons_zero]; exact rfl
  · rfl
  · kernel_rfl
  · kernel_rfl
  · kernel_rfl
  · exact fun _ _ _ _ h => h
  apply Exists.intro
  apply And.intro
  · apply yr_run; rfl; intro w' hw'; go_simp; (try with_reducible rfl)
  simp only [Act.put, List.setIfInBounds_toArray, List.set_cons_zero, List.set_cons_succ]
  apply wpR_next 4 (some 73)
  · simp only [List.getElem?_toArray, List.getElem?_cons_succ, List.getElem?_cons_zero]; exact rfl
  · rfl
  · kernel_rfl
  · kernel_rfl
  · kernel_rfl
  · exact fun _ _ _ _ h => h
  apply Exists.intro
  apply And.intro
  · apply yr_run; rfl; intro w' hw'; go_simp; (try with_reducible rfl)
  simp only [Act.put, List.setIfInBounds_toArray, List.set_cons_zero, List.set_cons_succ]
  apply wpR_next 6 (some 75)
  · simp only [List.getElem?_toArray, List.getElem?_cons_succ, List.getElem?_cons_zero]; exact rfl
  · rfl
  · kernel_rfl
  · kernel_rfl
  · kernel_rfl
  · exact fun _ _ _ _ h => h
  apply Exists.intro
  apply And.intro
  · apply yr_run; rfl; intro w' hw'; go_simp; (try with_reducible rfl)
  simp only [Act.put, List.setIfInBounds_toArray, List.set_cons_zero, List.set_cons_succ]
  apply wpR_next 7 (some 76)
  · simp only [List.getElem?_toArray, List.getElem?_cons_succ, List.getElem?_cons_zero]; exact rfl
  · rfl
  · kernel_rfl
  · kernel_rfl
  · kernel_rfl
  · exact fun _ _ _ _ h => h
  apply Exists.intro
  apply And.intro
  · apply yr_run; rfl; intro w' hw'; go_simp; (try with_reducible rfl)
  simp only [Act.put, List.setIfInBounds_toArray, List.set_cons_zero, List.set_cons_succ]
  apply wpR_next 8 (some 77)
  · simp only [List.getElem?_toArray, List.getElem?_cons_succ, List.getElem?_cons_zero]; exact rfl
  · rfl
  · kernel_rfl
  · kernel_rfl
  · kernel_rfl
  · exact fun _ _ _ _ h => h
  apply Exists.intro
  apply And.intro
  · apply yr_run; rfl; intro w' hw'; go_simp; (try with_reducible rfl)
  simp only [Act.put, List.setIfInBounds_toArray, List.set_cons_zero, List.set_cons_succ]
  apply wpR_next 9 (some 78)
  · simp only [List.getElem?_toArray, List.getElem?_cons_succ, List.getElem?_cons_zero]; exact rfl
  · rfl
  · kernel_rfl
  · kernel_rfl
  · kernel_rfl
  · exact fun _ _ _ _ h => h
  apply Exists.intro
  apply And.intro
  · apply yr_run; rfl; intro w' hw'; go_simp; (try with_reducible rfl)
  simp only [Act.put, List.setIfInBounds_toArray, List.set_cons_zero, List.set_cons_succ]
  apply wpR_next 10 (some 79)
  · simp only [List.getElem?_toArray, List.getElem?_cons_succ, List.getElem?_cons_zero]; exact rfl
  · rfl
  · kernel_rfl
  · kernel_rfl
  · kernel_rfl
  · exact fun _ _ _ _ h => h
  apply Exists.intro
  apply And.intro
  · apply yr_run; rfl; intro w' hw'; go_simp; (try with_reducible rfl)
  simp only [Act.put, List.setIfInBounds_toArray, List.set_cons_zero, List.set_cons_succ]
  apply wpR_call 5 (some 74)
  · simp only [List.getElem?_toArray, List.getElem?_cons_succ, List.getElem?_cons_zero]; exact rfl
  · rfl
  · kernel_rfl
  · rfl
  · intro w'; go_simp; first | done | exact ⟨rfl, rfl⟩ | with_reducible rfl
  intro w' hw'
  refine (nt_turn w' (HW.out.below hw').nt Hs.out i a).mono ?_
  rintro e w'' ⟨rfl, go1, A1, c1, es1, hN, hG⟩
  refine ⟨_, rfl, hG.k.wider (fun b _ q => by have := HLT.out b (.inl q); omega), ?_⟩
  have htw := (HW.out.below hw').nstep hN hG
  have HW2 := Lib.hid htw.1
  have HG2 := Lib.hid ((NtGo.below hw').trans htw.2)
  clear htw hN hG hw'
  obtain ⟨V2, gV2⟩ : ∃ z, w'' = z := ⟨_, rfl⟩
  rw [gV2] at HW2 HG2 ⊢
  clear gV2
  simp only [Act.put, List.setIfInBounds_toArray, List.set_cons_zero, List.set_cons_succ]
  apply wpR_call 11 (some 80)
  · simp only [List.getElem?_toArray, List.getElem?_cons_succ, List.getElem?_cons_zero]; exact rfl
  · rfl
  · kernel_rfl
  · rfl
  · intro w'; go_simp; first | done | exact ⟨rfl, rfl⟩ | with_reducible rfl
  intro w' hw'
  refine (yt_turn w' (HW2.out.below hw').yt Hs.out i a).mono ?_
  rintro e w'' ⟨rfl, A5, c5, es5, hY, hG⟩
  refine ⟨_, rfl, hG.k.wider (fun b _ q => by have := HLT.out b (.inr q); omega), ?_⟩
  have htw := (HW2.out.below hw').ystep hY hG
  have HW3 := Lib.hid htw.1
  have HG3 := Lib.hid (HG2.out.trans ((NtGo.below hw').trans htw.2))
  clear htw hY hG hw'
  obtain ⟨V3, gV3⟩ : ∃ z, w'' = z := ⟨_, rfl⟩
  rw [gV3] at HW3 HG3 ⊢
  clear gV3
  simp only [Act.put, List.setIfInBounds_toArray, List.set_cons_zero, List.set_cons_succ]
  apply wpR_next 12 (some 81)
  · simp only [List.getElem?_toArray, List.getElem?_cons_succ, List.getElem?_cons_zero]; exact rfl
  · rfl
  · kernel_rfl
  · kernel_rfl
  · kernel_rfl
  · exact fun _ _ _ _ h => h
  apply Exists.intro
  apply And.intro
  · apply yr_run; rfl; intro w' hw'; go_simp; (try with_reducible rfl)
  simp only [Act.put, List.setIfInBounds_toArray, List.set_cons_zero, List.set_cons_succ]
  apply wpR_next 13 (some 6)
  · simp only [List.getElem?_toArray, List.getElem?_cons_succ, List.getElem?_cons_zero]; exact rfl
  · rfl
  · kernel_rfl
  · kernel_rfl
  · kernel_rfl
  · exact fun _ _ _ _ h => h
  apply Exists.intro
  apply And.intro
  · apply yr_run; rfl; intro w' hw'; go_simp; (try with_reducible rfl)
  simp only [Act.put, List.setIfInBounds_toArray, List.set_cons_zero, List.set_cons_succ]
  refine wpR_done (by kernel_rfl) ?_ _
  intro W6 hw6
  have HW6 := Lib.hid (HW3.out.below hw6)
  have HG6 := Lib.hid ((NtGo.below HB0.out).trans (HG3.out.trans (NtGo.below hw6)))
  clear hw6 HW3 HG3 ld1 ld2
  go_wp2
  go_ret
  rw [HOP.out]
  exact ⟨rfl, go1, A1, c1, es1, A5, c5, es5, HW6.out, HG6.out⟩
end Go.Proofs.Ytibbibpfnpjjdaa

/- A call of both: Send. -/
namespace Go.Proofs.Ytibbibpfnpjjdaa
open Go.RowKit
set_option linter.unusedSimpArgs false
set_option linter.unusedVariables false

set_option maxRecDepth 100000 in
set_option maxHeartbeats 4000000 in
theorem does_0 {B g t : Nat} {go : Option Nat} {A : Option Addr} {c : Nat} {es : List Sl} {y : Nat} {A' : Option Addr} {c' : Nat} {es' : List Sl} {s : NtS} (w : World) (h : TwIn B w g t go A c es y A' c' es' s s) (hs : NtOk s) (o : OpA) (hk : kd o.1.1 ≤ 2) (ho : OpOk B w o) (hT : ∀ x ∈ s.2, x ≤ 100000) :
    Calls Try.prog 13 #[.pointer (some ⟨g, 0, none⟩), .pointer (some ⟨y, 0, none⟩), .agg (oC o).toArray] w fun e w' => e = .returned (.bool true) ∧ TwSt B g t y go A A' w (opN s o) (opN s o) w' := by
  obtain ⟨⟨k, i, a⟩, ⟨Af, nf, cf⟩, Fs⟩ := o
  have HOP : RowKit.Hid (opN s ((k, i, a), (Af, nf, cf), Fs) = sendN s (keyF (fewF Fs))) := Lib.hid (by
    unfold opN
    show (match kd k with | 3 => _ | 4 => _ | 5 => _ | 6 => _ | 7 => _ | _ => _) = _
    have h1 : kd k ≤ 2 := hk
    have h2 : kd k = 0 ∨ kd k = 1 ∨ kd k = 2 := by omega
    rcases h2 with e | e | e <;> · rw [e]; rfl)
  obtain ⟨kz, gkz⟩ : ∃ z : Int, bits .and .i64 k 7 = z := ⟨_, rfl⟩
  have hkz : (kz == 3) = false ∧ (kz == 4) = false ∧ (kz == 5) = false ∧ (kz == 6) = false ∧ (kz == 7) = false := by
    have h1 : kd k ≤ 2 := hk
    have h2 : kz = (kd k : Int) := gkz ▸ (kd_is k).1
    simp only [beq_eq_false_iff_ne, ne_eq]
    omega
  obtain ⟨q3, q4, q5, q6, q7⟩ := hkz
  have hB := below1 w (.cells #[.int .i64 k, .int .i64 i, .int .i64 a, .slice Af nf cf] 40)
  have HX : RowKit.Hid (Whole (w.alloc (.cells #[.int .i64 k, .int .i64 i, .int .i64 a, .slice Af nf cf] 40)) w.heap.size 40 [.int .i64 k, .int .i64 i, .int .i64 a, .slice Af nf cf]) := Lib.hid (Whole.new_ _ _ [_, _, _, _])
  have HW := Lib.hid (h.below hB)
  have HO := Lib.hid (ho.below hB)
  have HB := Lib.hid hB
  have HLT : RowKit.Hid (∀ b, TwS g t go A y A' b → b < w.heap.size) := Lib.hid (fun b hb => (h.lt b hb).2)
  have Hs := Lib.hid hs
  have HT2 : RowKit.Hid (∀ x ∈ s.2, 0 ≤ x ∧ x ≤ 100000) := Lib.hid (nt_small h.nt.tal hT)
  have HT : RowKit.Hid (∀ x ∈ s.2, x ≤ 1000000) := Lib.hid (fun x hx => by have := hT x hx; omega)
  have HT3 : RowKit.Hid (∀ x ∈ s.2, 0 ≤ x ∧ x ≤ 1000000) := Lib.hid (fun x hx => by have := HT2.out x hx; omega)
  clear h ho hs hT hB hk
  unfold oC
  go_enter Try.func13, Try.ntmps13
  go_upto_region 1 with fail
  obtain ⟨W1, gW1⟩ : ∃ z, w.alloc (.cells #[.int .i64 k, .int .i64 i, .int .i64 a, .slice Af nf cf] 40) = z := ⟨_, rfl⟩
  obtain ⟨b5, gb5⟩ : ∃ z, w.heap.size = z := ⟨_, rfl⟩
  have HG0 : RowKit.Hid (w.heap.size = b5) := Lib.hid gb5
  rw [gW1] at HX HW HO HB ⊢
  rw [gb5] at HX HLT ⊢
  have HG1 : RowKit.Hid (b5 < W1.heap.size) := Lib.hid HX.out.lt
  clear gW1 gb5
  have l0 := HX.out.cell (i := 0) rfl
  have ld3 : ∀ w', Kept (fun b => b ≠ b5) W1.drew w' → w'.cell? ⟨b5, 3, none⟩ = some (.slice Af nf cf) := fun w' hk => hk.cell (HX.out.drew.cell (i := 3) rfl) (fun q => q rfl)
  have HW0 := Lib.hid (HW.out.below ((Below.refl W1.heap.size W1).drew))
  have HB0 : RowKit.Hid (Below w.heap.size w W1.drew) := Lib.hid HB.out.drew
  have HO0 := Lib.hid (HO.out.below ((Below.refl W1.heap.size W1).drew))
  have HOf : RowKit.Hid (∀ w', Kept (TwS g t go A y A') W1.drew w' → OpOk B w' ((k, i, a), (Af, nf, cf), Fs)) := Lib.hid (fun w' hk => HO0.out.kept hk (fun b hb => (HW0.out.lt b hb).1))
  clear HW HB HO
  have HW := HW0
  have HO := HO0
  skip
  go_upto_region 18 with fail
  clear q3 q4 q5 q6 q7 l0
  refine wp_region_reg (fun b => b ≠ b5) (by kernel_rfl) ?_
  apply wpR_next 0 (some 107)
  · simp only [List.getElem?_toArray, List.getElem?_cons_succ, List.getElem?_cons_zero]; exact rfl
  · rfl
  · kernel_rfl
  · kernel_rfl
  · kernel_rfl
  · exact fun _ _ _ _ h => h
  apply Exists.intro
  apply And.intro
  · apply yr_run; rfl; intro w' hw'; go_simp; (try with_reducible rfl)
  simp only [Act.put, List.setIfInBounds_toArray, List.set_cons_zero, List.set_cons_succ]
  apply wpR_next 1 (some 108)
  · simp only [List.getElem?_toArray, List.getElem?_cons_succ, List.getElem?_cons_zero]; exact rfl
  · rfl
  · kernel_rfl
  · kernel_rfl
  · kernel_rfl
  · exact fun _ _ _ _ h => h
  apply Exists.intro
  apply And.intro
  · apply yr_run; rfl; intro w' hw'; go_simp; (try with_reducible rfl)
  simp only [Act.put, List.setIfInBounds_toArray, List.set_cons_zero, List.set_cons_succ]
  apply wpR_next 2 (some 109)
  · simp only [List.getElem?_toArray, List.getElem?_cons_succ, List.getElem?_cons_zero]; exact rfl
  · rfl
  · kernel_rfl
  · kernel_rfl
  · kernel_rfl
  · exact fun _ _ _ _ h => h
  apply Exists.intro
  apply And.intro
  · apply yr_run; rfl; intro w' hw'; go_simp; (try with_reducible rfl)
  simp only [Act.put, List.setIfInBounds_toArray, List.set_cons_zero, List.set_cons_succ]
  apply wpR_next 5 (some 112)
  · simp only [List.getElem?_toArray, List.getElem?_cons_succ, List.getElem?_cons_zero]; exact rfl
  · rfl
  · kernel_rfl
  · kernel_rfl
  · kernel_rfl
  · exact fun _ _ _ _ h => h
  apply Exists.intro
  apply And.intro
  · apply yr_run; rfl; intro w' hw'; go_simp; (try with_reducible rfl)
  simp only [Act.put, List.setIfInBounds_toArray, List.set_cons_zero, List.set_cons_succ]
  apply wpR_next 6 (some 113)
  · simp only [List.getElem?_toArray, List.getElem?_cons_succ, List.getElem?_cons_zero]; exact rfl
  · rfl
  · kernel_rfl
  · kernel_rfl
  · kernel_rfl
  · exact fun _ _ _ _ h => h
  apply Exists.intro
  apply And.intro
  · apply yr_run; rfl; intro w' hw'; go_simp; (try with_reducible rfl)
  simp only [Act.put, List.setIfInBounds_toArray, List.set_cons_zero, List.set_cons_succ]
  apply wpR_next 7 (some 114)
  · simp only [List.getElem?_toArray, List.getElem?_cons_succ, List.getElem?_cons_zero]; exact rfl
  · rfl
  · kernel_rfl
  · kernel_rfl
  · kernel_rfl
  · exact fun _ _ _ _ h => h
  apply Exists.intro
  apply And.intro
  · apply yr_run; rfl; intro w' hw'; go_simp; (try with_reducible rfl)
  simp only [Act.put, List.setIfInBounds_toArray, List.set_cons_zero, List.set_cons_succ]
  apply wpR_call 3 (some 110)
  · simp only [List.getElem?_toArray, List.getElem?_cons_succ, List.getElem?_cons_zero]; exact rfl
  · rfl
  · kernel_rfl
  · rfl
  · intro w'; go_simp; first | done | exact ⟨rfl, rfl⟩ | with_reducible rfl
  intro w' hw'
  refine (few_op (HO.out.below hw')).mono ?_
  rintro e w'' ⟨A3, n3, c3, rfl, hn3, hf3, hS3, hb3⟩
  refine ⟨_, rfl, Kept.of_below hb3, ?_⟩
  have HWf := Lib.hid ((HW.out.below hw').below hb3)
  have HGf := Lib.hid (NtGo.below (S := TwS g t go A y A') (Ext.trans hw' hb3))
  have Hf3 := Lib.hid hf3
  have HS3 := Lib.hid (hS3 (NtT g t go (wayB A)) (fun b hb => (HW.out.below hw').nt.lt b hb))
  clear hf3 hS3 hb3 hw'
  obtain ⟨V1, gV1⟩ : ∃ z, w'' = z := ⟨_, rfl⟩
  rw [gV1] at HWf HGf Hf3 ⊢
  clear gV1
  simp only [Act.put, List.setIfInBounds_toArray, List.set_cons_zero, List.set_cons_succ]
  apply wpR_call 4 (some 111)
  · simp only [List.getElem?_toArray, List.getElem?_cons_succ, List.getElem?_cons_zero]; exact rfl
  · rfl
  · kernel_rfl
  · rfl
  · intro w'; go_simp; first | done | exact ⟨rfl, rfl⟩ | with_reducible rfl
  intro w' hw'
  refine (nt_send w' (HWf.out.below hw').nt Hs.out A3 n3 c3 _ (Hf3.out.below hw') (by omega) HS3.out (fun x hx => (HT2.out x hx).2)).mono ?_
  rintro e w'' ⟨rfl, go1, A1, c1, es1, hN, hG⟩
  refine ⟨_, rfl, hG.k.wider (fun b _ q => by have := HLT.out b (.inl q); omega), ?_⟩
  have htw := (HWf.out.below hw').nstep hN hG
  have HW2 := Lib.hid htw.1
  have HG2 := Lib.hid (HGf.out.trans ((NtGo.below hw').trans htw.2))
  clear htw hN hG hw'
  obtain ⟨V2, gV2⟩ : ∃ z, w'' = z := ⟨_, rfl⟩
  rw [gV2] at HW2 HG2 ⊢
  clear gV2
  simp only [Act.put, List.setIfInBounds_toArray, List.set_cons_zero, List.set_cons_succ]
  apply wpR_call 8 (some 115)
  · simp only [List.getElem?_toArray, List.getElem?_cons_succ, List.getElem?_cons_zero]; exact rfl
  · rfl
  · kernel_rfl
  · rfl
  · intro w'; go_simp; first | done | exact ⟨rfl, rfl⟩ | with_reducible rfl
  intro w' hw'
  refine (few_op (HOf.out w' ((HG2.out.trans (NtGo.below (S := TwS g t go1 A1 y A') hw')).k))).mono ?_
  rintro e w'' ⟨A4, n4, c4, rfl, hn4, hf4, hS4, hb4⟩
  refine ⟨_, rfl, Kept.of_below hb4, ?_⟩
  have HWg := Lib.hid ((HW2.out.below hw').below hb4)
  have HGg := Lib.hid (HG2.out.trans (NtGo.below (S := TwS g t go1 A1 y A') (Ext.trans hw' hb4)))
  have Hf4 := Lib.hid hf4
  have HS4 := Lib.hid (hS4 (YtT y A') (fun b hb => (HW2.out.below hw').yt.lt b hb))
  clear hf4 hS4 hb4 hw'
  obtain ⟨V4, gV4⟩ : ∃ z, w'' = z := ⟨_, rfl⟩
  rw [gV4] at HWg HGg Hf4 ⊢
  clear gV4
  simp only [Act.put, List.setIfInBounds_toArray, List.set_cons_zero, List.set_cons_succ]
  apply wpR_call 9 (some 116)
  · simp only [List.getElem?_toArray, List.getElem?_cons_succ, List.getElem?_cons_zero]; exact rfl
  · rfl
  · kernel_rfl
  · rfl
  · intro w'; go_simp; first | done | exact ⟨rfl, rfl⟩ | with_reducible rfl
  intro w' hw'
  refine (yt_send w' (HWg.out.below hw').yt Hs.out A4 n4 c4 _ (Hf4.out.below hw') (by omega) HS4.out HT2.out).mono ?_
  rintro e w'' ⟨rfl, A5, c5, es5, hY, hG⟩
  refine ⟨_, rfl, hG.k.wider (fun b _ q => by have := HLT.out b (.inr q); omega), ?_⟩
  have htw := (HWg.out.below hw').ystep hY hG
  have HW3 := Lib.hid htw.1
  have HG3 := Lib.hid (HGg.out.trans ((NtGo.below hw').trans htw.2))
  clear htw hY hG hw'
  obtain ⟨V3, gV3⟩ : ∃ z, w'' = z := ⟨_, rfl⟩
  rw [gV3] at HW3 HG3 ⊢
  clear gV3
  simp only [Act.put, List.setIfInBounds_toArray, List.set_cons_zero, List.set_cons_succ]
  apply wpR_next 10 (some 117)
  · simp only [List.getElem?_toArray, List.getElem?_cons_succ, List.getElem?_cons_zero]; exact rfl
  · rfl
  · kernel_rfl
  · kernel_rfl
  · kernel_rfl
  · exact fun _ _ _ _ h => h
  apply Exists.intro
  apply And.intro
  · apply yr_run; rfl; intro w' hw'; go_simp; (try with_reducible rfl)
  simp only [Act.put, List.setIfInBounds_toArray, List.set_cons_zero, List.set_cons_succ]
  apply wpR_next 11 (some 6)
  · simp only [List.getElem?_toArray, List.getElem?_cons_succ, List.getElem?_cons_zero]; exact rfl
  · rfl
  · kernel_rfl
  · kernel_rfl
  · kernel_rfl
  · exact fun _ _ _ _ h => h
  apply Exists.intro
  apply And.intro
  · apply yr_run; rfl; intro w' hw'; go_simp; (try with_reducible rfl)
  simp only [Act.put, List.setIfInBounds_toArray, List.set_cons_zero, List.set_cons_succ]
  refine wpR_done (by kernel_rfl) ?_ _
  intro W6 hw6
  have HW6 := Lib.hid (HW3.out.below hw6)
  have HG6 := Lib.hid ((NtGo.below HB0.out).trans (HG3.out.trans (NtGo.below hw6)))
  clear hw6 HW3 HG3 ld3
  go_wp2
  go_ret
  rw [HOP.out]
  exact ⟨rfl, go1, A1, c1, es1, A5, c5, es5, HW6.out, HG6.out⟩
end Go.Proofs.Ytibbibpfnpjjdaa

/- A call of both. -/
namespace Go.Proofs.Ytibbibpfnpjjdaa
open Go.RowKit
set_option linter.unusedSimpArgs false
set_option linter.unusedVariables false

theorem OpOk.bytes {B : Nat} {w : World} {o : OpA} (h : OpOk B w o) : ∀ f ∈ keyF (fewF o.2.2), ∀ b ∈ f.2, b < 256 := fun f hf b hb => by
  obtain ⟨x, hx, rfl⟩ := List.mem_map.1 hf
  obtain ⟨z, hz, rfl⟩ := List.mem_map.1 hx
  exact (h.fs.each z (List.mem_of_mem_take hz)).bytes b (List.mem_of_mem_take hb)
theorem opN_ok {s : NtS} {o : OpA} (h : NtOk s) (hb : ∀ f ∈ keyF (fewF o.2.2), ∀ b ∈ f.2, b < 256) : NtOk (opN s o) := by
  unfold opN
  split
  · exact h.deliv _
  · exact h.drop _
  · exact h.doub _
  · exact h.turn _ _
  · exact h
  · exact NtOk.sends _ _ h hb
theorem bump_le {T : List Int} {k : Nat} {M : Int} (h : ∀ x ∈ T, x ≤ M) (h0 : 0 ≤ M) : ∀ x ∈ bump T k, x ≤ M + 1 := fun x hx => by
  rcases List.mem_or_eq_of_mem_set hx with hx | rfl
  · have := h x hx; omega
  · have := bump_small (k := k) h h0; omega
theorem opN_small {s : NtS} {o : OpA} {M : Int} (h : ∀ x ∈ s.2, x ≤ M) (h0 : 0 ≤ M) : ∀ x ∈ (opN s o).2, x ≤ M + 6 := by
  have hs : ∀ x ∈ s.2, x ≤ M + 6 := fun x hx => by have := h x hx; omega
  have hb : ∀ k, ∀ x ∈ bump s.2 k, x ≤ M + 6 := fun k x hx => by have := bump_le (k := k) h h0 x hx; omega
  unfold opN
  split
  · unfold delivN; split
    · exact hb _
    · exact hs
  · unfold dropN; split
    · exact hb _
    · exact hs
  · unfold doubN; split
    · exact hb _
    · exact hs
  · unfold turnN; split <;> exact hs
  · exact hs
  · intro x hx
    have h1 := sendN_small _ _ _ h h0 x hx
    have h2 : (keyF (fewF o.2.2)).length ≤ 6 := by unfold keyF; rw [List.length_map]; exact fewF_len _
    omega
theorem does_any {B g t : Nat} {go : Option Nat} {A : Option Addr} {c : Nat} {es : List Sl} {y : Nat} {A' : Option Addr} {c' : Nat} {es' : List Sl} {s : NtS} (w : World) (h : TwIn B w g t go A c es y A' c' es' s s) (hs : NtOk s) (o : OpA) (ho : OpOk B w o) (hT : ∀ x ∈ s.2, x ≤ 100000) :
    Calls Try.prog 13 #[.pointer (some ⟨g, 0, none⟩), .pointer (some ⟨y, 0, none⟩), .agg (oC o).toArray] w fun e w' => e = .returned (.bool true) ∧ TwSt B g t y go A A' w (opN s o) (opN s o) w' := by
  have h7 := (kd_is o.1.1).2
  rcases Nat.lt_or_ge (kd o.1.1) 3 with hk | hk
  · exact does_0 w h hs o (by omega) ho hT
  · have : kd o.1.1 = 3 ∨ kd o.1.1 = 4 ∨ kd o.1.1 = 5 ∨ kd o.1.1 = 6 ∨ kd o.1.1 = 7 := by omega
    rcases this with e | e | e | e | e
    · exact does_3 w h hs o e ho hT
    · exact does_4 w h hs o e ho hT
    · exact does_5 w h hs o e ho hT
    · exact does_6 w h hs o e ho hT
    · exact does_7 w h hs o e ho hT
theorem NtIn.new {w w' : World} {g t : Nat} (h1 : Whole w' g 58 (ntC none 0 0 t)) (h2 : Tl w' t none (List.replicate 6 0)) (h3 : w.heap.size ≤ g) (h4 : w.heap.size ≤ t) : NtIn w.heap.size w' g t none none 0 [] zeroN :=
  ⟨h1, h3, h4, fun x hx => (by cases hx), World.ownsRow_nil _ _ _ _, h2, Byts.nil _⟩
theorem NtIn.lo_ {B B' : Nat} {w : World} {g t : Nat} {go : Option Nat} {A : Option Addr} {c : Nat} {es : List Sl} {s : NtS} (h : NtIn B w g t go A c es s) (hB : B' ≤ B) : NtIn B' w g t go A c es s :=
  ⟨h.box, Nat.le_trans hB h.lo, Nat.le_trans hB h.tlo, fun x hx => Nat.le_trans hB (h.golo x hx), own_lo h.own hB, h.tal, h.each⟩
theorem YtIn.new {B : Nat} {w : World} {y : Nat} (h : Whole w y 30 (ytC none 0 0 [0, 0, 0, 0, 0, 0])) (hB : B ≤ y) : YtIn B w y none 0 [] zeroN := ⟨h, hB, World.ownsRow_nil _ _ _ _, Byts.nil _⟩
/-- One frame of no bytes, made by the law. -/
def f1 : FrT := ⟨4, 0, 1, 0, 0, 0⟩
theorem one_in {w : World} {b : Nat} (h : Whole w b 34 (frCells f1 none 0 0)) : FesIn w (some ⟨b, 0, none⟩) 1 1 [((f1, []), (none, 0))] := by
  have hr : RdS w w.heap.size 7 (some ⟨b, 0, none⟩) 1 1 (rowsV feC [((f1, []), (none, 0))]) := RdS.of_whole h rfl
  exact ⟨hr, fun x hx => by rw [List.mem_singleton.1 hx]; exact ⟨rds_nil _ _ _, fun b hb => (by cases hb)⟩⟩
theorem one_far {S : Nat → Prop} {b : Nat} (h : ¬ S b) : FesFar S (some ⟨b, 0, none⟩) 1 [((f1, []), (none, 0))] :=
  ⟨fun a ha _ => by obtain rfl := Option.some.inj ha; exact h, fun x hx a ha _ => by rw [List.mem_singleton.1 hx] at ha; cases ha⟩
end Go.Proofs.Ytibbibpfnpjjdaa

/- A bit turned is told: in numbers. -/
namespace Go.Proofs.Ytibbibpfnpjjdaa
open Go.RowKit
set_option linter.unusedSimpArgs false
set_option linter.unusedVariables false

theorem xor_zero_eq {x y : Nat} (h : x ^^^ y = 0) : x = y := by
  have : x ^^^ (x ^^^ y) = y := by rw [← Nat.xor_assoc, Nat.xor_self, Nat.zero_xor]
  rw [h, Nat.xor_zero] at this
  exact this
theorem crcBits_inj {k x y : Nat} (hx : x < 4294967296) (hy : y < 4294967296) (h : crcBits k x = crcBits k y) : x = y := by
  have h1 : crcBits k (x ^^^ y) = 0 := by rw [crcBits_xor, h, Nat.xor_self]
  exact xor_zero_eq (crcBits_zero (Nat.xor_lt_two_pow (n := 32) (by omega) (by omega)) h1)
theorem crcL_inj {C : List Nat} : ∀ {r s : Nat}, r < 4294967296 → s < 4294967296 → (∀ b ∈ C, b < 256) → crcL r C = crcL s C → r = s := by
  induction C with
  | nil => intro r s _ _ _ h; exact h
  | cons b C ih =>
    intro r s hr hs hb h
    have hb0 : b < 256 := hb b (by simp)
    have h1 := ih (crcByte_lt hr hb0) (crcByte_lt hs hb0) (fun c hc => hb c (by simp [hc])) h
    have h2 := crcBits_inj (Nat.xor_lt_two_pow (n := 32) (by omega) (by omega)) (Nat.xor_lt_two_pow (n := 32) (by omega) (by omega)) h1
    have h3 : (r ^^^ b) ^^^ (s ^^^ b) = 0 := by rw [h2, Nat.xor_self]
    rw [xor4, Nat.xor_self, Nat.xor_zero] at h3
    exact xor_zero_eq h3
theorem crc_set {A C : List Nat} {b b' : Nat} (hA : ∀ x ∈ A, x < 256) (hC : ∀ x ∈ C, x < 256) (hb : b < 256) (hb' : b' < 256) (h : crc (A ++ b :: C) = crc (A ++ b' :: C)) : b = b' := by
  unfold crc at h
  have h0 : crcL 4294967295 (A ++ b :: C) = crcL 4294967295 (A ++ b' :: C) := by
    have e : ∀ x : Nat, (x ^^^ 4294967295) ^^^ 4294967295 = x := fun x => by rw [Nat.xor_assoc, Nat.xor_self, Nat.xor_zero]
    rw [← e (crcL 4294967295 (A ++ b :: C)), h, e]
  simp only [crcL, List.foldl_append, List.foldl_cons] at h0
  have hr : crcL 4294967295 A < 4294967296 := crcL_lt (by omega) hA
  have h1 : crcL (crcByte (crcL 4294967295 A) b) C = crcL (crcByte (crcL 4294967295 A) b') C := h0
  have h2 := crcL_inj (crcByte_lt hr hb) (crcByte_lt hr hb') hC h1
  have h3 := crcBits_inj (Nat.xor_lt_two_pow (n := 32) (by omega) (by omega)) (Nat.xor_lt_two_pow (n := 32) (by omega) (by omega)) h2
  have h4 : (crcL 4294967295 A ^^^ b) ^^^ (crcL 4294967295 A ^^^ b') = 0 := by rw [h3, Nat.xor_self]
  rw [xor4, Nat.xor_self, Nat.zero_xor] at h4
  exact xor_zero_eq h4
theorem le4_inj {x y : Nat} (hx : x < 4294967296) (hy : y < 4294967296) (h : le4 x = le4 y) : x = y := by
  simp only [le4, List.cons.injEq] at h
  omega
theorem seal_flip {P : List Nat} {i b' : Nat} (hP : ∀ b ∈ P, b < 256) (h4 : 4 ≤ P.length) (hs : sealB P = true) (hi : i < P.length) (hb : b' < 256) (hne : b' ≠ P[i]) : sealB (P.set i b') = false := by
  unfold sealB at hs ⊢
  rw [List.length_set]
  have hs := of_decide_eq_true hs
  refine decide_eq_false fun h => hne ?_
  obtain ⟨m, gm⟩ : ∃ m, P.length - 4 = m := ⟨_, rfl⟩
  rw [gm] at h hs
  by_cases hm : i < m
  · rw [List.drop_set_of_lt hm, ← hs] at h
    have htk : (P.set i b').take m = (P.take m).set i b' := by rw [List.take_set]
    rw [htk] at h
    have hH : ∀ b ∈ P.take m, b < 256 := fun b hb => hP b (List.mem_of_mem_take hb)
    have hl : i < (P.take m).length := by rw [List.length_take]; omega
    have hH' : ∀ b ∈ (P.take m).set i b', b < 256 := fun b hb2 => by
      rcases List.mem_or_eq_of_mem_set hb2 with q | q
      · exact hH b q
      · rw [q]; exact hb
    have hc := le4_inj (crc_lt hH') (crc_lt hH) h
    have e1 : P.take m = (P.take m).take i ++ (P.take m)[i] :: (P.take m).drop (i + 1) := by rw [List.getElem_cons_drop, List.take_append_drop]
    have e2 : (P.take m).set i b' = (P.take m).take i ++ b' :: (P.take m).drop (i + 1) := by rw [List.set_eq_take_append_cons_drop, if_pos hl]
    rw [e2] at hc
    have hc2 : crc ((P.take m).take i ++ b' :: (P.take m).drop (i + 1)) = crc ((P.take m).take i ++ (P.take m)[i] :: (P.take m).drop (i + 1)) := by rw [← e1]; exact hc
    have := crc_set (fun x hx => hH x (List.mem_of_mem_take hx)) (fun x hx => hH x (List.mem_of_mem_drop hx)) hb (hH _ (List.getElem_mem _)) hc2
    rw [this, List.getElem_take]
  · have htk : (P.set i b').take m = P.take m := by rw [List.take_set, List.set_eq_of_length_le (by rw [List.length_take]; omega)]
    rw [htk, hs] at h
    have h2 : (P.drop m)[i - m]? = ((P.set i b').drop m)[i - m]? := by rw [h]
    rw [List.getElem?_drop, List.getElem?_drop, show m + (i - m) = i by omega, List.getElem?_set, if_pos rfl, if_pos hi, List.getElem?_eq_getElem hi] at h2
    exact (Option.some.inj h2).symm
theorem flip_ne (b : Nat) : flip1 b ≠ b := by unfold flip1; split <;> omega
theorem flip_flip (b : Nat) : flip1 (flip1 b) = b := by
  unfold flip1
  by_cases h : b % 2 = 0
  · rw [if_pos h, if_neg (by omega)]; omega
  · rw [if_neg h, if_pos (by omega)]; omega
theorem okF_flip {f : FrT} {M : List Nat} (h : mayF f M.length = 0) (hb : ∀ b ∈ M, b < 256) {i : Nat} (hi : i < (putF f M).length) : okF ((putF f M).set i (flip1 ((putF f M).getD i 0))) = false := by
  have hP := putF_lt h hb
  have hl := putF_len f M
  have hg : (putF f M).getD i 0 = (putF f M)[i] := by rw [List.getD_eq_getElem?_getD, List.getElem?_eq_getElem hi]; rfl
  have hok := ok_put h
  unfold okF at hok
  rw [Bool.and_eq_true, Bool.and_eq_true] at hok
  have hf := seal_flip hP (by omega) hok.2.1 hi (flip_lt (hP _ (List.getElem_mem hi))) (flip_ne _)
  unfold okF
  rw [hg, hf, Bool.false_and, Bool.and_false]
theorem set_twice {L : List Nat} {i : Nat} (hi : i < L.length) : (L.set i (flip1 (L.getD i 0))).set i (flip1 ((L.set i (flip1 (L.getD i 0))).getD i 0)) = L := by
  have hg : L.getD i 0 = L[i] := by rw [List.getD_eq_getElem?_getD, List.getElem?_eq_getElem hi]; rfl
  have hg2 : (L.set i (flip1 (L.getD i 0))).getD i 0 = flip1 (L.getD i 0) := by rw [List.getD_eq_getElem?_getD, List.getElem?_set, if_pos rfl, if_pos hi]; rfl
  rw [hg2, flip_flip, List.set_set, hg, List.set_getElem_self]
end Go.Proofs.Ytibbibpfnpjjdaa

/- The net: New. -/
namespace Go.Proofs.Ytibbibpfnpjjdaa
open Go.RowKit
set_option linter.unusedSimpArgs false
set_option linter.unusedVariables false

theorem kn6 : kn 6 = 6 := by decide
theorem tl_al {w : World} {b : Nat} {go : Option Nat} {L : List Int} (h : Tl w b go L) (o : Obj) : Tl (w.alloc o) b go L := h.below ((Below.refl _ _).alloc (Nat.le_refl _) o)
theorem nt_new (w : World) : Calls Try.prog 9 #[] w fun e w' => ∃ g t, e = .returned (.pointer (some ⟨g, 0, none⟩)) ∧ Whole w' g 58 (ntC none 0 0 t) ∧ Tl w' t none (List.replicate 6 0) ∧ w.heap.size ≤ g ∧ w.heap.size ≤ t ∧ t < g ∧ Below w.heap.size w w' := by
  have HN := Lib.hid (ta_new 6 w)
  go_enter Try.func9, Try.ntmps9
  go_wp2_with (first
    | (go_at_call 24
       refine HN.out.mono ?_
       rintro e w1 ⟨t, rfl, ht, hT, hb⟩
       have HT := Lib.hid hT
       have HB := Lib.hid hb
       have Ht := Lib.hid ht
       clear hb hT ht))
  go_ret
  have hT := HT.out
  rw [kn6] at hT
  have hlt : t < w1.heap.size := by
    have := hT.mem
    exact this.1.lt
  exact ⟨w1.heap.size, t, rfl, Whole.new_ _ _ [_, _], tl_al hT _, HB.out.size, Ht.out, hlt, HB.out.alloc HB.out.size _⟩
end Go.Proofs.Ytibbibpfnpjjdaa

/- The net: Tally. -/
namespace Go.Proofs.Ytibbibpfnpjjdaa
open Go.RowKit
set_option linter.unusedSimpArgs false
set_option linter.unusedVariables false

theorem nt_tally (g : Nat) (A : Option Addr) (n c t : Nat) (go : Option Nat) (T : List Int) (w : World) (h : Whole w g 58 (ntC A n c t)) (hT : Tl w t go T) : Calls Try.prog 16 #[.pointer (some ⟨g, 0, none⟩)] w (GivesAll w t go T) := by
  have l1 := h.cell (i := 1) (v := .pointer (some ⟨t, 0, none⟩)) rfl
  have HA := Lib.hid (ta_all t go T w hT)
  clear h hT
  go_enter Try.func16, Try.ntmps16
  go_wp2_with (first
    | (go_at_call 37
       refine HA.out.mono ?_
       intro e w1 hg
       have HG := Lib.hid hg
       obtain ⟨b', rfl, h9⟩ := hg
       clear h9))
  go_ret
  exact HG.out
end Go.Proofs.Ytibbibpfnpjjdaa

/- The document's example. -/
namespace Go.Proofs.Ytibbibpfnpjjdaa
open Go.RowKit
set_option linter.unusedSimpArgs false
set_option linter.unusedVariables false

theorem may_f1 : mayF f1 0 = 0 := by decide
theorem sh_send : sendN zeroN [(f1, [])] = ([putF f1 []], [1, 0, 0, 0, 0, 0]) ∧ sentN zeroN [(f1, [])] = 1 := by
  have h1 : mayF f1 ([] : List Nat).length = 0 := may_f1
  constructor
  · show send1 zeroN (f1, []) = _
    unfold send1
    rw [if_pos h1, if_pos (by decide)]
    rfl
  · show sends zeroN (f1, []) + 0 = 1
    unfold sends
    rw [if_pos ⟨h1, by decide⟩]
theorem sh_ok : NtOk ([putF f1 []], [1, 0, 0, 0, 0, 0]) := by
  rw [← sh_send.1]
  exact NtOk.sends _ _ zeroN_ok (fun f hf b hb => by rw [List.mem_singleton.1 hf] at hb; cases hb)
theorem sh_turn : turnE ([putF f1 []], [1, 0, 0, 0, 0, 0]) 0 5 = 0 ∧ turnN ([putF f1 []], [1, 0, 0, 0, 0, 0]) 0 5 = ([(putF f1 []).set 5 (flip1 ((putF f1 []).getD 5 0))], [1, 0, 0, 0, 0, 0]) := by
  have hc : hasN ([putF f1 []], [1, 0, 0, 0, 0, 0]) 0 = true ∧ (0 : Int) ≤ 5 ∧ (5 : Int) < (atN ([putF f1 []], [1, 0, 0, 0, 0, 0]) 0).length := by
    refine ⟨rfl, by decide, ?_⟩
    show (5 : Int) < ((putF f1 []).length : Int)
    rw [putF_len]
    decide
  unfold turnE turnN
  rw [if_pos hc, if_pos hc]
  exact ⟨rfl, rfl⟩
theorem sh_deliv : atR ([(putF f1 []).set 5 (flip1 ((putF f1 []).getD 5 0))], [1, 0, 0, 0, 0, 0]) 0 = (zeroF, [], 2) ∧ delivN ([(putF f1 []).set 5 (flip1 ((putF f1 []).getD 5 0))], [1, 0, 0, 0, 0, 0]) 0 = ([], [1, 0, 0, 1, 0, 0]) := by
  have hf := okF_flip (f := f1) (M := []) may_f1 (fun b hb => by cases hb) (i := 5) (by rw [putF_len]; decide)
  have hh : hasN ([(putF f1 []).set 5 (flip1 ((putF f1 []).getD 5 0))], [1, 0, 0, 0, 0, 0]) 0 = true := rfl
  have ha : okF (atN ([(putF f1 []).set 5 (flip1 ((putF f1 []).getD 5 0))], [1, 0, 0, 0, 0, 0]) 0) = false := hf
  constructor
  · unfold atR takeR
    rw [if_pos hh, if_neg (by rw [ha]; decide)]
  · unfold delivN
    rw [if_pos hh, if_neg (by rw [ha]; decide)]
    rfl
set_option maxRecDepth 100000 in
set_option maxHeartbeats 4000000 in
theorem shown21 (w : World) : Calls Try.prog 8 #[] w fun e w' => e = .returned (.bool true) ∧ Below w.heap.size w w' := by
  go_enter Try.func8, Try.ntmps8
  go_wp2_with fail
  refine (nt_new w).mono ?_
  rintro e w1 ⟨g, t, rfl, hW, hT, hg, ht, -, hb⟩
  have HN1 := Lib.hid (NtIn.new hW hT hg ht)
  have HB1 := Lib.hid hb
  clear hW hT hg ht hb
  go_wp2_with fail
  refine (nt_send _ (HN1.out.below (below1 w1 _)) zeroN_ok _ _ _ [((f1, []), (none, 0))] (one_in (Whole.new_ w1 34 (frCells f1 none 0 0))) (by decide) (one_far (fun q => by have := (HN1.out.lt _ q).2; omega)) (by decide)).mono ?_
  rintro e w3 ⟨rfl, go1, A1, c1, es1, hN, hG⟩
  rw [show keyF [((f1, []), ((none : Option Addr), 0))] = [(f1, [])] from rfl, sh_send.1] at hN
  rw [show keyF [((f1, []), ((none : Option Addr), 0))] = [(f1, [])] from rfl, sh_send.2]
  have HB3 : RowKit.Hid (Below w.heap.size w w3) := Lib.hid ((bel_al HB1.out _).trans ((HN1.out.below (below1 w1 _)).far hG (Nat.le_trans HB1.out.size (below1 w1 _).size)))
  have HT := Lib.hid (nt_turn w3 hN sh_ok 0 5)
  rw [sh_turn.1, sh_turn.2] at HT
  have HN3 := Lib.hid hN
  clear hN hG HB1 HN1
  go_wp2_with fail
  refine HT.out.mono ?_
  rintro e w4 ⟨rfl, go2, A2, c2, es2, hN, hG⟩
  have HB4 : RowKit.Hid (Below w.heap.size w w4) := Lib.hid (HB3.out.trans (HN3.out.far hG HB3.out.size))
  have HN4 := Lib.hid hN
  have HD := Lib.hid (nt_deliv w4 hN (sh_turn.2 ▸ sh_ok.turn 0 5) 0 (by decide))
  clear hN hG HT HB3 HN3
  go_wp2_with fail
  refine HD.out.mono ?_
  rintro e w5 ⟨A3, c3, rfl, -, -, go3, es3, hN, hG⟩
  rw [sh_deliv.1]
  rw [sh_deliv.2] at hN
  have HB5 : RowKit.Hid (Below w.heap.size w w5) := Lib.hid (HB4.out.trans (HN4.out.far hG HB4.out.size))
  have HN5 := Lib.hid hN
  clear hN hG HD HB4 HN4
  rename_i hK
  refine hK _ _ ?_
  refine wl_read (v := ?_) (some 15) rfl (by rfl) ?_ ?_
  rotate_left
  · go_simp; (try with_reducible rfl)
  simp only [Act.put, List.setIfInBounds_toArray, List.set_cons_zero, List.set_cons_succ]
  refine wl_read (v := .agg (frCells zeroF A3 0 c3).toArray) (some 18) rfl (by rfl) ?_ ?_
  · go_simp; (try rfl)
  simp only [Act.put, List.setIfInBounds_toArray, List.set_cons_zero, List.set_cons_succ]
  refine wl_read (v := ?_) (some 19) rfl (by rfl) ?_ ?_
  rotate_left
  · go_simp; (try with_reducible rfl)
  simp only [Act.put, List.setIfInBounds_toArray, List.set_cons_zero, List.set_cons_succ]
  refine wl_new 4 rfl rfl rfl 34 (.tmp 18) rfl rfl #[.int .i64 0, .int .i64 0, .int .i64 0, .int .i64 0, .int .i64 0, .int .i64 0, .slice none 0 0] ?_ (frCells zeroF A3 0 c3).toArray (by simp) rfl (by kernel_rfl) rfl (by simp [frCells, Value.oneCell']) ?_
  · go_simp; (try with_reducible rfl)
  simp only [Act.put, List.setIfInBounds_toArray, List.set_cons_zero, List.set_cons_succ]
  have HL := Lib.hid (nt_len g A2 0 c2 t _ ((HN5.out.below (below1 w5 (.cells (frCells zeroF A3 0 c3).toArray 34))).box))
  have HB6 : RowKit.Hid (Below w.heap.size w (w5.alloc (.cells (frCells zeroF A3 0 c3).toArray 34))) := Lib.hid (bel_al HB5.out _)
  obtain ⟨W6, gW6⟩ : ∃ z, w5.alloc (.cells (frCells zeroF A3 0 c3).toArray 34) = z := ⟨_, rfl⟩
  rw [gW6] at HL HB6 ⊢
  clear HN5 HB5 gW6 hK
  go_wp2_with (first
    | (go_at_call 14
       refine HL.out.mono ?_
       rintro e w6 ⟨rfl, rfl⟩))
  go_ret
  exact ⟨rfl, HB6.out⟩
end Go.Proofs.Ytibbibpfnpjjdaa

/- Words for all layers, in one text. -/
namespace Go.Proofs.Ytibbibpfnpjjdaa
open Go.ChangeShapes Go.WideShapes Go.ChangeAt Go.RowKit

section
variable {H : Type} {enc : TypeId × Value → H} {P : Program}

/-- A row of arguments reads as it did where below the old heap's end nothing has turned. -/
theorem trodAll_stays (hl : laidOutB P = true) {W W' : World} (hb : Below W.heap.size W W') : ∀ (ts : List TypeId) (vs : List Value) (ds : List (DataW H)) (ps : List MemPlace) (sp : Nat → Bool),
    (∀ t ∈ ts, P.readableRec t = true ∧ t < P.types.size) → DataW.TrodAll enc P W 0 (fun _ => true) true ts vs ds ps →
    (∀ p ∈ ps, p.block < W.heap.size) → (∀ p ∈ ps, sp p.block = true) → DataW.TrodAll enc P W' 0 sp true ts vs ds ps
  | [], _, _, _, _, _, h, _, _ => by
    obtain ⟨rfl, rfl, rfl⟩ := trodAll_nil h
    exact rfl
  | t :: ts, vs, ds, ps, sp, ht, h, hlt, hs => by
    obtain ⟨v, vs', d, ds', p, q, rfl, rfl, rfl, h1, h2⟩ := trodAll_cons h
    have ⟨hr, hrow⟩ := ht t (by simp)
    refine ⟨p, q, WideElems.Trod_stays hl hr hrow h1 (fun x hx => hb.same (hlt x (by simp [hx]))) (fun x hx => hs x (by simp [hx])), ?_, rfl⟩
    exact trodAll_stays hl hb ts vs' ds' q sp (fun t' h' => ht t' (by simp [h'])) h2 (fun x hx => hlt x (by simp [hx])) (fun x hx => hs x (by simp [hx]))

/-- A law's post. -/
theorem law_post {f : Func} {s : ChangeSpec} {tb : TypeId} {W W' : World} {args : Array Value} {ds gs : List (DataW H)} {before : List MemPlace}
    (hl : laidOutB P = true) (hts : f.params.toList.all (fun t => P.readableRec t && decide (t < P.types.size)) = true) (hr : f.resultTypes = #[tb]) (htb : P.underlying tb = some .bool) (hv : s.vars = [])
    (hfn : (s.fn H (ds ++ gs)).results = [.lit (.bool true)] ∧ (s.fn H (ds ++ gs)).args = ds ∧ (s.fn H (ds ++ gs)).vars = [])
    (hW : DataW.Whole enc P f.params.toList s.vars false W args.toList ds gs before) (hb : Below W.heap.size W W') :
    s.post enc P f false true false false W args (.bool true) W' := by
  have hts' : ∀ t ∈ f.params.toList, P.readableRec t = true ∧ t < P.types.size := fun t ht => by
    have h := List.all_eq_true.1 hts t ht
    simpa using h
  have hlt : ∀ p ∈ before, p.block < W.heap.size := fun p hp => hW.lt p hp
  have hW' := hW
  obtain ⟨p, q, hA, hV, rfl, hfz, hnd⟩ := hW
  rw [hv] at hV
  obtain ⟨rfl, rfl⟩ := trodVars_none hV
  obtain ⟨e1, e2, e3⟩ := hfn
  refine ⟨ds, [], p ++ [], [], p, [], hW', ?_, ?_, ?_, ?_, fun h => by cases h⟩
  · rw [e1, hr]
    exact trodAll_mk1 (shut_bool htb _)
  · rw [e2]
    exact trodAll_stays hl hb _ _ _ _ _ hts' hA (fun x hx => hlt x (by simp [hx])) (fun x hx => by simpa using hlt x (by simp [hx]))
  · rw [e3, hv]
    rfl
  · exact World.keptBut_mono (fun x hx => ⟨hx, by simpa using hx⟩) (hb.frame (· ∈ p ++ []))
end
end Go.Proofs.Ytibbibpfnpjjdaa

/- A law's arguments opened: types that are flat rows of int; what such a value is. -/
namespace Go.Proofs.Ytibbibpfnpjjdaa
open Go.ChangeShapes Go.WideShapes Go.ChangeAt Go.RowKit

section
variable {H : Type} {P : Program}

def In64 (n : Int) : Prop := -9223372036854775808 ≤ n ∧ n ≤ 9223372036854775807
def ivs (ns : List Int) : List Value := ns.map (Value.int .i64)

/-- Type t is a row of k cells, each an int. -/
def Ints (H : Type) (P : Program) (t : TypeId) (k : Nat) : Prop :=
  ∀ (enc : TypeId × Value → H) (w : World) (base : Nat) (spare : Nat → Bool) (held : Bool) (fuel : Nat) (cs : List Value) (x : DataW H × List MemPlace),
    DataW.trod enc P w base spare held fuel t cs = some x → ∃ ns : List Int, ns.length = k ∧ cs = ivs ns ∧ (∀ n ∈ ns, In64 n)

theorem ints_int {t : TypeId} (ht : P.underlying t = some (.int .i64)) : Ints H P t 1 := by
  intro enc w base spare held fuel cs x h
  obtain ⟨n, rfl, _, hw⟩ := DataW.trod_int ht h
  exact ⟨[n], rfl, rfl, fun m hm => by
    obtain rfl := List.mem_singleton.1 hm
    exact bounds_i64 hw⟩

theorem ints_struct2 {t : TypeId} {f0 f1 : Field} {k0 k1 k : Nat} (ht : P.underlying t = some (.struct #[f0, f1])) (h0 : Ints H P f0.type k0) (h1 : Ints H P f1.type k1)
    (o0 : f0.offset = 0) (o1 : f1.offset = k0) (c0 : P.cellsOf f0.type = k0) (c1 : P.cellsOf f1.type = k1) (c : P.cellsOf t = k) (hk : k = k0 + k1) : Ints H P t k := by
  intro enc w base spare held fuel cs x h
  obtain ⟨xs, n, _, _, hl, hlen, hg⟩ := DataW.trod_struct ht h
  have e0 := hg 0 f0 rfl
  have e1 := hg 1 f1 rfl
  rw [List.getElem?_eq_getElem (by rw [hlen]; simp)] at e0 e1
  obtain ⟨n0, l0, q0, w0⟩ := h0 _ _ _ _ _ _ _ _ e0
  obtain ⟨n1, l1, q1, w1⟩ := h1 _ _ _ _ _ _ _ _ e1
  rw [o0, c0, List.drop_zero] at q0
  rw [o1, c1] at q1
  refine ⟨n0 ++ n1, by simp [l0, l1, hk], ?_, fun m hm => ?_⟩
  · have h2 : (cs.drop k0).take k1 = cs.drop k0 := List.take_of_length_le (by rw [List.length_drop]; omega)
    rw [h2] at q1
    rw [← List.take_append_drop k0 cs, q0, q1, ivs, ivs, ivs, List.map_append]
  · rcases List.mem_append.1 hm with hm | hm
    · exact w0 m hm
    · exact w1 m hm

theorem ints_rows {α : Type} (e k : Nat) (p : α → Prop) (f : α → Value) : ∀ (n : Nat) (cs : List Value), cs.length = n * k →
    (∀ i, i < n → ∃ ns : List α, ns.length = k ∧ (cs.drop (i * k)).take k = ns.map f ∧ ∀ m ∈ ns, p m) → ∃ ns : List α, ns.length = n * k ∧ cs = ns.map f ∧ ∀ m ∈ ns, p m
  | 0, cs, hl, _ => ⟨[], by simp, List.eq_nil_of_length_eq_zero (by simpa using hl), fun m hm => by cases hm⟩
  | n + 1, cs, hl, h => by
    obtain ⟨n0, l0, q0, w0⟩ := h 0 (by omega)
    obtain ⟨n1, l1, q1, w1⟩ := ints_rows e k p f n (cs.drop k) (by rw [List.length_drop, hl, Nat.succ_mul]; omega) (fun i hi => by
      have := h (i + 1) (by omega)
      rwa [List.drop_drop, show k + i * k = (i + 1) * k by rw [Nat.succ_mul]; omega])
    rw [Nat.zero_mul, List.drop_zero] at q0
    refine ⟨n0 ++ n1, by rw [List.length_append, l0, l1, Nat.succ_mul]; omega, ?_, fun m hm => ?_⟩
    · rw [← List.take_append_drop k cs, q0, q1, List.map_append]
    · rcases List.mem_append.1 hm with hm | hm
      · exact w0 m hm
      · exact w1 m hm

theorem ints_array {t e : TypeId} {n k m : Nat} (ht : P.underlying t = some (.array n e)) (he : Ints H P e k) (ce : P.cellsOf e = k) (ct : P.cellsOf t = m) (hm : m = n * k) : Ints H P t m := by
  intro enc w base spare held fuel cs x h
  obtain ⟨xs, q, _, _, hl, hlen, hg⟩ := DataW.trod_array ht h
  subst hm
  refine ints_rows 0 k In64 (Value.int .i64) n cs (by omega) fun i hi => ?_
  have h1 := hg i hi
  rw [List.getElem?_eq_getElem (by omega), ce] at h1
  exact he _ _ _ _ _ _ _ _ h1

theorem open_struct_ints {w W : World} {t : TypeId} {fs : Array Field} {k : Nat} {r : Reach} {b0 base : Nat} {enc : TypeId × Value → H} {spare : Nat → Bool} {held : Bool} {v : Value} {d : DataW H} {ps : List MemPlace}
    (hi : Ints H P t k) (ht : P.underlying t = some (.struct fs)) (hv : Value.okWide P w r b0 t v) (hd : DataW.Trod enc P W base spare held t v d ps) :
    ∃ ns : List Int, ns.length = k ∧ v = .agg (ivs ns).toArray ∧ ∀ n ∈ ns, In64 n := by
  simp only [Value.okWide, ht] at hv
  obtain ⟨cs, rfl, _, _⟩ := hv
  obtain ⟨fuel, hf⟩ := hd
  obtain ⟨ns, l, q, wf⟩ := hi _ _ _ _ _ _ _ _ hf
  refine ⟨ns, l, ?_, wf⟩
  simp only [Value.cells] at q
  rw [← q, Array.toArray_toList]

theorem open_array_ints {w W : World} {t e : TypeId} {n k : Nat} {r : Reach} {b0 base : Nat} {enc : TypeId × Value → H} {spare : Nat → Bool} {held : Bool} {v : Value} {d : DataW H} {ps : List MemPlace}
    (hi : Ints H P t k) (ht : P.underlying t = some (.array n e)) (hv : Value.okWide P w r b0 t v) (hd : DataW.Trod enc P W base spare held t v d ps) :
    ∃ ns : List Int, ns.length = k ∧ v = .agg (ivs ns).toArray ∧ ∀ n ∈ ns, In64 n := by
  simp only [Value.okWide, ht] at hv
  obtain ⟨cs, rfl, _, _⟩ := hv
  obtain ⟨fuel, hf⟩ := hd
  obtain ⟨ns, l, q, wf⟩ := hi _ _ _ _ _ _ _ _ hf
  refine ⟨ns, l, ?_, wf⟩
  simp only [Value.cells] at q
  rw [← q, Array.toArray_toList]
end
end Go.Proofs.Ytibbibpfnpjjdaa

/- The laws' types as rows of int; what the row's shutting asks of the program. -/
namespace Go.Proofs.Ytibbibpfnpjjdaa
open Go.ChangeShapes Go.WideShapes Go.ChangeAt Go.RowKit

theorem Try.own : ownKnob Try.prog.godebug = none := by kernel_rfl
theorem Try.laidOut : laidOutB Try.prog = true := by kernel_rfl

theorem ints_i (H : Type) : Ints H Try.prog 3 1 := ints_int Try.underlying3
end Go.Proofs.Ytibbibpfnpjjdaa

/- A law's slice argument opened: its elements are rows of ints, or bytes. -/
namespace Go.Proofs.Ytibbibpfnpjjdaa
open Go.ChangeShapes Go.WideShapes Go.ChangeAt Go.RowKit Go.Deep

section
variable {H : Type} {P : Program}

/-- Type e is a row of k cells, each of them f of a number that fits. -/
def Rows_ (H : Type) (P : Program) (f : Int → Value) (p : Int → Prop) (t : TypeId) (k : Nat) : Prop :=
  ∀ (enc : TypeId × Value → H) (w : World) (base : Nat) (spare : Nat → Bool) (held : Bool) (fuel : Nat) (cs : List Value) (x : DataW H × List MemPlace),
    DataW.trod enc P w base spare held fuel t cs = some x → ∃ ns : List Int, ns.length = k ∧ cs = ns.map f ∧ (∀ n ∈ ns, p n)

theorem rows_of_ints {t : TypeId} {k : Nat} (h : Ints H P t k) : Rows_ H P (Value.int .i64) In64 t k := h
theorem rows_u8 {t : TypeId} (ht : P.underlying t = some (.int .u8)) : Rows_ H P u8v (fun n => 0 ≤ n ∧ n ≤ 255) t 1 := by
  intro enc w base spare held fuel cs x h
  obtain ⟨n, rfl, _, hw⟩ := DataW.trod_int ht h
  exact ⟨[n], rfl, rfl, fun m hm => by
    obtain rfl := List.mem_singleton.1 hm
    exact bounds_u8 hw⟩

theorem rows_build (f : Int → Value) (p : Int → Prop) (k : Nat) (cell : Nat → Option Value) : ∀ n : Nat,
    (∀ i, i < n → ∃ ns : List Int, ns.length = k ∧ (∀ j u, (ns.map f)[j]? = some u → cell (i * k + j) = some u) ∧ ∀ m ∈ ns, p m) →
    ∃ ns : List Int, ns.length = n * k ∧ (∀ j u, (ns.map f)[j]? = some u → cell j = some u) ∧ ∀ m ∈ ns, p m
  | 0, _ => ⟨[], by simp, fun j u h => (by simp at h), fun m h => (by cases h)⟩
  | n + 1, h => by
    obtain ⟨n0, l0, q0, w0⟩ := rows_build f p k cell n (fun i hi => h i (by omega))
    obtain ⟨n1, l1, q1, w1⟩ := h n (by omega)
    refine ⟨n0 ++ n1, by rw [List.length_append, l0, l1, Nat.succ_mul], fun j u hj => ?_, fun m hm => ?_⟩
    · rw [List.map_append] at hj
      rcases Nat.lt_or_ge j (n * k) with hlt | hge
      · rw [List.getElem?_append_left (by simpa [l0] using hlt)] at hj
        exact q0 j u hj
      · rw [List.getElem?_append_right (by simpa [l0] using hge)] at hj
        have := q1 _ u hj
        rw [List.length_map, l0] at this
        rwa [show n * k + (j - n * k) = j by omega] at this
    · rcases List.mem_append.1 hm with hm | hm
      · exact w0 m hm
      · exact w1 m hm

theorem open_cell_rows {W : World} {t e : TypeId} {k : Nat} {f : Int → Value} {p : Int → Prop} {enc : TypeId × Value → H} {held : Bool} {v : Value} {fuel : Nat} {y : DataW H × List MemPlace}
    (hi : Rows_ H P f p e k) (ht : P.underlying t = some (.slice e)) (hc : P.cellsOf e = k) (hk : 0 < k) (hf : DataW.trod enc P W 0 (fun _ => true) held fuel t [v] = some y) :
    ∃ (A : Option Addr) (n c : Nat) (ns : List Int), v = .slice A n c ∧ c ≤ maxLen ∧ (∀ x ∈ ns, p x) ∧ RdS W W.heap.size k A n c (ns.map f) := by
  rcases open_slice ht hf with ⟨hcs, _⟩ | ⟨a, n, c, m, q, D, Pl, hcs, hb, hl, hm, hmm, hx, hel⟩
  · have hv' : v = .slice none 0 0 := by simpa using hcs
    rw [hv']
    exact ⟨none, 0, 0, [], rfl, Nat.zero_le _, fun x hx => (by cases hx), ⟨by simp, fun _ => ⟨rfl, rfl⟩, Nat.le_refl _, fun a ha => (by cases ha), fun a ha => (by cases ha)⟩⟩
  · have hv' : v = .slice (some a) n c := by simpa using hcs
    rw [hv']
    have hmc : m = c := by simpa using hmm
    clear hmm
    subst m
    have hns : ∃ ns : List Int, ns.length = n * k ∧ (∀ j u, (ns.map f)[j]? = some u → W.cell? (a.add j) = some u) ∧ ∀ m ∈ ns, p m := rows_build f p k (fun j => W.cell? (a.add j)) n (fun i him => by
      obtain ⟨cs', h1, h2⟩ := hel i (by omega)
      obtain ⟨ns, l, rfl, hp⟩ := hi _ _ _ _ _ _ _ _ h2
      rw [hc] at h1
      obtain ⟨_, hln, hat⟩ := World.cells?_some h1
      refine ⟨ns, l, fun j u hu => ?_, hp⟩
      have hj : j < k := by
        rcases Nat.lt_or_ge j k with h3 | h3
        · exact h3
        · rw [List.getElem?_eq_none (by simpa [l] using h3)] at hu
          cases hu
      have := hat j hj
      rw [← add_add, this, hu])
    obtain ⟨ns, hlen, hcell, hp⟩ := hns
    refine ⟨some a, n, c, ns, rfl, hm, hp, ⟨by simpa using hlen, fun e => (by cases e), hl, fun a' ha hn => ?_, fun a' ha j u hu => ?_⟩⟩
    · obtain rfl := Option.some.inj ha
      have h0 : 0 < n * k := Nat.mul_pos hn hk
      have hne : (ns.map f)[0]? = some (f (ns[0]'(by rw [hlen]; exact h0))) := by simp [hlen, h0]
      have := World.block_lt_of_cell? W _ (hcell 0 _ hne)
      simpa [Addr.add] using this
    · obtain rfl := Option.some.inj ha
      exact hcell j u hu
theorem open_slice_rows {W w : World} {t e : TypeId} {k : Nat} {f : Int → Value} {p : Int → Prop} {r : Reach} {b0 : Nat} {enc : TypeId × Value → H} {held : Bool} {v : Value} {d : DataW H} {ps : List MemPlace}
    (hi : Rows_ H P f p e k) (ht : P.underlying t = some (.slice e)) (hc : P.cellsOf e = k) (hk : 0 < k) (hv : Value.okWide P w r b0 t v) (hd : DataW.Trod enc P W 0 (fun _ => true) held t v d ps) :
    ∃ (A : Option Addr) (n c : Nat) (ns : List Int), v = .slice A n c ∧ c ≤ maxLen ∧ (∀ x ∈ ns, p x) ∧ RdS W W.heap.size k A n c (ns.map f) := by
  obtain ⟨A0, n0, c0, rfl⟩ := okWide_slice ht hv
  obtain ⟨fuel, hf⟩ := hd
  exact open_cell_rows hi ht hc hk (y := (d, ps)) (fuel := fuel) hf

theorem names_of_ints : ∀ (n : Nat) (ns : List Int), ns.length = n * 2 → ∃ l : List (Int × Int), ns.map (Value.int .i64) = l.flatMap fun p => [.int .i64 p.1, .int .i64 p.2]
  | 0, ns, h => ⟨[], by rw [List.eq_nil_of_length_eq_zero (l := ns) (by omega)]; rfl⟩
  | n + 1, [], h => by simp at h
  | n + 1, [a], h => by simp at h; omega
  | n + 1, a :: b :: ns, h => by
    obtain ⟨l, hl⟩ := names_of_ints n ns (by simp at h; omega)
    exact ⟨(a, b) :: l, by simp [hl]⟩
end
end Go.Proofs.Ytibbibpfnpjjdaa

/- A law's arguments opened, by the type: ints, bools, texts, slices, structs of these. -/
namespace Go.Proofs.Ytibbibpfnpjjdaa
open Go.ChangeShapes Go.WideShapes Go.ChangeAt Go.RowKit Go.Deep

section
variable {H : Type} {P : Program} {α β : Type}

/-- What reads as data at type t is the cells of some a with p. -/
def Row1 (H : Type) (P : Program) (t : TypeId) (f : α → List Value) (p : World → α → Prop) : Prop :=
  ∀ (enc : TypeId × Value → H) (w : World) (held : Bool) (fuel : Nat) (cs : List Value) (x : DataW H × List MemPlace),
    DataW.trod enc P w 0 (fun _ => true) held fuel t cs = some x → ∃ a, cs = f a ∧ p w a

theorem row1_int {t : TypeId} (ht : P.underlying t = some (.int .i64)) : Row1 H P t (fun n : Int => [.int .i64 n]) (fun _ n => In64 n) := by
  intro enc w held fuel cs x h
  obtain ⟨n, rfl, _, hw⟩ := DataW.trod_int ht h
  exact ⟨n, rfl, bounds_i64 hw⟩
theorem row1_u8 {t : TypeId} (ht : P.underlying t = some (.int .u8)) : Row1 H P t (fun n : Int => [u8v n]) (fun _ n => 0 ≤ n ∧ n ≤ 255) := by
  intro enc w held fuel cs x h
  obtain ⟨n, rfl, _, hw⟩ := DataW.trod_int ht h
  exact ⟨n, rfl, bounds_u8 hw⟩
theorem row1_bool {t : TypeId} (ht : P.underlying t = some .bool) : Row1 H P t (fun b : Bool => [.bool b]) (fun _ _ => True) := by
  intro enc w held fuel cs x h
  cases fuel with
  | zero => simp [DataW.trod] at h
  | succ m =>
    unfold DataW.trod at h
    rw [ht] at h
    split at h <;> simp_all
theorem row1_string {t : TypeId} (ht : P.underlying t = some .string) : Row1 H P t (fun s : ByteArray => [.string s]) (fun _ s => s.size ≤ maxLen) := by
  intro enc w held fuel cs x h
  obtain ⟨s, rfl, _, hs⟩ := DataW.trod_string ht h
  exact ⟨s, rfl, hs⟩
theorem Row1.map {t : TypeId} {f : α → List Value} {p : World → α → Prop} (h : Row1 H P t f p) (g : α → β) {f' : β → List Value} {p' : World → β → Prop} (hf : ∀ a, f a = f' (g a)) (hp : ∀ w a, p w a → p' w (g a)) : Row1 H P t f' p' := by
  intro enc w held fuel cs x hx
  obtain ⟨a, rfl, ha⟩ := h enc w held fuel cs x hx
  exact ⟨g a, hf a, hp w a ha⟩

/-- What the fields from cell off on read as. -/
def Fields_ (H : Type) (P : Program) (fs : List Field) (off m : Nat) (g : α → List Value) (q : World → α → Prop) : Prop :=
  ∀ (enc : TypeId × Value → H) (w : World) (held : Bool) (n : Nat) (cs : List Value),
    (∀ fl ∈ fs, ∃ y, DataW.trod enc P w 0 (fun _ => true) held n fl.type ((cs.drop fl.offset).take (P.cellsOf fl.type)) = some y) → ∃ a, (cs.drop off).take m = g a ∧ q w a
theorem fields_nil (off : Nat) : Fields_ H P [] off 0 (fun _ : Unit => []) (fun _ _ => True) := fun _ _ _ _ cs _ => ⟨(), by simp, trivial⟩
theorem fields_cons {fl : Field} {fs : List Field} {off k m : Nat} {f : α → List Value} {p : World → α → Prop} {g : β → List Value} {q : World → β → Prop}
    (h : Row1 H P fl.type f p) (ho : fl.offset = off) (hc : P.cellsOf fl.type = k) (hr : Fields_ H P fs (off + k) m g q) :
    Fields_ H P (fl :: fs) off (k + m) (fun ab : α × β => f ab.1 ++ g ab.2) (fun w ab => p w ab.1 ∧ q w ab.2) := by
  intro enc w held n cs hall
  obtain ⟨y, hy⟩ := hall fl (by simp)
  obtain ⟨a, ha, pa⟩ := h _ _ _ _ _ _ hy
  obtain ⟨b, hb, qb⟩ := hr enc w held n cs (fun fl' h' => hall fl' (by simp [h']))
  rw [ho, hc] at ha
  refine ⟨(a, b), ?_, pa, qb⟩
  show _ = f a ++ g b
  rw [← ha, ← hb, List.take_add, List.drop_drop]
theorem row1_struct {t : TypeId} {fs : List Field} {m : Nat} {g : α → List Value} {q : World → α → Prop} (ht : P.underlying t = some (.struct fs.toArray)) (hc : P.cellsOf t = m) (h : Fields_ H P fs 0 m g q) : Row1 H P t g q := by
  intro enc w held fuel cs x hx
  obtain ⟨xs, n, _, _, hl, hlen, hg⟩ := DataW.trod_struct ht hx
  obtain ⟨a, ha, qa⟩ := h enc w held n cs (fun fl hfl => by
    obtain ⟨i, hi⟩ := List.getElem?_of_mem hfl
    have h1 := hg i fl (by simpa using hi)
    have hlt : i < xs.length := by
      rw [hlen]
      simpa using (List.getElem?_eq_some_iff.1 hi).1
    exact ⟨xs[i], by rw [h1, List.getElem?_eq_getElem hlt]⟩)
  refine ⟨a, ?_, qa⟩
  rw [← ha, List.drop_zero, List.take_of_length_le (by omega)]

theorem row1_rows {e : TypeId} {k : Nat} {f : α → List Value} {p : World → α → Prop} (hi : Row1 H P e f p) (hc : P.cellsOf e = k) (hk : ∀ a, (f a).length = k) (enc : TypeId × Value → H) (W : World) (held : Bool) (a : Addr) (nn : Nat) :
    ∀ n : Nat, (∀ i, i < n → ∃ cs' D, W.cells? 0 (a.add (i * P.cellsOf e)) (P.cellsOf e) = some cs' ∧ DataW.trod enc P W 0 (fun _ => true) held nn e cs' = some D) →
      ∃ l : List α, l.length = n ∧ (∀ j u, (rowsV f l)[j]? = some u → W.cell? (a.add j) = some u) ∧ ∀ x ∈ l, p W x
  | 0, _ => ⟨[], rfl, fun j u h => (by simp [rowsV] at h), fun x h => (by cases h)⟩
  | n + 1, h => by
    obtain ⟨l, hl, hq, hp⟩ := row1_rows hi hc hk enc W held a nn n (fun i hi => h i (by omega))
    obtain ⟨cs', D, h1, h2⟩ := h n (by omega)
    obtain ⟨x, rfl, hx⟩ := hi _ _ _ _ _ _ h2
    rw [hc] at h1
    obtain ⟨_, hln, hat⟩ := World.cells?_some h1
    have hlen : (rowsV f l).length = n * k := by rw [rowsV_length f hk, hl]
    refine ⟨l ++ [x], by simp [hl], fun j u hj => ?_, fun y hy => ?_⟩
    · rw [rowsV_app] at hj
      rcases Nat.lt_or_ge j (n * k) with hlt | hge
      · rw [List.getElem?_append_left (by omega)] at hj
        exact hq j u hj
      · rw [List.getElem?_append_right (by omega), hlen] at hj
        simp only [rowsV, List.append_nil] at hj
        have hjk : j - n * k < k := by
          rcases Nat.lt_or_ge (j - n * k) k with h3 | h3
          · exact h3
          · rw [List.getElem?_eq_none (by rw [hk]; exact h3)] at hj
            cases hj
        have h4 := hat (j - n * k) hjk
        rw [hj, add_add, show n * k + (j - n * k) = j by omega] at h4
        exact h4
    · rcases List.mem_append.1 hy with hy | hy
      · exact hp y hy
      · obtain rfl := List.mem_singleton.1 hy
        exact hx

/-- What a slice reads as. -/
def SlOk (k : Nat) (f : α → List Value) (p : World → α → Prop) (w : World) (s : Option Addr × Nat × Nat × List α) : Prop :=
  s.2.2.1 ≤ maxLen ∧ RdS w w.heap.size k s.1 s.2.1 s.2.2.1 (rowsV f s.2.2.2) ∧ ∀ x ∈ s.2.2.2, p w x
def slCells (s : Option Addr × Nat × Nat × List α) : List Value := [.slice s.1 s.2.1 s.2.2.1]
theorem row1_slice {t e : TypeId} {k : Nat} {f : α → List Value} {p : World → α → Prop} (hi : Row1 H P e f p) (ht : P.underlying t = some (.slice e)) (hc : P.cellsOf e = k) (hk : ∀ a, (f a).length = k) (h0 : 0 < k) :
    Row1 H P t (slCells (α := α)) (SlOk k f p) := by
  intro enc W held fuel cs x hf
  rcases open_slice ht hf with ⟨rfl, _⟩ | ⟨a, n, c, m, q, D, Pl, rfl, hb, hl, hm, hmm, hx, hel⟩
  · exact ⟨(none, 0, 0, []), rfl, Nat.zero_le _, ⟨by simp [rowsV], fun _ => ⟨rfl, rfl⟩, Nat.le_refl _, fun a ha => (by cases ha), fun a ha => (by cases ha)⟩, fun x hx => (by cases hx)⟩
  · have hmc : m = c := by simpa using hmm
    clear hmm
    subst m
    obtain ⟨l, hlen, hcell, hp⟩ := row1_rows hi hc hk enc W held a q n (fun i him => by
      obtain ⟨cs', h1, h2⟩ := hel i (by omega)
      exact ⟨cs', _, h1, h2⟩)
    refine ⟨(some a, n, c, l), rfl, hm, ⟨by rw [rowsV_length f hk, hlen], fun e => (by cases e), hl, fun a' ha hn => ?_, fun a' ha j u hu => ?_⟩, hp⟩
    · obtain rfl := Option.some.inj ha
      have h0' : 0 < (rowsV f l).length := by rw [rowsV_length f hk, hlen]; exact Nat.mul_pos hn h0
      have := World.block_lt_of_cell? W _ (hcell 0 _ (List.getElem?_eq_getElem h0'))
      simpa [Addr.add] using this
    · obtain rfl := Option.some.inj ha
      exact hcell j u hu

theorem open_row1_struct {w W : World} {t : TypeId} {fs : Array Field} {f : α → List Value} {p : World → α → Prop} {r : Reach} {b0 : Nat} {enc : TypeId × Value → H} {held : Bool} {v : Value} {d : DataW H} {ps : List MemPlace}
    (hi : Row1 H P t f p) (ht : P.underlying t = some (.struct fs)) (hv : Value.okWide P w r b0 t v) (hd : DataW.Trod enc P W 0 (fun _ => true) held t v d ps) :
    ∃ a, v = .agg (f a).toArray ∧ p W a := by
  simp only [Value.okWide, ht] at hv
  obtain ⟨cs, rfl, _, _⟩ := hv
  obtain ⟨fuel, hf⟩ := hd
  obtain ⟨a, q, ha⟩ := hi _ _ _ _ _ _ hf
  refine ⟨a, ?_, ha⟩
  simp only [Value.cells] at q
  rw [← q, Array.toArray_toList]
theorem open_row1_slice {w W : World} {t e : TypeId} {k : Nat} {f : α → List Value} {p : World → α → Prop} {r : Reach} {b0 : Nat} {enc : TypeId × Value → H} {held : Bool} {v : Value} {d : DataW H} {ps : List MemPlace}
    (hi : Row1 H P e f p) (ht : P.underlying t = some (.slice e)) (hc : P.cellsOf e = k) (hk : ∀ a, (f a).length = k) (h0 : 0 < k)
    (hv : Value.okWide P w r b0 t v) (hd : DataW.Trod enc P W 0 (fun _ => true) held t v d ps) :
    ∃ s : Option Addr × Nat × Nat × List α, v = .slice s.1 s.2.1 s.2.2.1 ∧ SlOk k f p W s := by
  obtain ⟨A0, n0, c0, rfl⟩ := okWide_slice ht hv
  obtain ⟨fuel, hf⟩ := hd
  obtain ⟨s, q, hs⟩ := row1_slice hi ht hc hk h0 _ _ _ _ _ _ hf
  refine ⟨s, ?_, hs⟩
  simpa [Value.cells, slCells] using q
end
end Go.Proofs.Ytibbibpfnpjjdaa

/- The laws' calls of a net, read. -/
namespace Go.Proofs.Ytibbibpfnpjjdaa
open Go.ChangeShapes Go.WideShapes Go.ChangeAt Go.RowKit

theorem row1_byte (H : Type) : Row1 H Try.prog 5 f8 (fun _ b => b < 256) := by
  intro enc w held fuel cs x h
  obtain ⟨n, rfl, _, hw⟩ := DataW.trod_int Try.underlying5 h
  have hb := bounds_u8 hw
  refine ⟨n.toNat, ?_, by omega⟩
  have e : ((n.toNat : Nat) : Int) = n := by omega
  simp [f8, e]
abbrev FrRaw := FrT × (Option Addr × Nat × Nat × List Nat)
def frmCells (a : FrRaw) : List Value := frCells a.1 a.2.1 a.2.2.1 a.2.2.2.1
theorem frmCells_len (a : FrRaw) : (frmCells a).length = 7 := rfl
abbrev FrOk (W : World) (a : FrRaw) : Prop := SlOk 1 f8 (fun _ b => b < 256) W a.2
theorem row1_frame (H : Type) : Row1 H Try.prog 34 frmCells FrOk :=
  (row1_struct Try.underlying34 (by kernel_rfl) (fields_cons (k := 1) (row1_int Try.underlying3) rfl (by kernel_rfl) (fields_cons (k := 1) (row1_int Try.underlying3) rfl (by kernel_rfl) (fields_cons (k := 1) (row1_int Try.underlying3) rfl (by kernel_rfl) (fields_cons (k := 1) (row1_int Try.underlying3) rfl (by kernel_rfl) (fields_cons (k := 1) (row1_int Try.underlying3) rfl (by kernel_rfl) (fields_cons (k := 1) (row1_int Try.underlying3) rfl (by kernel_rfl) (fields_cons (k := 1) (row1_slice (row1_byte H) Try.underlying32 (by kernel_rfl) f8_len (by decide)) rfl (by kernel_rfl) (fields_nil _))))))))).map
    (fun a => (⟨a.1, a.2.1, a.2.2.1, a.2.2.2.1, a.2.2.2.2.1, a.2.2.2.2.2.1⟩, a.2.2.2.2.2.2.1)) (fun _ => rfl) (fun _ _ h => h.2.2.2.2.2.2.1)
abbrev OpRaw := (Int × Int × Int) × (Option Addr × Nat × Nat × List FrRaw)
def rawC (a : OpRaw) : List Value := [.int .i64 a.1.1, .int .i64 a.1.2.1, .int .i64 a.1.2.2, .slice a.2.1 a.2.2.1 a.2.2.2.1]
theorem rawC_len (a : OpRaw) : (rawC a).length = 4 := rfl
abbrev RawOk (W : World) (a : OpRaw) : Prop := SlOk 7 frmCells FrOk W a.2
theorem row1_opn (H : Type) : Row1 H Try.prog 40 rawC RawOk :=
  (row1_struct Try.underlying40 (by kernel_rfl) (fields_cons (k := 1) (row1_int Try.underlying3) rfl (by kernel_rfl) (fields_cons (k := 1) (row1_int Try.underlying3) rfl (by kernel_rfl) (fields_cons (k := 1) (row1_int Try.underlying3) rfl (by kernel_rfl) (fields_cons (k := 1) (row1_slice (row1_frame H) Try.underlying35 (by kernel_rfl) frmCells_len (by decide)) rfl (by kernel_rfl) (fields_nil _)))))).map
    (fun a => (⟨a.1, a.2.1, a.2.2.1⟩, a.2.2.2.1)) (fun _ => rfl) (fun _ _ h => h.2.2.2.1)
def feOf (a : FrRaw) : Fe := ((a.1, a.2.2.2.2), (a.2.1, a.2.2.2.1))
def opOf (a : OpRaw) : OpA := (a.1, ((a.2.1, a.2.2.1, a.2.2.2.1), a.2.2.2.2.map feOf))
theorem feC_of {W : World} {a : FrRaw} (h : FrOk W a) : frmCells a = feC (feOf a) := by
  have hl := h.2.1.rlen f8_len (by decide)
  unfold frmCells feC feOf
  rw [← hl]
theorem fe_ok {W : World} {a : FrRaw} (h : FrOk W a) : FeOk W (feOf a) := by
  have hl := h.2.1.rlen f8_len (by decide)
  have hr := h.2.1
  refine ⟨?_, h.2.2⟩
  show RdS W W.heap.size 1 a.2.1 a.2.2.2.2.length a.2.2.2.1 (rowsV f8 a.2.2.2.2)
  rw [hl]; exact hr
theorem rows_fe {W : World} : ∀ {F : List FrRaw}, (∀ x ∈ F, FrOk W x) → rowsV frmCells F = rowsV feC (F.map feOf)
  | [], _ => rfl
  | x :: F, h => by
    show frmCells x ++ rowsV frmCells F = feC (feOf x) ++ rowsV feC (F.map feOf)
    rw [feC_of (h x (by simp)), rows_fe (fun z hz => h z (by simp [hz]))]
theorem rows_op : ∀ (L : List OpRaw), rowsV rawC L = rowsV oC (L.map opOf)
  | [] => rfl
  | x :: L => by
    show rawC x ++ rowsV rawC L = oC (opOf x) ++ rowsV oC (L.map opOf)
    rw [rows_op L]; rfl
theorem fes_in {W : World} {A : Option Addr} {n c : Nat} {F : List FrRaw} (hr : RdS W W.heap.size 7 A n c (rowsV frmCells F)) (h : ∀ x ∈ F, FrOk W x) : FesIn W A n c (F.map feOf) :=
  ⟨rows_fe h ▸ hr, fun x hx => by obtain ⟨z, hz, rfl⟩ := List.mem_map.1 hx; exact fe_ok (h z hz)⟩
theorem fes_low {W : World} {F : List FrRaw} (h : ∀ x ∈ F, FrOk W x) : ∀ x ∈ F.map feOf, ∀ a, x.2.1 = some a → 0 < x.1.2.length → a.block < W.heap.size := fun x hx a ha hn => by
  obtain ⟨z, hz, rfl⟩ := List.mem_map.1 hx
  exact (fe_ok (h z hz)).rds.low a ha hn
theorem op_ok {W : World} {a : OpRaw} (h : RawOk W a) : OpOk W.heap.size W (opOf a) :=
  ⟨fes_in h.2.1 h.2.2, Nat.le_trans h.2.1.le h.1, fes_low h.2.2, h.2.1.low⟩
end Go.Proofs.Ytibbibpfnpjjdaa
