/- The document's example of layer 8. -/
import Derived.Test.YtahbfdhjgnlmdaaZPH
import Derived.Test.YtahbfdhjgnlmdaaZPG
import Derived.Test.YtahbfdhjgnlmdaaZPF
import Derived.Test.YtahbfdhjgnlmdaaZPI

/- few of stage 8: the same as stage 7's. -/
namespace Go.Proofs.Ytahbfdhjgnlmdaa
open Go.RowKit
set_option linter.unusedSimpArgs false
set_option linter.unusedVariables false

set_option maxRecDepth 100000 in
set_option maxHeartbeats 4000000 in
theorem few8_any (A : Option Addr) (n c : Nat) (Vs : List VC) (B : Option Addr) (m k : Nat) (Es : List EC) (w : World) (h : DgIn w A n c Vs B m k Es) (hn : n ≤ maxLen) (hm : m ≤ maxLen) :
    Calls Try.prog 24 #[.agg #[.slice A n c, .slice B m k]] w fun e w' => ∃ A' c' B' k', e = .returned (.agg #[.slice A' (Vs.take 26).length c', .slice B' (Es.take 42).length k']) ∧
      DgIn w' A' (Vs.take 26).length c' ((Vs.take 26).map few7V) B' (Es.take 42).length k' (Es.take 42) ∧ Below w.heap.size w w' ∧ FwNew w A' (Vs.take 26).length c' B' (Es.take 42).length k' := by
  have HV := Lib.hid h.v
  have HE := Lib.hid h.e
  have HRg := Lib.hid h.r
  have Hlv := Lib.hid (h.v.rlen vC_len (by decide))
  have Hle := Lib.hid (h.e.rlen eC_len (by decide))
  obtain ⟨i0, hi, hz0, hz1, hz2⟩ := info_partsD info_vertex
  obtain ⟨i1, hi1, hz01, hz11, hz21⟩ := info_partsD info_edge
  unfold maxLen at hn hm
  clear h
  go_enter Try.func24, Try.ntmps24
  go_wp2
  have hx0 := ((Whole.new_ w 25 [.slice A n c, .slice B m k]).alloc (.cells #[.slice none 0 0, .slice none 0 0] 25)).alloc (.cells #[.slice none 0 0, .slice none 0 0] 25)
  have hx1 : Whole _ (w.heap.size + 1) 25 [.slice none 0 0, .slice none 0 0] := (Whole.new2 (w := w.alloc (.cells #[.slice A n c, .slice B m k] 25)) (by simp)).alloc (.cells #[.slice none 0 0, .slice none 0 0] 25)
  have hx2 : Whole _ (w.heap.size + 1 + 1) 25 [.slice none 0 0, .slice none 0 0] := Whole.new2 (w := (w.alloc (.cells #[.slice A n c, .slice B m k] 25)).alloc (.cells #[.slice none 0 0, .slice none 0 0] 25)) (by simp)
  have hbl := bel_al (bel_al (below1 w (.cells #[.slice A n c, .slice B m k] 25)) (.cells #[.slice none 0 0, .slice none 0 0] 25)) (.cells #[.slice none 0 0, .slice none 0 0] 25)
  obtain ⟨W0, gW0⟩ : ∃ z, ((w.alloc (.cells #[.slice A n c, .slice B m k] 25)).alloc (.cells #[.slice none 0 0, .slice none 0 0] 25)).alloc (.cells #[.slice none 0 0, .slice none 0 0] 25) = z := ⟨_, rfl⟩
  have hsz : w.heap.size + 1 + 1 + 1 ≤ W0.heap.size := by rw [← gW0]; simp
  have hx0' : Whole W0 w.heap.size 25 [.slice A n c, .slice B m k] := by rw [← gW0]; exact hx0
  have hx1' : Whole W0 (w.heap.size + 1) 25 [.slice none 0 0, .slice none 0 0] := by rw [← gW0]; exact hx1
  have hx2' : Whole W0 (w.heap.size + 1 + 1) 25 [.slice none 0 0, .slice none 0 0] := by rw [← gW0]; exact hx2
  have hbl' : Below w.heap.size w W0 := by rw [← gW0]; exact hbl
  have HF0 : RowKit.Hid (Few7A w Vs A B n c m k w.heap.size (w.heap.size + 1) (w.heap.size + 1 + 1) 0 (.slice none 0 0) W0) := Lib.hid ⟨Ow.nil_ hbl' (by omega) hsz, hx0', hx1', hx2'⟩
  rw [gW0]
  obtain ⟨b2, gb2⟩ : ∃ z, w.heap.size + 1 + 1 = z := ⟨_, rfl⟩
  obtain ⟨b1, gb1⟩ : ∃ z, w.heap.size + 1 = z := ⟨_, rfl⟩
  obtain ⟨b0, gb0⟩ : ∃ z, w.heap.size = z := ⟨_, rfl⟩
  rw [gb2, gb1, gb0] at HF0
  rw [gb2, gb1, gb0]
  have Gb0 := Lib.hid gb0
  have h02 : b0 ≠ b2 := by omega
  have h12 : b1 ≠ b2 := by omega
  have h01 : b0 < b2 := by omega
  have h11 : b1 < b2 := by omega
  have hl2 : w.heap.size ≤ b2 := by omega
  have hl1 : w.heap.size ≤ b1 := by omega
  have Hl2 := Lib.hid hl2
  have Hl1 := Lib.hid hl1
  clear hx0 hx1 hx2 hbl hsz hx0' hx1' hx2' hbl' gW0 gb2 gb1 gb0 hl2 hl1
  go_loopw [4] (fun si wr => ∃ (j : Nat) (v : Value), j ≤ n ∧ j ≤ 26 ∧ si = .int .i64 j ∧ RowKit.Hid (Few7A w Vs A B n c m k b0 b1 b2 j v wr)) (fun si _ => n - (intOf si).toNat)
  case atStart => exact ⟨0, _, by omega, by omega, rfl, HF0⟩
  case round =>
    clear HF0
    obtain ⟨j, v, hj, hj30, rfl, HF⟩ := hrel
    obtain ⟨wo, gwo⟩ : ∃ z, wr = z := ⟨_, rfl⟩
    rw [gwo] at HF ⊢
    clear gwo
    have c0 := HF.out.x0.cell (i := 0) rfl
    by_cases hgo : j < n ∧ j < 26
    · obtain ⟨hjn, hj3⟩ := hgo
      obtain ⟨x, hx⟩ : ∃ x, Vs[j]? = some x := ⟨_, List.getElem?_eq_getElem (by have := Hlv.out; omega)⟩
      have Hx := Lib.hid hx
      have hxo := HRg.out x (List.mem_of_getElem? hx)
      obtain ⟨bb, off, rfl, hbB, hpl⟩ := HV.out.place vC_len (by decide) (by omega)
      have q0 := hpl j _ hx 0 _ rfl
      have q1 := hpl j _ hx 1 _ rfl
      have q2 := hpl j _ hx 2 _ rfl
      have q3 := hpl j _ hx 3 _ rfl
      have q4 := hpl j _ hx 4 _ rfl
      simp only [Addr.add_lit, Nat.add_zero] at q0 q1 q2 q3 q4
      have l0 := (HF.out.ow.below.cell (p := ⟨bb, off + j * 5, none⟩) hbB).trans q0
      have l1 := (HF.out.ow.below.cell (p := ⟨bb, off + j * 5 + 1, none⟩) hbB).trans q1
      have l2 := (HF.out.ow.below.cell (p := ⟨bb, off + j * 5 + 2, none⟩) hbB).trans q2
      have l3 := (HF.out.ow.below.cell (p := ⟨bb, off + j * 5 + 3, none⟩) hbB).trans q3
      have l4 := (HF.out.ow.below.cell (p := ⟨bb, off + j * 5 + 4, none⟩) hbB).trans q4
      obtain ⟨⟨i1, i2⟩, ⟨rA, rn, rc, rL⟩, lb, at_⟩ := x
      have hxo2 : RdS w w.heap.size 3 rA rn rc (dartsV rL) := hxo.2
      have hrc : rn ≤ rc := hxo2.le
      have hrn : rc ≤ 9223372036854775807 := hxo.1
      clear hx hpl q0 q1 q2 q3 q4 hbB
      have hgw : wo.heap.size ≠ b2 := by have := HF.out.x2.lt; omega
      have hgw0 : b0 ≠ wo.heap.size := by have := HF.out.x0.lt; omega
      have hgw1 : b1 ≠ wo.heap.size := by have := HF.out.x1.lt; omega
      by_cases h30 : 82 < rn
      · obtain ⟨ra, rfl⟩ : ∃ ra, rA = some ra := by
          cases rA with
          | none => have := (hxo2.none_ rfl).1; omega
          | some ra => exact ⟨ra, rfl⟩
        have hfv : few7V ((i1, i2), (some ra, rn, rc, rL), lb, at_) = ((i1, i2), (some ra, 82, rc, rL.take 82), lb, at_) := by unfold few7V; rw [if_pos h30]
        clear hxo hxo2
        go_upto_region 8 with fail
        clear l0 l1 l2 l3 l4
        obtain ⟨Wt, gWt⟩ : ∃ x, wo.alloc (.cells #[.int .i64 i1, .int .i64 i2, .slice (some ra) 82 rc, .string lb, .int .i64 at_] 38) = x := ⟨_, rfl⟩
        obtain ⟨g3, gg3⟩ : ∃ x, wo.heap.size = x := ⟨_, rfl⟩
        have HO : RowKit.Hid (Ow w (b2 + 1) 38 5 v j (rowsV vC ((Vs.take j).map few7V)) Wt) := Lib.hid (by rw [← gWt]; exact HF.out.ow.up (below1 _ _))
        have HX0 : RowKit.Hid (Whole Wt b0 25 [.slice (some ⟨bb, off, none⟩) n c, .slice B m k]) := Lib.hid (by rw [← gWt]; exact HF.out.x0.alloc _)
        have HX1 : RowKit.Hid (Whole Wt b1 25 [.slice none 0 0, .slice none 0 0]) := Lib.hid (by rw [← gWt]; exact HF.out.x1.alloc _)
        have HX2 : RowKit.Hid (Whole Wt b2 25 [v, .slice none 0 0]) := Lib.hid (by rw [← gWt]; exact HF.out.x2.alloc _)
        have HX3 : RowKit.Hid (Whole Wt g3 38 [.int .i64 i1, .int .i64 i2, .slice (some ra) 82 rc, .string lb, .int .i64 at_]) := Lib.hid (by rw [← gWt, ← gg3]; exact Whole.new_ wo 38 [_, _, _, _, _])
        rw [gWt, gg3]
        clear gWt gg3 HF c0
        have c0 := HX2.out.cell (i := 0) rfl
        have c1 := HX2.out.cell (i := 1) rfl
        have f0 := HX2.out.free 0
        have z0 := HX3.out.cell (i := 0) rfl
        have z1 := HX3.out.cell (i := 1) rfl
        have z2 := HX3.out.cell (i := 2) rfl
        have z3 := HX3.out.cell (i := 3) rfl
        have z4 := HX3.out.cell (i := 4) rfl
        refine wp_region_lit ?_
        refine wl_read (v := ?_) (some 32) rfl (by rfl) ?_ ?_
        rotate_left
        · go_simp; (try with_reducible rfl)
        simp only [Act.put, List.setIfInBounds_toArray, List.set_cons_zero, List.set_cons_succ]
        refine wl_read (v := ?_) (some 33) rfl (by rfl) ?_ ?_
        rotate_left
        · go_simp; (try with_reducible rfl)
        simp only [Act.put, List.setIfInBounds_toArray, List.set_cons_zero, List.set_cons_succ]
        refine wl_load (some 34) rfl (by rfl) 38 (.tmp 5) rfl g3 rfl 38 [.int .i64 i1, .int .i64 i2, .slice (some ra) 82 rc, .string lb, .int .i64 at_] _ HX3.out Try.underlying38 rfl (by kernel_rfl) ?_
        simp only [Act.put, List.setIfInBounds_toArray, List.set_cons_zero, List.set_cons_succ]
        refine wl_buildSlice (some 35) rfl (by rfl) 22 38 1 #[(0, .tmp 34)] rfl Try.underlying22 #[.int .i64 i1, .int .i64 i2, .slice (some ra) 82 rc, .string lb, .int .i64 at_] (by kernel_rfl) ?_
        simp only [Act.put, List.setIfInBounds_toArray, List.set_cons_zero, List.set_cons_succ]
        refine wpList_push2 rfl (.tmp 33) (.tmp 35) _ rfl _ 38 i0 _ 5 64 Try.underlying22 hi hz0 hz1 hz2 rfl (by decide) _ _ _ rfl (by exact HO.out.up (below1 _ _)) _ (some ⟨Wt.heap.size, 0, none⟩) 1 1 [.int .i64 i1, .int .i64 i2, .slice (some ra) 82 rc, .string lb, .int .i64 at_] rfl (by exact RdS.of_whole (Whole.new_ _ _ _) rfl) (by simp [Value.oneCell']) (by unfold maxLen; omega) (by omega) ?_
        intro v1 w1 how1 hb1 hgr
        obtain ⟨Aq, cq, rfl, -⟩ := how1.rds
        have hne2 := HO.out.low_ne (Nat.lt_succ_self b2)
        have HXa := Lib.hid ((HX0.out.alloc (.cells #[.int .i64 i1, .int .i64 i2, .slice (some ra) 82 rc, .string lb, .int .i64 at_] 38)).grown hgr (HO.out.low_ne (by omega)))
        have HXb := Lib.hid ((HX1.out.alloc (.cells #[.int .i64 i1, .int .i64 i2, .slice (some ra) 82 rc, .string lb, .int .i64 at_] 38)).grown hgr (HO.out.low_ne (by omega)))
        have hx2 := (HX2.out.alloc (.cells #[.int .i64 i1, .int .i64 i2, .slice (some ra) 82 rc, .string lb, .int .i64 at_] 38)).grown hgr hne2
        have m0 := hx2.free 0
        have m1 := hx2.cell (i := 0) rfl
        have HFn : RowKit.Hid (Few7A w Vs (some ⟨bb, off, none⟩) B n c m k b0 b1 b2 (j + 1) (.slice Aq (j + 1) cq) (w1.setCell ⟨b2, 0, none⟩ (.slice Aq (j + 1) cq))) := Lib.hid ⟨by
           have := how1.set_far (i := 0) (how1.low_ne (Nat.lt_succ_self b2)) Hl2.out (.slice Aq (j + 1) cq)
           rw [← few7V_next Vs j _ Hx.out, hfv]
           exact this, HXa.out.set_far' h02 _, HXb.out.set_far' h12 _, hx2.set_ 0 _⟩
        clear how1 hb1 hgr hne2 hx2 c0 c1 f0 z0 z1 z2 z3 z4
        go_wp2
        go_roundw
        case rel => exact ⟨j + 1, _, by omega, by omega, by go_num, HFn⟩
        case measure => simp [intOf]; omega
      · have hfv : few7V ((i1, i2), (rA, rn, rc, rL), lb, at_) = ((i1, i2), (rA, rn, rc, rL), lb, at_) := by unfold few7V; rw [if_neg h30]
        clear hxo hxo2
        go_upto_region 8 with fail
        clear l0 l1 l2 l3 l4
        obtain ⟨Wt, gWt⟩ : ∃ x, wo.alloc (.cells #[.int .i64 i1, .int .i64 i2, .slice rA rn rc, .string lb, .int .i64 at_] 38) = x := ⟨_, rfl⟩
        obtain ⟨g3, gg3⟩ : ∃ x, wo.heap.size = x := ⟨_, rfl⟩
        have HO : RowKit.Hid (Ow w (b2 + 1) 38 5 v j (rowsV vC ((Vs.take j).map few7V)) Wt) := Lib.hid (by rw [← gWt]; exact HF.out.ow.up (below1 _ _))
        have HX0 : RowKit.Hid (Whole Wt b0 25 [.slice (some ⟨bb, off, none⟩) n c, .slice B m k]) := Lib.hid (by rw [← gWt]; exact HF.out.x0.alloc _)
        have HX1 : RowKit.Hid (Whole Wt b1 25 [.slice none 0 0, .slice none 0 0]) := Lib.hid (by rw [← gWt]; exact HF.out.x1.alloc _)
        have HX2 : RowKit.Hid (Whole Wt b2 25 [v, .slice none 0 0]) := Lib.hid (by rw [← gWt]; exact HF.out.x2.alloc _)
        have HX3 : RowKit.Hid (Whole Wt g3 38 [.int .i64 i1, .int .i64 i2, .slice rA rn rc, .string lb, .int .i64 at_]) := Lib.hid (by rw [← gWt, ← gg3]; exact Whole.new_ wo 38 [_, _, _, _, _])
        rw [gWt, gg3]
        clear gWt gg3 HF c0
        have c0 := HX2.out.cell (i := 0) rfl
        have c1 := HX2.out.cell (i := 1) rfl
        have f0 := HX2.out.free 0
        have z0 := HX3.out.cell (i := 0) rfl
        have z1 := HX3.out.cell (i := 1) rfl
        have z2 := HX3.out.cell (i := 2) rfl
        have z3 := HX3.out.cell (i := 3) rfl
        have z4 := HX3.out.cell (i := 4) rfl
        refine wp_region_lit ?_
        refine wl_read (v := ?_) (some 32) rfl (by rfl) ?_ ?_
        rotate_left
        · go_simp; (try with_reducible rfl)
        simp only [Act.put, List.setIfInBounds_toArray, List.set_cons_zero, List.set_cons_succ]
        refine wl_read (v := ?_) (some 33) rfl (by rfl) ?_ ?_
        rotate_left
        · go_simp; (try with_reducible rfl)
        simp only [Act.put, List.setIfInBounds_toArray, List.set_cons_zero, List.set_cons_succ]
        refine wl_load (some 34) rfl (by rfl) 38 (.tmp 5) rfl g3 rfl 38 [.int .i64 i1, .int .i64 i2, .slice rA rn rc, .string lb, .int .i64 at_] _ HX3.out Try.underlying38 rfl (by kernel_rfl) ?_
        simp only [Act.put, List.setIfInBounds_toArray, List.set_cons_zero, List.set_cons_succ]
        refine wl_buildSlice (some 35) rfl (by rfl) 22 38 1 #[(0, .tmp 34)] rfl Try.underlying22 #[.int .i64 i1, .int .i64 i2, .slice rA rn rc, .string lb, .int .i64 at_] (by kernel_rfl) ?_
        simp only [Act.put, List.setIfInBounds_toArray, List.set_cons_zero, List.set_cons_succ]
        refine wpList_push2 rfl (.tmp 33) (.tmp 35) _ rfl _ 38 i0 _ 5 64 Try.underlying22 hi hz0 hz1 hz2 rfl (by decide) _ _ _ rfl (by exact HO.out.up (below1 _ _)) _ (some ⟨Wt.heap.size, 0, none⟩) 1 1 [.int .i64 i1, .int .i64 i2, .slice rA rn rc, .string lb, .int .i64 at_] rfl (by exact RdS.of_whole (Whole.new_ _ _ _) rfl) (by simp [Value.oneCell']) (by unfold maxLen; omega) (by omega) ?_
        intro v1 w1 how1 hb1 hgr
        obtain ⟨Aq, cq, rfl, -⟩ := how1.rds
        have hne2 := HO.out.low_ne (Nat.lt_succ_self b2)
        have HXa := Lib.hid ((HX0.out.alloc (.cells #[.int .i64 i1, .int .i64 i2, .slice rA rn rc, .string lb, .int .i64 at_] 38)).grown hgr (HO.out.low_ne (by omega)))
        have HXb := Lib.hid ((HX1.out.alloc (.cells #[.int .i64 i1, .int .i64 i2, .slice rA rn rc, .string lb, .int .i64 at_] 38)).grown hgr (HO.out.low_ne (by omega)))
        have hx2 := (HX2.out.alloc (.cells #[.int .i64 i1, .int .i64 i2, .slice rA rn rc, .string lb, .int .i64 at_] 38)).grown hgr hne2
        have m0 := hx2.free 0
        have m1 := hx2.cell (i := 0) rfl
        have HFn : RowKit.Hid (Few7A w Vs (some ⟨bb, off, none⟩) B n c m k b0 b1 b2 (j + 1) (.slice Aq (j + 1) cq) (w1.setCell ⟨b2, 0, none⟩ (.slice Aq (j + 1) cq))) := Lib.hid ⟨by
           have := how1.set_far (i := 0) (how1.low_ne (Nat.lt_succ_self b2)) Hl2.out (.slice Aq (j + 1) cq)
           rw [← few7V_next Vs j _ Hx.out, hfv]
           exact this, HXa.out.set_far' h02 _, HXb.out.set_far' h12 _, hx2.set_ 0 _⟩
        clear how1 hb1 hgr hne2 hx2 c0 c1 f0 z0 z1 z2 z3 z4
        go_wp2
        go_roundw
        case rel => exact ⟨j + 1, _, by omega, by omega, by go_num, HFn⟩
        case measure => simp [intOf]; omega
    · by_cases hjn : j < n
      · have hj3 : ¬ j < 26 := by omega
        have hjl : (Vs.take 26).length = j := by have := Hlv.out; rw [List.length_take]; omega
        have htk : Vs.take j = Vs.take 26 := by
          rw [← hjl, List.length_take]
          rcases Nat.le_total 26 Vs.length with h | h
          · rw [Nat.min_eq_left h]
          · rw [Nat.min_eq_right h, List.take_length, List.take_of_length_le h]
        obtain ⟨A1, c1, rfl, hr1⟩ := HF.out.ow.rds
        have Hcap1 : RowKit.Hid (c1 ≤ maxLen) := Lib.hid (own_cap HF.out.ow.own)
        rw [htk] at hr1
        have hne : ∀ a, A1 = some a → 0 < j → a.block ≠ b2 ∧ a.block ≠ b1 ∧ w.heap.size ≤ a.block := fun a ha _ => by
          subst ha
          have h9 := (HF.out.ow.own.lt a.block rfl).1
          have h8 := Hl2.out
          omega
        have hB2 : b2 < wo.heap.size := HF.out.x2.lt
        obtain ⟨B2, gB2⟩ : ∃ z, wo.heap.size = z := ⟨_, rfl⟩
        have hB3 : B2 ≤ wo.heap.size := by omega
        rw [gB2] at hr1 hB2
        have HG0 : RowKit.Hid (Few7B w Vs Es A B n c m k b0 b1 b2 B2 j A1 c1 0 (.slice none 0 0) (.slice none 0 0) wo) := Lib.hid ⟨Ow.nil_ HF.out.ow.below (by have := HF.out.ow.below.size; omega) hB3, HF.out.x0, HF.out.x1, HF.out.x2, hr1⟩
        have Hne := Lib.hid hne
        have Hjl := Lib.hid hjl
        have HlB : RowKit.Hid (w.heap.size ≤ B2) := Lib.hid (by have := HF.out.ow.below.size; omega)
        clear hr1 hne htk gB2 HF hB3 hjl
        go_wp2
        clear c0
        go_loopw [6] (fun si wr => ∃ (q : Nat) (v2 : Value), q ≤ m ∧ q ≤ 42 ∧ si = .int .i64 q ∧ RowKit.Hid (Few7B w Vs Es A B n c m k b0 b1 b2 B2 j A1 c1 q v2 v2 wr)) (fun si _ => m - (intOf si).toNat)
        case atStart => exact ⟨0, _, by omega, by omega, rfl, HG0⟩
        case round =>
          clear HG0
          obtain ⟨q, v2, hq, hq50, rfl, HG⟩ := hrel
          obtain ⟨wi, gwi⟩ : ∃ z, wr = z := ⟨_, rfl⟩
          rw [gwi] at HG ⊢
          clear gwi
          have d0 := HG.out.x0.cell (i := 1) rfl
          by_cases hgo2 : q < m ∧ q < 42
          · obtain ⟨hqm, hq5⟩ := hgo2
            obtain ⟨x, hx⟩ : ∃ x, Es[q]? = some x := ⟨_, List.getElem?_eq_getElem (by have := Hle.out; omega)⟩
            have Hx := Lib.hid hx
            obtain ⟨bb, off, rfl, hbB, hpl⟩ := HE.out.place eC_len (by decide) (by omega)
            have HPl := Lib.hid (hpl q _ hx)
            have HbB := Lib.hid hbB
            clear hx hpl hbB
            go_upto_region 12 with fail
            clear d0
            have HGd := Lib.hid (HG.out.below ((Below.refl _ _).drew))
            have HP : RowKit.Hid (∀ w', Kept (From_ B2) wi.drew w' → ∀ i u, (eC x)[i]? = some u → w'.cell? ((⟨bb, off + q * 4, none⟩ : Addr).add i) = some u) := Lib.hid (fun w' hk i u hu => hk.from_cell (by rw [add_block]; exact Nat.lt_of_lt_of_le HbB.out HlB.out) ((HGd.out.ow.below.cell (by rw [add_block]; exact HbB.out)).trans (HPl.out i u hu)))
            have ld1 : ∀ w', Kept (From_ B2) wi.drew w' → w'.cell? ⟨b2, 1, none⟩ = some v2 := fun w' hk => hk.from_cell hB2 (HGd.out.x2.cell (i := 1) rfl)
            have ld0 : ∀ w', Kept (From_ B2) wi.drew w' → w'.cell? ⟨b0, 1, none⟩ = some (.slice (some ⟨bb, off, none⟩) m k) := fun w' hk => hk.from_cell (show b0 < B2 by omega) (HGd.out.x0.cell (i := 1) rfl)
            clear HG
            refine wp_region_tail (From_ B2) [10] (by kernel_rfl) ?_
            apply wpT_next 0 (some 49) (by kernel_rfl)
            · simp only [List.getElem?_toArray, List.getElem?_cons_succ, List.getElem?_cons_zero]; exact rfl
            · rfl
            · kernel_rfl
            · kernel_rfl
            · kernel_rfl
            · exact fun _ _ _ _ h => h
            apply Exists.intro
            apply And.intro
            · apply yr_run; rfl; intro w' hw'; go_simp; (try with_reducible rfl)
            simp only [Act.put, List.setIfInBounds_toArray, List.set_cons_zero, List.set_cons_succ]
            apply wpT_next 1 (some 50) (by kernel_rfl)
            · simp only [List.getElem?_toArray, List.getElem?_cons_succ, List.getElem?_cons_zero]; exact rfl
            · rfl
            · kernel_rfl
            · kernel_rfl
            · kernel_rfl
            · exact fun _ _ _ _ h => h
            apply Exists.intro
            apply And.intro
            · apply yr_run; rfl; intro w' hw'; go_simp; (try with_reducible rfl)
            simp only [Act.put, List.setIfInBounds_toArray, List.set_cons_zero, List.set_cons_succ]
            apply wpT_next 2 (some 51) (by kernel_rfl)
            · simp only [List.getElem?_toArray, List.getElem?_cons_succ, List.getElem?_cons_zero]; exact rfl
            · rfl
            · kernel_rfl
            · kernel_rfl
            · kernel_rfl
            · exact fun _ _ _ _ h => h
            apply Exists.intro
            apply And.intro
            · apply yr_run; rfl; intro w' hw'; go_simp; (try with_reducible rfl)
            simp only [Act.put, List.setIfInBounds_toArray, List.set_cons_zero, List.set_cons_succ]
            apply wpT_next 3 (some 52) (by kernel_rfl)
            · simp only [List.getElem?_toArray, List.getElem?_cons_succ, List.getElem?_cons_zero]; exact rfl
            · rfl
            · kernel_rfl
            · kernel_rfl
            · kernel_rfl
            · exact fun _ _ _ _ h => h
            apply Exists.intro
            apply And.intro
            · apply yr_run; rfl; intro w' hw'; go_simp; (try with_reducible rfl)
            simp only [Act.put, List.setIfInBounds_toArray, List.set_cons_zero, List.set_cons_succ]
            apply wpT_next 4 (some 53) (by kernel_rfl)
            · simp only [List.getElem?_toArray, List.getElem?_cons_succ, List.getElem?_cons_zero]; exact rfl
            · rfl
            · kernel_rfl
            · kernel_rfl
            · kernel_rfl
            · exact fun _ _ _ _ h => h
            apply Exists.intro
            apply And.intro
            · apply yr_run; rfl; intro w' hw'; go_simp; (try with_reducible rfl)
            simp only [Act.put, List.setIfInBounds_toArray, List.set_cons_zero, List.set_cons_succ]
            apply wpT_next 5 (some 54) (by kernel_rfl)
            · simp only [List.getElem?_toArray, List.getElem?_cons_succ, List.getElem?_cons_zero]; exact rfl
            · rfl
            · kernel_rfl
            · kernel_rfl
            · kernel_rfl
            · exact fun _ _ _ _ h => h
            apply Exists.intro
            apply And.intro
            · apply yr_run; rfl; intro w' hw'; go_simp; (try with_reducible rfl)
            simp only [Act.put, List.setIfInBounds_toArray, List.set_cons_zero, List.set_cons_succ]
            apply wpT_next 6 (some 55) (by kernel_rfl)
            · simp only [List.getElem?_toArray, List.getElem?_cons_succ, List.getElem?_cons_zero]; exact rfl
            · rfl
            · kernel_rfl
            · kernel_rfl
            · kernel_rfl
            · exact fun _ _ _ _ h => h
            apply Exists.intro
            apply And.intro
            · exact yr_load_at (by rfl) 33 (.tmp 54) rfl ⟨bb, off + q * 4, none⟩ rfl (eC x) _ HP.out Try.underlying33 rfl (by kernel_rfl)
            simp only [Act.put, List.setIfInBounds_toArray, List.set_cons_zero, List.set_cons_succ]
            apply wpT_run 7 (some 56)
            · simp only [List.getElem?_toArray, List.getElem?_cons_succ, List.getElem?_cons_zero]; exact rfl
            · rfl
            · kernel_rfl
            · rfl
            intro w' hw'
            refine ⟨.slice (some ⟨w'.heap.size, 0, none⟩) 1 1, w'.alloc (.cells (eC x).toArray 33), exec_buildSlice 23 33 1 #[(0, .tmp 55)] (by rfl) Try.underlying23 _ (by kernel_rfl), Kept.of_below (below1 _ _), ?_⟩
            have HXd : RowKit.Hid (Ext wi.drew (w'.alloc (.cells (eC x).toArray 33))) := Lib.hid (Ext.trans hw' (below1 _ _))
            have HL : RowKit.Hid (RdS (w'.alloc (.cells (eC x).toArray 33)) (w'.alloc (.cells (eC x).toArray 33)).heap.size 4 (some ⟨w'.heap.size, 0, none⟩) 1 1 (eC x)) := Lib.hid (RdS.of_whole (Whole.new_ _ _ _) rfl)
            obtain ⟨W3, gW3⟩ : ∃ z, w'.alloc (.cells (eC x).toArray 33) = z := ⟨_, rfl⟩
            obtain ⟨g3, gg3⟩ : ∃ z, w'.heap.size = z := ⟨_, rfl⟩
            rw [gW3] at HXd HL ⊢
            rw [gg3] at HL ⊢
            clear hw' gW3 gg3
            simp only [Act.put, List.setIfInBounds_toArray, List.set_cons_zero, List.set_cons_succ]
            apply wpT_run 8 (some 57)
            · simp only [List.getElem?_toArray, List.getElem?_cons_succ, List.getElem?_cons_zero]; exact rfl
            · rfl
            · kernel_rfl
            · rfl
            intro w' hw'
            have HG8 := HGd.out.below (Ext.trans HXd.out hw')
            obtain ⟨v8, w'', hrun, ho, hb8⟩ := Ow.app (P := Try.prog) 23 23 33 i1 _ 4 40 B2 Try.underlying23 hi1 hz01 hz11 hz21 rfl (by decide) _ _ _ HG8.ow _ _ 1 1 _ (HL.out.bl hw') (eC_one x) (by unfold maxLen; omega) (by omega)
            obtain ⟨A8, c8, rfl, -⟩ := ho.rds
            refine ⟨_, w'', exec_append (by rfl) (by rfl) (by rfl) hrun, Kept.of_from hb8, ?_⟩
            have HG9 := Lib.hid (HG8.grow Hx.out ho hb8 (by omega) (by omega) hB2)
            obtain ⟨W4, gW4⟩ : ∃ z, w'' = z := ⟨_, rfl⟩
            rw [gW4] at HG9 ⊢
            clear hw' HG8 hrun ho hb8 gW4 HXd HL HGd
            simp only [Act.put, List.setIfInBounds_toArray, List.set_cons_zero, List.set_cons_succ]
            apply wpT_next 9 (some 58) (by kernel_rfl)
            · simp only [List.getElem?_toArray, List.getElem?_cons_succ, List.getElem?_cons_zero]; exact rfl
            · rfl
            · kernel_rfl
            · kernel_rfl
            · kernel_rfl
            · exact fun _ _ _ _ h => h
            apply Exists.intro
            apply And.intro
            · apply yr_run; rfl; intro w' hw'; go_simp; (try with_reducible rfl)
            simp only [Act.put, List.setIfInBounds_toArray, List.set_cons_zero, List.set_cons_succ]
            apply wpT_last 10
            · simp only [List.getElem?_toArray, List.getElem?_cons_succ, List.getElem?_cons_zero]; exact rfl
            · rfl
            · kernel_rfl
            · rfl
            · decide
            intro w' hw'
            have hx2 := HG9.out.x2.below hw'
            have hcl := hx2.cell (i := 1) rfl
            have hfr := hx2.free 1
            refine ⟨w'.setCell ⟨b2, 1, none⟩ (.slice A8 (q + 1) c8), ?_, ?_⟩
            · go_simp; first | done | exact rfl
            have HG10 := Lib.hid ((HG9.out.below hw').store h02 h12 hB2 Hl2.out (fun a ha h0 => (Hne.out a ha h0).1))
            obtain ⟨W5, gW5⟩ : ∃ z, w'.setCell ⟨b2, 1, none⟩ (.slice A8 (q + 1) c8) = z := ⟨_, rfl⟩
            rw [gW5] at HG10 ⊢
            clear hw' hx2 hcl hfr gW5 HG9
            try simp only [Act.put, List.setIfInBounds_toArray, List.set_cons_zero, List.set_cons_succ]
            refine wpT_done (by kernel_rfl) ?_ _
            intro W6 hw6
            have HG6 := Lib.hid (HG10.out.below hw6)
            clear hw6 ld0 ld1 HP HG10
            go_wp2
            go_roundw
            case rel => exact ⟨q + 1, _, by omega, by omega, by go_num, HG6⟩
            case measure => simp [intOf]; omega
          · have hql : (Es.take 42).length = q := by have := Hle.out; rw [List.length_take]; omega
            have htk2 : Es.take q = Es.take 42 := by
              rw [← hql, List.length_take]
              rcases Nat.le_total 42 Es.length with h | h
              · rw [Nat.min_eq_left h]
              · rw [Nat.min_eq_right h, List.take_length, List.take_of_length_le h]
            obtain ⟨A2, c2, rfl, hr2⟩ := HG.out.ow.rds
            have hcap2 : c2 ≤ maxLen := own_cap HG.out.ow.own
            have hfr2 : ∀ a, A2 = some a → 0 < q → w.heap.size ≤ a.block := fun a ha _ => by
              subst ha
              have h9 := (HG.out.ow.own.lt a.block rfl).1
              have h8 := HlB.out
              omega
            rw [htk2] at hr2
            have hne2 : ∀ a, A2 = some a → 0 < q → a.block ≠ b1 := fun a ha _ => by
              subst ha
              have h9 := (HG.out.ow.own.lt a.block rfl).1
              omega
            have hpost : ∃ A' c' B' k', Ending.returned (.agg #[.slice A1 j c1, .slice A2 q c2]) = .returned (.agg #[.slice A' (Vs.take 26).length c', .slice B' (Es.take 42).length k']) ∧
              DgIn ((wi.setCell ⟨b1, 0, none⟩ (.slice A1 j c1)).setCell ⟨b1, 1, none⟩ (.slice A2 q c2)) A' (Vs.take 26).length c' ((Vs.take 26).map few7V) B' (Es.take 42).length k' (Es.take 42) ∧ Below w.heap.size w ((wi.setCell ⟨b1, 0, none⟩ (.slice A1 j c1)).setCell ⟨b1, 1, none⟩ (.slice A2 q c2)) ∧ FwNew w A' (Vs.take 26).length c' B' (Es.take 42).length k' := by
              have hbel := (HG.out.ow.below.setCell (p := ⟨b1, 0, none⟩) Hl1.out (.slice A1 j c1)).setCell (p := ⟨b1, 1, none⟩) Hl1.out (.slice A2 q c2)
              refine ⟨A1, c1, A2, c2, by rw [Hjl.out, hql], ?_, hbel, ?_⟩
              rotate_left
              · rw [Hjl.out, hql]
                exact ⟨Hcap1.out, hcap2, fun a ha h0 => (Hne.out a ha h0).2.2, hfr2⟩
              rw [Hjl.out, hql]
              refine ⟨((HG.out.rv.far_ (fun a ha h0 => (Hne.out a ha h0).2.1) _).far_ (fun a ha h0 => (Hne.out a ha h0).2.1) _).up (Below.refl _ _) (by simpa [World.setCell] using HG.out.ow.hi), ((hr2.far_ hne2 _).far_ hne2 _).up (Below.refl _ _) (by simp [World.setCell]), fun y hy => ?_⟩
              obtain ⟨x, hx, rfl⟩ := List.mem_map.1 hy
              exact (RgOk.few7 (HRg.out x (List.mem_of_mem_take hx))).below hbel
            have hx1 := (HG.out.x1.set_ 0 (.slice A1 j c1)).set_ 1 (.slice A2 q c2)
            have e0 := HG.out.x2.cell (i := 0) rfl
            have e1 := HG.out.x2.cell (i := 1) rfl
            have f0 := HG.out.x1.free 0
            have f1 := HG.out.x1.free 1
            have k0 := HG.out.x1.cell (i := 0) rfl
            have k1 := HG.out.x1.cell (i := 1) rfl
            have Hpost := Lib.hid hpost
            have Hx1 := Lib.hid hx1
            clear hpost hx1 hr2 hne2 HG htk2 hql hcap2 hfr2
            by_cases hqm : q < m
            · have hq5 : ¬ q < 42 := by omega
              go_wp2
              exact ret_whole rfl b1 rfl Hx1.out Try.underlying25 rfl (by kernel_rfl) rfl Hpost.out
            · go_wp2
              exact ret_whole rfl b1 rfl Hx1.out Try.underlying25 rfl (by kernel_rfl) rfl Hpost.out
      · have hjl : (Vs.take 26).length = j := by have := Hlv.out; rw [List.length_take]; omega
        have htk : Vs.take j = Vs.take 26 := by
          rw [← hjl, List.length_take]
          rcases Nat.le_total 26 Vs.length with h | h
          · rw [Nat.min_eq_left h]
          · rw [Nat.min_eq_right h, List.take_length, List.take_of_length_le h]
        obtain ⟨A1, c1, rfl, hr1⟩ := HF.out.ow.rds
        have Hcap1 : RowKit.Hid (c1 ≤ maxLen) := Lib.hid (own_cap HF.out.ow.own)
        rw [htk] at hr1
        have hne : ∀ a, A1 = some a → 0 < j → a.block ≠ b2 ∧ a.block ≠ b1 ∧ w.heap.size ≤ a.block := fun a ha _ => by
          subst ha
          have h9 := (HF.out.ow.own.lt a.block rfl).1
          have h8 := Hl2.out
          omega
        have hB2 : b2 < wo.heap.size := HF.out.x2.lt
        obtain ⟨B2, gB2⟩ : ∃ z, wo.heap.size = z := ⟨_, rfl⟩
        have hB3 : B2 ≤ wo.heap.size := by omega
        rw [gB2] at hr1 hB2
        have HG0 : RowKit.Hid (Few7B w Vs Es A B n c m k b0 b1 b2 B2 j A1 c1 0 (.slice none 0 0) (.slice none 0 0) wo) := Lib.hid ⟨Ow.nil_ HF.out.ow.below (by have := HF.out.ow.below.size; omega) hB3, HF.out.x0, HF.out.x1, HF.out.x2, hr1⟩
        have Hne := Lib.hid hne
        have Hjl := Lib.hid hjl
        have HlB : RowKit.Hid (w.heap.size ≤ B2) := Lib.hid (by have := HF.out.ow.below.size; omega)
        clear hr1 hne htk gB2 HF hB3 hjl
        go_wp2
        clear c0
        go_loopw [6] (fun si wr => ∃ (q : Nat) (v2 : Value), q ≤ m ∧ q ≤ 42 ∧ si = .int .i64 q ∧ RowKit.Hid (Few7B w Vs Es A B n c m k b0 b1 b2 B2 j A1 c1 q v2 v2 wr)) (fun si _ => m - (intOf si).toNat)
        case atStart => exact ⟨0, _, by omega, by omega, rfl, HG0⟩
        case round =>
          clear HG0
          obtain ⟨q, v2, hq, hq50, rfl, HG⟩ := hrel
          obtain ⟨wi, gwi⟩ : ∃ z, wr = z := ⟨_, rfl⟩
          rw [gwi] at HG ⊢
          clear gwi
          have d0 := HG.out.x0.cell (i := 1) rfl
          by_cases hgo2 : q < m ∧ q < 42
          · obtain ⟨hqm, hq5⟩ := hgo2
            obtain ⟨x, hx⟩ : ∃ x, Es[q]? = some x := ⟨_, List.getElem?_eq_getElem (by have := Hle.out; omega)⟩
            have Hx := Lib.hid hx
            obtain ⟨bb, off, rfl, hbB, hpl⟩ := HE.out.place eC_len (by decide) (by omega)
            have HPl := Lib.hid (hpl q _ hx)
            have HbB := Lib.hid hbB
            clear hx hpl hbB
            go_upto_region 12 with fail
            clear d0
            have HGd := Lib.hid (HG.out.below ((Below.refl _ _).drew))
            have HP : RowKit.Hid (∀ w', Kept (From_ B2) wi.drew w' → ∀ i u, (eC x)[i]? = some u → w'.cell? ((⟨bb, off + q * 4, none⟩ : Addr).add i) = some u) := Lib.hid (fun w' hk i u hu => hk.from_cell (by rw [add_block]; exact Nat.lt_of_lt_of_le HbB.out HlB.out) ((HGd.out.ow.below.cell (by rw [add_block]; exact HbB.out)).trans (HPl.out i u hu)))
            have ld1 : ∀ w', Kept (From_ B2) wi.drew w' → w'.cell? ⟨b2, 1, none⟩ = some v2 := fun w' hk => hk.from_cell hB2 (HGd.out.x2.cell (i := 1) rfl)
            have ld0 : ∀ w', Kept (From_ B2) wi.drew w' → w'.cell? ⟨b0, 1, none⟩ = some (.slice (some ⟨bb, off, none⟩) m k) := fun w' hk => hk.from_cell (show b0 < B2 by omega) (HGd.out.x0.cell (i := 1) rfl)
            clear HG
            refine wp_region_tail (From_ B2) [10] (by kernel_rfl) ?_
            apply wpT_next 0 (some 49) (by kernel_rfl)
            · simp only [List.getElem?_toArray, List.getElem?_cons_succ, List.getElem?_cons_zero]; exact rfl
            · rfl
            · kernel_rfl
            · kernel_rfl
            · kernel_rfl
            · exact fun _ _ _ _ h => h
            apply Exists.intro
            apply And.intro
            · apply yr_run; rfl; intro w' hw'; go_simp; (try with_reducible rfl)
            simp only [Act.put, List.setIfInBounds_toArray, List.set_cons_zero, List.set_cons_succ]
            apply wpT_next 1 (some 50) (by kernel_rfl)
            · simp only [List.getElem?_toArray, List.getElem?_cons_succ, List.getElem?_cons_zero]; exact rfl
            · rfl
            · kernel_rfl
            · kernel_rfl
            · kernel_rfl
            · exact fun _ _ _ _ h => h
            apply Exists.intro
            apply And.intro
            · apply yr_run; rfl; intro w' hw'; go_simp; (try with_reducible rfl)
            simp only [Act.put, List.setIfInBounds_toArray, List.set_cons_zero, List.set_cons_succ]
            apply wpT_next 2 (some 51) (by kernel_rfl)
            · simp only [List.getElem?_toArray, List.getElem?_cons_succ, List.getElem?_cons_zero]; exact rfl
            · rfl
            · kernel_rfl
            · kernel_rfl
            · kernel_rfl
            · exact fun _ _ _ _ h => h
            apply Exists.intro
            apply And.intro
            · apply yr_run; rfl; intro w' hw'; go_simp; (try with_reducible rfl)
            simp only [Act.put, List.setIfInBounds_toArray, List.set_cons_zero, List.set_cons_succ]
            apply wpT_next 3 (some 52) (by kernel_rfl)
            · simp only [List.getElem?_toArray, List.getElem?_cons_succ, List.getElem?_cons_zero]; exact rfl
            · rfl
            · kernel_rfl
            · kernel_rfl
            · kernel_rfl
            · exact fun _ _ _ _ h => h
            apply Exists.intro
            apply And.intro
            · apply yr_run; rfl; intro w' hw'; go_simp; (try with_reducible rfl)
            simp only [Act.put, List.setIfInBounds_toArray, List.set_cons_zero, List.set_cons_succ]
            apply wpT_next 4 (some 53) (by kernel_rfl)
            · simp only [List.getElem?_toArray, List.getElem?_cons_succ, List.getElem?_cons_zero]; exact rfl
            · rfl
            · kernel_rfl
            · kernel_rfl
            · kernel_rfl
            · exact fun _ _ _ _ h => h
            apply Exists.intro
            apply And.intro
            · apply yr_run; rfl; intro w' hw'; go_simp; (try with_reducible rfl)
            simp only [Act.put, List.setIfInBounds_toArray, List.set_cons_zero, List.set_cons_succ]
            apply wpT_next 5 (some 54) (by kernel_rfl)
            · simp only [List.getElem?_toArray, List.getElem?_cons_succ, List.getElem?_cons_zero]; exact rfl
            · rfl
            · kernel_rfl
            · kernel_rfl
            · kernel_rfl
            · exact fun _ _ _ _ h => h
            apply Exists.intro
            apply And.intro
            · apply yr_run; rfl; intro w' hw'; go_simp; (try with_reducible rfl)
            simp only [Act.put, List.setIfInBounds_toArray, List.set_cons_zero, List.set_cons_succ]
            apply wpT_next 6 (some 55) (by kernel_rfl)
            · simp only [List.getElem?_toArray, List.getElem?_cons_succ, List.getElem?_cons_zero]; exact rfl
            · rfl
            · kernel_rfl
            · kernel_rfl
            · kernel_rfl
            · exact fun _ _ _ _ h => h
            apply Exists.intro
            apply And.intro
            · exact yr_load_at (by rfl) 33 (.tmp 54) rfl ⟨bb, off + q * 4, none⟩ rfl (eC x) _ HP.out Try.underlying33 rfl (by kernel_rfl)
            simp only [Act.put, List.setIfInBounds_toArray, List.set_cons_zero, List.set_cons_succ]
            apply wpT_run 7 (some 56)
            · simp only [List.getElem?_toArray, List.getElem?_cons_succ, List.getElem?_cons_zero]; exact rfl
            · rfl
            · kernel_rfl
            · rfl
            intro w' hw'
            refine ⟨.slice (some ⟨w'.heap.size, 0, none⟩) 1 1, w'.alloc (.cells (eC x).toArray 33), exec_buildSlice 23 33 1 #[(0, .tmp 55)] (by rfl) Try.underlying23 _ (by kernel_rfl), Kept.of_below (below1 _ _), ?_⟩
            have HXd : RowKit.Hid (Ext wi.drew (w'.alloc (.cells (eC x).toArray 33))) := Lib.hid (Ext.trans hw' (below1 _ _))
            have HL : RowKit.Hid (RdS (w'.alloc (.cells (eC x).toArray 33)) (w'.alloc (.cells (eC x).toArray 33)).heap.size 4 (some ⟨w'.heap.size, 0, none⟩) 1 1 (eC x)) := Lib.hid (RdS.of_whole (Whole.new_ _ _ _) rfl)
            obtain ⟨W3, gW3⟩ : ∃ z, w'.alloc (.cells (eC x).toArray 33) = z := ⟨_, rfl⟩
            obtain ⟨g3, gg3⟩ : ∃ z, w'.heap.size = z := ⟨_, rfl⟩
            rw [gW3] at HXd HL ⊢
            rw [gg3] at HL ⊢
            clear hw' gW3 gg3
            simp only [Act.put, List.setIfInBounds_toArray, List.set_cons_zero, List.set_cons_succ]
            apply wpT_run 8 (some 57)
            · simp only [List.getElem?_toArray, List.getElem?_cons_succ, List.getElem?_cons_zero]; exact rfl
            · rfl
            · kernel_rfl
            · rfl
            intro w' hw'
            have HG8 := HGd.out.below (Ext.trans HXd.out hw')
            obtain ⟨v8, w'', hrun, ho, hb8⟩ := Ow.app (P := Try.prog) 23 23 33 i1 _ 4 40 B2 Try.underlying23 hi1 hz01 hz11 hz21 rfl (by decide) _ _ _ HG8.ow _ _ 1 1 _ (HL.out.bl hw') (eC_one x) (by unfold maxLen; omega) (by omega)
            obtain ⟨A8, c8, rfl, -⟩ := ho.rds
            refine ⟨_, w'', exec_append (by rfl) (by rfl) (by rfl) hrun, Kept.of_from hb8, ?_⟩
            have HG9 := Lib.hid (HG8.grow Hx.out ho hb8 (by omega) (by omega) hB2)
            obtain ⟨W4, gW4⟩ : ∃ z, w'' = z := ⟨_, rfl⟩
            rw [gW4] at HG9 ⊢
            clear hw' HG8 hrun ho hb8 gW4 HXd HL HGd
            simp only [Act.put, List.setIfInBounds_toArray, List.set_cons_zero, List.set_cons_succ]
            apply wpT_next 9 (some 58) (by kernel_rfl)
            · simp only [List.getElem?_toArray, List.getElem?_cons_succ, List.getElem?_cons_zero]; exact rfl
            · rfl
            · kernel_rfl
            · kernel_rfl
            · kernel_rfl
            · exact fun _ _ _ _ h => h
            apply Exists.intro
            apply And.intro
            · apply yr_run; rfl; intro w' hw'; go_simp; (try with_reducible rfl)
            simp only [Act.put, List.setIfInBounds_toArray, List.set_cons_zero, List.set_cons_succ]
            apply wpT_last 10
            · simp only [List.getElem?_toArray, List.getElem?_cons_succ, List.getElem?_cons_zero]; exact rfl
            · rfl
            · kernel_rfl
            · rfl
            · decide
            intro w' hw'
            have hx2 := HG9.out.x2.below hw'
            have hcl := hx2.cell (i := 1) rfl
            have hfr := hx2.free 1
            refine ⟨w'.setCell ⟨b2, 1, none⟩ (.slice A8 (q + 1) c8), ?_, ?_⟩
            · go_simp; first | done | exact rfl
            have HG10 := Lib.hid ((HG9.out.below hw').store h02 h12 hB2 Hl2.out (fun a ha h0 => (Hne.out a ha h0).1))
            obtain ⟨W5, gW5⟩ : ∃ z, w'.setCell ⟨b2, 1, none⟩ (.slice A8 (q + 1) c8) = z := ⟨_, rfl⟩
            rw [gW5] at HG10 ⊢
            clear hw' hx2 hcl hfr gW5 HG9
            try simp only [Act.put, List.setIfInBounds_toArray, List.set_cons_zero, List.set_cons_succ]
            refine wpT_done (by kernel_rfl) ?_ _
            intro W6 hw6
            have HG6 := Lib.hid (HG10.out.below hw6)
            clear hw6 ld0 ld1 HP HG10
            go_wp2
            go_roundw
            case rel => exact ⟨q + 1, _, by omega, by omega, by go_num, HG6⟩
            case measure => simp [intOf]; omega
          · have hql : (Es.take 42).length = q := by have := Hle.out; rw [List.length_take]; omega
            have htk2 : Es.take q = Es.take 42 := by
              rw [← hql, List.length_take]
              rcases Nat.le_total 42 Es.length with h | h
              · rw [Nat.min_eq_left h]
              · rw [Nat.min_eq_right h, List.take_length, List.take_of_length_le h]
            obtain ⟨A2, c2, rfl, hr2⟩ := HG.out.ow.rds
            have hcap2 : c2 ≤ maxLen := own_cap HG.out.ow.own
            have hfr2 : ∀ a, A2 = some a → 0 < q → w.heap.size ≤ a.block := fun a ha _ => by
              subst ha
              have h9 := (HG.out.ow.own.lt a.block rfl).1
              have h8 := HlB.out
              omega
            rw [htk2] at hr2
            have hne2 : ∀ a, A2 = some a → 0 < q → a.block ≠ b1 := fun a ha _ => by
              subst ha
              have h9 := (HG.out.ow.own.lt a.block rfl).1
              omega
            have hpost : ∃ A' c' B' k', Ending.returned (.agg #[.slice A1 j c1, .slice A2 q c2]) = .returned (.agg #[.slice A' (Vs.take 26).length c', .slice B' (Es.take 42).length k']) ∧
              DgIn ((wi.setCell ⟨b1, 0, none⟩ (.slice A1 j c1)).setCell ⟨b1, 1, none⟩ (.slice A2 q c2)) A' (Vs.take 26).length c' ((Vs.take 26).map few7V) B' (Es.take 42).length k' (Es.take 42) ∧ Below w.heap.size w ((wi.setCell ⟨b1, 0, none⟩ (.slice A1 j c1)).setCell ⟨b1, 1, none⟩ (.slice A2 q c2)) ∧ FwNew w A' (Vs.take 26).length c' B' (Es.take 42).length k' := by
              have hbel := (HG.out.ow.below.setCell (p := ⟨b1, 0, none⟩) Hl1.out (.slice A1 j c1)).setCell (p := ⟨b1, 1, none⟩) Hl1.out (.slice A2 q c2)
              refine ⟨A1, c1, A2, c2, by rw [Hjl.out, hql], ?_, hbel, ?_⟩
              rotate_left
              · rw [Hjl.out, hql]
                exact ⟨Hcap1.out, hcap2, fun a ha h0 => (Hne.out a ha h0).2.2, hfr2⟩
              rw [Hjl.out, hql]
              refine ⟨((HG.out.rv.far_ (fun a ha h0 => (Hne.out a ha h0).2.1) _).far_ (fun a ha h0 => (Hne.out a ha h0).2.1) _).up (Below.refl _ _) (by simpa [World.setCell] using HG.out.ow.hi), ((hr2.far_ hne2 _).far_ hne2 _).up (Below.refl _ _) (by simp [World.setCell]), fun y hy => ?_⟩
              obtain ⟨x, hx, rfl⟩ := List.mem_map.1 hy
              exact (RgOk.few7 (HRg.out x (List.mem_of_mem_take hx))).below hbel
            have hx1 := (HG.out.x1.set_ 0 (.slice A1 j c1)).set_ 1 (.slice A2 q c2)
            have e0 := HG.out.x2.cell (i := 0) rfl
            have e1 := HG.out.x2.cell (i := 1) rfl
            have f0 := HG.out.x1.free 0
            have f1 := HG.out.x1.free 1
            have k0 := HG.out.x1.cell (i := 0) rfl
            have k1 := HG.out.x1.cell (i := 1) rfl
            have Hpost := Lib.hid hpost
            have Hx1 := Lib.hid hx1
            clear hpost hx1 hr2 hne2 HG htk2 hql hcap2 hfr2
            by_cases hqm : q < m
            · have hq5 : ¬ q < 42 := by omega
              go_wp2
              exact ret_whole rfl b1 rfl Hx1.out Try.underlying25 rfl (by kernel_rfl) rfl Hpost.out
            · go_wp2
              exact ret_whole rfl b1 rfl Hx1.out Try.underlying25 rfl (by kernel_rfl) rfl Hpost.out
theorem few8_step {w0 : World} {A B : Option Addr} {n c m k : Nat} {Vs : List VC} {Es : List EC} (h : DgIn w0 A n c Vs B m k Es) (hg : GoodD Vs Es) (hn : n ≤ maxLen) (hm : m ≤ maxLen) (W : World) (hb : Below w0.heap.size w0 W) :
    Calls Try.prog 24 #[.agg #[.slice A n c, .slice B m k]] W fun e W' => ∃ A' n' c' B' m' k', e = .returned (.agg #[.slice A' n' c', .slice B' m' k']) ∧
      Few7D w0 W W' A' n' c' ((Vs.take 26).map few7V) B' m' k' (Es.take 42) ∧ Below W.heap.size W W' := by
  refine (few8_any A n c Vs B m k Es W (h.below hb) hn hm).mono ?_
  rintro e W' ⟨A', c', B', k', rfl, hd, hbl, hf⟩
  refine ⟨A', _, c', B', _, k', rfl, ⟨hd, hg.few7, by rw [List.length_take]; omega, by rw [List.length_take]; omega, fun x hx => ?_, fun x hx a ha h0 => ?_, hf, by rw [List.length_map], rfl⟩, hbl⟩
  · obtain ⟨y, hy, rfl⟩ := List.mem_map.1 hx
    exact (few7V_ring y).2.1
  · obtain ⟨y, hy, rfl⟩ := List.mem_map.1 hx
    rw [(few7V_ring y).1] at ha
    exact (h.r y (List.mem_of_mem_take hy)).2.low a ha (Nat.lt_of_lt_of_le h0 (few7V_ring y).2.2.1)
end Go.Proofs.Ytahbfdhjgnlmdaa

/- A dart that stands at another vertex, or at two: what a caller needs; a diagram whose rings are replaced one by one. -/
namespace Go.Proofs.Ytahbfdhjgnlmdaa
open Go.RowKit
set_option linter.unusedSimpArgs false
set_option linter.unusedVariables false


theorem vS_remV {x : D} {u v : VC} (h : vS u = vS v) : vS (remV x u) = vS (remV x v) := by
  obtain ⟨⟨u1, u2⟩, ⟨_, _, _, uL⟩, ul, ua⟩ := u
  obtain ⟨⟨v1, v2⟩, ⟨_, _, _, vL⟩, vl, va⟩ := v
  simp only [vS, Prod.mk.injEq] at h
  obtain ⟨⟨rfl, rfl⟩, rfl, rfl, rfl⟩ := h
  rfl
theorem rings_same {Us Ws : List VC} (h : Us.map vS = Ws.map vS) : ringsOf Us = ringsOf Ws := by
  have e : ∀ L : List VC, ringsOf L = ((L.map vS).map (fun s => s.2.1)).flatten := fun L => by
    rw [List.map_map]
    exact List.flatMap_def ..
  rw [e, e, h]
theorem at_some {Vs : List VC} {x : D} {p : Int × Int} (h : atV Vs x = (p, true)) : ∃ v ∈ Vs, x ∈ v.2.1.2.2.2 ∧ v.1 = p := by
  unfold atV at h
  split at h
  · rename_i v hv
    injection h with h1
    exact ⟨v, List.mem_of_find?_eq_some hv, by simpa using List.find?_some hv, h1⟩
  · simp at h
theorem vS_get {Us Ws : List VC} (h : Us.map vS = Ws.map vS) {k : Nat} {v : VC} (hv : Ws[k]? = some v) : ∃ u, Us[k]? = some u ∧ vS u = vS v := by
  have h1 : (Us.map vS)[k]? = some (vS v) := by rw [h, List.getElem?_map, hv]; rfl
  rw [List.getElem?_map] at h1
  cases hu : Us[k]? with
  | none => rw [hu] at h1; cases h1
  | some u =>
    rw [hu] at h1
    exact ⟨u, rfl, Option.some.inj h1⟩
theorem moves_num {Va Us Ws : List VC} {Ea : List EC} {x : D} {p : Int × Int} {k : Nat} {v : VC} (h : Formed Va Ea) (hx : atV Va x = (p, true)) (hv : Va[k]? = some v) (hne : v.1 ≠ p)
    (hu : Us.map vS = ((Va.map (remV x)).set k (insV x (remV x v))).map vS) (hw : Ws.map vS = (Va.set k (insV x v)).map vS) :
    formD Us Ea = 0 ∧ formD Ws Ea = 10 ∧ atV Us x = (v.1, true) ∧ ¬ (Us.map vS = Va.map vS) ∧ (∀ d ∈ ringsOf Us, d ∈ ringsOf Va) ∧ (∀ d ∈ ringsOf Ws, d ∈ ringsOf Va) ∧ (ringsOf Us).length ≤ 100 ∧ (ringsOf Ws).length ≤ 101 := by
  obtain ⟨q, hq, hxq, rfl⟩ := at_some hx
  have hvm := List.mem_of_getElem? hv
  have hno := h.else_ hq hxq hvm hne
  have hxr : x ∈ ringsOf Va := List.mem_flatMap.2 ⟨q, hq, hxq⟩
  have hM := h.moved hxr hv
  have hU : Formed Us Ea := hM.same hu
  have hk := (List.getElem?_eq_some_iff.1 hv).1
  have hlen := h.len
  have h40 := h.e40
  obtain ⟨u, hu1, hu2⟩ := vS_get hu (k := k) (v := insV x (remV x v)) (by rw [List.getElem?_set, if_pos rfl, if_pos (by simpa using hk)])
  have hxu : x ∈ u.2.1.2.2.2 := by
    have e : u.2.1.2.2.2 = turnD (insR (turnD (filD v.2.1.2.2.2 x)) (0, 0, 0) x) := congrArg (fun s : (Int × Int) × List D × ByteArray × Int => s.2.1) hu2
    rw [e]
    have hn : ¬ x ∈ turnD (filD v.2.1.2.2.2 x) := fun q => fil_not _ x ((turn_perm _).mem_iff.1 q)
    exact (turn_perm _).mem_iff.2 ((insR_perm hn).mem_iff.2 (List.mem_cons_self ..))
  have eR := rings_same hu
  have pR := hU.pm.trans h.pm.symm
  have eW := rings_same hw
  have pW := rings_set hv (x := x) (u' := insV x v) ((turn_perm _).trans (insR_perm hno))
  refine ⟨(form0 Us Ea).2 hU, (formD_same hw).trans (h.two hxr hv hno), ?_, ?_, fun d hd => pR.mem_iff.1 hd, fun d hd => ?_, ?_, ?_⟩
  · rw [hU.at (List.mem_of_getElem? hu1) hxu]
    exact congrArg (fun i => (i, true)) (congrArg (fun s : (Int × Int) × List D × ByteArray × Int => s.1) hu2)
  · intro e
    obtain ⟨u', hu', e'⟩ := vS_get e hv
    rw [hu1] at hu'
    obtain rfl := Option.some.inj hu'
    have e2 : u.2.1.2.2.2 = v.2.1.2.2.2 := congrArg (fun s : (Int × Int) × List D × ByteArray × Int => s.2.1) e'
    exact hno (e2 ▸ hxu)
  · rw [eW] at hd
    rcases List.mem_cons.1 (pW.mem_iff.1 hd) with rfl | hd
    · exact hxr
    · exact hd
  · rw [pR.length_eq]; omega
  · rw [eW, pW.length_eq, List.length_cons]; omega
theorem ring_len {Us : List VC} {u : VC} (h : u ∈ Us) : u.2.1.2.2.2.length ≤ (ringsOf Us).length := by
  obtain ⟨a, b, rfl⟩ := List.append_of_mem h
  rw [ringsOf_app, ringsOf_one]
  simp only [List.length_append]
  omega

/-- A cell that holds what a row does not hold is none of the row's. -/
theorem rds_poke {w : World} {B s n c : Nat} {A : Option Addr} {xs : List Value} (h : RdS w B s A n c xs) {p : Addr} {v : Value} (hp : w.cell? p = some v) (hv : ¬ v ∈ xs) (u : Value) : RdS (w.setCell p u) B s A n c xs :=
  ⟨h.len, h.none_, h.le, h.low, fun a ha j z hz => by
    have h1 := h.cell a ha j z hz
    by_cases e : p = a.add j
    · rw [← e, hp] at h1
      obtain rfl := Option.some.inj h1
      exact absurd (List.mem_of_getElem? hz) hv
    · rw [World.cell?_setCell_other _ _ _ _ e]
      exact h1⟩
theorem size_setCell (w : World) (p : Addr) (u : Value) : (w.setCell p u).heap.size = w.heap.size := by simp
theorem rowsV_mem {α : Type} {f : α → List Value} : ∀ {L : List α} {v : Value}, v ∈ rowsV f L → ∃ x ∈ L, v ∈ f x := by
  intro L
  induction L with
  | nil => intro v h; cases h
  | cons a r ih =>
    intro v h
    rcases List.mem_append.1 (show v ∈ f a ++ rowsV f r from h) with h | h
    · exact ⟨a, List.mem_cons_self .., h⟩
    · obtain ⟨x, hx, h2⟩ := ih h
      exact ⟨x, List.mem_cons_of_mem _ hx, h2⟩
theorem no_slice_e {Es : List EC} {A : Option Addr} {n c : Nat} : ¬ Value.slice A n c ∈ rowsV eC Es := fun h => by
  obtain ⟨x, _, hx⟩ := rowsV_mem h
  simp [eC] at hx
theorem no_slice_d {L : List D} {A : Option Addr} {n c : Nat} : ¬ Value.slice A n c ∈ dartsV L := fun h => by
  rw [dartsV_rows] at h
  obtain ⟨x, _, hx⟩ := rowsV_mem h
  simp [dC] at hx
/-- A diagram whose vertices are of one's own. -/
structure Wr (W : World) (lo : Nat) (A : Option Addr) (n c : Nat) (Us : List VC) (B : Option Addr) (m k : Nat) (Es : List EC) : Prop where
  v : W.ownsRow lo 38 5 (.slice A n c) n (rowsV vC Us)
  e : RdS W W.heap.size 4 B m k (rowsV eC Es)
  r : ∀ x ∈ Us, RgOk W x.2.1
section
variable {W W' : World} {lo : Nat} {A : Option Addr} {n c : Nat} {Us : List VC} {B : Option Addr} {m k : Nat} {Es : List EC}
theorem Cl.wr (h : Cl W lo A n c Us B m k Es) : Wr W lo A n c Us B m k Es := ⟨h.v, h.dg.e, h.dg.r⟩
theorem Wr.dg (h : Wr W lo A n c Us B m k Es) : DgIn W A n c Us B m k Es := ⟨own_rds h.v, h.e, h.r⟩
theorem Wr.bl (h : Wr W lo A n c Us B m k Es) (hb : Below W.heap.size W W') : Wr W' lo A n c Us B m k Es := ⟨own_up h.v hb, h.e.bl hb, fun x hx => (h.r x hx).bl hb⟩
theorem Wr.al (h : Wr W lo A n c Us B m k Es) (o : Obj) : Wr (W.alloc o) lo A n c Us B m k Es := h.bl (below1 W o)
theorem Wr.dr (h : Wr W lo A n c Us B m k Es) : Wr W.drew lo A n c Us B m k Es := h.bl ((Below.refl _ _).drew)
theorem rg_poke {g i : Nat} {R : Rg} (h : RgOk W R) {A1 : Option Addr} {n1 c1 : Nat} (hp : W.cell? ⟨g, i, none⟩ = some (.slice A1 n1 c1)) (u : Value) : RgOk (W.setCell ⟨g, i, none⟩ u) R :=
  ⟨h.1, by rw [size_setCell]; exact rds_poke h.2 hp no_slice_d u⟩
theorem Wr.far (h : Wr W lo A n c Us B m k Es) {g i : Nat} {A1 : Option Addr} {n1 c1 : Nat} (hp : W.cell? ⟨g, i, none⟩ = some (.slice A1 n1 c1)) (hg : ∀ a, A = some a → g ≠ a.block) (u : Value) : Wr (W.setCell ⟨g, i, none⟩ u) lo A n c Us B m k Es :=
  ⟨own_cell_far h.v (fun e => by
    cases A with
    | none => cases e
    | some a =>
      exact hg a rfl (Option.some.inj e)) u, by rw [size_setCell]; exact rds_poke h.e hp no_slice_e u, fun x hx => rg_poke (h.r x hx) hp u⟩
theorem Wr.put (h : Wr W lo A n c Us B m k Es) {j : Nat} {x : VC} (hx : Us[j]? = some x) (hj : j < n) (R : Rg) (hR : RgOk W R) :
    ∃ g, A = some ⟨g, 0, none⟩ ∧ lo ≤ g ∧ (∃ cs, Whole W g 38 cs) ∧ W.cell? ⟨g, j * 5 + 2, none⟩ = some (.slice x.2.1.1 x.2.1.2.1 x.2.1.2.2.1) ∧ W.frozen? ⟨g, j * 5 + 2, none⟩ = false ∧
      Wr (W.setCell ⟨g, j * 5 + 2, none⟩ (.slice R.1 R.2.1 R.2.2.1)) lo A n c (Us.set j (x.1, R, x.2.2)) B m k Es := by
  obtain ⟨g, junk, e, hlo, hw, hc, hf, ho⟩ := own_poke (i := 2) (y := (x.1, R, x.2.2)) (u := .slice R.1 R.2.1 R.2.2.1) vC_len h.v hx hj (by omega) rfl
  have hc2 : W.cell? ⟨g, j * 5 + 2, none⟩ = some (.slice x.2.1.1 x.2.1.2.1 x.2.1.2.2.1) := hc.trans rfl
  refine ⟨g, e, hlo, ⟨_, hw⟩, hc2, hf, ho, by rw [size_setCell]; exact rds_poke h.e hc2 no_slice_e _, fun y hy => rg_poke ?_ hc2 _⟩
  rcases List.mem_or_eq_of_mem_set hy with hy | rfl
  · exact h.r y hy
  · exact hR
end
end Go.Proofs.Ytahbfdhjgnlmdaa

/- The document's Clone. -/
namespace Go.Proofs.Ytahbfdhjgnlmdaa
open Go.RowKit
set_option linter.unusedSimpArgs false
set_option linter.unusedVariables false


theorem info_dartc : (Try.prog.info? 35).map (fun i => (i.zero, i.size, i.bytes)) = some (some (.agg #[.int .i64 0, .int .i64 0, .int .i64 0]), 3, 24) := by kernel_rfl
theorem own_lo0 {W : World} {B B' n : Nat} {e : TypeId} {size : Nat} {v : Value} {xs : List Value} (h : W.ownsRow B e size v n xs) (hB : B' ≤ B) : W.ownsRow B' e size v n xs := by
  refine ⟨h.1, ?_⟩
  rcases h.2 with hn | ⟨g, cap, cur, h1, hb, rest⟩
  · exact .inl hn
  · exact .inr ⟨g, cap, cur, h1, Nat.le_trans hB hb, rest⟩
/-- What is appended onto an empty row just made is a row of one's own. -/
theorem fresh_copy {P : Program} (W : World) (t ty e : TypeId) (i : TypeInfo) (z : Value) (size bytes : Nat) (ht : P.underlying t = some (.slice e)) (hi : P.info? e = some i) (hz : i.zero = some z) (hsize : i.size = size) (hby : i.bytes = bytes) (hzs : z.cells.size = size) (hs0 : 0 < size)
    (A : Option Addr) (m c : Nat) (news : List Value) (hr : RdS W W.heap.size size A m c news) (h1 : ∀ u ∈ news, u.oneCell' = true) (hm : m ≤ 1000000) (hb : bytes ≤ 100) :
    ∃ A' c' W', (Builtin.append_ #[t, t] ty #[.slice (some ⟨W.heap.size, 0, none⟩) 0 0, .slice A m c]).run P (W.alloc (.cells #[] e)) = .ok (.slice A' m c') W' ∧ W'.ownsRow W.heap.size e size (.slice A' m c') m news ∧ Below W.heap.size W W' := by
  have how : Ow W W.heap.size e size (.slice (some ⟨W.heap.size, 0, none⟩) 0 0) 0 [] (W.alloc (.cells #[] e)) := ⟨World.ownsRow_made W #[] 0 (Nat.le_refl _) (Nat.zero_le _) (by simp), bel_al (Below.refl _ W) _, Nat.le_refl _, by simp⟩
  have hsum : (0 + m) * bytes ≤ 140737488355328 := Nat.le_trans (Nat.mul_le_mul_left _ hb) (by omega)
  obtain ⟨v', W', hrun, ho, hb2, hg, -⟩ := Ow.app2 (P := P) t ty e i z size bytes W.heap.size ht hi hz hsize hby hzs hs0 _ _ _ how _ A m c news (hr.al (.cells #[] e)) h1 (by unfold maxLen; omega) hsum
  rw [Nat.zero_add, List.nil_append] at ho
  obtain ⟨A', c', rfl, -⟩ := ho.rds
  exact ⟨A', c', W', hrun, ho.own, ho.below⟩
/-- A diagram that is copied, vertex by vertex. -/
structure ClS (W : World) (lo : Nat) (A : Option Addr) (n c : Nat) (Ws : List VC) (B : Option Addr) (m k : Nat) (Es : List EC) : Prop where
  v : W.ownsRow lo 38 5 (.slice A n c) n (rowsV vC Ws)
  e : W.ownsRow lo 33 4 (.slice B m k) m (rowsV eC Es)
  r : ∀ x ∈ Ws, W.ownsRow lo 35 3 (.slice x.2.1.1 x.2.1.2.1 x.2.1.2.2.1) x.2.1.2.1 (dartsV x.2.1.2.2.2)
section
variable {W W' : World} {lo : Nat} {A : Option Addr} {n c : Nat} {Ws : List VC} {B : Option Addr} {m k : Nat} {Es : List EC}
theorem ClS.bl (h : ClS W lo A n c Ws B m k Es) (hb : Below W.heap.size W W') : ClS W' lo A n c Ws B m k Es := ⟨own_up h.v hb, own_up h.e hb, fun x hx => own_up (h.r x hx) hb⟩
theorem ClS.al (h : ClS W lo A n c Ws B m k Es) (o : Obj) : ClS (W.alloc o) lo A n c Ws B m k Es := h.bl (below1 W o)
theorem ClS.wr (h : ClS W lo A n c Ws B m k Es) : Wr W lo A n c Ws B m k Es := ⟨h.v, own_rds h.e, fun x hx => ⟨own_cap (h.r x hx), own_rds (h.r x hx)⟩⟩
/-- A write to a block of another type. -/
theorem ClS.far (h : ClS W lo A n c Ws B m k Es) {g i : Nat} {T : TypeId} {cs : List Value} (hw : Whole W g T cs) (h1 : T ≠ 38) (h2 : T ≠ 33) (h3 : T ≠ 35) (u : Value) : ClS (W.setCell ⟨g, i, none⟩ u) lo A n c Ws B m k Es :=
  ⟨own_cell_far h.v (own_ne h.v hw h1) u, own_cell_far h.e (own_ne h.e hw h2) u, fun x hx => own_cell_far (h.r x hx) (own_ne (h.r x hx) hw h3) u⟩
theorem ClS.far2 (h : ClS W lo A n c Ws B m k Es) {g i : Nat} {cs : List Value} (hw : Whole W g 38 cs) (hv : some g ≠ (Value.slice A n c).ownBlock) (u : Value) : ClS (W.setCell ⟨g, i, none⟩ u) lo A n c Ws B m k Es :=
  ⟨own_cell_far h.v hv u, own_cell_far h.e (own_ne h.e hw (by decide)) u, fun x hx => own_cell_far (h.r x hx) (own_ne (h.r x hx) hw (by decide)) u⟩
/-- A write to a block that is none of its. -/
theorem ClS.lo_ (h : ClS W lo A n c Ws B m k Es) {lo' : Nat} (hl : lo' ≤ lo) : ClS W lo' A n c Ws B m k Es := by
  have q : ∀ {e : TypeId} {s : Nat} {v : Value} {j : Nat} {xs : List Value}, W.ownsRow lo e s v j xs → W.ownsRow lo' e s v j xs := fun h => by
    refine ⟨h.1, ?_⟩
    rcases h.2 with hn | ⟨g, cap, cur, h1, hb, rest⟩
    · exact .inl hn
    · exact .inr ⟨g, cap, cur, h1, Nat.le_trans hl hb, rest⟩
  exact ⟨q h.v, q h.e, fun x hx => q (h.r x hx)⟩
/-- One vertex more. -/
theorem ClS.push {P : Program} (h : ClS W lo A n c Ws B m k Es) (x : VC) (hx : W.ownsRow lo 35 3 (.slice x.2.1.1 x.2.1.2.1 x.2.1.2.2.1) x.2.1.2.1 (dartsV x.2.1.2.2.2)) (t ty : TypeId) (i : TypeInfo) (z : Value) (ht : P.underlying t = some (.slice 38)) (hi : P.info? 38 = some i) (hz : i.zero = some z) (hsize : i.size = 5) (hby : i.bytes = 64) (hzs : z.cells.size = 5)
    (hn : n ≤ 1000000) (hlo : lo ≤ W.heap.size) (g : Nat) (hr : RdS W W.heap.size 5 (some ⟨g, 0, none⟩) 1 1 (vC x)) :
    ∃ A' c' W', (Builtin.append_ #[t, t] ty #[.slice A n c, .slice (some ⟨g, 0, none⟩) 1 1]).run P W = .ok (.slice A' (n + 1) c') W' ∧ ClS W' lo A' (n + 1) c' (Ws ++ [x]) B m k Es ∧ Below lo W W' ∧ W.grownBy W' (Value.slice A n c).ownBlock := by
  obtain ⟨v', W2, hrun, hown, hg, hn0, hb⟩ := run_append_own_at (P := P) W lo t ty 38 i z 5 64 ht hi hz hsize hby hzs (by decide) _ n _ h.v ⟨g, 0, none⟩ 1 1 _ hr.len (hr.cell _ rfl) (vC_one x) (by unfold maxLen; omega) (by omega) hlo
  have hk : ∀ k, (Value.slice A n c).ownBlock = some k → lo ≤ k := fun k hk => (h.v.lt k hk).1
  obtain ⟨A', c', rfl, _⟩ := RdS.of_own hown
  have e : rowsV vC Ws ++ vC x = rowsV vC (Ws ++ [x]) := by rw [rowsV_app]; simp [rowsV]
  rw [e] at hown
  have keep : ∀ {T : TypeId} {s : Nat} {v : Value} {j : Nat} {xs : List Value}, W.ownsRow lo T s v j xs → 38 ≠ T → W2.ownsRow lo T s v j xs := fun {T s v j xs} ho hT => ho.kept hg (by
    cases hv : v.ownBlock with
    | none => exact .inl rfl
    | some g => exact .inr fun q => own_two h.v ho hT q.symm hv)
  refine ⟨A', c', W2, hrun, ⟨hown, keep h.e (by decide), fun y hy => ?_⟩, (Below.refl lo W).grown hg hlo hk, hg⟩
  rcases List.mem_append.1 hy with hy | hy
  · exact keep (h.r y hy) (by decide)
  · obtain rfl := List.mem_singleton.1 hy
    exact keep hx (by decide)
end
set_option maxRecDepth 100000 in
set_option maxHeartbeats 4000000 in
theorem rclone_any (A : Option Addr) (n c : Nat) (Vs : List VC) (B : Option Addr) (m k : Nat) (Es : List EC) (w : World) (h : DgIn w A n c Vs B m k Es) (hn : n ≤ 1000000) (hm : m ≤ 1000000) (hr : ∀ x ∈ Vs, x.2.1.2.1 ≤ 1000000) :
    Calls Try.prog 28 #[.agg #[.slice A n c, .slice B m k]] w fun e w' => ∃ A' c' B' k' Ws, e = .returned (.agg #[.slice A' n c', .slice B' m k']) ∧ ClS w' w.heap.size A' n c' Ws B' m k' Es ∧ Ws.map vS = Vs.map vS ∧ Below w.heap.size w w' := by
  have HV := Lib.hid h.v
  have HE := Lib.hid h.e
  have HRg := Lib.hid h.r
  have Hlv := Lib.hid (h.v.rlen vC_len (by decide))
  have Hhr := Lib.hid hr
  obtain ⟨iV, hiv, hzv0, hzv1, hzv2⟩ := info_partsD info_vertex
  obtain ⟨iE, hie, hze0, hze1, hze2⟩ := info_partsD info_edge
  obtain ⟨iD, hid, hzd0, hzd1, hzd2⟩ := info_partsD info_dartc
  clear h hr
  go_enter Try.func28, Try.ntmps28
  go_upto_region 1 with fail
  have hx0 : Whole ((w.alloc (.cells #[.slice A n c, .slice B m k] 25)).alloc (.cells #[.slice none 0 0, .slice none 0 0] 25)) (w.heap.size) 25 [.slice A n c, .slice B m k] := ((Whole.new_ w 25 [.slice A n c, .slice B m k]).alloc (.cells #[.slice none 0 0, .slice none 0 0] 25))
  have hx1 : Whole ((w.alloc (.cells #[.slice A n c, .slice B m k] 25)).alloc (.cells #[.slice none 0 0, .slice none 0 0] 25)) (w.heap.size + 1) 25 [.slice none 0 0, .slice none 0 0] := (Whole.new2 (w := (w.alloc (.cells #[.slice A n c, .slice B m k] 25))) (by simp))
  have hbl : Below w.heap.size w ((w.alloc (.cells #[.slice A n c, .slice B m k] 25)).alloc (.cells #[.slice none 0 0, .slice none 0 0] 25)) := (bel_al (below1 w (.cells #[.slice A n c, .slice B m k] 25)) (.cells #[.slice none 0 0, .slice none 0 0] 25))
  have hsz : w.heap.size + 1 + 1 ≤ (((w.alloc (.cells #[.slice A n c, .slice B m k] 25)).alloc (.cells #[.slice none 0 0, .slice none 0 0] 25))).heap.size := by simp
  obtain ⟨W0, gW0⟩ : ∃ z, ((w.alloc (.cells #[.slice A n c, .slice B m k] 25)).alloc (.cells #[.slice none 0 0, .slice none 0 0] 25)) = z := ⟨_, rfl⟩
  rw [gW0] at hx0 hx1 hbl hsz
  obtain ⟨b1, gb1⟩ : ∃ z, w.heap.size + 1 = z := ⟨_, rfl⟩
  rw [gb1] at hx1
  obtain ⟨b0, gb0⟩ : ∃ z, w.heap.size = z := ⟨_, rfl⟩
  rw [gb0] at hx0
  have HX0 := Lib.hid hx0
  have HX1 := Lib.hid hx1
  have HB0 := Lib.hid hbl
  have HS0 := Lib.hid hsz
  have Gb0 := Lib.hid gb0
  have Lb0 : RowKit.Hid (w.heap.size ≤ b0) := Lib.hid (by omega)
  have Gb1 := Lib.hid gb1
  have Lb1 : RowKit.Hid (w.heap.size ≤ b1) := Lib.hid (by omega)
  have N01 : RowKit.Hid (b0 ≠ b1) := Lib.hid (by omega)
  rw [gW0, gb1, gb0]
  clear gW0 hbl hsz hx0 hx1 gb0 gb1
  obtain ⟨Be, ke, W1, hrun, hoe, hbe⟩ := fresh_copy (P := Try.prog) W0 23 23 33 iE _ 4 40 Try.underlying23 hie hze0 hze1 hze2 rfl (by decide) B m k _ (HE.out.bl HB0.out) (rowsV_one eC eC_one Es) hm (by decide)
  have c1 := (HX0.out.al (.cells #[] 33)).cell (i := 1) rfl
  go_wp2_with (first
    | (at_builtin
       refine wl_run (some 9) rfl (by rfl) (exec_append (by rfl) (by rfl) (by rfl) hrun) ?_))
  have HX01 := Lib.hid ((HX0.out.bl hbe).al (.cells #[.slice none 0 0, .slice Be m ke] 25))
  have HX11 := Lib.hid ((HX1.out.bl hbe).al (.cells #[.slice none 0 0, .slice Be m ke] 25))
  have HX31 := Lib.hid (Whole.new2 (w := W1) (t := 25) (cs := [.slice none 0 0, .slice Be m ke]) rfl)
  have HB1 := Lib.hid (bel_al (bel_bl HB0.out hbe) (.cells #[.slice none 0 0, .slice Be m ke] 25))
  have HC1 : RowKit.Hid (ClS (W1.alloc (.cells #[.slice none 0 0, .slice Be m ke] 25)) w.heap.size none 0 0 [] Be m ke Es) := Lib.hid ⟨World.ownsRow_nil _ _ _ _, own_up (own_lo0 hoe HB0.out.size) (below1 _ _), fun x hx => (by cases hx)⟩
  have Hb3 : RowKit.Hid (w.heap.size ≤ W1.heap.size) := Lib.hid (by have := HB0.out.size; have := hbe.size; omega)
  have Hn03 : RowKit.Hid (b0 ≠ W1.heap.size) := Lib.hid (by have := (HX0.out.bl hbe).lt; omega)
  have Hn13 : RowKit.Hid (b1 ≠ W1.heap.size) := Lib.hid (by have := (HX1.out.bl hbe).lt; omega)
  clear hrun hoe hbe c1
  obtain ⟨W2, gW2⟩ : ∃ z, W1.alloc (.cells #[.slice none 0 0, .slice Be m ke] 25) = z := ⟨_, rfl⟩
  obtain ⟨b3, gb3⟩ : ∃ z, W1.heap.size = z := ⟨_, rfl⟩
  rw [gW2] at HX01 HX11 HX31 HB1 HC1 ⊢
  rw [gb3] at HX31 Hb3 Hn03 Hn13 ⊢
  clear gW2 gb3 HX0 HX1 HB0 HS0
  go_loopw [4] (fun si wr => ∃ (j : Nat) (A2 : Option Addr) (c2 : Nat) (Ws : List VC), j ≤ n ∧ si = .int .i64 j ∧ RowKit.Hid (Below w.heap.size w wr) ∧ RowKit.Hid (Whole wr b0 25 [.slice A n c, .slice B m k]) ∧ RowKit.Hid (Whole wr b1 25 [.slice none 0 0, .slice none 0 0]) ∧ RowKit.Hid (Whole wr b3 25 [.slice A2 j c2, .slice Be m ke]) ∧ RowKit.Hid (ClS wr w.heap.size A2 j c2 Ws Be m ke Es) ∧ RowKit.Hid (Ws.map vS = (Vs.take j).map vS)) (fun si _ => n - (intOf si).toNat)
  case atStart => exact ⟨0, none, 0, [], by omega, rfl, HB1, HX01, HX11, HX31, HC1, Lib.hid rfl⟩
  case round =>
    clear HB1 HX01 HX11 HX31 HC1
    obtain ⟨j, A2, c2, Ws, hj, rfl, HB, HX0, HX1, HX3, HC, HM⟩ := hrel
    obtain ⟨wo, gwo⟩ : ∃ z, wr = z := ⟨_, rfl⟩
    rw [gwo] at HB HX0 HX1 HX3 HC ⊢
    clear gwo
    have cb := HX0.out.cell (i := 0) rfl
    by_cases hjn : j < n
    · obtain ⟨v, hx⟩ : ∃ v, Vs[j]? = some v := ⟨_, List.getElem?_eq_getElem (by have := Hlv.out; omega)⟩
      have hMn : (Vs.take (j + 1)).map vS = (Vs.take j).map vS ++ [vS v] := by
        rw [List.take_add_one, hx]
        simp
      have hvm := List.mem_of_getElem? hx
      have hrg := HRg.out v hvm
      have hrn := Hhr.out v hvm
      obtain ⟨bb, off, rfl, hbB, hpl⟩ := HV.out.place vC_len (by decide) (by omega)
      have hbw := HB.out
      have q0 := hpl j _ hx 0 _ rfl
      have q1 := hpl j _ hx 1 _ rfl
      have q2 := hpl j _ hx 2 _ rfl
      have q3 := hpl j _ hx 3 _ rfl
      have q4 := hpl j _ hx 4 _ rfl
      simp only [Addr.add_lit, Nat.add_zero] at q0 q1 q2 q3 q4
      have l0 := (hbw.cell (p := ⟨bb, off + j * 5, none⟩) hbB).trans q0
      have l1 := (hbw.cell (p := ⟨bb, off + j * 5 + 1, none⟩) hbB).trans q1
      have l2 := (hbw.cell (p := ⟨bb, off + j * 5 + 2, none⟩) hbB).trans q2
      have l3 := (hbw.cell (p := ⟨bb, off + j * 5 + 3, none⟩) hbB).trans q3
      have l4 := (hbw.cell (p := ⟨bb, off + j * 5 + 4, none⟩) hbB).trans q4
      clear hbw q0 q1 q2 q3 q4
      obtain ⟨⟨i1, i2⟩, ⟨rA, rn, rc, rL⟩, lb, at_⟩ := v
      replace hrn : rn ≤ 1000000 := hrn
      have HR : RowKit.Hid (RdS w w.heap.size 3 rA rn rc (dartsV rL)) := Lib.hid hrg.2
      have HMn := Lib.hid hMn
      clear hx hMn hvm hrg hbB hpl
      go_upto_region 6 with fail
      clear cb l0 l1 l2 l3 l4
      have HB1 := Lib.hid (bel_al HB.out (.cells #[.int .i64 i1, .int .i64 i2, .slice rA rn rc, .string lb, .int .i64 at_] 38))
      have HX01 := Lib.hid (HX0.out.al (.cells #[.int .i64 i1, .int .i64 i2, .slice rA rn rc, .string lb, .int .i64 at_] 38))
      have HX11 := Lib.hid (HX1.out.al (.cells #[.int .i64 i1, .int .i64 i2, .slice rA rn rc, .string lb, .int .i64 at_] 38))
      have HX31 := Lib.hid (HX3.out.al (.cells #[.int .i64 i1, .int .i64 i2, .slice rA rn rc, .string lb, .int .i64 at_] 38))
      have HC1 := Lib.hid (HC.out.al (.cells #[.int .i64 i1, .int .i64 i2, .slice rA rn rc, .string lb, .int .i64 at_] 38))
      have HY1 := Lib.hid (Whole.new2 (w := wo) (t := 38) (cs := [.int .i64 i1, .int .i64 i2, .slice rA rn rc, .string lb, .int .i64 at_]) rfl)
      have HLy : RowKit.Hid (w.heap.size ≤ wo.heap.size) := Lib.hid HB.out.size
      have Hnv : RowKit.Hid (some wo.heap.size ≠ (Value.slice A2 j c2).ownBlock) := Lib.hid (fun e => by have := (HC.out.v.lt _ e.symm).2; omega)
      obtain ⟨W3, gW3⟩ : ∃ z, wo.alloc (.cells #[.int .i64 i1, .int .i64 i2, .slice rA rn rc, .string lb, .int .i64 at_] 38) = z := ⟨_, rfl⟩
      obtain ⟨b5, gb5⟩ : ∃ z, wo.heap.size = z := ⟨_, rfl⟩
      rw [gW3] at HB1 HX01 HX11 HX31 HC1 HY1 ⊢
      rw [gb5] at HY1 HLy Hnv ⊢
      clear gW3 gb5 HB HX0 HX1 HX3 HC
      obtain ⟨A8, c8, W4, hrun, hor, hbr⟩ := fresh_copy (P := Try.prog) W3 36 36 35 iD _ 3 24 Try.underlying36 hid hzd0 hzd1 hzd2 rfl (by decide) rA rn rc _ (HR.out.up HB1.out HB1.out.size) (dartsV_one rL) hrn (by decide)
      have d2 := (HY1.out.al (.cells #[] 35)).cell (i := 2) rfl
      have e2 := (HY1.out.bl hbr).cell (i := 2) rfl
      have f2 := (HY1.out.bl hbr).free 2
      go_upto_region 7 with (first
        | (at_builtin
           refine wl_run (some 26) rfl (by rfl) (exec_append (by rfl) (by rfl) (by rfl) hrun) ?_))
      clear d2 e2 f2
      have HY4 := Lib.hid (HY1.out.bl hbr)
      have HX04 := Lib.hid (HX01.out.bl hbr)
      have HX14 := Lib.hid (HX11.out.bl hbr)
      have HX34 := Lib.hid (HX31.out.bl hbr)
      have HB4 := Lib.hid (bel_bl HB1.out hbr)
      have HC4 := Lib.hid (HC1.out.bl hbr)
      have HO4 := Lib.hid (own_lo0 hor HB1.out.size)
      clear hrun hor hbr HB1 HX01 HX11 HX31 HC1 HY1
      have HY5 := Lib.hid (HY4.out.set_ 2 (.slice A8 rn c8))
      have HX05 := Lib.hid (HX04.out.set_far' (i := 2) (HX04.out.ne_ HY4.out (by decide)) (.slice A8 rn c8))
      have HX15 := Lib.hid (HX14.out.set_far' (i := 2) (HX14.out.ne_ HY4.out (by decide)) (.slice A8 rn c8))
      have HX35 := Lib.hid (HX34.out.set_far' (i := 2) (HX34.out.ne_ HY4.out (by decide)) (.slice A8 rn c8))
      have HB5 := Lib.hid (HB4.out.setCell (p := ⟨b5, 2, none⟩) HLy.out (.slice A8 rn c8))
      have HC5 := Lib.hid (HC4.out.far2 (i := 2) HY4.out Hnv.out (.slice A8 rn c8))
      have HO5 := Lib.hid (own_cell_far (i := 2) HO4.out (own_ne HO4.out HY4.out (by decide)) (.slice A8 rn c8))
      obtain ⟨W5, gW5⟩ : ∃ z, W4.setCell ⟨b5, 2, none⟩ (.slice A8 rn c8) = z := ⟨_, rfl⟩
      rw [gW5] at HY5 HX05 HX15 HX35 HB5 HC5 HO5 ⊢
      clear gW5 HY4 HX04 HX14 HX34 HB4 HC4 HO4
      replace HY5 : RowKit.Hid (Whole W5 b5 38 (vC ((i1, i2), (A8, rn, c8, rL), lb, at_))) := HY5
      have c3 := HX35.out.cell (i := 0) rfl
      refine wp_region_lit ?_
      refine wl_read (v := ?_) (some 28) rfl (by rfl) ?_ ?_
      rotate_left
      · go_simp; (try with_reducible rfl)
      simp only [Act.put, List.setIfInBounds_toArray, List.set_cons_zero, List.set_cons_succ]
      refine wl_read (v := ?_) (some 29) rfl (by rfl) ?_ ?_
      rotate_left
      · go_simp; (try with_reducible rfl)
      simp only [Act.put, List.setIfInBounds_toArray, List.set_cons_zero, List.set_cons_succ]
      refine wl_load (some 30) rfl (by rfl) 38 (.tmp 5) rfl (b5) rfl 38 (vC ((i1, i2), (A8, rn, c8, rL), lb, at_)) _ HY5.out Try.underlying38 rfl (by kernel_rfl) ?_
      simp only [Act.put, List.setIfInBounds_toArray, List.set_cons_zero, List.set_cons_succ]
      clear c3
      refine wl_buildSlice (some 31) rfl (by rfl) 22 38 1 #[(0, .tmp 30)] (by rfl) Try.underlying22 (vC ((i1, i2), (A8, rn, c8, rL), lb, at_)).toArray (by kernel_rfl) ?_
      simp only [Act.put, List.setIfInBounds_toArray, List.set_cons_zero, List.set_cons_succ]
      obtain ⟨A9, c9, W6, hrun, hC6, hb6, hg6⟩ := (HC5.out.al (.cells (vC ((i1, i2), (A8, rn, c8, rL), lb, at_)).toArray 38)).push (P := Try.prog) ((i1, i2), (A8, rn, c8, rL), lb, at_) (own_up HO5.out (below1 _ _)) 22 22 iV _ Try.underlying22 hiv hzv0 hzv1 hzv2 rfl (by omega) (by have := HB5.out.size; simp; omega) W5.heap.size (RdS.of_whole (Whole.new2 rfl) rfl)
      refine wl_run (some 32) rfl (by rfl) (exec_append (by rfl) (by rfl) (by rfl) hrun) ?_
      simp only [Act.put, List.setIfInBounds_toArray, List.set_cons_zero, List.set_cons_succ]
      have n0 := own_ne HC5.out.v HX05.out (by decide)
      have n1 := own_ne HC5.out.v HX15.out (by decide)
      have n3 := own_ne HC5.out.v HX35.out (by decide)
      have HX06 := Lib.hid ((HX05.out.al (.cells (vC ((i1, i2), (A8, rn, c8, rL), lb, at_)).toArray 38)).grown hg6 n0)
      have HX16 := Lib.hid ((HX15.out.al (.cells (vC ((i1, i2), (A8, rn, c8, rL), lb, at_)).toArray 38)).grown hg6 n1)
      have HX36 := Lib.hid ((HX35.out.al (.cells (vC ((i1, i2), (A8, rn, c8, rL), lb, at_)).toArray 38)).grown hg6 n3)
      have HB6 : RowKit.Hid (Below w.heap.size w W6) := Lib.hid ((bel_al HB5.out (.cells (vC ((i1, i2), (A8, rn, c8, rL), lb, at_)).toArray 38)).trans hb6)
      have HC6 := Lib.hid hC6
      clear hrun hC6 hb6 hg6 n0 n1 n3 HY5 HX05 HX15 HX35 HB5 HC5 HO5
      have c3 := HX36.out.cell (i := 0) rfl
      have f3 := HX36.out.free 0
      have HX07 := Lib.hid (HX06.out.set_far' (i := 0) Hn03.out (.slice A9 (j + 1) c9))
      have HX17 := Lib.hid (HX16.out.set_far' (i := 0) Hn13.out (.slice A9 (j + 1) c9))
      have HX37 := Lib.hid (HX36.out.set_ 0 (.slice A9 (j + 1) c9))
      have HB7 := Lib.hid (HB6.out.setCell (p := ⟨b3, 0, none⟩) Hb3.out (.slice A9 (j + 1) c9))
      have HC7 := Lib.hid (HC6.out.far (i := 0) HX36.out (by decide) (by decide) (by decide) (.slice A9 (j + 1) c9))
      have HM7 : RowKit.Hid ((Ws ++ [((i1, i2), (A8, rn, c8, rL), lb, at_)]).map vS = (Vs.take (j + 1)).map vS) := Lib.hid (by rw [HMn.out, List.map_append, HM.out]; rfl)
      clear HM HMn
      go_wp2
      go_roundw
      case rel => exact ⟨j + 1, A9, c9, _, by omega, by go_num, HB7, HX07, HX17, HX37, HC7, HM7⟩
      case measure => simp [intOf]; omega
    · obtain rfl : n = j := by omega
      have hM := HM.out
      rw [List.take_of_length_le (by have := Hlv.out; omega)] at hM
      have hx1 := (HX1.out.set_ 0 (.slice A2 n c2)).set_ 1 (.slice Be m ke)
      have hc1 := (HC.out.far (i := 0) HX1.out (by decide) (by decide) (by decide) (.slice A2 n c2)).far (i := 1) (HX1.out.set_ 0 (.slice A2 n c2)) (by decide) (by decide) (by decide) (.slice Be m ke)
      have hb1 := (HB.out.setCell (p := ⟨b1, 0, none⟩) Lb1.out (.slice A2 n c2)).setCell (p := ⟨b1, 1, none⟩) Lb1.out (.slice Be m ke)
      have e0 := HX3.out.cell (i := 0) rfl
      have e1 := HX3.out.cell (i := 1) rfl
      have f0 := HX1.out.free 0
      have f1 := HX1.out.free 1
      have k0 := HX1.out.cell (i := 0) rfl
      have k1 := HX1.out.cell (i := 1) rfl
      have Hpost := Lib.hid (show ∃ A' c' B' k' Us, (Ending.returned (.agg #[.slice A2 n c2, .slice Be m ke])) = .returned (.agg #[.slice A' n c', .slice B' m k']) ∧ ClS _ w.heap.size A' n c' Us B' m k' Es ∧ Us.map vS = Vs.map vS ∧ Below w.heap.size w _ from ⟨A2, c2, Be, ke, Ws, rfl, hc1, hM, hb1⟩)
      have Hx1 := Lib.hid hx1
      clear hx1 hM hc1 hb1 HC HM HB HX0 HX1 HX3
      go_wp2
      exact ret_whole rfl b1 rfl Hx1.out Try.underlying25 rfl (by kernel_rfl) rfl Hpost.out
end Go.Proofs.Ytahbfdhjgnlmdaa

/- A diagram whose vertices and edges are of one's own; its rings turned the other way round, in numbers. -/
namespace Go.Proofs.Ytahbfdhjgnlmdaa
open Go.RowKit
set_option linter.unusedSimpArgs false
set_option linter.unusedVariables false

structure Wro (W : World) (lo : Nat) (A : Option Addr) (n c : Nat) (Us : List VC) (B : Option Addr) (m k : Nat) (Es : List EC) : Prop where
  v : W.ownsRow lo 38 5 (.slice A n c) n (rowsV vC Us)
  e : W.ownsRow lo 33 4 (.slice B m k) m (rowsV eC Es)
  r : ∀ x ∈ Us, RgOk W x.2.1
theorem no_str_d {L : List D} {s : ByteArray} : ¬ Value.string s ∈ dartsV L := fun h => by
  rw [dartsV_rows] at h
  obtain ⟨x, _, hx⟩ := rowsV_mem h
  simp [dC] at hx
section
variable {W W' : World} {lo : Nat} {A : Option Addr} {n c : Nat} {Us : List VC} {B : Option Addr} {m k : Nat} {Es : List EC}
theorem ClS.wro (h : ClS W lo A n c Us B m k Es) : Wro W lo A n c Us B m k Es := ⟨h.v, h.e, fun x hx => ⟨own_cap (h.r x hx), own_rds (h.r x hx)⟩⟩
theorem Wro.dg (h : Wro W lo A n c Us B m k Es) : DgIn W A n c Us B m k Es := ⟨own_rds h.v, own_rds h.e, h.r⟩
theorem Wro.bl (h : Wro W lo A n c Us B m k Es) (hb : Below W.heap.size W W') : Wro W' lo A n c Us B m k Es := ⟨own_up h.v hb, own_up h.e hb, fun x hx => (h.r x hx).bl hb⟩
theorem Wro.al (h : Wro W lo A n c Us B m k Es) (o : Obj) : Wro (W.alloc o) lo A n c Us B m k Es := h.bl (below1 W o)
theorem Wro.dr (h : Wro W lo A n c Us B m k Es) : Wro W.drew lo A n c Us B m k Es := h.bl ((Below.refl _ _).drew)
theorem Wro.put (h : Wro W lo A n c Us B m k Es) {j : Nat} {x : VC} (hx : Us[j]? = some x) (hj : j < n) (R : Rg) (hR : RgOk W R) :
    ∃ g, A = some ⟨g, 0, none⟩ ∧ lo ≤ g ∧ (∃ cs, Whole W g 38 cs) ∧ W.cell? ⟨g, j * 5 + 2, none⟩ = some (.slice x.2.1.1 x.2.1.2.1 x.2.1.2.2.1) ∧ W.frozen? ⟨g, j * 5 + 2, none⟩ = false ∧
      Wro (W.setCell ⟨g, j * 5 + 2, none⟩ (.slice R.1 R.2.1 R.2.2.1)) lo A n c (Us.set j (x.1, R, x.2.2)) B m k Es := by
  obtain ⟨g, junk, e, hlo, hw, hc, hf, ho⟩ := own_poke (i := 2) (y := (x.1, R, x.2.2)) (u := .slice R.1 R.2.1 R.2.2.1) vC_len h.v hx hj (by omega) rfl
  have hc2 : W.cell? ⟨g, j * 5 + 2, none⟩ = some (.slice x.2.1.1 x.2.1.2.1 x.2.1.2.2.1) := hc.trans rfl
  refine ⟨g, e, hlo, ⟨_, hw⟩, hc2, hf, ho, own_cell_far h.e (own_ne h.e hw (by decide)) _, fun y hy => rg_poke ?_ hc2 _⟩
  rcases List.mem_or_eq_of_mem_set hy with hy | rfl
  · exact h.r y hy
  · exact hR
theorem Wro.lab (h : Wro W lo A n c Us B m k Es) {j : Nat} {x : VC} (hx : Us[j]? = some x) (hj : j < n) (s : ByteArray) :
    ∃ g, A = some ⟨g, 0, none⟩ ∧ lo ≤ g ∧ (∃ cs, Whole W g 38 cs) ∧ W.cell? ⟨g, j * 5 + 3, none⟩ = some (.string x.2.2.1) ∧ W.frozen? ⟨g, j * 5 + 3, none⟩ = false ∧
      Wro (W.setCell ⟨g, j * 5 + 3, none⟩ (.string s)) lo A n c (Us.set j (setLab x s)) B m k Es := by
  obtain ⟨g, junk, e, hlo, hw, hc, hf, ho⟩ := own_poke (i := 3) (y := setLab x s) (u := .string s) vC_len h.v hx hj (by omega) rfl
  have hc2 : W.cell? ⟨g, j * 5 + 3, none⟩ = some (.string x.2.2.1) := hc.trans rfl
  refine ⟨g, e, hlo, ⟨_, hw⟩, hc2, hf, ho, own_cell_far h.e (own_ne h.e hw (by decide)) _, fun y hy => ?_⟩
  have key : ∀ z, RgOk W z → RgOk (W.setCell ⟨g, j * 5 + 3, none⟩ (.string s)) z := fun z hz => ⟨hz.1, by rw [size_setCell]; exact rds_poke hz.2 hc2 no_str_d _⟩
  rcases List.mem_or_eq_of_mem_set hy with hy | rfl
  · exact key _ (h.r y hy)
  · exact key _ (h.r x (List.mem_of_getElem? hx))
end
/-- What is written to a block of vertices of one's own leaves other diagrams as they were, of which none is there. -/
theorem DgIn.vfar {W : World} {A B : Option Addr} {n c m k : Nat} {Vs : List VC} {Es : List EC} (h : DgIn W A n c Vs B m k Es) {lo g i : Nat} (hg : lo ≤ g) (hb : ∀ W', (∀ j, j < lo → W'.heap[j]? = W.heap[j]?) → W.heap.size ≤ W'.heap.size → DgIn W' A n c Vs B m k Es) (u : Value) : DgIn (W.setCell ⟨g, i, none⟩ u) A n c Vs B m k Es :=
  hb _ (fun j hj => Below.heap_setCell _ _ _ _ (by show j ≠ g; omega)) (by rw [size_setCell]; exact Nat.le_refl _)
/-- A ring the other way round. -/
def bkL (L : List D) : List D := turnD L.reverse
theorem bkL_mem (L : List D) (x : D) : x ∈ bkL L ↔ x ∈ L := by
  unfold bkL
  rw [(turn_perm _).mem_iff, List.mem_reverse]
theorem bkL_len (L : List D) : (bkL L).length = L.length := by
  unfold bkL
  rw [turnD_len, List.length_reverse]
theorem back_step {L : List D} {p : Nat} {x : D} (h : L[p]? = some x) : (L.drop p).reverse = (L.drop (p + 1)).reverse ++ [x] := by
  obtain ⟨hp, e⟩ := List.getElem?_eq_some_iff.1 h
  rw [List.drop_eq_getElem_cons hp, e, List.reverse_cons]
end Go.Proofs.Ytahbfdhjgnlmdaa

/- The document's example of layer 8. -/
namespace Go.Proofs.Ytahbfdhjgnlmdaa
open Go.RowKit
set_option linter.unusedSimpArgs false
set_option linter.unusedVariables false

theorem may7_nil : mayF7 [] [] = 0 := by
  unfold mayF7
  rw [if_pos ((form0 [] []).2 tw0_formed), tw0_gen]
  rfl
theorem put_nil : putD (([] : List VC).map vS) [] = [0, 0] := rfl
set_option maxRecDepth 100000 in
set_option maxHeartbeats 1000000 in
theorem shown08_any (w : World) : Calls Try.prog 15 #[] w fun e w' => e = .returned (.bool true) ∧ Below w.heap.size w w' := by
  have HP := Lib.hid (fun W => put_yes none 0 0 [] none 0 0 [] W ⟨RdS.no _ _ _, RdS.no _ _ _, fun x hx => (by cases hx)⟩ tw0_good (fun x hx => (by cases hx)) may7_nil)
  rw [put_nil] at HP
  have HN := Lib.hid (fun W => num_any none 0 [] 1 W (rds_nil W W.heap.size 1) (by simp))
  have hl : ([] ++ be8 1).length = 8 := by rw [List.nil_append, be8_len]
  obtain ⟨L, gL⟩ : ∃ z, [] ++ be8 1 = z := ⟨_, rfl⟩
  rw [gL] at HN hl
  have Hl := Lib.hid hl
  obtain ⟨Q, gQ⟩ : ∃ z, ([0, 0] : List Nat) = z := ⟨_, rfl⟩
  have hq : Q.length = 2 := by rw [← gQ]; rfl
  rw [gQ, hq] at HP
  have htx : txt Q = { data := #[0, 0] } := by rw [← gQ]; rfl
  have Htx := Lib.hid htx
  clear gL hl gQ hq htx
  go_enter Try.func15, Try.ntmps15
  go_upto_region 2 with (first
    | (go_at_call 25
       refine (HP.out _).mono ?_
       rintro e w2 ⟨A2, c2, rfl, ho2, hb2⟩
       have HR2 := Lib.hid (own_rds ho2)
       have HB2 := Lib.hid hb2
       clear ho2 hb2))
  have hcv := conv_txt HR2.out
  rw [Htx.out] at hcv
  go_wp2_with (first
    | (go_at_call 20
       refine (HN.out _).mono ?_
       rintro e w3 ⟨A3, c3, rfl, hr3, -, -, hb3⟩
       have HB3 : RowKit.Hid (Below w.heap.size w w3) := Lib.hid (Ext.trans HB2.out hb3)
       rw [Hl.out] at hr3 ⊢
       clear hr3 hb3 hcv))
  go_ret
  exact ⟨by first | rfl | simp, HB3.out⟩

end Go.Proofs.Ytahbfdhjgnlmdaa
