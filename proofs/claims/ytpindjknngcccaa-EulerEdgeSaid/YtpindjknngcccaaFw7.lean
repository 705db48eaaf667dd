/- few of stage 7: 26 vertices with rings of 82 darts, and 42 edges. -/
import Derived.Test.YtpindjknngcccaaGB
import Derived.Test.YtpindjknngcccaaGC
import Derived.Test.YtpindjknngcccaaBase
namespace Go.Proofs.Ytpindjknngcccaa
open Go.RowKit
set_option linter.unusedSimpArgs false
set_option linter.unusedVariables false

def few7V (v : VC) : VC := if 82 < v.2.1.2.1 then (v.1, (v.2.1.1, 82, v.2.1.2.2.1, v.2.1.2.2.2.take 82), v.2.2) else v
theorem few7V_next (Vs : List VC) (j : Nat) (v : VC) (h : Vs[j]? = some v) : rowsV vC ((Vs.take j).map few7V) ++ rowsV vC [few7V v] = rowsV vC ((Vs.take (j + 1)).map few7V) := by
  rw [← rowsV_app, List.take_add_one, h]
  simp
/-- Between two rounds: the vertices' row grows. -/
structure Few7A (w : World) (Vs : List VC) (A B : Option Addr) (n c m k b0 b1 b2 : Nat) (j : Nat) (v : Value) (wr : World) : Prop where
  ow : Ow w (b2 + 1) 42 5 v j (rowsV vC ((Vs.take j).map few7V)) wr
  x0 : Whole wr b0 25 [.slice A n c, .slice B m k]
  x1 : Whole wr b1 25 [.slice none 0 0, .slice none 0 0]
  x2 : Whole wr b2 25 [v, .slice none 0 0]
/-- Between two rounds: the edges' row grows. -/
structure Few7B (w : World) (Vs : List VC) (Es : List EC) (A B : Option Addr) (n c m k b0 b1 b2 B2 N : Nat) (A1 : Option Addr) (c1 j : Nat) (v u : Value) (wr : World) : Prop where
  ow : Ow w B2 37 4 v j (rowsV eC (Es.take j)) wr
  x0 : Whole wr b0 25 [.slice A n c, .slice B m k]
  x1 : Whole wr b1 25 [.slice none 0 0, .slice none 0 0]
  x2 : Whole wr b2 25 [.slice A1 N c1, u]
  rv : RdS wr B2 5 A1 N c1 (rowsV vC ((Vs.take 26).map few7V))
section
variable {w wr wr' : World} {Vs : List VC} {Es : List EC} {A B A1 : Option Addr} {n c m k b0 b1 b2 B2 N c1 j : Nat} {v u : Value}
theorem Few7B.below (h : Few7B w Vs Es A B n c m k b0 b1 b2 B2 N A1 c1 j v u wr) (hb : Below wr.heap.size wr wr') : Few7B w Vs Es A B n c m k b0 b1 b2 B2 N A1 c1 j v u wr' :=
  ⟨h.ow.up hb, h.x0.below hb, h.x1.below hb, h.x2.below hb, h.rv.up (hb.mono h.ow.hi) (Nat.le_refl _)⟩
/-- The row has grown. -/
theorem Few7B.grow (h : Few7B w Vs Es A B n c m k b0 b1 b2 B2 N A1 c1 j v u wr) {e : EC} (he : Es[j]? = some e) {v' : Value} (ho : Ow w B2 37 4 v' (j + 1) (rowsV eC (Es.take j) ++ eC e) wr') (hb : Below B2 wr wr') (h0 : b0 < B2) (h1 : b1 < B2) (h2 : b2 < B2) :
    Few7B w Vs Es A B n c m k b0 b1 b2 B2 N A1 c1 (j + 1) v' u wr' :=
  ⟨by rw [← fewE_next Es j e he]; simpa [rowsV] using ho, h.x0.at_ (hb.block _ h0), h.x1.at_ (hb.block _ h1), h.x2.at_ (hb.block _ h2), h.rv.up hb (Nat.le_refl _)⟩
theorem Few7B.store (h : Few7B w Vs Es A B n c m k b0 b1 b2 B2 N A1 c1 j v u wr) (h02 : b0 ≠ b2) (h12 : b1 ≠ b2) (h2 : b2 < B2) (hl : w.heap.size ≤ b2) (hne : ∀ a, A1 = some a → 0 < N → a.block ≠ b2) :
    Few7B w Vs Es A B n c m k b0 b1 b2 B2 N A1 c1 j v v (wr.setCell ⟨b2, 1, none⟩ v) :=
  ⟨h.ow.set_far (h.ow.low_ne h2) hl v, h.x0.set_far' h02 v, h.x1.set_far' h12 v, h.x2.set_ 1 v, h.rv.far_ hne v⟩
end
theorem RgOk.few7 {w : World} {v : VC} (h : RgOk w v.2.1) : RgOk w (few7V v).2.1 := by
  unfold few7V
  split
  · rename_i h30
    refine ⟨h.1, ?_⟩
    have := h.2.take_ 82 (by omega)
    rw [dartsV_rows, ← rowsV_take dC dC_len] at this
    show RdS w w.heap.size 3 v.2.1.1 82 v.2.1.2.2.1 (dartsV (v.2.1.2.2.2.take 82))
    rw [dartsV_rows]
    exact this
  · exact h
set_option maxRecDepth 100000 in
set_option maxHeartbeats 4000000 in
theorem few7_any (A : Option Addr) (n c : Nat) (Vs : List VC) (B : Option Addr) (m k : Nat) (Es : List EC) (w : World) (h : DgIn w A n c Vs B m k Es) (hn : n ≤ maxLen) (hm : m ≤ maxLen) :
    Calls Try.prog 11 #[.agg #[.slice A n c, .slice B m k]] w fun e w' => ∃ A' c' B' k', e = .returned (.agg #[.slice A' (Vs.take 26).length c', .slice B' (Es.take 42).length k']) ∧
      DgIn w' A' (Vs.take 26).length c' ((Vs.take 26).map few7V) B' (Es.take 42).length k' (Es.take 42) ∧ Below w.heap.size w w' ∧ FwNew w A' (Vs.take 26).length c' B' (Es.take 42).length k' := by
  have HV := Lib.hid h.v
  have HE := Lib.hid h.e
  have HRg := Lib.hid h.r
  have Hlv := Lib.hid (h.v.rlen vC_len (by decide))
  have Hle := Lib.hid (h.e.rlen eC_len (by decide))
  obtain ⟨i0, hi, hz0, hz1, hz2⟩ := info_partsD info_vertex
  obtain ⟨i1, hi1, hz01, hz11, hz21⟩ := info_partsD info_edge
  unfold maxLen at hn hm
  clear h
  go_enter Try.func11, Try.ntmps11
  go_wp2
  have hx0 := ((Whole.new_ w 25 [.slice A n c, .slice B m k]).alloc (.cells #[.slice none 0 0, .slice none 0 0] 25)).alloc (.cells #[.slice none 0 0, .slice none 0 0] 25)
  have hx1 : Whole _ (w.heap.size + 1) 25 [.slice none 0 0, .slice none 0 0] := (Whole.new2 (w := w.alloc (.cells #[.slice A n c, .slice B m k] 25)) (by simp)).alloc (.cells #[.slice none 0 0, .slice none 0 0] 25)
  have hx2 : Whole _ (w.heap.size + 1 + 1) 25 [.slice none 0 0, .slice none 0 0] := Whole.new2 (w := (w.alloc (.cells #[.slice A n c, .slice B m k] 25)).alloc (.cells #[.slice none 0 0, .slice none 0 0] 25)) (by simp)
  have hbl := bel_al (bel_al (below1 w (.cells #[.slice A n c, .slice B m k] 25)) (.cells #[.slice none 0 0, .slice none 0 0] 25)) (.cells #[.slice none 0 0, .slice none 0 0] 25)
  obtain ⟨W0, gW0⟩ : ∃ z, ((w.alloc (.cells #[.slice A n c, .slice B m k] 25)).alloc (.cells #[.slice none 0 0, .slice none 0 0] 25)).alloc (.cells #[.slice none 0 0, .slice none 0 0] 25) = z := ⟨_, rfl⟩
  have hsz : w.heap.size + 1 + 1 + 1 ≤ W0.heap.size := by rw [← gW0]; simp
  have hx0' : Whole W0 w.heap.size 25 [.slice A n c, .slice B m k] := by rw [← gW0]; exact hx0
  have hx1' : Whole W0 (w.heap.size + 1) 25 [.slice none 0 0, .slice none 0 0] := by rw [← gW0]; exact hx1
  have hx2' : Whole W0 (w.heap.size + 1 + 1) 25 [.slice none 0 0, .slice none 0 0] := by rw [← gW0]; exact hx2
  have hbl' : Below w.heap.size w W0 := by rw [← gW0]; exact hbl
  have HF0 : RowKit.Hid (Few7A w Vs A B n c m k w.heap.size (w.heap.size + 1) (w.heap.size + 1 + 1) 0 (.slice none 0 0) W0) := Lib.hid ⟨Ow.nil_ hbl' (by omega) hsz, hx0', hx1', hx2'⟩
  rw [gW0]
  obtain ⟨b2, gb2⟩ : ∃ z, w.heap.size + 1 + 1 = z := ⟨_, rfl⟩
  obtain ⟨b1, gb1⟩ : ∃ z, w.heap.size + 1 = z := ⟨_, rfl⟩
  obtain ⟨b0, gb0⟩ : ∃ z, w.heap.size = z := ⟨_, rfl⟩
  rw [gb2, gb1, gb0] at HF0
  rw [gb2, gb1, gb0]
  have Gb0 := Lib.hid gb0
  have h02 : b0 ≠ b2 := by omega
  have h12 : b1 ≠ b2 := by omega
  have h01 : b0 < b2 := by omega
  have h11 : b1 < b2 := by omega
  have hl2 : w.heap.size ≤ b2 := by omega
  have hl1 : w.heap.size ≤ b1 := by omega
  have Hl2 := Lib.hid hl2
  have Hl1 := Lib.hid hl1
  clear hx0 hx1 hx2 hbl hsz hx0' hx1' hx2' hbl' gW0 gb2 gb1 gb0 hl2 hl1
  go_loopw [4] (fun si wr => ∃ (j : Nat) (v : Value), j ≤ n ∧ j ≤ 26 ∧ si = .int .i64 j ∧ RowKit.Hid (Few7A w Vs A B n c m k b0 b1 b2 j v wr)) (fun si _ => n - (intOf si).toNat)
  case atStart => exact ⟨0, _, by omega, by omega, rfl, HF0⟩
  case round =>
    clear HF0
    obtain ⟨j, v, hj, hj30, rfl, HF⟩ := hrel
    obtain ⟨wo, gwo⟩ : ∃ z, wr = z := ⟨_, rfl⟩
    rw [gwo] at HF ⊢
    clear gwo
    have c0 := HF.out.x0.cell (i := 0) rfl
    by_cases hgo : j < n ∧ j < 26
    · obtain ⟨hjn, hj3⟩ := hgo
      obtain ⟨x, hx⟩ : ∃ x, Vs[j]? = some x := ⟨_, List.getElem?_eq_getElem (by have := Hlv.out; omega)⟩
      have Hx := Lib.hid hx
      have hxo := HRg.out x (List.mem_of_getElem? hx)
      obtain ⟨bb, off, rfl, hbB, hpl⟩ := HV.out.place vC_len (by decide) (by omega)
      have q0 := hpl j _ hx 0 _ rfl
      have q1 := hpl j _ hx 1 _ rfl
      have q2 := hpl j _ hx 2 _ rfl
      have q3 := hpl j _ hx 3 _ rfl
      have q4 := hpl j _ hx 4 _ rfl
      simp only [Addr.add_lit, Nat.add_zero] at q0 q1 q2 q3 q4
      have l0 := (HF.out.ow.below.cell (p := ⟨bb, off + j * 5, none⟩) hbB).trans q0
      have l1 := (HF.out.ow.below.cell (p := ⟨bb, off + j * 5 + 1, none⟩) hbB).trans q1
      have l2 := (HF.out.ow.below.cell (p := ⟨bb, off + j * 5 + 2, none⟩) hbB).trans q2
      have l3 := (HF.out.ow.below.cell (p := ⟨bb, off + j * 5 + 3, none⟩) hbB).trans q3
      have l4 := (HF.out.ow.below.cell (p := ⟨bb, off + j * 5 + 4, none⟩) hbB).trans q4
      obtain ⟨⟨i1, i2⟩, ⟨rA, rn, rc, rL⟩, lb, at_⟩ := x
      have hxo2 : RdS w w.heap.size 3 rA rn rc (dartsV rL) := hxo.2
      have hrc : rn ≤ rc := hxo2.le
      have hrn : rc ≤ 9223372036854775807 := hxo.1
      clear hx hpl q0 q1 q2 q3 q4 hbB
      have hgw : wo.heap.size ≠ b2 := by have := HF.out.x2.lt; omega
      have hgw0 : b0 ≠ wo.heap.size := by have := HF.out.x0.lt; omega
      have hgw1 : b1 ≠ wo.heap.size := by have := HF.out.x1.lt; omega
      by_cases h30 : 82 < rn
      · obtain ⟨ra, rfl⟩ : ∃ ra, rA = some ra := by
          cases rA with
          | none => have := (hxo2.none_ rfl).1; omega
          | some ra => exact ⟨ra, rfl⟩
        have hfv : few7V ((i1, i2), (some ra, rn, rc, rL), lb, at_) = ((i1, i2), (some ra, 82, rc, rL.take 82), lb, at_) := by unfold few7V; rw [if_pos h30]
        clear hxo hxo2
        go_upto_region 8 with fail
        clear l0 l1 l2 l3 l4
        obtain ⟨Wt, gWt⟩ : ∃ x, wo.alloc (.cells #[.int .i64 i1, .int .i64 i2, .slice (some ra) 82 rc, .string lb, .int .i64 at_] 42) = x := ⟨_, rfl⟩
        obtain ⟨g3, gg3⟩ : ∃ x, wo.heap.size = x := ⟨_, rfl⟩
        have HO : RowKit.Hid (Ow w (b2 + 1) 42 5 v j (rowsV vC ((Vs.take j).map few7V)) Wt) := Lib.hid (by rw [← gWt]; exact HF.out.ow.up (below1 _ _))
        have HX0 : RowKit.Hid (Whole Wt b0 25 [.slice (some ⟨bb, off, none⟩) n c, .slice B m k]) := Lib.hid (by rw [← gWt]; exact HF.out.x0.alloc _)
        have HX1 : RowKit.Hid (Whole Wt b1 25 [.slice none 0 0, .slice none 0 0]) := Lib.hid (by rw [← gWt]; exact HF.out.x1.alloc _)
        have HX2 : RowKit.Hid (Whole Wt b2 25 [v, .slice none 0 0]) := Lib.hid (by rw [← gWt]; exact HF.out.x2.alloc _)
        have HX3 : RowKit.Hid (Whole Wt g3 42 [.int .i64 i1, .int .i64 i2, .slice (some ra) 82 rc, .string lb, .int .i64 at_]) := Lib.hid (by rw [← gWt, ← gg3]; exact Whole.new_ wo 42 [_, _, _, _, _])
        rw [gWt, gg3]
        clear gWt gg3 HF c0
        have c0 := HX2.out.cell (i := 0) rfl
        have c1 := HX2.out.cell (i := 1) rfl
        have f0 := HX2.out.free 0
        have z0 := HX3.out.cell (i := 0) rfl
        have z1 := HX3.out.cell (i := 1) rfl
        have z2 := HX3.out.cell (i := 2) rfl
        have z3 := HX3.out.cell (i := 3) rfl
        have z4 := HX3.out.cell (i := 4) rfl
        refine wp_region_lit ?_
        refine wl_read (v := ?_) (some 32) rfl (by rfl) ?_ ?_
        rotate_left
        · go_simp; (try with_reducible rfl)
        simp only [Act.put, List.setIfInBounds_toArray, List.set_cons_zero, List.set_cons_succ]
        refine wl_read (v := ?_) (some 33) rfl (by rfl) ?_ ?_
        rotate_left
        · go_simp; (try with_reducible rfl)
        simp only [Act.put, List.setIfInBounds_toArray, List.set_cons_zero, List.set_cons_succ]
        refine wl_load (some 34) rfl (by rfl) 42 (.tmp 5) rfl g3 rfl 42 [.int .i64 i1, .int .i64 i2, .slice (some ra) 82 rc, .string lb, .int .i64 at_] _ HX3.out Try.underlying42 rfl (by kernel_rfl) ?_
        simp only [Act.put, List.setIfInBounds_toArray, List.set_cons_zero, List.set_cons_succ]
        refine wl_buildSlice (some 35) rfl (by rfl) 22 42 1 #[(0, .tmp 34)] rfl Try.underlying22 #[.int .i64 i1, .int .i64 i2, .slice (some ra) 82 rc, .string lb, .int .i64 at_] (by kernel_rfl) ?_
        simp only [Act.put, List.setIfInBounds_toArray, List.set_cons_zero, List.set_cons_succ]
        refine wpList_push2 rfl (.tmp 33) (.tmp 35) _ rfl _ 42 i0 _ 5 64 Try.underlying22 hi hz0 hz1 hz2 rfl (by decide) _ _ _ rfl (by exact HO.out.up (below1 _ _)) _ (some ⟨Wt.heap.size, 0, none⟩) 1 1 [.int .i64 i1, .int .i64 i2, .slice (some ra) 82 rc, .string lb, .int .i64 at_] rfl (by exact RdS.of_whole (Whole.new_ _ _ _) rfl) (by simp [Value.oneCell']) (by unfold maxLen; omega) (by omega) ?_
        intro v1 w1 how1 hb1 hgr
        obtain ⟨Aq, cq, rfl, -⟩ := how1.rds
        have hne2 := HO.out.low_ne (Nat.lt_succ_self b2)
        have HXa := Lib.hid ((HX0.out.alloc (.cells #[.int .i64 i1, .int .i64 i2, .slice (some ra) 82 rc, .string lb, .int .i64 at_] 42)).grown hgr (HO.out.low_ne (by omega)))
        have HXb := Lib.hid ((HX1.out.alloc (.cells #[.int .i64 i1, .int .i64 i2, .slice (some ra) 82 rc, .string lb, .int .i64 at_] 42)).grown hgr (HO.out.low_ne (by omega)))
        have hx2 := (HX2.out.alloc (.cells #[.int .i64 i1, .int .i64 i2, .slice (some ra) 82 rc, .string lb, .int .i64 at_] 42)).grown hgr hne2
        have m0 := hx2.free 0
        have m1 := hx2.cell (i := 0) rfl
        have HFn : RowKit.Hid (Few7A w Vs (some ⟨bb, off, none⟩) B n c m k b0 b1 b2 (j + 1) (.slice Aq (j + 1) cq) (w1.setCell ⟨b2, 0, none⟩ (.slice Aq (j + 1) cq))) := Lib.hid ⟨by
           have := how1.set_far (i := 0) (how1.low_ne (Nat.lt_succ_self b2)) Hl2.out (.slice Aq (j + 1) cq)
           rw [← few7V_next Vs j _ Hx.out, hfv]
           exact this, HXa.out.set_far' h02 _, HXb.out.set_far' h12 _, hx2.set_ 0 _⟩
        clear how1 hb1 hgr hne2 hx2 c0 c1 f0 z0 z1 z2 z3 z4
        go_wp2
        go_roundw
        case rel => exact ⟨j + 1, _, by omega, by omega, by go_num, HFn⟩
        case measure => simp [intOf]; omega
      · have hfv : few7V ((i1, i2), (rA, rn, rc, rL), lb, at_) = ((i1, i2), (rA, rn, rc, rL), lb, at_) := by unfold few7V; rw [if_neg h30]
        clear hxo hxo2
        go_upto_region 8 with fail
        clear l0 l1 l2 l3 l4
        obtain ⟨Wt, gWt⟩ : ∃ x, wo.alloc (.cells #[.int .i64 i1, .int .i64 i2, .slice rA rn rc, .string lb, .int .i64 at_] 42) = x := ⟨_, rfl⟩
        obtain ⟨g3, gg3⟩ : ∃ x, wo.heap.size = x := ⟨_, rfl⟩
        have HO : RowKit.Hid (Ow w (b2 + 1) 42 5 v j (rowsV vC ((Vs.take j).map few7V)) Wt) := Lib.hid (by rw [← gWt]; exact HF.out.ow.up (below1 _ _))
        have HX0 : RowKit.Hid (Whole Wt b0 25 [.slice (some ⟨bb, off, none⟩) n c, .slice B m k]) := Lib.hid (by rw [← gWt]; exact HF.out.x0.alloc _)
        have HX1 : RowKit.Hid (Whole Wt b1 25 [.slice none 0 0, .slice none 0 0]) := Lib.hid (by rw [← gWt]; exact HF.out.x1.alloc _)
        have HX2 : RowKit.Hid (Whole Wt b2 25 [v, .slice none 0 0]) := Lib.hid (by rw [← gWt]; exact HF.out.x2.alloc _)
        have HX3 : RowKit.Hid (Whole Wt g3 42 [.int .i64 i1, .int .i64 i2, .slice rA rn rc, .string lb, .int .i64 at_]) := Lib.hid (by rw [← gWt, ← gg3]; exact Whole.new_ wo 42 [_, _, _, _, _])
        rw [gWt, gg3]
        clear gWt gg3 HF c0
        have c0 := HX2.out.cell (i := 0) rfl
        have c1 := HX2.out.cell (i := 1) rfl
        have f0 := HX2.out.free 0
        have z0 := HX3.out.cell (i := 0) rfl
        have z1 := HX3.out.cell (i := 1) rfl
        have z2 := HX3.out.cell (i := 2) rfl
        have z3 := HX3.out.cell (i := 3) rfl
        have z4 := HX3.out.cell (i := 4) rfl
        refine wp_region_lit ?_
        refine wl_read (v := ?_) (some 32) rfl (by rfl) ?_ ?_
        rotate_left
        · go_simp; (try with_reducible rfl)
        simp only [Act.put, List.setIfInBounds_toArray, List.set_cons_zero, List.set_cons_succ]
        refine wl_read (v := ?_) (some 33) rfl (by rfl) ?_ ?_
        rotate_left
        · go_simp; (try with_reducible rfl)
        simp only [Act.put, List.setIfInBounds_toArray, List.set_cons_zero, List.set_cons_succ]
        refine wl_load (some 34) rfl (by rfl) 42 (.tmp 5) rfl g3 rfl 42 [.int .i64 i1, .int .i64 i2, .slice rA rn rc, .string lb, .int .i64 at_] _ HX3.out Try.underlying42 rfl (by kernel_rfl) ?_
        simp only [Act.put, List.setIfInBounds_toArray, List.set_cons_zero, List.set_cons_succ]
        refine wl_buildSlice (some 35) rfl (by rfl) 22 42 1 #[(0, .tmp 34)] rfl Try.underlying22 #[.int .i64 i1, .int .i64 i2, .slice rA rn rc, .string lb, .int .i64 at_] (by kernel_rfl) ?_
        simp only [Act.put, List.setIfInBounds_toArray, List.set_cons_zero, List.set_cons_succ]
        refine wpList_push2 rfl (.tmp 33) (.tmp 35) _ rfl _ 42 i0 _ 5 64 Try.underlying22 hi hz0 hz1 hz2 rfl (by decide) _ _ _ rfl (by exact HO.out.up (below1 _ _)) _ (some ⟨Wt.heap.size, 0, none⟩) 1 1 [.int .i64 i1, .int .i64 i2, .slice rA rn rc, .string lb, .int .i64 at_] rfl (by exact RdS.of_whole (Whole.new_ _ _ _) rfl) (by simp [Value.oneCell']) (by unfold maxLen; omega) (by omega) ?_
        intro v1 w1 how1 hb1 hgr
        obtain ⟨Aq, cq, rfl, -⟩ := how1.rds
        have hne2 := HO.out.low_ne (Nat.lt_succ_self b2)
        have HXa := Lib.hid ((HX0.out.alloc (.cells #[.int .i64 i1, .int .i64 i2, .slice rA rn rc, .string lb, .int .i64 at_] 42)).grown hgr (HO.out.low_ne (by omega)))
        have HXb := Lib.hid ((HX1.out.alloc (.cells #[.int .i64 i1, .int .i64 i2, .slice rA rn rc, .string lb, .int .i64 at_] 42)).grown hgr (HO.out.low_ne (by omega)))
        have hx2 := (HX2.out.alloc (.cells #[.int .i64 i1, .int .i64 i2, .slice rA rn rc, .string lb, .int .i64 at_] 42)).grown hgr hne2
        have m0 := hx2.free 0
        have m1 := hx2.cell (i := 0) rfl
        have HFn : RowKit.Hid (Few7A w Vs (some ⟨bb, off, none⟩) B n c m k b0 b1 b2 (j + 1) (.slice Aq (j + 1) cq) (w1.setCell ⟨b2, 0, none⟩ (.slice Aq (j + 1) cq))) := Lib.hid ⟨by
           have := how1.set_far (i := 0) (how1.low_ne (Nat.lt_succ_self b2)) Hl2.out (.slice Aq (j + 1) cq)
           rw [← few7V_next Vs j _ Hx.out, hfv]
           exact this, HXa.out.set_far' h02 _, HXb.out.set_far' h12 _, hx2.set_ 0 _⟩
        clear how1 hb1 hgr hne2 hx2 c0 c1 f0 z0 z1 z2 z3 z4
        go_wp2
        go_roundw
        case rel => exact ⟨j + 1, _, by omega, by omega, by go_num, HFn⟩
        case measure => simp [intOf]; omega
    · by_cases hjn : j < n
      · have hj3 : ¬ j < 26 := by omega
        have hjl : (Vs.take 26).length = j := by have := Hlv.out; rw [List.length_take]; omega
        have htk : Vs.take j = Vs.take 26 := by
          rw [← hjl, List.length_take]
          rcases Nat.le_total 26 Vs.length with h | h
          · rw [Nat.min_eq_left h]
          · rw [Nat.min_eq_right h, List.take_length, List.take_of_length_le h]
        obtain ⟨A1, c1, rfl, hr1⟩ := HF.out.ow.rds
        have Hcap1 : RowKit.Hid (c1 ≤ maxLen) := Lib.hid (own_cap HF.out.ow.own)
        rw [htk] at hr1
        have hne : ∀ a, A1 = some a → 0 < j → a.block ≠ b2 ∧ a.block ≠ b1 ∧ w.heap.size ≤ a.block := fun a ha _ => by
          subst ha
          have h9 := (HF.out.ow.own.lt a.block rfl).1
          have h8 := Hl2.out
          omega
        have hB2 : b2 < wo.heap.size := HF.out.x2.lt
        obtain ⟨B2, gB2⟩ : ∃ z, wo.heap.size = z := ⟨_, rfl⟩
        have hB3 : B2 ≤ wo.heap.size := by omega
        rw [gB2] at hr1 hB2
        have HG0 : RowKit.Hid (Few7B w Vs Es A B n c m k b0 b1 b2 B2 j A1 c1 0 (.slice none 0 0) (.slice none 0 0) wo) := Lib.hid ⟨Ow.nil_ HF.out.ow.below (by have := HF.out.ow.below.size; omega) hB3, HF.out.x0, HF.out.x1, HF.out.x2, hr1⟩
        have Hne := Lib.hid hne
        have Hjl := Lib.hid hjl
        have HlB : RowKit.Hid (w.heap.size ≤ B2) := Lib.hid (by have := HF.out.ow.below.size; omega)
        clear hr1 hne htk gB2 HF hB3 hjl
        go_wp2
        clear c0
        go_loopw [6] (fun si wr => ∃ (q : Nat) (v2 : Value), q ≤ m ∧ q ≤ 42 ∧ si = .int .i64 q ∧ RowKit.Hid (Few7B w Vs Es A B n c m k b0 b1 b2 B2 j A1 c1 q v2 v2 wr)) (fun si _ => m - (intOf si).toNat)
        case atStart => exact ⟨0, _, by omega, by omega, rfl, HG0⟩
        case round =>
          clear HG0
          obtain ⟨q, v2, hq, hq50, rfl, HG⟩ := hrel
          obtain ⟨wi, gwi⟩ : ∃ z, wr = z := ⟨_, rfl⟩
          rw [gwi] at HG ⊢
          clear gwi
          have d0 := HG.out.x0.cell (i := 1) rfl
          by_cases hgo2 : q < m ∧ q < 42
          · obtain ⟨hqm, hq5⟩ := hgo2
            obtain ⟨x, hx⟩ : ∃ x, Es[q]? = some x := ⟨_, List.getElem?_eq_getElem (by have := Hle.out; omega)⟩
            have Hx := Lib.hid hx
            obtain ⟨bb, off, rfl, hbB, hpl⟩ := HE.out.place eC_len (by decide) (by omega)
            have HPl := Lib.hid (hpl q _ hx)
            have HbB := Lib.hid hbB
            clear hx hpl hbB
            go_upto_region 12 with fail
            clear d0
            have HGd := Lib.hid (HG.out.below ((Below.refl _ _).drew))
            have HP : RowKit.Hid (∀ w', Kept (From_ B2) wi.drew w' → ∀ i u, (eC x)[i]? = some u → w'.cell? ((⟨bb, off + q * 4, none⟩ : Addr).add i) = some u) := Lib.hid (fun w' hk i u hu => hk.from_cell (by rw [add_block]; exact Nat.lt_of_lt_of_le HbB.out HlB.out) ((HGd.out.ow.below.cell (by rw [add_block]; exact HbB.out)).trans (HPl.out i u hu)))
            have ld1 : ∀ w', Kept (From_ B2) wi.drew w' → w'.cell? ⟨b2, 1, none⟩ = some v2 := fun w' hk => hk.from_cell hB2 (HGd.out.x2.cell (i := 1) rfl)
            have ld0 : ∀ w', Kept (From_ B2) wi.drew w' → w'.cell? ⟨b0, 1, none⟩ = some (.slice (some ⟨bb, off, none⟩) m k) := fun w' hk => hk.from_cell (show b0 < B2 by omega) (HGd.out.x0.cell (i := 1) rfl)
            clear HG
            refine wp_region_tail (From_ B2) [10] (by kernel_rfl) ?_
            apply wpT_next 0 (some 49) (by kernel_rfl)
            · simp only [List.getElem?_toArray, List.getElem?_cons_succ, List.getElem?_cons_zero]; exact rfl
            · rfl
            · kernel_rfl
            · kernel_rfl
            · kernel_rfl
            · exact fun _ _ _ _ h => h
            apply Exists.intro
            apply And.intro
            · apply yr_run; rfl; intro w' hw'; go_simp; (try with_reducible rfl)
            simp only [Act.put, List.setIfInBounds_toArray, List.set_cons_zero, List.set_cons_succ]
            apply wpT_next 1 (some 50) (by kernel_rfl)
            · simp only [List.getElem?_toArray, List.getElem?_cons_succ, List.getElem?_cons_zero]; exact rfl
            · rfl
            · kernel_rfl
            · kernel_rfl
            · kernel_rfl
            · exact fun _ _ _ _ h => h
            apply Exists.intro
            apply And.intro
            · apply yr_run; rfl; intro w' hw'; go_simp; (try with_reducible rfl)
            simp only [Act.put, List.setIfInBounds_toArray, List.set_cons_zero, List.set_cons_succ]
            apply wpT_next 2 (some 51) (by kernel_rfl)
            · simp only [List.getElem?_toArray, List.getElem?_cons_succ, List.getElem?_cons_zero]; exact rfl
            · rfl
            · kernel_rfl
            · kernel_rfl
            · kernel_rfl
            · exact fun _ _ _ _ h => h
            apply Exists.intro
            apply And.intro
            · apply yr_run; rfl; intro w' hw'; go_simp; (try with_reducible rfl)
            simp only [Act.put, List.setIfInBounds_toArray, List.set_cons_zero, List.set_cons_succ]
            apply wpT_next 3 (some 52) (by kernel_rfl)
            · simp only [List.getElem?_toArray, List.getElem?_cons_succ, List.getElem?_cons_zero]; exact rfl
            · rfl
            · kernel_rfl
            · kernel_rfl
            · kernel_rfl
            · exact fun _ _ _ _ h => h
            apply Exists.intro
            apply And.intro
            · apply yr_run; rfl; intro w' hw'; go_simp; (try with_reducible rfl)
            simp only [Act.put, List.setIfInBounds_toArray, List.set_cons_zero, List.set_cons_succ]
            apply wpT_next 4 (some 53) (by kernel_rfl)
            · simp only [List.getElem?_toArray, List.getElem?_cons_succ, List.getElem?_cons_zero]; exact rfl
            · rfl
            · kernel_rfl
            · kernel_rfl
            · kernel_rfl
            · exact fun _ _ _ _ h => h
            apply Exists.intro
            apply And.intro
            · apply yr_run; rfl; intro w' hw'; go_simp; (try with_reducible rfl)
            simp only [Act.put, List.setIfInBounds_toArray, List.set_cons_zero, List.set_cons_succ]
            apply wpT_next 5 (some 54) (by kernel_rfl)
            · simp only [List.getElem?_toArray, List.getElem?_cons_succ, List.getElem?_cons_zero]; exact rfl
            · rfl
            · kernel_rfl
            · kernel_rfl
            · kernel_rfl
            · exact fun _ _ _ _ h => h
            apply Exists.intro
            apply And.intro
            · apply yr_run; rfl; intro w' hw'; go_simp; (try with_reducible rfl)
            simp only [Act.put, List.setIfInBounds_toArray, List.set_cons_zero, List.set_cons_succ]
            apply wpT_next 6 (some 55) (by kernel_rfl)
            · simp only [List.getElem?_toArray, List.getElem?_cons_succ, List.getElem?_cons_zero]; exact rfl
            · rfl
            · kernel_rfl
            · kernel_rfl
            · kernel_rfl
            · exact fun _ _ _ _ h => h
            apply Exists.intro
            apply And.intro
            · exact yr_load_at (by rfl) 37 (.tmp 54) rfl ⟨bb, off + q * 4, none⟩ rfl (eC x) _ HP.out Try.underlying37 rfl (by kernel_rfl)
            simp only [Act.put, List.setIfInBounds_toArray, List.set_cons_zero, List.set_cons_succ]
            apply wpT_run 7 (some 56)
            · simp only [List.getElem?_toArray, List.getElem?_cons_succ, List.getElem?_cons_zero]; exact rfl
            · rfl
            · kernel_rfl
            · rfl
            intro w' hw'
            refine ⟨.slice (some ⟨w'.heap.size, 0, none⟩) 1 1, w'.alloc (.cells (eC x).toArray 37), exec_buildSlice 23 37 1 #[(0, .tmp 55)] (by rfl) Try.underlying23 _ (by kernel_rfl), Kept.of_below (below1 _ _), ?_⟩
            have HXd : RowKit.Hid (Ext wi.drew (w'.alloc (.cells (eC x).toArray 37))) := Lib.hid (Ext.trans hw' (below1 _ _))
            have HL : RowKit.Hid (RdS (w'.alloc (.cells (eC x).toArray 37)) (w'.alloc (.cells (eC x).toArray 37)).heap.size 4 (some ⟨w'.heap.size, 0, none⟩) 1 1 (eC x)) := Lib.hid (RdS.of_whole (Whole.new_ _ _ _) rfl)
            obtain ⟨W3, gW3⟩ : ∃ z, w'.alloc (.cells (eC x).toArray 37) = z := ⟨_, rfl⟩
            obtain ⟨g3, gg3⟩ : ∃ z, w'.heap.size = z := ⟨_, rfl⟩
            rw [gW3] at HXd HL ⊢
            rw [gg3] at HL ⊢
            clear hw' gW3 gg3
            simp only [Act.put, List.setIfInBounds_toArray, List.set_cons_zero, List.set_cons_succ]
            apply wpT_run 8 (some 57)
            · simp only [List.getElem?_toArray, List.getElem?_cons_succ, List.getElem?_cons_zero]; exact rfl
            · rfl
            · kernel_rfl
            · rfl
            intro w' hw'
            have HG8 := HGd.out.below (Ext.trans HXd.out hw')
            obtain ⟨v8, w'', hrun, ho, hb8⟩ := Ow.app (P := Try.prog) 23 23 37 i1 _ 4 40 B2 Try.underlying23 hi1 hz01 hz11 hz21 rfl (by decide) _ _ _ HG8.ow _ _ 1 1 _ (HL.out.bl hw') (eC_one x) (by unfold maxLen; omega) (by omega)
            obtain ⟨A8, c8, rfl, -⟩ := ho.rds
            refine ⟨_, w'', exec_append (by rfl) (by rfl) (by rfl) hrun, Kept.of_from hb8, ?_⟩
            have HG9 := Lib.hid (HG8.grow Hx.out ho hb8 (by omega) (by omega) hB2)
            obtain ⟨W4, gW4⟩ : ∃ z, w'' = z := ⟨_, rfl⟩
            rw [gW4] at HG9 ⊢
            clear hw' HG8 hrun ho hb8 gW4 HXd HL HGd
            simp only [Act.put, List.setIfInBounds_toArray, List.set_cons_zero, List.set_cons_succ]
            apply wpT_next 9 (some 58) (by kernel_rfl)
            · simp only [List.getElem?_toArray, List.getElem?_cons_succ, List.getElem?_cons_zero]; exact rfl
            · rfl
            · kernel_rfl
            · kernel_rfl
            · kernel_rfl
            · exact fun _ _ _ _ h => h
            apply Exists.intro
            apply And.intro
            · apply yr_run; rfl; intro w' hw'; go_simp; (try with_reducible rfl)
            simp only [Act.put, List.setIfInBounds_toArray, List.set_cons_zero, List.set_cons_succ]
            apply wpT_last 10
            · simp only [List.getElem?_toArray, List.getElem?_cons_succ, List.getElem?_cons_zero]; exact rfl
            · rfl
            · kernel_rfl
            · rfl
            · decide
            intro w' hw'
            have hx2 := HG9.out.x2.below hw'
            have hcl := hx2.cell (i := 1) rfl
            have hfr := hx2.free 1
            refine ⟨w'.setCell ⟨b2, 1, none⟩ (.slice A8 (q + 1) c8), ?_, ?_⟩
            · go_simp; first | done | exact rfl
            have HG10 := Lib.hid ((HG9.out.below hw').store h02 h12 hB2 Hl2.out (fun a ha h0 => (Hne.out a ha h0).1))
            obtain ⟨W5, gW5⟩ : ∃ z, w'.setCell ⟨b2, 1, none⟩ (.slice A8 (q + 1) c8) = z := ⟨_, rfl⟩
            rw [gW5] at HG10 ⊢
            clear hw' hx2 hcl hfr gW5 HG9
            try simp only [Act.put, List.setIfInBounds_toArray, List.set_cons_zero, List.set_cons_succ]
            refine wpT_done (by kernel_rfl) ?_ _
            intro W6 hw6
            have HG6 := Lib.hid (HG10.out.below hw6)
            clear hw6 ld0 ld1 HP HG10
            go_wp2
            go_roundw
            case rel => exact ⟨q + 1, _, by omega, by omega, by go_num, HG6⟩
            case measure => simp [intOf]; omega
          · have hql : (Es.take 42).length = q := by have := Hle.out; rw [List.length_take]; omega
            have htk2 : Es.take q = Es.take 42 := by
              rw [← hql, List.length_take]
              rcases Nat.le_total 42 Es.length with h | h
              · rw [Nat.min_eq_left h]
              · rw [Nat.min_eq_right h, List.take_length, List.take_of_length_le h]
            obtain ⟨A2, c2, rfl, hr2⟩ := HG.out.ow.rds
            have hcap2 : c2 ≤ maxLen := own_cap HG.out.ow.own
            have hfr2 : ∀ a, A2 = some a → 0 < q → w.heap.size ≤ a.block := fun a ha _ => by
              subst ha
              have h9 := (HG.out.ow.own.lt a.block rfl).1
              have h8 := HlB.out
              omega
            rw [htk2] at hr2
            have hne2 : ∀ a, A2 = some a → 0 < q → a.block ≠ b1 := fun a ha _ => by
              subst ha
              have h9 := (HG.out.ow.own.lt a.block rfl).1
              omega
            have hpost : ∃ A' c' B' k', Ending.returned (.agg #[.slice A1 j c1, .slice A2 q c2]) = .returned (.agg #[.slice A' (Vs.take 26).length c', .slice B' (Es.take 42).length k']) ∧
              DgIn ((wi.setCell ⟨b1, 0, none⟩ (.slice A1 j c1)).setCell ⟨b1, 1, none⟩ (.slice A2 q c2)) A' (Vs.take 26).length c' ((Vs.take 26).map few7V) B' (Es.take 42).length k' (Es.take 42) ∧ Below w.heap.size w ((wi.setCell ⟨b1, 0, none⟩ (.slice A1 j c1)).setCell ⟨b1, 1, none⟩ (.slice A2 q c2)) ∧ FwNew w A' (Vs.take 26).length c' B' (Es.take 42).length k' := by
              have hbel := (HG.out.ow.below.setCell (p := ⟨b1, 0, none⟩) Hl1.out (.slice A1 j c1)).setCell (p := ⟨b1, 1, none⟩) Hl1.out (.slice A2 q c2)
              refine ⟨A1, c1, A2, c2, by rw [Hjl.out, hql], ?_, hbel, ?_⟩
              rotate_left
              · rw [Hjl.out, hql]
                exact ⟨Hcap1.out, hcap2, fun a ha h0 => (Hne.out a ha h0).2.2, hfr2⟩
              rw [Hjl.out, hql]
              refine ⟨((HG.out.rv.far_ (fun a ha h0 => (Hne.out a ha h0).2.1) _).far_ (fun a ha h0 => (Hne.out a ha h0).2.1) _).up (Below.refl _ _) (by simpa [World.setCell] using HG.out.ow.hi), ((hr2.far_ hne2 _).far_ hne2 _).up (Below.refl _ _) (by simp [World.setCell]), fun y hy => ?_⟩
              obtain ⟨x, hx, rfl⟩ := List.mem_map.1 hy
              exact (RgOk.few7 (HRg.out x (List.mem_of_mem_take hx))).below hbel
            have hx1 := (HG.out.x1.set_ 0 (.slice A1 j c1)).set_ 1 (.slice A2 q c2)
            have e0 := HG.out.x2.cell (i := 0) rfl
            have e1 := HG.out.x2.cell (i := 1) rfl
            have f0 := HG.out.x1.free 0
            have f1 := HG.out.x1.free 1
            have k0 := HG.out.x1.cell (i := 0) rfl
            have k1 := HG.out.x1.cell (i := 1) rfl
            have Hpost := Lib.hid hpost
            have Hx1 := Lib.hid hx1
            clear hpost hx1 hr2 hne2 HG htk2 hql hcap2 hfr2
            by_cases hqm : q < m
            · have hq5 : ¬ q < 42 := by omega
              go_wp2
              exact ret_whole rfl b1 rfl Hx1.out Try.underlying25 rfl (by kernel_rfl) rfl Hpost.out
            · go_wp2
              exact ret_whole rfl b1 rfl Hx1.out Try.underlying25 rfl (by kernel_rfl) rfl Hpost.out
      · have hjl : (Vs.take 26).length = j := by have := Hlv.out; rw [List.length_take]; omega
        have htk : Vs.take j = Vs.take 26 := by
          rw [← hjl, List.length_take]
          rcases Nat.le_total 26 Vs.length with h | h
          · rw [Nat.min_eq_left h]
          · rw [Nat.min_eq_right h, List.take_length, List.take_of_length_le h]
        obtain ⟨A1, c1, rfl, hr1⟩ := HF.out.ow.rds
        have Hcap1 : RowKit.Hid (c1 ≤ maxLen) := Lib.hid (own_cap HF.out.ow.own)
        rw [htk] at hr1
        have hne : ∀ a, A1 = some a → 0 < j → a.block ≠ b2 ∧ a.block ≠ b1 ∧ w.heap.size ≤ a.block := fun a ha _ => by
          subst ha
          have h9 := (HF.out.ow.own.lt a.block rfl).1
          have h8 := Hl2.out
          omega
        have hB2 : b2 < wo.heap.size := HF.out.x2.lt
        obtain ⟨B2, gB2⟩ : ∃ z, wo.heap.size = z := ⟨_, rfl⟩
        have hB3 : B2 ≤ wo.heap.size := by omega
        rw [gB2] at hr1 hB2
        have HG0 : RowKit.Hid (Few7B w Vs Es A B n c m k b0 b1 b2 B2 j A1 c1 0 (.slice none 0 0) (.slice none 0 0) wo) := Lib.hid ⟨Ow.nil_ HF.out.ow.below (by have := HF.out.ow.below.size; omega) hB3, HF.out.x0, HF.out.x1, HF.out.x2, hr1⟩
        have Hne := Lib.hid hne
        have Hjl := Lib.hid hjl
        have HlB : RowKit.Hid (w.heap.size ≤ B2) := Lib.hid (by have := HF.out.ow.below.size; omega)
        clear hr1 hne htk gB2 HF hB3 hjl
        go_wp2
        clear c0
        go_loopw [6] (fun si wr => ∃ (q : Nat) (v2 : Value), q ≤ m ∧ q ≤ 42 ∧ si = .int .i64 q ∧ RowKit.Hid (Few7B w Vs Es A B n c m k b0 b1 b2 B2 j A1 c1 q v2 v2 wr)) (fun si _ => m - (intOf si).toNat)
        case atStart => exact ⟨0, _, by omega, by omega, rfl, HG0⟩
        case round =>
          clear HG0
          obtain ⟨q, v2, hq, hq50, rfl, HG⟩ := hrel
          obtain ⟨wi, gwi⟩ : ∃ z, wr = z := ⟨_, rfl⟩
          rw [gwi] at HG ⊢
          clear gwi
          have d0 := HG.out.x0.cell (i := 1) rfl
          by_cases hgo2 : q < m ∧ q < 42
          · obtain ⟨hqm, hq5⟩ := hgo2
            obtain ⟨x, hx⟩ : ∃ x, Es[q]? = some x := ⟨_, List.getElem?_eq_getElem (by have := Hle.out; omega)⟩
            have Hx := Lib.hid hx
            obtain ⟨bb, off, rfl, hbB, hpl⟩ := HE.out.place eC_len (by decide) (by omega)
            have HPl := Lib.hid (hpl q _ hx)
            have HbB := Lib.hid hbB
            clear hx hpl hbB
            go_upto_region 12 with fail
            clear d0
            have HGd := Lib.hid (HG.out.below ((Below.refl _ _).drew))
            have HP : RowKit.Hid (∀ w', Kept (From_ B2) wi.drew w' → ∀ i u, (eC x)[i]? = some u → w'.cell? ((⟨bb, off + q * 4, none⟩ : Addr).add i) = some u) := Lib.hid (fun w' hk i u hu => hk.from_cell (by rw [add_block]; exact Nat.lt_of_lt_of_le HbB.out HlB.out) ((HGd.out.ow.below.cell (by rw [add_block]; exact HbB.out)).trans (HPl.out i u hu)))
            have ld1 : ∀ w', Kept (From_ B2) wi.drew w' → w'.cell? ⟨b2, 1, none⟩ = some v2 := fun w' hk => hk.from_cell hB2 (HGd.out.x2.cell (i := 1) rfl)
            have ld0 : ∀ w', Kept (From_ B2) wi.drew w' → w'.cell? ⟨b0, 1, none⟩ = some (.slice (some ⟨bb, off, none⟩) m k) := fun w' hk => hk.from_cell (show b0 < B2 by omega) (HGd.out.x0.cell (i := 1) rfl)
            clear HG
            refine wp_region_tail (From_ B2) [10] (by kernel_rfl) ?_
            apply wpT_next 0 (some 49) (by kernel_rfl)
            · simp only [List.getElem?_toArray, List.getElem?_cons_succ, List.getElem?_cons_zero]; exact rfl
            · rfl
            · kernel_rfl
            · kernel_rfl
            · kernel_rfl
            · exact fun _ _ _ _ h => h
            apply Exists.intro
            apply And.intro
            · apply yr_run; rfl; intro w' hw'; go_simp; (try with_reducible rfl)
            simp only [Act.put, List.setIfInBounds_toArray, List.set_cons_zero, List.set_cons_succ]
            apply wpT_next 1 (some 50) (by kernel_rfl)
            · simp only [List.getElem?_toArray, List.getElem?_cons_succ, List.getElem?_cons_zero]; exact rfl
            · rfl
            · kernel_rfl
            · kernel_rfl
            · kernel_rfl
            · exact fun _ _ _ _ h => h
            apply Exists.intro
            apply And.intro
            · apply yr_run; rfl; intro w' hw'; go_simp; (try with_reducible rfl)
            simp only [Act.put, List.setIfInBounds_toArray, List.set_cons_zero, List.set_cons_succ]
            apply wpT_next 2 (some 51) (by kernel_rfl)
            · simp only [List.getElem?_toArray, List.getElem?_cons_succ, List.getElem?_cons_zero]; exact rfl
            · rfl
            · kernel_rfl
            · kernel_rfl
            · kernel_rfl
            · exact fun _ _ _ _ h => h
            apply Exists.intro
            apply And.intro
            · apply yr_run; rfl; intro w' hw'; go_simp; (try with_reducible rfl)
            simp only [Act.put, List.setIfInBounds_toArray, List.set_cons_zero, List.set_cons_succ]
            apply wpT_next 3 (some 52) (by kernel_rfl)
            · simp only [List.getElem?_toArray, List.getElem?_cons_succ, List.getElem?_cons_zero]; exact rfl
            · rfl
            · kernel_rfl
            · kernel_rfl
            · kernel_rfl
            · exact fun _ _ _ _ h => h
            apply Exists.intro
            apply And.intro
            · apply yr_run; rfl; intro w' hw'; go_simp; (try with_reducible rfl)
            simp only [Act.put, List.setIfInBounds_toArray, List.set_cons_zero, List.set_cons_succ]
            apply wpT_next 4 (some 53) (by kernel_rfl)
            · simp only [List.getElem?_toArray, List.getElem?_cons_succ, List.getElem?_cons_zero]; exact rfl
            · rfl
            · kernel_rfl
            · kernel_rfl
            · kernel_rfl
            · exact fun _ _ _ _ h => h
            apply Exists.intro
            apply And.intro
            · apply yr_run; rfl; intro w' hw'; go_simp; (try with_reducible rfl)
            simp only [Act.put, List.setIfInBounds_toArray, List.set_cons_zero, List.set_cons_succ]
            apply wpT_next 5 (some 54) (by kernel_rfl)
            · simp only [List.getElem?_toArray, List.getElem?_cons_succ, List.getElem?_cons_zero]; exact rfl
            · rfl
            · kernel_rfl
            · kernel_rfl
            · kernel_rfl
            · exact fun _ _ _ _ h => h
            apply Exists.intro
            apply And.intro
            · apply yr_run; rfl; intro w' hw'; go_simp; (try with_reducible rfl)
            simp only [Act.put, List.setIfInBounds_toArray, List.set_cons_zero, List.set_cons_succ]
            apply wpT_next 6 (some 55) (by kernel_rfl)
            · simp only [List.getElem?_toArray, List.getElem?_cons_succ, List.getElem?_cons_zero]; exact rfl
            · rfl
            · kernel_rfl
            · kernel_rfl
            · kernel_rfl
            · exact fun _ _ _ _ h => h
            apply Exists.intro
            apply And.intro
            · exact yr_load_at (by rfl) 37 (.tmp 54) rfl ⟨bb, off + q * 4, none⟩ rfl (eC x) _ HP.out Try.underlying37 rfl (by kernel_rfl)
            simp only [Act.put, List.setIfInBounds_toArray, List.set_cons_zero, List.set_cons_succ]
            apply wpT_run 7 (some 56)
            · simp only [List.getElem?_toArray, List.getElem?_cons_succ, List.getElem?_cons_zero]; exact rfl
            · rfl
            · kernel_rfl
            · rfl
            intro w' hw'
            refine ⟨.slice (some ⟨w'.heap.size, 0, none⟩) 1 1, w'.alloc (.cells (eC x).toArray 37), exec_buildSlice 23 37 1 #[(0, .tmp 55)] (by rfl) Try.underlying23 _ (by kernel_rfl), Kept.of_below (below1 _ _), ?_⟩
            have HXd : RowKit.Hid (Ext wi.drew (w'.alloc (.cells (eC x).toArray 37))) := Lib.hid (Ext.trans hw' (below1 _ _))
            have HL : RowKit.Hid (RdS (w'.alloc (.cells (eC x).toArray 37)) (w'.alloc (.cells (eC x).toArray 37)).heap.size 4 (some ⟨w'.heap.size, 0, none⟩) 1 1 (eC x)) := Lib.hid (RdS.of_whole (Whole.new_ _ _ _) rfl)
            obtain ⟨W3, gW3⟩ : ∃ z, w'.alloc (.cells (eC x).toArray 37) = z := ⟨_, rfl⟩
            obtain ⟨g3, gg3⟩ : ∃ z, w'.heap.size = z := ⟨_, rfl⟩
            rw [gW3] at HXd HL ⊢
            rw [gg3] at HL ⊢
            clear hw' gW3 gg3
            simp only [Act.put, List.setIfInBounds_toArray, List.set_cons_zero, List.set_cons_succ]
            apply wpT_run 8 (some 57)
            · simp only [List.getElem?_toArray, List.getElem?_cons_succ, List.getElem?_cons_zero]; exact rfl
            · rfl
            · kernel_rfl
            · rfl
            intro w' hw'
            have HG8 := HGd.out.below (Ext.trans HXd.out hw')
            obtain ⟨v8, w'', hrun, ho, hb8⟩ := Ow.app (P := Try.prog) 23 23 37 i1 _ 4 40 B2 Try.underlying23 hi1 hz01 hz11 hz21 rfl (by decide) _ _ _ HG8.ow _ _ 1 1 _ (HL.out.bl hw') (eC_one x) (by unfold maxLen; omega) (by omega)
            obtain ⟨A8, c8, rfl, -⟩ := ho.rds
            refine ⟨_, w'', exec_append (by rfl) (by rfl) (by rfl) hrun, Kept.of_from hb8, ?_⟩
            have HG9 := Lib.hid (HG8.grow Hx.out ho hb8 (by omega) (by omega) hB2)
            obtain ⟨W4, gW4⟩ : ∃ z, w'' = z := ⟨_, rfl⟩
            rw [gW4] at HG9 ⊢
            clear hw' HG8 hrun ho hb8 gW4 HXd HL HGd
            simp only [Act.put, List.setIfInBounds_toArray, List.set_cons_zero, List.set_cons_succ]
            apply wpT_next 9 (some 58) (by kernel_rfl)
            · simp only [List.getElem?_toArray, List.getElem?_cons_succ, List.getElem?_cons_zero]; exact rfl
            · rfl
            · kernel_rfl
            · kernel_rfl
            · kernel_rfl
            · exact fun _ _ _ _ h => h
            apply Exists.intro
            apply And.intro
            · apply yr_run; rfl; intro w' hw'; go_simp; (try with_reducible rfl)
            simp only [Act.put, List.setIfInBounds_toArray, List.set_cons_zero, List.set_cons_succ]
            apply wpT_last 10
            · simp only [List.getElem?_toArray, List.getElem?_cons_succ, List.getElem?_cons_zero]; exact rfl
            · rfl
            · kernel_rfl
            · rfl
            · decide
            intro w' hw'
            have hx2 := HG9.out.x2.below hw'
            have hcl := hx2.cell (i := 1) rfl
            have hfr := hx2.free 1
            refine ⟨w'.setCell ⟨b2, 1, none⟩ (.slice A8 (q + 1) c8), ?_, ?_⟩
            · go_simp; first | done | exact rfl
            have HG10 := Lib.hid ((HG9.out.below hw').store h02 h12 hB2 Hl2.out (fun a ha h0 => (Hne.out a ha h0).1))
            obtain ⟨W5, gW5⟩ : ∃ z, w'.setCell ⟨b2, 1, none⟩ (.slice A8 (q + 1) c8) = z := ⟨_, rfl⟩
            rw [gW5] at HG10 ⊢
            clear hw' hx2 hcl hfr gW5 HG9
            try simp only [Act.put, List.setIfInBounds_toArray, List.set_cons_zero, List.set_cons_succ]
            refine wpT_done (by kernel_rfl) ?_ _
            intro W6 hw6
            have HG6 := Lib.hid (HG10.out.below hw6)
            clear hw6 ld0 ld1 HP HG10
            go_wp2
            go_roundw
            case rel => exact ⟨q + 1, _, by omega, by omega, by go_num, HG6⟩
            case measure => simp [intOf]; omega
          · have hql : (Es.take 42).length = q := by have := Hle.out; rw [List.length_take]; omega
            have htk2 : Es.take q = Es.take 42 := by
              rw [← hql, List.length_take]
              rcases Nat.le_total 42 Es.length with h | h
              · rw [Nat.min_eq_left h]
              · rw [Nat.min_eq_right h, List.take_length, List.take_of_length_le h]
            obtain ⟨A2, c2, rfl, hr2⟩ := HG.out.ow.rds
            have hcap2 : c2 ≤ maxLen := own_cap HG.out.ow.own
            have hfr2 : ∀ a, A2 = some a → 0 < q → w.heap.size ≤ a.block := fun a ha _ => by
              subst ha
              have h9 := (HG.out.ow.own.lt a.block rfl).1
              have h8 := HlB.out
              omega
            rw [htk2] at hr2
            have hne2 : ∀ a, A2 = some a → 0 < q → a.block ≠ b1 := fun a ha _ => by
              subst ha
              have h9 := (HG.out.ow.own.lt a.block rfl).1
              omega
            have hpost : ∃ A' c' B' k', Ending.returned (.agg #[.slice A1 j c1, .slice A2 q c2]) = .returned (.agg #[.slice A' (Vs.take 26).length c', .slice B' (Es.take 42).length k']) ∧
              DgIn ((wi.setCell ⟨b1, 0, none⟩ (.slice A1 j c1)).setCell ⟨b1, 1, none⟩ (.slice A2 q c2)) A' (Vs.take 26).length c' ((Vs.take 26).map few7V) B' (Es.take 42).length k' (Es.take 42) ∧ Below w.heap.size w ((wi.setCell ⟨b1, 0, none⟩ (.slice A1 j c1)).setCell ⟨b1, 1, none⟩ (.slice A2 q c2)) ∧ FwNew w A' (Vs.take 26).length c' B' (Es.take 42).length k' := by
              have hbel := (HG.out.ow.below.setCell (p := ⟨b1, 0, none⟩) Hl1.out (.slice A1 j c1)).setCell (p := ⟨b1, 1, none⟩) Hl1.out (.slice A2 q c2)
              refine ⟨A1, c1, A2, c2, by rw [Hjl.out, hql], ?_, hbel, ?_⟩
              rotate_left
              · rw [Hjl.out, hql]
                exact ⟨Hcap1.out, hcap2, fun a ha h0 => (Hne.out a ha h0).2.2, hfr2⟩
              rw [Hjl.out, hql]
              refine ⟨((HG.out.rv.far_ (fun a ha h0 => (Hne.out a ha h0).2.1) _).far_ (fun a ha h0 => (Hne.out a ha h0).2.1) _).up (Below.refl _ _) (by simpa [World.setCell] using HG.out.ow.hi), ((hr2.far_ hne2 _).far_ hne2 _).up (Below.refl _ _) (by simp [World.setCell]), fun y hy => ?_⟩
              obtain ⟨x, hx, rfl⟩ := List.mem_map.1 hy
              exact (RgOk.few7 (HRg.out x (List.mem_of_mem_take hx))).below hbel
            have hx1 := (HG.out.x1.set_ 0 (.slice A1 j c1)).set_ 1 (.slice A2 q c2)
            have e0 := HG.out.x2.cell (i := 0) rfl
            have e1 := HG.out.x2.cell (i := 1) rfl
            have f0 := HG.out.x1.free 0
            have f1 := HG.out.x1.free 1
            have k0 := HG.out.x1.cell (i := 0) rfl
            have k1 := HG.out.x1.cell (i := 1) rfl
            have Hpost := Lib.hid hpost
            have Hx1 := Lib.hid hx1
            clear hpost hx1 hr2 hne2 HG htk2 hql hcap2 hfr2
            by_cases hqm : q < m
            · have hq5 : ¬ q < 42 := by omega
              go_wp2
              exact ret_whole rfl b1 rfl Hx1.out Try.underlying25 rfl (by kernel_rfl) rfl Hpost.out
            · go_wp2
              exact ret_whole rfl b1 rfl Hx1.out Try.underlying25 rfl (by kernel_rfl) rfl Hpost.out
theorem few7V_ring (v : VC) : (few7V v).2.1.1 = v.2.1.1 ∧ (few7V v).2.1.2.1 ≤ 82 ∧ (few7V v).2.1.2.1 ≤ v.2.1.2.1 ∧ (few7V v).1 = v.1 ∧ (few7V v).2.2 = v.2.2 ∧ ∀ d ∈ (few7V v).2.1.2.2.2, d ∈ v.2.1.2.2.2 := by
  unfold few7V
  split
  · exact ⟨rfl, Nat.le_refl _, by show 82 ≤ _; omega, rfl, rfl, fun d hd => List.mem_of_mem_take hd⟩
  · exact ⟨rfl, by omega, Nat.le_refl _, rfl, rfl, fun d hd => hd⟩
theorem GoodD.few7 {Vs : List VC} {Es : List EC} (h : GoodD Vs Es) : GoodD ((Vs.take 26).map few7V) (Es.take 42) := by
  refine ⟨fun x hx d hd => ?_, fun e he => h.e e (List.mem_of_mem_take he), fun x hx => ?_, fun e he => h.le e (List.mem_of_mem_take he)⟩
  · obtain ⟨y, hy, rfl⟩ := List.mem_map.1 hx
    exact h.v y (List.mem_of_mem_take hy) d ((few7V_ring y).2.2.2.2.2 d hd)
  · obtain ⟨y, hy, rfl⟩ := List.mem_map.1 hx
    have := h.lv y (List.mem_of_mem_take hy)
    rw [(few7V_ring y).2.2.2.2.1]
    exact this
/-- What few tells. -/
structure Few7D (w0 W W' : World) (A : Option Addr) (n c : Nat) (Vs : List VC) (B : Option Addr) (m k : Nat) (Es : List EC) : Prop where
  dg : DgIn W' A n c Vs B m k Es
  good : GoodD Vs Es
  n30 : n ≤ 26
  m50 : m ≤ 42
  r30 : ∀ x ∈ Vs, x.2.1.2.1 ≤ 82
  low : ∀ x ∈ Vs, ∀ a, x.2.1.1 = some a → 0 < x.2.1.2.1 → a.block < w0.heap.size
  fresh : FwNew W A n c B m k
  lenv : Vs.length = n
  lene : Es.length = m
theorem few7_step {w0 : World} {A B : Option Addr} {n c m k : Nat} {Vs : List VC} {Es : List EC} (h : DgIn w0 A n c Vs B m k Es) (hg : GoodD Vs Es) (hn : n ≤ maxLen) (hm : m ≤ maxLen) (W : World) (hb : Below w0.heap.size w0 W) :
    Calls Try.prog 11 #[.agg #[.slice A n c, .slice B m k]] W fun e W' => ∃ A' n' c' B' m' k', e = .returned (.agg #[.slice A' n' c', .slice B' m' k']) ∧
      Few7D w0 W W' A' n' c' ((Vs.take 26).map few7V) B' m' k' (Es.take 42) ∧ Below W.heap.size W W' := by
  refine (few7_any A n c Vs B m k Es W (h.below hb) hn hm).mono ?_
  rintro e W' ⟨A', c', B', k', rfl, hd, hbl, hf⟩
  refine ⟨A', _, c', B', _, k', rfl, ⟨hd, hg.few7, by rw [List.length_take]; omega, by rw [List.length_take]; omega, fun x hx => ?_, fun x hx a ha h0 => ?_, hf, by rw [List.length_map], rfl⟩, hbl⟩
  · obtain ⟨y, hy, rfl⟩ := List.mem_map.1 hx
    exact (few7V_ring y).2.1
  · obtain ⟨y, hy, rfl⟩ := List.mem_map.1 hx
    rw [(few7V_ring y).1] at ha
    exact (h.r y (List.mem_of_mem_take hy)).2.low a ha (Nat.lt_of_lt_of_le h0 (few7V_ring y).2.2.1)
/-- The diagram that few told is put into a variable of the call's own. -/
theorem Few7D.put {w0 W W' : World} {A B : Option Addr} {n c m k g : Nat} {Vs : List VC} {Es : List EC} (h : Few7D w0 W W' A n c Vs B m k Es) (hg0 : w0.heap.size ≤ g) (hg : g < W.heap.size) (u v : Value) :
    DgIn ((W'.setCell ⟨g, 0, none⟩ u).setCell ⟨g, 1, none⟩ v) A n c Vs B m k Es := by
  have ha : ∀ a, A = some a → 0 < n → a.block ≠ g := fun a e h0 => by have := h.fresh.2.2.1 a e h0; omega
  have hb : ∀ a, B = some a → 0 < m → a.block ≠ g := fun a e h0 => by have := h.fresh.2.2.2 a e h0; omega
  have hr : ∀ x ∈ Vs, ∀ a, x.2.1.1 = some a → 0 < x.2.1.2.1 → a.block ≠ g := fun x hx a e h0 => by have := h.low x hx a e h0; omega
  exact (h.dg.far g 0 u ha hb hr).far g 1 v ha hb hr
end Go.Proofs.Ytpindjknngcccaa
