/- Several texts in one. -/
import Derived.Test.YtoiflngpjdghbaaOAG
import Derived.Laws.ResultCell

/- The reader: name, corner, text. -/
namespace Go.Proofs.Ytoiflngpjdghbaa
open Go.RowKit
set_option linter.unusedSimpArgs false
set_option linter.unusedVariables false

set_option maxRecDepth 100000 in
set_option maxHeartbeats 4000000 in
theorem rname_any (lo g : Nat) (L : List Nat) (w : World) (h : CuAt lo w g L) (hb : ∀ b ∈ L, b < 256) :
    Calls Try.prog 56 #[.pointer (some ⟨g, 0, none⟩)] w fun e w' => e = .returned (.agg #[.int .i64 (vI L).1, .int .i64 (vI L).2]) ∧ Cu1 lo w w' g (lI L) := by
  have HT := Lib.hid (takenid_any lo g L (w.alloc (.cells #[.int .i64 0, .int .i64 0] 42)) (h.al _) hb)
  have HX0 : RowKit.Hid (Whole (w.alloc (.cells #[.int .i64 0, .int .i64 0] 42)) w.heap.size 42 [.int .i64 0, .int .i64 0]) := Lib.hid (Whole.new_ _ _ [_, _])
  have HK0 : RowKit.Hid (Kept (At1 g) w (w.alloc (.cells #[.int .i64 0, .int .i64 0] 42))) := Lib.hid (Kept.of_below (below1 w _))
  have Hgb : RowKit.Hid (g < w.heap.size) := Lib.hid h.lt
  obtain ⟨x1, gx1⟩ : ∃ z, (vI L).1 = z := ⟨_, rfl⟩
  obtain ⟨x2, gx2⟩ : ∃ z, (vI L).2 = z := ⟨_, rfl⟩
  rw [gx1, gx2] at HT ⊢
  clear h hb gx1 gx2
  go_enter Try.func56, Try.ntmps56
  go_upto_region 1 with fail
  obtain ⟨w0, gw0⟩ : ∃ z, w.alloc (.cells #[.int .i64 0, .int .i64 0] 42) = z := ⟨_, rfl⟩
  obtain ⟨b, gb⟩ : ∃ z, w.heap.size = z := ⟨_, rfl⟩
  rw [gw0] at HX0 HK0 HT ⊢
  rw [gb] at HX0 Hgb ⊢
  have Gb := Lib.hid gb
  clear gw0 gb
  go_wp2_with (first
    | (go_at_call 66
       refine HT.out.mono ?_
       rintro e w1 ⟨rfl, hcu⟩
       have HX2 := Lib.hid (hcu.2.whole HX0.out (fun e => by have h1 : b = g := e; have := Hgb.out; omega))
       have HK2 := Lib.hid (HK0.out.trans hcu.2)
       have HC2 := Lib.hid hcu.1
       have q0 := HX2.out.cell (i := 0) rfl
       have q1 := HX2.out.cell (i := 1) rfl
       have f0 := HX2.out.free 0
       have f1 := HX2.out.free 1
       clear hcu))
  have HXz := (HX2.out.set_ 0 (.int .i64 x1)).set_ 1 (.int .i64 x2)
  have hc2 := (HC2.out.poke (i := 0) Hgb.out (.int .i64 x1)).poke (i := 1) Hgb.out (.int .i64 x2)
  have hk2 := kept_poke (i := 1) (kept_poke (i := 0) HK2.out (Nat.le_of_eq Gb.out) (.int .i64 x1)) (Nat.le_of_eq Gb.out) (.int .i64 x2)
  exact ret_whole rfl b rfl HXz Try.underlying42 rfl (by kernel_rfl) rfl ⟨rfl, hc2, hk2⟩
def cC (c : C5) : List Value := [.int .i64 c.1, .int .i64 c.2.1, .int .i64 c.2.2.1, .int .i64 c.2.2.2.1, .int .i64 c.2.2.2.2]
set_option maxRecDepth 100000 in
set_option maxHeartbeats 4000000 in
theorem rcorner_rd (lo g : Nat) (L : List Nat) (w : World) (h : CuAt lo w g L) (hb : ∀ b ∈ L, b < 256) :
    Calls Try.prog 57 #[.pointer (some ⟨g, 0, none⟩)] w fun e w' => e = .returned (.agg (cC (crV L)).toArray) ∧ Cu1 lo w w' g (crL L) := by
  have HN1 := Lib.hid (fun W hc => rname_any lo g L W hc hb)
  have HN2 := Lib.hid (fun W hc => cnumber_any lo g (lI L) W hc (lI_lt hb))
  have HN3 := Lib.hid (fun W hc => rname_any lo g ((lI L).drop 1) W hc (drop_lt (lI_lt hb) 1))
  have hlt := byte_lt (lI_lt hb)
  have hv : crV L = if 0 < c1 (lI L) then ((vI L).1, (vI L).2, (vI ((lI L).drop 1)).1, (vI ((lI L).drop 1)).2, (c1 (lI L) : Int) - 1) else ((vI L).1, (vI L).2, 0, 0, 0) := rfl
  have hl : crL L = if 0 < c1 (lI L) then lI ((lI L).drop 1) else (lI L).drop 1 := rfl
  have HX0 : RowKit.Hid (Whole (w.alloc (.cells #[.int .i64 0, .int .i64 0, .int .i64 0, .int .i64 0, .int .i64 0] 46)) w.heap.size 46 [.int .i64 0, .int .i64 0, .int .i64 0, .int .i64 0, .int .i64 0]) := Lib.hid (Whole.new_ _ _ [_, _, _, _, _])
  have HC0 := Lib.hid (h.al (.cells #[.int .i64 0, .int .i64 0, .int .i64 0, .int .i64 0, .int .i64 0] 46))
  have HK0 : RowKit.Hid (Kept (At1 g) w (w.alloc (.cells #[.int .i64 0, .int .i64 0, .int .i64 0, .int .i64 0, .int .i64 0] 46))) := Lib.hid (Kept.of_below (below1 w _))
  have Hgb : RowKit.Hid (g < w.heap.size) := Lib.hid h.lt
  obtain ⟨x1, gx1⟩ : ∃ z, (vI L).1 = z := ⟨_, rfl⟩
  obtain ⟨x2, gx2⟩ : ∃ z, (vI L).2 = z := ⟨_, rfl⟩
  obtain ⟨y1, gy1⟩ : ∃ z, (vI ((lI L).drop 1)).1 = z := ⟨_, rfl⟩
  obtain ⟨y2, gy2⟩ : ∃ z, (vI ((lI L).drop 1)).2 = z := ⟨_, rfl⟩
  obtain ⟨sd, gsd⟩ : ∃ z, c1 (lI L) = z := ⟨_, rfl⟩
  rw [gx1, gx2] at HN1 hv
  rw [gy1, gy2] at HN3 hv
  rw [gsd] at HN2 hlt hv hl
  obtain ⟨L1, gL1⟩ : ∃ z, lI L = z := ⟨_, rfl⟩
  rw [gL1] at HN1 HN2 HN3 hl
  obtain ⟨L2, gL2⟩ : ∃ z, L1.drop 1 = z := ⟨_, rfl⟩
  rw [gL2] at HN2 HN3 hl
  clear h hb gx1 gx2 gy1 gy2 gsd gL1 gL2
  have Hv := Lib.hid hv
  have Hl := Lib.hid hl
  clear hv hl
  go_enter Try.func57, Try.ntmps57
  go_upto_region 1 with fail
  obtain ⟨w0, gw0⟩ : ∃ z, w.alloc (.cells #[.int .i64 0, .int .i64 0, .int .i64 0, .int .i64 0, .int .i64 0] 46) = z := ⟨_, rfl⟩
  obtain ⟨b, gb⟩ : ∃ z, w.heap.size = z := ⟨_, rfl⟩
  rw [gw0] at HX0 HK0 HC0 ⊢
  rw [gb] at HX0 Hgb ⊢
  have Gb := Lib.hid gb
  clear gw0 gb
  go_upto_region 2 with (first
    | (go_at_call 56
       refine (HN1.out _ HC0.out).mono ?_
       rintro e w1 ⟨rfl, hcu⟩
       have HX1 := Lib.hid ((hcu.2.whole HX0.out (fun e => by have h1 : b = g := e; have := Hgb.out; omega)).al (.cells #[.int .i64 x1, .int .i64 x2, .int .i64 0, .int .i64 0, .int .i64 0] 46))
       have HK1 := Lib.hid ((HK0.out.trans hcu.2).alloc (.cells #[.int .i64 x1, .int .i64 x2, .int .i64 0, .int .i64 0, .int .i64 0] 46))
       have HC1 := Lib.hid (hcu.1.al (.cells #[.int .i64 x1, .int .i64 x2, .int .i64 0, .int .i64 0, .int .i64 0] 46))
       have HY1 : RowKit.Hid (Whole (w1.alloc (.cells #[.int .i64 x1, .int .i64 x2, .int .i64 0, .int .i64 0, .int .i64 0] 46)) w1.heap.size 46 [.int .i64 x1, .int .i64 x2, .int .i64 0, .int .i64 0, .int .i64 0]) := Lib.hid (Whole.new_ _ _ [_, _, _, _, _])
       have Hgb5 : RowKit.Hid (g < w1.heap.size ∧ b < w1.heap.size) := Lib.hid ⟨hcu.1.lt, (hcu.2.whole HX0.out (fun e => by have h1 : b = g := e; have := Hgb.out; omega)).lt⟩
       clear hcu))
  obtain ⟨w2, gw2⟩ : ∃ z, w1.alloc (.cells #[.int .i64 x1, .int .i64 x2, .int .i64 0, .int .i64 0, .int .i64 0] 46) = z := ⟨_, rfl⟩
  obtain ⟨b5, gb5⟩ : ∃ z, w1.heap.size = z := ⟨_, rfl⟩
  rw [gw2] at HX1 HC1 HK1 HY1 ⊢
  rw [gb5] at HY1 Hgb5 ⊢
  clear gw2 gb5 HX0 HC0 HK0
  go_upto_region 3 with (first
    | (go_at_call 39
       refine (HN2.out _ HC1.out).mono ?_
       rintro e w3 ⟨rfl, hcu, hgr⟩
       have HX3 := Lib.hid ((gk hgr).whole HX1.out (fun e => by have h1 : b = g := e; have := Hgb.out; omega))
       have HY3 := Lib.hid ((gk hgr).whole HY1.out (fun e => by have h1 : b5 = g := e; have := Hgb5.out; omega))
       have HK3 := Lib.hid (HK1.out.trans (gk hgr))
       have HC3 := Lib.hid hcu
       clear hcu hgr))
  by_cases hs : 0 < sd
  · have hv := Hv.out
    have hl := Hl.out
    rw [if_pos hs] at hv hl
    have Hv2 := Lib.hid hv
    have Hl2 := Lib.hid hl
    have ht1 : (0 : Int) < (sd : Int) := by omega
    have hw : IntKind.i64.wrap ((sd : Int) - 1) = (sd : Int) - 1 := IntWalk.i64_in _ (by omega)
    clear hv hl hlt
    go_upto_region 5 with (first
      | (go_at_call 56
         refine (HN3.out _ HC3.out).mono ?_
         rintro e w4 ⟨rfl, hcu⟩
         have HX4 := Lib.hid (hcu.2.whole HX3.out (fun e => by have h1 : b = g := e; have := Hgb.out; omega))
         have HY4 := Lib.hid (hcu.2.whole HY3.out (fun e => by have h1 : b5 = g := e; have := Hgb5.out; omega))
         have HK4 := Lib.hid (HK3.out.trans hcu.2)
         have HC4 := Lib.hid hcu.1
         have p2 := HY4.out.cell (i := 2) rfl
         have p3 := HY4.out.cell (i := 3) rfl
         have p4 := HY4.out.cell (i := 4) rfl
         have r2 := HY4.out.free 2
         have r3 := HY4.out.free 3
         have r4 := HY4.out.free 4
         clear hcu))
    clear p2 p3 p4 r2 r3 r4
    have HY5 := Lib.hid (((HY4.out.set_ 2 (.int .i64 y1)).set_ 3 (.int .i64 y2)).set_ 4 (.int .i64 ((sd : Int) - 1)))
    have HC5 := Lib.hid (((HC4.out.poke (i := 2) Hgb5.out.1 (.int .i64 y1)).poke (i := 3) Hgb5.out.1 (.int .i64 y2)).poke (i := 4) Hgb5.out.1 (.int .i64 ((sd : Int) - 1)))
    have HX5 := Lib.hid (((HX4.out.far (p := ⟨b5, 2, none⟩) (by show b ≠ b5; have := Hgb5.out.2; omega) (.int .i64 y1)).far (p := ⟨b5, 3, none⟩) (by show b ≠ b5; have := Hgb5.out.2; omega) (.int .i64 y2)).far (p := ⟨b5, 4, none⟩) (by show b ≠ b5; have := Hgb5.out.2; omega) (.int .i64 ((sd : Int) - 1)))
    have hb5 : w.heap.size ≤ b5 := by have := Gb.out; have := Hgb5.out.2; omega
    have HK5 := Lib.hid (kept_poke (i := 4) (kept_poke (i := 3) (kept_poke (i := 2) HK4.out hb5 (.int .i64 y1)) hb5 (.int .i64 y2)) hb5 (.int .i64 ((sd : Int) - 1)))
    obtain ⟨w5, gw5⟩ : ∃ z, ((w4.setCell ⟨b5, 2, none⟩ (.int .i64 y1)).setCell ⟨b5, 3, none⟩ (.int .i64 y2)).setCell ⟨b5, 4, none⟩ (.int .i64 ((sd : Int) - 1)) = z := ⟨_, rfl⟩
    rw [gw5] at HY5 HC5 HX5 HK5 ⊢
    clear gw5 hb5 HX4 HY4 HK4 HC4 ht1 hw
    refine wp_region_lit ?_
    refine wl_load (some 20) rfl (by rfl) 46 (.tmp 3) rfl b5 rfl 46 [.int .i64 x1, .int .i64 x2, .int .i64 y1, .int .i64 y2, .int .i64 ((sd : Int) - 1)] _ HY5.out Try.underlying46 rfl (by kernel_rfl) ?_
    simp only [Act.put, List.setIfInBounds_toArray, List.set_cons_zero, List.set_cons_succ]
    refine wpList_store_row rfl 46 (.tmp 2) (.tmp 20) rfl b #[.int .i64 x1, .int .i64 x2, .int .i64 y1, .int .i64 y2, .int .i64 ((sd : Int) - 1)] rfl rfl 46 #[.int .i64 0, .int .i64 0, .int .i64 0, .int .i64 0, .int .i64 0] HX5.out (by kernel_rfl) rfl (by simp [Value.oneCell']) ?_
    have HX6 : RowKit.Hid (Whole (w5.setRow b #[.int .i64 x1, .int .i64 x2, .int .i64 y1, .int .i64 y2, .int .i64 ((sd : Int) - 1)]) b 46 [.int .i64 x1, .int .i64 x2, .int .i64 y1, .int .i64 y2, .int .i64 ((sd : Int) - 1)]) := Lib.hid (Whole.row HX5.out [_, _, _, _, _])
    have HC6 := Lib.hid (HC5.out.row Hgb.out #[.int .i64 x1, .int .i64 x2, .int .i64 y1, .int .i64 y2, .int .i64 ((sd : Int) - 1)])
    have HK6 := Lib.hid (kept_in HK5.out (Nat.le_of_eq Gb.out) (kept_row (S := fun i => i = b) rfl #[.int .i64 x1, .int .i64 x2, .int .i64 y1, .int .i64 y2, .int .i64 ((sd : Int) - 1)]))
    go_wp2
    exact ret_whole rfl b rfl HX6.out Try.underlying46 rfl (by kernel_rfl) rfl ⟨by rw [Hv2.out]; rfl, by rw [Hl2.out]; exact HC6.out, HK6.out⟩
  · have hv := Hv.out
    have hl := Hl.out
    rw [if_neg hs] at hv hl
    have Hv2 := Lib.hid hv
    have Hl2 := Lib.hid hl
    obtain rfl : sd = 0 := by omega
    clear hv hl hlt hs
    go_upto_region 5 with fail
    refine wp_region_lit ?_
    refine wl_load (some 20) rfl (by rfl) 46 (.tmp 3) rfl b5 rfl 46 [.int .i64 x1, .int .i64 x2, .int .i64 0, .int .i64 0, .int .i64 0] _ HY3.out Try.underlying46 rfl (by kernel_rfl) ?_
    simp only [Act.put, List.setIfInBounds_toArray, List.set_cons_zero, List.set_cons_succ]
    refine wpList_store_row rfl 46 (.tmp 2) (.tmp 20) rfl b #[.int .i64 x1, .int .i64 x2, .int .i64 0, .int .i64 0, .int .i64 0] rfl rfl 46 #[.int .i64 0, .int .i64 0, .int .i64 0, .int .i64 0, .int .i64 0] HX3.out (by kernel_rfl) rfl (by simp [Value.oneCell']) ?_
    have HX6 : RowKit.Hid (Whole (w3.setRow b #[.int .i64 x1, .int .i64 x2, .int .i64 0, .int .i64 0, .int .i64 0]) b 46 [.int .i64 x1, .int .i64 x2, .int .i64 0, .int .i64 0, .int .i64 0]) := Lib.hid (Whole.row HX3.out [_, _, _, _, _])
    have HC6 := Lib.hid (HC3.out.row Hgb.out #[.int .i64 x1, .int .i64 x2, .int .i64 0, .int .i64 0, .int .i64 0])
    have HK6 := Lib.hid (kept_in HK3.out (Nat.le_of_eq Gb.out) (kept_row (S := fun i => i = b) rfl #[.int .i64 x1, .int .i64 x2, .int .i64 0, .int .i64 0, .int .i64 0]))
    go_wp2
    exact ret_whole rfl b rfl HX6.out Try.underlying46 rfl (by kernel_rfl) rfl ⟨by rw [Hv2.out]; rfl, by rw [Hl2.out]; exact HC6.out, HK6.out⟩
set_option maxRecDepth 100000 in
set_option maxHeartbeats 4000000 in
theorem rtext_rd (lo g : Nat) (L : List Nat) (w : World) (h : CuAt lo w g L) (hb : ∀ b ∈ L, b < 256) :
    Calls Try.prog 58 #[.pointer (some ⟨g, 0, none⟩)] w fun e w' => e = .returned (.string (txT L)) ∧ Cu1 lo w w' g (leT L) := by
  have HT := Lib.hid (takentext_any lo g (1 + c1 L) L w h hb rfl)
  have hlt := byte_lt hb
  obtain ⟨A, n, c, h1, h2, h3, h4, h5⟩ := h
  have hl : L.length = n := h2.rlen f8_len (by decide)
  have l0 := h1.cell (i := 0) (v := .slice A n c) rfl
  by_cases h0 : 0 < n
  · obtain ⟨bb, off, rfl, -, hp⟩ := byte_at h2 h0
    obtain ⟨x, gx⟩ : ∃ z, c1 L = z := ⟨_, rfl⟩
    have hx : L[0]? = some x := by
      cases L with
      | nil => simp at hl; omega
      | cons a l => rw [← gx]; rfl
    have b0 := hp 0 x hx
    simp only [Nat.add_zero] at b0
    rw [gx] at HT hlt
    have hw1 : IntKind.i64.wrap (x : Int) = (x : Int) := IntWalk.i64_in _ (by omega)
    have hw2 : IntKind.i64.wrap (1 + (x : Int)) = ((1 + x : Nat) : Int) := by rw [IntWalk.i64_in _ (by omega)]; omega
    have ht : (0 : Int) < (n : Int) := by omega
    obtain ⟨k, gk1⟩ : ∃ z, 1 + x = z := ⟨_, rfl⟩
    rw [gk1] at HT hw2
    clear hl hx hp h1 h2 h3 h4 h5 hlt gx gk1 hb
    go_enter Try.func58, Try.ntmps58
    go_wp2_with (first
      | (go_at_call 68
         refine HT.out.mono ?_
         rintro e w1 ⟨rfl, hcu⟩
         have HC := Lib.hid hcu
         clear hcu))
    go_ret
    exact ⟨rfl, HC.out⟩
  · obtain rfl : n = 0 := by omega
    obtain rfl : L = [] := List.eq_nil_of_length_eq_zero hl
    clear hl h1 h2 h3 h4 h5 hlt h0 hb
    go_enter Try.func58, Try.ntmps58
    go_wp2_with (first
      | (go_at_call 68
         refine HT.out.mono ?_
         rintro e w1 ⟨rfl, hcu⟩
         have HC := Lib.hid hcu
         clear hcu))
    go_ret
    exact ⟨rfl, HC.out⟩

end Go.Proofs.Ytoiflngpjdghbaa

/- The reader: op. -/
namespace Go.Proofs.Ytoiflngpjdghbaa
open Go.RowKit
set_option linter.unusedSimpArgs false
set_option linter.unusedVariables false

/-- An operation of a kind and a name alone. -/
def kO (k : Int) (x : Int × Int) : OpT := ⟨k, x.1, x.2, 0, 0, 0, 0, 0, 0, 0, 0, 0, 0, 0, 0, 0, 0, false, ⟨#[]⟩, 0⟩
theorem cC_one (c : C5) : ∀ v ∈ cC c, v.oneCell' = true := by simp [cC, Value.oneCell']
theorem opCells_arr (o : OpT) : (opCells o).toArray.all (·.oneCell') = true := by simp [opCells, Value.oneCell']
theorem wl_store {P : Program} {ops : Array Oper} {Q : Exit → Act → World → Prop} {o : Oper} {rest : List Oper} {a : Act} {w w' : World} (hd : o.dst = none) (hw : Region.wanted o (yielded ops a.tmps) = true) (hrun : (execOp a.eval o).run P w = .ok .skip w')
    (h : wpList P ops Q rest a w') : wpList P ops Q (o :: rest) a w := by
  refine wpList_step fun K hK => ?_
  rw [if_pos hw]
  unfold Oper.wp
  rw [hrun, Oper.upon_skip, hd]
  exact hK _ _ h
set_option maxRecDepth 100000 in
set_option maxHeartbeats 4000000 in
theorem rop_3 (lo g : Nat) (L : List Nat) (w : World) (h : CuAt lo w g L) (hb : ∀ b ∈ L, b < 256) (hk : c1 L = 3) :
    Calls Try.prog 40 #[.pointer (some ⟨g, 0, none⟩)] w fun e w' => e = .returned (.agg (opCells (opV L)).toArray) ∧ Cu1 lo w w' g (opL L) := by
  have HN1 := Lib.hid (fun W hc => cnumber_any lo g L W hc hb)
  have HN2 := Lib.hid (fun W hc => rname_any lo g (L.drop 1) W hc (drop_lt hb 1))
  have hbM := lI_lt (drop_lt hb 1)
  have HV : RowKit.Hid (opV L = fdV (c1 L) (vI (L.drop 1)) (lI (L.drop 1))) := Lib.hid rfl
  have HF : RowKit.Hid (opL L = fdL (c1 L) (lI (L.drop 1))) := Lib.hid rfl
  have HX0 : RowKit.Hid (Whole (w.alloc (.cells #[.int .i64 0, .int .i64 0, .int .i64 0, .int .i64 0, .int .i64 0, .int .i64 0, .int .i64 0, .int .i64 0, .int .i64 0, .int .i64 0, .int .i64 0, .int .i64 0, .int .i64 0, .int .i64 0, .int .i64 0, .int .i64 0, .int .i64 0, .bool false, .string ⟨#[]⟩, .int .i64 0] 48)) w.heap.size 48 (opCells zeroO)) := Lib.hid (Whole.new_ _ _ (opCells zeroO))
  have HC0 := Lib.hid (h.al (.cells #[.int .i64 0, .int .i64 0, .int .i64 0, .int .i64 0, .int .i64 0, .int .i64 0, .int .i64 0, .int .i64 0, .int .i64 0, .int .i64 0, .int .i64 0, .int .i64 0, .int .i64 0, .int .i64 0, .int .i64 0, .int .i64 0, .int .i64 0, .bool false, .string ⟨#[]⟩, .int .i64 0] 48))
  have HK0 : RowKit.Hid (Kept (At1 g) w (w.alloc (.cells #[.int .i64 0, .int .i64 0, .int .i64 0, .int .i64 0, .int .i64 0, .int .i64 0, .int .i64 0, .int .i64 0, .int .i64 0, .int .i64 0, .int .i64 0, .int .i64 0, .int .i64 0, .int .i64 0, .int .i64 0, .int .i64 0, .int .i64 0, .bool false, .string ⟨#[]⟩, .int .i64 0] 48))) := Lib.hid (Kept.of_below (below1 w _))
  have Hgb : RowKit.Hid (g < w.heap.size) := Lib.hid h.lt
  have hlt := byte_lt hb
  obtain ⟨k, gk0⟩ : ∃ z, c1 L = z := ⟨_, rfl⟩
  obtain ⟨⟨x1, x2⟩, gx⟩ : ∃ z, vI (L.drop 1) = z := ⟨_, rfl⟩
  obtain ⟨M, gM⟩ : ∃ z, lI (L.drop 1) = z := ⟨_, rfl⟩
  rw [gk0] at HN1 HV HF hlt hk
  rw [gx] at HN2 HV
  rw [gM] at HN2 HV HF hbM
  clear gx gM gk0 h hb
  have HR1 := Lib.hid (fun W hc => rcorner_rd lo g M W hc hbM)
  have HR2 := Lib.hid (fun W hc => rcorner_rd lo g (crL M) W hc (crL_lt hbM))
  have Hk := Lib.hid hk
  subst hk
  rw [show fdV 3 (x1, x2) M = ⟨3, x1, x2, 0, 0, 0, 0, (crV M).1, (crV M).2.1, (crV M).2.2.1, (crV M).2.2.2.1, (crV M).2.2.2.2, (crV (crL M)).1, (crV (crL M)).2.1, (crV (crL M)).2.2.1, (crV (crL M)).2.2.2.1, (crV (crL M)).2.2.2.2, false, ⟨#[]⟩, 0⟩ from rfl] at HV
  rw [show fdL 3 M = crL (crL M) from rfl] at HF
  obtain ⟨ca, gca⟩ : ∃ z, crV M = z := ⟨_, rfl⟩
  obtain ⟨cb, gcb⟩ : ∃ z, crV (crL M) = z := ⟨_, rfl⟩
  rw [gca] at HR1 HV
  rw [gcb] at HR2 HV
  clear gca gcb
  obtain ⟨kI, gkI⟩ : ∃ z : Int, ((3 : Nat) : Int) = z := ⟨_, rfl⟩
  rw [gkI] at HN1
  have GkI := Lib.hid gkI
  have q3 : (kI == 3) = true := by rw [← gkI]; rfl
  clear hbM
  go_enter Try.func40, Try.ntmps40
  go_upto_region 1 with fail
  obtain ⟨w0, gw0⟩ : ∃ z, w.alloc (.cells #[.int .i64 0, .int .i64 0, .int .i64 0, .int .i64 0, .int .i64 0, .int .i64 0, .int .i64 0, .int .i64 0, .int .i64 0, .int .i64 0, .int .i64 0, .int .i64 0, .int .i64 0, .int .i64 0, .int .i64 0, .int .i64 0, .int .i64 0, .bool false, .string ⟨#[]⟩, .int .i64 0] 48) = z := ⟨_, rfl⟩
  obtain ⟨b, gb⟩ : ∃ z, w.heap.size = z := ⟨_, rfl⟩
  rw [gw0] at HX0 HK0 HC0 ⊢
  rw [gb] at HX0 Hgb ⊢
  have Gb := Lib.hid gb
  clear gw0 gb
  go_wp2_with fail
  refine (HN1.out _ HC0.out).mono ?_
  rintro e w1 ⟨rfl, hcu, hgr⟩
  have HX1 := Lib.hid ((gk hgr).whole HX0.out (fun e => by have h1 : b = g := e; have := Hgb.out; omega))
  have HK1 := Lib.hid (HK0.out.trans (gk hgr))
  have HC1 := Lib.hid hcu
  clear hcu hgr HX0 HK0 HC0
  go_wp2_with fail
  refine (HN2.out _ HC1.out).mono ?_
  rintro e w2 ⟨rfl, hcu⟩
  have HX2 := Lib.hid (hcu.2.whole HX1.out (fun e => by have h1 : b = g := e; have := Hgb.out; omega))
  have HK2 := Lib.hid (HK1.out.trans hcu.2)
  have HC2 := Lib.hid hcu.1
  clear hcu HX1 HK1 HC1
  rename_i hK
  refine hK _ _ ?_
  refine wl_read (v := .agg (opCells (kO kI (x1, x2))).toArray) (some 10) rfl (by rfl) ?_ ?_
  · go_simp; rfl
  simp only [Act.put, List.setIfInBounds_toArray, List.set_cons_zero, List.set_cons_succ]
  refine wl_new 3 rfl rfl rfl 48 (.tmp 10) rfl rfl #[.int .i64 0, .int .i64 0, .int .i64 0, .int .i64 0, .int .i64 0, .int .i64 0, .int .i64 0, .int .i64 0, .int .i64 0, .int .i64 0, .int .i64 0, .int .i64 0, .int .i64 0, .int .i64 0, .int .i64 0, .int .i64 0, .int .i64 0, .bool false, .string ⟨#[]⟩, .int .i64 0] ?_ (opCells (kO kI (x1, x2))).toArray (by simp) rfl (by kernel_rfl) rfl (opCells_arr _) ?_
  · go_simp; (try with_reducible rfl)
  simp only [Act.put, List.setIfInBounds_toArray, List.set_cons_zero, List.set_cons_succ]
  have HY3 : RowKit.Hid (Whole (w2.alloc (.cells (opCells (kO kI (x1, x2))).toArray 48)) w2.heap.size 48 (opCells (kO kI (x1, x2)))) := Lib.hid (Whole.new_ _ _ _)
  have Hgb5 : RowKit.Hid (g < w2.heap.size ∧ b < w2.heap.size) := Lib.hid ⟨HC2.out.lt, HX2.out.lt⟩
  have HX3 := Lib.hid (HX2.out.al (.cells (opCells (kO kI (x1, x2))).toArray 48))
  have HK3 := Lib.hid (HK2.out.alloc (.cells (opCells (kO kI (x1, x2))).toArray 48))
  have HC3 := Lib.hid (HC2.out.al (.cells (opCells (kO kI (x1, x2))).toArray 48))
  obtain ⟨w3, gw3⟩ : ∃ z, w2.alloc (.cells (opCells (kO kI (x1, x2))).toArray 48) = z := ⟨_, rfl⟩
  obtain ⟨b5, gb5⟩ : ∃ z, w2.heap.size = z := ⟨_, rfl⟩
  rw [gw3] at HY3 HX3 HK3 HC3 ⊢
  rw [gb5] at HY3 Hgb5 ⊢
  clear gw3 gb5 HX2 HK2 HC2 hK
  have hb5 : RowKit.Hid (w.heap.size ≤ b5) := Lib.hid (by have := Gb.out; have := Hgb5.out.2; omega)
  have l0 : w3.cell? ⟨b5, 0, none⟩ = some (.int .i64 kI) := HY3.out.cell (i := 0) rfl
  go_wp2_with fail
  refine (HR1.out _ HC3.out).mono ?_
  rintro e w4 ⟨rfl, hcu⟩
  have HX4 := Lib.hid (hcu.2.whole HX3.out (fun e => by have h1 : b = g := e; have := Hgb.out; omega))
  have HY4 := Lib.hid (hcu.2.whole HY3.out (fun e => by have h1 : b5 = g := e; have := Hgb5.out; omega))
  have HK4 := Lib.hid (HK3.out.trans hcu.2)
  have HC4 := Lib.hid hcu.1
  clear hcu HX3 HY3 HK3 HC3
  go_wp2_with fail
  refine (HR2.out _ HC4.out).mono ?_
  rintro e w5 ⟨rfl, hcu⟩
  have HX5 := Lib.hid (hcu.2.whole HX4.out (fun e => by have h1 : b = g := e; have := Hgb.out; omega))
  have HY5 := Lib.hid (hcu.2.whole HY4.out (fun e => by have h1 : b5 = g := e; have := Hgb5.out; omega))
  have HK5 := Lib.hid (HK4.out.trans hcu.2)
  have HC5 := Lib.hid hcu.1
  clear hcu HX4 HY4 HK4 HC4
  rename_i hK
  refine hK _ _ ?_
  refine wl_read (v := ?_) (some 19) rfl (by rfl) ?_ ?_
  rotate_left
  · go_simp; (try with_reducible rfl)
  simp only [Act.put, List.setIfInBounds_toArray, List.set_cons_zero, List.set_cons_succ]
  refine wl_store rfl (by rfl) (store_mid_run 46 (.tmp 19) (.tmp 16) rfl b5 7 rfl (cC ca) rfl (HY5.out.there_ 7 5 (by show 12 ≤ 20; decide)) (by kernel_rfl) (cC_one ca)) ?_
  have HY6 := Lib.hid (HY5.out.cells_ (cC ca) 7 w5 _ (by show 12 ≤ 20; decide))
  have HX6 := Lib.hid (HX5.out.cells_far (show b ≠ b5 by have := Hgb5.out.2; omega) 7 (cC ca))
  have HC6 := Lib.hid (HC5.out.cells Hgb5.out.1 7 (cC ca))
  have HK6 := Lib.hid (kept_in HK5.out hb5.out (kept_setCells (S := fun i => i = b5) rfl 7 (cC ca)))
  obtain ⟨w6, gw6⟩ : ∃ z, w5.setCells b5 7 (cC ca) = z := ⟨_, rfl⟩
  rw [gw6] at HY6 HX6 HC6 HK6 ⊢
  clear gw6 HX5 HY5 HK5 HC5
  refine wl_read (v := ?_) (some 20) rfl (by rfl) ?_ ?_
  rotate_left
  · go_simp; (try with_reducible rfl)
  simp only [Act.put, List.setIfInBounds_toArray, List.set_cons_zero, List.set_cons_succ]
  refine wl_store rfl (by rfl) (store_mid_run 46 (.tmp 20) (.tmp 18) rfl b5 12 rfl (cC cb) rfl (HY6.out.there_ 12 5 (by show 17 ≤ 20; decide)) (by kernel_rfl) (cC_one cb)) ?_
  have HY7 := Lib.hid (HY6.out.cells_ (cC cb) 12 w6 _ (by show 17 ≤ 20; decide))
  have HX7 := Lib.hid (HX6.out.cells_far (show b ≠ b5 by have := Hgb5.out.2; omega) 12 (cC cb))
  have HC7 := Lib.hid (HC6.out.cells Hgb5.out.1 12 (cC cb))
  have HK7 := Lib.hid (kept_in HK6.out hb5.out (kept_setCells (S := fun i => i = b5) rfl 12 (cC cb)))
  obtain ⟨w7, gw7⟩ : ∃ z, w6.setCells b5 12 (cC cb) = z := ⟨_, rfl⟩
  rw [gw7] at HY7 HX7 HC7 HK7 ⊢
  clear gw7 HX6 HY6 HK6 HC6
  clear hK
  go_upto_region 13 with fail
  have hk3 : kI = 3 := by rw [← GkI.out]; rfl
  subst hk3
  have HFz := HF
  replace HY7 : RowKit.Hid (Whole w7 b5 48 (opCells (⟨3, x1, x2, 0, 0, 0, 0, ca.1, ca.2.1, ca.2.2.1, ca.2.2.2.1, ca.2.2.2.2, cb.1, cb.2.1, cb.2.2.1, cb.2.2.2.1, cb.2.2.2.2, false, ⟨#[]⟩, 0⟩ : OpT))) := HY7
  have HOV : RowKit.Hid (opV L = (⟨3, x1, x2, 0, 0, 0, 0, ca.1, ca.2.1, ca.2.2.1, ca.2.2.2.1, ca.2.2.2.2, cb.1, cb.2.1, cb.2.2.1, cb.2.2.2.1, cb.2.2.2.2, false, ⟨#[]⟩, 0⟩ : OpT)) := Lib.hid (by rw [HV.out]; skip)
  obtain ⟨o9, go9⟩ : ∃ z, (⟨3, x1, x2, 0, 0, 0, 0, ca.1, ca.2.1, ca.2.2.1, ca.2.2.2.1, ca.2.2.2.2, cb.1, cb.2.1, cb.2.2.1, cb.2.2.2.1, cb.2.2.2.2, false, ⟨#[]⟩, 0⟩ : OpT) = z := ⟨_, rfl⟩
  rw [go9] at HOV HY7
  clear go9
  refine wp_region_lit ?_
  refine wl_load (some 61) rfl (by rfl) 48 (.tmp 3) rfl b5 rfl 48 (opCells o9) _ HY7.out Try.underlying48 rfl (by kernel_rfl) ?_
  simp only [Act.put, List.setIfInBounds_toArray, List.set_cons_zero, List.set_cons_succ]
  refine wpList_store_row rfl 48 (.tmp 2) (.tmp 61) rfl b (opCells o9).toArray rfl rfl 48 (opCells zeroO).toArray HX7.out (by kernel_rfl) rfl (opCells_arr _) ?_
  have HXz : RowKit.Hid (Whole (w7.setRow b (opCells o9).toArray) b 48 (opCells o9)) := Lib.hid (Whole.row HX7.out (opCells o9))
  have HCz := Lib.hid (HC7.out.row Hgb.out (opCells o9).toArray)
  have HKz := Lib.hid (kept_in HK7.out (Nat.le_of_eq Gb.out) (kept_row (S := fun i => i = b) rfl (opCells o9).toArray))
  go_wp2
  exact ret_whole rfl b rfl HXz.out Try.underlying48 rfl (by kernel_rfl) rfl ⟨by rw [HOV.out], by rw [HFz.out]; exact HCz.out, HKz.out⟩
set_option maxRecDepth 100000 in
set_option maxHeartbeats 4000000 in
theorem rop_6 (lo g : Nat) (L : List Nat) (w : World) (h : CuAt lo w g L) (hb : ∀ b ∈ L, b < 256) (hk : c1 L = 6) :
    Calls Try.prog 40 #[.pointer (some ⟨g, 0, none⟩)] w fun e w' => e = .returned (.agg (opCells (opV L)).toArray) ∧ Cu1 lo w w' g (opL L) := by
  have HN1 := Lib.hid (fun W hc => cnumber_any lo g L W hc hb)
  have HN2 := Lib.hid (fun W hc => rname_any lo g (L.drop 1) W hc (drop_lt hb 1))
  have hbM := lI_lt (drop_lt hb 1)
  have HV : RowKit.Hid (opV L = fdV (c1 L) (vI (L.drop 1)) (lI (L.drop 1))) := Lib.hid rfl
  have HF : RowKit.Hid (opL L = fdL (c1 L) (lI (L.drop 1))) := Lib.hid rfl
  have HX0 : RowKit.Hid (Whole (w.alloc (.cells #[.int .i64 0, .int .i64 0, .int .i64 0, .int .i64 0, .int .i64 0, .int .i64 0, .int .i64 0, .int .i64 0, .int .i64 0, .int .i64 0, .int .i64 0, .int .i64 0, .int .i64 0, .int .i64 0, .int .i64 0, .int .i64 0, .int .i64 0, .bool false, .string ⟨#[]⟩, .int .i64 0] 48)) w.heap.size 48 (opCells zeroO)) := Lib.hid (Whole.new_ _ _ (opCells zeroO))
  have HC0 := Lib.hid (h.al (.cells #[.int .i64 0, .int .i64 0, .int .i64 0, .int .i64 0, .int .i64 0, .int .i64 0, .int .i64 0, .int .i64 0, .int .i64 0, .int .i64 0, .int .i64 0, .int .i64 0, .int .i64 0, .int .i64 0, .int .i64 0, .int .i64 0, .int .i64 0, .bool false, .string ⟨#[]⟩, .int .i64 0] 48))
  have HK0 : RowKit.Hid (Kept (At1 g) w (w.alloc (.cells #[.int .i64 0, .int .i64 0, .int .i64 0, .int .i64 0, .int .i64 0, .int .i64 0, .int .i64 0, .int .i64 0, .int .i64 0, .int .i64 0, .int .i64 0, .int .i64 0, .int .i64 0, .int .i64 0, .int .i64 0, .int .i64 0, .int .i64 0, .bool false, .string ⟨#[]⟩, .int .i64 0] 48))) := Lib.hid (Kept.of_below (below1 w _))
  have Hgb : RowKit.Hid (g < w.heap.size) := Lib.hid h.lt
  have hlt := byte_lt hb
  obtain ⟨k, gk0⟩ : ∃ z, c1 L = z := ⟨_, rfl⟩
  obtain ⟨⟨x1, x2⟩, gx⟩ : ∃ z, vI (L.drop 1) = z := ⟨_, rfl⟩
  obtain ⟨M, gM⟩ : ∃ z, lI (L.drop 1) = z := ⟨_, rfl⟩
  rw [gk0] at HN1 HV HF hlt hk
  rw [gx] at HN2 HV
  rw [gM] at HN2 HV HF hbM
  clear gx gM gk0 h hb
  subst hk
  rw [show fdV 6 (x1, x2) M = ⟨6, x1, x2, 0, 0, (vI M).1, (vI M).2, 0, 0, 0, 0, 0, 0, 0, 0, 0, 0, false, ⟨#[]⟩, 0⟩ from rfl] at HV
  rw [show fdL 6 M = lI M from rfl] at HF
  have HR1 := Lib.hid (fun W hc => rname_any lo g M W hc hbM)
  obtain ⟨⟨y1, y2⟩, gy⟩ : ∃ z, vI M = z := ⟨_, rfl⟩
  rw [gy] at HR1 HV
  clear gy
  obtain ⟨kI, gkI⟩ : ∃ z : Int, ((6 : Nat) : Int) = z := ⟨_, rfl⟩
  rw [gkI] at HN1
  have GkI := Lib.hid gkI
  have q3 : (kI == 3) = false := by rw [← gkI]; rfl
  have q5 : (kI == 5) = false := by rw [← gkI]; rfl
  have q6 : (kI == 6) = true := by rw [← gkI]; rfl
  clear hbM
  go_enter Try.func40, Try.ntmps40
  go_upto_region 1 with fail
  obtain ⟨w0, gw0⟩ : ∃ z, w.alloc (.cells #[.int .i64 0, .int .i64 0, .int .i64 0, .int .i64 0, .int .i64 0, .int .i64 0, .int .i64 0, .int .i64 0, .int .i64 0, .int .i64 0, .int .i64 0, .int .i64 0, .int .i64 0, .int .i64 0, .int .i64 0, .int .i64 0, .int .i64 0, .bool false, .string ⟨#[]⟩, .int .i64 0] 48) = z := ⟨_, rfl⟩
  obtain ⟨b, gb⟩ : ∃ z, w.heap.size = z := ⟨_, rfl⟩
  rw [gw0] at HX0 HK0 HC0 ⊢
  rw [gb] at HX0 Hgb ⊢
  have Gb := Lib.hid gb
  clear gw0 gb
  go_wp2_with fail
  refine (HN1.out _ HC0.out).mono ?_
  rintro e w1 ⟨rfl, hcu, hgr⟩
  have HX1 := Lib.hid ((gk hgr).whole HX0.out (fun e => by have h1 : b = g := e; have := Hgb.out; omega))
  have HK1 := Lib.hid (HK0.out.trans (gk hgr))
  have HC1 := Lib.hid hcu
  clear hcu hgr HX0 HK0 HC0
  go_wp2_with fail
  refine (HN2.out _ HC1.out).mono ?_
  rintro e w2 ⟨rfl, hcu⟩
  have HX2 := Lib.hid (hcu.2.whole HX1.out (fun e => by have h1 : b = g := e; have := Hgb.out; omega))
  have HK2 := Lib.hid (HK1.out.trans hcu.2)
  have HC2 := Lib.hid hcu.1
  clear hcu HX1 HK1 HC1
  rename_i hK
  refine hK _ _ ?_
  refine wl_read (v := .agg (opCells (kO kI (x1, x2))).toArray) (some 10) rfl (by rfl) ?_ ?_
  · go_simp; rfl
  simp only [Act.put, List.setIfInBounds_toArray, List.set_cons_zero, List.set_cons_succ]
  refine wl_new 3 rfl rfl rfl 48 (.tmp 10) rfl rfl #[.int .i64 0, .int .i64 0, .int .i64 0, .int .i64 0, .int .i64 0, .int .i64 0, .int .i64 0, .int .i64 0, .int .i64 0, .int .i64 0, .int .i64 0, .int .i64 0, .int .i64 0, .int .i64 0, .int .i64 0, .int .i64 0, .int .i64 0, .bool false, .string ⟨#[]⟩, .int .i64 0] ?_ (opCells (kO kI (x1, x2))).toArray (by simp) rfl (by kernel_rfl) rfl (opCells_arr _) ?_
  · go_simp; (try with_reducible rfl)
  simp only [Act.put, List.setIfInBounds_toArray, List.set_cons_zero, List.set_cons_succ]
  have HY3 : RowKit.Hid (Whole (w2.alloc (.cells (opCells (kO kI (x1, x2))).toArray 48)) w2.heap.size 48 (opCells (kO kI (x1, x2)))) := Lib.hid (Whole.new_ _ _ _)
  have Hgb5 : RowKit.Hid (g < w2.heap.size ∧ b < w2.heap.size) := Lib.hid ⟨HC2.out.lt, HX2.out.lt⟩
  have HX3 := Lib.hid (HX2.out.al (.cells (opCells (kO kI (x1, x2))).toArray 48))
  have HK3 := Lib.hid (HK2.out.alloc (.cells (opCells (kO kI (x1, x2))).toArray 48))
  have HC3 := Lib.hid (HC2.out.al (.cells (opCells (kO kI (x1, x2))).toArray 48))
  obtain ⟨w3, gw3⟩ : ∃ z, w2.alloc (.cells (opCells (kO kI (x1, x2))).toArray 48) = z := ⟨_, rfl⟩
  obtain ⟨b5, gb5⟩ : ∃ z, w2.heap.size = z := ⟨_, rfl⟩
  rw [gw3] at HY3 HX3 HK3 HC3 ⊢
  rw [gb5] at HY3 Hgb5 ⊢
  clear gw3 gb5 HX2 HK2 HC2 hK
  have hb5 : RowKit.Hid (w.heap.size ≤ b5) := Lib.hid (by have := Gb.out; have := Hgb5.out.2; omega)
  have l0 : w3.cell? ⟨b5, 0, none⟩ = some (.int .i64 kI) := HY3.out.cell (i := 0) rfl
  go_wp2_with fail
  refine (HR1.out _ HC3.out).mono ?_
  rintro e w4 ⟨rfl, hcu⟩
  have HX4 := Lib.hid (hcu.2.whole HX3.out (fun e => by have h1 : b = g := e; have := Hgb.out; omega))
  have HY4 := Lib.hid (hcu.2.whole HY3.out (fun e => by have h1 : b5 = g := e; have := Hgb5.out; omega))
  have HK4 := Lib.hid (HK3.out.trans hcu.2)
  have HC4 := Lib.hid hcu.1
  clear hcu HX3 HY3 HK3 HC3
  rename_i hK
  refine hK _ _ ?_
  refine wl_read (v := ?_) (some 38) rfl (by rfl) ?_ ?_
  rotate_left
  · go_simp; (try with_reducible rfl)
  simp only [Act.put, List.setIfInBounds_toArray, List.set_cons_zero, List.set_cons_succ]
  refine wl_store rfl (by rfl) (store_mid_run 42 (.tmp 38) (.tmp 37) rfl b5 5 rfl [.int .i64 y1, .int .i64 y2] rfl (HY4.out.there_ 5 2 (by show 7 ≤ 20; decide)) (by kernel_rfl) (by simp [Value.oneCell'])) ?_
  have HY5 := Lib.hid (HY4.out.cells_ [.int .i64 y1, .int .i64 y2] 5 w4 _ (by show 7 ≤ 20; decide))
  have HX5 := Lib.hid (HX4.out.cells_far (show b ≠ b5 by have := Hgb5.out.2; omega) 5 [.int .i64 y1, .int .i64 y2])
  have HC5 := Lib.hid (HC4.out.cells Hgb5.out.1 5 [.int .i64 y1, .int .i64 y2])
  have HK5 := Lib.hid (kept_in HK4.out hb5.out (kept_setCells (S := fun i => i = b5) rfl 5 [.int .i64 y1, .int .i64 y2]))
  obtain ⟨w5, gw5⟩ : ∃ z, w4.setCells b5 5 [.int .i64 y1, .int .i64 y2] = z := ⟨_, rfl⟩
  rw [gw5] at HY5 HX5 HC5 HK5 ⊢
  clear gw5 HX4 HY4 HK4 HC4
  clear hK
  go_upto_region 13 with fail
  have hk3 : kI = 6 := by rw [← GkI.out]; rfl
  subst hk3
  have HFz := HF
  replace HY5 : RowKit.Hid (Whole w5 b5 48 (opCells (⟨6, x1, x2, 0, 0, y1, y2, 0, 0, 0, 0, 0, 0, 0, 0, 0, 0, false, ⟨#[]⟩, 0⟩ : OpT))) := HY5
  have HOV : RowKit.Hid (opV L = (⟨6, x1, x2, 0, 0, y1, y2, 0, 0, 0, 0, 0, 0, 0, 0, 0, 0, false, ⟨#[]⟩, 0⟩ : OpT)) := Lib.hid (by rw [HV.out]; skip)
  obtain ⟨o9, go9⟩ : ∃ z, (⟨6, x1, x2, 0, 0, y1, y2, 0, 0, 0, 0, 0, 0, 0, 0, 0, 0, false, ⟨#[]⟩, 0⟩ : OpT) = z := ⟨_, rfl⟩
  rw [go9] at HOV HY5
  clear go9
  refine wp_region_lit ?_
  refine wl_load (some 61) rfl (by rfl) 48 (.tmp 3) rfl b5 rfl 48 (opCells o9) _ HY5.out Try.underlying48 rfl (by kernel_rfl) ?_
  simp only [Act.put, List.setIfInBounds_toArray, List.set_cons_zero, List.set_cons_succ]
  refine wpList_store_row rfl 48 (.tmp 2) (.tmp 61) rfl b (opCells o9).toArray rfl rfl 48 (opCells zeroO).toArray HX5.out (by kernel_rfl) rfl (opCells_arr _) ?_
  have HXz : RowKit.Hid (Whole (w5.setRow b (opCells o9).toArray) b 48 (opCells o9)) := Lib.hid (Whole.row HX5.out (opCells o9))
  have HCz := Lib.hid (HC5.out.row Hgb.out (opCells o9).toArray)
  have HKz := Lib.hid (kept_in HK5.out (Nat.le_of_eq Gb.out) (kept_row (S := fun i => i = b) rfl (opCells o9).toArray))
  go_wp2
  exact ret_whole rfl b rfl HXz.out Try.underlying48 rfl (by kernel_rfl) rfl ⟨by rw [HOV.out], by rw [HFz.out]; exact HCz.out, HKz.out⟩
set_option maxRecDepth 100000 in
set_option maxHeartbeats 4000000 in
theorem rop_7 (lo g : Nat) (L : List Nat) (w : World) (h : CuAt lo w g L) (hb : ∀ b ∈ L, b < 256) (hk : c1 L = 7) :
    Calls Try.prog 40 #[.pointer (some ⟨g, 0, none⟩)] w fun e w' => e = .returned (.agg (opCells (opV L)).toArray) ∧ Cu1 lo w w' g (opL L) := by
  have HN1 := Lib.hid (fun W hc => cnumber_any lo g L W hc hb)
  have HN2 := Lib.hid (fun W hc => rname_any lo g (L.drop 1) W hc (drop_lt hb 1))
  have hbM := lI_lt (drop_lt hb 1)
  have HV : RowKit.Hid (opV L = fdV (c1 L) (vI (L.drop 1)) (lI (L.drop 1))) := Lib.hid rfl
  have HF : RowKit.Hid (opL L = fdL (c1 L) (lI (L.drop 1))) := Lib.hid rfl
  have HX0 : RowKit.Hid (Whole (w.alloc (.cells #[.int .i64 0, .int .i64 0, .int .i64 0, .int .i64 0, .int .i64 0, .int .i64 0, .int .i64 0, .int .i64 0, .int .i64 0, .int .i64 0, .int .i64 0, .int .i64 0, .int .i64 0, .int .i64 0, .int .i64 0, .int .i64 0, .int .i64 0, .bool false, .string ⟨#[]⟩, .int .i64 0] 48)) w.heap.size 48 (opCells zeroO)) := Lib.hid (Whole.new_ _ _ (opCells zeroO))
  have HC0 := Lib.hid (h.al (.cells #[.int .i64 0, .int .i64 0, .int .i64 0, .int .i64 0, .int .i64 0, .int .i64 0, .int .i64 0, .int .i64 0, .int .i64 0, .int .i64 0, .int .i64 0, .int .i64 0, .int .i64 0, .int .i64 0, .int .i64 0, .int .i64 0, .int .i64 0, .bool false, .string ⟨#[]⟩, .int .i64 0] 48))
  have HK0 : RowKit.Hid (Kept (At1 g) w (w.alloc (.cells #[.int .i64 0, .int .i64 0, .int .i64 0, .int .i64 0, .int .i64 0, .int .i64 0, .int .i64 0, .int .i64 0, .int .i64 0, .int .i64 0, .int .i64 0, .int .i64 0, .int .i64 0, .int .i64 0, .int .i64 0, .int .i64 0, .int .i64 0, .bool false, .string ⟨#[]⟩, .int .i64 0] 48))) := Lib.hid (Kept.of_below (below1 w _))
  have Hgb : RowKit.Hid (g < w.heap.size) := Lib.hid h.lt
  have hlt := byte_lt hb
  obtain ⟨k, gk0⟩ : ∃ z, c1 L = z := ⟨_, rfl⟩
  obtain ⟨⟨x1, x2⟩, gx⟩ : ∃ z, vI (L.drop 1) = z := ⟨_, rfl⟩
  obtain ⟨M, gM⟩ : ∃ z, lI (L.drop 1) = z := ⟨_, rfl⟩
  rw [gk0] at HN1 HV HF hlt hk
  rw [gx] at HN2 HV
  rw [gM] at HN2 HV HF hbM
  clear gx gM gk0 h hb
  subst hk
  rw [show fdV 7 (x1, x2) M = ⟨7, x1, x2, 0, 0, 0, 0, 0, 0, 0, 0, 0, 0, 0, 0, 0, 0, decide (c1 M ≠ 0), txT (M.drop 1), 0⟩ from rfl] at HV
  rw [show fdL 7 M = leT (M.drop 1) from rfl] at HF
  have HR1 := Lib.hid (fun W hc => cnumber_any lo g M W hc hbM)
  have HR2 := Lib.hid (fun W hc => rtext_rd lo g (M.drop 1) W hc (drop_lt hbM 1))
  obtain ⟨fx, gfx⟩ : ∃ z, c1 M = z := ⟨_, rfl⟩
  obtain ⟨tx, gtx⟩ : ∃ z, txT (M.drop 1) = z := ⟨_, rfl⟩
  rw [gfx] at HR1 HV
  rw [gtx] at HR2 HV
  have hfb : ((fx : Int) != 0) = decide (fx ≠ 0) := by
    by_cases q0 : fx = 0
    · subst q0; rfl
    · rw [decide_eq_true q0, bne_iff_ne]; omega
  have hfb2 : ((fx : Int) == 0) = !decide (fx ≠ 0) := by
    by_cases q0 : fx = 0
    · subst q0; rfl
    · rw [decide_eq_true q0]; simp; omega
  obtain ⟨fb, gfb⟩ : ∃ z, decide (fx ≠ 0) = z := ⟨_, rfl⟩
  rw [gfb] at HV hfb hfb2
  obtain ⟨fI, gfI⟩ : ∃ z : Int, (fx : Int) = z := ⟨_, rfl⟩
  rw [gfI] at HR1 hfb hfb2
  clear gfx gtx gfb gfI
  obtain ⟨kI, gkI⟩ : ∃ z : Int, ((7 : Nat) : Int) = z := ⟨_, rfl⟩
  rw [gkI] at HN1
  have GkI := Lib.hid gkI
  have q3 : (kI == 3) = false := by rw [← gkI]; rfl
  have q5 : (kI == 5) = false := by rw [← gkI]; rfl
  have q6 : (kI == 6) = false := by rw [← gkI]; rfl
  have q7 : (kI == 7) = true := by rw [← gkI]; rfl
  clear hbM
  go_enter Try.func40, Try.ntmps40
  go_upto_region 1 with fail
  obtain ⟨w0, gw0⟩ : ∃ z, w.alloc (.cells #[.int .i64 0, .int .i64 0, .int .i64 0, .int .i64 0, .int .i64 0, .int .i64 0, .int .i64 0, .int .i64 0, .int .i64 0, .int .i64 0, .int .i64 0, .int .i64 0, .int .i64 0, .int .i64 0, .int .i64 0, .int .i64 0, .int .i64 0, .bool false, .string ⟨#[]⟩, .int .i64 0] 48) = z := ⟨_, rfl⟩
  obtain ⟨b, gb⟩ : ∃ z, w.heap.size = z := ⟨_, rfl⟩
  rw [gw0] at HX0 HK0 HC0 ⊢
  rw [gb] at HX0 Hgb ⊢
  have Gb := Lib.hid gb
  clear gw0 gb
  go_wp2_with fail
  refine (HN1.out _ HC0.out).mono ?_
  rintro e w1 ⟨rfl, hcu, hgr⟩
  have HX1 := Lib.hid ((gk hgr).whole HX0.out (fun e => by have h1 : b = g := e; have := Hgb.out; omega))
  have HK1 := Lib.hid (HK0.out.trans (gk hgr))
  have HC1 := Lib.hid hcu
  clear hcu hgr HX0 HK0 HC0
  go_wp2_with fail
  refine (HN2.out _ HC1.out).mono ?_
  rintro e w2 ⟨rfl, hcu⟩
  have HX2 := Lib.hid (hcu.2.whole HX1.out (fun e => by have h1 : b = g := e; have := Hgb.out; omega))
  have HK2 := Lib.hid (HK1.out.trans hcu.2)
  have HC2 := Lib.hid hcu.1
  clear hcu HX1 HK1 HC1
  rename_i hK
  refine hK _ _ ?_
  refine wl_read (v := .agg (opCells (kO kI (x1, x2))).toArray) (some 10) rfl (by rfl) ?_ ?_
  · go_simp; rfl
  simp only [Act.put, List.setIfInBounds_toArray, List.set_cons_zero, List.set_cons_succ]
  refine wl_new 3 rfl rfl rfl 48 (.tmp 10) rfl rfl #[.int .i64 0, .int .i64 0, .int .i64 0, .int .i64 0, .int .i64 0, .int .i64 0, .int .i64 0, .int .i64 0, .int .i64 0, .int .i64 0, .int .i64 0, .int .i64 0, .int .i64 0, .int .i64 0, .int .i64 0, .int .i64 0, .int .i64 0, .bool false, .string ⟨#[]⟩, .int .i64 0] ?_ (opCells (kO kI (x1, x2))).toArray (by simp) rfl (by kernel_rfl) rfl (opCells_arr _) ?_
  · go_simp; (try with_reducible rfl)
  simp only [Act.put, List.setIfInBounds_toArray, List.set_cons_zero, List.set_cons_succ]
  have HY3 : RowKit.Hid (Whole (w2.alloc (.cells (opCells (kO kI (x1, x2))).toArray 48)) w2.heap.size 48 (opCells (kO kI (x1, x2)))) := Lib.hid (Whole.new_ _ _ _)
  have Hgb5 : RowKit.Hid (g < w2.heap.size ∧ b < w2.heap.size) := Lib.hid ⟨HC2.out.lt, HX2.out.lt⟩
  have HX3 := Lib.hid (HX2.out.al (.cells (opCells (kO kI (x1, x2))).toArray 48))
  have HK3 := Lib.hid (HK2.out.alloc (.cells (opCells (kO kI (x1, x2))).toArray 48))
  have HC3 := Lib.hid (HC2.out.al (.cells (opCells (kO kI (x1, x2))).toArray 48))
  obtain ⟨w3, gw3⟩ : ∃ z, w2.alloc (.cells (opCells (kO kI (x1, x2))).toArray 48) = z := ⟨_, rfl⟩
  obtain ⟨b5, gb5⟩ : ∃ z, w2.heap.size = z := ⟨_, rfl⟩
  rw [gw3] at HY3 HX3 HK3 HC3 ⊢
  rw [gb5] at HY3 Hgb5 ⊢
  clear gw3 gb5 HX2 HK2 HC2 hK
  have hb5 : RowKit.Hid (w.heap.size ≤ b5) := Lib.hid (by have := Gb.out; have := Hgb5.out.2; omega)
  have l0 : w3.cell? ⟨b5, 0, none⟩ = some (.int .i64 kI) := HY3.out.cell (i := 0) rfl
  go_wp2_with fail
  refine (HR1.out _ HC3.out).mono ?_
  rintro e w4 ⟨rfl, hcu, hgr⟩
  have HX4 := Lib.hid ((gk hgr).whole HX3.out (fun e => by have h1 : b = g := e; have := Hgb.out; omega))
  have HY4 := Lib.hid ((gk hgr).whole HY3.out (fun e => by have h1 : b5 = g := e; have := Hgb5.out; omega))
  have HK4 := Lib.hid (HK3.out.trans (gk hgr))
  have HC4 := Lib.hid hcu
  clear hcu hgr HX3 HY3 HK3 HC3
  go_wp2_with fail
  refine (HR2.out _ HC4.out).mono ?_
  rintro e w5 ⟨rfl, hcu⟩
  have HX5 := Lib.hid (hcu.2.whole HX4.out (fun e => by have h1 : b = g := e; have := Hgb.out; omega))
  have HY5 := Lib.hid (hcu.2.whole HY4.out (fun e => by have h1 : b5 = g := e; have := Hgb5.out; omega))
  have HK5 := Lib.hid (HK4.out.trans hcu.2)
  have HC5 := Lib.hid hcu.1
  clear hcu HX4 HY4 HK4 HC4
  have m1 := HY5.out.cell (i := 17) (v := .bool false) rfl
  have m2 := HY5.out.cell (i := 18) (v := .string ⟨#[]⟩) rfl
  have e1 := HY5.out.free 17
  have e2 := HY5.out.free 18
  go_upto_region 13 with fail
  clear m1 m2 e1 e2
  have HY6 := Lib.hid (HY5.out.set_ 17 (.bool fb))
  have HX6 := Lib.hid (HX5.out.far (p := ⟨b5, 17, none⟩) (show b ≠ b5 by have := Hgb5.out.2; omega) (.bool fb))
  have HC6 := Lib.hid (HC5.out.poke (i := 17) Hgb5.out.1 (.bool fb))
  have HK6 := Lib.hid (kept_poke (i := 17) HK5.out hb5.out (.bool fb))
  obtain ⟨w6, gw6⟩ : ∃ z, w5.setCell ⟨b5, 17, none⟩ (.bool fb) = z := ⟨_, rfl⟩
  rw [gw6] at HY6 HX6 HC6 HK6 ⊢
  clear gw6 HX5 HY5 HK5 HC5
  have HY7 := Lib.hid (HY6.out.set_ 18 (.string tx))
  have HX7 := Lib.hid (HX6.out.far (p := ⟨b5, 18, none⟩) (show b ≠ b5 by have := Hgb5.out.2; omega) (.string tx))
  have HC7 := Lib.hid (HC6.out.poke (i := 18) Hgb5.out.1 (.string tx))
  have HK7 := Lib.hid (kept_poke (i := 18) HK6.out hb5.out (.string tx))
  obtain ⟨w7, gw7⟩ : ∃ z, w6.setCell ⟨b5, 18, none⟩ (.string tx) = z := ⟨_, rfl⟩
  rw [gw7] at HY7 HX7 HC7 HK7 ⊢
  clear gw7 HX6 HY6 HK6 HC6
  have hk3 : kI = 7 := by rw [← GkI.out]; rfl
  subst hk3
  have HFz := HF
  replace HY7 : RowKit.Hid (Whole w7 b5 48 (opCells (⟨7, x1, x2, 0, 0, 0, 0, 0, 0, 0, 0, 0, 0, 0, 0, 0, 0, fb, tx, 0⟩ : OpT))) := HY7
  have HOV : RowKit.Hid (opV L = (⟨7, x1, x2, 0, 0, 0, 0, 0, 0, 0, 0, 0, 0, 0, 0, 0, 0, fb, tx, 0⟩ : OpT)) := Lib.hid (by rw [HV.out]; skip)
  obtain ⟨o9, go9⟩ : ∃ z, (⟨7, x1, x2, 0, 0, 0, 0, 0, 0, 0, 0, 0, 0, 0, 0, 0, 0, fb, tx, 0⟩ : OpT) = z := ⟨_, rfl⟩
  rw [go9] at HOV HY7
  clear go9
  refine wp_region_lit ?_
  refine wl_load (some 61) rfl (by rfl) 48 (.tmp 3) rfl b5 rfl 48 (opCells o9) _ HY7.out Try.underlying48 rfl (by kernel_rfl) ?_
  simp only [Act.put, List.setIfInBounds_toArray, List.set_cons_zero, List.set_cons_succ]
  refine wpList_store_row rfl 48 (.tmp 2) (.tmp 61) rfl b (opCells o9).toArray rfl rfl 48 (opCells zeroO).toArray HX7.out (by kernel_rfl) rfl (opCells_arr _) ?_
  have HXz : RowKit.Hid (Whole (w7.setRow b (opCells o9).toArray) b 48 (opCells o9)) := Lib.hid (Whole.row HX7.out (opCells o9))
  have HCz := Lib.hid (HC7.out.row Hgb.out (opCells o9).toArray)
  have HKz := Lib.hid (kept_in HK7.out (Nat.le_of_eq Gb.out) (kept_row (S := fun i => i = b) rfl (opCells o9).toArray))
  go_wp2
  exact ret_whole rfl b rfl HXz.out Try.underlying48 rfl (by kernel_rfl) rfl ⟨by rw [HOV.out], by rw [HFz.out]; exact HCz.out, HKz.out⟩
set_option maxRecDepth 100000 in
set_option maxHeartbeats 4000000 in
theorem rop_8 (lo g : Nat) (L : List Nat) (w : World) (h : CuAt lo w g L) (hb : ∀ b ∈ L, b < 256) (hk : c1 L = 8) :
    Calls Try.prog 40 #[.pointer (some ⟨g, 0, none⟩)] w fun e w' => e = .returned (.agg (opCells (opV L)).toArray) ∧ Cu1 lo w w' g (opL L) := by
  have HN1 := Lib.hid (fun W hc => cnumber_any lo g L W hc hb)
  have HN2 := Lib.hid (fun W hc => rname_any lo g (L.drop 1) W hc (drop_lt hb 1))
  have hbM := lI_lt (drop_lt hb 1)
  have HV : RowKit.Hid (opV L = fdV (c1 L) (vI (L.drop 1)) (lI (L.drop 1))) := Lib.hid rfl
  have HF : RowKit.Hid (opL L = fdL (c1 L) (lI (L.drop 1))) := Lib.hid rfl
  have HX0 : RowKit.Hid (Whole (w.alloc (.cells #[.int .i64 0, .int .i64 0, .int .i64 0, .int .i64 0, .int .i64 0, .int .i64 0, .int .i64 0, .int .i64 0, .int .i64 0, .int .i64 0, .int .i64 0, .int .i64 0, .int .i64 0, .int .i64 0, .int .i64 0, .int .i64 0, .int .i64 0, .bool false, .string ⟨#[]⟩, .int .i64 0] 48)) w.heap.size 48 (opCells zeroO)) := Lib.hid (Whole.new_ _ _ (opCells zeroO))
  have HC0 := Lib.hid (h.al (.cells #[.int .i64 0, .int .i64 0, .int .i64 0, .int .i64 0, .int .i64 0, .int .i64 0, .int .i64 0, .int .i64 0, .int .i64 0, .int .i64 0, .int .i64 0, .int .i64 0, .int .i64 0, .int .i64 0, .int .i64 0, .int .i64 0, .int .i64 0, .bool false, .string ⟨#[]⟩, .int .i64 0] 48))
  have HK0 : RowKit.Hid (Kept (At1 g) w (w.alloc (.cells #[.int .i64 0, .int .i64 0, .int .i64 0, .int .i64 0, .int .i64 0, .int .i64 0, .int .i64 0, .int .i64 0, .int .i64 0, .int .i64 0, .int .i64 0, .int .i64 0, .int .i64 0, .int .i64 0, .int .i64 0, .int .i64 0, .int .i64 0, .bool false, .string ⟨#[]⟩, .int .i64 0] 48))) := Lib.hid (Kept.of_below (below1 w _))
  have Hgb : RowKit.Hid (g < w.heap.size) := Lib.hid h.lt
  have hlt := byte_lt hb
  obtain ⟨k, gk0⟩ : ∃ z, c1 L = z := ⟨_, rfl⟩
  obtain ⟨⟨x1, x2⟩, gx⟩ : ∃ z, vI (L.drop 1) = z := ⟨_, rfl⟩
  obtain ⟨M, gM⟩ : ∃ z, lI (L.drop 1) = z := ⟨_, rfl⟩
  rw [gk0] at HN1 HV HF hlt hk
  rw [gx] at HN2 HV
  rw [gM] at HN2 HV HF hbM
  clear gx gM gk0 h hb
  subst hk
  rw [show fdV 8 (x1, x2) M = ⟨8, x1, x2, 0, 0, 0, 0, 0, 0, 0, 0, 0, 0, 0, 0, 0, 0, decide (c1 M ≠ 0), ⟨#[]⟩, vM (M.drop 1)⟩ from rfl] at HV
  rw [show fdL 8 M = lM (M.drop 1) from rfl] at HF
  have HR1 := Lib.hid (fun W hc => cnumber_any lo g M W hc hbM)
  have HR2 := Lib.hid (fun W hc => takennum_any lo g (M.drop 1) W hc (drop_lt hbM 1))
  obtain ⟨fx, gfx⟩ : ∃ z, c1 M = z := ⟨_, rfl⟩
  obtain ⟨tx, gtx⟩ : ∃ z, vM (M.drop 1) = z := ⟨_, rfl⟩
  rw [gfx] at HR1 HV
  rw [gtx] at HR2 HV
  have hfb : ((fx : Int) != 0) = decide (fx ≠ 0) := by
    by_cases q0 : fx = 0
    · subst q0; rfl
    · rw [decide_eq_true q0, bne_iff_ne]; omega
  have hfb2 : ((fx : Int) == 0) = !decide (fx ≠ 0) := by
    by_cases q0 : fx = 0
    · subst q0; rfl
    · rw [decide_eq_true q0]; simp; omega
  obtain ⟨fb, gfb⟩ : ∃ z, decide (fx ≠ 0) = z := ⟨_, rfl⟩
  rw [gfb] at HV hfb hfb2
  obtain ⟨fI, gfI⟩ : ∃ z : Int, (fx : Int) = z := ⟨_, rfl⟩
  rw [gfI] at HR1 hfb hfb2
  clear gfx gtx gfb gfI
  obtain ⟨kI, gkI⟩ : ∃ z : Int, ((8 : Nat) : Int) = z := ⟨_, rfl⟩
  rw [gkI] at HN1
  have GkI := Lib.hid gkI
  have q3 : (kI == 3) = false := by rw [← gkI]; rfl
  have q5 : (kI == 5) = false := by rw [← gkI]; rfl
  have q6 : (kI == 6) = false := by rw [← gkI]; rfl
  have q7 : (kI == 7) = false := by rw [← gkI]; rfl
  have q8 : (kI == 8) = true := by rw [← gkI]; rfl
  clear hbM
  go_enter Try.func40, Try.ntmps40
  go_upto_region 1 with fail
  obtain ⟨w0, gw0⟩ : ∃ z, w.alloc (.cells #[.int .i64 0, .int .i64 0, .int .i64 0, .int .i64 0, .int .i64 0, .int .i64 0, .int .i64 0, .int .i64 0, .int .i64 0, .int .i64 0, .int .i64 0, .int .i64 0, .int .i64 0, .int .i64 0, .int .i64 0, .int .i64 0, .int .i64 0, .bool false, .string ⟨#[]⟩, .int .i64 0] 48) = z := ⟨_, rfl⟩
  obtain ⟨b, gb⟩ : ∃ z, w.heap.size = z := ⟨_, rfl⟩
  rw [gw0] at HX0 HK0 HC0 ⊢
  rw [gb] at HX0 Hgb ⊢
  have Gb := Lib.hid gb
  clear gw0 gb
  go_wp2_with fail
  refine (HN1.out _ HC0.out).mono ?_
  rintro e w1 ⟨rfl, hcu, hgr⟩
  have HX1 := Lib.hid ((gk hgr).whole HX0.out (fun e => by have h1 : b = g := e; have := Hgb.out; omega))
  have HK1 := Lib.hid (HK0.out.trans (gk hgr))
  have HC1 := Lib.hid hcu
  clear hcu hgr HX0 HK0 HC0
  go_wp2_with fail
  refine (HN2.out _ HC1.out).mono ?_
  rintro e w2 ⟨rfl, hcu⟩
  have HX2 := Lib.hid (hcu.2.whole HX1.out (fun e => by have h1 : b = g := e; have := Hgb.out; omega))
  have HK2 := Lib.hid (HK1.out.trans hcu.2)
  have HC2 := Lib.hid hcu.1
  clear hcu HX1 HK1 HC1
  rename_i hK
  refine hK _ _ ?_
  refine wl_read (v := .agg (opCells (kO kI (x1, x2))).toArray) (some 10) rfl (by rfl) ?_ ?_
  · go_simp; rfl
  simp only [Act.put, List.setIfInBounds_toArray, List.set_cons_zero, List.set_cons_succ]
  refine wl_new 3 rfl rfl rfl 48 (.tmp 10) rfl rfl #[.int .i64 0, .int .i64 0, .int .i64 0, .int .i64 0, .int .i64 0, .int .i64 0, .int .i64 0, .int .i64 0, .int .i64 0, .int .i64 0, .int .i64 0, .int .i64 0, .int .i64 0, .int .i64 0, .int .i64 0, .int .i64 0, .int .i64 0, .bool false, .string ⟨#[]⟩, .int .i64 0] ?_ (opCells (kO kI (x1, x2))).toArray (by simp) rfl (by kernel_rfl) rfl (opCells_arr _) ?_
  · go_simp; (try with_reducible rfl)
  simp only [Act.put, List.setIfInBounds_toArray, List.set_cons_zero, List.set_cons_succ]
  have HY3 : RowKit.Hid (Whole (w2.alloc (.cells (opCells (kO kI (x1, x2))).toArray 48)) w2.heap.size 48 (opCells (kO kI (x1, x2)))) := Lib.hid (Whole.new_ _ _ _)
  have Hgb5 : RowKit.Hid (g < w2.heap.size ∧ b < w2.heap.size) := Lib.hid ⟨HC2.out.lt, HX2.out.lt⟩
  have HX3 := Lib.hid (HX2.out.al (.cells (opCells (kO kI (x1, x2))).toArray 48))
  have HK3 := Lib.hid (HK2.out.alloc (.cells (opCells (kO kI (x1, x2))).toArray 48))
  have HC3 := Lib.hid (HC2.out.al (.cells (opCells (kO kI (x1, x2))).toArray 48))
  obtain ⟨w3, gw3⟩ : ∃ z, w2.alloc (.cells (opCells (kO kI (x1, x2))).toArray 48) = z := ⟨_, rfl⟩
  obtain ⟨b5, gb5⟩ : ∃ z, w2.heap.size = z := ⟨_, rfl⟩
  rw [gw3] at HY3 HX3 HK3 HC3 ⊢
  rw [gb5] at HY3 Hgb5 ⊢
  clear gw3 gb5 HX2 HK2 HC2 hK
  have hb5 : RowKit.Hid (w.heap.size ≤ b5) := Lib.hid (by have := Gb.out; have := Hgb5.out.2; omega)
  have l0 : w3.cell? ⟨b5, 0, none⟩ = some (.int .i64 kI) := HY3.out.cell (i := 0) rfl
  go_wp2_with fail
  refine (HR1.out _ HC3.out).mono ?_
  rintro e w4 ⟨rfl, hcu, hgr⟩
  have HX4 := Lib.hid ((gk hgr).whole HX3.out (fun e => by have h1 : b = g := e; have := Hgb.out; omega))
  have HY4 := Lib.hid ((gk hgr).whole HY3.out (fun e => by have h1 : b5 = g := e; have := Hgb5.out; omega))
  have HK4 := Lib.hid (HK3.out.trans (gk hgr))
  have HC4 := Lib.hid hcu
  clear hcu hgr HX3 HY3 HK3 HC3
  go_wp2_with fail
  refine (HR2.out _ HC4.out).mono ?_
  rintro e w5 ⟨rfl, hcu⟩
  have HX5 := Lib.hid (hcu.2.whole HX4.out (fun e => by have h1 : b = g := e; have := Hgb.out; omega))
  have HY5 := Lib.hid (hcu.2.whole HY4.out (fun e => by have h1 : b5 = g := e; have := Hgb5.out; omega))
  have HK5 := Lib.hid (HK4.out.trans hcu.2)
  have HC5 := Lib.hid hcu.1
  clear hcu HX4 HY4 HK4 HC4
  have m1 := HY5.out.cell (i := 17) (v := .bool false) rfl
  have m2 := HY5.out.cell (i := 19) (v := .int .i64 0) rfl
  have e1 := HY5.out.free 17
  have e2 := HY5.out.free 19
  go_upto_region 13 with fail
  clear m1 m2 e1 e2
  have HY6 := Lib.hid (HY5.out.set_ 17 (.bool fb))
  have HX6 := Lib.hid (HX5.out.far (p := ⟨b5, 17, none⟩) (show b ≠ b5 by have := Hgb5.out.2; omega) (.bool fb))
  have HC6 := Lib.hid (HC5.out.poke (i := 17) Hgb5.out.1 (.bool fb))
  have HK6 := Lib.hid (kept_poke (i := 17) HK5.out hb5.out (.bool fb))
  obtain ⟨w6, gw6⟩ : ∃ z, w5.setCell ⟨b5, 17, none⟩ (.bool fb) = z := ⟨_, rfl⟩
  rw [gw6] at HY6 HX6 HC6 HK6 ⊢
  clear gw6 HX5 HY5 HK5 HC5
  have HY7 := Lib.hid (HY6.out.set_ 19 (.int .i64 tx))
  have HX7 := Lib.hid (HX6.out.far (p := ⟨b5, 19, none⟩) (show b ≠ b5 by have := Hgb5.out.2; omega) (.int .i64 tx))
  have HC7 := Lib.hid (HC6.out.poke (i := 19) Hgb5.out.1 (.int .i64 tx))
  have HK7 := Lib.hid (kept_poke (i := 19) HK6.out hb5.out (.int .i64 tx))
  obtain ⟨w7, gw7⟩ : ∃ z, w6.setCell ⟨b5, 19, none⟩ (.int .i64 tx) = z := ⟨_, rfl⟩
  rw [gw7] at HY7 HX7 HC7 HK7 ⊢
  clear gw7 HX6 HY6 HK6 HC6
  have hk3 : kI = 8 := by rw [← GkI.out]; rfl
  subst hk3
  have HFz := HF
  replace HY7 : RowKit.Hid (Whole w7 b5 48 (opCells (⟨8, x1, x2, 0, 0, 0, 0, 0, 0, 0, 0, 0, 0, 0, 0, 0, 0, fb, ⟨#[]⟩, tx⟩ : OpT))) := HY7
  have HOV : RowKit.Hid (opV L = (⟨8, x1, x2, 0, 0, 0, 0, 0, 0, 0, 0, 0, 0, 0, 0, 0, 0, fb, ⟨#[]⟩, tx⟩ : OpT)) := Lib.hid (by rw [HV.out]; skip)
  obtain ⟨o9, go9⟩ : ∃ z, (⟨8, x1, x2, 0, 0, 0, 0, 0, 0, 0, 0, 0, 0, 0, 0, 0, 0, fb, ⟨#[]⟩, tx⟩ : OpT) = z := ⟨_, rfl⟩
  rw [go9] at HOV HY7
  clear go9
  refine wp_region_lit ?_
  refine wl_load (some 61) rfl (by rfl) 48 (.tmp 3) rfl b5 rfl 48 (opCells o9) _ HY7.out Try.underlying48 rfl (by kernel_rfl) ?_
  simp only [Act.put, List.setIfInBounds_toArray, List.set_cons_zero, List.set_cons_succ]
  refine wpList_store_row rfl 48 (.tmp 2) (.tmp 61) rfl b (opCells o9).toArray rfl rfl 48 (opCells zeroO).toArray HX7.out (by kernel_rfl) rfl (opCells_arr _) ?_
  have HXz : RowKit.Hid (Whole (w7.setRow b (opCells o9).toArray) b 48 (opCells o9)) := Lib.hid (Whole.row HX7.out (opCells o9))
  have HCz := Lib.hid (HC7.out.row Hgb.out (opCells o9).toArray)
  have HKz := Lib.hid (kept_in HK7.out (Nat.le_of_eq Gb.out) (kept_row (S := fun i => i = b) rfl (opCells o9).toArray))
  go_wp2
  exact ret_whole rfl b rfl HXz.out Try.underlying48 rfl (by kernel_rfl) rfl ⟨by rw [HOV.out], by rw [HFz.out]; exact HCz.out, HKz.out⟩
set_option maxRecDepth 100000 in
set_option maxHeartbeats 4000000 in
theorem rop_5 (lo g : Nat) (L : List Nat) (w : World) (h : CuAt lo w g L) (hb : ∀ b ∈ L, b < 256) (hk : c1 L = 5) :
    Calls Try.prog 40 #[.pointer (some ⟨g, 0, none⟩)] w fun e w' => e = .returned (.agg (opCells (opV L)).toArray) ∧ Cu1 lo w w' g (opL L) := by
  have HN1 := Lib.hid (fun W hc => cnumber_any lo g L W hc hb)
  have HN2 := Lib.hid (fun W hc => rname_any lo g (L.drop 1) W hc (drop_lt hb 1))
  have hbM := lI_lt (drop_lt hb 1)
  have HV : RowKit.Hid (opV L = fdV (c1 L) (vI (L.drop 1)) (lI (L.drop 1))) := Lib.hid rfl
  have HF : RowKit.Hid (opL L = fdL (c1 L) (lI (L.drop 1))) := Lib.hid rfl
  have HX0 : RowKit.Hid (Whole (w.alloc (.cells #[.int .i64 0, .int .i64 0, .int .i64 0, .int .i64 0, .int .i64 0, .int .i64 0, .int .i64 0, .int .i64 0, .int .i64 0, .int .i64 0, .int .i64 0, .int .i64 0, .int .i64 0, .int .i64 0, .int .i64 0, .int .i64 0, .int .i64 0, .bool false, .string ⟨#[]⟩, .int .i64 0] 48)) w.heap.size 48 (opCells zeroO)) := Lib.hid (Whole.new_ _ _ (opCells zeroO))
  have HC0 := Lib.hid (h.al (.cells #[.int .i64 0, .int .i64 0, .int .i64 0, .int .i64 0, .int .i64 0, .int .i64 0, .int .i64 0, .int .i64 0, .int .i64 0, .int .i64 0, .int .i64 0, .int .i64 0, .int .i64 0, .int .i64 0, .int .i64 0, .int .i64 0, .int .i64 0, .bool false, .string ⟨#[]⟩, .int .i64 0] 48))
  have HK0 : RowKit.Hid (Kept (At1 g) w (w.alloc (.cells #[.int .i64 0, .int .i64 0, .int .i64 0, .int .i64 0, .int .i64 0, .int .i64 0, .int .i64 0, .int .i64 0, .int .i64 0, .int .i64 0, .int .i64 0, .int .i64 0, .int .i64 0, .int .i64 0, .int .i64 0, .int .i64 0, .int .i64 0, .bool false, .string ⟨#[]⟩, .int .i64 0] 48))) := Lib.hid (Kept.of_below (below1 w _))
  have Hgb : RowKit.Hid (g < w.heap.size) := Lib.hid h.lt
  have hlt := byte_lt hb
  obtain ⟨k, gk0⟩ : ∃ z, c1 L = z := ⟨_, rfl⟩
  obtain ⟨⟨x1, x2⟩, gx⟩ : ∃ z, vI (L.drop 1) = z := ⟨_, rfl⟩
  obtain ⟨M, gM⟩ : ∃ z, lI (L.drop 1) = z := ⟨_, rfl⟩
  rw [gk0] at HN1 HV HF hlt hk
  rw [gx] at HN2 HV
  rw [gM] at HN2 HV HF hbM
  clear gx gM gk0 h hb
  subst hk
  rw [show fdV 5 (x1, x2) M = ⟨5, x1, x2, (vI M).1, (vI M).2, (vI (lI M)).1, (vI (lI M)).2, 0, 0, 0, 0, 0, 0, 0, 0, 0, 0, false, ⟨#[]⟩, (c1 (lI (lI M)) : Int)⟩ from rfl] at HV
  rw [show fdL 5 M = (lI (lI M)).drop 1 from rfl] at HF
  have HR1 := Lib.hid (fun W hc => rname_any lo g M W hc hbM)
  have HR2 := Lib.hid (fun W hc => rname_any lo g (lI M) W hc (lI_lt hbM))
  have HR3 := Lib.hid (fun W hc => cnumber_any lo g (lI (lI M)) W hc (lI_lt (lI_lt hbM)))
  obtain ⟨⟨y1, y2⟩, gy⟩ : ∃ z, vI M = z := ⟨_, rfl⟩
  obtain ⟨⟨z1, z2⟩, gz⟩ : ∃ z, vI (lI M) = z := ⟨_, rfl⟩
  obtain ⟨nx_, gn⟩ : ∃ z, c1 (lI (lI M)) = z := ⟨_, rfl⟩
  rw [gy] at HR1 HV
  rw [gz] at HR2 HV
  rw [gn] at HR3 HV
  clear gy gz gn
  obtain ⟨kI, gkI⟩ : ∃ z : Int, ((5 : Nat) : Int) = z := ⟨_, rfl⟩
  rw [gkI] at HN1
  have GkI := Lib.hid gkI
  have q3 : (kI == 3) = false := by rw [← gkI]; rfl
  have q5 : (kI == 5) = true := by rw [← gkI]; rfl
  clear hbM
  go_enter Try.func40, Try.ntmps40
  go_upto_region 1 with fail
  obtain ⟨w0, gw0⟩ : ∃ z, w.alloc (.cells #[.int .i64 0, .int .i64 0, .int .i64 0, .int .i64 0, .int .i64 0, .int .i64 0, .int .i64 0, .int .i64 0, .int .i64 0, .int .i64 0, .int .i64 0, .int .i64 0, .int .i64 0, .int .i64 0, .int .i64 0, .int .i64 0, .int .i64 0, .bool false, .string ⟨#[]⟩, .int .i64 0] 48) = z := ⟨_, rfl⟩
  obtain ⟨b, gb⟩ : ∃ z, w.heap.size = z := ⟨_, rfl⟩
  rw [gw0] at HX0 HK0 HC0 ⊢
  rw [gb] at HX0 Hgb ⊢
  have Gb := Lib.hid gb
  clear gw0 gb
  go_wp2_with fail
  refine (HN1.out _ HC0.out).mono ?_
  rintro e w1 ⟨rfl, hcu, hgr⟩
  have HX1 := Lib.hid ((gk hgr).whole HX0.out (fun e => by have h1 : b = g := e; have := Hgb.out; omega))
  have HK1 := Lib.hid (HK0.out.trans (gk hgr))
  have HC1 := Lib.hid hcu
  clear hcu hgr HX0 HK0 HC0
  go_wp2_with fail
  refine (HN2.out _ HC1.out).mono ?_
  rintro e w2 ⟨rfl, hcu⟩
  have HX2 := Lib.hid (hcu.2.whole HX1.out (fun e => by have h1 : b = g := e; have := Hgb.out; omega))
  have HK2 := Lib.hid (HK1.out.trans hcu.2)
  have HC2 := Lib.hid hcu.1
  clear hcu HX1 HK1 HC1
  rename_i hK
  refine hK _ _ ?_
  refine wl_read (v := .agg (opCells (kO kI (x1, x2))).toArray) (some 10) rfl (by rfl) ?_ ?_
  · go_simp; rfl
  simp only [Act.put, List.setIfInBounds_toArray, List.set_cons_zero, List.set_cons_succ]
  refine wl_new 3 rfl rfl rfl 48 (.tmp 10) rfl rfl #[.int .i64 0, .int .i64 0, .int .i64 0, .int .i64 0, .int .i64 0, .int .i64 0, .int .i64 0, .int .i64 0, .int .i64 0, .int .i64 0, .int .i64 0, .int .i64 0, .int .i64 0, .int .i64 0, .int .i64 0, .int .i64 0, .int .i64 0, .bool false, .string ⟨#[]⟩, .int .i64 0] ?_ (opCells (kO kI (x1, x2))).toArray (by simp) rfl (by kernel_rfl) rfl (opCells_arr _) ?_
  · go_simp; (try with_reducible rfl)
  simp only [Act.put, List.setIfInBounds_toArray, List.set_cons_zero, List.set_cons_succ]
  have HY3 : RowKit.Hid (Whole (w2.alloc (.cells (opCells (kO kI (x1, x2))).toArray 48)) w2.heap.size 48 (opCells (kO kI (x1, x2)))) := Lib.hid (Whole.new_ _ _ _)
  have Hgb5 : RowKit.Hid (g < w2.heap.size ∧ b < w2.heap.size) := Lib.hid ⟨HC2.out.lt, HX2.out.lt⟩
  have HX3 := Lib.hid (HX2.out.al (.cells (opCells (kO kI (x1, x2))).toArray 48))
  have HK3 := Lib.hid (HK2.out.alloc (.cells (opCells (kO kI (x1, x2))).toArray 48))
  have HC3 := Lib.hid (HC2.out.al (.cells (opCells (kO kI (x1, x2))).toArray 48))
  obtain ⟨w3, gw3⟩ : ∃ z, w2.alloc (.cells (opCells (kO kI (x1, x2))).toArray 48) = z := ⟨_, rfl⟩
  obtain ⟨b5, gb5⟩ : ∃ z, w2.heap.size = z := ⟨_, rfl⟩
  rw [gw3] at HY3 HX3 HK3 HC3 ⊢
  rw [gb5] at HY3 Hgb5 ⊢
  clear gw3 gb5 HX2 HK2 HC2 hK
  have hb5 : RowKit.Hid (w.heap.size ≤ b5) := Lib.hid (by have := Gb.out; have := Hgb5.out.2; omega)
  have l0 : w3.cell? ⟨b5, 0, none⟩ = some (.int .i64 kI) := HY3.out.cell (i := 0) rfl
  go_upto_region 6 with fail
  clear l0 q3 q5
  have hD : Below w3.heap.size w3 w3.drew := below_drewN w3.heap.size w3 1
  have HX4 := Lib.hid (HX3.out.bl hD)
  have HY4 := Lib.hid (HY3.out.bl hD)
  have HC4 := Lib.hid (HC3.out.bl hD)
  have HK4 := Lib.hid (HK3.out.trans (Kept.of_below hD))
  clear hD HX3 HY3 HC3 HK3
  refine wp_region_reg (fun i => At1 g i ∨ i = b5) (by kernel_rfl) ?_
  apply wpR_next 0 (some 23)
  · simp only [List.getElem?_toArray, List.getElem?_cons_succ, List.getElem?_cons_zero]; exact rfl
  · rfl
  · kernel_rfl
  · kernel_rfl
  · kernel_rfl
  · exact fun _ _ _ _ h => h
  apply Exists.intro
  apply And.intro
  · apply yr_run; rfl; intro w' hw'; go_simp; (try with_reducible rfl)
  simp only [Act.put, List.setIfInBounds_toArray, List.set_cons_zero, List.set_cons_succ]
  apply wpR_next 2 (some 25)
  · simp only [List.getElem?_toArray, List.getElem?_cons_succ, List.getElem?_cons_zero]; exact rfl
  · rfl
  · kernel_rfl
  · kernel_rfl
  · kernel_rfl
  · exact fun _ _ _ _ h => h
  apply Exists.intro
  apply And.intro
  · apply yr_run; rfl; intro w' hw'; go_simp; (try with_reducible rfl)
  simp only [Act.put, List.setIfInBounds_toArray, List.set_cons_zero, List.set_cons_succ]
  apply wpR_next 4 (some 27)
  · simp only [List.getElem?_toArray, List.getElem?_cons_succ, List.getElem?_cons_zero]; exact rfl
  · rfl
  · kernel_rfl
  · kernel_rfl
  · kernel_rfl
  · exact fun _ _ _ _ h => h
  apply Exists.intro
  apply And.intro
  · apply yr_run; rfl; intro w' hw'; go_simp; (try with_reducible rfl)
  simp only [Act.put, List.setIfInBounds_toArray, List.set_cons_zero, List.set_cons_succ]
  apply wpR_next 5 (some 28)
  · simp only [List.getElem?_toArray, List.getElem?_cons_succ, List.getElem?_cons_zero]; exact rfl
  · rfl
  · kernel_rfl
  · kernel_rfl
  · kernel_rfl
  · exact fun _ _ _ _ h => h
  apply Exists.intro
  apply And.intro
  · apply yr_run; rfl; intro w' hw'; go_simp; (try with_reducible rfl)
  simp only [Act.put, List.setIfInBounds_toArray, List.set_cons_zero, List.set_cons_succ]
  apply wpR_next 6 (some 29)
  · simp only [List.getElem?_toArray, List.getElem?_cons_succ, List.getElem?_cons_zero]; exact rfl
  · rfl
  · kernel_rfl
  · kernel_rfl
  · kernel_rfl
  · exact fun _ _ _ _ h => h
  apply Exists.intro
  apply And.intro
  · apply yr_run; rfl; intro w' hw'; go_simp; (try with_reducible rfl)
  simp only [Act.put, List.setIfInBounds_toArray, List.set_cons_zero, List.set_cons_succ]
  apply wpR_call 1 (some 24)
  · simp only [List.getElem?_toArray, List.getElem?_cons_succ, List.getElem?_cons_zero]; exact rfl
  · rfl
  · kernel_rfl
  · rfl
  · intro w'; go_simp; first | done | exact ⟨rfl, rfl⟩ | with_reducible rfl
  intro w' hw'
  have HCa := HC4.out.bl hw'
  refine (HR1.out _ HCa).mono ?_
  rintro e w5 ⟨rfl, hcu, hkk⟩
  refine ⟨_, rfl, hkk.wider (fun i _ e => .inl e), ?_⟩
  have HX5 := Lib.hid (hkk.whole (HX4.out.bl hw') (fun e => by have h1 : b = g := e; have := Hgb.out; omega))
  have HY5 := Lib.hid (hkk.whole (HY4.out.bl hw') (fun e => by have h1 : b5 = g := e; have := Hgb5.out; omega))
  have HK5 := Lib.hid ((HK4.out.trans (Kept.of_ext hw')).trans hkk)
  have HC5 := Lib.hid hcu
  clear hw' hcu hkk HCa HX4 HY4 HK4 HC4
  simp only [Act.put, List.setIfInBounds_toArray, List.set_cons_zero, List.set_cons_succ]
  apply wpR_next 8 (some 31)
  · simp only [List.getElem?_toArray, List.getElem?_cons_succ, List.getElem?_cons_zero]; exact rfl
  · rfl
  · kernel_rfl
  · kernel_rfl
  · kernel_rfl
  · exact fun _ _ _ _ h => h
  apply Exists.intro
  apply And.intro
  · apply yr_run; rfl; intro w' hw'; go_simp; (try with_reducible rfl)
  simp only [Act.put, List.setIfInBounds_toArray, List.set_cons_zero, List.set_cons_succ]
  apply wpR_call 3 (some 26)
  · simp only [List.getElem?_toArray, List.getElem?_cons_succ, List.getElem?_cons_zero]; exact rfl
  · rfl
  · kernel_rfl
  · rfl
  · intro w'; go_simp; first | done | exact ⟨rfl, rfl⟩ | with_reducible rfl
  intro w' hw'
  have HCa := HC5.out.bl hw'
  refine (HR2.out _ HCa).mono ?_
  rintro e w6 ⟨rfl, hcu, hkk⟩
  refine ⟨_, rfl, hkk.wider (fun i _ e => .inl e), ?_⟩
  have HX6 := Lib.hid (hkk.whole (HX5.out.bl hw') (fun e => by have h1 : b = g := e; have := Hgb.out; omega))
  have HY6 := Lib.hid (hkk.whole (HY5.out.bl hw') (fun e => by have h1 : b5 = g := e; have := Hgb5.out; omega))
  have HK6 := Lib.hid ((HK5.out.trans (Kept.of_ext hw')).trans hkk)
  have HC6 := Lib.hid hcu
  clear hw' hcu hkk HCa HX5 HY5 HK5 HC5
  simp only [Act.put, List.setIfInBounds_toArray, List.set_cons_zero, List.set_cons_succ]
  apply wpR_call 7 (some 30)
  · simp only [List.getElem?_toArray, List.getElem?_cons_succ, List.getElem?_cons_zero]; exact rfl
  · rfl
  · kernel_rfl
  · rfl
  · intro w'; go_simp; first | done | exact ⟨rfl, rfl⟩ | with_reducible rfl
  intro w' hw'
  have HCa := HC6.out.bl hw'
  refine (HR3.out _ HCa).mono ?_
  rintro e w7 ⟨rfl, hcu, hgr⟩
  have hkk := gk hgr
  refine ⟨_, rfl, hkk.wider (fun i _ e => .inl e), ?_⟩
  have HX7 := Lib.hid (hkk.whole (HX6.out.bl hw') (fun e => by have h1 : b = g := e; have := Hgb.out; omega))
  have HY7 := Lib.hid (hkk.whole (HY6.out.bl hw') (fun e => by have h1 : b5 = g := e; have := Hgb5.out; omega))
  have HK7 := Lib.hid ((HK6.out.trans (Kept.of_ext hw')).trans hkk)
  have HC7 := Lib.hid hcu
  clear hw' hcu hkk HCa HX6 HY6 HK6 HC6 hgr
  simp only [Act.put, List.setIfInBounds_toArray, List.set_cons_zero, List.set_cons_succ]
  apply wpR_store 9
  · simp only [List.getElem?_toArray, List.getElem?_cons_succ, List.getElem?_cons_zero]; exact rfl
  · rfl
  · kernel_rfl
  · rfl
  intro w' hw'
  have hY := HY7.out.bl hw'
  refine ⟨w'.setCells b5 3 [.int .i64 y1, .int .i64 y2], store_mid_run 42 (.tmp 31) (.tmp 24) rfl b5 3 rfl [.int .i64 y1, .int .i64 y2] rfl (hY.there_ 3 2 (by show 5 ≤ 20; decide)) (by kernel_rfl) (by simp [Value.oneCell']), kept_setCells (.inr rfl) 3 [.int .i64 y1, .int .i64 y2], ?_⟩
  have HY8 := Lib.hid (hY.cells_ [.int .i64 y1, .int .i64 y2] 3 w' _ (by show 5 ≤ 20; decide))
  have HX8 := Lib.hid ((HX7.out.bl hw').cells_far (show b ≠ b5 by have := Hgb5.out.2; omega) 3 [.int .i64 y1, .int .i64 y2])
  have HC8 := Lib.hid ((HC7.out.bl hw').cells Hgb5.out.1 3 [.int .i64 y1, .int .i64 y2])
  have HK8 := Lib.hid (kept_in (HK7.out.trans (Kept.of_ext hw')) hb5.out (kept_setCells (S := fun i => i = b5) rfl 3 [.int .i64 y1, .int .i64 y2]))
  obtain ⟨w8, gw8⟩ : ∃ z, w'.setCells b5 3 [.int .i64 y1, .int .i64 y2] = z := ⟨_, rfl⟩
  rw [gw8] at HY8 HX8 HC8 HK8 ⊢
  clear gw8 HX7 HY7 HK7 HC7 hw' hY
  try simp only [Act.put, List.setIfInBounds_toArray, List.set_cons_zero, List.set_cons_succ]
  apply wpR_next 10 (some 32)
  · simp only [List.getElem?_toArray, List.getElem?_cons_succ, List.getElem?_cons_zero]; exact rfl
  · rfl
  · kernel_rfl
  · kernel_rfl
  · kernel_rfl
  · exact fun _ _ _ _ h => h
  apply Exists.intro
  apply And.intro
  · apply yr_run; rfl; intro w' hw'; go_simp; (try with_reducible rfl)
  simp only [Act.put, List.setIfInBounds_toArray, List.set_cons_zero, List.set_cons_succ]
  apply wpR_store 11
  · simp only [List.getElem?_toArray, List.getElem?_cons_succ, List.getElem?_cons_zero]; exact rfl
  · rfl
  · kernel_rfl
  · rfl
  intro w' hw'
  have hY := HY8.out.bl hw'
  refine ⟨w'.setCells b5 5 [.int .i64 z1, .int .i64 z2], store_mid_run 42 (.tmp 32) (.tmp 26) rfl b5 5 rfl [.int .i64 z1, .int .i64 z2] rfl (hY.there_ 5 2 (by show 7 ≤ 20; decide)) (by kernel_rfl) (by simp [Value.oneCell']), kept_setCells (.inr rfl) 5 [.int .i64 z1, .int .i64 z2], ?_⟩
  have HY9 := Lib.hid (hY.cells_ [.int .i64 z1, .int .i64 z2] 5 w' _ (by show 7 ≤ 20; decide))
  have HX9 := Lib.hid ((HX8.out.bl hw').cells_far (show b ≠ b5 by have := Hgb5.out.2; omega) 5 [.int .i64 z1, .int .i64 z2])
  have HC9 := Lib.hid ((HC8.out.bl hw').cells Hgb5.out.1 5 [.int .i64 z1, .int .i64 z2])
  have HK9 := Lib.hid (kept_in (HK8.out.trans (Kept.of_ext hw')) hb5.out (kept_setCells (S := fun i => i = b5) rfl 5 [.int .i64 z1, .int .i64 z2]))
  obtain ⟨w9, gw9⟩ : ∃ z, w'.setCells b5 5 [.int .i64 z1, .int .i64 z2] = z := ⟨_, rfl⟩
  rw [gw9] at HY9 HX9 HC9 HK9 ⊢
  clear gw9 HX8 HY8 HK8 HC8 hw' hY
  try simp only [Act.put, List.setIfInBounds_toArray, List.set_cons_zero, List.set_cons_succ]
  apply wpR_next 12 (some 33)
  · simp only [List.getElem?_toArray, List.getElem?_cons_succ, List.getElem?_cons_zero]; exact rfl
  · rfl
  · kernel_rfl
  · kernel_rfl
  · kernel_rfl
  · exact fun _ _ _ _ h => h
  apply Exists.intro
  apply And.intro
  · apply yr_run; rfl; intro w' hw'; go_simp; (try with_reducible rfl)
  simp only [Act.put, List.setIfInBounds_toArray, List.set_cons_zero, List.set_cons_succ]
  apply wpR_store 13
  · simp only [List.getElem?_toArray, List.getElem?_cons_succ, List.getElem?_cons_zero]; exact rfl
  · rfl
  · kernel_rfl
  · rfl
  intro w' hw'
  have hY := HY9.out.bl hw'
  have m1 := hY.cell (i := 19) (v := .int .i64 0) rfl
  have e1 := hY.free 19
  refine ⟨w'.setCell ⟨b5, 19, none⟩ (.int .i64 (nx_ : Int)), ?_, Kept.setCell (Kept.refl _ w') (p := ⟨b5, 19, none⟩) (.inl (.inr rfl)) _, ?_⟩
  · go_simp
  have HY10 := Lib.hid (hY.set_ 19 (.int .i64 (nx_ : Int)))
  have HX10 := Lib.hid ((HX9.out.bl hw').far (p := ⟨b5, 19, none⟩) (show b ≠ b5 by have := Hgb5.out.2; omega) (.int .i64 (nx_ : Int)))
  have HC10 := Lib.hid ((HC9.out.bl hw').poke (i := 19) Hgb5.out.1 (.int .i64 (nx_ : Int)))
  have HK10 := Lib.hid (kept_poke (i := 19) (HK9.out.trans (Kept.of_ext hw')) hb5.out (.int .i64 (nx_ : Int)))
  obtain ⟨w10, gw10⟩ : ∃ z, w'.setCell ⟨b5, 19, none⟩ (.int .i64 (nx_ : Int)) = z := ⟨_, rfl⟩
  rw [gw10] at HY10 HX10 HC10 HK10 ⊢
  clear gw10 HX9 HY9 HK9 HC9 hw' hY m1 e1
  try simp only [Act.put, List.setIfInBounds_toArray, List.set_cons_zero, List.set_cons_succ]
  refine wpR_done (by kernel_rfl) ?_ _
  intro wE hwE
  have HX11 := Lib.hid (HX10.out.bl hwE)
  have HY11 := Lib.hid (HY10.out.bl hwE)
  have HC11 := Lib.hid (HC10.out.bl hwE)
  have HK11 := Lib.hid (HK10.out.trans (Kept.of_ext hwE))
  clear hwE HX10 HY10 HC10 HK10
  obtain ⟨w11, gw11⟩ : ∃ z, wE = z := ⟨_, rfl⟩
  rw [gw11] at HX11 HY11 HC11 HK11 ⊢
  clear gw11
  go_upto_region 13 with fail
  have hk3 : kI = 5 := by rw [← GkI.out]; rfl
  subst hk3
  have HFz := HF
  replace HY11 : RowKit.Hid (Whole w11 b5 48 (opCells (⟨5, x1, x2, y1, y2, z1, z2, 0, 0, 0, 0, 0, 0, 0, 0, 0, 0, false, ⟨#[]⟩, (nx_ : Int)⟩ : OpT))) := HY11
  have HOV : RowKit.Hid (opV L = (⟨5, x1, x2, y1, y2, z1, z2, 0, 0, 0, 0, 0, 0, 0, 0, 0, 0, false, ⟨#[]⟩, (nx_ : Int)⟩ : OpT)) := Lib.hid (by rw [HV.out]; skip)
  obtain ⟨o9, go9⟩ : ∃ z, (⟨5, x1, x2, y1, y2, z1, z2, 0, 0, 0, 0, 0, 0, 0, 0, 0, 0, false, ⟨#[]⟩, (nx_ : Int)⟩ : OpT) = z := ⟨_, rfl⟩
  rw [go9] at HOV HY11
  clear go9
  refine wp_region_lit ?_
  refine wl_load (some 61) rfl (by rfl) 48 (.tmp 3) rfl b5 rfl 48 (opCells o9) _ HY11.out Try.underlying48 rfl (by kernel_rfl) ?_
  simp only [Act.put, List.setIfInBounds_toArray, List.set_cons_zero, List.set_cons_succ]
  refine wpList_store_row rfl 48 (.tmp 2) (.tmp 61) rfl b (opCells o9).toArray rfl rfl 48 (opCells zeroO).toArray HX11.out (by kernel_rfl) rfl (opCells_arr _) ?_
  have HXz : RowKit.Hid (Whole (w11.setRow b (opCells o9).toArray) b 48 (opCells o9)) := Lib.hid (Whole.row HX11.out (opCells o9))
  have HCz := Lib.hid (HC11.out.row Hgb.out (opCells o9).toArray)
  have HKz := Lib.hid (kept_in HK11.out (Nat.le_of_eq Gb.out) (kept_row (S := fun i => i = b) rfl (opCells o9).toArray))
  go_wp2
  exact ret_whole rfl b rfl HXz.out Try.underlying48 rfl (by kernel_rfl) rfl ⟨by rw [HOV.out], by rw [HFz.out]; exact HCz.out, HKz.out⟩
set_option maxRecDepth 100000 in
set_option maxHeartbeats 4000000 in
theorem rop_0 (lo g : Nat) (L : List Nat) (w : World) (h : CuAt lo w g L) (hb : ∀ b ∈ L, b < 256) (k3 : c1 L ≠ 3) (k5 : c1 L ≠ 5) (k6 : c1 L ≠ 6) (k7 : c1 L ≠ 7) (k8 : c1 L ≠ 8) :
    Calls Try.prog 40 #[.pointer (some ⟨g, 0, none⟩)] w fun e w' => e = .returned (.agg (opCells (opV L)).toArray) ∧ Cu1 lo w w' g (opL L) := by
  have HN1 := Lib.hid (fun W hc => cnumber_any lo g L W hc hb)
  have HN2 := Lib.hid (fun W hc => rname_any lo g (L.drop 1) W hc (drop_lt hb 1))
  have hbM := lI_lt (drop_lt hb 1)
  have HV : RowKit.Hid (opV L = fdV (c1 L) (vI (L.drop 1)) (lI (L.drop 1))) := Lib.hid rfl
  have HF : RowKit.Hid (opL L = fdL (c1 L) (lI (L.drop 1))) := Lib.hid rfl
  have HX0 : RowKit.Hid (Whole (w.alloc (.cells #[.int .i64 0, .int .i64 0, .int .i64 0, .int .i64 0, .int .i64 0, .int .i64 0, .int .i64 0, .int .i64 0, .int .i64 0, .int .i64 0, .int .i64 0, .int .i64 0, .int .i64 0, .int .i64 0, .int .i64 0, .int .i64 0, .int .i64 0, .bool false, .string ⟨#[]⟩, .int .i64 0] 48)) w.heap.size 48 (opCells zeroO)) := Lib.hid (Whole.new_ _ _ (opCells zeroO))
  have HC0 := Lib.hid (h.al (.cells #[.int .i64 0, .int .i64 0, .int .i64 0, .int .i64 0, .int .i64 0, .int .i64 0, .int .i64 0, .int .i64 0, .int .i64 0, .int .i64 0, .int .i64 0, .int .i64 0, .int .i64 0, .int .i64 0, .int .i64 0, .int .i64 0, .int .i64 0, .bool false, .string ⟨#[]⟩, .int .i64 0] 48))
  have HK0 : RowKit.Hid (Kept (At1 g) w (w.alloc (.cells #[.int .i64 0, .int .i64 0, .int .i64 0, .int .i64 0, .int .i64 0, .int .i64 0, .int .i64 0, .int .i64 0, .int .i64 0, .int .i64 0, .int .i64 0, .int .i64 0, .int .i64 0, .int .i64 0, .int .i64 0, .int .i64 0, .int .i64 0, .bool false, .string ⟨#[]⟩, .int .i64 0] 48))) := Lib.hid (Kept.of_below (below1 w _))
  have Hgb : RowKit.Hid (g < w.heap.size) := Lib.hid h.lt
  have hlt := byte_lt hb
  obtain ⟨k, gk0⟩ : ∃ z, c1 L = z := ⟨_, rfl⟩
  obtain ⟨⟨x1, x2⟩, gx⟩ : ∃ z, vI (L.drop 1) = z := ⟨_, rfl⟩
  obtain ⟨M, gM⟩ : ∃ z, lI (L.drop 1) = z := ⟨_, rfl⟩
  rw [gk0] at HN1 HV HF hlt k3 k5 k6 k7 k8
  rw [gx] at HN2 HV
  rw [gM] at HN2 HV HF hbM
  clear gx gM gk0 h hb
  rw [show fdV k (x1, x2) M = kO (k : Int) (x1, x2) from by unfold fdV; rw [if_neg k3, if_neg k5, if_neg k6, if_neg k7, if_neg k8]; rfl] at HV
  rw [show fdL k M = M from by unfold fdL; rw [if_neg k3, if_neg k5, if_neg k6, if_neg k7, if_neg k8]] at HF
  obtain ⟨kI, gkI⟩ : ∃ z : Int, (k : Int) = z := ⟨_, rfl⟩
  rw [gkI] at HN1
  have GkI := Lib.hid gkI
  have q3 : (kI == 3) = false := by rw [← gkI]; simp; omega
  have q5 : (kI == 5) = false := by rw [← gkI]; simp; omega
  have q6 : (kI == 6) = false := by rw [← gkI]; simp; omega
  have q7 : (kI == 7) = false := by rw [← gkI]; simp; omega
  have q8 : (kI == 8) = false := by rw [← gkI]; simp; omega
  rw [gkI] at HV
  clear hbM k3 k5 k6 k7 k8
  go_enter Try.func40, Try.ntmps40
  go_upto_region 1 with fail
  obtain ⟨w0, gw0⟩ : ∃ z, w.alloc (.cells #[.int .i64 0, .int .i64 0, .int .i64 0, .int .i64 0, .int .i64 0, .int .i64 0, .int .i64 0, .int .i64 0, .int .i64 0, .int .i64 0, .int .i64 0, .int .i64 0, .int .i64 0, .int .i64 0, .int .i64 0, .int .i64 0, .int .i64 0, .bool false, .string ⟨#[]⟩, .int .i64 0] 48) = z := ⟨_, rfl⟩
  obtain ⟨b, gb⟩ : ∃ z, w.heap.size = z := ⟨_, rfl⟩
  rw [gw0] at HX0 HK0 HC0 ⊢
  rw [gb] at HX0 Hgb ⊢
  have Gb := Lib.hid gb
  clear gw0 gb
  go_wp2_with fail
  refine (HN1.out _ HC0.out).mono ?_
  rintro e w1 ⟨rfl, hcu, hgr⟩
  have HX1 := Lib.hid ((gk hgr).whole HX0.out (fun e => by have h1 : b = g := e; have := Hgb.out; omega))
  have HK1 := Lib.hid (HK0.out.trans (gk hgr))
  have HC1 := Lib.hid hcu
  clear hcu hgr HX0 HK0 HC0
  go_wp2_with fail
  refine (HN2.out _ HC1.out).mono ?_
  rintro e w2 ⟨rfl, hcu⟩
  have HX2 := Lib.hid (hcu.2.whole HX1.out (fun e => by have h1 : b = g := e; have := Hgb.out; omega))
  have HK2 := Lib.hid (HK1.out.trans hcu.2)
  have HC2 := Lib.hid hcu.1
  clear hcu HX1 HK1 HC1
  rename_i hK
  refine hK _ _ ?_
  refine wl_read (v := .agg (opCells (kO kI (x1, x2))).toArray) (some 10) rfl (by rfl) ?_ ?_
  · go_simp; rfl
  simp only [Act.put, List.setIfInBounds_toArray, List.set_cons_zero, List.set_cons_succ]
  refine wl_new 3 rfl rfl rfl 48 (.tmp 10) rfl rfl #[.int .i64 0, .int .i64 0, .int .i64 0, .int .i64 0, .int .i64 0, .int .i64 0, .int .i64 0, .int .i64 0, .int .i64 0, .int .i64 0, .int .i64 0, .int .i64 0, .int .i64 0, .int .i64 0, .int .i64 0, .int .i64 0, .int .i64 0, .bool false, .string ⟨#[]⟩, .int .i64 0] ?_ (opCells (kO kI (x1, x2))).toArray (by simp) rfl (by kernel_rfl) rfl (opCells_arr _) ?_
  · go_simp; (try with_reducible rfl)
  simp only [Act.put, List.setIfInBounds_toArray, List.set_cons_zero, List.set_cons_succ]
  have HY3 : RowKit.Hid (Whole (w2.alloc (.cells (opCells (kO kI (x1, x2))).toArray 48)) w2.heap.size 48 (opCells (kO kI (x1, x2)))) := Lib.hid (Whole.new_ _ _ _)
  have Hgb5 : RowKit.Hid (g < w2.heap.size ∧ b < w2.heap.size) := Lib.hid ⟨HC2.out.lt, HX2.out.lt⟩
  have HX3 := Lib.hid (HX2.out.al (.cells (opCells (kO kI (x1, x2))).toArray 48))
  have HK3 := Lib.hid (HK2.out.alloc (.cells (opCells (kO kI (x1, x2))).toArray 48))
  have HC3 := Lib.hid (HC2.out.al (.cells (opCells (kO kI (x1, x2))).toArray 48))
  obtain ⟨w3, gw3⟩ : ∃ z, w2.alloc (.cells (opCells (kO kI (x1, x2))).toArray 48) = z := ⟨_, rfl⟩
  obtain ⟨b5, gb5⟩ : ∃ z, w2.heap.size = z := ⟨_, rfl⟩
  rw [gw3] at HY3 HX3 HK3 HC3 ⊢
  rw [gb5] at HY3 Hgb5 ⊢
  clear gw3 gb5 HX2 HK2 HC2 hK
  have hb5 : RowKit.Hid (w.heap.size ≤ b5) := Lib.hid (by have := Gb.out; have := Hgb5.out.2; omega)
  have l0 : w3.cell? ⟨b5, 0, none⟩ = some (.int .i64 kI) := HY3.out.cell (i := 0) rfl
  go_upto_region 13 with fail
  have HFz := HF
  have HOV : RowKit.Hid (opV L = (kO kI (x1, x2))) := Lib.hid (by rw [HV.out]; skip)
  obtain ⟨o9, go9⟩ : ∃ z, (kO kI (x1, x2)) = z := ⟨_, rfl⟩
  rw [go9] at HOV HY3
  clear go9
  refine wp_region_lit ?_
  refine wl_load (some 61) rfl (by rfl) 48 (.tmp 3) rfl b5 rfl 48 (opCells o9) _ HY3.out Try.underlying48 rfl (by kernel_rfl) ?_
  simp only [Act.put, List.setIfInBounds_toArray, List.set_cons_zero, List.set_cons_succ]
  refine wpList_store_row rfl 48 (.tmp 2) (.tmp 61) rfl b (opCells o9).toArray rfl rfl 48 (opCells zeroO).toArray HX3.out (by kernel_rfl) rfl (opCells_arr _) ?_
  have HXz : RowKit.Hid (Whole (w3.setRow b (opCells o9).toArray) b 48 (opCells o9)) := Lib.hid (Whole.row HX3.out (opCells o9))
  have HCz := Lib.hid (HC3.out.row Hgb.out (opCells o9).toArray)
  have HKz := Lib.hid (kept_in HK3.out (Nat.le_of_eq Gb.out) (kept_row (S := fun i => i = b) rfl (opCells o9).toArray))
  go_wp2
  exact ret_whole rfl b rfl HXz.out Try.underlying48 rfl (by kernel_rfl) rfl ⟨by rw [HOV.out], by rw [HFz.out]; exact HCz.out, HKz.out⟩
theorem rop_any (lo g : Nat) (L : List Nat) (w : World) (h : CuAt lo w g L) (hb : ∀ b ∈ L, b < 256) :
    Calls Try.prog 40 #[.pointer (some ⟨g, 0, none⟩)] w fun e w' => e = .returned (.agg (opCells (opV L)).toArray) ∧ Cu1 lo w w' g (opL L) := by
  by_cases k3 : c1 L = 3
  · exact rop_3 lo g L w h hb k3
  by_cases k5 : c1 L = 5
  · exact rop_5 lo g L w h hb k5
  by_cases k6 : c1 L = 6
  · exact rop_6 lo g L w h hb k6
  by_cases k7 : c1 L = 7
  · exact rop_7 lo g L w h hb k7
  by_cases k8 : c1 L = 8
  · exact rop_8 lo g L w h hb k8
  exact rop_0 lo g L w h hb k3 k5 k6 k7 k8
end Go.Proofs.Ytoiflngpjdghbaa

/- The reader: edit. -/
namespace Go.Proofs.Ytoiflngpjdghbaa
open Go.RowKit
set_option linter.unusedSimpArgs false
set_option linter.unusedVariables false

theorem edV_snoc : ∀ (k : Nat) (L : List Nat), edV (k + 1) L = edV k L ++ [opV (edL k L)]
  | 0, _ => rfl
  | k + 1, L => by
    show opV L :: edV (k + 1) (opL L) = (opV L :: edV k (opL L)) ++ [opV (edL (k + 1) L)]
    rw [edV_snoc k]
    rfl
theorem edL_snoc : ∀ (k : Nat) (L : List Nat), edL (k + 1) L = opL (edL k L)
  | 0, _ => rfl
  | k + 1, L => by
    show edL (k + 1) (opL L) = opL (edL k (opL L))
    rw [edL_snoc k]
theorem edL_lt : ∀ (k : Nat) {L : List Nat}, (∀ b ∈ L, b < 256) → ∀ b ∈ edL k L, b < 256
  | 0, _, h => h
  | k + 1, _, h => edL_lt k (opL_lt h)
theorem info_op : (Try.prog.info? 48).map (fun i => (i.zero, i.size, i.bytes)) = some (some (.agg #[.int .i64 0, .int .i64 0, .int .i64 0, .int .i64 0, .int .i64 0, .int .i64 0, .int .i64 0, .int .i64 0, .int .i64 0, .int .i64 0, .int .i64 0, .int .i64 0, .int .i64 0, .int .i64 0, .int .i64 0, .int .i64 0, .int .i64 0, .bool false, .string ⟨#[]⟩, .int .i64 0]), 20, 168) := by kernel_rfl
theorem rowsOp1 (o : OpT) : rowsV opCells [o] = opCells o := by simp [rowsV]
/-- A row of one's own, with nothing said of what else there is. -/
theorem ow_of {W : World} {B size n : Nat} {e : TypeId} {v : Value} {xs : List Value} (h : W.ownsRow B e size v n xs) (hB : B ≤ W.heap.size) : Ow { W with heap := #[] } B e size v n xs W :=
  ⟨h, ⟨rfl, rfl, rfl, Nat.zero_le _, fun i hi => absurd hi (Nat.not_lt_zero _)⟩, Nat.zero_le _, hB⟩
theorem own_at1 {W W' : World} {lo k n g : Nat} {T : TypeId} {v : Value} {xs : List Value} (h : W.ownsRow lo T k v n xs) (hk : Kept (At1 g) W W') (hne : some g ≠ v.ownBlock) : W'.ownsRow lo T k v n xs :=
  h.kept (row := some g) ⟨hk.os, hk.tape, hk.output, hk.size, fun i hi hn => hk.block i hi (fun e => hn (by rw [e]))⟩ (by first | exact hne | exact hne.symm | exact .inr hne | exact .inr hne.symm)
/-- How a round of edit stands. -/
structure EdS (lo g b2 b3 B0 : Nat) (L0 : List Nat) (w : World) (k : Nat) (A : Option Addr) (c : Nat) (W : World) : Prop where
  cu : CuAt lo W g (edL k L0)
  hy : Whole W b3 25 [.slice A k c]
  hx : Whole W b2 25 [.slice none 0 0]
  own : W.ownsRow B0 48 20 (.slice A k c) k (rowsV opCells (edV k L0))
  kp : Kept (At1 g) w W
theorem EdS.bl {lo g b2 b3 B0 k c : Nat} {L0 : List Nat} {w W W' : World} {A : Option Addr} (h : EdS lo g b2 b3 B0 L0 w k A c W) (hb : Below W.heap.size W W') : EdS lo g b2 b3 B0 L0 w k A c W' :=
  ⟨h.cu.bl hb, h.hy.bl hb, h.hx.bl hb, own_up h.own hb, h.kp.trans (Kept.of_below hb)⟩
set_option maxRecDepth 100000 in
set_option maxHeartbeats 4000000 in
theorem redit_any (lo g : Nat) (B : List Nat) (w : World) (h : CuAt lo w g B) (hb : ∀ b ∈ B, b < 256) :
    Calls Try.prog 28 #[.pointer (some ⟨g, 0, none⟩)] w fun e w' => ∃ A c, e = .returned (.agg #[.slice A (c1 B) c]) ∧ w'.ownsRow w.heap.size 48 20 (.slice A (c1 B) c) (c1 B) (rowsV opCells (rdV B)) ∧ Cu1 lo w w' g (rdR B) := by
  obtain ⟨i0, hi, hz0, hz1, hz2⟩ := info_parts_ info_op
  have HN1 := Lib.hid (fun W hc => cnumber_any lo g B W hc hb)
  have HR := Lib.hid (fun k W (hc : CuAt lo W g (edL k (B.drop 1))) => rop_any lo g (edL k (B.drop 1)) W hc (edL_lt k (drop_lt hb 1)))
  have HVn : RowKit.Hid (rdV B = edV (c1 B) (B.drop 1) ∧ rdR B = edL (c1 B) (B.drop 1)) := Lib.hid ⟨rfl, rfl⟩
  have hlt := byte_lt hb
  have HX0 : RowKit.Hid (Whole ((w.alloc (.cells #[.slice none 0 0] 25)).alloc (.cells #[.slice none 0 0] 25)) w.heap.size 25 [.slice none 0 0]) := Lib.hid ((Whole.new_ w 25 [_]).al _)
  have HY0 : RowKit.Hid (Whole ((w.alloc (.cells #[.slice none 0 0] 25)).alloc (.cells #[.slice none 0 0] 25)) (w.heap.size + 1) 25 [.slice none 0 0]) := Lib.hid (Whole.new2 (by simp))
  have HC0 := Lib.hid ((h.al (.cells #[.slice none 0 0] 25)).al (.cells #[.slice none 0 0] 25))
  have HK0 : RowKit.Hid (Kept (At1 g) w ((w.alloc (.cells #[.slice none 0 0] 25)).alloc (.cells #[.slice none 0 0] 25))) := Lib.hid (Kept.of_below (below2 w _ _))
  have Hgb : RowKit.Hid (g < w.heap.size) := Lib.hid h.lt
  obtain ⟨n, gn⟩ : ∃ z, c1 B = z := ⟨_, rfl⟩
  obtain ⟨L0, gL0⟩ : ∃ z, B.drop 1 = z := ⟨_, rfl⟩
  rw [gn] at HN1 HVn hlt ⊢
  rw [gL0] at HN1 HR HVn
  clear h hb gn gL0
  go_enter Try.func28, Try.ntmps28
  go_upto_region 2 with fail
  obtain ⟨w0, gw0⟩ : ∃ z, (w.alloc (.cells #[.slice none 0 0] 25)).alloc (.cells #[.slice none 0 0] 25) = z := ⟨_, rfl⟩
  obtain ⟨b3, gb3⟩ : ∃ z, w.heap.size + 1 = z := ⟨_, rfl⟩
  rw [gw0] at HX0 HY0 HK0 HC0 ⊢
  rw [gb3] at HY0 ⊢
  obtain ⟨b2, gb2⟩ : ∃ z, w.heap.size = z := ⟨_, rfl⟩
  rw [gb2] at HX0 Hgb ⊢
  have Gb2 := Lib.hid gb2
  have Hb3 : RowKit.Hid (b2 < b3 ∧ w.heap.size ≤ b3) := Lib.hid (by omega)
  clear gw0 gb2 gb3
  go_upto_region 3 with (first
    | (go_at_call 39
       refine (HN1.out _ HC0.out).mono ?_
       rintro e w1 ⟨rfl, hcu, hgr⟩
       have HS1 : RowKit.Hid (EdS lo g b2 b3 b2 L0 w 0 none 0 w1) := Lib.hid ⟨hcu, (gk hgr).whole HY0.out (fun e => by have h1 : b3 = g := e; have := Hgb.out; have := Hb3.out; omega), (gk hgr).whole HX0.out (fun e => by have h1 : b2 = g := e; have := Hgb.out; omega), World.ownsRow_nil _ _ _ _, HK0.out.trans (gk hgr)⟩
       clear hcu hgr))
  go_loopw [8] (fun i wr => ∃ (k : Nat) (A : Option Addr) (c : Nat), k ≤ n ∧ i = .int .i64 (k : Int) ∧ RowKit.Hid (EdS lo g b2 b3 b2 L0 w k A c wr)) (fun i _ => n - (intOf i).toNat)
  case atStart => exact ⟨0, none, 0, Nat.zero_le _, rfl, HS1⟩
  case round =>
    clear HS1 HX0 HY0 HC0 HK0
    obtain ⟨k, A, c, hk, rfl, hin⟩ := hrel
    by_cases hlt2 : k < n
    · have HRk := Lib.hid (fun W hc => HR.out k W hc)
      have HE1 : RowKit.Hid (edV (k + 1) L0 = edV k L0 ++ [opV (edL k L0)]) := Lib.hid (edV_snoc k L0)
      have HE2 : RowKit.Hid (edL (k + 1) L0 = opL (edL k L0)) := Lib.hid (edL_snoc k L0)
      obtain ⟨o, go⟩ : ∃ z, opV (edL k L0) = z := ⟨_, rfl⟩
      obtain ⟨Lk, gLk⟩ : ∃ z, opL (edL k L0) = z := ⟨_, rfl⟩
      rw [go] at HE1 HRk
      rw [gLk] at HE2 HRk
      clear go gLk
      go_upto_region 4 with fail
      have HD : RowKit.Hid (Ext wr wr.drew) := Lib.hid (below_drewN wr.heap.size wr 1)
      have hne3 := own_ne hin.out.own hin.out.hy (by decide)
      have hneg : some g ≠ (Value.slice A k c).ownBlock := by
        obtain ⟨A1, n1, c1', q1, -, -, -, -⟩ := hin.out.cu
        exact own_ne hin.out.own q1 (by decide)
      have Hneg := Lib.hid hneg
      have hg3 : g ≠ b3 := by have := Hgb.out; have := Hb3.out; omega
      have ld0 : ∀ w', Kept (fun i => i = g ∨ some i = (Value.slice A k c).ownBlock) wr.drew w' → w'.cell? ⟨b3, 0, none⟩ = some (.slice A k c) := fun w' hh => hh.cell (hin.out.hy.dr.cell (i := 0) rfl) (fun e => by
        rcases e with e | e
        · exact hg3 e.symm
        · exact hne3 e)
      clear hne3 hneg hg3
      refine wp_region_tail (fun i => i = g ∨ some i = (Value.slice A k c).ownBlock) [7] (by kernel_rfl) ?_
      apply wpT_next 0 (some 10) (by kernel_rfl)
      · simp only [List.getElem?_toArray, List.getElem?_cons_succ, List.getElem?_cons_zero]; exact rfl
      · rfl
      · kernel_rfl
      · kernel_rfl
      · kernel_rfl
      · exact fun _ _ _ _ h => h
      apply Exists.intro
      apply And.intro
      · apply yr_run; rfl; intro w' hw'; go_simp; (try with_reducible rfl)
      simp only [Act.put, List.setIfInBounds_toArray, List.set_cons_zero, List.set_cons_succ]
      apply wpT_next 1 (some 11) (by kernel_rfl)
      · simp only [List.getElem?_toArray, List.getElem?_cons_succ, List.getElem?_cons_zero]; exact rfl
      · rfl
      · kernel_rfl
      · kernel_rfl
      · kernel_rfl
      · exact fun _ _ _ _ h => h
      apply Exists.intro
      apply And.intro
      · apply yr_run; rfl; intro w' hw'; go_simp; (try with_reducible rfl)
      simp only [Act.put, List.setIfInBounds_toArray, List.set_cons_zero, List.set_cons_succ]
      apply wpT_next 2 (some 12) (by kernel_rfl)
      · simp only [List.getElem?_toArray, List.getElem?_cons_succ, List.getElem?_cons_zero]; exact rfl
      · rfl
      · kernel_rfl
      · kernel_rfl
      · kernel_rfl
      · exact fun _ _ _ _ h => h
      apply Exists.intro
      apply And.intro
      · apply yr_run; rfl; intro w' hw'; go_simp; (try with_reducible rfl)
      simp only [Act.put, List.setIfInBounds_toArray, List.set_cons_zero, List.set_cons_succ]
      apply wpT_call 3 (some 13)
      · simp only [List.getElem?_toArray, List.getElem?_cons_succ, List.getElem?_cons_zero]; exact rfl
      · rfl
      · kernel_rfl
      · rfl
      · intro w'; go_simp; first | done | exact ⟨rfl, rfl⟩ | with_reducible rfl
      intro w' hw'
      have HCa := hin.out.cu.bl (Ext.trans HD.out hw')
      have HAl := hin.out.bl (Ext.trans HD.out hw')
      refine (HRk.out _ HCa).mono ?_
      rintro e w1 ⟨rfl, hcu⟩
      refine ⟨_, rfl, hcu.2.wider (fun i _ e => .inl e), ?_⟩
      have HC5 := Lib.hid hcu.1
      have HY5 := Lib.hid (hcu.2.whole HAl.hy (fun e => by have h1 : b3 = g := e; have := Hgb.out; have := Hb3.out; omega))
      have HX5 := Lib.hid (hcu.2.whole HAl.hx (fun e => by have h1 : b2 = g := e; have := Hgb.out; omega))
      have HO5 := Lib.hid (own_at1 HAl.own hcu.2 Hneg.out)
      have HK5 := Lib.hid (HAl.kp.trans hcu.2)
      clear hw' hcu HCa HAl ld0
      simp only [Act.put, List.setIfInBounds_toArray, List.set_cons_zero, List.set_cons_succ]
      apply wpT_run 4 (some 14)
      · simp only [List.getElem?_toArray, List.getElem?_cons_succ, List.getElem?_cons_zero]; exact rfl
      · rfl
      · kernel_rfl
      · rfl
      intro w' hw'
      refine ⟨.slice (some ⟨w'.heap.size, 0, none⟩) 1 1, w'.alloc (.cells (opCells o).toArray 48), exec_buildSlice 23 48 1 #[(0, .tmp 13)] (by rfl) Try.underlying23 _ (by kernel_rfl), Kept.of_below (below1 _ _), ?_⟩
      have hE : Ext w1 (w'.alloc (.cells (opCells o).toArray 48)) := Ext.trans hw' (below1 _ _)
      have HL6 : RowKit.Hid (RdS (w'.alloc (.cells (opCells o).toArray 48)) (w'.alloc (.cells (opCells o).toArray 48)).heap.size 20 (some ⟨w'.heap.size, 0, none⟩) 1 1 (rowsV opCells [o])) := Lib.hid (by rw [rowsOp1]; exact RdS.of_whole8 (Whole.new_ _ _ _) rfl)
      have HC6 := Lib.hid (HC5.out.bl hE)
      have HY6 := Lib.hid (HY5.out.bl hE)
      have HX6 := Lib.hid (HX5.out.bl hE)
      have HO6 := Lib.hid (own_up HO5.out hE)
      have HK6 := Lib.hid (HK5.out.trans (Kept.of_below hE))
      obtain ⟨w2, gw2⟩ : ∃ z, w'.alloc (.cells (opCells o).toArray 48) = z := ⟨_, rfl⟩
      obtain ⟨g6, gg6⟩ : ∃ z, w'.heap.size = z := ⟨_, rfl⟩
      rw [gw2] at HL6 HC6 HY6 HX6 HO6 HK6 ⊢
      rw [gg6] at HL6 ⊢
      clear hw' hE gw2 gg6 HC5 HY5 HX5 HO5 HK5
      simp only [Act.put, List.setIfInBounds_toArray, List.set_cons_zero, List.set_cons_succ]
      apply wpT_run 5 (some 15)
      · simp only [List.getElem?_toArray, List.getElem?_cons_succ, List.getElem?_cons_zero]; exact rfl
      · rfl
      · kernel_rfl
      · rfl
      intro w' hw'
      have hO := own_up HO6.out hw'
      have hY := HY6.out.bl hw'
      have hX := HX6.out.bl hw'
      have hC := HC6.out.bl hw'
      have hB2 : b2 ≤ w'.heap.size := by have := hX.lt; omega
      obtain ⟨vv, w'', hrun, ho, hb, hg, hbk⟩ := Ow.app2 (P := Try.prog) 23 23 48 i0 _ 20 168 _ Try.underlying23 hi hz0 hz1 hz2 rfl (by decide) _ _ _ (ow_of hO hB2) _ _ _ _ _ (HL6.out.bl hw') (rowsV_one opCells opCells_one [o]) (by unfold maxLen; omega) (by omega)
      refine ⟨vv, w'', exec_append (by rfl) (by rfl) (by rfl) hrun, kept_grow hg (fun i e => .inr e), ?_⟩
      obtain ⟨A7, c7, rfl, -⟩ := ho.rds
      have hne3 := own_ne hO hY (by decide)
      have hne2 := own_ne hO hX (by decide)
      have hkb : Kept (fun i => some i = (Value.slice A k c).ownBlock) w' w'' := kept_grow hg (fun i e => e)
      have hlo7 : ∀ i, some i = (Value.slice A k c).ownBlock → b2 ≤ i := fun i e => (hO.lt i e.symm).1
      have HC7 := Lib.hid (hC.kept hkb Hneg.out (fun i hi e => by have h1 := hlo7 i e; have := hC.ge; have := Hgb.out; omega))
      have HY7 := Lib.hid (hkb.whole hY hne3)
      have HX7 := Lib.hid (hkb.whole hX hne2)
      have HO7 := Lib.hid ho.own
      have HK7 : RowKit.Hid (Kept (At1 g) w w'') := Lib.hid ⟨hkb.os.trans (HK6.out.trans (Kept.of_ext hw')).os, hkb.tape.trans (HK6.out.trans (Kept.of_ext hw')).tape, hkb.output.trans (HK6.out.trans (Kept.of_ext hw')).output, Nat.le_trans (HK6.out.trans (Kept.of_ext hw')).size hkb.size, fun i hi hn => (hkb.block i (Nat.lt_of_lt_of_le hi (HK6.out.trans (Kept.of_ext hw')).size) (fun e => by have h1 := hlo7 i e; have := Gb2.out; omega)).trans ((HK6.out.trans (Kept.of_ext hw')).block i hi hn)⟩
      obtain ⟨w3, gw3⟩ : ∃ z, w'' = z := ⟨_, rfl⟩
      rw [gw3] at HC7 HY7 HX7 HO7 HK7 ⊢
      clear hw' hO hY hX hC hB2 hrun ho hb hg hbk hne3 hne2 hkb hlo7 gw3 HL6 HC6 HY6 HX6 HO6 HK6
      simp only [Act.put, List.setIfInBounds_toArray, List.set_cons_zero, List.set_cons_succ]
      apply wpT_next 6 (some 16) (by kernel_rfl)
      · simp only [List.getElem?_toArray, List.getElem?_cons_succ, List.getElem?_cons_zero]; exact rfl
      · rfl
      · kernel_rfl
      · kernel_rfl
      · kernel_rfl
      · exact fun _ _ _ _ h => h
      apply Exists.intro
      apply And.intro
      · apply yr_run; rfl; intro w' hw'; go_simp; (try with_reducible rfl)
      simp only [Act.put, List.setIfInBounds_toArray, List.set_cons_zero, List.set_cons_succ]
      apply wpT_last 7
      · simp only [List.getElem?_toArray, List.getElem?_cons_succ, List.getElem?_cons_zero]; exact rfl
      · rfl
      · kernel_rfl
      · rfl
      · decide
      intro w' hw'
      have hy := HY7.out.bl hw'
      have hcl := hy.cell (i := 0) rfl
      have hfr := hy.free 0
      refine ⟨w'.setCell ⟨b3, 0, none⟩ (.slice A7 (k + 1) c7), ?_, ?_⟩
      · go_simp; first | done | exact rfl
      have HS8 : RowKit.Hid (EdS lo g b2 b3 b2 L0 w (k + 1) A7 c7 (w'.setCell ⟨b3, 0, none⟩ (.slice A7 (k + 1) c7))) := Lib.hid (by
        have hx := HX7.out.bl hw'
        refine ⟨?_, hy.set_ 0 _, hx.far (p := ⟨b3, 0, none⟩) (show b2 ≠ b3 by have := Hb3.out; omega) _, ?_, kept_poke (HK7.out.trans (Kept.of_ext hw')) Hb3.out.2 _⟩
        · rw [HE2.out]
          exact (HC7.out.bl hw').poke (by have := Hgb.out; have := Hb3.out; omega) _
        · rw [HE1.out, rowsV_app]
          exact own_cell_far (own_up HO7.out hw') (own_ne (own_up HO7.out hw') hy (by decide)) _)
      obtain ⟨w4, gw4⟩ : ∃ z, w'.setCell ⟨b3, 0, none⟩ (.slice A7 (k + 1) c7) = z := ⟨_, rfl⟩
      rw [gw4] at HS8 ⊢
      clear hw' hy hcl hfr gw4 HC7 HY7 HX7 HO7 HK7
      try simp only [Act.put, List.setIfInBounds_toArray, List.set_cons_zero, List.set_cons_succ]
      refine wpT_done (by kernel_rfl) ?_ _
      intro wE hwE
      have HS9 := Lib.hid (HS8.out.bl hwE)
      clear HS8 hwE hin
      go_wp2
      go_roundw
      case rel => exact ⟨k + 1, A7, c7, by omega, by go_num, HS9⟩
      case measure => simp [intOf]; omega
    · obtain rfl : n = k := by omega
      obtain ⟨hcu, hy, hx, ho, hk9⟩ := hin.out
      have HF : RowKit.Hid (∃ A' c', Ending.returned (.agg #[.slice A n c]) = .returned (.agg #[.slice A' n c']) ∧ (wr.setCell ⟨b2, 0, none⟩ (.slice A n c)).ownsRow w.heap.size 48 20 (.slice A' n c') n (rowsV opCells (rdV B)) ∧ Cu1 lo w (wr.setCell ⟨b2, 0, none⟩ (.slice A n c)) g (rdR B)) := Lib.hid ⟨A, c, rfl, by rw [HVn.out.1]; exact Gb2.out.symm ▸ own_cell_far ho (own_ne ho hx (by decide)) _, by rw [HVn.out.2]; exact hcu.poke Hgb.out _, kept_poke hk9 (Nat.le_of_eq Gb2.out) _⟩
      have HXz := Lib.hid (hx.set_ 0 (.slice A n c))
      have l0 := hy.cell (i := 0) rfl
      have q0 := hx.cell (i := 0) rfl
      have f0 := hx.free 0
      clear hcu hy hx ho hk9 hin hk hlt2
      go_wp2
      exact ret_whole rfl b2 rfl HXz.out Try.underlying25 rfl (by kernel_rfl) rfl HF.out
end Go.Proofs.Ytoiflngpjdghbaa

/- opcode.Take. -/
namespace Go.Proofs.Ytoiflngpjdghbaa
open Go.RowKit
set_option linter.unusedSimpArgs false
set_option linter.unusedVariables false

/-- R is what is left of L. -/
def Suf (L R : List Nat) : Prop := ∃ j, R = L.drop j
theorem Suf.refl (L : List Nat) : Suf L L := ⟨0, rfl⟩
theorem Suf.drop {L R : List Nat} (h : Suf L R) (n : Nat) : Suf L (R.drop n) := by
  obtain ⟨j, rfl⟩ := h
  exact ⟨j + n, by rw [List.drop_drop]⟩
theorem Suf.lI {L R : List Nat} (h : Suf L R) : Suf L (lI R) := by unfold Go.Proofs.Ytoiflngpjdghbaa.lI; split; exact h.drop 4; exact h
theorem Suf.lM {L R : List Nat} (h : Suf L R) : Suf L (lM R) := by unfold Go.Proofs.Ytoiflngpjdghbaa.lM; split; exact h.drop 8; exact h
theorem Suf.leT {L R : List Nat} (h : Suf L R) : Suf L (leT R) := by unfold Go.Proofs.Ytoiflngpjdghbaa.leT; split; exact h.drop _; exact h
theorem Suf.crL {L R : List Nat} (h : Suf L R) : Suf L (crL R) := by
  unfold Go.Proofs.Ytoiflngpjdghbaa.crL; split
  · exact (h.lI.drop 1).lI
  · exact h.lI.drop 1
theorem Suf.fdL {L R : List Nat} (k : Nat) (h : Suf L R) : Suf L (fdL k R) := by
  unfold Go.Proofs.Ytoiflngpjdghbaa.fdL
  split
  · exact h.crL.crL
  split
  · exact h.lI.lI.drop 1
  split
  · exact h.lI
  split
  · exact (h.drop 1).leT
  split
  · exact (h.drop 1).lM
  · exact h
theorem Suf.opL {L R : List Nat} (h : Suf L R) : Suf L (opL R) := ((h.drop 1).lI).fdL _
theorem Suf.edL {L : List Nat} : ∀ (k : Nat) {R : List Nat}, Suf L R → Suf L (edL k R)
  | 0, _, h => h
  | k + 1, _, h => Suf.edL k h.opL
theorem rdR_suf (B : List Nat) : Suf B (rdR B) := Suf.edL _ ((Suf.refl B).drop 1)
theorem Suf.at_ {L R : List Nat} (h : Suf L R) : R.length ≤ L.length ∧ L.drop (L.length - R.length) = R := by
  obtain ⟨j, rfl⟩ := h
  rw [List.length_drop]
  by_cases hj : j ≤ L.length
  · exact ⟨by omega, by rw [show L.length - (L.length - j) = j by omega]⟩
  · exact ⟨by omega, by rw [List.drop_eq_nil_of_le (by omega), List.drop_eq_nil_of_le (by omega)]⟩
theorem Suf.lt {L R : List Nat} (h : Suf L R) (hb : ∀ b ∈ L, b < 256) : ∀ b ∈ R, b < 256 := by
  obtain ⟨j, rfl⟩ := h
  exact drop_lt hb j
/-- Whether bytes begin with an edit that may be; that edit, and what is behind it. -/
def okEd (B : List Nat) : Bool := decide (mayE (rdV B) = 0 ∧ edB (rdV B) ++ rdR B = B)
def tkV (B : List Nat) : List OpT := if okEd B = true then rdV B else []
def tkR (B : List Nat) : List Nat := if okEd B = true then rdR B else B
def tkE (B : List Nat) : Int := if okEd B = true then 0 else 2
theorem okEd_is {B : List Nat} (h : okEd B = true) : isE B (rdV B) (rdR B) := ⟨(of_decide_eq_true h).1, (of_decide_eq_true h).2.symm⟩
theorem is_okEd {B : List Nat} {L : List OpT} {R : List Nat} (h : isE B L R) : okEd B = true ∧ rdV B = L ∧ rdR B = R := by
  obtain ⟨h1, h2, -, -, -⟩ := isE_rd h
  refine ⟨decide_eq_true ?_, h1, h2⟩
  rw [h1, h2]
  exact ⟨h.1, h.2.symm⟩
theorem okEd_eq {B : List Nat} (hm : mayE (rdV B) = 0) : okEd B = decide (edB (rdV B) = B.take (B.length - (rdR B).length)) := by
  have hs := (rdR_suf B).at_
  refine decide_eq_decide.2 ⟨fun h => ?_, fun h => ⟨hm, ?_⟩⟩
  · have e := h.2
    have hl : (edB (rdV B)).length = B.length - (rdR B).length := by
      have := congrArg List.length e
      rw [List.length_append] at this
      omega
    have e2 : B.take (edB (rdV B)).length = edB (rdV B) := by
      conv => lhs; arg 2; rw [← e]
      exact List.take_left
    rw [← hl]
    exact e2.symm
  · rw [h]
    conv => lhs; rhs; rw [← hs.2]
    exact List.take_append_drop _ _
/-- What Take tells. -/
def GivesTk (w : World) (B : List Nat) (e : Ending) (w' : World) : Prop :=
  ∃ A1 k1 A2 k2 m, e = .returned (.tuple #[.agg #[.slice A1 (tkV B).length k1], .slice A2 m k2, .int .i64 (tkE B)]) ∧ m = (tkR B).length ∧ w'.ownsRow w.heap.size 48 20 (.slice A1 (tkV B).length k1) (tkV B).length (rowsV opCells (tkV B)) ∧ w'.ownsRow w.heap.size 5 1 (.slice A2 m k2) m (rowsV f8 (tkR B)) ∧ Below w.heap.size w w'
theorem bel_kept {w0 w w' : World} {g : Nat} (h : Below w0.heap.size w0 w) (hk : Kept (At1 g) w w') (hg : w0.heap.size ≤ g) : Below w0.heap.size w0 w' :=
  h.trans (hk.below h.size (fun i hi e => by have h1 : i = g := e; omega))
set_option maxRecDepth 100000 in
set_option maxHeartbeats 8000000 in
theorem otake_any (A : Option Addr) (c : Nat) (B : List Nat) (w : World) (h : RdS w w.heap.size 1 A B.length c (rowsV f8 B)) (hn : B.length ≤ 90000) (hb : ∀ b ∈ B, b < 256) :
    Calls Try.prog 13 #[.slice A B.length c] w (GivesTk w B) := by
  have HR0 := Lib.hid h
  have Hb := Lib.hid hb
  have HE := Lib.hid (fun lo g W hc => redit_any lo g B W hc hb)
  have HX0 : RowKit.Hid (Whole (w.alloc (.cells #[.slice none 0 0] 25)) w.heap.size 25 [.slice none 0 0]) := Lib.hid (Whole.new_ _ _ [_])
  have HG0 : RowKit.Hid (Whole ((w.alloc (.cells #[.slice none 0 0] 25)).alloc (.cells #[.slice A B.length c] 63)) (w.heap.size + 1) 63 [.slice A B.length c]) := Lib.hid (Whole.new2 (by simp))
  have HX1 := Lib.hid (HX0.out.al (.cells #[.slice A B.length c] 63))
  have HB1 : RowKit.Hid (Below w.heap.size w ((w.alloc (.cells #[.slice none 0 0] 25)).alloc (.cells #[.slice A B.length c] 63))) := Lib.hid (below2 w _ _)
  have HC1 : RowKit.Hid (CuAt w.heap.size ((w.alloc (.cells #[.slice none 0 0] 25)).alloc (.cells #[.slice A B.length c] 63)) (w.heap.size + 1) B) := Lib.hid ⟨A, B.length, c, HG0.out, (HR0.out.al _).al _, by omega, fun a ha h0 => h.low a ha h0, by omega⟩
  have Hs := Lib.hid (rdR_suf B).at_
  have hle := h.le
  have Hle := Lib.hid hle
  obtain ⟨n, gn⟩ : ∃ z, B.length = z := ⟨_, rfl⟩
  have Gn := Lib.hid gn
  rw [gn] at HR0 HG0 HX1 HB1 HC1 Hs hn Hle ⊢
  clear h hb gn HX0 hle
  go_enter Try.func13, Try.ntmps13
  go_upto_region 2 with fail
  obtain ⟨w1, gw1⟩ : ∃ z, (w.alloc (.cells #[.slice none 0 0] 25)).alloc (.cells #[.slice A n c] 63) = z := ⟨_, rfl⟩
  obtain ⟨g, gg⟩ : ∃ z, w.heap.size + 1 = z := ⟨_, rfl⟩
  rw [gw1] at HG0 HX1 HB1 HC1 ⊢
  rw [gg] at HG0 HC1 ⊢
  obtain ⟨b2, gb2⟩ : ∃ z, w.heap.size = z := ⟨_, rfl⟩
  rw [gb2] at HX1
  rw [gb2]
  have Gb2 := Lib.hid gb2
  have Hgb : RowKit.Hid (b2 < g) := Lib.hid (by omega)
  clear gw1 gg gb2
  go_upto_region 3 with (first
    | (go_at_call 28
       refine (HE.out _ _ _ HC1.out).mono ?_
       rintro e w2 ⟨A1, k1, rfl, ho, hcu⟩
       have HX2 := Lib.hid ((hcu.2.whole HX1.out (fun e => by have h1 : b2 = g := e; have := Hgb.out; omega)).al (.cells #[.slice A1 (c1 B) k1] 25))
       have HC2 := Lib.hid (hcu.1.al (.cells #[.slice A1 (c1 B) k1] 25))
       have HO2 := Lib.hid (own_up ho (below1 w2 (.cells #[.slice A1 (c1 B) k1] 25)))
       have HB2 : RowKit.Hid (Below w.heap.size w (w2.alloc (.cells #[.slice A1 (c1 B) k1] 25))) := Lib.hid (bel_al (bel_kept HB1.out hcu.2 (by have := Gb2.out; have := Hgb.out; omega)) _)
       have HY2 : RowKit.Hid (Whole (w2.alloc (.cells #[.slice A1 (c1 B) k1] 25)) w2.heap.size 25 [.slice A1 (c1 B) k1]) := Lib.hid (Whole.new_ _ _ [_])
       have Hl1 : RowKit.Hid (w.heap.size ≤ w1.heap.size) := Lib.hid HB1.out.size
       have H26 : RowKit.Hid (b2 ≠ w2.heap.size) := Lib.hid (by have := (hcu.2.whole HX1.out (fun e => by have h1 : b2 = g := e; have := Hgb.out; omega)).lt; omega)
       clear ho hcu HC1 HX1))
  obtain ⟨w3, gw3⟩ : ∃ z, w2.alloc (.cells #[.slice A1 (c1 B) k1] 25) = z := ⟨_, rfl⟩
  obtain ⟨b6, gb6⟩ : ∃ z, w2.heap.size = z := ⟨_, rfl⟩
  rw [gw3] at HX2 HC2 HO2 HB2 HY2 ⊢
  rw [gb6] at HY2 H26 ⊢
  clear gw3 gb6 HG0
  obtain ⟨A9, n9, c9, hg9, hr9, hn9, -, -⟩ := HC2.out
  have hl9 : (rdR B).length = n9 := hr9.rlen f8_len (by decide)
  have e0 := hg9.cell (i := 0) rfl
  have hs1 := Hs.out.1
  have hs2 := Hs.out.2
  rw [hl9] at hs1 hs2
  have hsub : IntKind.i64.wrap ((n : Int) - (n9 : Int)) = ((n - n9 : Nat) : Int) := by rw [IntWalk.i64_in _ (by omega)]; omega
  obtain ⟨en, gen⟩ : ∃ z, n - n9 = z := ⟨_, rfl⟩
  rw [gen] at hsub hs2
  have hne : en ≤ n ∧ n - en = n9 := by omega
  have Hne := Lib.hid hne
  have Hs2 := Lib.hid hs2
  have Hl9 := Lib.hid hl9
  clear hr9 hg9 hn9 hl9 hs1 hs2 gen hne
  go_upto_region 4 with fail
  clear e0 hsub
  have hlV : (rdV B).length = c1 B := edV_len _ _
  have HlV := Lib.hid hlV
  have hrV := own_rds HO2.out
  have d0 := HY2.out.cell (i := 0) rfl
  have HR3 := Lib.hid (HR0.out.up HB2.out HB2.out.size)
  by_cases hm : mayE (rdV B) = 0
  case neg =>
    have hok : okEd B = false := decide_eq_false (fun q => hm q.1)
    have HP := Lib.hid (oput_not none 0 0 A1 (c1 B) k1 (rdV B) w3 hrV (by have := byte_lt Hb.out; omega) hm)
    obtain ⟨x, gx⟩ : ∃ z, mayE (rdV B) = z := ⟨_, rfl⟩
    rw [gx] at HP hm
    have q1 : (x == 0) = false := beq_eq_false_iff_ne.2 hm
    have q2 : (x != 0) = true := bne_iff_ne.2 hm
    have HT : RowKit.Hid (tkV B = [] ∧ tkR B = B ∧ tkE B = 2) := Lib.hid (by unfold tkV tkR tkE; rw [hok]; exact ⟨rfl, rfl, rfl⟩)
    clear gx hm hok hrV
    go_upto_region 6 with (first
      | (go_at_call 10
         refine HP.out.mono ?_
         rintro e w4 ⟨rfl, hb4⟩
         have HX4 := Lib.hid (HX2.out.bl hb4)
         have HB4 := Lib.hid (bel_bl HB2.out hb4)
         have HR4 := Lib.hid (HR3.out.bl hb4)
         clear hb4 d0))
    have HC4 := Lib.hid (fun W (hx : Below w4.heap.size w4 W) => g8_parts (n := n) Gn.out (Gn.out ▸ clone8 A c B W (Gn.out.symm ▸ HR4.out.bl hx) (by have := Gn.out; omega)))
    go_wp2_with (first
      | (go_at_call 19
         refine (HC4.out _ (Below.refl _ _)).mono ?_
         rintro e w6 ⟨A6, c6, rfl, -, -, ho6, hb6⟩
         have HX6 := Lib.hid (HX4.out.bl hb6)
         have HB6 := Lib.hid (bel_bl HB4.out hb6)
         have HO6 := Lib.hid ho6
         have q0 := HX6.out.cell (i := 0) rfl
         have f0 := HX6.out.free 0
         clear hb6 ho6))
    have hb2l : w.heap.size ≤ b2 := Nat.le_of_eq Gb2.out
    have hXz := HX6.out.set_ 0 (.slice none 0 0)
    refine ret_whole3 rfl b2 rfl rfl rfl hXz Try.underlying25 rfl (by kernel_rfl) rfl ?_
    refine ⟨none, 0, A6, c6, n, by rw [HT.out.1, HT.out.2.2]; rfl, by rw [HT.out.2.1, Gn.out], by rw [HT.out.1]; exact World.ownsRow_nil _ _ _ _, ?_, (HB6.out.setCell (p := ⟨b2, 0, none⟩) hb2l _)⟩
    rw [HT.out.2.1]
    exact own_lo8 (own_cell_far HO6.out (own_ne HO6.out HX6.out (by decide)) _) HB4.out.size
  case pos =>
    have hrn : RdS w3 w3.heap.size 1 none ([] : List Nat).length 0 (rowsV f8 []) := rds_nil _ _ _
    have HP := Lib.hid (oput_yes none 0 [] A1 (c1 B) k1 (rdV B) w3 hrn (by simp) hrV hm)
    rw [List.nil_append] at HP
    have hoe := okEd_eq hm
    rw [Gn.out, Hl9.out, show n - n9 = en by have := Hne.out; omega] at hoe
    have hPl := edB_len hm
    obtain ⟨P, gP⟩ : ∃ z, edB (rdV B) = z := ⟨_, rfl⟩
    have hPb : ∀ b ∈ P, b < 256 := by rw [← gP]; exact edB_lt _
    rw [gP] at HP hoe hPl
    have HPb := Lib.hid hPb
    have Hoe := Lib.hid hoe
    have htb : ∀ b ∈ B.take en, b < 256 := fun b hb => Hb.out b (List.mem_of_mem_take hb)
    have hte := txt_eq hPb htb
    rw [← hoe] at hte
    have Hte := Lib.hid hte
    have htl : (B.take en).length = en := by rw [List.length_take, Gn.out]; have := Hne.out; omega
    have Htl := Lib.hid htl
    clear hm hrV hrn gP hPb htb hoe hte htl hPl
    go_upto_region 5 with (first
      | (go_at_call 10
         refine HP.out.mono ?_
         rintro e w4 ⟨A4, c4, rfl, ho4, hb4⟩
         have HX4 := Lib.hid (HX2.out.bl hb4)
         have HY4 := Lib.hid (HY2.out.bl hb4)
         have HO4 := Lib.hid (own_up HO2.out hb4)
         have HB4 := Lib.hid (bel_bl HB2.out hb4)
         have HR4 := Lib.hid (HR3.out.bl hb4)
         have HP4 := Lib.hid (own_rds ho4)
         clear hb4 d0 ho4))
    have hen : en ≤ c := Nat.le_trans Hne.out.1 Hle.out
    have hQ := HR4.out.fewer8 en
    rw [Htl.out] at hQ
    have HEq := Lib.hid (bequal_any A4 A P.length c4 en c P (B.take en) w4 HP4.out hQ)
    rw [Hte.out] at HEq
    clear hQ
    cases hob : okEd B with
    | false =>
      rw [hob] at HEq
      have HT : RowKit.Hid (tkV B = [] ∧ tkR B = B ∧ tkE B = 2) := Lib.hid (by unfold tkV tkR tkE; rw [hob]; exact ⟨rfl, rfl, rfl⟩)
      clear hob Hte Hoe
      go_upto_region 6 with (first
        | (go_at_call 29
           refine HEq.out.mono ?_
           rintro e w5 ⟨rfl, rfl⟩))
      have HC4 := Lib.hid (fun W (hx : Below w4.heap.size w4 W) => g8_parts (n := n) Gn.out (Gn.out ▸ clone8 A c B W (Gn.out.symm ▸ HR4.out.bl hx) (by have := Gn.out; omega)))
      go_wp2_with (first
        | (go_at_call 19
           refine (HC4.out _ (Below.refl _ _)).mono ?_
           rintro e w6 ⟨A6, c6, rfl, -, -, ho6, hb6⟩
           have HX6 := Lib.hid (HX4.out.bl hb6)
           have HB6 := Lib.hid (bel_bl HB4.out hb6)
           have HO6 := Lib.hid ho6
           have q0 := HX6.out.cell (i := 0) rfl
           have f0 := HX6.out.free 0
           clear hb6 ho6))
      have hb2l : w.heap.size ≤ b2 := Nat.le_of_eq Gb2.out
      have hXz := HX6.out.set_ 0 (.slice none 0 0)
      refine ret_whole3 rfl b2 rfl rfl rfl hXz Try.underlying25 rfl (by kernel_rfl) rfl ?_
      refine ⟨none, 0, A6, c6, n, by rw [HT.out.1, HT.out.2.2]; rfl, by rw [HT.out.2.1, Gn.out], by rw [HT.out.1]; exact World.ownsRow_nil _ _ _ _, ?_, (HB6.out.setCell (p := ⟨b2, 0, none⟩) hb2l _)⟩
      rw [HT.out.2.1]
      exact own_lo8 (own_cell_far HO6.out (own_ne HO6.out HX6.out (by decide)) _) HB4.out.size
    | true =>
      rw [hob] at HEq
      have HT : RowKit.Hid (tkV B = rdV B ∧ tkR B = rdR B ∧ tkE B = 0) := Lib.hid (by unfold tkV tkR tkE; rw [hob]; exact ⟨rfl, rfl, rfl⟩)
      clear hob Hte Hoe
      go_upto_region 7 with (first
        | (go_at_call 29
           refine HEq.out.mono ?_
           rintro e w5 ⟨rfl, rfl⟩))
      have hlow := HR4.out.low_ Hne.out.1
      obtain ⟨AL, hAL⟩ : ∃ A1, (if c = en then A else A.map (·.add (en * 1))) = A1 := ⟨_, rfl⟩
      rw [hAL, show (rowsV f8 B).drop (en * 1) = rowsV f8 (B.drop en) from by rw [Nat.mul_one, rowsV_map8, rowsV_map8, List.map_drop], Hs2.out, Hne.out.2] at hlow
      have HLow := Lib.hid hlow
      have HAL := Lib.hid hAL
      have hCl := fun W (hx : Ext w4 W) => g8_parts (n := n9) Hl9.out (Hl9.out ▸ clone8 AL (c - en) (rdR B) W (Hl9.out.symm ▸ hlow.bl hx) (by have := Hl9.out; have := Hne.out; omega))
      have HCl := Lib.hid hCl
      have HD : RowKit.Hid (Ext w4 w4.drew) := Lib.hid (below_drewN w4.heap.size w4 1)
      have ld0 : ∀ w', Kept (fun i => i = b2) w4.drew w' → w'.cell? ⟨b6, 0, none⟩ = some (.slice A1 (c1 B) k1) := fun w' hh => hh.cell (HY4.out.dr.cell (i := 0) rfl) (fun e => H26.out e.symm)
      clear hlow hAL hCl
      refine wp_region_reg (fun i => i = b2) (by kernel_rfl) ?_
      apply wpR_next 0 (some 39)
      · simp only [List.getElem?_toArray, List.getElem?_cons_succ, List.getElem?_cons_zero]; exact rfl
      · rfl
      · kernel_rfl
      · kernel_rfl
      · kernel_rfl
      · exact fun _ _ _ _ h => h
      apply Exists.intro
      apply And.intro
      · apply yr_run; rfl; intro w' hw'; go_simp; (try with_reducible rfl)
      simp only [Act.put, List.setIfInBounds_toArray, List.set_cons_zero, List.set_cons_succ]
      apply wpR_next 1 (some 40)
      · simp only [List.getElem?_toArray, List.getElem?_cons_succ, List.getElem?_cons_zero]; exact rfl
      · rfl
      · kernel_rfl
      · kernel_rfl
      · kernel_rfl
      · exact fun _ _ _ _ h => h
      apply Exists.intro
      apply And.intro
      · apply yr_run; rfl; intro w' hw'; go_simp; (try with_reducible rfl)
      simp only [Act.put, List.setIfInBounds_toArray, List.set_cons_zero, List.set_cons_succ]
      apply wpR_next 2 (some 41)
      · simp only [List.getElem?_toArray, List.getElem?_cons_succ, List.getElem?_cons_zero]; exact rfl
      · rfl
      · kernel_rfl
      · kernel_rfl
      · kernel_rfl
      · exact fun _ _ _ _ h => h
      apply Exists.intro
      apply And.intro
      · apply yr_run; rfl; intro w' hw'; go_simp; (try with_reducible rfl)
      simp only [Act.put, List.setIfInBounds_toArray, List.set_cons_zero, List.set_cons_succ]
      apply wpR_next 3 (some 42)
      · simp only [List.getElem?_toArray, List.getElem?_cons_succ, List.getElem?_cons_zero]; exact rfl
      · rfl
      · kernel_rfl
      · kernel_rfl
      · kernel_rfl
      · exact fun _ _ _ _ h => h
      apply Exists.intro
      apply And.intro
      · apply yr_run; rfl; intro w' hw'; exact exec_slice_low_as 22 5 (.tmp 40) (.tmp 41) rfl Try.underlying22 (s := 1) (by kernel_rfl) rfl rfl Hne.out.1 HAL.out Hne.out.2 rfl
      simp only [Act.put, List.setIfInBounds_toArray, List.set_cons_zero, List.set_cons_succ]
      apply wpR_call 4 (some 43)
      · simp only [List.getElem?_toArray, List.getElem?_cons_succ, List.getElem?_cons_zero]; exact rfl
      · rfl
      · kernel_rfl
      · rfl
      · intro w'; go_simp; first | done | exact ⟨rfl, rfl⟩ | with_reducible rfl
      intro w' hw'
      have hE := Ext.trans HD.out hw'
      refine (HCl.out w' hE).mono ?_
      rintro e w6 ⟨A6, c6, rfl, -, -, ho6, hb6⟩
      refine ⟨_, rfl, Kept.of_below hb6, ?_⟩
      have HX6 := Lib.hid (HX4.out.bl (Ext.trans hE hb6))
      have HB6 : RowKit.Hid (Below w.heap.size w w6) := Lib.hid (bel_bl HB4.out (Ext.trans hE hb6))
      have HO6 := Lib.hid (own_lo8 ho6 (bel_bl HB4.out hE).size)
      have HV6 := Lib.hid (own_up HO4.out (Ext.trans hE hb6))
      clear hw' hE ho6 hb6 ld0
      simp only [Act.put, List.setIfInBounds_toArray, List.set_cons_zero, List.set_cons_succ]
      apply wpR_store 5
      · simp only [List.getElem?_toArray, List.getElem?_cons_succ, List.getElem?_cons_zero]; exact rfl
      · rfl
      · kernel_rfl
      · rfl
      intro w' hw'
      have hx := HX6.out.bl hw'
      have q0 := hx.cell (i := 0) rfl
      have f0 := hx.free 0
      refine ⟨w'.setCell ⟨b2, 0, none⟩ (.slice A1 (c1 B) k1), ?_, Kept.setCell (S := fun i => i = b2) (Kept.refl _ w') (p := ⟨b2, 0, none⟩) (.inl rfl) _, ?_⟩
      · go_simp
      have HX7 := Lib.hid (hx.set_ 0 (.slice A1 (c1 B) k1))
      have HB7 := Lib.hid ((bel_bl HB6.out hw').setCell (p := ⟨b2, 0, none⟩) (Nat.le_of_eq Gb2.out) (.slice A1 (c1 B) k1))
      have HO7 := Lib.hid (own_cell_far (g := b2) (i := 0) (own_up HO6.out hw') (own_ne (own_up HO6.out hw') hx (by decide)) (.slice A1 (c1 B) k1))
      have HV7 := Lib.hid (own_cell_far (g := b2) (i := 0) (own_up HV6.out hw') (own_ne (own_up HV6.out hw') hx (by decide)) (.slice A1 (c1 B) k1))
      obtain ⟨w7, gw7⟩ : ∃ z, w'.setCell ⟨b2, 0, none⟩ (.slice A1 (c1 B) k1) = z := ⟨_, rfl⟩
      rw [gw7] at HX7 HB7 HO7 HV7 ⊢
      clear gw7 hw' hx q0 f0 HX6 HB6 HO6 HV6
      try simp only [Act.put, List.setIfInBounds_toArray, List.set_cons_zero, List.set_cons_succ]
      apply wpR_next 6 (some 3)
      · simp only [List.getElem?_toArray, List.getElem?_cons_succ, List.getElem?_cons_zero]; exact rfl
      · rfl
      · kernel_rfl
      · kernel_rfl
      · kernel_rfl
      · exact fun _ _ _ _ h => h
      apply Exists.intro
      apply And.intro
      · apply yr_run; rfl; intro w' hw'; go_simp; (try with_reducible rfl)
      simp only [Act.put, List.setIfInBounds_toArray, List.set_cons_zero, List.set_cons_succ]
      apply wpR_next 7 (some 4)
      · simp only [List.getElem?_toArray, List.getElem?_cons_succ, List.getElem?_cons_zero]; exact rfl
      · rfl
      · kernel_rfl
      · kernel_rfl
      · kernel_rfl
      · exact fun _ _ _ _ h => h
      apply Exists.intro
      apply And.intro
      · apply yr_run; rfl; intro w' hw'; go_simp; (try with_reducible rfl)
      simp only [Act.put, List.setIfInBounds_toArray, List.set_cons_zero, List.set_cons_succ]
      refine wpR_done (by kernel_rfl) ?_ _
      intro wE hwE
      have HX8 := Lib.hid (HX7.out.bl hwE)
      have HB8 := Lib.hid (bel_bl HB7.out hwE)
      have HO8 := Lib.hid (own_up HO7.out hwE)
      have HV8 := Lib.hid (own_up HV7.out hwE)
      clear hwE HX7 HB7 HO7 HV7
      go_wp2
      refine ret_whole3 rfl b2 rfl rfl rfl HX8.out Try.underlying25 rfl (by kernel_rfl) rfl ?_
      refine ⟨A1, k1, A6, c6, n9, by rw [HT.out.1, HT.out.2.2, HlV.out]; rfl, by rw [HT.out.2.1, Hl9.out], by rw [HT.out.1, HlV.out]; exact own_lo8 HV8.out (by have := Hl1.out; omega), by rw [HT.out.2.1]; exact HO8.out, HB8.out⟩
end Go.Proofs.Ytoiflngpjdghbaa

/- Out of XDg13 -/
namespace Go.Proofs.Ytoiflngpjdghbaa
open Go.RowKit
set_option linter.unusedSimpArgs false
set_option linter.unusedVariables false

theorem ret_whole2 {P : Program} {fn : Func} {R : Ending → World → Prop} {a : Act} {w : World} {p u : Tmp} {t : TypeId} (h : fn.results = #[.cell p t, .tmp u]) (g : Nat) {t' : TypeId} {cs : List Value} {d : TypeDesc} {v : Value}
    (hp : a.tmps.getD p undef = .pointer (some ⟨g, 0, none⟩)) (hv : a.tmps.getD u undef = v) (hW : Whole w g t' cs) (hu : P.underlying t = some d) (hd : d.isRow = true) (hi : (P.info? t).map (·.size) = some cs.length)
    (hdf : a.defers = []) (hR : R (.returned (.tuple #[.agg cs.toArray, v])) w) : bodyPost P fn R .ret a w := by
  refine bodyPost_ret (v := .tuple #[.agg cs.toArray, v]) ?_ hdf hR
  have hl := run_loadVar_mid (P := P) w g 0 t cs d (fun j v hv => by
    have := hW.cell hv
    simpa using this) hu hd hi
  rw [results_cell_tmp h, hp, hv]
  simp [asAddr, Result.andThen, hl]
end Go.Proofs.Ytoiflngpjdghbaa

/- opcode.Put in one; Whole; the document's example. -/
namespace Go.Proofs.Ytoiflngpjdghbaa
open Go.RowKit
set_option linter.unusedSimpArgs false
set_option linter.unusedVariables false

/-- What Put tells. -/
def pE (B : List Nat) (L : List OpT) : List Nat := if mayE L = 0 then B ++ edB L else []
theorem oput_any (A0 : Option Addr) (c0 : Nat) (B : List Nat) (A : Option Addr) (n c : Nat) (L : List OpT) (w : World) (h0 : RdS w w.heap.size 1 A0 B.length c0 (rowsV f8 B)) (hB : B.length ≤ 90000) (h : RdS w w.heap.size 20 A n c (rowsV opCells L)) (hn : n ≤ 1000000) :
    Calls Try.prog 10 #[.slice A0 B.length c0, .agg #[.slice A n c]] w fun e w' => ∃ A' c', e = .returned (.tuple #[.slice A' (pE B L).length c', .int .i64 (mayE L)]) ∧ w'.ownsRow w.heap.size 5 1 (.slice A' (pE B L).length c') (pE B L).length (rowsV f8 (pE B L)) ∧ Below w.heap.size w w' := by
  unfold pE
  by_cases hm : mayE L = 0
  · rw [if_pos hm, hm]
    exact oput_yes A0 c0 B A n c L w h0 hB h hm
  · rw [if_neg hm]
    refine (oput_not A0 B.length c0 A n c L w h hn hm).mono ?_
    rintro e w' ⟨rfl, hb⟩
    exact ⟨none, 0, rfl, World.ownsRow_nil _ _ _ _, hb⟩
/-- Whether bytes are an edit that may be, and no more. -/
def okW (B : List Nat) : Bool := okEd B && decide (rdR B = [])
def whV (B : List Nat) : List OpT := if okW B = true then rdV B else []
def whE (B : List Nat) : Int := if okW B = true then 0 else 2
theorem okW_is {B : List Nat} : okW B = true ↔ ∃ L, mayE L = 0 ∧ B = edB L := by
  constructor
  · intro h
    have h9 := Bool.and_eq_true_iff.1 h
    have h1 := okEd_is h9.1
    rw [of_decide_eq_true h9.2] at h1
    exact ⟨rdV B, h1.1, by have h2 := h1.2; rw [List.append_nil] at h2; exact h2⟩
  · rintro ⟨L, h1, h2⟩
    have h3 : isE B L [] := ⟨h1, by rw [List.append_nil]; exact h2⟩
    obtain ⟨q1, q2, q3⟩ := is_okEd h3
    exact Bool.and_eq_true_iff.2 ⟨q1, decide_eq_true q3⟩
set_option maxRecDepth 100000 in
set_option maxHeartbeats 8000000 in
theorem owhole_any (A : Option Addr) (c : Nat) (B : List Nat) (w : World) (h : RdS w w.heap.size 1 A B.length c (rowsV f8 B)) (hn : B.length ≤ 90000) (hb : ∀ b ∈ B, b < 256) :
    Calls Try.prog 15 #[.slice A B.length c] w fun e w' => ∃ A1 k1, e = .returned (.tuple #[.agg #[.slice A1 (whV B).length k1], .int .i64 (whE B)]) ∧ w'.ownsRow w.heap.size 48 20 (.slice A1 (whV B).length k1) (whV B).length (rowsV opCells (whV B)) ∧ Below w.heap.size w w' := by
  have HT := Lib.hid (otake_any A c B (w.alloc (.cells #[.slice none 0 0] 25)) (h.al _) hn hb)
  have HX0 : RowKit.Hid (Whole (w.alloc (.cells #[.slice none 0 0] 25)) w.heap.size 25 [.slice none 0 0]) := Lib.hid (Whole.new_ _ _ [_])
  have HB0 : RowKit.Hid (Below w.heap.size w (w.alloc (.cells #[.slice none 0 0] 25))) := Lib.hid (below1 _ _)
  have HV : RowKit.Hid (tkV B = (if okEd B = true then rdV B else []) ∧ tkE B = (if okEd B = true then 0 else 2) ∧ tkR B = (if okEd B = true then rdR B else B)) := Lib.hid ⟨rfl, rfl, rfl⟩
  obtain ⟨n, gn⟩ : ∃ z, B.length = z := ⟨_, rfl⟩
  rw [gn] at HT ⊢
  have Gn := Lib.hid gn
  clear h hb hn gn
  go_enter Try.func15, Try.ntmps15
  go_upto_region 1 with fail
  obtain ⟨w0, gw0⟩ : ∃ z, w.alloc (.cells #[.slice none 0 0] 25) = z := ⟨_, rfl⟩
  obtain ⟨b2, gb2⟩ : ∃ z, w.heap.size = z := ⟨_, rfl⟩
  rw [gw0] at HT HX0 HB0 ⊢
  rw [gb2] at HX0 ⊢
  have Gb2 := Lib.hid gb2
  clear gw0 gb2
  obtain ⟨L, gL⟩ : ∃ z, tkV B = z := ⟨_, rfl⟩
  obtain ⟨x, gx⟩ : ∃ z, tkE B = z := ⟨_, rfl⟩
  obtain ⟨R, gR⟩ : ∃ z, tkR B = z := ⟨_, rfl⟩
  have HT1 : RowKit.Hid (Calls Try.prog 13 #[.slice A n c] w0 fun e w' => ∃ A1 k1 A2 k2 m, e = .returned (.tuple #[.agg #[.slice A1 L.length k1], .slice A2 m k2, .int .i64 x]) ∧ m = R.length ∧ w'.ownsRow w0.heap.size 48 20 (.slice A1 L.length k1) L.length (rowsV opCells L) ∧ Below w0.heap.size w0 w') := Lib.hid (by
    refine HT.out.mono ?_
    rintro e w' ⟨A1, k1, A2, k2, m, rfl, h2, h3, -, h5⟩
    rw [gL] at h3
    exact ⟨A1, k1, A2, k2, m, by rw [gL, gx], by rw [← gR]; exact h2, h3, h5⟩)
  rw [gL, gx, gR] at HV
  obtain ⟨l, gl⟩ : ∃ z, L.length = z := ⟨_, rfl⟩
  rw [gl] at HT1
  have Gl := Lib.hid gl
  clear HT gL gx gR gl
  go_upto_region 2 with (first
    | (go_at_call 13
       refine HT1.out.mono ?_
       rintro e w2 ⟨A1, k1, A2, k2, m, rfl, hm, ho, hb2⟩
       have Hm := Lib.hid hm
       have HX2 := Lib.hid ((HX0.out.bl hb2).al (.cells #[.slice A1 l k1] 25))
       have HO2 := Lib.hid (own_up ho (below1 w2 (.cells #[.slice A1 l k1] 25)))
       have HB2 := Lib.hid (bel_al (bel_bl HB0.out hb2) (.cells #[.slice A1 l k1] 25))
       have HY2 : RowKit.Hid (Whole (w2.alloc (.cells #[.slice A1 l k1] 25)) w2.heap.size 25 [.slice A1 l k1]) := Lib.hid (Whole.new_ _ _ [_])
       have Hsz := Lib.hid HB0.out.size
       clear ho hb2 hm))
  obtain ⟨w3, gw3⟩ : ∃ z, w2.alloc (.cells #[.slice A1 l k1] 25) = z := ⟨_, rfl⟩
  obtain ⟨b4, gb4⟩ : ∃ z, w2.heap.size = z := ⟨_, rfl⟩
  rw [gw3] at HX2 HO2 HB2 HY2 ⊢
  rw [gb4] at HY2 ⊢
  clear gw3 gb4 HX0 HB0
  have d0 := HY2.out.cell (i := 0) rfl
  have q0 := HX2.out.cell (i := 0) rfl
  have f0 := HX2.out.free 0
  have hb2l : w.heap.size ≤ b2 := Nat.le_of_eq Gb2.out
  have hno : okW B = false → ∃ A1 k1, Ending.returned (.tuple #[.agg #[.slice none 0 0], .int .i64 2]) = .returned (.tuple #[.agg #[.slice A1 (whV B).length k1], .int .i64 (whE B)]) ∧ (w3.setCell ⟨b2, 0, none⟩ (.slice none 0 0)).ownsRow w.heap.size 48 20 (.slice A1 (whV B).length k1) (whV B).length (rowsV opCells (whV B)) ∧ Below w.heap.size w (w3.setCell ⟨b2, 0, none⟩ (.slice none 0 0)) := fun hq => by
    have e1 : whV B = [] := by unfold whV; rw [hq]; rfl
    have e2 : whE B = 2 := by unfold whE; rw [hq]; rfl
    rw [e1, e2]
    exact ⟨none, 0, rfl, World.ownsRow_nil _ _ _ _, HB2.out.setCell (p := ⟨b2, 0, none⟩) hb2l _⟩
  have Hno := Lib.hid hno
  clear hno
  cases ho : okEd B with
  | false =>
    have hv := HV.out
    rw [ho] at hv
    obtain ⟨hL, hx, -⟩ := hv
    simp only [Bool.false_eq_true, if_false] at hL hx
    subst hx
    have hW : okW B = false := by unfold okW; rw [ho]; rfl
    have HP := Lib.hid (Hno.out hW)
    have HXz := Lib.hid (HX2.out.set_ 0 (.slice none 0 0))
    clear hW hL ho
    go_wp2
    exact ret_whole2 rfl b2 rfl rfl HXz.out Try.underlying25 rfl (by kernel_rfl) rfl HP.out
  | true =>
    have hv := HV.out
    rw [ho] at hv
    obtain ⟨hL, hx, hR⟩ := hv
    simp only [if_true] at hL hx hR
    subst hx
    by_cases hr : R = []
    · have hm0 : m = 0 := by rw [Hm.out, hr]; rfl
      have hW : okW B = true := by unfold okW; rw [ho, ← hR, hr]; rfl
      have e1 : whV B = L := by unfold whV; rw [hW, hL]; rfl
      have e2 : whE B = 0 := by unfold whE; rw [hW]; rfl
      have HP : RowKit.Hid (∃ A' k', Ending.returned (.tuple #[.agg #[.slice A1 l k1], .int .i64 0]) = .returned (.tuple #[.agg #[.slice A' (whV B).length k'], .int .i64 (whE B)]) ∧ (w3.setCell ⟨b2, 0, none⟩ (.slice A1 l k1)).ownsRow w.heap.size 48 20 (.slice A' (whV B).length k') (whV B).length (rowsV opCells (whV B)) ∧ Below w.heap.size w (w3.setCell ⟨b2, 0, none⟩ (.slice A1 l k1))) := Lib.hid (by
        rw [e1, e2, Gl.out]
        exact ⟨A1, k1, rfl, own_lo8 (own_cell_far HO2.out (own_ne HO2.out HX2.out (by decide)) _) Hsz.out, HB2.out.setCell (p := ⟨b2, 0, none⟩) hb2l _⟩)
      have HXz := Lib.hid (HX2.out.set_ 0 (.slice A1 l k1))
      subst hm0
      clear hW hL ho hR hr e1 e2
      go_wp2
      exact ret_whole2 rfl b2 rfl rfl HXz.out Try.underlying25 rfl (by kernel_rfl) rfl HP.out
    · have hm0 : 0 < m := by
        rw [Hm.out]
        exact List.length_pos_iff.2 hr
      have hm1 : (0 : Int) < (m : Int) := by omega
      have hW : okW B = false := by unfold okW; rw [ho, ← hR, decide_eq_false hr]; rfl
      have HP := Lib.hid (Hno.out hW)
      have HXz := Lib.hid (HX2.out.set_ 0 (.slice none 0 0))
      clear hW hL ho hR hr
      go_wp2
      exact ret_whole2 rfl b2 rfl rfl HXz.out Try.underlying25 rfl (by kernel_rfl) rfl HP.out
def shO : OpT := ⟨1, 2, 258, 0, 0, 0, 0, 0, 0, 0, 0, 0, 0, 0, 0, 0, 0, false, ⟨#[]⟩, 0⟩
set_option maxRecDepth 100000 in
set_option maxHeartbeats 8000000 in
theorem shown10_any (w : World) : Calls Try.prog 9 #[] w fun e w' => e = .returned (.bool true) ∧ Below w.heap.size w w' := by
  have hm : mayE [shO] = 0 := by decide
  have hE : edB [shO] = [1, 1, 2, 0, 1, 2] := by decide
  have HP := Lib.hid (fun W h => oput_yes none 0 [] (some ⟨w.heap.size, 0, none⟩) 1 1 [shO] W (rds_nil _ _ _) (by simp) h hm)
  rw [List.nil_append, hE] at HP
  have htx : ∀ (W : World) A c, RdS W W.heap.size 1 A 6 c (rowsV f8 [1, 1, 2, 0, 1, 2]) → (convert 22 9 (.slice A 6 c)).run Try.prog W = .ok (.string (txt [1, 1, 2, 0, 1, 2])) W := fun W A c h => conv_txt h
  have Htx := Lib.hid htx
  have htv : txt [1, 1, 2, 0, 1, 2] = { data := #[1, 1, 2, 0, 1, 2] } := by decide
  have Htv := Lib.hid htv
  clear hm hE htx htv
  go_enter Try.func9, Try.ntmps9
  go_upto_region 1 with fail
  refine wp_region_lit ?_
  refine wl_read (v := .agg #[.int .i64 2, .int .i64 258]) (some 4) rfl (by rfl) ?_ ?_
  · go_simp; first | done | rfl
  simp only [Act.put, List.setIfInBounds_toArray, List.set_cons_zero, List.set_cons_succ]
  refine wl_read (v := .agg (opCells shO).toArray) (some 5) rfl (by rfl) ?_ ?_
  · go_simp; first | done | rfl
  simp only [Act.put, List.setIfInBounds_toArray, List.set_cons_zero, List.set_cons_succ]
  refine wl_buildSlice (some 6) rfl (by rfl) 23 48 1 #[(0, .tmp 5)] rfl Try.underlying23 (opCells shO).toArray (by kernel_rfl) ?_
  simp only [Act.put, List.setIfInBounds_toArray, List.set_cons_zero, List.set_cons_succ]
  have HR1 : RowKit.Hid (RdS (w.alloc (.cells (opCells shO).toArray 48)) (w.alloc (.cells (opCells shO).toArray 48)).heap.size 20 (some ⟨w.heap.size, 0, none⟩) 1 1 (rowsV opCells [shO])) := Lib.hid (by rw [rowsOp1]; exact RdS.of_whole8 (Whole.new_ _ _ _) rfl)
  have HB1 : RowKit.Hid (Below w.heap.size w (w.alloc (.cells (opCells shO).toArray 48))) := Lib.hid (below1 _ _)
  obtain ⟨w1, gw1⟩ : ∃ z, w.alloc (.cells (opCells shO).toArray 48) = z := ⟨_, rfl⟩
  rw [gw1] at HR1 HB1 ⊢
  obtain ⟨g0, gg0⟩ : ∃ z, w.heap.size = z := ⟨_, rfl⟩
  rw [gg0] at HR1 HP ⊢
  clear gw1 gg0
  go_upto_region 2 with (first
    | (go_at_call 10
       refine (HP.out _ HR1.out).mono ?_
       rintro e w2 ⟨A2, c2, rfl, ho, hb⟩
       have HB2 := Lib.hid (bel_bl HB1.out hb)
       have hcv := Htx.out w2 A2 c2 (own_rds ho)
       rw [Htv.out] at hcv
       clear ho hb))
  go_wp2
  go_ret
  exact ⟨rfl, HB2.out⟩

end Go.Proofs.Ytoiflngpjdghbaa

/- The law's few: edits of at most 10 operations, texts cut. -/
namespace Go.Proofs.Ytoiflngpjdghbaa
open Go.RowKit
set_option linter.unusedSimpArgs false
set_option linter.unusedVariables false

def cutO (o : OpT) : OpT := if 100 < o.t.size then { o with t := o.t.extract 0 100 } else o
def fewE (L : List OpT) : List OpT := (L.take 10).map cutO
theorem cutO_size (o : OpT) : (cutO o).t.size ≤ 100 := by
  unfold cutO
  split
  · show (o.t.extract 0 100).size ≤ 100
    rw [ByteArray.size_extract]
    omega
  · omega
theorem fewE_len (L : List OpT) : (fewE L).length ≤ 10 := by unfold fewE; rw [List.length_map, List.length_take]; omega
theorem fewE_max (L : List OpT) : ∀ o ∈ fewE L, o.t.size ≤ maxLen := fun o ho => by
  obtain ⟨x, -, rfl⟩ := List.mem_map.1 ho
  have := cutO_size x
  unfold maxLen
  omega
set_option maxRecDepth 100000 in
set_option maxHeartbeats 8000000 in
theorem few10_any (A0 : Option Addr) (n c0 : Nat) (L : List OpT) (w : World) (h : RdS w w.heap.size 20 A0 n c0 (rowsV opCells L)) (hn : n ≤ maxLen) :
    Calls Try.prog 11 #[.agg #[.slice A0 n c0]] w fun e w' => ∃ A c, e = .returned (.agg #[.slice A (fewE L).length c]) ∧ w'.ownsRow w.heap.size 48 20 (.slice A (fewE L).length c) (fewE L).length (rowsV opCells (fewE L)) ∧ Below w.heap.size w w' := by
  obtain ⟨i0, hi, hz0, hz1, hz2⟩ := info_parts_ info_op
  have HR := Lib.hid h
  have Hl : RowKit.Hid (L.length = n) := Lib.hid (h.rlen opCells_len' (by decide))
  have HX1 : RowKit.Hid (Whole (((w.alloc (.cells #[.slice A0 n c0] 25)).alloc (.cells #[.slice none 0 0] 25)).alloc (.cells #[.slice none 0 0] 25)) w.heap.size 25 [.slice A0 n c0]) := Lib.hid (((Whole.new_ w 25 [_]).al _).al _)
  have HX2 : RowKit.Hid (Whole (((w.alloc (.cells #[.slice A0 n c0] 25)).alloc (.cells #[.slice none 0 0] 25)).alloc (.cells #[.slice none 0 0] 25)) (w.heap.size + 1) 25 [.slice none 0 0]) := Lib.hid ((Whole.new2 (by simp)).al _)
  have HX3 : RowKit.Hid (Whole (((w.alloc (.cells #[.slice A0 n c0] 25)).alloc (.cells #[.slice none 0 0] 25)).alloc (.cells #[.slice none 0 0] 25)) (w.heap.size + 1 + 1) 25 [.slice none 0 0]) := Lib.hid (Whole.new2 (by simp))
  have HB : RowKit.Hid (Below w.heap.size w (((w.alloc (.cells #[.slice A0 n c0] 25)).alloc (.cells #[.slice none 0 0] 25)).alloc (.cells #[.slice none 0 0] 25))) := Lib.hid (bel_al (below2 w _ _) _)
  clear h
  go_enter Try.func11, Try.ntmps11
  go_upto_region 2 with fail
  obtain ⟨w0, gw0⟩ : ∃ z, ((w.alloc (.cells #[.slice A0 n c0] 25)).alloc (.cells #[.slice none 0 0] 25)).alloc (.cells #[.slice none 0 0] 25) = z := ⟨_, rfl⟩
  rw [gw0] at HX1 HX2 HX3 HB ⊢
  obtain ⟨b3, gb3⟩ : ∃ z, w.heap.size + 1 + 1 = z := ⟨_, rfl⟩
  rw [gb3] at HX3 ⊢
  obtain ⟨b2, gb2⟩ : ∃ z, w.heap.size + 1 = z := ⟨_, rfl⟩
  rw [gb2] at HX2 ⊢
  obtain ⟨b1, gb1⟩ : ∃ z, w.heap.size = z := ⟨_, rfl⟩
  rw [gb1] at HX1 ⊢
  have Hb : RowKit.Hid (b1 ≠ b3 ∧ b2 ≠ b3 ∧ w.heap.size ≤ b1 ∧ w.heap.size ≤ b2 ∧ w.heap.size ≤ b3) := Lib.hid (by omega)
  have HO0 : RowKit.Hid (Ow w w.heap.size 48 20 (.slice none 0 0) 0 (rowsV opCells (fewE L |>.take 0)) w0) := Lib.hid ⟨World.ownsRow_nil _ _ _ _, HB.out, Nat.le_refl _, HB.out.size⟩
  clear gw0 gb1 gb2 gb3 HB
  go_upto_region 3 with fail
  go_loopw [4] (fun i wr => ∃ (k : Nat) (A : Option Addr) (c : Nat), k ≤ 10 ∧ k ≤ n ∧ i = .int .i64 (k : Int) ∧ RowKit.Hid (Ow w w.heap.size 48 20 (.slice A k c) k (rowsV opCells ((fewE L).take k)) wr ∧ Whole wr b1 25 [.slice A0 n c0] ∧ Whole wr b2 25 [.slice none 0 0] ∧ Whole wr b3 25 [.slice A k c])) (fun i _ => 10 - (intOf i).toNat)
  case atStart => exact ⟨0, none, 0, Nat.zero_le _, Nat.zero_le _, rfl, Lib.hid ⟨HO0.out, HX1.out, HX2.out, HX3.out⟩⟩
  case round =>
    clear HO0 HX1 HX2 HX3
    obtain ⟨k, A, c, hk10, hkn, rfl, hin⟩ := hrel
    have HO := Lib.hid hin.out.1
    have HX1 := Lib.hid hin.out.2.1
    have HX2 := Lib.hid hin.out.2.2.1
    have HX3 := Lib.hid hin.out.2.2.2
    have e1 := HX1.out.cell (i := 0) rfl
    clear hin
    by_cases hlt : k < n ∧ k < 10
    · obtain ⟨hl1, hl2⟩ := hlt
      have hi1 : (k : Int) < (n : Int) := by omega
      have hi2 : (k : Int) < 10 := by omega
      have hk0 : L[k]? = some (L[k]'(by have := Hl.out; omega)) := List.getElem?_eq_getElem _
      obtain ⟨o, go⟩ : ∃ o, L[k]'(by have := Hl.out; omega) = o := ⟨_, rfl⟩
      rw [go] at hk0
      have HNx : RowKit.Hid ((fewE L).take (k + 1) = (fewE L).take k ++ [cutO o]) := Lib.hid (take_snoc_ _ _ _ (by unfold fewE; rw [List.getElem?_map, List.getElem?_take, if_pos hl2, hk0]; rfl))
      have HRd2 := Lib.hid (HR.out.up HO.out.below HO.out.below.size)
      obtain ⟨b, off, rfl, hbB, hpl⟩ := HRd2.out.place opCells_len' (by decide) (by omega)
      have HP := Lib.hid (hpl k o hk0)
      clear go hk0 hpl hbB
      go_upto_region 5 with fail
      refine wp_region_lit ?_
      refine wl_read (v := ?_) (some 18) rfl (by rfl) ?_ ?_
      rotate_left
      · go_simp; (try with_reducible rfl)
      simp only [Act.put, List.setIfInBounds_toArray, List.set_cons_zero, List.set_cons_succ]
      refine wl_read (v := ?_) (some 19) rfl (by rfl) ?_ ?_
      rotate_left
      · go_simp; (try with_reducible rfl)
      simp only [Act.put, List.setIfInBounds_toArray, List.set_cons_zero, List.set_cons_succ]
      refine wl_read (v := ?_) (some 20) rfl (by rfl) ?_ ?_
      rotate_left
      · go_simp; (try with_reducible rfl)
      simp only [Act.put, List.setIfInBounds_toArray, List.set_cons_zero, List.set_cons_succ]
      refine wl_read (v := ?_) (some 21) rfl (by rfl) ?_ ?_
      rotate_left
      · go_simp; (try with_reducible rfl)
      simp only [Act.put, List.setIfInBounds_toArray, List.set_cons_zero, List.set_cons_succ]
      refine wl_load_at (some 22) rfl (by rfl) 48 (.tmp 21) rfl ⟨b, off + k * 20, none⟩ rfl (opCells o) _ HP.out Try.underlying48 rfl (by kernel_rfl) ?_
      simp only [Act.put, List.setIfInBounds_toArray, List.set_cons_zero, List.set_cons_succ]
      refine wl_new 5 rfl rfl rfl 48 (.tmp 22) rfl rfl #[.int .i64 0, .int .i64 0, .int .i64 0, .int .i64 0, .int .i64 0, .int .i64 0, .int .i64 0, .int .i64 0, .int .i64 0, .int .i64 0, .int .i64 0, .int .i64 0, .int .i64 0, .int .i64 0, .int .i64 0, .int .i64 0, .int .i64 0, .bool false, .string ⟨#[]⟩, .int .i64 0] ?_ (opCells o).toArray (by simp) rfl (by kernel_rfl) rfl (opCells_arr _) ?_
      · go_simp; (try with_reducible rfl)
      simp only [Act.put, List.setIfInBounds_toArray, List.set_cons_zero, List.set_cons_succ]
      have HO2 := Lib.hid (HO.out.up (below1 wr (.cells (opCells o).toArray 48)))
      have HY2 : RowKit.Hid (Whole (wr.alloc (.cells (opCells o).toArray 48)) wr.heap.size 48 (opCells o)) := Lib.hid (Whole.new_ _ _ _)
      have HX12 := Lib.hid (HX1.out.al (.cells (opCells o).toArray 48))
      have HX22 := Lib.hid (HX2.out.al (.cells (opCells o).toArray 48))
      have HX32 := Lib.hid (HX3.out.al (.cells (opCells o).toArray 48))
      have Hg5 : RowKit.Hid (b1 ≠ wr.heap.size ∧ b2 ≠ wr.heap.size ∧ b3 ≠ wr.heap.size ∧ w.heap.size ≤ wr.heap.size) := Lib.hid (by have := HX1.out.lt; have := HX2.out.lt; have := HX3.out.lt; have := HO.out.below.size; omega)
      have HNe : RowKit.Hid (some wr.heap.size ≠ _) := Lib.hid (Ow.ne_ HO.out (Nat.le_refl _))
      obtain ⟨W2, gW2⟩ : ∃ x, wr.alloc (.cells (opCells o).toArray 48) = x := ⟨_, rfl⟩
      obtain ⟨g5, gg5⟩ : ∃ x, wr.heap.size = x := ⟨_, rfl⟩
      rw [gW2] at HO2 HY2 HX12 HX22 HX32 ⊢
      rw [gg5] at HY2 Hg5 HNe ⊢
      clear gW2 gg5 HO HX1 HX2 HX3 HRd2 HP e1
      have y18 : W2.cell? ⟨g5, 18, none⟩ = some (.string o.t) := HY2.out.cell (i := 18) rfl
      have z18 := HY2.out.free 18
      by_cases ht : 100 < o.t.size
      · have HC9 : RowKit.Hid (cutO o = { o with t := o.t.extract 0 100 }) := Lib.hid (by unfold cutO; rw [if_pos ht])
        have ht1 : (100 : Int) < (o.t.size : Int) := by omega
        have ht2 : 100 ≤ o.t.size := by omega
        go_upto_region 8 with fail
        have hY3 := HY2.out.set_ 18 (.string (o.t.extract 0 100))
        obtain ⟨o', go'⟩ : ∃ z, cutO o = z := ⟨_, rfl⟩
        have hcc : (opCells o).set 18 (.string (o.t.extract 0 100)) = opCells o' := by rw [← go', HC9.out]; rfl
        rw [hcc] at hY3
        have HY3 := Lib.hid hY3
        rw [go'] at HNx
        have HX13 := Lib.hid (HX12.out.far (p := ⟨g5, 18, none⟩) Hg5.out.1 (.string (o.t.extract 0 100)))
        have HX23 := Lib.hid (HX22.out.far (p := ⟨g5, 18, none⟩) Hg5.out.2.1 (.string (o.t.extract 0 100)))
        have HX33 := Lib.hid (HX32.out.far (p := ⟨g5, 18, none⟩) Hg5.out.2.2.1 (.string (o.t.extract 0 100)))
        have HO3 : RowKit.Hid (Ow w w.heap.size 48 20 (.slice A k c) k (rowsV opCells ((fewE L).take k)) (W2.setCell ⟨g5, 18, none⟩ (.string (o.t.extract 0 100)))) := Lib.hid ⟨own_cell_far HO2.out.own HNe.out _, HO2.out.below.setCell (p := ⟨g5, 18, none⟩) Hg5.out.2.2.2 _, HO2.out.lo, by simpa [World.setCell] using HO2.out.hi⟩
        obtain ⟨W3, gW3⟩ : ∃ z, W2.setCell ⟨g5, 18, none⟩ (.string (o.t.extract 0 100)) = z := ⟨_, rfl⟩
        rw [gW3] at HY3 HX13 HX23 HX33 HO3 ⊢
        clear gW3 hY3 hcc go' y18 z18 ht1 ht2 ht HC9 HO2 HX12 HX22 HX32 HY2
        have HOw := Lib.hid (HO3.out)
        have e3 := HX33.out.cell (i := 0) rfl
        refine wp_region_lit ?_
        refine wl_read (v := ?_) (some 31) rfl (by rfl) ?_ ?_
        rotate_left
        · go_simp; (try with_reducible rfl)
        simp only [Act.put, List.setIfInBounds_toArray, List.set_cons_zero, List.set_cons_succ]
        refine wl_read (v := ?_) (some 32) rfl (by rfl) ?_ ?_
        rotate_left
        · go_simp; (try with_reducible rfl)
        simp only [Act.put, List.setIfInBounds_toArray, List.set_cons_zero, List.set_cons_succ]
        refine wl_load (some 33) rfl (by rfl) 48 (.tmp 5) rfl g5 rfl 48 (opCells o') _ HY3.out Try.underlying48 rfl (by kernel_rfl) ?_
        simp only [Act.put, List.setIfInBounds_toArray, List.set_cons_zero, List.set_cons_succ]
        refine wl_buildSlice (some 34) rfl (by rfl) 23 48 1 #[(0, .tmp 33)] rfl Try.underlying23 (opCells o').toArray (by kernel_rfl) ?_
        simp only [Act.put, List.setIfInBounds_toArray, List.set_cons_zero, List.set_cons_succ]
        have HL4 : RowKit.Hid (RdS (W3.alloc (.cells (opCells o').toArray 48)) (W3.alloc (.cells (opCells o').toArray 48)).heap.size 20 (some ⟨W3.heap.size, 0, none⟩) 1 1 (rowsV opCells [o'])) := Lib.hid (by rw [rowsOp1]; exact RdS.of_whole8 (Whole.new_ _ _ _) rfl)
        have HO4 := Lib.hid (HO3.out.up (below1 W3 (.cells (opCells o').toArray 48)))
        have HX14 := Lib.hid (HX13.out.al (.cells (opCells o').toArray 48))
        have HX24 := Lib.hid (HX23.out.al (.cells (opCells o').toArray 48))
        have HX34 := Lib.hid (HX33.out.al (.cells (opCells o').toArray 48))
        obtain ⟨W4, gW4⟩ : ∃ z, W3.alloc (.cells (opCells o').toArray 48) = z := ⟨_, rfl⟩
        obtain ⟨g8, gg8⟩ : ∃ z, W3.heap.size = z := ⟨_, rfl⟩
        rw [gW4] at HL4 HO4 HX14 HX24 HX34 ⊢
        rw [gg8] at HL4 ⊢
        clear gW4 gg8 e3 HOw HO3 HX13 HX23 HX33 HY3
        go_wp2_with (first
          | (at_builtin
             refine wpList_push2 rfl (.tmp 32) (.tmp 34) _ rfl _ 48 i0 _ 20 168 Try.underlying23 hi hz0 hz1 hz2 rfl (by decide) _ _ _ rfl HO4.out _ _ _ _ _ rfl HL4.out (rowsV_one opCells opCells_one [o']) (by unfold maxLen; omega) (by omega) ?_
             intro v5 W5 how5 hb5 hgr5
             obtain ⟨A5, c5, rfl, -⟩ := how5.rds
             have HO5 := Lib.hid how5
             have HX15 := Lib.hid (HX14.out.grown hgr5 (own_ne HO4.out.own HX14.out (by decide)))
             have HX25 := Lib.hid (HX24.out.grown hgr5 (own_ne HO4.out.own HX24.out (by decide)))
             have HX35 := Lib.hid (HX34.out.grown hgr5 (own_ne HO4.out.own HX34.out (by decide)))
             have m0 := HX35.out.cell (i := 0) rfl
             have k0 := HX35.out.free 0
             clear how5 hb5 hgr5))
        go_roundw
        case rel =>
          refine ⟨k + 1, A5, c5, by omega, by omega, by go_num, Lib.hid ⟨?_, HX15.out.far (p := ⟨b3, 0, none⟩) Hb.out.1 _, HX25.out.far (p := ⟨b3, 0, none⟩) Hb.out.2.1 _, HX35.out.set_ 0 _⟩⟩
          rw [HNx.out, rowsV_app]
          exact ⟨own_cell_far HO5.out.own (own_ne HO5.out.own HX35.out (by decide)) _, HO5.out.below.setCell (p := ⟨b3, 0, none⟩) Hb.out.2.2.2.2 _, HO5.out.lo, by simpa [World.setCell] using HO5.out.hi⟩
        case measure => simp [intOf]; omega
      · have ht1 : decide ((100 : Int) < (o.t.size : Int)) = false := decide_eq_false (by omega)
        obtain ⟨o', go'⟩ : ∃ z, cutO o = z := ⟨_, rfl⟩
        have hcc : o = o' := by rw [← go']; unfold cutO; rw [if_neg ht]
        rw [go'] at HNx
        clear ht go'
        have Hcc := Lib.hid hcc
        clear hcc
        go_upto_region 8 with fail
        have hcc := Hcc.out
        subst hcc
        obtain ⟨o', go''⟩ : ∃ z, o = z := ⟨_, rfl⟩
        subst go''
        obtain ⟨W3, gW3⟩ : ∃ z, W2 = z := ⟨_, rfl⟩
        rw [gW3] at HY2 HX12 HX22 HX32 HO2 ⊢
        have HY3 := HY2
        have HX13 := HX12
        have HX23 := HX22
        have HX33 := HX32
        have HO3 := HO2
        clear gW3 y18 z18 ht1 HO2 HX12 HX22 HX32 HY2
        have HOw := Lib.hid (HO3.out)
        have e3 := HX33.out.cell (i := 0) rfl
        refine wp_region_lit ?_
        refine wl_read (v := ?_) (some 31) rfl (by rfl) ?_ ?_
        rotate_left
        · go_simp; (try with_reducible rfl)
        simp only [Act.put, List.setIfInBounds_toArray, List.set_cons_zero, List.set_cons_succ]
        refine wl_read (v := ?_) (some 32) rfl (by rfl) ?_ ?_
        rotate_left
        · go_simp; (try with_reducible rfl)
        simp only [Act.put, List.setIfInBounds_toArray, List.set_cons_zero, List.set_cons_succ]
        refine wl_load (some 33) rfl (by rfl) 48 (.tmp 5) rfl g5 rfl 48 (opCells o) _ HY3.out Try.underlying48 rfl (by kernel_rfl) ?_
        simp only [Act.put, List.setIfInBounds_toArray, List.set_cons_zero, List.set_cons_succ]
        refine wl_buildSlice (some 34) rfl (by rfl) 23 48 1 #[(0, .tmp 33)] rfl Try.underlying23 (opCells o).toArray (by kernel_rfl) ?_
        simp only [Act.put, List.setIfInBounds_toArray, List.set_cons_zero, List.set_cons_succ]
        have HL4 : RowKit.Hid (RdS (W3.alloc (.cells (opCells o).toArray 48)) (W3.alloc (.cells (opCells o).toArray 48)).heap.size 20 (some ⟨W3.heap.size, 0, none⟩) 1 1 (rowsV opCells [o])) := Lib.hid (by rw [rowsOp1]; exact RdS.of_whole8 (Whole.new_ _ _ _) rfl)
        have HO4 := Lib.hid (HO3.out.up (below1 W3 (.cells (opCells o).toArray 48)))
        have HX14 := Lib.hid (HX13.out.al (.cells (opCells o).toArray 48))
        have HX24 := Lib.hid (HX23.out.al (.cells (opCells o).toArray 48))
        have HX34 := Lib.hid (HX33.out.al (.cells (opCells o).toArray 48))
        obtain ⟨W4, gW4⟩ : ∃ z, W3.alloc (.cells (opCells o).toArray 48) = z := ⟨_, rfl⟩
        obtain ⟨g8, gg8⟩ : ∃ z, W3.heap.size = z := ⟨_, rfl⟩
        rw [gW4] at HL4 HO4 HX14 HX24 HX34 ⊢
        rw [gg8] at HL4 ⊢
        clear gW4 gg8 e3 HOw HO3 HX13 HX23 HX33 HY3
        go_wp2_with (first
          | (at_builtin
             refine wpList_push2 rfl (.tmp 32) (.tmp 34) _ rfl _ 48 i0 _ 20 168 Try.underlying23 hi hz0 hz1 hz2 rfl (by decide) _ _ _ rfl HO4.out _ _ _ _ _ rfl HL4.out (rowsV_one opCells opCells_one [o]) (by unfold maxLen; omega) (by omega) ?_
             intro v5 W5 how5 hb5 hgr5
             obtain ⟨A5, c5, rfl, -⟩ := how5.rds
             have HO5 := Lib.hid how5
             have HX15 := Lib.hid (HX14.out.grown hgr5 (own_ne HO4.out.own HX14.out (by decide)))
             have HX25 := Lib.hid (HX24.out.grown hgr5 (own_ne HO4.out.own HX24.out (by decide)))
             have HX35 := Lib.hid (HX34.out.grown hgr5 (own_ne HO4.out.own HX34.out (by decide)))
             have m0 := HX35.out.cell (i := 0) rfl
             have k0 := HX35.out.free 0
             clear how5 hb5 hgr5))
        go_roundw
        case rel =>
          refine ⟨k + 1, A5, c5, by omega, by omega, by go_num, Lib.hid ⟨?_, HX15.out.far (p := ⟨b3, 0, none⟩) Hb.out.1 _, HX25.out.far (p := ⟨b3, 0, none⟩) Hb.out.2.1 _, HX35.out.set_ 0 _⟩⟩
          rw [HNx.out, rowsV_app]
          exact ⟨own_cell_far HO5.out.own (own_ne HO5.out.own HX35.out (by decide)) _, HO5.out.below.setCell (p := ⟨b3, 0, none⟩) Hb.out.2.2.2.2 _, HO5.out.lo, by simpa [World.setCell] using HO5.out.hi⟩
        case measure => simp [intOf]; omega
    · have hfull : (fewE L).take k = fewE L := List.take_of_length_le (by unfold fewE; rw [List.length_map, List.length_take, Hl.out]; omega)
      have hkl : (fewE L).length = k := by unfold fewE; rw [List.length_map, List.length_take, Hl.out]; omega
      have hO := HO.out
      rw [hfull] at hO
      have hXz := HX2.out.set_ 0 (.slice A k c)
      have HF : RowKit.Hid (∃ A' c', Ending.returned (.agg #[.slice A k c]) = .returned (.agg #[.slice A' (fewE L).length c']) ∧ (wr.setCell ⟨b2, 0, none⟩ (.slice A k c)).ownsRow w.heap.size 48 20 (.slice A' (fewE L).length c') (fewE L).length (rowsV opCells (fewE L)) ∧ Below w.heap.size w (wr.setCell ⟨b2, 0, none⟩ (.slice A k c))) := Lib.hid (by
        rw [hkl]
        exact ⟨A, c, rfl, own_cell_far hO.own (own_ne hO.own HX2.out (by decide)) _, hO.below.setCell (p := ⟨b2, 0, none⟩) Hb.out.2.2.2.1 _⟩)
      have HXz := Lib.hid hXz
      have e3 := HX3.out.cell (i := 0) rfl
      have q0 := HX2.out.cell (i := 0) rfl
      have f0 := HX2.out.free 0
      clear hfull hkl hO hXz
      by_cases hl1 : k < n
      · have hi1 : (k : Int) < (n : Int) := by omega
        have hi2 : ¬ (k : Int) < 10 := by omega
        clear hlt
        go_wp2
        exact ret_whole rfl b2 rfl HXz.out Try.underlying25 rfl (by kernel_rfl) rfl HF.out
      · have hi1 : ¬ (k : Int) < (n : Int) := by omega
        clear hlt
        go_wp2
        exact ret_whole rfl b2 rfl HXz.out Try.underlying25 rfl (by kernel_rfl) rfl HF.out

end Go.Proofs.Ytoiflngpjdghbaa
