/- At: the vertex in whose ring a dart stands. -/
import Derived.Test.YtdhglhcpgmfpoaaDg12
import Derived.Laws.ResultCell
namespace Go.Proofs.Ytdhglhcpgmfpoaa
open Go.RowKit
set_option linter.unusedSimpArgs false
set_option linter.unusedVariables false

theorem ret_whole2 {P : Program} {fn : Func} {R : Ending → World → Prop} {a : Act} {w : World} {p u : Tmp} {t : TypeId} (h : fn.results = #[.cell p t, .tmp u]) (g : Nat) {t' : TypeId} {cs : List Value} {d : TypeDesc} {v : Value}
    (hp : a.tmps.getD p undef = .pointer (some ⟨g, 0, none⟩)) (hv : a.tmps.getD u undef = v) (hW : Whole w g t' cs) (hu : P.underlying t = some d) (hd : d.isRow = true) (hi : (P.info? t).map (·.size) = some cs.length)
    (hdf : a.defers = []) (hR : R (.returned (.tuple #[.agg cs.toArray, v])) w) : bodyPost P fn R .ret a w := by
  refine bodyPost_ret (v := .tuple #[.agg cs.toArray, v]) ?_ hdf hR
  have hl := run_loadVar_mid (P := P) w g 0 t cs d (fun j v hv => by
    have := hW.cell hv
    simpa using this) hu hd hi
  rw [results_cell_tmp h, hp, hv]
  simp [asAddr, Result.andThen, hl]
def atV (Vs : List VC) (x : D) : (Int × Int) × Bool := match Vs.find? (fun v => decide (x ∈ v.2.1.2.2.2)) with | some v => (v.1, true) | none => ((0, 0), false)
theorem atV_yes (v : VC) (r : List VC) (x : D) (h : x ∈ v.2.1.2.2.2) : atV (v :: r) x = (v.1, true) := by simp [atV, h]
theorem atV_no (v : VC) (r : List VC) (x : D) (h : ¬ x ∈ v.2.1.2.2.2) : atV (v :: r) x = atV r x := by simp [atV, h]
set_option maxRecDepth 100000 in
set_option maxHeartbeats 4000000 in
theorem at_any (A : Option Addr) (n c : Nat) (Vs : List VC) (B : Option Addr) (m k : Nat) (Es : List EC) (x1 x2 x3 : Int) (w : World) (h : DgIn w A n c Vs B m k Es) (hn : n ≤ 1000000) (hr : ∀ y ∈ Vs, y.2.1.2.1 ≤ 1000000) :
    Calls Try.prog 22 #[.agg #[.slice A n c, .slice B m k], .agg #[.int .i64 x1, .int .i64 x2, .int .i64 x3]] w fun e w' =>
      e = .returned (.tuple #[.agg #[.int .i64 (atV Vs (x1, x2, x3)).1.1, .int .i64 (atV Vs (x1, x2, x3)).1.2], .bool (atV Vs (x1, x2, x3)).2]) ∧ Below w.heap.size w w' := by
  have HV := Lib.hid h.v
  have HRg := Lib.hid h.r
  have Hhr := Lib.hid hr
  have Hlv := Lib.hid (h.v.rlen vC_len (by decide))
  obtain ⟨⟨⟨r1, r2⟩, r3⟩, gr⟩ : ∃ z, atV Vs (x1, x2, x3) = z := ⟨_, rfl⟩
  rw [gr]
  have HG := Lib.hid gr
  clear h hr gr
  go_enter Try.func22, Try.ntmps22
  go_wp2
  have hx1 : Whole _ (w.heap.size + 1) 36 [.int .i64 x1, .int .i64 x2, .int .i64 x3] := (Whole.new2 (w := w.alloc (.cells #[.slice A n c, .slice B m k] 25)) (by simp)).alloc (.cells #[.int .i64 0, .int .i64 0] 34)
  have hx2 : Whole _ (w.heap.size + 1 + 1) 34 [.int .i64 0, .int .i64 0] := Whole.new2 (w := (w.alloc (.cells #[.slice A n c, .slice B m k] 25)).alloc (.cells #[.int .i64 x1, .int .i64 x2, .int .i64 x3] 36)) (by simp)
  have hbl := bel_al (bel_al (below1 w (.cells #[.slice A n c, .slice B m k] 25)) (.cells #[.int .i64 x1, .int .i64 x2, .int .i64 x3] 36)) (.cells #[.int .i64 0, .int .i64 0] 34)
  obtain ⟨W0, gW0⟩ : ∃ z, ((w.alloc (.cells #[.slice A n c, .slice B m k] 25)).alloc (.cells #[.int .i64 x1, .int .i64 x2, .int .i64 x3] 36)).alloc (.cells #[.int .i64 0, .int .i64 0] 34) = z := ⟨_, rfl⟩
  have HB0 : RowKit.Hid (Below w.heap.size w W0) := Lib.hid (by rw [← gW0]; exact hbl)
  have hx1' : Whole W0 (w.heap.size + 1) 36 [.int .i64 x1, .int .i64 x2, .int .i64 x3] := by rw [← gW0]; exact hx1
  have hx2' : Whole W0 (w.heap.size + 1 + 1) 34 [.int .i64 0, .int .i64 0] := by rw [← gW0]; exact hx2
  obtain ⟨b2, gb2⟩ : ∃ z, w.heap.size + 1 + 1 = z := ⟨_, rfl⟩
  obtain ⟨b1, gb1⟩ : ∃ z, w.heap.size + 1 = z := ⟨_, rfl⟩
  obtain ⟨b0, gb0⟩ : ∃ z, w.heap.size = z := ⟨_, rfl⟩
  rw [gb1] at hx1'
  rw [gb2] at hx2'
  have HX1 := Lib.hid hx1'
  have HX2 := Lib.hid hx2'
  have Hl2 : RowKit.Hid (w.heap.size ≤ b2) := Lib.hid (by omega)
  rw [gW0, gb2, gb1, gb0]
  clear hx1 hx2 hbl hx1' hx2' gW0 gb2 gb1 gb0
  go_loopw [11] (fun si wr => ∃ j : Nat, j ≤ n ∧ si = .int .i64 j ∧ RowKit.Hid (Below w.heap.size w wr) ∧ RowKit.Hid (Whole wr b1 36 [.int .i64 x1, .int .i64 x2, .int .i64 x3]) ∧ RowKit.Hid (Whole wr b2 34 [.int .i64 0, .int .i64 0]) ∧ RowKit.Hid (atV (Vs.drop j) (x1, x2, x3) = ((r1, r2), r3))) (fun si _ => n - (intOf si).toNat)
  case atStart => exact ⟨0, by omega, rfl, HB0, HX1, HX2, HG⟩
  case round =>
    clear HB0 HX1 HX2 HG
    obtain ⟨j, hj, rfl, HB, HX1, HX2, HG⟩ := hrel
    obtain ⟨wo, gwo⟩ : ∃ z, wr = z := ⟨_, rfl⟩
    rw [gwo] at HB HX1 HX2 ⊢
    clear gwo
    have f0 := HX2.out.free 0
    have f1 := HX2.out.free 1
    have k0 := HX2.out.cell (i := 0) rfl
    have k1 := HX2.out.cell (i := 1) rfl
    by_cases hjn : j < n
    · clear f0 f1 k0 k1
      obtain ⟨y, hx⟩ : ∃ y, Vs[j]? = some y := ⟨_, List.getElem?_eq_getElem (by have := Hlv.out; omega)⟩
      have hdr : Vs.drop j = y :: Vs.drop (j + 1) := by
        rw [List.drop_eq_getElem_cons (List.getElem?_eq_some_iff.1 hx).1, (List.getElem?_eq_some_iff.1 hx).2]
      have hrg := HRg.out y (List.mem_of_getElem? hx)
      have hrn := Hhr.out y (List.mem_of_getElem? hx)
      have HG2 := HG.out
      rw [hdr] at HG2
      have HG3 := Lib.hid HG2
      obtain ⟨bb, off, rfl, hbB, hpl⟩ := HV.out.place vC_len (by decide) (by omega)
      have hbw := HB.out
      have q0 := hpl j _ hx 0 _ rfl
      have q1 := hpl j _ hx 1 _ rfl
      have q2 := hpl j _ hx 2 _ rfl
      have q3 := hpl j _ hx 3 _ rfl
      have q4 := hpl j _ hx 4 _ rfl
      simp only [Addr.add_lit, Nat.add_zero] at q0 q1 q2 q3 q4
      have l0 := (hbw.cell (p := ⟨bb, off + j * 5, none⟩) hbB).trans q0
      have l1 := (hbw.cell (p := ⟨bb, off + j * 5 + 1, none⟩) hbB).trans q1
      have l2 := (hbw.cell (p := ⟨bb, off + j * 5 + 2, none⟩) hbB).trans q2
      have l3 := (hbw.cell (p := ⟨bb, off + j * 5 + 3, none⟩) hbB).trans q3
      have l4 := (hbw.cell (p := ⟨bb, off + j * 5 + 4, none⟩) hbB).trans q4
      obtain ⟨⟨i1, i2⟩, ⟨rA, rn, rc, rL⟩, lb, at_⟩ := y
      have hR : RdS w w.heap.size 3 rA rn rc (dartsV rL) := hrg.2
      replace hrn : rn ≤ 1000000 := hrn
      have HBa := Lib.hid (bel_al HB.out (.cells #[.int .i64 i1, .int .i64 i2, .slice rA rn rc, .string lb, .int .i64 at_] 39))
      have HI := Lib.hid (rindex_any rA rn rc rL (x1, x2, x3) _ (hR.bl HBa.out) (by omega))
      have z0 := (HX1.out.alloc (.cells #[.int .i64 i1, .int .i64 i2, .slice rA rn rc, .string lb, .int .i64 at_] 39)).cell (i := 0) rfl
      have z1 := (HX1.out.alloc (.cells #[.int .i64 i1, .int .i64 i2, .slice rA rn rc, .string lb, .int .i64 at_] 39)).cell (i := 1) rfl
      have z2 := (HX1.out.alloc (.cells #[.int .i64 i1, .int .i64 i2, .slice rA rn rc, .string lb, .int .i64 at_] 39)).cell (i := 2) rfl
      clear hx hdr HG2 hpl hbw q0 q1 q2 q3 q4 hbB HG hrg hR
      obtain ⟨ix, gix⟩ : ∃ z, idxD rL (x1, x2, x3) = z := ⟨_, rfl⟩
      rw [gix] at HI
      have Gix := Lib.hid gix
      clear gix
      go_wp2_with fail
      refine HI.out.mono ?_
      rintro e w3 ⟨rfl, hb⟩
      have HB3 := Lib.hid (bel_bl HBa.out hb)
      have HX13 := Lib.hid ((HX1.out.alloc (.cells #[.int .i64 i1, .int .i64 i2, .slice rA rn rc, .string lb, .int .i64 at_] 39)).below hb)
      have HX23 := Lib.hid ((HX2.out.alloc (.cells #[.int .i64 i1, .int .i64 i2, .slice rA rn rc, .string lb, .int .i64 at_] 39)).below hb)
      have hy := (Whole.new_ wo 39 [.int .i64 i1, .int .i64 i2, .slice rA rn rc, .string lb, .int .i64 at_]).below hb
      have y0 := hy.cell (i := 0) rfl
      have y1 := hy.cell (i := 1) rfl
      clear hb z0 z1 z2 l0 l1 l2 l3 l4 hy HB HX1 HX2 HI
      by_cases hmem : (x1, x2, x3) ∈ rL
      · have e1 : idxD rL (x1, x2, x3) = (rL.idxOf (x1, x2, x3) : Int) := by rw [idxD, if_pos hmem]
        have h0 : 0 ≤ ix := by rw [← Gix.out, e1]; omega
        have hG := HG3.out
        rw [atV_yes _ _ _ hmem] at hG
        simp only [Prod.mk.injEq] at hG
        obtain ⟨⟨rfl, rfl⟩, rfl⟩ := hG
        have f0 := HX23.out.free 0
        have f1 := HX23.out.free 1
        have k0 := HX23.out.cell (i := 0) rfl
        have k1 := HX23.out.cell (i := 1) rfl
        have HY := Lib.hid ((HX23.out.set_ 0 (.int .i64 i1)).set_ 1 (.int .i64 i2))
        have HBf := Lib.hid ((HB3.out.setCell (p := ⟨b2, 0, none⟩) Hl2.out (.int .i64 i1)).setCell (p := ⟨b2, 1, none⟩) Hl2.out (.int .i64 i2))
        clear HX23 HG3
        go_wp2
        exact ret_whole2 rfl b2 rfl rfl HY.out Try.underlying34 rfl (by kernel_rfl) rfl ⟨rfl, HBf.out⟩
      · have h0 : ¬ 0 ≤ ix := by rw [← Gix.out, show idxD rL (x1, x2, x3) = -1 by rw [idxD, if_neg hmem]]; omega
        have hG := HG3.out
        rw [atV_no _ _ _ hmem] at hG
        have HG4 := Lib.hid hG
        clear hG HG3 y0 y1
        go_wp2
        go_roundw
        case rel => exact ⟨j + 1, by omega, by go_num, HB3, HX13, HX23, HG4⟩
        case measure => simp [intOf]; omega
    · obtain rfl : n = j := by omega
      have hG := HG.out
      rw [List.drop_eq_nil_of_le (by have := Hlv.out; omega)] at hG
      replace hG : (((0 : Int), (0 : Int)), false) = ((r1, r2), r3) := hG
      simp only [Prod.mk.injEq] at hG
      obtain ⟨⟨rfl, rfl⟩, rfl⟩ := hG
      have HY := Lib.hid ((HX2.out.set_ 0 (.int .i64 0)).set_ 1 (.int .i64 0))
      have HBf := Lib.hid ((HB.out.setCell (p := ⟨b2, 0, none⟩) Hl2.out (.int .i64 0)).setCell (p := ⟨b2, 1, none⟩) Hl2.out (.int .i64 0))
      clear HG HX2
      go_wp2
      exact ret_whole2 rfl b2 rfl rfl HY.out Try.underlying34 rfl (by kernel_rfl) rfl ⟨rfl, HBf.out⟩
end Go.Proofs.Ytdhglhcpgmfpoaa
