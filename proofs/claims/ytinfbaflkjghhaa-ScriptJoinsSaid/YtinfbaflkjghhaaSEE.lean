/- Several texts in one. -/
import Derived.Test.YtinfbaflkjghhaaSEA
import Derived.Test.YtinfbaflkjghhaaSED
import Derived.Laws.ResultCell
import Derived.Test.YtinfbaflkjghhaaSEC
import Derived.Test.YtinfbaflkjghhaaSEB
/- The reader: op. -/
set_option linter.unusedSimpArgs false
set_option linter.unusedVariables false
namespace Go.Proofs.Ytinfbaflkjghhaa
open Go.RowKit
/-- An operation of a kind and a name alone. -/
def kO (k : Int) (x : Int × Int) : OpT := ⟨k, x.1, x.2, 0, 0, 0, 0, 0, 0, 0, 0, 0, 0, 0, 0, 0, 0, false, ⟨#[]⟩, 0⟩
theorem cC_one (c : C5) : ∀ v ∈ cC c, v.oneCell' = true := by simp [cC, Value.oneCell']
theorem opCells_arr (o : OpT) : (opCells o).toArray.all (·.oneCell') = true := by simp [opCells, Value.oneCell']
theorem wl_store {P : Program} {ops : Array Oper} {Q : Exit → Act → World → Prop} {o : Oper} {rest : List Oper} {a : Act} {w w' : World} (hd : o.dst = none) (hw : Region.wanted o (yielded ops a.tmps) = true) (hrun : (execOp a.eval o).run P w = .ok .skip w')
    (h : wpList P ops Q rest a w') : wpList P ops Q (o :: rest) a w := by
  refine wpList_step fun K hK => ?_
  rw [if_pos hw]
  unfold Oper.wp
  rw [hrun, Oper.upon_skip, hd]
  exact hK _ _ h
set_option maxRecDepth 100000 in
set_option maxHeartbeats 4000000 in
theorem rop_3 (lo g : Nat) (L : List Nat) (w : World) (h : CuAt lo w g L) (hb : ∀ b ∈ L, b < 256) (hk : c1 L = 3) :
    Calls Try.prog 74 #[.pointer (some ⟨g, 0, none⟩)] w fun e w' => e = .returned (.agg (opCells (opV L)).toArray) ∧ Cu1 lo w w' g (opL L) := by
  have HN1 := Lib.hid (fun W hc => cnumber_any lo g L W hc hb)
  have HN2 := Lib.hid (fun W hc => rname_any lo g (L.drop 1) W hc (drop_lt hb 1))
  have hbM := lI_lt (drop_lt hb 1)
  have HV : RowKit.Hid (opV L = fdV (c1 L) (vI (L.drop 1)) (lI (L.drop 1))) := Lib.hid rfl
  have HF : RowKit.Hid (opL L = fdL (c1 L) (lI (L.drop 1))) := Lib.hid rfl
  have HX0 : RowKit.Hid (Whole (w.alloc (.cells #[.int .i64 0, .int .i64 0, .int .i64 0, .int .i64 0, .int .i64 0, .int .i64 0, .int .i64 0, .int .i64 0, .int .i64 0, .int .i64 0, .int .i64 0, .int .i64 0, .int .i64 0, .int .i64 0, .int .i64 0, .int .i64 0, .int .i64 0, .bool false, .string ⟨#[]⟩, .int .i64 0] 53)) w.heap.size 53 (opCells zeroO)) := Lib.hid (Whole.new_ _ _ (opCells zeroO))
  have HC0 := Lib.hid (h.al (.cells #[.int .i64 0, .int .i64 0, .int .i64 0, .int .i64 0, .int .i64 0, .int .i64 0, .int .i64 0, .int .i64 0, .int .i64 0, .int .i64 0, .int .i64 0, .int .i64 0, .int .i64 0, .int .i64 0, .int .i64 0, .int .i64 0, .int .i64 0, .bool false, .string ⟨#[]⟩, .int .i64 0] 53))
  have HK0 : RowKit.Hid (Kept (At1 g) w (w.alloc (.cells #[.int .i64 0, .int .i64 0, .int .i64 0, .int .i64 0, .int .i64 0, .int .i64 0, .int .i64 0, .int .i64 0, .int .i64 0, .int .i64 0, .int .i64 0, .int .i64 0, .int .i64 0, .int .i64 0, .int .i64 0, .int .i64 0, .int .i64 0, .bool false, .string ⟨#[]⟩, .int .i64 0] 53))) := Lib.hid (Kept.of_below (below1 w _))
  have Hgb : RowKit.Hid (g < w.heap.size) := Lib.hid h.lt
  have hlt := byte_lt hb
  obtain ⟨k, gk0⟩ : ∃ z, c1 L = z := ⟨_, rfl⟩
  obtain ⟨⟨x1, x2⟩, gx⟩ : ∃ z, vI (L.drop 1) = z := ⟨_, rfl⟩
  obtain ⟨M, gM⟩ : ∃ z, lI (L.drop 1) = z := ⟨_, rfl⟩
  rw [gk0] at HN1 HV HF hlt hk
  rw [gx] at HN2 HV
  rw [gM] at HN2 HV HF hbM
  clear gx gM gk0 h hb
  have HR1 := Lib.hid (fun W hc => rcorner_rd lo g M W hc hbM)
  have HR2 := Lib.hid (fun W hc => rcorner_rd lo g (crL M) W hc (crL_lt hbM))
  have Hk := Lib.hid hk
  subst hk
  rw [show fdV 3 (x1, x2) M = ⟨3, x1, x2, 0, 0, 0, 0, (crV M).1, (crV M).2.1, (crV M).2.2.1, (crV M).2.2.2.1, (crV M).2.2.2.2, (crV (crL M)).1, (crV (crL M)).2.1, (crV (crL M)).2.2.1, (crV (crL M)).2.2.2.1, (crV (crL M)).2.2.2.2, false, ⟨#[]⟩, 0⟩ from rfl] at HV
  rw [show fdL 3 M = crL (crL M) from rfl] at HF
  obtain ⟨ca, gca⟩ : ∃ z, crV M = z := ⟨_, rfl⟩
  obtain ⟨cb, gcb⟩ : ∃ z, crV (crL M) = z := ⟨_, rfl⟩
  rw [gca] at HR1 HV
  rw [gcb] at HR2 HV
  clear gca gcb
  obtain ⟨kI, gkI⟩ : ∃ z : Int, ((3 : Nat) : Int) = z := ⟨_, rfl⟩
  rw [gkI] at HN1
  have GkI := Lib.hid gkI
  have q3 : (kI == 3) = true := by rw [← gkI]; rfl
  clear hbM
  go_enter Try.func74, Try.ntmps74
  go_upto_region 1 with fail
  obtain ⟨w0, gw0⟩ : ∃ z, w.alloc (.cells #[.int .i64 0, .int .i64 0, .int .i64 0, .int .i64 0, .int .i64 0, .int .i64 0, .int .i64 0, .int .i64 0, .int .i64 0, .int .i64 0, .int .i64 0, .int .i64 0, .int .i64 0, .int .i64 0, .int .i64 0, .int .i64 0, .int .i64 0, .bool false, .string ⟨#[]⟩, .int .i64 0] 53) = z := ⟨_, rfl⟩
  obtain ⟨b, gb⟩ : ∃ z, w.heap.size = z := ⟨_, rfl⟩
  rw [gw0] at HX0 HK0 HC0 ⊢
  rw [gb] at HX0 Hgb ⊢
  have Gb := Lib.hid gb
  clear gw0 gb
  go_wp2_with fail
  refine (HN1.out _ HC0.out).mono ?_
  rintro e w1 ⟨rfl, hcu, hgr⟩
  have HX1 := Lib.hid ((gk hgr).whole HX0.out (fun e => by have h1 : b = g := e; have := Hgb.out; omega))
  have HK1 := Lib.hid (HK0.out.trans (gk hgr))
  have HC1 := Lib.hid hcu
  clear hcu hgr HX0 HK0 HC0
  go_wp2_with fail
  refine (HN2.out _ HC1.out).mono ?_
  rintro e w2 ⟨rfl, hcu⟩
  have HX2 := Lib.hid (hcu.2.whole HX1.out (fun e => by have h1 : b = g := e; have := Hgb.out; omega))
  have HK2 := Lib.hid (HK1.out.trans hcu.2)
  have HC2 := Lib.hid hcu.1
  clear hcu HX1 HK1 HC1
  rename_i hK
  refine hK _ _ ?_
  refine wl_read (v := .agg (opCells (kO kI (x1, x2))).toArray) (some 10) rfl (by rfl) ?_ ?_
  · go_simp; rfl
  simp only [Act.put, stA_, st0_, st1_]
  refine wl_new 3 rfl rfl rfl 53 (.tmp 10) rfl rfl #[.int .i64 0, .int .i64 0, .int .i64 0, .int .i64 0, .int .i64 0, .int .i64 0, .int .i64 0, .int .i64 0, .int .i64 0, .int .i64 0, .int .i64 0, .int .i64 0, .int .i64 0, .int .i64 0, .int .i64 0, .int .i64 0, .int .i64 0, .bool false, .string ⟨#[]⟩, .int .i64 0] ?_ (opCells (kO kI (x1, x2))).toArray (by simp) rfl (by kernel_rfl) rfl (opCells_arr _) ?_
  · go_simp; (try with_reducible rfl)
  simp only [Act.put, stA_, st0_, st1_]
  have HY3 : RowKit.Hid (Whole (w2.alloc (.cells (opCells (kO kI (x1, x2))).toArray 53)) w2.heap.size 53 (opCells (kO kI (x1, x2)))) := Lib.hid (Whole.new_ _ _ _)
  have Hgb5 : RowKit.Hid (g < w2.heap.size ∧ b < w2.heap.size) := Lib.hid ⟨HC2.out.lt, HX2.out.lt⟩
  have HX3 := Lib.hid (HX2.out.al (.cells (opCells (kO kI (x1, x2))).toArray 53))
  have HK3 := Lib.hid (HK2.out.alloc (.cells (opCells (kO kI (x1, x2))).toArray 53))
  have HC3 := Lib.hid (HC2.out.al (.cells (opCells (kO kI (x1, x2))).toArray 53))
  obtain ⟨w3, gw3⟩ : ∃ z, w2.alloc (.cells (opCells (kO kI (x1, x2))).toArray 53) = z := ⟨_, rfl⟩
  obtain ⟨b5, gb5⟩ : ∃ z, w2.heap.size = z := ⟨_, rfl⟩
  rw [gw3] at HY3 HX3 HK3 HC3 ⊢
  rw [gb5] at HY3 Hgb5 ⊢
  clear gw3 gb5 HX2 HK2 HC2 hK
  have hb5 : RowKit.Hid (w.heap.size ≤ b5) := Lib.hid (by have := Gb.out; have := Hgb5.out.2; omega)
  have l0 : w3.cell? ⟨b5, 0, none⟩ = some (.int .i64 kI) := HY3.out.cell (i := 0) rfl
  go_wp2_with fail
  refine (HR1.out _ HC3.out).mono ?_
  rintro e w4 ⟨rfl, hcu⟩
  have HX4 := Lib.hid (hcu.2.whole HX3.out (fun e => by have h1 : b = g := e; have := Hgb.out; omega))
  have HY4 := Lib.hid (hcu.2.whole HY3.out (fun e => by have h1 : b5 = g := e; have := Hgb5.out; omega))
  have HK4 := Lib.hid (HK3.out.trans hcu.2)
  have HC4 := Lib.hid hcu.1
  clear hcu HX3 HY3 HK3 HC3
  go_wp2_with fail
  refine (HR2.out _ HC4.out).mono ?_
  rintro e w5 ⟨rfl, hcu⟩
  have HX5 := Lib.hid (hcu.2.whole HX4.out (fun e => by have h1 : b = g := e; have := Hgb.out; omega))
  have HY5 := Lib.hid (hcu.2.whole HY4.out (fun e => by have h1 : b5 = g := e; have := Hgb5.out; omega))
  have HK5 := Lib.hid (HK4.out.trans hcu.2)
  have HC5 := Lib.hid hcu.1
  clear hcu HX4 HY4 HK4 HC4
  rename_i hK
  refine hK _ _ ?_
  refine wl_read (v := ?_) (some 19) rfl (by rfl) ?_ ?_
  rotate_left
  · go_simp; (try with_reducible rfl)
  simp only [Act.put, stA_, st0_, st1_]
  refine wl_store rfl (by rfl) (store_mid_run 51 (.tmp 19) (.tmp 16) rfl b5 7 rfl (cC ca) rfl (HY5.out.there_ 7 5 (by show 12 ≤ 20; decide)) (by kernel_rfl) (cC_one ca)) ?_
  have HY6 := Lib.hid (HY5.out.cells_ (cC ca) 7 w5 _ (by show 12 ≤ 20; decide))
  have HX6 := Lib.hid (HX5.out.cells_far (show b ≠ b5 by have := Hgb5.out.2; omega) 7 (cC ca))
  have HC6 := Lib.hid (HC5.out.cells Hgb5.out.1 7 (cC ca))
  have HK6 := Lib.hid (kept_in HK5.out hb5.out (kept_setCells (S := fun i => i = b5) rfl 7 (cC ca)))
  obtain ⟨w6, gw6⟩ : ∃ z, w5.setCells b5 7 (cC ca) = z := ⟨_, rfl⟩
  rw [gw6] at HY6 HX6 HC6 HK6 ⊢
  clear gw6 HX5 HY5 HK5 HC5
  refine wl_read (v := ?_) (some 20) rfl (by rfl) ?_ ?_
  rotate_left
  · go_simp; (try with_reducible rfl)
  simp only [Act.put, stA_, st0_, st1_]
  refine wl_store rfl (by rfl) (store_mid_run 51 (.tmp 20) (.tmp 18) rfl b5 12 rfl (cC cb) rfl (HY6.out.there_ 12 5 (by show 17 ≤ 20; decide)) (by kernel_rfl) (cC_one cb)) ?_
  have HY7 := Lib.hid (HY6.out.cells_ (cC cb) 12 w6 _ (by show 17 ≤ 20; decide))
  have HX7 := Lib.hid (HX6.out.cells_far (show b ≠ b5 by have := Hgb5.out.2; omega) 12 (cC cb))
  have HC7 := Lib.hid (HC6.out.cells Hgb5.out.1 12 (cC cb))
  have HK7 := Lib.hid (kept_in HK6.out hb5.out (kept_setCells (S := fun i => i = b5) rfl 12 (cC cb)))
  obtain ⟨w7, gw7⟩ : ∃ z, w6.setCells b5 12 (cC cb) = z := ⟨_, rfl⟩
  rw [gw7] at HY7 HX7 HC7 HK7 ⊢
  clear gw7 HX6 HY6 HK6 HC6
  clear hK
  go_upto_region 13 with fail
  have hk3 : kI = 3 := by rw [← GkI.out]; rfl
  subst hk3
  have HFz := HF
  replace HY7 : RowKit.Hid (Whole w7 b5 53 (opCells (⟨3, x1, x2, 0, 0, 0, 0, ca.1, ca.2.1, ca.2.2.1, ca.2.2.2.1, ca.2.2.2.2, cb.1, cb.2.1, cb.2.2.1, cb.2.2.2.1, cb.2.2.2.2, false, ⟨#[]⟩, 0⟩ : OpT))) := HY7
  have HOV : RowKit.Hid (opV L = (⟨3, x1, x2, 0, 0, 0, 0, ca.1, ca.2.1, ca.2.2.1, ca.2.2.2.1, ca.2.2.2.2, cb.1, cb.2.1, cb.2.2.1, cb.2.2.2.1, cb.2.2.2.2, false, ⟨#[]⟩, 0⟩ : OpT)) := Lib.hid (by rw [HV.out]; skip)
  obtain ⟨o9, go9⟩ : ∃ z, (⟨3, x1, x2, 0, 0, 0, 0, ca.1, ca.2.1, ca.2.2.1, ca.2.2.2.1, ca.2.2.2.2, cb.1, cb.2.1, cb.2.2.1, cb.2.2.2.1, cb.2.2.2.2, false, ⟨#[]⟩, 0⟩ : OpT) = z := ⟨_, rfl⟩
  rw [go9] at HOV HY7
  clear go9
  refine wp_region_lit ?_
  refine wl_load (some 61) rfl (by rfl) 53 (.tmp 3) rfl b5 rfl 53 (opCells o9) _ HY7.out Try.underlying53 rfl (by kernel_rfl) ?_
  simp only [Act.put, stA_, st0_, st1_]
  refine wpList_store_row rfl 53 (.tmp 2) (.tmp 61) rfl b (opCells o9).toArray rfl rfl 53 (opCells zeroO).toArray HX7.out (by kernel_rfl) rfl (opCells_arr _) ?_
  have HXz : RowKit.Hid (Whole (w7.setRow b (opCells o9).toArray) b 53 (opCells o9)) := Lib.hid (Whole.row HX7.out (opCells o9))
  have HCz := Lib.hid (HC7.out.row Hgb.out (opCells o9).toArray)
  have HKz := Lib.hid (kept_in HK7.out (Nat.le_of_eq Gb.out) (kept_row (S := fun i => i = b) rfl (opCells o9).toArray))
  go_wp2
  exact ret_whole rfl b rfl HXz.out Try.underlying53 rfl (by kernel_rfl) rfl ⟨by rw [HOV.out], by rw [HFz.out]; exact HCz.out, HKz.out⟩
set_option maxRecDepth 100000 in
set_option maxHeartbeats 4000000 in
theorem rop_6 (lo g : Nat) (L : List Nat) (w : World) (h : CuAt lo w g L) (hb : ∀ b ∈ L, b < 256) (hk : c1 L = 6) :
    Calls Try.prog 74 #[.pointer (some ⟨g, 0, none⟩)] w fun e w' => e = .returned (.agg (opCells (opV L)).toArray) ∧ Cu1 lo w w' g (opL L) := by
  have HN1 := Lib.hid (fun W hc => cnumber_any lo g L W hc hb)
  have HN2 := Lib.hid (fun W hc => rname_any lo g (L.drop 1) W hc (drop_lt hb 1))
  have hbM := lI_lt (drop_lt hb 1)
  have HV : RowKit.Hid (opV L = fdV (c1 L) (vI (L.drop 1)) (lI (L.drop 1))) := Lib.hid rfl
  have HF : RowKit.Hid (opL L = fdL (c1 L) (lI (L.drop 1))) := Lib.hid rfl
  have HX0 : RowKit.Hid (Whole (w.alloc (.cells #[.int .i64 0, .int .i64 0, .int .i64 0, .int .i64 0, .int .i64 0, .int .i64 0, .int .i64 0, .int .i64 0, .int .i64 0, .int .i64 0, .int .i64 0, .int .i64 0, .int .i64 0, .int .i64 0, .int .i64 0, .int .i64 0, .int .i64 0, .bool false, .string ⟨#[]⟩, .int .i64 0] 53)) w.heap.size 53 (opCells zeroO)) := Lib.hid (Whole.new_ _ _ (opCells zeroO))
  have HC0 := Lib.hid (h.al (.cells #[.int .i64 0, .int .i64 0, .int .i64 0, .int .i64 0, .int .i64 0, .int .i64 0, .int .i64 0, .int .i64 0, .int .i64 0, .int .i64 0, .int .i64 0, .int .i64 0, .int .i64 0, .int .i64 0, .int .i64 0, .int .i64 0, .int .i64 0, .bool false, .string ⟨#[]⟩, .int .i64 0] 53))
  have HK0 : RowKit.Hid (Kept (At1 g) w (w.alloc (.cells #[.int .i64 0, .int .i64 0, .int .i64 0, .int .i64 0, .int .i64 0, .int .i64 0, .int .i64 0, .int .i64 0, .int .i64 0, .int .i64 0, .int .i64 0, .int .i64 0, .int .i64 0, .int .i64 0, .int .i64 0, .int .i64 0, .int .i64 0, .bool false, .string ⟨#[]⟩, .int .i64 0] 53))) := Lib.hid (Kept.of_below (below1 w _))
  have Hgb : RowKit.Hid (g < w.heap.size) := Lib.hid h.lt
  have hlt := byte_lt hb
  obtain ⟨k, gk0⟩ : ∃ z, c1 L = z := ⟨_, rfl⟩
  obtain ⟨⟨x1, x2⟩, gx⟩ : ∃ z, vI (L.drop 1) = z := ⟨_, rfl⟩
  obtain ⟨M, gM⟩ : ∃ z, lI (L.drop 1) = z := ⟨_, rfl⟩
  rw [gk0] at HN1 HV HF hlt hk
  rw [gx] at HN2 HV
  rw [gM] at HN2 HV HF hbM
  clear gx gM gk0 h hb
  subst hk
  rw [show fdV 6 (x1, x2) M = ⟨6, x1, x2, 0, 0, (vI M).1, (vI M).2, 0, 0, 0, 0, 0, 0, 0, 0, 0, 0, false, ⟨#[]⟩, 0⟩ from rfl] at HV
  rw [show fdL 6 M = lI M from rfl] at HF
  have HR1 := Lib.hid (fun W hc => rname_any lo g M W hc hbM)
  obtain ⟨⟨y1, y2⟩, gy⟩ : ∃ z, vI M = z := ⟨_, rfl⟩
  rw [gy] at HR1 HV
  clear gy
  obtain ⟨kI, gkI⟩ : ∃ z : Int, ((6 : Nat) : Int) = z := ⟨_, rfl⟩
  rw [gkI] at HN1
  have GkI := Lib.hid gkI
  have q3 : (kI == 3) = false := by rw [← gkI]; rfl
  have q5 : (kI == 5) = false := by rw [← gkI]; rfl
  have q6 : (kI == 6) = true := by rw [← gkI]; rfl
  clear hbM
  go_enter Try.func74, Try.ntmps74
  go_upto_region 1 with fail
  obtain ⟨w0, gw0⟩ : ∃ z, w.alloc (.cells #[.int .i64 0, .int .i64 0, .int .i64 0, .int .i64 0, .int .i64 0, .int .i64 0, .int .i64 0, .int .i64 0, .int .i64 0, .int .i64 0, .int .i64 0, .int .i64 0, .int .i64 0, .int .i64 0, .int .i64 0, .int .i64 0, .int .i64 0, .bool false, .string ⟨#[]⟩, .int .i64 0] 53) = z := ⟨_, rfl⟩
  obtain ⟨b, gb⟩ : ∃ z, w.heap.size = z := ⟨_, rfl⟩
  rw [gw0] at HX0 HK0 HC0 ⊢
  rw [gb] at HX0 Hgb ⊢
  have Gb := Lib.hid gb
  clear gw0 gb
  go_wp2_with fail
  refine (HN1.out _ HC0.out).mono ?_
  rintro e w1 ⟨rfl, hcu, hgr⟩
  have HX1 := Lib.hid ((gk hgr).whole HX0.out (fun e => by have h1 : b = g := e; have := Hgb.out; omega))
  have HK1 := Lib.hid (HK0.out.trans (gk hgr))
  have HC1 := Lib.hid hcu
  clear hcu hgr HX0 HK0 HC0
  go_wp2_with fail
  refine (HN2.out _ HC1.out).mono ?_
  rintro e w2 ⟨rfl, hcu⟩
  have HX2 := Lib.hid (hcu.2.whole HX1.out (fun e => by have h1 : b = g := e; have := Hgb.out; omega))
  have HK2 := Lib.hid (HK1.out.trans hcu.2)
  have HC2 := Lib.hid hcu.1
  clear hcu HX1 HK1 HC1
  rename_i hK
  refine hK _ _ ?_
  refine wl_read (v := .agg (opCells (kO kI (x1, x2))).toArray) (some 10) rfl (by rfl) ?_ ?_
  · go_simp; rfl
  simp only [Act.put, stA_, st0_, st1_]
  refine wl_new 3 rfl rfl rfl 53 (.tmp 10) rfl rfl #[.int .i64 0, .int .i64 0, .int .i64 0, .int .i64 0, .int .i64 0, .int .i64 0, .int .i64 0, .int .i64 0, .int .i64 0, .int .i64 0, .int .i64 0, .int .i64 0, .int .i64 0, .int .i64 0, .int .i64 0, .int .i64 0, .int .i64 0, .bool false, .string ⟨#[]⟩, .int .i64 0] ?_ (opCells (kO kI (x1, x2))).toArray (by simp) rfl (by kernel_rfl) rfl (opCells_arr _) ?_
  · go_simp; (try with_reducible rfl)
  simp only [Act.put, stA_, st0_, st1_]
  have HY3 : RowKit.Hid (Whole (w2.alloc (.cells (opCells (kO kI (x1, x2))).toArray 53)) w2.heap.size 53 (opCells (kO kI (x1, x2)))) := Lib.hid (Whole.new_ _ _ _)
  have Hgb5 : RowKit.Hid (g < w2.heap.size ∧ b < w2.heap.size) := Lib.hid ⟨HC2.out.lt, HX2.out.lt⟩
  have HX3 := Lib.hid (HX2.out.al (.cells (opCells (kO kI (x1, x2))).toArray 53))
  have HK3 := Lib.hid (HK2.out.alloc (.cells (opCells (kO kI (x1, x2))).toArray 53))
  have HC3 := Lib.hid (HC2.out.al (.cells (opCells (kO kI (x1, x2))).toArray 53))
  obtain ⟨w3, gw3⟩ : ∃ z, w2.alloc (.cells (opCells (kO kI (x1, x2))).toArray 53) = z := ⟨_, rfl⟩
  obtain ⟨b5, gb5⟩ : ∃ z, w2.heap.size = z := ⟨_, rfl⟩
  rw [gw3] at HY3 HX3 HK3 HC3 ⊢
  rw [gb5] at HY3 Hgb5 ⊢
  clear gw3 gb5 HX2 HK2 HC2 hK
  have hb5 : RowKit.Hid (w.heap.size ≤ b5) := Lib.hid (by have := Gb.out; have := Hgb5.out.2; omega)
  have l0 : w3.cell? ⟨b5, 0, none⟩ = some (.int .i64 kI) := HY3.out.cell (i := 0) rfl
  go_wp2_with fail
  refine (HR1.out _ HC3.out).mono ?_
  rintro e w4 ⟨rfl, hcu⟩
  have HX4 := Lib.hid (hcu.2.whole HX3.out (fun e => by have h1 : b = g := e; have := Hgb.out; omega))
  have HY4 := Lib.hid (hcu.2.whole HY3.out (fun e => by have h1 : b5 = g := e; have := Hgb5.out; omega))
  have HK4 := Lib.hid (HK3.out.trans hcu.2)
  have HC4 := Lib.hid hcu.1
  clear hcu HX3 HY3 HK3 HC3
  rename_i hK
  refine hK _ _ ?_
  refine wl_read (v := ?_) (some 38) rfl (by rfl) ?_ ?_
  rotate_left
  · go_simp; (try with_reducible rfl)
  simp only [Act.put, stA_, st0_, st1_]
  refine wl_store rfl (by rfl) (store_mid_run 47 (.tmp 38) (.tmp 37) rfl b5 5 rfl [.int .i64 y1, .int .i64 y2] rfl (HY4.out.there_ 5 2 (by show 7 ≤ 20; decide)) (by kernel_rfl) (by simp [Value.oneCell'])) ?_
  have HY5 := Lib.hid (HY4.out.cells_ [.int .i64 y1, .int .i64 y2] 5 w4 _ (by show 7 ≤ 20; decide))
  have HX5 := Lib.hid (HX4.out.cells_far (show b ≠ b5 by have := Hgb5.out.2; omega) 5 [.int .i64 y1, .int .i64 y2])
  have HC5 := Lib.hid (HC4.out.cells Hgb5.out.1 5 [.int .i64 y1, .int .i64 y2])
  have HK5 := Lib.hid (kept_in HK4.out hb5.out (kept_setCells (S := fun i => i = b5) rfl 5 [.int .i64 y1, .int .i64 y2]))
  obtain ⟨w5, gw5⟩ : ∃ z, w4.setCells b5 5 [.int .i64 y1, .int .i64 y2] = z := ⟨_, rfl⟩
  rw [gw5] at HY5 HX5 HC5 HK5 ⊢
  clear gw5 HX4 HY4 HK4 HC4
  clear hK
  go_upto_region 13 with fail
  have hk3 : kI = 6 := by rw [← GkI.out]; rfl
  subst hk3
  have HFz := HF
  replace HY5 : RowKit.Hid (Whole w5 b5 53 (opCells (⟨6, x1, x2, 0, 0, y1, y2, 0, 0, 0, 0, 0, 0, 0, 0, 0, 0, false, ⟨#[]⟩, 0⟩ : OpT))) := HY5
  have HOV : RowKit.Hid (opV L = (⟨6, x1, x2, 0, 0, y1, y2, 0, 0, 0, 0, 0, 0, 0, 0, 0, 0, false, ⟨#[]⟩, 0⟩ : OpT)) := Lib.hid (by rw [HV.out]; skip)
  obtain ⟨o9, go9⟩ : ∃ z, (⟨6, x1, x2, 0, 0, y1, y2, 0, 0, 0, 0, 0, 0, 0, 0, 0, 0, false, ⟨#[]⟩, 0⟩ : OpT) = z := ⟨_, rfl⟩
  rw [go9] at HOV HY5
  clear go9
  refine wp_region_lit ?_
  refine wl_load (some 61) rfl (by rfl) 53 (.tmp 3) rfl b5 rfl 53 (opCells o9) _ HY5.out Try.underlying53 rfl (by kernel_rfl) ?_
  simp only [Act.put, stA_, st0_, st1_]
  refine wpList_store_row rfl 53 (.tmp 2) (.tmp 61) rfl b (opCells o9).toArray rfl rfl 53 (opCells zeroO).toArray HX5.out (by kernel_rfl) rfl (opCells_arr _) ?_
  have HXz : RowKit.Hid (Whole (w5.setRow b (opCells o9).toArray) b 53 (opCells o9)) := Lib.hid (Whole.row HX5.out (opCells o9))
  have HCz := Lib.hid (HC5.out.row Hgb.out (opCells o9).toArray)
  have HKz := Lib.hid (kept_in HK5.out (Nat.le_of_eq Gb.out) (kept_row (S := fun i => i = b) rfl (opCells o9).toArray))
  go_wp2
  exact ret_whole rfl b rfl HXz.out Try.underlying53 rfl (by kernel_rfl) rfl ⟨by rw [HOV.out], by rw [HFz.out]; exact HCz.out, HKz.out⟩
set_option maxRecDepth 100000 in
set_option maxHeartbeats 4000000 in
theorem rop_7 (lo g : Nat) (L : List Nat) (w : World) (h : CuAt lo w g L) (hb : ∀ b ∈ L, b < 256) (hk : c1 L = 7) :
    Calls Try.prog 74 #[.pointer (some ⟨g, 0, none⟩)] w fun e w' => e = .returned (.agg (opCells (opV L)).toArray) ∧ Cu1 lo w w' g (opL L) := by
  have HN1 := Lib.hid (fun W hc => cnumber_any lo g L W hc hb)
  have HN2 := Lib.hid (fun W hc => rname_any lo g (L.drop 1) W hc (drop_lt hb 1))
  have hbM := lI_lt (drop_lt hb 1)
  have HV : RowKit.Hid (opV L = fdV (c1 L) (vI (L.drop 1)) (lI (L.drop 1))) := Lib.hid rfl
  have HF : RowKit.Hid (opL L = fdL (c1 L) (lI (L.drop 1))) := Lib.hid rfl
  have HX0 : RowKit.Hid (Whole (w.alloc (.cells #[.int .i64 0, .int .i64 0, .int .i64 0, .int .i64 0, .int .i64 0, .int .i64 0, .int .i64 0, .int .i64 0, .int .i64 0, .int .i64 0, .int .i64 0, .int .i64 0, .int .i64 0, .int .i64 0, .int .i64 0, .int .i64 0, .int .i64 0, .bool false, .string ⟨#[]⟩, .int .i64 0] 53)) w.heap.size 53 (opCells zeroO)) := Lib.hid (Whole.new_ _ _ (opCells zeroO))
  have HC0 := Lib.hid (h.al (.cells #[.int .i64 0, .int .i64 0, .int .i64 0, .int .i64 0, .int .i64 0, .int .i64 0, .int .i64 0, .int .i64 0, .int .i64 0, .int .i64 0, .int .i64 0, .int .i64 0, .int .i64 0, .int .i64 0, .int .i64 0, .int .i64 0, .int .i64 0, .bool false, .string ⟨#[]⟩, .int .i64 0] 53))
  have HK0 : RowKit.Hid (Kept (At1 g) w (w.alloc (.cells #[.int .i64 0, .int .i64 0, .int .i64 0, .int .i64 0, .int .i64 0, .int .i64 0, .int .i64 0, .int .i64 0, .int .i64 0, .int .i64 0, .int .i64 0, .int .i64 0, .int .i64 0, .int .i64 0, .int .i64 0, .int .i64 0, .int .i64 0, .bool false, .string ⟨#[]⟩, .int .i64 0] 53))) := Lib.hid (Kept.of_below (below1 w _))
  have Hgb : RowKit.Hid (g < w.heap.size) := Lib.hid h.lt
  have hlt := byte_lt hb
  obtain ⟨k, gk0⟩ : ∃ z, c1 L = z := ⟨_, rfl⟩
  obtain ⟨⟨x1, x2⟩, gx⟩ : ∃ z, vI (L.drop 1) = z := ⟨_, rfl⟩
  obtain ⟨M, gM⟩ : ∃ z, lI (L.drop 1) = z := ⟨_, rfl⟩
  rw [gk0] at HN1 HV HF hlt hk
  rw [gx] at HN2 HV
  rw [gM] at HN2 HV HF hbM
  clear gx gM gk0 h hb
  subst hk
  rw [show fdV 7 (x1, x2) M = ⟨7, x1, x2, 0, 0, 0, 0, 0, 0, 0, 0, 0, 0, 0, 0, 0, 0, decide (c1 M ≠ 0), txT (M.drop 1), 0⟩ from rfl] at HV
  rw [show fdL 7 M = leT (M.drop 1) from rfl] at HF
  have HR1 := Lib.hid (fun W hc => cnumber_any lo g M W hc hbM)
  have HR2 := Lib.hid (fun W hc => rtext_rd lo g (M.drop 1) W hc (drop_lt hbM 1))
  obtain ⟨fx, gfx⟩ : ∃ z, c1 M = z := ⟨_, rfl⟩
  obtain ⟨tx, gtx⟩ : ∃ z, txT (M.drop 1) = z := ⟨_, rfl⟩
  rw [gfx] at HR1 HV
  rw [gtx] at HR2 HV
  have hfb : ((fx : Int) != 0) = decide (fx ≠ 0) := by
    by_cases q0 : fx = 0
    · subst q0; rfl
    · rw [decide_eq_true q0, bne_iff_ne]; omega
  have hfb2 : ((fx : Int) == 0) = !decide (fx ≠ 0) := by
    by_cases q0 : fx = 0
    · subst q0; rfl
    · rw [decide_eq_true q0]; simp; omega
  obtain ⟨fb, gfb⟩ : ∃ z, decide (fx ≠ 0) = z := ⟨_, rfl⟩
  rw [gfb] at HV hfb hfb2
  obtain ⟨fI, gfI⟩ : ∃ z : Int, (fx : Int) = z := ⟨_, rfl⟩
  rw [gfI] at HR1 hfb hfb2
  clear gfx gtx gfb gfI
  obtain ⟨kI, gkI⟩ : ∃ z : Int, ((7 : Nat) : Int) = z := ⟨_, rfl⟩
  rw [gkI] at HN1
  have GkI := Lib.hid gkI
  have q3 : (kI == 3) = false := by rw [← gkI]; rfl
  have q5 : (kI == 5) = false := by rw [← gkI]; rfl
  have q6 : (kI == 6) = false := by rw [← gkI]; rfl
  have q7 : (kI == 7) = true := by rw [← gkI]; rfl
  clear hbM
  go_enter Try.func74, Try.ntmps74
  go_upto_region 1 with fail
  obtain ⟨w0, gw0⟩ : ∃ z, w.alloc (.cells #[.int .i64 0, .int .i64 0, .int .i64 0, .int .i64 0, .int .i64 0, .int .i64 0, .int .i64 0, .int .i64 0, .int .i64 0, .int .i64 0, .int .i64 0, .int .i64 0, .int .i64 0, .int .i64 0, .int .i64 0, .int .i64 0, .int .i64 0, .bool false, .string ⟨#[]⟩, .int .i64 0] 53) = z := ⟨_, rfl⟩
  obtain ⟨b, gb⟩ : ∃ z, w.heap.size = z := ⟨_, rfl⟩
  rw [gw0] at HX0 HK0 HC0 ⊢
  rw [gb] at HX0 Hgb ⊢
  have Gb := Lib.hid gb
  clear gw0 gb
  go_wp2_with fail
  refine (HN1.out _ HC0.out).mono ?_
  rintro e w1 ⟨rfl, hcu, hgr⟩
  have HX1 := Lib.hid ((gk hgr).whole HX0.out (fun e => by have h1 : b = g := e; have := Hgb.out; omega))
  have HK1 := Lib.hid (HK0.out.trans (gk hgr))
  have HC1 := Lib.hid hcu
  clear hcu hgr HX0 HK0 HC0
  go_wp2_with fail
  refine (HN2.out _ HC1.out).mono ?_
  rintro e w2 ⟨rfl, hcu⟩
  have HX2 := Lib.hid (hcu.2.whole HX1.out (fun e => by have h1 : b = g := e; have := Hgb.out; omega))
  have HK2 := Lib.hid (HK1.out.trans hcu.2)
  have HC2 := Lib.hid hcu.1
  clear hcu HX1 HK1 HC1
  rename_i hK
  refine hK _ _ ?_
  refine wl_read (v := .agg (opCells (kO kI (x1, x2))).toArray) (some 10) rfl (by rfl) ?_ ?_
  · go_simp; rfl
  simp only [Act.put, stA_, st0_, st1_]
  refine wl_new 3 rfl rfl rfl 53 (.tmp 10) rfl rfl #[.int .i64 0, .int .i64 0, .int .i64 0, .int .i64 0, .int .i64 0, .int .i64 0, .int .i64 0, .int .i64 0, .int .i64 0, .int .i64 0, .int .i64 0, .int .i64 0, .int .i64 0, .int .i64 0, .int .i64 0, .int .i64 0, .int .i64 0, .bool false, .string ⟨#[]⟩, .int .i64 0] ?_ (opCells (kO kI (x1, x2))).toArray (by simp) rfl (by kernel_rfl) rfl (opCells_arr _) ?_
  · go_simp; (try with_reducible rfl)
  simp only [Act.put, stA_, st0_, st1_]
  have HY3 : RowKit.Hid (Whole (w2.alloc (.cells (opCells (kO kI (x1, x2))).toArray 53)) w2.heap.size 53 (opCells (kO kI (x1, x2)))) := Lib.hid (Whole.new_ _ _ _)
  have Hgb5 : RowKit.Hid (g < w2.heap.size ∧ b < w2.heap.size) := Lib.hid ⟨HC2.out.lt, HX2.out.lt⟩
  have HX3 := Lib.hid (HX2.out.al (.cells (opCells (kO kI (x1, x2))).toArray 53))
  have HK3 := Lib.hid (HK2.out.alloc (.cells (opCells (kO kI (x1, x2))).toArray 53))
  have HC3 := Lib.hid (HC2.out.al (.cells (opCells (kO kI (x1, x2))).toArray 53))
  obtain ⟨w3, gw3⟩ : ∃ z, w2.alloc (.cells (opCells (kO kI (x1, x2))).toArray 53) = z := ⟨_, rfl⟩
  obtain ⟨b5, gb5⟩ : ∃ z, w2.heap.size = z := ⟨_, rfl⟩
  rw [gw3] at HY3 HX3 HK3 HC3 ⊢
  rw [gb5] at HY3 Hgb5 ⊢
  clear gw3 gb5 HX2 HK2 HC2 hK
  have hb5 : RowKit.Hid (w.heap.size ≤ b5) := Lib.hid (by have := Gb.out; have := Hgb5.out.2; omega)
  have l0 : w3.cell? ⟨b5, 0, none⟩ = some (.int .i64 kI) := HY3.out.cell (i := 0) rfl
  go_wp2_with fail
  refine (HR1.out _ HC3.out).mono ?_
  rintro e w4 ⟨rfl, hcu, hgr⟩
  have HX4 := Lib.hid ((gk hgr).whole HX3.out (fun e => by have h1 : b = g := e; have := Hgb.out; omega))
  have HY4 := Lib.hid ((gk hgr).whole HY3.out (fun e => by have h1 : b5 = g := e; have := Hgb5.out; omega))
  have HK4 := Lib.hid (HK3.out.trans (gk hgr))
  have HC4 := Lib.hid hcu
  clear hcu hgr HX3 HY3 HK3 HC3
  go_wp2_with fail
  refine (HR2.out _ HC4.out).mono ?_
  rintro e w5 ⟨rfl, hcu⟩
  have HX5 := Lib.hid (hcu.2.whole HX4.out (fun e => by have h1 : b = g := e; have := Hgb.out; omega))
  have HY5 := Lib.hid (hcu.2.whole HY4.out (fun e => by have h1 : b5 = g := e; have := Hgb5.out; omega))
  have HK5 := Lib.hid (HK4.out.trans hcu.2)
  have HC5 := Lib.hid hcu.1
  clear hcu HX4 HY4 HK4 HC4
  have m1 := HY5.out.cell (i := 17) (v := .bool false) rfl
  have m2 := HY5.out.cell (i := 18) (v := .string ⟨#[]⟩) rfl
  have e1 := HY5.out.free 17
  have e2 := HY5.out.free 18
  go_upto_region 13 with fail
  clear m1 m2 e1 e2
  have HY6 := Lib.hid (HY5.out.set_ 17 (.bool fb))
  have HX6 := Lib.hid (HX5.out.far (p := ⟨b5, 17, none⟩) (show b ≠ b5 by have := Hgb5.out.2; omega) (.bool fb))
  have HC6 := Lib.hid (HC5.out.poke (i := 17) Hgb5.out.1 (.bool fb))
  have HK6 := Lib.hid (kept_poke (i := 17) HK5.out hb5.out (.bool fb))
  obtain ⟨w6, gw6⟩ : ∃ z, w5.setCell ⟨b5, 17, none⟩ (.bool fb) = z := ⟨_, rfl⟩
  rw [gw6] at HY6 HX6 HC6 HK6 ⊢
  clear gw6 HX5 HY5 HK5 HC5
  have HY7 := Lib.hid (HY6.out.set_ 18 (.string tx))
  have HX7 := Lib.hid (HX6.out.far (p := ⟨b5, 18, none⟩) (show b ≠ b5 by have := Hgb5.out.2; omega) (.string tx))
  have HC7 := Lib.hid (HC6.out.poke (i := 18) Hgb5.out.1 (.string tx))
  have HK7 := Lib.hid (kept_poke (i := 18) HK6.out hb5.out (.string tx))
  obtain ⟨w7, gw7⟩ : ∃ z, w6.setCell ⟨b5, 18, none⟩ (.string tx) = z := ⟨_, rfl⟩
  rw [gw7] at HY7 HX7 HC7 HK7 ⊢
  clear gw7 HX6 HY6 HK6 HC6
  have hk3 : kI = 7 := by rw [← GkI.out]; rfl
  subst hk3
  have HFz := HF
  replace HY7 : RowKit.Hid (Whole w7 b5 53 (opCells (⟨7, x1, x2, 0, 0, 0, 0, 0, 0, 0, 0, 0, 0, 0, 0, 0, 0, fb, tx, 0⟩ : OpT))) := HY7
  have HOV : RowKit.Hid (opV L = (⟨7, x1, x2, 0, 0, 0, 0, 0, 0, 0, 0, 0, 0, 0, 0, 0, 0, fb, tx, 0⟩ : OpT)) := Lib.hid (by rw [HV.out]; skip)
  obtain ⟨o9, go9⟩ : ∃ z, (⟨7, x1, x2, 0, 0, 0, 0, 0, 0, 0, 0, 0, 0, 0, 0, 0, 0, fb, tx, 0⟩ : OpT) = z := ⟨_, rfl⟩
  rw [go9] at HOV HY7
  clear go9
  refine wp_region_lit ?_
  refine wl_load (some 61) rfl (by rfl) 53 (.tmp 3) rfl b5 rfl 53 (opCells o9) _ HY7.out Try.underlying53 rfl (by kernel_rfl) ?_
  simp only [Act.put, stA_, st0_, st1_]
  refine wpList_store_row rfl 53 (.tmp 2) (.tmp 61) rfl b (opCells o9).toArray rfl rfl 53 (opCells zeroO).toArray HX7.out (by kernel_rfl) rfl (opCells_arr _) ?_
  have HXz : RowKit.Hid (Whole (w7.setRow b (opCells o9).toArray) b 53 (opCells o9)) := Lib.hid (Whole.row HX7.out (opCells o9))
  have HCz := Lib.hid (HC7.out.row Hgb.out (opCells o9).toArray)
  have HKz := Lib.hid (kept_in HK7.out (Nat.le_of_eq Gb.out) (kept_row (S := fun i => i = b) rfl (opCells o9).toArray))
  go_wp2
  exact ret_whole rfl b rfl HXz.out Try.underlying53 rfl (by kernel_rfl) rfl ⟨by rw [HOV.out], by rw [HFz.out]; exact HCz.out, HKz.out⟩
set_option maxRecDepth 100000 in
set_option maxHeartbeats 4000000 in
theorem rop_8 (lo g : Nat) (L : List Nat) (w : World) (h : CuAt lo w g L) (hb : ∀ b ∈ L, b < 256) (hk : c1 L = 8) :
    Calls Try.prog 74 #[.pointer (some ⟨g, 0, none⟩)] w fun e w' => e = .returned (.agg (opCells (opV L)).toArray) ∧ Cu1 lo w w' g (opL L) := by
  have HN1 := Lib.hid (fun W hc => cnumber_any lo g L W hc hb)
  have HN2 := Lib.hid (fun W hc => rname_any lo g (L.drop 1) W hc (drop_lt hb 1))
  have hbM := lI_lt (drop_lt hb 1)
  have HV : RowKit.Hid (opV L = fdV (c1 L) (vI (L.drop 1)) (lI (L.drop 1))) := Lib.hid rfl
  have HF : RowKit.Hid (opL L = fdL (c1 L) (lI (L.drop 1))) := Lib.hid rfl
  have HX0 : RowKit.Hid (Whole (w.alloc (.cells #[.int .i64 0, .int .i64 0, .int .i64 0, .int .i64 0, .int .i64 0, .int .i64 0, .int .i64 0, .int .i64 0, .int .i64 0, .int .i64 0, .int .i64 0, .int .i64 0, .int .i64 0, .int .i64 0, .int .i64 0, .int .i64 0, .int .i64 0, .bool false, .string ⟨#[]⟩, .int .i64 0] 53)) w.heap.size 53 (opCells zeroO)) := Lib.hid (Whole.new_ _ _ (opCells zeroO))
  have HC0 := Lib.hid (h.al (.cells #[.int .i64 0, .int .i64 0, .int .i64 0, .int .i64 0, .int .i64 0, .int .i64 0, .int .i64 0, .int .i64 0, .int .i64 0, .int .i64 0, .int .i64 0, .int .i64 0, .int .i64 0, .int .i64 0, .int .i64 0, .int .i64 0, .int .i64 0, .bool false, .string ⟨#[]⟩, .int .i64 0] 53))
  have HK0 : RowKit.Hid (Kept (At1 g) w (w.alloc (.cells #[.int .i64 0, .int .i64 0, .int .i64 0, .int .i64 0, .int .i64 0, .int .i64 0, .int .i64 0, .int .i64 0, .int .i64 0, .int .i64 0, .int .i64 0, .int .i64 0, .int .i64 0, .int .i64 0, .int .i64 0, .int .i64 0, .int .i64 0, .bool false, .string ⟨#[]⟩, .int .i64 0] 53))) := Lib.hid (Kept.of_below (below1 w _))
  have Hgb : RowKit.Hid (g < w.heap.size) := Lib.hid h.lt
  have hlt := byte_lt hb
  obtain ⟨k, gk0⟩ : ∃ z, c1 L = z := ⟨_, rfl⟩
  obtain ⟨⟨x1, x2⟩, gx⟩ : ∃ z, vI (L.drop 1) = z := ⟨_, rfl⟩
  obtain ⟨M, gM⟩ : ∃ z, lI (L.drop 1) = z := ⟨_, rfl⟩
  rw [gk0] at HN1 HV HF hlt hk
  rw [gx] at HN2 HV
  rw [gM] at HN2 HV HF hbM
  clear gx gM gk0 h hb
  subst hk
  rw [show fdV 8 (x1, x2) M = ⟨8, x1, x2, 0, 0, 0, 0, 0, 0, 0, 0, 0, 0, 0, 0, 0, 0, decide (c1 M ≠ 0), ⟨#[]⟩, vM (M.drop 1)⟩ from rfl] at HV
  rw [show fdL 8 M = lM (M.drop 1) from rfl] at HF
  have HR1 := Lib.hid (fun W hc => cnumber_any lo g M W hc hbM)
  have HR2 := Lib.hid (fun W hc => takennum_any lo g (M.drop 1) W hc (drop_lt hbM 1))
  obtain ⟨fx, gfx⟩ : ∃ z, c1 M = z := ⟨_, rfl⟩
  obtain ⟨tx, gtx⟩ : ∃ z, vM (M.drop 1) = z := ⟨_, rfl⟩
  rw [gfx] at HR1 HV
  rw [gtx] at HR2 HV
  have hfb : ((fx : Int) != 0) = decide (fx ≠ 0) := by
    by_cases q0 : fx = 0
    · subst q0; rfl
    · rw [decide_eq_true q0, bne_iff_ne]; omega
  have hfb2 : ((fx : Int) == 0) = !decide (fx ≠ 0) := by
    by_cases q0 : fx = 0
    · subst q0; rfl
    · rw [decide_eq_true q0]; simp; omega
  obtain ⟨fb, gfb⟩ : ∃ z, decide (fx ≠ 0) = z := ⟨_, rfl⟩
  rw [gfb] at HV hfb hfb2
  obtain ⟨fI, gfI⟩ : ∃ z : Int, (fx : Int) = z := ⟨_, rfl⟩
  rw [gfI] at HR1 hfb hfb2
  clear gfx gtx gfb gfI
  obtain ⟨kI, gkI⟩ : ∃ z : Int, ((8 : Nat) : Int) = z := ⟨_, rfl⟩
  rw [gkI] at HN1
  have GkI := Lib.hid gkI
  have q3 : (kI == 3) = false := by rw [← gkI]; rfl
  have q5 : (kI == 5) = false := by rw [← gkI]; rfl
  have q6 : (kI == 6) = false := by rw [← gkI]; rfl
  have q7 : (kI == 7) = false := by rw [← gkI]; rfl
  have q8 : (kI == 8) = true := by rw [← gkI]; rfl
  clear hbM
  go_enter Try.func74, Try.ntmps74
  go_upto_region 1 with fail
  obtain ⟨w0, gw0⟩ : ∃ z, w.alloc (.cells #[.int .i64 0, .int .i64 0, .int .i64 0, .int .i64 0, .int .i64 0, .int .i64 0, .int .i64 0, .int .i64 0, .int .i64 0, .int .i64 0, .int .i64 0, .int .i64 0, .int .i64 0, .int .i64 0, .int .i64 0, .int .i64 0, .int .i64 0, .bool false, .string ⟨#[]⟩, .int .i64 0] 53) = z := ⟨_, rfl⟩
  obtain ⟨b, gb⟩ : ∃ z, w.heap.size = z := ⟨_, rfl⟩
  rw [gw0] at HX0 HK0 HC0 ⊢
  rw [gb] at HX0 Hgb ⊢
  have Gb := Lib.hid gb
  clear gw0 gb
  go_wp2_with fail
  refine (HN1.out _ HC0.out).mono ?_
  rintro e w1 ⟨rfl, hcu, hgr⟩
  have HX1 := Lib.hid ((gk hgr).whole HX0.out (fun e => by have h1 : b = g := e; have := Hgb.out; omega))
  have HK1 := Lib.hid (HK0.out.trans (gk hgr))
  have HC1 := Lib.hid hcu
  clear hcu hgr HX0 HK0 HC0
  go_wp2_with fail
  refine (HN2.out _ HC1.out).mono ?_
  rintro e w2 ⟨rfl, hcu⟩
  have HX2 := Lib.hid (hcu.2.whole HX1.out (fun e => by have h1 : b = g := e; have := Hgb.out; omega))
  have HK2 := Lib.hid (HK1.out.trans hcu.2)
  have HC2 := Lib.hid hcu.1
  clear hcu HX1 HK1 HC1
  rename_i hK
  refine hK _ _ ?_
  refine wl_read (v := .agg (opCells (kO kI (x1, x2))).toArray) (some 10) rfl (by rfl) ?_ ?_
  · go_simp; rfl
  simp only [Act.put, stA_, st0_, st1_]
  refine wl_new 3 rfl rfl rfl 53 (.tmp 10) rfl rfl #[.int .i64 0, .int .i64 0, .int .i64 0, .int .i64 0, .int .i64 0, .int .i64 0, .int .i64 0, .int .i64 0, .int .i64 0, .int .i64 0, .int .i64 0, .int .i64 0, .int .i64 0, .int .i64 0, .int .i64 0, .int .i64 0, .int .i64 0, .bool false, .string ⟨#[]⟩, .int .i64 0] ?_ (opCells (kO kI (x1, x2))).toArray (by simp) rfl (by kernel_rfl) rfl (opCells_arr _) ?_
  · go_simp; (try with_reducible rfl)
  simp only [Act.put, stA_, st0_, st1_]
  have HY3 : RowKit.Hid (Whole (w2.alloc (.cells (opCells (kO kI (x1, x2))).toArray 53)) w2.heap.size 53 (opCells (kO kI (x1, x2)))) := Lib.hid (Whole.new_ _ _ _)
  have Hgb5 : RowKit.Hid (g < w2.heap.size ∧ b < w2.heap.size) := Lib.hid ⟨HC2.out.lt, HX2.out.lt⟩
  have HX3 := Lib.hid (HX2.out.al (.cells (opCells (kO kI (x1, x2))).toArray 53))
  have HK3 := Lib.hid (HK2.out.alloc (.cells (opCells (kO kI (x1, x2))).toArray 53))
  have HC3 := Lib.hid (HC2.out.al (.cells (opCells (kO kI (x1, x2))).toArray 53))
  obtain ⟨w3, gw3⟩ : ∃ z, w2.alloc (.cells (opCells (kO kI (x1, x2))).toArray 53) = z := ⟨_, rfl⟩
  obtain ⟨b5, gb5⟩ : ∃ z, w2.heap.size = z := ⟨_, rfl⟩
  rw [gw3] at HY3 HX3 HK3 HC3 ⊢
  rw [gb5] at HY3 Hgb5 ⊢
  clear gw3 gb5 HX2 HK2 HC2 hK
  have hb5 : RowKit.Hid (w.heap.size ≤ b5) := Lib.hid (by have := Gb.out; have := Hgb5.out.2; omega)
  have l0 : w3.cell? ⟨b5, 0, none⟩ = some (.int .i64 kI) := HY3.out.cell (i := 0) rfl
  go_wp2_with fail
  refine (HR1.out _ HC3.out).mono ?_
  rintro e w4 ⟨rfl, hcu, hgr⟩
  have HX4 := Lib.hid ((gk hgr).whole HX3.out (fun e => by have h1 : b = g := e; have := Hgb.out; omega))
  have HY4 := Lib.hid ((gk hgr).whole HY3.out (fun e => by have h1 : b5 = g := e; have := Hgb5.out; omega))
  have HK4 := Lib.hid (HK3.out.trans (gk hgr))
  have HC4 := Lib.hid hcu
  clear hcu hgr HX3 HY3 HK3 HC3
  go_wp2_with fail
  refine (HR2.out _ HC4.out).mono ?_
  rintro e w5 ⟨rfl, hcu⟩
  have HX5 := Lib.hid (hcu.2.whole HX4.out (fun e => by have h1 : b = g := e; have := Hgb.out; omega))
  have HY5 := Lib.hid (hcu.2.whole HY4.out (fun e => by have h1 : b5 = g := e; have := Hgb5.out; omega))
  have HK5 := Lib.hid (HK4.out.trans hcu.2)
  have HC5 := Lib.hid hcu.1
  clear hcu HX4 HY4 HK4 HC4
  have m1 := HY5.out.cell (i := 17) (v := .bool false) rfl
  have m2 := HY5.out.cell (i := 19) (v := .int .i64 0) rfl
  have e1 := HY5.out.free 17
  have e2 := HY5.out.free 19
  go_upto_region 13 with fail
  clear m1 m2 e1 e2
  have HY6 := Lib.hid (HY5.out.set_ 17 (.bool fb))
  have HX6 := Lib.hid (HX5.out.far (p := ⟨b5, 17, none⟩) (show b ≠ b5 by have := Hgb5.out.2; omega) (.bool fb))
  have HC6 := Lib.hid (HC5.out.poke (i := 17) Hgb5.out.1 (.bool fb))
  have HK6 := Lib.hid (kept_poke (i := 17) HK5.out hb5.out (.bool fb))
  obtain ⟨w6, gw6⟩ : ∃ z, w5.setCell ⟨b5, 17, none⟩ (.bool fb) = z := ⟨_, rfl⟩
  rw [gw6] at HY6 HX6 HC6 HK6 ⊢
  clear gw6 HX5 HY5 HK5 HC5
  have HY7 := Lib.hid (HY6.out.set_ 19 (.int .i64 tx))
  have HX7 := Lib.hid (HX6.out.far (p := ⟨b5, 19, none⟩) (show b ≠ b5 by have := Hgb5.out.2; omega) (.int .i64 tx))
  have HC7 := Lib.hid (HC6.out.poke (i := 19) Hgb5.out.1 (.int .i64 tx))
  have HK7 := Lib.hid (kept_poke (i := 19) HK6.out hb5.out (.int .i64 tx))
  obtain ⟨w7, gw7⟩ : ∃ z, w6.setCell ⟨b5, 19, none⟩ (.int .i64 tx) = z := ⟨_, rfl⟩
  rw [gw7] at HY7 HX7 HC7 HK7 ⊢
  clear gw7 HX6 HY6 HK6 HC6
  have hk3 : kI = 8 := by rw [← GkI.out]; rfl
  subst hk3
  have HFz := HF
  replace HY7 : RowKit.Hid (Whole w7 b5 53 (opCells (⟨8, x1, x2, 0, 0, 0, 0, 0, 0, 0, 0, 0, 0, 0, 0, 0, 0, fb, ⟨#[]⟩, tx⟩ : OpT))) := HY7
  have HOV : RowKit.Hid (opV L = (⟨8, x1, x2, 0, 0, 0, 0, 0, 0, 0, 0, 0, 0, 0, 0, 0, 0, fb, ⟨#[]⟩, tx⟩ : OpT)) := Lib.hid (by rw [HV.out]; skip)
  obtain ⟨o9, go9⟩ : ∃ z, (⟨8, x1, x2, 0, 0, 0, 0, 0, 0, 0, 0, 0, 0, 0, 0, 0, 0, fb, ⟨#[]⟩, tx⟩ : OpT) = z := ⟨_, rfl⟩
  rw [go9] at HOV HY7
  clear go9
  refine wp_region_lit ?_
  refine wl_load (some 61) rfl (by rfl) 53 (.tmp 3) rfl b5 rfl 53 (opCells o9) _ HY7.out Try.underlying53 rfl (by kernel_rfl) ?_
  simp only [Act.put, stA_, st0_, st1_]
  refine wpList_store_row rfl 53 (.tmp 2) (.tmp 61) rfl b (opCells o9).toArray rfl rfl 53 (opCells zeroO).toArray HX7.out (by kernel_rfl) rfl (opCells_arr _) ?_
  have HXz : RowKit.Hid (Whole (w7.setRow b (opCells o9).toArray) b 53 (opCells o9)) := Lib.hid (Whole.row HX7.out (opCells o9))
  have HCz := Lib.hid (HC7.out.row Hgb.out (opCells o9).toArray)
  have HKz := Lib.hid (kept_in HK7.out (Nat.le_of_eq Gb.out) (kept_row (S := fun i => i = b) rfl (opCells o9).toArray))
  go_wp2
  exact ret_whole rfl b rfl HXz.out Try.underlying53 rfl (by kernel_rfl) rfl ⟨by rw [HOV.out], by rw [HFz.out]; exact HCz.out, HKz.out⟩
set_option maxRecDepth 100000 in
set_option maxHeartbeats 4000000 in
theorem rop_5 (lo g : Nat) (L : List Nat) (w : World) (h : CuAt lo w g L) (hb : ∀ b ∈ L, b < 256) (hk : c1 L = 5) :
    Calls Try.prog 74 #[.pointer (some ⟨g, 0, none⟩)] w fun e w' => e = .returned (.agg (opCells (opV L)).toArray) ∧ Cu1 lo w w' g (opL L) := by
  have HN1 := Lib.hid (fun W hc => cnumber_any lo g L W hc hb)
  have HN2 := Lib.hid (fun W hc => rname_any lo g (L.drop 1) W hc (drop_lt hb 1))
  have hbM := lI_lt (drop_lt hb 1)
  have HV : RowKit.Hid (opV L = fdV (c1 L) (vI (L.drop 1)) (lI (L.drop 1))) := Lib.hid rfl
  have HF : RowKit.Hid (opL L = fdL (c1 L) (lI (L.drop 1))) := Lib.hid rfl
  have HX0 : RowKit.Hid (Whole (w.alloc (.cells #[.int .i64 0, .int .i64 0, .int .i64 0, .int .i64 0, .int .i64 0, .int .i64 0, .int .i64 0, .int .i64 0, .int .i64 0, .int .i64 0, .int .i64 0, .int .i64 0, .int .i64 0, .int .i64 0, .int .i64 0, .int .i64 0, .int .i64 0, .bool false, .string ⟨#[]⟩, .int .i64 0] 53)) w.heap.size 53 (opCells zeroO)) := Lib.hid (Whole.new_ _ _ (opCells zeroO))
  have HC0 := Lib.hid (h.al (.cells #[.int .i64 0, .int .i64 0, .int .i64 0, .int .i64 0, .int .i64 0, .int .i64 0, .int .i64 0, .int .i64 0, .int .i64 0, .int .i64 0, .int .i64 0, .int .i64 0, .int .i64 0, .int .i64 0, .int .i64 0, .int .i64 0, .int .i64 0, .bool false, .string ⟨#[]⟩, .int .i64 0] 53))
  have HK0 : RowKit.Hid (Kept (At1 g) w (w.alloc (.cells #[.int .i64 0, .int .i64 0, .int .i64 0, .int .i64 0, .int .i64 0, .int .i64 0, .int .i64 0, .int .i64 0, .int .i64 0, .int .i64 0, .int .i64 0, .int .i64 0, .int .i64 0, .int .i64 0, .int .i64 0, .int .i64 0, .int .i64 0, .bool false, .string ⟨#[]⟩, .int .i64 0] 53))) := Lib.hid (Kept.of_below (below1 w _))
  have Hgb : RowKit.Hid (g < w.heap.size) := Lib.hid h.lt
  have hlt := byte_lt hb
  obtain ⟨k, gk0⟩ : ∃ z, c1 L = z := ⟨_, rfl⟩
  obtain ⟨⟨x1, x2⟩, gx⟩ : ∃ z, vI (L.drop 1) = z := ⟨_, rfl⟩
  obtain ⟨M, gM⟩ : ∃ z, lI (L.drop 1) = z := ⟨_, rfl⟩
  rw [gk0] at HN1 HV HF hlt hk
  rw [gx] at HN2 HV
  rw [gM] at HN2 HV HF hbM
  clear gx gM gk0 h hb
  subst hk
  rw [show fdV 5 (x1, x2) M = ⟨5, x1, x2, (vI M).1, (vI M).2, (vI (lI M)).1, (vI (lI M)).2, 0, 0, 0, 0, 0, 0, 0, 0, 0, 0, false, ⟨#[]⟩, (c1 (lI (lI M)) : Int)⟩ from rfl] at HV
  rw [show fdL 5 M = (lI (lI M)).drop 1 from rfl] at HF
  have HR1 := Lib.hid (fun W hc => rname_any lo g M W hc hbM)
  have HR2 := Lib.hid (fun W hc => rname_any lo g (lI M) W hc (lI_lt hbM))
  have HR3 := Lib.hid (fun W hc => cnumber_any lo g (lI (lI M)) W hc (lI_lt (lI_lt hbM)))
  obtain ⟨⟨y1, y2⟩, gy⟩ : ∃ z, vI M = z := ⟨_, rfl⟩
  obtain ⟨⟨z1, z2⟩, gz⟩ : ∃ z, vI (lI M) = z := ⟨_, rfl⟩
  obtain ⟨nx_, gn⟩ : ∃ z, c1 (lI (lI M)) = z := ⟨_, rfl⟩
  rw [gy] at HR1 HV
  rw [gz] at HR2 HV
  rw [gn] at HR3 HV
  clear gy gz gn
  obtain ⟨kI, gkI⟩ : ∃ z : Int, ((5 : Nat) : Int) = z := ⟨_, rfl⟩
  rw [gkI] at HN1
  have GkI := Lib.hid gkI
  have q3 : (kI == 3) = false := by rw [← gkI]; rfl
  have q5 : (kI == 5) = true := by rw [← gkI]; rfl
  clear hbM
  go_enter Try.func74, Try.ntmps74
  go_upto_region 1 with fail
  obtain ⟨w0, gw0⟩ : ∃ z, w.alloc (.cells #[.int .i64 0, .int .i64 0, .int .i64 0, .int .i64 0, .int .i64 0, .int .i64 0, .int .i64 0, .int .i64 0, .int .i64 0, .int .i64 0, .int .i64 0, .int .i64 0, .int .i64 0, .int .i64 0, .int .i64 0, .int .i64 0, .int .i64 0, .bool false, .string ⟨#[]⟩, .int .i64 0] 53) = z := ⟨_, rfl⟩
  obtain ⟨b, gb⟩ : ∃ z, w.heap.size = z := ⟨_, rfl⟩
  rw [gw0] at HX0 HK0 HC0 ⊢
  rw [gb] at HX0 Hgb ⊢
  have Gb := Lib.hid gb
  clear gw0 gb
  go_wp2_with fail
  refine (HN1.out _ HC0.out).mono ?_
  rintro e w1 ⟨rfl, hcu, hgr⟩
  have HX1 := Lib.hid ((gk hgr).whole HX0.out (fun e => by have h1 : b = g := e; have := Hgb.out; omega))
  have HK1 := Lib.hid (HK0.out.trans (gk hgr))
  have HC1 := Lib.hid hcu
  clear hcu hgr HX0 HK0 HC0
  go_wp2_with fail
  refine (HN2.out _ HC1.out).mono ?_
  rintro e w2 ⟨rfl, hcu⟩
  have HX2 := Lib.hid (hcu.2.whole HX1.out (fun e => by have h1 : b = g := e; have := Hgb.out; omega))
  have HK2 := Lib.hid (HK1.out.trans hcu.2)
  have HC2 := Lib.hid hcu.1
  clear hcu HX1 HK1 HC1
  rename_i hK
  refine hK _ _ ?_
  refine wl_read (v := .agg (opCells (kO kI (x1, x2))).toArray) (some 10) rfl (by rfl) ?_ ?_
  · go_simp; rfl
  simp only [Act.put, stA_, st0_, st1_]
  refine wl_new 3 rfl rfl rfl 53 (.tmp 10) rfl rfl #[.int .i64 0, .int .i64 0, .int .i64 0, .int .i64 0, .int .i64 0, .int .i64 0, .int .i64 0, .int .i64 0, .int .i64 0, .int .i64 0, .int .i64 0, .int .i64 0, .int .i64 0, .int .i64 0, .int .i64 0, .int .i64 0, .int .i64 0, .bool false, .string ⟨#[]⟩, .int .i64 0] ?_ (opCells (kO kI (x1, x2))).toArray (by simp) rfl (by kernel_rfl) rfl (opCells_arr _) ?_
  · go_simp; (try with_reducible rfl)
  simp only [Act.put, stA_, st0_, st1_]
  have HY3 : RowKit.Hid (Whole (w2.alloc (.cells (opCells (kO kI (x1, x2))).toArray 53)) w2.heap.size 53 (opCells (kO kI (x1, x2)))) := Lib.hid (Whole.new_ _ _ _)
  have Hgb5 : RowKit.Hid (g < w2.heap.size ∧ b < w2.heap.size) := Lib.hid ⟨HC2.out.lt, HX2.out.lt⟩
  have HX3 := Lib.hid (HX2.out.al (.cells (opCells (kO kI (x1, x2))).toArray 53))
  have HK3 := Lib.hid (HK2.out.alloc (.cells (opCells (kO kI (x1, x2))).toArray 53))
  have HC3 := Lib.hid (HC2.out.al (.cells (opCells (kO kI (x1, x2))).toArray 53))
  obtain ⟨w3, gw3⟩ : ∃ z, w2.alloc (.cells (opCells (kO kI (x1, x2))).toArray 53) = z := ⟨_, rfl⟩
  obtain ⟨b5, gb5⟩ : ∃ z, w2.heap.size = z := ⟨_, rfl⟩
  rw [gw3] at HY3 HX3 HK3 HC3 ⊢
  rw [gb5] at HY3 Hgb5 ⊢
  clear gw3 gb5 HX2 HK2 HC2 hK
  have hb5 : RowKit.Hid (w.heap.size ≤ b5) := Lib.hid (by have := Gb.out; have := Hgb5.out.2; omega)
  have l0 : w3.cell? ⟨b5, 0, none⟩ = some (.int .i64 kI) := HY3.out.cell (i := 0) rfl
  go_upto_region 6 with fail
  clear l0 q3 q5
  have hD : Below w3.heap.size w3 w3.drew := below_drewN w3.heap.size w3 1
  have HX4 := Lib.hid (HX3.out.bl hD)
  have HY4 := Lib.hid (HY3.out.bl hD)
  have HC4 := Lib.hid (HC3.out.bl hD)
  have HK4 := Lib.hid (HK3.out.trans (Kept.of_below hD))
  clear hD HX3 HY3 HC3 HK3
  refine wp_region_reg (fun i => At1 g i ∨ i = b5) (by kernel_rfl) ?_
  refine opR_ 0 23 (v := ?_) ?_ ?_; rotate_left
  · intro w' hw'; go_simp; (try with_reducible rfl)
  simp only [st0_, st1_]
  refine opR_ 2 25 (v := ?_) ?_ ?_; rotate_left
  · intro w' hw'; go_simp; (try with_reducible rfl)
  simp only [st0_, st1_]
  refine opR_ 4 27 (v := ?_) ?_ ?_; rotate_left
  · intro w' hw'; go_simp; (try with_reducible rfl)
  simp only [st0_, st1_]
  refine opR_ 5 28 (v := ?_) ?_ ?_; rotate_left
  · intro w' hw'; go_simp; (try with_reducible rfl)
  simp only [st0_, st1_]
  refine opR_ 6 29 (v := ?_) ?_ ?_; rotate_left
  · intro w' hw'; go_simp; (try with_reducible rfl)
  simp only [st0_, st1_]
  apply wpR_call 1 (some 24)
  · rfl
  · rfl
  · kernel_rfl
  · rfl
  · intro w'; go_simp; first | done | exact ⟨rfl, rfl⟩ | with_reducible rfl
  intro w' hw'
  have HCa := HC4.out.bl hw'
  refine (HR1.out _ HCa).mono ?_
  rintro e w5 ⟨rfl, hcu, hkk⟩
  refine ⟨_, rfl, hkk.wider (fun i _ e => .inl e), ?_⟩
  have HX5 := Lib.hid (hkk.whole (HX4.out.bl hw') (fun e => by have h1 : b = g := e; have := Hgb.out; omega))
  have HY5 := Lib.hid (hkk.whole (HY4.out.bl hw') (fun e => by have h1 : b5 = g := e; have := Hgb5.out; omega))
  have HK5 := Lib.hid ((HK4.out.trans (Kept.of_ext hw')).trans hkk)
  have HC5 := Lib.hid hcu
  clear hw' hcu hkk HCa HX4 HY4 HK4 HC4
  simp only [Act.put, stA_, st0_, st1_]
  refine opR_ 8 31 (v := ?_) ?_ ?_; rotate_left
  · intro w' hw'; go_simp; (try with_reducible rfl)
  simp only [st0_, st1_]
  apply wpR_call 3 (some 26)
  · rfl
  · rfl
  · kernel_rfl
  · rfl
  · intro w'; go_simp; first | done | exact ⟨rfl, rfl⟩ | with_reducible rfl
  intro w' hw'
  have HCa := HC5.out.bl hw'
  refine (HR2.out _ HCa).mono ?_
  rintro e w6 ⟨rfl, hcu, hkk⟩
  refine ⟨_, rfl, hkk.wider (fun i _ e => .inl e), ?_⟩
  have HX6 := Lib.hid (hkk.whole (HX5.out.bl hw') (fun e => by have h1 : b = g := e; have := Hgb.out; omega))
  have HY6 := Lib.hid (hkk.whole (HY5.out.bl hw') (fun e => by have h1 : b5 = g := e; have := Hgb5.out; omega))
  have HK6 := Lib.hid ((HK5.out.trans (Kept.of_ext hw')).trans hkk)
  have HC6 := Lib.hid hcu
  clear hw' hcu hkk HCa HX5 HY5 HK5 HC5
  simp only [Act.put, stA_, st0_, st1_]
  apply wpR_call 7 (some 30)
  · rfl
  · rfl
  · kernel_rfl
  · rfl
  · intro w'; go_simp; first | done | exact ⟨rfl, rfl⟩ | with_reducible rfl
  intro w' hw'
  have HCa := HC6.out.bl hw'
  refine (HR3.out _ HCa).mono ?_
  rintro e w7 ⟨rfl, hcu, hgr⟩
  have hkk := gk hgr
  refine ⟨_, rfl, hkk.wider (fun i _ e => .inl e), ?_⟩
  have HX7 := Lib.hid (hkk.whole (HX6.out.bl hw') (fun e => by have h1 : b = g := e; have := Hgb.out; omega))
  have HY7 := Lib.hid (hkk.whole (HY6.out.bl hw') (fun e => by have h1 : b5 = g := e; have := Hgb5.out; omega))
  have HK7 := Lib.hid ((HK6.out.trans (Kept.of_ext hw')).trans hkk)
  have HC7 := Lib.hid hcu
  clear hw' hcu hkk HCa HX6 HY6 HK6 HC6 hgr
  simp only [Act.put, stA_, st0_, st1_]
  apply wpR_store 9
  · rfl
  · rfl
  · kernel_rfl
  · rfl
  intro w' hw'
  have hY := HY7.out.bl hw'
  refine ⟨w'.setCells b5 3 [.int .i64 y1, .int .i64 y2], store_mid_run 47 (.tmp 31) (.tmp 24) rfl b5 3 rfl [.int .i64 y1, .int .i64 y2] rfl (hY.there_ 3 2 (by show 5 ≤ 20; decide)) (by kernel_rfl) (by simp [Value.oneCell']), kept_setCells (.inr rfl) 3 [.int .i64 y1, .int .i64 y2], ?_⟩
  have HY8 := Lib.hid (hY.cells_ [.int .i64 y1, .int .i64 y2] 3 w' _ (by show 5 ≤ 20; decide))
  have HX8 := Lib.hid ((HX7.out.bl hw').cells_far (show b ≠ b5 by have := Hgb5.out.2; omega) 3 [.int .i64 y1, .int .i64 y2])
  have HC8 := Lib.hid ((HC7.out.bl hw').cells Hgb5.out.1 3 [.int .i64 y1, .int .i64 y2])
  have HK8 := Lib.hid (kept_in (HK7.out.trans (Kept.of_ext hw')) hb5.out (kept_setCells (S := fun i => i = b5) rfl 3 [.int .i64 y1, .int .i64 y2]))
  obtain ⟨w8, gw8⟩ : ∃ z, w'.setCells b5 3 [.int .i64 y1, .int .i64 y2] = z := ⟨_, rfl⟩
  rw [gw8] at HY8 HX8 HC8 HK8 ⊢
  clear gw8 HX7 HY7 HK7 HC7 hw' hY
  try simp only [Act.put, stA_, st0_, st1_]
  refine opR_ 10 32 (v := ?_) ?_ ?_; rotate_left
  · intro w' hw'; go_simp; (try with_reducible rfl)
  simp only [st0_, st1_]
  apply wpR_store 11
  · rfl
  · rfl
  · kernel_rfl
  · rfl
  intro w' hw'
  have hY := HY8.out.bl hw'
  refine ⟨w'.setCells b5 5 [.int .i64 z1, .int .i64 z2], store_mid_run 47 (.tmp 32) (.tmp 26) rfl b5 5 rfl [.int .i64 z1, .int .i64 z2] rfl (hY.there_ 5 2 (by show 7 ≤ 20; decide)) (by kernel_rfl) (by simp [Value.oneCell']), kept_setCells (.inr rfl) 5 [.int .i64 z1, .int .i64 z2], ?_⟩
  have HY9 := Lib.hid (hY.cells_ [.int .i64 z1, .int .i64 z2] 5 w' _ (by show 7 ≤ 20; decide))
  have HX9 := Lib.hid ((HX8.out.bl hw').cells_far (show b ≠ b5 by have := Hgb5.out.2; omega) 5 [.int .i64 z1, .int .i64 z2])
  have HC9 := Lib.hid ((HC8.out.bl hw').cells Hgb5.out.1 5 [.int .i64 z1, .int .i64 z2])
  have HK9 := Lib.hid (kept_in (HK8.out.trans (Kept.of_ext hw')) hb5.out (kept_setCells (S := fun i => i = b5) rfl 5 [.int .i64 z1, .int .i64 z2]))
  obtain ⟨w9, gw9⟩ : ∃ z, w'.setCells b5 5 [.int .i64 z1, .int .i64 z2] = z := ⟨_, rfl⟩
  rw [gw9] at HY9 HX9 HC9 HK9 ⊢
  clear gw9 HX8 HY8 HK8 HC8 hw' hY
  try simp only [Act.put, stA_, st0_, st1_]
  refine opR_ 12 33 (v := ?_) ?_ ?_; rotate_left
  · intro w' hw'; go_simp; (try with_reducible rfl)
  simp only [st0_, st1_]
  apply wpR_store 13
  · rfl
  · rfl
  · kernel_rfl
  · rfl
  intro w' hw'
  have hY := HY9.out.bl hw'
  have m1 := hY.cell (i := 19) (v := .int .i64 0) rfl
  have e1 := hY.free 19
  refine ⟨w'.setCell ⟨b5, 19, none⟩ (.int .i64 (nx_ : Int)), ?_, Kept.setCell (Kept.refl _ w') (p := ⟨b5, 19, none⟩) (.inl (.inr rfl)) _, ?_⟩
  · go_simp
  have HY10 := Lib.hid (hY.set_ 19 (.int .i64 (nx_ : Int)))
  have HX10 := Lib.hid ((HX9.out.bl hw').far (p := ⟨b5, 19, none⟩) (show b ≠ b5 by have := Hgb5.out.2; omega) (.int .i64 (nx_ : Int)))
  have HC10 := Lib.hid ((HC9.out.bl hw').poke (i := 19) Hgb5.out.1 (.int .i64 (nx_ : Int)))
  have HK10 := Lib.hid (kept_poke (i := 19) (HK9.out.trans (Kept.of_ext hw')) hb5.out (.int .i64 (nx_ : Int)))
  obtain ⟨w10, gw10⟩ : ∃ z, w'.setCell ⟨b5, 19, none⟩ (.int .i64 (nx_ : Int)) = z := ⟨_, rfl⟩
  rw [gw10] at HY10 HX10 HC10 HK10 ⊢
  clear gw10 HX9 HY9 HK9 HC9 hw' hY m1 e1
  try simp only [Act.put, stA_, st0_, st1_]
  refine wpR_done (by kernel_rfl) ?_ _
  intro wE hwE
  have HX11 := Lib.hid (HX10.out.bl hwE)
  have HY11 := Lib.hid (HY10.out.bl hwE)
  have HC11 := Lib.hid (HC10.out.bl hwE)
  have HK11 := Lib.hid (HK10.out.trans (Kept.of_ext hwE))
  clear hwE HX10 HY10 HC10 HK10
  obtain ⟨w11, gw11⟩ : ∃ z, wE = z := ⟨_, rfl⟩
  rw [gw11] at HX11 HY11 HC11 HK11 ⊢
  clear gw11
  go_upto_region 13 with fail
  have hk3 : kI = 5 := by rw [← GkI.out]; rfl
  subst hk3
  have HFz := HF
  replace HY11 : RowKit.Hid (Whole w11 b5 53 (opCells (⟨5, x1, x2, y1, y2, z1, z2, 0, 0, 0, 0, 0, 0, 0, 0, 0, 0, false, ⟨#[]⟩, (nx_ : Int)⟩ : OpT))) := HY11
  have HOV : RowKit.Hid (opV L = (⟨5, x1, x2, y1, y2, z1, z2, 0, 0, 0, 0, 0, 0, 0, 0, 0, 0, false, ⟨#[]⟩, (nx_ : Int)⟩ : OpT)) := Lib.hid (by rw [HV.out]; skip)
  obtain ⟨o9, go9⟩ : ∃ z, (⟨5, x1, x2, y1, y2, z1, z2, 0, 0, 0, 0, 0, 0, 0, 0, 0, 0, false, ⟨#[]⟩, (nx_ : Int)⟩ : OpT) = z := ⟨_, rfl⟩
  rw [go9] at HOV HY11
  clear go9
  refine wp_region_lit ?_
  refine wl_load (some 61) rfl (by rfl) 53 (.tmp 3) rfl b5 rfl 53 (opCells o9) _ HY11.out Try.underlying53 rfl (by kernel_rfl) ?_
  simp only [Act.put, stA_, st0_, st1_]
  refine wpList_store_row rfl 53 (.tmp 2) (.tmp 61) rfl b (opCells o9).toArray rfl rfl 53 (opCells zeroO).toArray HX11.out (by kernel_rfl) rfl (opCells_arr _) ?_
  have HXz : RowKit.Hid (Whole (w11.setRow b (opCells o9).toArray) b 53 (opCells o9)) := Lib.hid (Whole.row HX11.out (opCells o9))
  have HCz := Lib.hid (HC11.out.row Hgb.out (opCells o9).toArray)
  have HKz := Lib.hid (kept_in HK11.out (Nat.le_of_eq Gb.out) (kept_row (S := fun i => i = b) rfl (opCells o9).toArray))
  go_wp2
  exact ret_whole rfl b rfl HXz.out Try.underlying53 rfl (by kernel_rfl) rfl ⟨by rw [HOV.out], by rw [HFz.out]; exact HCz.out, HKz.out⟩
set_option maxRecDepth 100000 in
set_option maxHeartbeats 4000000 in
theorem rop_0 (lo g : Nat) (L : List Nat) (w : World) (h : CuAt lo w g L) (hb : ∀ b ∈ L, b < 256) (k3 : c1 L ≠ 3) (k5 : c1 L ≠ 5) (k6 : c1 L ≠ 6) (k7 : c1 L ≠ 7) (k8 : c1 L ≠ 8) :
    Calls Try.prog 74 #[.pointer (some ⟨g, 0, none⟩)] w fun e w' => e = .returned (.agg (opCells (opV L)).toArray) ∧ Cu1 lo w w' g (opL L) := by
  have HN1 := Lib.hid (fun W hc => cnumber_any lo g L W hc hb)
  have HN2 := Lib.hid (fun W hc => rname_any lo g (L.drop 1) W hc (drop_lt hb 1))
  have hbM := lI_lt (drop_lt hb 1)
  have HV : RowKit.Hid (opV L = fdV (c1 L) (vI (L.drop 1)) (lI (L.drop 1))) := Lib.hid rfl
  have HF : RowKit.Hid (opL L = fdL (c1 L) (lI (L.drop 1))) := Lib.hid rfl
  have HX0 : RowKit.Hid (Whole (w.alloc (.cells #[.int .i64 0, .int .i64 0, .int .i64 0, .int .i64 0, .int .i64 0, .int .i64 0, .int .i64 0, .int .i64 0, .int .i64 0, .int .i64 0, .int .i64 0, .int .i64 0, .int .i64 0, .int .i64 0, .int .i64 0, .int .i64 0, .int .i64 0, .bool false, .string ⟨#[]⟩, .int .i64 0] 53)) w.heap.size 53 (opCells zeroO)) := Lib.hid (Whole.new_ _ _ (opCells zeroO))
  have HC0 := Lib.hid (h.al (.cells #[.int .i64 0, .int .i64 0, .int .i64 0, .int .i64 0, .int .i64 0, .int .i64 0, .int .i64 0, .int .i64 0, .int .i64 0, .int .i64 0, .int .i64 0, .int .i64 0, .int .i64 0, .int .i64 0, .int .i64 0, .int .i64 0, .int .i64 0, .bool false, .string ⟨#[]⟩, .int .i64 0] 53))
  have HK0 : RowKit.Hid (Kept (At1 g) w (w.alloc (.cells #[.int .i64 0, .int .i64 0, .int .i64 0, .int .i64 0, .int .i64 0, .int .i64 0, .int .i64 0, .int .i64 0, .int .i64 0, .int .i64 0, .int .i64 0, .int .i64 0, .int .i64 0, .int .i64 0, .int .i64 0, .int .i64 0, .int .i64 0, .bool false, .string ⟨#[]⟩, .int .i64 0] 53))) := Lib.hid (Kept.of_below (below1 w _))
  have Hgb : RowKit.Hid (g < w.heap.size) := Lib.hid h.lt
  have hlt := byte_lt hb
  obtain ⟨k, gk0⟩ : ∃ z, c1 L = z := ⟨_, rfl⟩
  obtain ⟨⟨x1, x2⟩, gx⟩ : ∃ z, vI (L.drop 1) = z := ⟨_, rfl⟩
  obtain ⟨M, gM⟩ : ∃ z, lI (L.drop 1) = z := ⟨_, rfl⟩
  rw [gk0] at HN1 HV HF hlt k3 k5 k6 k7 k8
  rw [gx] at HN2 HV
  rw [gM] at HN2 HV HF hbM
  clear gx gM gk0 h hb
  rw [show fdV k (x1, x2) M = kO (k : Int) (x1, x2) from by unfold fdV; rw [if_neg k3, if_neg k5, if_neg k6, if_neg k7, if_neg k8]; rfl] at HV
  rw [show fdL k M = M from by unfold fdL; rw [if_neg k3, if_neg k5, if_neg k6, if_neg k7, if_neg k8]] at HF
  obtain ⟨kI, gkI⟩ : ∃ z : Int, (k : Int) = z := ⟨_, rfl⟩
  rw [gkI] at HN1
  have GkI := Lib.hid gkI
  have q3 : (kI == 3) = false := by rw [← gkI]; simp; omega
  have q5 : (kI == 5) = false := by rw [← gkI]; simp; omega
  have q6 : (kI == 6) = false := by rw [← gkI]; simp; omega
  have q7 : (kI == 7) = false := by rw [← gkI]; simp; omega
  have q8 : (kI == 8) = false := by rw [← gkI]; simp; omega
  rw [gkI] at HV
  clear hbM k3 k5 k6 k7 k8
  go_enter Try.func74, Try.ntmps74
  go_upto_region 1 with fail
  obtain ⟨w0, gw0⟩ : ∃ z, w.alloc (.cells #[.int .i64 0, .int .i64 0, .int .i64 0, .int .i64 0, .int .i64 0, .int .i64 0, .int .i64 0, .int .i64 0, .int .i64 0, .int .i64 0, .int .i64 0, .int .i64 0, .int .i64 0, .int .i64 0, .int .i64 0, .int .i64 0, .int .i64 0, .bool false, .string ⟨#[]⟩, .int .i64 0] 53) = z := ⟨_, rfl⟩
  obtain ⟨b, gb⟩ : ∃ z, w.heap.size = z := ⟨_, rfl⟩
  rw [gw0] at HX0 HK0 HC0 ⊢
  rw [gb] at HX0 Hgb ⊢
  have Gb := Lib.hid gb
  clear gw0 gb
  go_wp2_with fail
  refine (HN1.out _ HC0.out).mono ?_
  rintro e w1 ⟨rfl, hcu, hgr⟩
  have HX1 := Lib.hid ((gk hgr).whole HX0.out (fun e => by have h1 : b = g := e; have := Hgb.out; omega))
  have HK1 := Lib.hid (HK0.out.trans (gk hgr))
  have HC1 := Lib.hid hcu
  clear hcu hgr HX0 HK0 HC0
  go_wp2_with fail
  refine (HN2.out _ HC1.out).mono ?_
  rintro e w2 ⟨rfl, hcu⟩
  have HX2 := Lib.hid (hcu.2.whole HX1.out (fun e => by have h1 : b = g := e; have := Hgb.out; omega))
  have HK2 := Lib.hid (HK1.out.trans hcu.2)
  have HC2 := Lib.hid hcu.1
  clear hcu HX1 HK1 HC1
  rename_i hK
  refine hK _ _ ?_
  refine wl_read (v := .agg (opCells (kO kI (x1, x2))).toArray) (some 10) rfl (by rfl) ?_ ?_
  · go_simp; rfl
  simp only [Act.put, stA_, st0_, st1_]
  refine wl_new 3 rfl rfl rfl 53 (.tmp 10) rfl rfl #[.int .i64 0, .int .i64 0, .int .i64 0, .int .i64 0, .int .i64 0, .int .i64 0, .int .i64 0, .int .i64 0, .int .i64 0, .int .i64 0, .int .i64 0, .int .i64 0, .int .i64 0, .int .i64 0, .int .i64 0, .int .i64 0, .int .i64 0, .bool false, .string ⟨#[]⟩, .int .i64 0] ?_ (opCells (kO kI (x1, x2))).toArray (by simp) rfl (by kernel_rfl) rfl (opCells_arr _) ?_
  · go_simp; (try with_reducible rfl)
  simp only [Act.put, stA_, st0_, st1_]
  have HY3 : RowKit.Hid (Whole (w2.alloc (.cells (opCells (kO kI (x1, x2))).toArray 53)) w2.heap.size 53 (opCells (kO kI (x1, x2)))) := Lib.hid (Whole.new_ _ _ _)
  have Hgb5 : RowKit.Hid (g < w2.heap.size ∧ b < w2.heap.size) := Lib.hid ⟨HC2.out.lt, HX2.out.lt⟩
  have HX3 := Lib.hid (HX2.out.al (.cells (opCells (kO kI (x1, x2))).toArray 53))
  have HK3 := Lib.hid (HK2.out.alloc (.cells (opCells (kO kI (x1, x2))).toArray 53))
  have HC3 := Lib.hid (HC2.out.al (.cells (opCells (kO kI (x1, x2))).toArray 53))
  obtain ⟨w3, gw3⟩ : ∃ z, w2.alloc (.cells (opCells (kO kI (x1, x2))).toArray 53) = z := ⟨_, rfl⟩
  obtain ⟨b5, gb5⟩ : ∃ z, w2.heap.size = z := ⟨_, rfl⟩
  rw [gw3] at HY3 HX3 HK3 HC3 ⊢
  rw [gb5] at HY3 Hgb5 ⊢
  clear gw3 gb5 HX2 HK2 HC2 hK
  have hb5 : RowKit.Hid (w.heap.size ≤ b5) := Lib.hid (by have := Gb.out; have := Hgb5.out.2; omega)
  have l0 : w3.cell? ⟨b5, 0, none⟩ = some (.int .i64 kI) := HY3.out.cell (i := 0) rfl
  go_upto_region 13 with fail
  have HFz := HF
  have HOV : RowKit.Hid (opV L = (kO kI (x1, x2))) := Lib.hid (by rw [HV.out]; skip)
  obtain ⟨o9, go9⟩ : ∃ z, (kO kI (x1, x2)) = z := ⟨_, rfl⟩
  rw [go9] at HOV HY3
  clear go9
  refine wp_region_lit ?_
  refine wl_load (some 61) rfl (by rfl) 53 (.tmp 3) rfl b5 rfl 53 (opCells o9) _ HY3.out Try.underlying53 rfl (by kernel_rfl) ?_
  simp only [Act.put, stA_, st0_, st1_]
  refine wpList_store_row rfl 53 (.tmp 2) (.tmp 61) rfl b (opCells o9).toArray rfl rfl 53 (opCells zeroO).toArray HX3.out (by kernel_rfl) rfl (opCells_arr _) ?_
  have HXz : RowKit.Hid (Whole (w3.setRow b (opCells o9).toArray) b 53 (opCells o9)) := Lib.hid (Whole.row HX3.out (opCells o9))
  have HCz := Lib.hid (HC3.out.row Hgb.out (opCells o9).toArray)
  have HKz := Lib.hid (kept_in HK3.out (Nat.le_of_eq Gb.out) (kept_row (S := fun i => i = b) rfl (opCells o9).toArray))
  go_wp2
  exact ret_whole rfl b rfl HXz.out Try.underlying53 rfl (by kernel_rfl) rfl ⟨by rw [HOV.out], by rw [HFz.out]; exact HCz.out, HKz.out⟩
theorem rop_any (lo g : Nat) (L : List Nat) (w : World) (h : CuAt lo w g L) (hb : ∀ b ∈ L, b < 256) :
    Calls Try.prog 74 #[.pointer (some ⟨g, 0, none⟩)] w fun e w' => e = .returned (.agg (opCells (opV L)).toArray) ∧ Cu1 lo w w' g (opL L) := by
  by_cases k3 : c1 L = 3
  · exact rop_3 lo g L w h hb k3
  by_cases k5 : c1 L = 5
  · exact rop_5 lo g L w h hb k5
  by_cases k6 : c1 L = 6
  · exact rop_6 lo g L w h hb k6
  by_cases k7 : c1 L = 7
  · exact rop_7 lo g L w h hb k7
  by_cases k8 : c1 L = 8
  · exact rop_8 lo g L w h hb k8
  exact rop_0 lo g L w h hb k3 k5 k6 k7 k8
end Go.Proofs.Ytinfbaflkjghhaa
/- The reader: edit. -/
namespace Go.Proofs.Ytinfbaflkjghhaa
open Go.RowKit
theorem edV_snoc : ∀ (k : Nat) (L : List Nat), edV (k + 1) L = edV k L ++ [opV (edL k L)]
  | 0, _ => rfl
  | k + 1, L => by
    show opV L :: edV (k + 1) (opL L) = (opV L :: edV k (opL L)) ++ [opV (edL (k + 1) L)]
    rw [edV_snoc k]
    rfl
theorem edL_snoc : ∀ (k : Nat) (L : List Nat), edL (k + 1) L = opL (edL k L)
  | 0, _ => rfl
  | k + 1, L => by
    show edL (k + 1) (opL L) = opL (edL k (opL L))
    rw [edL_snoc k]
theorem edL_lt : ∀ (k : Nat) {L : List Nat}, (∀ b ∈ L, b < 256) → ∀ b ∈ edL k L, b < 256
  | 0, _, h => h
  | k + 1, _, h => edL_lt k (opL_lt h)
theorem info_op : (Try.prog.info? 53).map (fun i => (i.zero, i.size, i.bytes)) = some (some (.agg #[.int .i64 0, .int .i64 0, .int .i64 0, .int .i64 0, .int .i64 0, .int .i64 0, .int .i64 0, .int .i64 0, .int .i64 0, .int .i64 0, .int .i64 0, .int .i64 0, .int .i64 0, .int .i64 0, .int .i64 0, .int .i64 0, .int .i64 0, .bool false, .string ⟨#[]⟩, .int .i64 0]), 20, 168) := by kernel_rfl
theorem rowsOp1 (o : OpT) : rowsV opCells [o] = opCells o := by simp [rowsV]
/-- A row of one's own, with nothing said of what else there is. -/
theorem ow_of {W : World} {B size n : Nat} {e : TypeId} {v : Value} {xs : List Value} (h : W.ownsRow B e size v n xs) (hB : B ≤ W.heap.size) : Ow { W with heap := #[] } B e size v n xs W :=
  ⟨h, ⟨rfl, rfl, rfl, Nat.zero_le _, fun i hi => absurd hi (Nat.not_lt_zero _)⟩, Nat.zero_le _, hB⟩
theorem own_at1 {W W' : World} {lo k n g : Nat} {T : TypeId} {v : Value} {xs : List Value} (h : W.ownsRow lo T k v n xs) (hk : Kept (At1 g) W W') (hne : some g ≠ v.ownBlock) : W'.ownsRow lo T k v n xs :=
  h.kept (row := some g) ⟨hk.os, hk.tape, hk.output, hk.size, fun i hi hn => hk.block i hi (fun e => hn (by rw [e]))⟩ (by first | exact hne | exact hne.symm | exact .inr hne | exact .inr hne.symm)
/-- How a round of edit stands. -/
structure EdS (lo g b2 b3 B0 : Nat) (L0 : List Nat) (w : World) (k : Nat) (A : Option Addr) (c : Nat) (W : World) : Prop where
  cu : CuAt lo W g (edL k L0)
  hy : Whole W b3 28 [.slice A k c]
  hx : Whole W b2 28 [.slice none 0 0]
  own : W.ownsRow B0 53 20 (.slice A k c) k (rowsV opCells (edV k L0))
  kp : Kept (At1 g) w W
theorem EdS.bl {lo g b2 b3 B0 k c : Nat} {L0 : List Nat} {w W W' : World} {A : Option Addr} (h : EdS lo g b2 b3 B0 L0 w k A c W) (hb : Below W.heap.size W W') : EdS lo g b2 b3 B0 L0 w k A c W' :=
  ⟨h.cu.bl hb, h.hy.bl hb, h.hx.bl hb, own_up h.own hb, h.kp.trans (Kept.of_below hb)⟩
set_option maxRecDepth 100000 in
set_option maxHeartbeats 4000000 in
theorem redit_any (lo g : Nat) (B : List Nat) (w : World) (h : CuAt lo w g B) (hb : ∀ b ∈ B, b < 256) :
    Calls Try.prog 58 #[.pointer (some ⟨g, 0, none⟩)] w fun e w' => ∃ A c, e = .returned (.agg #[.slice A (c1 B) c]) ∧ w'.ownsRow w.heap.size 53 20 (.slice A (c1 B) c) (c1 B) (rowsV opCells (rdV B)) ∧ Cu1 lo w w' g (rdR B) := by
  obtain ⟨i0, hi, hz0, hz1, hz2⟩ := info_parts_ info_op
  have HN1 := Lib.hid (fun W hc => cnumber_any lo g B W hc hb)
  have HR := Lib.hid (fun k W (hc : CuAt lo W g (edL k (B.drop 1))) => rop_any lo g (edL k (B.drop 1)) W hc (edL_lt k (drop_lt hb 1)))
  have HVn : RowKit.Hid (rdV B = edV (c1 B) (B.drop 1) ∧ rdR B = edL (c1 B) (B.drop 1)) := Lib.hid ⟨rfl, rfl⟩
  have hlt := byte_lt hb
  have HX0 : RowKit.Hid (Whole ((w.alloc (.cells #[.slice none 0 0] 28)).alloc (.cells #[.slice none 0 0] 28)) w.heap.size 28 [.slice none 0 0]) := Lib.hid ((Whole.new_ w 28 [_]).al _)
  have HY0 : RowKit.Hid (Whole ((w.alloc (.cells #[.slice none 0 0] 28)).alloc (.cells #[.slice none 0 0] 28)) (w.heap.size + 1) 28 [.slice none 0 0]) := Lib.hid (Whole.new2 (by simp))
  have HC0 := Lib.hid ((h.al (.cells #[.slice none 0 0] 28)).al (.cells #[.slice none 0 0] 28))
  have HK0 : RowKit.Hid (Kept (At1 g) w ((w.alloc (.cells #[.slice none 0 0] 28)).alloc (.cells #[.slice none 0 0] 28))) := Lib.hid (Kept.of_below (below2 w _ _))
  have Hgb : RowKit.Hid (g < w.heap.size) := Lib.hid h.lt
  obtain ⟨n, gn⟩ : ∃ z, c1 B = z := ⟨_, rfl⟩
  obtain ⟨L0, gL0⟩ : ∃ z, B.drop 1 = z := ⟨_, rfl⟩
  rw [gn] at HN1 HVn hlt ⊢
  rw [gL0] at HN1 HR HVn
  clear h hb gn gL0
  go_enter Try.func58, Try.ntmps58
  go_upto_region 2 with fail
  obtain ⟨w0, gw0⟩ : ∃ z, (w.alloc (.cells #[.slice none 0 0] 28)).alloc (.cells #[.slice none 0 0] 28) = z := ⟨_, rfl⟩
  obtain ⟨b3, gb3⟩ : ∃ z, w.heap.size + 1 = z := ⟨_, rfl⟩
  rw [gw0] at HX0 HY0 HK0 HC0 ⊢
  rw [gb3] at HY0 ⊢
  obtain ⟨b2, gb2⟩ : ∃ z, w.heap.size = z := ⟨_, rfl⟩
  rw [gb2] at HX0 Hgb ⊢
  have Gb2 := Lib.hid gb2
  have Hb3 : RowKit.Hid (b2 < b3 ∧ w.heap.size ≤ b3) := Lib.hid (by omega)
  clear gw0 gb2 gb3
  go_upto_region 3 with (first
    | (go_at_call 73
       refine (HN1.out _ HC0.out).mono ?_
       rintro e w1 ⟨rfl, hcu, hgr⟩
       have HS1 : RowKit.Hid (EdS lo g b2 b3 b2 L0 w 0 none 0 w1) := Lib.hid ⟨hcu, (gk hgr).whole HY0.out (fun e => by have h1 : b3 = g := e; have := Hgb.out; have := Hb3.out; omega), (gk hgr).whole HX0.out (fun e => by have h1 : b2 = g := e; have := Hgb.out; omega), World.ownsRow_nil _ _ _ _, HK0.out.trans (gk hgr)⟩
       clear hcu hgr))
  go_loopw [8] (fun i wr => ∃ (k : Nat) (A : Option Addr) (c : Nat), k ≤ n ∧ i = .int .i64 (k : Int) ∧ RowKit.Hid (EdS lo g b2 b3 b2 L0 w k A c wr)) (fun i _ => n - (intOf i).toNat)
  case atStart => exact ⟨0, none, 0, Nat.zero_le _, rfl, HS1⟩
  case round =>
    clear HS1 HX0 HY0 HC0 HK0
    obtain ⟨k, A, c, hk, rfl, hin⟩ := hrel
    by_cases hlt2 : k < n
    · have HRk := Lib.hid (fun W hc => HR.out k W hc)
      have HE1 : RowKit.Hid (edV (k + 1) L0 = edV k L0 ++ [opV (edL k L0)]) := Lib.hid (edV_snoc k L0)
      have HE2 : RowKit.Hid (edL (k + 1) L0 = opL (edL k L0)) := Lib.hid (edL_snoc k L0)
      obtain ⟨o, go⟩ : ∃ z, opV (edL k L0) = z := ⟨_, rfl⟩
      obtain ⟨Lk, gLk⟩ : ∃ z, opL (edL k L0) = z := ⟨_, rfl⟩
      rw [go] at HE1 HRk
      rw [gLk] at HE2 HRk
      clear go gLk
      go_upto_region 4 with fail
      have HD : RowKit.Hid (Ext wr wr.drew) := Lib.hid (below_drewN wr.heap.size wr 1)
      have hne3 := own_ne hin.out.own hin.out.hy (by decide)
      have hneg : some g ≠ (Value.slice A k c).ownBlock := by
        obtain ⟨A1, n1, c1', q1, -, -, -, -⟩ := hin.out.cu
        exact own_ne hin.out.own q1 (by decide)
      have Hneg := Lib.hid hneg
      have hg3 : g ≠ b3 := by have := Hgb.out; have := Hb3.out; omega
      have ld0 : ∀ w', Kept (fun i => i = g ∨ some i = (Value.slice A k c).ownBlock) wr.drew w' → w'.cell? ⟨b3, 0, none⟩ = some (.slice A k c) := fun w' hh => hh.cell (hin.out.hy.dr.cell (i := 0) rfl) (fun e => by
        rcases e with e | e
        · exact hg3 e.symm
        · exact hne3 e)
      clear hne3 hneg hg3
      refine wp_region_tail (fun i => i = g ∨ some i = (Value.slice A k c).ownBlock) [7] (by kernel_rfl) ?_
      apply wpT_next 0 (some 10) (by kernel_rfl)
      · rfl
      · rfl
      · kernel_rfl
      · kernel_rfl
      · kernel_rfl
      · exact fun _ _ _ _ h => h
      apply Exists.intro
      apply And.intro
      · apply yr_run; rfl; intro w' hw'; go_simp; (try with_reducible rfl)
      simp only [Act.put, stA_, st0_, st1_]
      apply wpT_next 1 (some 11) (by kernel_rfl)
      · rfl
      · rfl
      · kernel_rfl
      · kernel_rfl
      · kernel_rfl
      · exact fun _ _ _ _ h => h
      apply Exists.intro
      apply And.intro
      · apply yr_run; rfl; intro w' hw'; go_simp; (try with_reducible rfl)
      simp only [Act.put, stA_, st0_, st1_]
      apply wpT_next 2 (some 12) (by kernel_rfl)
      · rfl
      · rfl
      · kernel_rfl
      · kernel_rfl
      · kernel_rfl
      · exact fun _ _ _ _ h => h
      apply Exists.intro
      apply And.intro
      · apply yr_run; rfl; intro w' hw'; go_simp; (try with_reducible rfl)
      simp only [Act.put, stA_, st0_, st1_]
      apply wpT_call 3 (some 13)
      · rfl
      · rfl
      · kernel_rfl
      · rfl
      · intro w'; go_simp; first | done | exact ⟨rfl, rfl⟩ | with_reducible rfl
      intro w' hw'
      have HCa := hin.out.cu.bl (Ext.trans HD.out hw')
      have HAl := hin.out.bl (Ext.trans HD.out hw')
      refine (HRk.out _ HCa).mono ?_
      rintro e w1 ⟨rfl, hcu⟩
      refine ⟨_, rfl, hcu.2.wider (fun i _ e => .inl e), ?_⟩
      have HC5 := Lib.hid hcu.1
      have HY5 := Lib.hid (hcu.2.whole HAl.hy (fun e => by have h1 : b3 = g := e; have := Hgb.out; have := Hb3.out; omega))
      have HX5 := Lib.hid (hcu.2.whole HAl.hx (fun e => by have h1 : b2 = g := e; have := Hgb.out; omega))
      have HO5 := Lib.hid (own_at1 HAl.own hcu.2 Hneg.out)
      have HK5 := Lib.hid (HAl.kp.trans hcu.2)
      clear hw' hcu HCa HAl ld0
      simp only [Act.put, stA_, st0_, st1_]
      apply wpT_run 4 (some 14)
      · rfl
      · rfl
      · kernel_rfl
      · rfl
      intro w' hw'
      refine ⟨.slice (some ⟨w'.heap.size, 0, none⟩) 1 1, w'.alloc (.cells (opCells o).toArray 53), exec_buildSlice 26 53 1 #[(0, .tmp 13)] (by rfl) Try.underlying26 _ (by kernel_rfl), Kept.of_below (below1 _ _), ?_⟩
      have hE : Ext w1 (w'.alloc (.cells (opCells o).toArray 53)) := Ext.trans hw' (below1 _ _)
      have HL6 : RowKit.Hid (RdS (w'.alloc (.cells (opCells o).toArray 53)) (w'.alloc (.cells (opCells o).toArray 53)).heap.size 20 (some ⟨w'.heap.size, 0, none⟩) 1 1 (rowsV opCells [o])) := Lib.hid (by rw [rowsOp1]; exact RdS.of_whole8 (Whole.new_ _ _ _) rfl)
      have HC6 := Lib.hid (HC5.out.bl hE)
      have HY6 := Lib.hid (HY5.out.bl hE)
      have HX6 := Lib.hid (HX5.out.bl hE)
      have HO6 := Lib.hid (own_up HO5.out hE)
      have HK6 := Lib.hid (HK5.out.trans (Kept.of_below hE))
      obtain ⟨w2, gw2⟩ : ∃ z, w'.alloc (.cells (opCells o).toArray 53) = z := ⟨_, rfl⟩
      obtain ⟨g6, gg6⟩ : ∃ z, w'.heap.size = z := ⟨_, rfl⟩
      rw [gw2] at HL6 HC6 HY6 HX6 HO6 HK6 ⊢
      rw [gg6] at HL6 ⊢
      clear hw' hE gw2 gg6 HC5 HY5 HX5 HO5 HK5
      simp only [Act.put, stA_, st0_, st1_]
      apply wpT_run 5 (some 15)
      · rfl
      · rfl
      · kernel_rfl
      · rfl
      intro w' hw'
      have hO := own_up HO6.out hw'
      have hY := HY6.out.bl hw'
      have hX := HX6.out.bl hw'
      have hC := HC6.out.bl hw'
      have hB2 : b2 ≤ w'.heap.size := by have := hX.lt; omega
      obtain ⟨vv, w'', hrun, ho, hb, hg, hbk⟩ := Ow.app2 (P := Try.prog) 26 26 53 i0 _ 20 168 _ Try.underlying26 hi hz0 hz1 hz2 rfl (by decide) _ _ _ (ow_of hO hB2) _ _ _ _ _ (HL6.out.bl hw') (rowsV_one opCells opCells_one [o]) (by unfold maxLen; omega) (by omega)
      refine ⟨vv, w'', exec_append (by rfl) (by rfl) (by rfl) hrun, kept_grow hg (fun i e => .inr e), ?_⟩
      obtain ⟨A7, c7, rfl, -⟩ := ho.rds
      have hne3 := own_ne hO hY (by decide)
      have hne2 := own_ne hO hX (by decide)
      have hkb : Kept (fun i => some i = (Value.slice A k c).ownBlock) w' w'' := kept_grow hg (fun i e => e)
      have hlo7 : ∀ i, some i = (Value.slice A k c).ownBlock → b2 ≤ i := fun i e => (hO.lt i e.symm).1
      have HC7 := Lib.hid (hC.kept hkb Hneg.out (fun i hi e => by have h1 := hlo7 i e; have := hC.ge; have := Hgb.out; omega))
      have HY7 := Lib.hid (hkb.whole hY hne3)
      have HX7 := Lib.hid (hkb.whole hX hne2)
      have HO7 := Lib.hid ho.own
      have HK7 : RowKit.Hid (Kept (At1 g) w w'') := Lib.hid ⟨hkb.os.trans (HK6.out.trans (Kept.of_ext hw')).os, hkb.tape.trans (HK6.out.trans (Kept.of_ext hw')).tape, hkb.output.trans (HK6.out.trans (Kept.of_ext hw')).output, Nat.le_trans (HK6.out.trans (Kept.of_ext hw')).size hkb.size, fun i hi hn => (hkb.block i (Nat.lt_of_lt_of_le hi (HK6.out.trans (Kept.of_ext hw')).size) (fun e => by have h1 := hlo7 i e; have := Gb2.out; omega)).trans ((HK6.out.trans (Kept.of_ext hw')).block i hi hn)⟩
      obtain ⟨w3, gw3⟩ : ∃ z, w'' = z := ⟨_, rfl⟩
      rw [gw3] at HC7 HY7 HX7 HO7 HK7 ⊢
      clear hw' hO hY hX hC hB2 hrun ho hb hg hbk hne3 hne2 hkb hlo7 gw3 HL6 HC6 HY6 HX6 HO6 HK6
      simp only [Act.put, stA_, st0_, st1_]
      apply wpT_next 6 (some 16) (by kernel_rfl)
      · rfl
      · rfl
      · kernel_rfl
      · kernel_rfl
      · kernel_rfl
      · exact fun _ _ _ _ h => h
      apply Exists.intro
      apply And.intro
      · apply yr_run; rfl; intro w' hw'; go_simp; (try with_reducible rfl)
      simp only [Act.put, stA_, st0_, st1_]
      apply wpT_last 7
      · rfl
      · rfl
      · kernel_rfl
      · rfl
      · decide
      intro w' hw'
      have hy := HY7.out.bl hw'
      have hcl := hy.cell (i := 0) rfl
      have hfr := hy.free 0
      refine ⟨w'.setCell ⟨b3, 0, none⟩ (.slice A7 (k + 1) c7), ?_, ?_⟩
      · go_simp; first | done | exact rfl
      have HS8 : RowKit.Hid (EdS lo g b2 b3 b2 L0 w (k + 1) A7 c7 (w'.setCell ⟨b3, 0, none⟩ (.slice A7 (k + 1) c7))) := Lib.hid (by
        have hx := HX7.out.bl hw'
        refine ⟨?_, hy.set_ 0 _, hx.far (p := ⟨b3, 0, none⟩) (show b2 ≠ b3 by have := Hb3.out; omega) _, ?_, kept_poke (HK7.out.trans (Kept.of_ext hw')) Hb3.out.2 _⟩
        · rw [HE2.out]
          exact (HC7.out.bl hw').poke (by have := Hgb.out; have := Hb3.out; omega) _
        · rw [HE1.out, rowsV_app]
          exact own_cell_far (own_up HO7.out hw') (own_ne (own_up HO7.out hw') hy (by decide)) _)
      obtain ⟨w4, gw4⟩ : ∃ z, w'.setCell ⟨b3, 0, none⟩ (.slice A7 (k + 1) c7) = z := ⟨_, rfl⟩
      rw [gw4] at HS8 ⊢
      clear hw' hy hcl hfr gw4 HC7 HY7 HX7 HO7 HK7
      try simp only [Act.put, stA_, st0_, st1_]
      refine wpT_done (by kernel_rfl) ?_ _
      intro wE hwE
      have HS9 := Lib.hid (HS8.out.bl hwE)
      clear HS8 hwE hin
      go_wp2
      go_roundw
      case rel => exact ⟨k + 1, A7, c7, by omega, by go_num, HS9⟩
      case measure => simp [intOf]; omega
    · obtain rfl : n = k := by omega
      obtain ⟨hcu, hy, hx, ho, hk9⟩ := hin.out
      have HF : RowKit.Hid (∃ A' c', Ending.returned (.agg #[.slice A n c]) = .returned (.agg #[.slice A' n c']) ∧ (wr.setCell ⟨b2, 0, none⟩ (.slice A n c)).ownsRow w.heap.size 53 20 (.slice A' n c') n (rowsV opCells (rdV B)) ∧ Cu1 lo w (wr.setCell ⟨b2, 0, none⟩ (.slice A n c)) g (rdR B)) := Lib.hid ⟨A, c, rfl, by rw [HVn.out.1]; exact Gb2.out.symm ▸ own_cell_far ho (own_ne ho hx (by decide)) _, by rw [HVn.out.2]; exact hcu.poke Hgb.out _, kept_poke hk9 (Nat.le_of_eq Gb2.out) _⟩
      have HXz := Lib.hid (hx.set_ 0 (.slice A n c))
      have l0 := hy.cell (i := 0) rfl
      have q0 := hx.cell (i := 0) rfl
      have f0 := hx.free 0
      clear hcu hy hx ho hk9 hin hk hlt2
      go_wp2
      exact ret_whole rfl b2 rfl HXz.out Try.underlying28 rfl (by kernel_rfl) rfl HF.out
end Go.Proofs.Ytinfbaflkjghhaa
/- opcode.Take. -/
namespace Go.Proofs.Ytinfbaflkjghhaa
open Go.RowKit
/-- R is what is left of L. -/
def Suf (L R : List Nat) : Prop := ∃ j, R = L.drop j
theorem Suf.refl (L : List Nat) : Suf L L := ⟨0, rfl⟩
theorem Suf.drop {L R : List Nat} (h : Suf L R) (n : Nat) : Suf L (R.drop n) := by
  obtain ⟨j, rfl⟩ := h
  exact ⟨j + n, by rw [List.drop_drop]⟩
theorem Suf.lI {L R : List Nat} (h : Suf L R) : Suf L (lI R) := by unfold Go.Proofs.Ytinfbaflkjghhaa.lI; split; exact h.drop 4; exact h
theorem Suf.lM {L R : List Nat} (h : Suf L R) : Suf L (lM R) := by unfold Go.Proofs.Ytinfbaflkjghhaa.lM; split; exact h.drop 8; exact h
theorem Suf.leT {L R : List Nat} (h : Suf L R) : Suf L (leT R) := by unfold Go.Proofs.Ytinfbaflkjghhaa.leT; split; exact h.drop _; exact h
theorem Suf.crL {L R : List Nat} (h : Suf L R) : Suf L (crL R) := by
  unfold Go.Proofs.Ytinfbaflkjghhaa.crL; split
  · exact (h.lI.drop 1).lI
  · exact h.lI.drop 1
theorem Suf.fdL {L R : List Nat} (k : Nat) (h : Suf L R) : Suf L (fdL k R) := by
  unfold Go.Proofs.Ytinfbaflkjghhaa.fdL
  split
  · exact h.crL.crL
  split
  · exact h.lI.lI.drop 1
  split
  · exact h.lI
  split
  · exact (h.drop 1).leT
  split
  · exact (h.drop 1).lM
  · exact h
theorem Suf.opL {L R : List Nat} (h : Suf L R) : Suf L (opL R) := ((h.drop 1).lI).fdL _
theorem Suf.edL {L : List Nat} : ∀ (k : Nat) {R : List Nat}, Suf L R → Suf L (edL k R)
  | 0, _, h => h
  | k + 1, _, h => Suf.edL k h.opL
theorem rdR_suf (B : List Nat) : Suf B (rdR B) := Suf.edL _ ((Suf.refl B).drop 1)
theorem Suf.at_ {L R : List Nat} (h : Suf L R) : R.length ≤ L.length ∧ L.drop (L.length - R.length) = R := by
  obtain ⟨j, rfl⟩ := h
  rw [List.length_drop]
  by_cases hj : j ≤ L.length
  · exact ⟨by omega, by rw [show L.length - (L.length - j) = j by omega]⟩
  · exact ⟨by omega, by rw [List.drop_eq_nil_of_le (by omega), List.drop_eq_nil_of_le (by omega)]⟩
theorem Suf.lt {L R : List Nat} (h : Suf L R) (hb : ∀ b ∈ L, b < 256) : ∀ b ∈ R, b < 256 := by
  obtain ⟨j, rfl⟩ := h
  exact drop_lt hb j
/-- Whether bytes begin with an edit that may be; that edit, and what is behind it. -/
def okEd (B : List Nat) : Bool := decide (mayE (rdV B) = 0 ∧ edB (rdV B) ++ rdR B = B)
def tkV (B : List Nat) : List OpT := if okEd B = true then rdV B else []
def tkR (B : List Nat) : List Nat := if okEd B = true then rdR B else B
def tkE (B : List Nat) : Int := if okEd B = true then 0 else 2
theorem okEd_is {B : List Nat} (h : okEd B = true) : isE B (rdV B) (rdR B) := ⟨(of_decide_eq_true h).1, (of_decide_eq_true h).2.symm⟩
theorem is_okEd {B : List Nat} {L : List OpT} {R : List Nat} (h : isE B L R) : okEd B = true ∧ rdV B = L ∧ rdR B = R := by
  obtain ⟨h1, h2, -, -, -⟩ := isE_rd h
  refine ⟨decide_eq_true ?_, h1, h2⟩
  rw [h1, h2]
  exact ⟨h.1, h.2.symm⟩
theorem okEd_eq {B : List Nat} (hm : mayE (rdV B) = 0) : okEd B = decide (edB (rdV B) = B.take (B.length - (rdR B).length)) := by
  have hs := (rdR_suf B).at_
  refine decide_eq_decide.2 ⟨fun h => ?_, fun h => ⟨hm, ?_⟩⟩
  · have e := h.2
    have hl : (edB (rdV B)).length = B.length - (rdR B).length := by
      have := congrArg List.length e
      rw [List.length_append] at this
      omega
    have e2 : B.take (edB (rdV B)).length = edB (rdV B) := by
      conv => lhs; arg 2; rw [← e]
      exact List.take_left
    rw [← hl]
    exact e2.symm
  · rw [h]
    conv => lhs; rhs; rw [← hs.2]
    exact List.take_append_drop _ _
/-- What Take tells. -/
def GivesTk (w : World) (B : List Nat) (e : Ending) (w' : World) : Prop :=
  ∃ A1 k1 A2 k2 m, e = .returned (.tuple #[.agg #[.slice A1 (tkV B).length k1], .slice A2 m k2, .int .i64 (tkE B)]) ∧ m = (tkR B).length ∧ w'.ownsRow w.heap.size 53 20 (.slice A1 (tkV B).length k1) (tkV B).length (rowsV opCells (tkV B)) ∧ w'.ownsRow w.heap.size 5 1 (.slice A2 m k2) m (rowsV f8 (tkR B)) ∧ Below w.heap.size w w'
theorem bel_kept {w0 w w' : World} {g : Nat} (h : Below w0.heap.size w0 w) (hk : Kept (At1 g) w w') (hg : w0.heap.size ≤ g) : Below w0.heap.size w0 w' :=
  h.trans (hk.below h.size (fun i hi e => by have h1 : i = g := e; omega))
set_option maxRecDepth 100000 in
set_option maxHeartbeats 8000000 in
theorem otake_any (A : Option Addr) (c : Nat) (B : List Nat) (w : World) (h : RdS w w.heap.size 1 A B.length c (rowsV f8 B)) (hn : B.length ≤ 90000) (hb : ∀ b ∈ B, b < 256) :
    Calls Try.prog 38 #[.slice A B.length c] w (GivesTk w B) := by
  have HR0 := Lib.hid h
  have Hb := Lib.hid hb
  have HE := Lib.hid (fun lo g W hc => redit_any lo g B W hc hb)
  have HX0 : RowKit.Hid (Whole (w.alloc (.cells #[.slice none 0 0] 28)) w.heap.size 28 [.slice none 0 0]) := Lib.hid (Whole.new_ _ _ [_])
  have HG0 : RowKit.Hid (Whole ((w.alloc (.cells #[.slice none 0 0] 28)).alloc (.cells #[.slice A B.length c] 102)) (w.heap.size + 1) 102 [.slice A B.length c]) := Lib.hid (Whole.new2 (by simp))
  have HX1 := Lib.hid (HX0.out.al (.cells #[.slice A B.length c] 102))
  have HB1 : RowKit.Hid (Below w.heap.size w ((w.alloc (.cells #[.slice none 0 0] 28)).alloc (.cells #[.slice A B.length c] 102))) := Lib.hid (below2 w _ _)
  have HC1 : RowKit.Hid (CuAt w.heap.size ((w.alloc (.cells #[.slice none 0 0] 28)).alloc (.cells #[.slice A B.length c] 102)) (w.heap.size + 1) B) := Lib.hid ⟨A, B.length, c, HG0.out, (HR0.out.al _).al _, by omega, fun a ha h0 => h.low a ha h0, by omega⟩
  have Hs := Lib.hid (rdR_suf B).at_
  have hle := h.le
  have Hle := Lib.hid hle
  obtain ⟨n, gn⟩ : ∃ z, B.length = z := ⟨_, rfl⟩
  have Gn := Lib.hid gn
  rw [gn] at HR0 HG0 HX1 HB1 HC1 Hs hn Hle ⊢
  clear h hb gn HX0 hle
  go_enter Try.func38, Try.ntmps38
  go_upto_region 2 with fail
  obtain ⟨w1, gw1⟩ : ∃ z, (w.alloc (.cells #[.slice none 0 0] 28)).alloc (.cells #[.slice A n c] 102) = z := ⟨_, rfl⟩
  obtain ⟨g, gg⟩ : ∃ z, w.heap.size + 1 = z := ⟨_, rfl⟩
  rw [gw1] at HG0 HX1 HB1 HC1 ⊢
  rw [gg] at HG0 HC1 ⊢
  obtain ⟨b2, gb2⟩ : ∃ z, w.heap.size = z := ⟨_, rfl⟩
  rw [gb2] at HX1
  rw [gb2]
  have Gb2 := Lib.hid gb2
  have Hgb : RowKit.Hid (b2 < g) := Lib.hid (by omega)
  clear gw1 gg gb2
  go_upto_region 3 with (first
    | (go_at_call 58
       refine (HE.out _ _ _ HC1.out).mono ?_
       rintro e w2 ⟨A1, k1, rfl, ho, hcu⟩
       have HX2 := Lib.hid ((hcu.2.whole HX1.out (fun e => by have h1 : b2 = g := e; have := Hgb.out; omega)).al (.cells #[.slice A1 (c1 B) k1] 28))
       have HC2 := Lib.hid (hcu.1.al (.cells #[.slice A1 (c1 B) k1] 28))
       have HO2 := Lib.hid (own_up ho (below1 w2 (.cells #[.slice A1 (c1 B) k1] 28)))
       have HB2 : RowKit.Hid (Below w.heap.size w (w2.alloc (.cells #[.slice A1 (c1 B) k1] 28))) := Lib.hid (bel_al (bel_kept HB1.out hcu.2 (by have := Gb2.out; have := Hgb.out; omega)) _)
       have HY2 : RowKit.Hid (Whole (w2.alloc (.cells #[.slice A1 (c1 B) k1] 28)) w2.heap.size 28 [.slice A1 (c1 B) k1]) := Lib.hid (Whole.new_ _ _ [_])
       have Hl1 : RowKit.Hid (w.heap.size ≤ w1.heap.size) := Lib.hid HB1.out.size
       have H26 : RowKit.Hid (b2 ≠ w2.heap.size) := Lib.hid (by have := (hcu.2.whole HX1.out (fun e => by have h1 : b2 = g := e; have := Hgb.out; omega)).lt; omega)
       clear ho hcu HC1 HX1))
  obtain ⟨w3, gw3⟩ : ∃ z, w2.alloc (.cells #[.slice A1 (c1 B) k1] 28) = z := ⟨_, rfl⟩
  obtain ⟨b6, gb6⟩ : ∃ z, w2.heap.size = z := ⟨_, rfl⟩
  rw [gw3] at HX2 HC2 HO2 HB2 HY2 ⊢
  rw [gb6] at HY2 H26 ⊢
  clear gw3 gb6 HG0
  obtain ⟨A9, n9, c9, hg9, hr9, hn9, -, -⟩ := HC2.out
  have hl9 : (rdR B).length = n9 := hr9.rlen f8_len (by decide)
  have e0 := hg9.cell (i := 0) rfl
  have hs1 := Hs.out.1
  have hs2 := Hs.out.2
  rw [hl9] at hs1 hs2
  have hsub : IntKind.i64.wrap ((n : Int) - (n9 : Int)) = ((n - n9 : Nat) : Int) := by rw [IntWalk.i64_in _ (by omega)]; omega
  obtain ⟨en, gen⟩ : ∃ z, n - n9 = z := ⟨_, rfl⟩
  rw [gen] at hsub hs2
  have hne : en ≤ n ∧ n - en = n9 := by omega
  have Hne := Lib.hid hne
  have Hs2 := Lib.hid hs2
  have Hl9 := Lib.hid hl9
  clear hr9 hg9 hn9 hl9 hs1 hs2 gen hne
  go_upto_region 4 with fail
  clear e0 hsub
  have hlV : (rdV B).length = c1 B := edV_len _ _
  have HlV := Lib.hid hlV
  have hrV := own_rds HO2.out
  have d0 := HY2.out.cell (i := 0) rfl
  have HR3 := Lib.hid (HR0.out.up HB2.out HB2.out.size)
  by_cases hm : mayE (rdV B) = 0
  case neg =>
    have hok : okEd B = false := decide_eq_false (fun q => hm q.1)
    have HP := Lib.hid (oput_not none 0 0 A1 (c1 B) k1 (rdV B) w3 hrV (by have := byte_lt Hb.out; omega) hm)
    obtain ⟨x, gx⟩ : ∃ z, mayE (rdV B) = z := ⟨_, rfl⟩
    rw [gx] at HP hm
    have q1 : (x == 0) = false := beq_eq_false_iff_ne.2 hm
    have q2 : (x != 0) = true := bne_iff_ne.2 hm
    have HT : RowKit.Hid (tkV B = [] ∧ tkR B = B ∧ tkE B = 2) := Lib.hid (by unfold tkV tkR tkE; rw [hok]; exact ⟨rfl, rfl, rfl⟩)
    clear gx hm hok hrV
    go_upto_region 6 with (first
      | (go_at_call 26
         refine HP.out.mono ?_
         rintro e w4 ⟨rfl, hb4⟩
         have HX4 := Lib.hid (HX2.out.bl hb4)
         have HB4 := Lib.hid (bel_bl HB2.out hb4)
         have HR4 := Lib.hid (HR3.out.bl hb4)
         clear hb4 d0))
    have HC4 := Lib.hid (fun W (hx : Below w4.heap.size w4 W) => g8_parts (n := n) Gn.out (Gn.out ▸ clone8 A c B W (Gn.out.symm ▸ HR4.out.bl hx) (by have := Gn.out; omega)))
    go_wp2_with (first
      | (go_at_call 36
         refine (HC4.out _ (Below.refl _ _)).mono ?_
         rintro e w6 ⟨A6, c6, rfl, -, -, ho6, hb6⟩
         have HX6 := Lib.hid (HX4.out.bl hb6)
         have HB6 := Lib.hid (bel_bl HB4.out hb6)
         have HO6 := Lib.hid ho6
         have q0 := HX6.out.cell (i := 0) rfl
         have f0 := HX6.out.free 0
         clear hb6 ho6))
    have hb2l : w.heap.size ≤ b2 := Nat.le_of_eq Gb2.out
    have hXz := HX6.out.set_ 0 (.slice none 0 0)
    refine ret_whole3 rfl b2 rfl rfl rfl hXz Try.underlying28 rfl (by kernel_rfl) rfl ?_
    refine ⟨none, 0, A6, c6, n, by rw [HT.out.1, HT.out.2.2]; rfl, by rw [HT.out.2.1, Gn.out], by rw [HT.out.1]; exact World.ownsRow_nil _ _ _ _, ?_, (HB6.out.setCell (p := ⟨b2, 0, none⟩) hb2l _)⟩
    rw [HT.out.2.1]
    exact own_lo8 (own_cell_far HO6.out (own_ne HO6.out HX6.out (by decide)) _) HB4.out.size
  case pos =>
    have hrn : RdS w3 w3.heap.size 1 none ([] : List Nat).length 0 (rowsV f8 []) := rds_nil _ _ _
    have HP := Lib.hid (oput_yes none 0 [] A1 (c1 B) k1 (rdV B) w3 hrn (by simp) hrV hm)
    rw [List.nil_append] at HP
    have hoe := okEd_eq hm
    rw [Gn.out, Hl9.out, show n - n9 = en by have := Hne.out; omega] at hoe
    have hPl := edB_len hm
    obtain ⟨P, gP⟩ : ∃ z, edB (rdV B) = z := ⟨_, rfl⟩
    have hPb : ∀ b ∈ P, b < 256 := by rw [← gP]; exact edB_lt _
    rw [gP] at HP hoe hPl
    have HPb := Lib.hid hPb
    have Hoe := Lib.hid hoe
    have htb : ∀ b ∈ B.take en, b < 256 := fun b hb => Hb.out b (List.mem_of_mem_take hb)
    have hte := txt_eq hPb htb
    rw [← hoe] at hte
    have Hte := Lib.hid hte
    have htl : (B.take en).length = en := by rw [List.length_take, Gn.out]; have := Hne.out; omega
    have Htl := Lib.hid htl
    clear hm hrV hrn gP hPb htb hoe hte htl hPl
    go_upto_region 5 with (first
      | (go_at_call 26
         refine HP.out.mono ?_
         rintro e w4 ⟨A4, c4, rfl, ho4, hb4⟩
         have HX4 := Lib.hid (HX2.out.bl hb4)
         have HY4 := Lib.hid (HY2.out.bl hb4)
         have HO4 := Lib.hid (own_up HO2.out hb4)
         have HB4 := Lib.hid (bel_bl HB2.out hb4)
         have HR4 := Lib.hid (HR3.out.bl hb4)
         have HP4 := Lib.hid (own_rds ho4)
         clear hb4 d0 ho4))
    have hen : en ≤ c := Nat.le_trans Hne.out.1 Hle.out
    have hQ := HR4.out.fewer8 en
    rw [Htl.out] at hQ
    have HEq := Lib.hid (bequal_any A4 A P.length c4 en c P (B.take en) w4 HP4.out hQ)
    rw [Hte.out] at HEq
    clear hQ
    cases hob : okEd B with
    | false =>
      rw [hob] at HEq
      have HT : RowKit.Hid (tkV B = [] ∧ tkR B = B ∧ tkE B = 2) := Lib.hid (by unfold tkV tkR tkE; rw [hob]; exact ⟨rfl, rfl, rfl⟩)
      clear hob Hte Hoe
      go_upto_region 6 with (first
        | (go_at_call 59
           refine HEq.out.mono ?_
           rintro e w5 ⟨rfl, rfl⟩))
      have HC4 := Lib.hid (fun W (hx : Below w4.heap.size w4 W) => g8_parts (n := n) Gn.out (Gn.out ▸ clone8 A c B W (Gn.out.symm ▸ HR4.out.bl hx) (by have := Gn.out; omega)))
      go_wp2_with (first
        | (go_at_call 36
           refine (HC4.out _ (Below.refl _ _)).mono ?_
           rintro e w6 ⟨A6, c6, rfl, -, -, ho6, hb6⟩
           have HX6 := Lib.hid (HX4.out.bl hb6)
           have HB6 := Lib.hid (bel_bl HB4.out hb6)
           have HO6 := Lib.hid ho6
           have q0 := HX6.out.cell (i := 0) rfl
           have f0 := HX6.out.free 0
           clear hb6 ho6))
      have hb2l : w.heap.size ≤ b2 := Nat.le_of_eq Gb2.out
      have hXz := HX6.out.set_ 0 (.slice none 0 0)
      refine ret_whole3 rfl b2 rfl rfl rfl hXz Try.underlying28 rfl (by kernel_rfl) rfl ?_
      refine ⟨none, 0, A6, c6, n, by rw [HT.out.1, HT.out.2.2]; rfl, by rw [HT.out.2.1, Gn.out], by rw [HT.out.1]; exact World.ownsRow_nil _ _ _ _, ?_, (HB6.out.setCell (p := ⟨b2, 0, none⟩) hb2l _)⟩
      rw [HT.out.2.1]
      exact own_lo8 (own_cell_far HO6.out (own_ne HO6.out HX6.out (by decide)) _) HB4.out.size
    | true =>
      rw [hob] at HEq
      have HT : RowKit.Hid (tkV B = rdV B ∧ tkR B = rdR B ∧ tkE B = 0) := Lib.hid (by unfold tkV tkR tkE; rw [hob]; exact ⟨rfl, rfl, rfl⟩)
      clear hob Hte Hoe
      go_upto_region 7 with (first
        | (go_at_call 59
           refine HEq.out.mono ?_
           rintro e w5 ⟨rfl, rfl⟩))
      have hlow := HR4.out.low_ Hne.out.1
      obtain ⟨AL, hAL⟩ : ∃ A1, (if c = en then A else A.map (·.add (en * 1))) = A1 := ⟨_, rfl⟩
      rw [hAL, show (rowsV f8 B).drop (en * 1) = rowsV f8 (B.drop en) from by rw [Nat.mul_one, rowsV_map8, rowsV_map8, List.map_drop], Hs2.out, Hne.out.2] at hlow
      have HLow := Lib.hid hlow
      have HAL := Lib.hid hAL
      have hCl := fun W (hx : Ext w4 W) => g8_parts (n := n9) Hl9.out (Hl9.out ▸ clone8 AL (c - en) (rdR B) W (Hl9.out.symm ▸ hlow.bl hx) (by have := Hl9.out; have := Hne.out; omega))
      have HCl := Lib.hid hCl
      have HD : RowKit.Hid (Ext w4 w4.drew) := Lib.hid (below_drewN w4.heap.size w4 1)
      have ld0 : ∀ w', Kept (fun i => i = b2) w4.drew w' → w'.cell? ⟨b6, 0, none⟩ = some (.slice A1 (c1 B) k1) := fun w' hh => hh.cell (HY4.out.dr.cell (i := 0) rfl) (fun e => H26.out e.symm)
      clear hlow hAL hCl
      refine wp_region_reg (fun i => i = b2) (by kernel_rfl) ?_
      refine opR_ 0 39 (v := ?_) ?_ ?_; rotate_left
      · intro w' hw'; go_simp; (try with_reducible rfl)
      simp only [st0_, st1_]
      refine opR_ 1 40 (v := ?_) ?_ ?_; rotate_left
      · intro w' hw'; go_simp; (try with_reducible rfl)
      simp only [st0_, st1_]
      refine opR_ 2 41 (v := ?_) ?_ ?_; rotate_left
      · intro w' hw'; go_simp; (try with_reducible rfl)
      simp only [st0_, st1_]
      refine opX_ 3 42 ?_
      apply Exists.intro
      apply And.intro
      · apply yr_run; rfl; intro w' hw'; exact exec_slice_low_as 23 5 (.tmp 40) (.tmp 41) rfl Try.underlying23 (s := 1) (by kernel_rfl) rfl rfl Hne.out.1 HAL.out Hne.out.2 rfl
      simp only [st0_, st1_]
      apply wpR_call 4 (some 43)
      · rfl
      · rfl
      · kernel_rfl
      · rfl
      · intro w'; go_simp; first | done | exact ⟨rfl, rfl⟩ | with_reducible rfl
      intro w' hw'
      have hE := Ext.trans HD.out hw'
      refine (HCl.out w' hE).mono ?_
      rintro e w6 ⟨A6, c6, rfl, -, -, ho6, hb6⟩
      refine ⟨_, rfl, Kept.of_below hb6, ?_⟩
      have HX6 := Lib.hid (HX4.out.bl (Ext.trans hE hb6))
      have HB6 : RowKit.Hid (Below w.heap.size w w6) := Lib.hid (bel_bl HB4.out (Ext.trans hE hb6))
      have HO6 := Lib.hid (own_lo8 ho6 (bel_bl HB4.out hE).size)
      have HV6 := Lib.hid (own_up HO4.out (Ext.trans hE hb6))
      clear hw' hE ho6 hb6 ld0
      simp only [Act.put, stA_, st0_, st1_]
      apply wpR_store 5
      · rfl
      · rfl
      · kernel_rfl
      · rfl
      intro w' hw'
      have hx := HX6.out.bl hw'
      have q0 := hx.cell (i := 0) rfl
      have f0 := hx.free 0
      refine ⟨w'.setCell ⟨b2, 0, none⟩ (.slice A1 (c1 B) k1), ?_, Kept.setCell (S := fun i => i = b2) (Kept.refl _ w') (p := ⟨b2, 0, none⟩) (.inl rfl) _, ?_⟩
      · go_simp
      have HX7 := Lib.hid (hx.set_ 0 (.slice A1 (c1 B) k1))
      have HB7 := Lib.hid ((bel_bl HB6.out hw').setCell (p := ⟨b2, 0, none⟩) (Nat.le_of_eq Gb2.out) (.slice A1 (c1 B) k1))
      have HO7 := Lib.hid (own_cell_far (g := b2) (i := 0) (own_up HO6.out hw') (own_ne (own_up HO6.out hw') hx (by decide)) (.slice A1 (c1 B) k1))
      have HV7 := Lib.hid (own_cell_far (g := b2) (i := 0) (own_up HV6.out hw') (own_ne (own_up HV6.out hw') hx (by decide)) (.slice A1 (c1 B) k1))
      obtain ⟨w7, gw7⟩ : ∃ z, w'.setCell ⟨b2, 0, none⟩ (.slice A1 (c1 B) k1) = z := ⟨_, rfl⟩
      rw [gw7] at HX7 HB7 HO7 HV7 ⊢
      clear gw7 hw' hx q0 f0 HX6 HB6 HO6 HV6
      try simp only [Act.put, stA_, st0_, st1_]
      refine opR_ 6 3 (v := ?_) ?_ ?_; rotate_left
      · intro w' hw'; go_simp; (try with_reducible rfl)
      simp only [st0_, st1_]
      refine opR_ 7 4 (v := ?_) ?_ ?_; rotate_left
      · intro w' hw'; go_simp; (try with_reducible rfl)
      simp only [st0_, st1_]
      refine wpR_done (by kernel_rfl) ?_ _
      intro wE hwE
      have HX8 := Lib.hid (HX7.out.bl hwE)
      have HB8 := Lib.hid (bel_bl HB7.out hwE)
      have HO8 := Lib.hid (own_up HO7.out hwE)
      have HV8 := Lib.hid (own_up HV7.out hwE)
      clear hwE HX7 HB7 HO7 HV7
      go_wp2
      refine ret_whole3 rfl b2 rfl rfl rfl HX8.out Try.underlying28 rfl (by kernel_rfl) rfl ?_
      refine ⟨A1, k1, A6, c6, n9, by rw [HT.out.1, HT.out.2.2, HlV.out]; rfl, by rw [HT.out.2.1, Hl9.out], by rw [HT.out.1, HlV.out]; exact own_lo8 HV8.out (by have := Hl1.out; omega), by rw [HT.out.2.1]; exact HO8.out, HB8.out⟩
end Go.Proofs.Ytinfbaflkjghhaa
/- Out of XDg13 -/
namespace Go.Proofs.Ytinfbaflkjghhaa
open Go.RowKit
theorem ret_whole2 {P : Program} {fn : Func} {R : Ending → World → Prop} {a : Act} {w : World} {p u : Tmp} {t : TypeId} (h : fn.results = #[.cell p t, .tmp u]) (g : Nat) {t' : TypeId} {cs : List Value} {d : TypeDesc} {v : Value}
    (hp : a.tmps.getD p undef = .pointer (some ⟨g, 0, none⟩)) (hv : a.tmps.getD u undef = v) (hW : Whole w g t' cs) (hu : P.underlying t = some d) (hd : d.isRow = true) (hi : (P.info? t).map (·.size) = some cs.length)
    (hdf : a.defers = []) (hR : R (.returned (.tuple #[.agg cs.toArray, v])) w) : bodyPost P fn R .ret a w := by
  refine bodyPost_ret (v := .tuple #[.agg cs.toArray, v]) ?_ hdf hR
  have hl := run_loadVar_mid (P := P) w g 0 t cs d (fun j v hv => by
    have := hW.cell hv
    simpa using this) hu hd hi
  rw [results_cell_tmp h, hp, hv]
  simp [asAddr, Result.andThen, hl]
end Go.Proofs.Ytinfbaflkjghhaa
/- opcode.Put in one; Whole; the document's example. -/
namespace Go.Proofs.Ytinfbaflkjghhaa
open Go.RowKit
/-- What Put tells. -/
def pE (B : List Nat) (L : List OpT) : List Nat := if mayE L = 0 then B ++ edB L else []
theorem oput_any (A0 : Option Addr) (c0 : Nat) (B : List Nat) (A : Option Addr) (n c : Nat) (L : List OpT) (w : World) (h0 : RdS w w.heap.size 1 A0 B.length c0 (rowsV f8 B)) (hB : B.length ≤ 90000) (h : RdS w w.heap.size 20 A n c (rowsV opCells L)) (hn : n ≤ 1000000) :
    Calls Try.prog 26 #[.slice A0 B.length c0, .agg #[.slice A n c]] w fun e w' => ∃ A' c', e = .returned (.tuple #[.slice A' (pE B L).length c', .int .i64 (mayE L)]) ∧ w'.ownsRow w.heap.size 5 1 (.slice A' (pE B L).length c') (pE B L).length (rowsV f8 (pE B L)) ∧ Below w.heap.size w w' := by
  unfold pE
  by_cases hm : mayE L = 0
  · rw [if_pos hm, hm]
    exact oput_yes A0 c0 B A n c L w h0 hB h hm
  · rw [if_neg hm]
    refine (oput_not A0 B.length c0 A n c L w h hn hm).mono ?_
    rintro e w' ⟨rfl, hb⟩
    exact ⟨none, 0, rfl, World.ownsRow_nil _ _ _ _, hb⟩
/-- Whether bytes are an edit that may be, and no more. -/
def okW (B : List Nat) : Bool := okEd B && decide (rdR B = [])
def whV (B : List Nat) : List OpT := if okW B = true then rdV B else []
def whE (B : List Nat) : Int := if okW B = true then 0 else 2
theorem okW_is {B : List Nat} : okW B = true ↔ ∃ L, mayE L = 0 ∧ B = edB L := by
  constructor
  · intro h
    have h9 := Bool.and_eq_true_iff.1 h
    have h1 := okEd_is h9.1
    rw [of_decide_eq_true h9.2] at h1
    exact ⟨rdV B, h1.1, by have h2 := h1.2; rw [List.append_nil] at h2; exact h2⟩
  · rintro ⟨L, h1, h2⟩
    have h3 : isE B L [] := ⟨h1, by rw [List.append_nil]; exact h2⟩
    obtain ⟨q1, q2, q3⟩ := is_okEd h3
    exact Bool.and_eq_true_iff.2 ⟨q1, decide_eq_true q3⟩
set_option maxRecDepth 100000 in
set_option maxHeartbeats 8000000 in
theorem owhole_any (A : Option Addr) (c : Nat) (B : List Nat) (w : World) (h : RdS w w.heap.size 1 A B.length c (rowsV f8 B)) (hn : B.length ≤ 90000) (hb : ∀ b ∈ B, b < 256) :
    Calls Try.prog 21 #[.slice A B.length c] w fun e w' => ∃ A1 k1, e = .returned (.tuple #[.agg #[.slice A1 (whV B).length k1], .int .i64 (whE B)]) ∧ w'.ownsRow w.heap.size 53 20 (.slice A1 (whV B).length k1) (whV B).length (rowsV opCells (whV B)) ∧ Below w.heap.size w w' := by
  have HT := Lib.hid (otake_any A c B (w.alloc (.cells #[.slice none 0 0] 28)) (h.al _) hn hb)
  have HX0 : RowKit.Hid (Whole (w.alloc (.cells #[.slice none 0 0] 28)) w.heap.size 28 [.slice none 0 0]) := Lib.hid (Whole.new_ _ _ [_])
  have HB0 : RowKit.Hid (Below w.heap.size w (w.alloc (.cells #[.slice none 0 0] 28))) := Lib.hid (below1 _ _)
  have HV : RowKit.Hid (tkV B = (if okEd B = true then rdV B else []) ∧ tkE B = (if okEd B = true then 0 else 2) ∧ tkR B = (if okEd B = true then rdR B else B)) := Lib.hid ⟨rfl, rfl, rfl⟩
  obtain ⟨n, gn⟩ : ∃ z, B.length = z := ⟨_, rfl⟩
  rw [gn] at HT ⊢
  have Gn := Lib.hid gn
  clear h hb hn gn
  go_enter Try.func21, Try.ntmps21
  go_upto_region 1 with fail
  obtain ⟨w0, gw0⟩ : ∃ z, w.alloc (.cells #[.slice none 0 0] 28) = z := ⟨_, rfl⟩
  obtain ⟨b2, gb2⟩ : ∃ z, w.heap.size = z := ⟨_, rfl⟩
  rw [gw0] at HT HX0 HB0 ⊢
  rw [gb2] at HX0 ⊢
  have Gb2 := Lib.hid gb2
  clear gw0 gb2
  obtain ⟨L, gL⟩ : ∃ z, tkV B = z := ⟨_, rfl⟩
  obtain ⟨x, gx⟩ : ∃ z, tkE B = z := ⟨_, rfl⟩
  obtain ⟨R, gR⟩ : ∃ z, tkR B = z := ⟨_, rfl⟩
  have HT1 : RowKit.Hid (Calls Try.prog 38 #[.slice A n c] w0 fun e w' => ∃ A1 k1 A2 k2 m, e = .returned (.tuple #[.agg #[.slice A1 L.length k1], .slice A2 m k2, .int .i64 x]) ∧ m = R.length ∧ w'.ownsRow w0.heap.size 53 20 (.slice A1 L.length k1) L.length (rowsV opCells L) ∧ Below w0.heap.size w0 w') := Lib.hid (by
    refine HT.out.mono ?_
    rintro e w' ⟨A1, k1, A2, k2, m, rfl, h2, h3, -, h5⟩
    rw [gL] at h3
    exact ⟨A1, k1, A2, k2, m, by rw [gL, gx], by rw [← gR]; exact h2, h3, h5⟩)
  rw [gL, gx, gR] at HV
  obtain ⟨l, gl⟩ : ∃ z, L.length = z := ⟨_, rfl⟩
  rw [gl] at HT1
  have Gl := Lib.hid gl
  clear HT gL gx gR gl
  go_upto_region 2 with (first
    | (go_at_call 38
       refine HT1.out.mono ?_
       rintro e w2 ⟨A1, k1, A2, k2, m, rfl, hm, ho, hb2⟩
       have Hm := Lib.hid hm
       have HX2 := Lib.hid ((HX0.out.bl hb2).al (.cells #[.slice A1 l k1] 28))
       have HO2 := Lib.hid (own_up ho (below1 w2 (.cells #[.slice A1 l k1] 28)))
       have HB2 := Lib.hid (bel_al (bel_bl HB0.out hb2) (.cells #[.slice A1 l k1] 28))
       have HY2 : RowKit.Hid (Whole (w2.alloc (.cells #[.slice A1 l k1] 28)) w2.heap.size 28 [.slice A1 l k1]) := Lib.hid (Whole.new_ _ _ [_])
       have Hsz := Lib.hid HB0.out.size
       clear ho hb2 hm))
  obtain ⟨w3, gw3⟩ : ∃ z, w2.alloc (.cells #[.slice A1 l k1] 28) = z := ⟨_, rfl⟩
  obtain ⟨b4, gb4⟩ : ∃ z, w2.heap.size = z := ⟨_, rfl⟩
  rw [gw3] at HX2 HO2 HB2 HY2 ⊢
  rw [gb4] at HY2 ⊢
  clear gw3 gb4 HX0 HB0
  have d0 := HY2.out.cell (i := 0) rfl
  have q0 := HX2.out.cell (i := 0) rfl
  have f0 := HX2.out.free 0
  have hb2l : w.heap.size ≤ b2 := Nat.le_of_eq Gb2.out
  have hno : okW B = false → ∃ A1 k1, Ending.returned (.tuple #[.agg #[.slice none 0 0], .int .i64 2]) = .returned (.tuple #[.agg #[.slice A1 (whV B).length k1], .int .i64 (whE B)]) ∧ (w3.setCell ⟨b2, 0, none⟩ (.slice none 0 0)).ownsRow w.heap.size 53 20 (.slice A1 (whV B).length k1) (whV B).length (rowsV opCells (whV B)) ∧ Below w.heap.size w (w3.setCell ⟨b2, 0, none⟩ (.slice none 0 0)) := fun hq => by
    have e1 : whV B = [] := by unfold whV; rw [hq]; rfl
    have e2 : whE B = 2 := by unfold whE; rw [hq]; rfl
    rw [e1, e2]
    exact ⟨none, 0, rfl, World.ownsRow_nil _ _ _ _, HB2.out.setCell (p := ⟨b2, 0, none⟩) hb2l _⟩
  have Hno := Lib.hid hno
  clear hno
  cases ho : okEd B with
  | false =>
    have hv := HV.out
    rw [ho] at hv
    obtain ⟨hL, hx, -⟩ := hv
    simp only [Bool.false_eq_true, if_false] at hL hx
    subst hx
    have hW : okW B = false := by unfold okW; rw [ho]; rfl
    have HP := Lib.hid (Hno.out hW)
    have HXz := Lib.hid (HX2.out.set_ 0 (.slice none 0 0))
    clear hW hL ho
    go_wp2
    exact ret_whole2 rfl b2 rfl rfl HXz.out Try.underlying28 rfl (by kernel_rfl) rfl HP.out
  | true =>
    have hv := HV.out
    rw [ho] at hv
    obtain ⟨hL, hx, hR⟩ := hv
    simp only [if_true] at hL hx hR
    subst hx
    by_cases hr : R = []
    · have hm0 : m = 0 := by rw [Hm.out, hr]; rfl
      have hW : okW B = true := by unfold okW; rw [ho, ← hR, hr]; rfl
      have e1 : whV B = L := by unfold whV; rw [hW, hL]; rfl
      have e2 : whE B = 0 := by unfold whE; rw [hW]; rfl
      have HP : RowKit.Hid (∃ A' k', Ending.returned (.tuple #[.agg #[.slice A1 l k1], .int .i64 0]) = .returned (.tuple #[.agg #[.slice A' (whV B).length k'], .int .i64 (whE B)]) ∧ (w3.setCell ⟨b2, 0, none⟩ (.slice A1 l k1)).ownsRow w.heap.size 53 20 (.slice A' (whV B).length k') (whV B).length (rowsV opCells (whV B)) ∧ Below w.heap.size w (w3.setCell ⟨b2, 0, none⟩ (.slice A1 l k1))) := Lib.hid (by
        rw [e1, e2, Gl.out]
        exact ⟨A1, k1, rfl, own_lo8 (own_cell_far HO2.out (own_ne HO2.out HX2.out (by decide)) _) Hsz.out, HB2.out.setCell (p := ⟨b2, 0, none⟩) hb2l _⟩)
      have HXz := Lib.hid (HX2.out.set_ 0 (.slice A1 l k1))
      subst hm0
      clear hW hL ho hR hr e1 e2
      go_wp2
      exact ret_whole2 rfl b2 rfl rfl HXz.out Try.underlying28 rfl (by kernel_rfl) rfl HP.out
    · have hm0 : 0 < m := by
        rw [Hm.out]
        exact List.length_pos_iff.2 hr
      have hm1 : (0 : Int) < (m : Int) := by omega
      have hW : okW B = false := by unfold okW; rw [ho, ← hR, decide_eq_false hr]; rfl
      have HP := Lib.hid (Hno.out hW)
      have HXz := Lib.hid (HX2.out.set_ 0 (.slice none 0 0))
      clear hW hL ho hR hr
      go_wp2
      exact ret_whole2 rfl b2 rfl rfl HXz.out Try.underlying28 rfl (by kernel_rfl) rfl HP.out
end Go.Proofs.Ytinfbaflkjghhaa
/- The law's few: edits of at most 10 operations, texts cut. -/
namespace Go.Proofs.Ytinfbaflkjghhaa
open Go.RowKit
def cutO (o : OpT) : OpT := if 100 < o.t.size then { o with t := o.t.extract 0 100 } else o
theorem cutO_size (o : OpT) : (cutO o).t.size ≤ 100 := by
  unfold cutO
  split
  · show (o.t.extract 0 100).size ≤ 100
    rw [ByteArray.size_extract]
    omega
  · omega
end Go.Proofs.Ytinfbaflkjghhaa
/- Out of XOp14 -/
namespace Go.Proofs.Ytinfbaflkjghhaa
open Go.RowKit
theorem eqs_next {α : Type} [DecidableEq α] {L M : List α} {k : Nat} {x y : α} (hx : L[k]? = some x) (hy : M[k]? = some y) (h : L.take k = M.take k) (e : x = y) : L.take (k + 1) = M.take (k + 1) := by
  rw [take_snoc_ L k x hx, take_snoc_ M k y hy, h, e]
theorem eqs_not {α : Type} [DecidableEq α] {L M : List α} {k : Nat} {x y : α} (hx : L[k]? = some x) (hy : M[k]? = some y) (e : ¬ x = y) : decide (L = M) = false := by
  refine decide_eq_false fun h => e ?_
  subst h
  rw [hx] at hy
  exact Option.some.inj hy
theorem eqs_all {α : Type} [DecidableEq α] {L M : List α} {k : Nat} (hl : L.length ≤ k) (hm : M.length ≤ k) (h : L.take k = M.take k) : decide (L = M) = true := by
  rw [List.take_of_length_le hl, List.take_of_length_le hm] at h
  exact decide_eq_true h
theorem eqs_len {α : Type} [DecidableEq α] {L M : List α} (h : ¬ L.length = M.length) : decide (L = M) = false := decide_eq_false fun e => h (by rw [e])
set_option maxRecDepth 100000 in
set_option maxHeartbeats 2000000 in
theorem rsame_any (A A' : Option Addr) (n n' c c' : Nat) (L M : List (OpT)) (w : World) (h : RdS w w.heap.size 20 A n c (rowsV opCells L)) (h' : RdS w w.heap.size 20 A' n' c' (rowsV opCells M)) (hn : n ≤ maxLen) :
    Calls Try.prog 24 #[.agg #[.slice A n c], .agg #[.slice A' n' c']] w fun e w' => e = .returned (.bool (decide (L = M))) ∧ Below w.heap.size w w' := by
  have hl := h.rlen opCells_len' (by decide)
  have hl' := h'.rlen opCells_len' (by decide)
  unfold maxLen at hn
  obtain rfl := hl
  obtain rfl := hl'
  have HR := Lib.hid h
  have HR' := Lib.hid h'
  clear h h'
  by_cases hlen : L.length = M.length
  case neg =>
    rw [eqs_len hlen]
    have q : (((L.length : Nat) : Int) == ((M.length : Nat) : Int)) = false := beq_eq_false_iff_ne.2 (by omega)
    have q2 : (((L.length : Nat) : Int) != ((M.length : Nat) : Int)) = true := bne_iff_ne.2 (by omega)
    have q3 : decide (L.length = M.length) = false := decide_eq_false hlen
    clear hn
    go_enter Try.func24, Try.ntmps24
    go_wp2
    go_ret
    exact ⟨rfl, below2 _ _ _⟩
  rw [← hlen] at HR' ⊢
  have HLM := Lib.hid hlen
  clear hlen
  go_enter Try.func24, Try.ntmps24
  go_wp2
  obtain ⟨W1, gW1⟩ : ∃ x, (w.alloc (.cells #[.slice A L.length c] 28)).alloc (.cells #[.slice A' L.length c'] 28) = x := ⟨_, rfl⟩
  have HB : RowKit.Hid (Below w.heap.size w W1) := Lib.hid (by rw [← gW1]; exact below2 _ _ _)
  have HRd : RowKit.Hid (RdS W1 W1.heap.size 20 A L.length c (rowsV opCells L)) := Lib.hid (by rw [← gW1]; exact (HR.out.al _).al _)
  have HRd' : RowKit.Hid (RdS W1 W1.heap.size 20 A' L.length c' (rowsV opCells M)) := Lib.hid (by rw [← gW1]; exact (HR'.out.al _).al _)
  have HE : RowKit.Hid (Whole W1 w.heap.size 28 [.slice A L.length c]) := Lib.hid (by rw [← gW1]; exact (Whole.new_ w _ [_]).al _)
  have HE' : RowKit.Hid (Whole W1 (w.heap.size + 1) 28 [.slice A' L.length c']) := Lib.hid (by rw [← gW1]; exact Whole.new2 (cs := [_]) (by simp))
  rw [gW1]
  clear gW1
  obtain ⟨g0, gg0⟩ : ∃ x, w.heap.size = x := ⟨_, rfl⟩
  rw [gg0] at HE HE' ⊢
  clear gg0
  go_loopw [5] (fun i wr => ∃ k : Nat, k ≤ L.length ∧ i = .int .i64 k ∧ RowKit.Hid (Ext W1 wr ∧ L.take k = M.take k)) (fun i _ => L.length - (intOf i).toNat)
  case atStart => exact ⟨0, Nat.zero_le _, rfl, Lib.hid ⟨Ext.refl _, rfl⟩⟩
  case round =>
    rename_i wr _
    obtain ⟨k, hk, rfl, hin⟩ := hrel
    have le := (HE.out.bl hin.out.1).cell (i := 0) rfl
    have le' := (HE'.out.bl hin.out.1).cell (i := 0) rfl
    by_cases hlt : k < L.length
    · have hx : L[k]? = some (L[k]'(by omega)) := List.getElem?_eq_getElem _
      have hy : M[k]? = some (M[k]'(by have := HLM.out; omega)) := List.getElem?_eq_getElem _
      obtain ⟨x, gx⟩ : ∃ x, L[k]'(by omega) = x := ⟨_, rfl⟩
      obtain ⟨y, gy⟩ : ∃ x, M[k]'(by have := HLM.out; omega) = x := ⟨_, rfl⟩
      rw [gx] at hx
      rw [gy] at hy
      have HX := Lib.hid hx
      have HY := Lib.hid hy
      have HRd2 := Lib.hid (HRd.out.bl hin.out.1)
      have HRd2' := Lib.hid (HRd'.out.bl hin.out.1)
      obtain ⟨b, off, rfl, hbB, hpl⟩ := HRd2.out.place opCells_len' (by decide) (by omega)
      obtain ⟨b', off', rfl, hbB', hpl'⟩ := HRd2'.out.place opCells_len' (by decide) (by omega)
      have HP := Lib.hid (fun w' (h : Kept Nil_ wr.drew w') j v hj => h.nil_cell (hpl k x hx j v hj))
      have HP' := Lib.hid (fun w' (h : Kept Nil_ wr.drew w') j v hj => h.nil_cell (hpl' k y hy j v hj))
      have hq := neq_op_run x y
      clear gx gy hx hy hpl hpl' hbB hbB'
      by_cases hxy : x = y
      all_goals
        first | rw [decide_eq_true hxy] at hq | rw [decide_eq_false hxy] at hq
        have HQ := Lib.hid hq
        have HXY := Lib.hid hxy
        clear hq hxy
        go_upto_region 6 with fail
        have ld : ∀ w', Kept Nil_ wr.drew w' → w'.cell? ⟨g0, 0, none⟩ = some (.slice (some ⟨b, off, none⟩) L.length c) := fun w' h => h.nil_cell le
        have ld' : ∀ w', Kept Nil_ wr.drew w' → w'.cell? ⟨g0 + 1, 0, none⟩ = some (.slice (some ⟨b', off', none⟩) L.length c') := fun w' h => h.nil_cell le'
        refine wp_region_reg (Nil_) (by kernel_rfl) ?_
        refine opR_ 0 20 (v := ?_) ?_ ?_; rotate_left
        · intro w' hw'; go_simp; (try with_reducible rfl)
        simp only [st0_, st1_]
        refine opR_ 1 21 (v := ?_) ?_ ?_; rotate_left
        · intro w' hw'; go_simp; (try with_reducible rfl)
        simp only [st0_, st1_]
        refine opR_ 2 22 (v := ?_) ?_ ?_; rotate_left
        · intro w' hw'; go_simp; (try with_reducible rfl)
        simp only [st0_, st1_]
        refine opR_ 3 23 (v := ?_) ?_ ?_; rotate_left
        · intro w' hw'; go_simp; (try with_reducible rfl)
        simp only [st0_, st1_]
        refine opX_ 4 24 ?_
        apply Exists.intro
        apply And.intro
        · exact yr_load_at (by rfl) 53 (.tmp 23) rfl ⟨b, off + k * 20, none⟩ rfl (opCells x) _ HP.out Try.underlying53 rfl (by kernel_rfl)
        simp only [st0_, st1_]
        refine opR_ 5 25 (v := ?_) ?_ ?_; rotate_left
        · intro w' hw'; go_simp; (try with_reducible rfl)
        simp only [st0_, st1_]
        refine opR_ 6 26 (v := ?_) ?_ ?_; rotate_left
        · intro w' hw'; go_simp; (try with_reducible rfl)
        simp only [st0_, st1_]
        refine opR_ 7 27 (v := ?_) ?_ ?_; rotate_left
        · intro w' hw'; go_simp; (try with_reducible rfl)
        simp only [st0_, st1_]
        refine opR_ 8 28 (v := ?_) ?_ ?_; rotate_left
        · intro w' hw'; go_simp; (try with_reducible rfl)
        simp only [st0_, st1_]
        refine opX_ 9 29 ?_
        apply Exists.intro
        apply And.intro
        · exact yr_load_at (by rfl) 53 (.tmp 28) rfl ⟨b', off' + k * 20, none⟩ rfl (opCells y) _ HP'.out Try.underlying53 rfl (by kernel_rfl)
        simp only [st0_, st1_]
        refine opX_ 10 30 ?_
        apply Exists.intro
        apply And.intro
        · exact yr_run (by rfl) (fun w' _ => exec_binop_agg .neq 53 (.tmp 24) (.tmp 29) 53 rfl rfl rfl (by kernel_rfl) (HQ.out w'))
        simp only [st0_, st1_]
        refine wpR_done (by kernel_rfl) ?_ _
        intro w2 hw2
        have HX2 := Lib.hid (hin.out.1.trans ((Below.refl _ _).drew.trans hw2))
        clear hw2 ld ld' le le'
      · have HI : RowKit.Hid (Ext W1 w2 ∧ L.take (k + 1) = M.take (k + 1)) := Lib.hid ⟨HX2.out, eqs_next HX.out HY.out hin.out.2 HXY.out⟩
        go_wp2
        go_roundw
        case rel => exact ⟨k + 1, by omega, by go_num, HI⟩
        case measure => simp [intOf]; omega
      · have HF := Lib.hid (eqs_not HX.out HY.out HXY.out)
        go_wp2
        go_ret
        exact ⟨ret_bool HF.out.symm, HB.out.trans (HX2.out.mono HB.out.size)⟩
    · have HF := Lib.hid (eqs_all (L := L) (M := M) (k := k) (by omega) (by have := HLM.out; omega) hin.out.2)
      go_wp2
      go_ret
      exact ⟨ret_bool HF.out.symm, HB.out.trans (hin.out.1.mono HB.out.size)⟩
end Go.Proofs.Ytinfbaflkjghhaa
/- A cell that holds a slice is none of a row's. -/
namespace Go.Proofs.Ytinfbaflkjghhaa
open Go.RowKit
end Go.Proofs.Ytinfbaflkjghhaa
/- OpcodeBack's walk. -/
namespace Go.Proofs.Ytinfbaflkjghhaa
open Go.RowKit
/-- What Take and Whole tell of what was laid down. -/
theorem back_tk {L : List OpT} (hL : mayE L = 0) (R : List Nat) : tkV (edB L ++ R) = L ∧ tkR (edB L ++ R) = R ∧ tkE (edB L ++ R) = 0 := by
  obtain ⟨h1, h2, h3⟩ := is_okEd (B := edB L ++ R) ⟨hL, rfl⟩
  unfold tkV tkR tkE
  rw [if_pos h1, if_pos h1, if_pos h1]
  exact ⟨h2, h3, rfl⟩
theorem edB_pos (L : List OpT) : 1 ≤ (edB L).length := by simp [edB]
theorem whE_no {B : List Nat} (h : okW B = false) : whE B = 2 := by unfold whE; rw [h]; rfl
end Go.Proofs.Ytinfbaflkjghhaa
/- The document's corner and flag. -/
namespace Go.Proofs.Ytinfbaflkjghhaa
open Go.RowKit
end Go.Proofs.Ytinfbaflkjghhaa
/- The document's Put of an edit. -/
namespace Go.Proofs.Ytinfbaflkjghhaa
open Go.RowKit
end Go.Proofs.Ytinfbaflkjghhaa
/- The document's reader: one, id, corner. -/
namespace Go.Proofs.Ytinfbaflkjghhaa
open Go.RowKit
/-- Where the document's reader stands: the bytes that are left, and whether something was not there. -/
def RrAt (lo : Nat) (w : World) (g : Nat) (R : List Nat) (bad : Bool) : Prop := ∃ A n c, Whole w g 107 [.slice A n c, .bool bad] ∧ RdS w w.heap.size 1 A n c (rowsV f8 R) ∧ n ≤ 100000 ∧ (∀ a, A = some a → 0 < n → a.block < lo) ∧ lo ≤ g ∧ ∀ b ∈ R, b < 256
theorem RrAt.kept {lo : Nat} {S : Nat → Prop} {w w' : World} {g : Nat} {R : List Nat} {bad : Bool} (h : RrAt lo w g R bad) (hk : Kept S w w') (hg : ¬ S g) (hS : ∀ i, i < lo → ¬ S i) : RrAt lo w' g R bad := by
  obtain ⟨A, n, c, h1, h2, h3, h4, h5, h6⟩ := h
  exact ⟨A, n, c, hk.whole h1 hg, h2.kept_ne hk (fun a ha hn => hS _ (h4 a ha hn)), h3, h4, h5, h6⟩
theorem RrAt.ge {lo : Nat} {w : World} {g : Nat} {R : List Nat} {bad : Bool} (h : RrAt lo w g R bad) : lo ≤ g := by
  obtain ⟨A, n, c, h1, h2, h3, h4, h5, h6⟩ := h
  exact h5
theorem RrAt.bytes {lo : Nat} {w : World} {g : Nat} {R : List Nat} {bad : Bool} (h : RrAt lo w g R bad) : ∀ b ∈ R, b < 256 := by
  obtain ⟨A, n, c, h1, h2, h3, h4, h5, h6⟩ := h
  exact h6
theorem RrAt.len {lo : Nat} {w : World} {g : Nat} {R : List Nat} {bad : Bool} (h : RrAt lo w g R bad) : R.length ≤ 100000 := by
  obtain ⟨A, n, c, h1, h2, h3, h4, h5, h6⟩ := h
  have := h2.rlen f8_len (by decide)
  omega
theorem RrAt.bl {lo : Nat} {w w' : World} {g : Nat} {R : List Nat} {bad : Bool} (h : RrAt lo w g R bad) (hb : Below w.heap.size w w') : RrAt lo w' g R bad := by
  obtain ⟨A, n, c, h1, h2, h3, h4, h5, h6⟩ := h
  exact ⟨A, n, c, h1.bl hb, h2.bl hb, h3, h4, h5, h6⟩
theorem RrAt.al {lo : Nat} {w : World} {g : Nat} {R : List Nat} {bad : Bool} (h : RrAt lo w g R bad) (o : Obj) : RrAt lo (w.alloc o) g R bad := h.bl (below1 w o)
theorem RrAt.lt {lo : Nat} {w : World} {g : Nat} {R : List Nat} {bad : Bool} (h : RrAt lo w g R bad) : g < w.heap.size := by
  obtain ⟨A, n, c, h1, h2, h3, h4, h5, h6⟩ := h
  exact h1.lt
theorem RrAt.row {lo : Nat} {w : World} {g b : Nat} {R : List Nat} {bad : Bool} (h : RrAt lo w g R bad) (hgb : g < b) (cs : Array Value) : RrAt lo (w.setRow b cs) g R bad :=
  h.kept (S := fun k => k = b) (kept_row (S := fun k => k = b) rfl cs) (fun e => by omega) (fun k hk e => by have := h.ge; omega)
theorem RrAt.cells {lo : Nat} {w : World} {g b : Nat} {R : List Nat} {bad : Bool} (h : RrAt lo w g R bad) (hgb : g < b) (o : Nat) (vs : List Value) : RrAt lo (w.setCells b o vs) g R bad :=
  h.kept (S := fun k => k = b) (kept_setCells (S := fun k => k = b) rfl o vs) (fun e => by omega) (fun k hk e => by have := h.ge; omega)
theorem RrAt.free {lo : Nat} {w : World} {g : Nat} {R : List Nat} {bad : Bool} (h : RrAt lo w g R bad) (i : Nat) : w.frozen? ⟨g, i, none⟩ = false := by
  obtain ⟨A, n, c, h1, h2, h3, h4, h5, h6⟩ := h
  exact h1.free i
end Go.Proofs.Ytinfbaflkjghhaa
/- The document's reader: corner. -/
namespace Go.Proofs.Ytinfbaflkjghhaa
open Go.RowKit
end Go.Proofs.Ytinfbaflkjghhaa
/- The document's reader: op. -/
namespace Go.Proofs.Ytinfbaflkjghhaa
open Go.RowKit
end Go.Proofs.Ytinfbaflkjghhaa
/- The document's reader: op of kind 7. -/
namespace Go.Proofs.Ytinfbaflkjghhaa
open Go.RowKit
end Go.Proofs.Ytinfbaflkjghhaa
/- The document's reader: op of kind 8. -/
namespace Go.Proofs.Ytinfbaflkjghhaa
open Go.RowKit
end Go.Proofs.Ytinfbaflkjghhaa
/- The document's Take. -/
namespace Go.Proofs.Ytinfbaflkjghhaa
open Go.RowKit
theorem fdV_t {k : Nat} {x : Int × Int} {M : List Nat} (hb : ∀ b ∈ M, b < 256) : (fdV k x M).t.size ≤ 255 := by
  unfold fdV
  by_cases k3 : k = 3
  · rw [if_pos k3]; exact Nat.zero_le _
  rw [if_neg k3]
  by_cases k5 : k = 5
  · rw [if_pos k5]; exact Nat.zero_le _
  rw [if_neg k5]
  by_cases k6 : k = 6
  · rw [if_pos k6]; exact Nat.zero_le _
  rw [if_neg k6]
  by_cases k7 : k = 7
  · rw [if_pos k7]
    show (txT (M.drop 1)).size ≤ 255
    unfold txT
    split
    · rw [txt_size, List.length_take]
      have := byte_lt (drop_lt hb 1)
      omega
    · exact Nat.zero_le _
  rw [if_neg k7]
  by_cases k8 : k = 8
  · rw [if_pos k8]; exact Nat.zero_le _
  rw [if_neg k8]
  exact Nat.zero_le _
theorem edV_t : ∀ (n : Nat) {L : List Nat}, (∀ b ∈ L, b < 256) → ∀ o ∈ edV n L, o.t.size ≤ 255
  | 0, _, _, _, h => by cases h
  | n + 1, L, hb, o, h => by
    rcases List.mem_cons.1 (show o ∈ opV L :: edV n (opL L) from h) with rfl | h
    · exact fdV_t (lI_lt (drop_lt hb 1))
    · exact edV_t n (opL_lt hb) o h
/-- How a round of the document's Take stands. -/
structure EdR (lo g b2 b7 : Nat) (B1 : Bool) (L0 : List Nat) (w : World) (k : Nat) (A : Option Addr) (c : Nat) (R : List Nat) (bad : Bool) (Os : List OpT) (W : World) : Prop where
  cu : RrAt lo W g R bad
  hy : Whole W b7 28 [.slice A k c]
  hx : Whole W b2 28 [.slice none 0 0]
  own : W.ownsRow lo 53 20 (.slice A k c) k (rowsV opCells Os)
  kp : Below lo w W
  st : bad = (B1 || !okN k L0)
  vl : okN k L0 = true → Os = edV k L0 ∧ R = edL k L0
theorem EdR.bl {lo g b2 b7 k c : Nat} {B1 bad : Bool} {L0 R : List Nat} {Os : List OpT} {w W W' : World} {A : Option Addr} (h : EdR lo g b2 b7 B1 L0 w k A c R bad Os W) (hlo : lo ≤ w.heap.size) (hb : Below W.heap.size W W') : EdR lo g b2 b7 B1 L0 w k A c R bad Os W' :=
  ⟨h.cu.bl hb, h.hy.bl hb, h.hx.bl hb, own_up h.own hb, h.kp.trans (hb.mono (Nat.le_trans hlo h.kp.size)), h.st, h.vl⟩
end Go.Proofs.Ytinfbaflkjghhaa
/- The document's Whole. -/
namespace Go.Proofs.Ytinfbaflkjghhaa
open Go.RowKit
end Go.Proofs.Ytinfbaflkjghhaa
/- OpcodePuts' walk. -/
namespace Go.Proofs.Ytinfbaflkjghhaa
open Go.RowKit
theorem oput10_p (A0 : Option Addr) (m0 c0 : Nat) (B : List Nat) (A : Option Addr) (n c : Nat) (L : List OpT) (w : World) (hl : B.length = m0) (h0 : RdS w w.heap.size 1 A0 m0 c0 (rowsV f8 B)) (hB : m0 ≤ 90000) (h : RdS w w.heap.size 20 A n c (rowsV opCells L)) (hn : n ≤ 1000000) :
    Calls Try.prog 26 #[.slice A0 m0 c0, .agg #[.slice A n c]] w fun e w' => ∃ A' c', e = .returned (.tuple #[.slice A' (pE B L).length c', .int .i64 (mayE L)]) ∧ w'.ownsRow w.heap.size 5 1 (.slice A' (pE B L).length c') (pE B L).length (rowsV f8 (pE B L)) ∧ Below w.heap.size w w' := by
  subst hl
  exact oput_any A0 c0 B A n c L w h0 hB h hn
end Go.Proofs.Ytinfbaflkjghhaa
/- OpcodeRows' walk. -/
namespace Go.Proofs.Ytinfbaflkjghhaa
open Go.RowKit
abbrev ES := Option Addr × Nat × Nat × List OpT
def eSl (e : ES) : List Value := [.slice e.1 e.2.1 e.2.2.1]
/-- Two rows of one's own of unlike elements lie apart. -/
theorem own_apart {W : World} {lo lo' k k' n n' : Nat} {T T' : TypeId} {v v' : Value} {xs xs' : List Value} (h : W.ownsRow lo T k v n xs) (h' : W.ownsRow lo' T' k' v' n' xs') (hT : T ≠ T') : v.ownBlock = none ∨ v.ownBlock ≠ v'.ownBlock := by
  rcases h.2 with ⟨rfl, -⟩ | ⟨g, cap, cur, rfl, -, hg, -⟩
  · exact .inl rfl
  · refine .inr fun e => ?_
    rcases h'.2 with ⟨rfl, -⟩ | ⟨g', cap', cur', rfl, -, hg', -⟩
    · cases e
    · have e1 : g = g' := Option.some.inj e
      subst e1
      rw [hg] at hg'
      injection Option.some.inj hg' with e2 e3 e4
      exact hT e3
theorem own_grow {W W' : World} {lo lo' k k' n n' : Nat} {T T' : TypeId} {v v' : Value} {xs xs' : List Value} (h : W.ownsRow lo T k v n xs) (h' : W.ownsRow lo' T' k' v' n' xs') (hT : T ≠ T') (hg : W.grownBy W' v'.ownBlock) : W'.ownsRow lo T k v n xs := h.kept hg (own_apart h h' hT)
structure RwS (lo : Nat) (W : World) (vi : Value) (Ls : List ES) : Prop where
  row : W.ownsRow lo 28 1 vi Ls.length (rowsV eSl Ls)
  each : ∀ e ∈ Ls, W.ownsRow lo 53 20 (.slice e.1 e.2.1 e.2.2.1) e.2.1 (rowsV opCells e.2.2.2)
  may : ∀ e ∈ Ls, mayE e.2.2.2 = 0 ∧ e.2.1 ≤ 10
theorem RwS.up {lo : Nat} {W W' : World} {vi : Value} {Ls : List ES} (h : RwS lo W vi Ls) (hb : Below W.heap.size W W') : RwS lo W' vi Ls := ⟨own_up h.row hb, fun e he => own_up (h.each e he) hb, h.may⟩
end Go.Proofs.Ytinfbaflkjghhaa
/- Steps as bytes: numbers alone. -/
namespace Go.Proofs.Ytinfbaflkjghhaa
open Go.RowKit
abbrev H4 := Int × Int × Int × Int
def In4 (x : H4) : Prop := In64 x.1 ∧ In64 x.2.1 ∧ In64 x.2.2.1 ∧ In64 x.2.2.2
/-- The head of a step as bytes, and out of bytes. -/
def h4B (x : H4) : List Nat := be8 x.1 ++ (be8 x.2.1 ++ (be8 x.2.2.1 ++ be8 x.2.2.2))
def h4V (B : List Nat) : H4 := (num8 (B.take 8), num8 ((B.drop 8).take 8), num8 ((B.drop 16).take 8), num8 ((B.drop 24).take 8))
theorem h4B_len (x : H4) : (h4B x).length = 32 := by simp [h4B, be8_len]
theorem h4B_lt (x : H4) : ∀ b ∈ h4B x, b < 256 := fun b hb => by
  unfold h4B at hb
  simp only [List.mem_append] at hb
  rcases hb with h | h | h | h <;> exact be8_lt _ b h
theorem h4V_B {x : H4} (h : In4 x) (R : List Nat) : h4V (h4B x ++ R) = x := by
  obtain ⟨a, b, c, d⟩ := x
  obtain ⟨h1, h2, h3, h4⟩ := h
  have e8 : ∀ (y : Int) (K : List Nat), (be8 y ++ K).take 8 = be8 y ∧ (be8 y ++ K).drop 8 = K := fun y K => ⟨by rw [List.take_append_of_le_length (by rw [be8_len]; exact Nat.le_refl _), List.take_of_length_le (by rw [be8_len]; exact Nat.le_refl _)], drop_app (be8_len y)⟩
  have e : h4B (a, b, c, d) ++ R = be8 a ++ (be8 b ++ (be8 c ++ (be8 d ++ R))) := by simp [h4B, List.append_assoc]
  have d8 : (h4B (a, b, c, d) ++ R).drop 8 = be8 b ++ (be8 c ++ (be8 d ++ R)) := by rw [e]; exact (e8 _ _).2
  have d16 : (h4B (a, b, c, d) ++ R).drop 16 = be8 c ++ (be8 d ++ R) := by rw [show 16 = 8 + 8 from rfl, ← List.drop_drop, d8]; exact (e8 _ _).2
  have d24 : (h4B (a, b, c, d) ++ R).drop 24 = be8 d ++ R := by rw [show 24 = 16 + 8 from rfl, ← List.drop_drop, d16]; exact (e8 _ _).2
  unfold h4V
  rw [d8, d16, d24, e, (e8 a _).1, (e8 b _).1, (e8 c _).1, (e8 d _).1, num8_be8 a h1, num8_be8 b h2, num8_be8 c h3, num8_be8 d h4]
abbrev SD := H4 × List OpT
def sdE (x : SD) : Int := if x.2 = [] then 0 else mayE x.2
def sdB (x : SD) : List Nat := h4B x.1 ++ (if x.2 = [] then [] else edB x.2)
/-- What Put tells. -/
def sdP (x : SD) : List Nat := if sdE x = 0 then sdB x else []
def okS (B : List Nat) : Bool := decide (B.length = 32) || (decide (32 < B.length) && okW (B.drop 32))
def zS : SD := ((0, 0, 0, 0), [])
def tkS (B : List Nat) : SD := if okS B = true then (h4V B, whV (B.drop 32)) else zS
def tkSE (B : List Nat) : Int := if okS B = true then 0 else 240
theorem okW_nil : okW [] = false := by
  cases h : okW [] with
  | false => rfl
  | true =>
    obtain ⟨L, -, h2⟩ := okW_is.1 h
    have := edB_pos L
    rw [← h2] at this
    simp at this
theorem whV_nil : whV [] = [] := by unfold whV; rw [okW_nil]; rfl
theorem okW_edB {L : List OpT} (h : mayE L = 0) : okW (edB L) = true ∧ whV (edB L) = L := by
  have h1 : okW (edB L) = true := okW_is.2 ⟨L, h, rfl⟩
  have h2 := back_tk h []
  rw [List.append_nil] at h2
  refine ⟨h1, ?_⟩
  unfold whV
  rw [if_pos h1]
  have h3 := h2.1
  unfold tkV at h3
  rwa [if_pos (Bool.and_eq_true_iff.1 h1).1] at h3
theorem edB_len6 {L : List OpT} (h : mayE L = 0) : 6 ≤ (edB L).length := by
  obtain ⟨h1, h2, h3⟩ := mayE_ok h
  match L, h1 with
  | o :: L, _ =>
    have e : (edB (o :: L)).length = 1 + ((opB o).length + (L.flatMap opB).length) := by simp [edB]; omega
    have e2 : (opB o).length = 1 + (4 + (fdB o).length) := by simp [opB, idB]; omega
    omega
theorem sdB_lt (x : SD) : ∀ b ∈ sdB x, b < 256 := fun b hb => by
  unfold sdB at hb
  rcases List.mem_append.1 hb with h | h
  · exact h4B_lt _ b h
  · split at h
    · cases h
    · exact edB_lt _ b h
theorem sdB_len {x : SD} (h : sdE x = 0) : 32 ≤ (sdB x).length ∧ (sdB x).length ≤ 171 := by
  unfold sdB
  rw [List.length_append, h4B_len]
  unfold sdE at h
  split
  · simp
  · rename_i hx
    rw [if_neg hx] at h
    have := edB_len h
    omega
/-- Taken as it was laid down. -/
theorem okS_sd {x : SD} (hx : In4 x.1) (h : sdE x = 0) : okS (sdB x) = true ∧ tkS (sdB x) = x := by
  obtain ⟨a, L⟩ := x
  have hd : (sdB (a, L)).drop 32 = if L = [] then [] else edB L := by unfold sdB; exact drop_app (h4B_len a)
  have hv : h4V (sdB (a, L)) = a := by unfold sdB; exact h4V_B hx _
  have h1 : okS (sdB (a, L)) = true := by
    unfold okS
    by_cases hL : L = []
    · have : (sdB (a, L)).length = 32 := by unfold sdB; rw [if_pos hL, List.append_nil]; exact h4B_len a
      rw [decide_eq_true this]; rfl
    · have hm : mayE L = 0 := by unfold sdE at h; rwa [if_neg hL] at h
      have hl : 32 < (sdB (a, L)).length := by unfold sdB; rw [if_neg hL, List.length_append, h4B_len]; have := edB_len6 hm; show 32 < 32 + (edB L).length; omega
      rw [decide_eq_true hl, hd, if_neg hL, (okW_edB hm).1]
      simp
  refine ⟨h1, ?_⟩
  unfold tkS
  rw [if_pos h1, hv, hd]
  by_cases hL : L = []
  · rw [if_pos hL, whV_nil, hL]
  · have hm : mayE L = 0 := by unfold sdE at h; rwa [if_neg hL] at h
    rw [if_neg hL, (okW_edB hm).2]
theorem num8_in (L : List Nat) : In64 (num8 L) := by
  unfold num8 In64
  rw [IntKind.wrap_i64]
  omega
theorem tkS_in (B : List Nat) : In4 (tkS B).1 := by
  unfold tkS
  split
  · exact ⟨num8_in _, num8_in _, num8_in _, num8_in _⟩
  · unfold zS In4 In64; simp
/-- A step, and where its operations lie. -/
abbrev StT := H4 × ES
def stC (s : StT) : List Value := [.int .i64 s.1.1, .int .i64 s.1.2.1, .int .i64 s.1.2.2.1, .int .i64 s.1.2.2.2, .slice s.2.1 s.2.2.1 s.2.2.2.1]
theorem stC_len (s : StT) : (stC s).length = 5 := rfl
theorem stC_one (s : StT) : ∀ u ∈ stC s, u.oneCell' = true := by simp [stC, Value.oneCell']
def sdT (s : StT) : SD := (s.1, s.2.2.2.2)
end Go.Proofs.Ytinfbaflkjghhaa
/- Put: a step laid down, and the document's own. -/
namespace Go.Proofs.Ytinfbaflkjghhaa
open Go.RowKit
def h4G (x : H4) (k : Nat) : Int := match k with | 0 => x.1 | 1 => x.2.1 | 2 => x.2.2.1 | _ => x.2.2.2
theorem h4_get (k1 k2 k3 k4 : Int) (k : Nat) (hk : k < 4) : (#[.int .i64 k1, .int .i64 k2, .int .i64 k3, .int .i64 k4] : Array Value)[k]? = some (.int .i64 (h4G (k1, k2, k3, k4) k)) := by
  have : k = 0 ∨ k = 1 ∨ k = 2 ∨ k = 3 := by omega
  rcases this with rfl | rfl | rfl | rfl <;> rfl
theorem h4_take (x : H4) (k : Nat) (hk : k < 4) : (h4B x).take (8 * k) ++ be8 (h4G x k) = (h4B x).take (8 * (k + 1)) := by
  obtain ⟨a, b, c, d⟩ := x
  have l8 : ∀ y : Int, (be8 y).length = 8 := be8_len
  have t8 : ∀ (y : Int) (n : Nat), 8 ≤ n → (be8 y).take n = be8 y := fun y n h => List.take_of_length_le (by rw [l8]; exact h)
  have : k = 0 ∨ k = 1 ∨ k = 2 ∨ k = 3 := by omega
  rcases this with rfl | rfl | rfl | rfl <;> simp [h4B, h4G, List.take_append, l8, t8]
theorem size_int23 (W : World) : (sizeOf 3).run Try.prog W = .ok 1 W := by
  have h : (Try.prog.info? 3).map (·.size) = some 1 := by kernel_rfl
  cases hq : Try.prog.info? 3 with
  | none => simp [hq] at h
  | some i => simp [hq] at h; simp [sizeOf, typeInfo, hq, h]
theorem idx_a4 (cs : Array Value) (j : Nat) (hj : j < 4) (x : Int) (hx : cs[j]? = some (.int .i64 x)) (W : World) : (Instr.index 54 (.agg cs) (.int .i64 (j : Int))).run Try.prog W = .ok (.int .i64 x) W := by
  simp only [Instr.index, asIntOf, Sem.run_bind, Sem.run_pure, Result.andThen_ok, run_underlying (Try.underlying54)]
  rw [if_pos ⟨by omega, by omega⟩]
  simp only [Sem.run_bind, size_int23, Result.andThen_ok, part, Int.toNat_natCast, Nat.mul_one]
  have ha : (isAgg 3).run Try.prog W = .ok false W := by
    unfold isAgg
    rw [Sem.run_bind, run_underlying Try.underlying3 W]
    rfl
  simp [ha, hx]
/-- Bytes of the call's own. -/
def GivesB (w : World) (X : List Nat) (m : Nat) (e : Ending) (w' : World) : Prop :=
  ∃ A c, e = .returned (.slice A m c) ∧ w'.ownsRow w.heap.size 5 1 (.slice A m c) m (rowsV f8 X) ∧ Below w.heap.size w w'
theorem num_b (A : Option Addr) (n c : Nat) (L : List Nat) (x : Int) (w : World) (hl : L.length = n) (h : RdS w w.heap.size 1 A n c (rowsV f8 L)) (hn : n ≤ 900000) (m : Nat) (hm : n + 8 = m) : Calls Try.prog 25 #[.slice A n c, .int .i64 x] w (GivesB w (L ++ be8 x) m) := by
  subst hl hm
  refine (num_any A c L x w h hn).mono ?_
  rintro e w' ⟨A', c', rfl, -, -, h3, h4⟩
  rw [List.length_append, be8_len] at h3
  exact ⟨A', c', by rw [List.length_append, be8_len], h3, h4⟩
def GivesP (w : World) (x : SD) (e : Ending) (w' : World) : Prop :=
  ∃ A c, e = .returned (.tuple #[.slice A (sdP x).length c, .int .i64 (sdE x)]) ∧ w'.ownsRow w.heap.size 5 1 (.slice A (sdP x).length c) (sdP x).length (rowsV f8 (sdP x)) ∧ Below w.heap.size w w'
theorem sdP_nil (a : H4) : sdP (a, []) = h4B a ∧ sdE (a, []) = 0 := ⟨by unfold sdP sdE sdB; rw [if_pos rfl, if_pos rfl, if_pos rfl, List.append_nil], rfl⟩
theorem sdP_ops (a : H4) {L : List OpT} (h : L ≠ []) : sdP (a, L) = pE (h4B a) L ∧ sdE (a, L) = mayE L := by
  have e : sdE (a, L) = mayE L := by unfold sdE; rw [if_neg h]
  refine ⟨?_, e⟩
  unfold sdP pE sdB
  rw [e, if_neg h]
set_option maxRecDepth 100000 in
set_option maxHeartbeats 4000000 in
theorem put23_any (s : StT) (w : World) (h : RdS w w.heap.size 20 s.2.1 s.2.2.1 s.2.2.2.1 (rowsV opCells s.2.2.2.2)) (hn : s.2.2.1 ≤ 1000000) :
    Calls Try.prog 13 #[.agg (stC s).toArray] w (GivesP w (sdT s)) := by
  obtain ⟨⟨k1, k2, k3, k4⟩, A, n, c, L⟩ := s
  show Calls Try.prog 13 #[.agg #[.int .i64 k1, .int .i64 k2, .int .i64 k3, .int .i64 k4, .slice A n c]] w (GivesP w ((k1, k2, k3, k4), L))
  replace hn : n ≤ 1000000 := hn
  replace h : RdS w w.heap.size 20 A n c (rowsV opCells L) := h
  have HR0 := Lib.hid (h.al (.cells #[.int .i64 k1, .int .i64 k2, .int .i64 k3, .int .i64 k4, .slice A n c] 30))
  have h_l := Lib.hid (h.rlen opCells_len' (by decide))
  have HX0 : RowKit.Hid (Whole (w.alloc (.cells #[.int .i64 k1, .int .i64 k2, .int .i64 k3, .int .i64 k4, .slice A n c] 30)) w.heap.size 30 [.int .i64 k1, .int .i64 k2, .int .i64 k3, .int .i64 k4, .slice A n c]) := Lib.hid (Whole.new_ _ _ [.int .i64 k1, .int .i64 k2, .int .i64 k3, .int .i64 k4, .slice A n c])
  have HB0 : RowKit.Hid (Below w.heap.size w (w.alloc (.cells #[.int .i64 k1, .int .i64 k2, .int .i64 k3, .int .i64 k4, .slice A n c] 30))) := Lib.hid (below1 _ _)
  clear h
  go_enter Try.func13, Try.ntmps13
  have x0 := HX0.out.cell (i := 0) rfl
  have x1 := HX0.out.cell (i := 1) rfl
  have x2 := HX0.out.cell (i := 2) rfl
  have x3 := HX0.out.cell (i := 3) rfl
  go_upto_region 3 with fail
  obtain ⟨W0, gW0⟩ : ∃ z, w.alloc (.cells #[.int .i64 k1, .int .i64 k2, .int .i64 k3, .int .i64 k4, .slice A n c] 30) = z := ⟨_, rfl⟩
  obtain ⟨b0, gb0⟩ : ∃ z, w.heap.size = z := ⟨_, rfl⟩
  rw [gW0] at HR0 HX0 HB0 ⊢
  rw [gb0] at HX0 ⊢
  clear gW0 gb0 x0 x1 x2 x3
  go_loopw [4, 16] (fun v i wr => ∃ (k m : Nat) (A1 : Option Addr) (c1 : Nat), k ≤ 4 ∧ m = 8 * k ∧ v = .slice A1 m c1 ∧ i = .int .i64 (k : Int) ∧ RowKit.Hid (wr.ownsRow w.heap.size 5 1 (.slice A1 m c1) m (rowsV f8 ((h4B (k1, k2, k3, k4)).take m))) ∧ RowKit.Hid (RdS wr wr.heap.size 20 A n c (rowsV opCells L)) ∧ RowKit.Hid (Whole wr b0 30 [.int .i64 k1, .int .i64 k2, .int .i64 k3, .int .i64 k4, .slice A n c]) ∧ RowKit.Hid (Below w.heap.size w wr)) (fun _ i _ => 4 - (intOf i).toNat)
  case atStart => exact ⟨0, 0, none, 0, by omega, rfl, rfl, rfl, Lib.hid (World.ownsRow_nil _ _ _ _), HR0, HX0, HB0⟩
  case round =>
    clear HR0 HX0 HB0
    obtain ⟨k, m, A1, c1, hk, hm, rfl, rfl, HO, HR, HX, HB⟩ := hrel
    obtain ⟨wz, gwz⟩ : ∃ z, wr = z := ⟨_, rfl⟩
    rw [gwz] at HO HR HX HB ⊢
    clear gwz
    by_cases hlt : k < 4
    · have hltI : (k : Int) < 4 := by omega
      have hix := idx_a4 _ k hlt _ (h4_get k1 k2 k3 k4 k hlt)
      have hT := h4_take (k1, k2, k3, k4) k hlt
      obtain ⟨y, gy⟩ : ∃ z, h4G (k1, k2, k3, k4) k = z := ⟨_, rfl⟩
      rw [gy] at hix hT
      obtain ⟨m1, gm1⟩ : ∃ z, m + 8 = z := ⟨_, rfl⟩
      have hm1 : m1 = 8 * (k + 1) := by omega
      rw [← hm, ← hm1] at hT
      have HT := Lib.hid hT
      have hml : ((h4B (k1, k2, k3, k4)).take m).length = m := by rw [List.length_take, h4B_len]; omega
      have Hml := Lib.hid hml
      have hmle : m ≤ 900000 := by omega
      have Hgm := Lib.hid gm1
      have Hm1 := Lib.hid hm1
      clear hT gy hml gm1 hm hm1
      go_wp2_with fail
      clear hix
      refine (num_b A1 m c1 _ y _ Hml.out (own_rds HO.out) hmle m1 Hgm.out).mono ?_
      rintro e w3 ⟨A3, c3, rfl, ho3, hb3⟩
      rw [HT.out] at ho3
      have HO3 := Lib.hid (own_lo8 ho3 HB.out.size)
      have HR3 := Lib.hid (HR.out.bl hb3)
      have HX3 := Lib.hid (HX.out.bl hb3)
      have HB3 := Lib.hid (bel_bl HB.out hb3)
      clear ho3 hb3 HO HR HX HB HT Hml
      go_wp2
      go_roundw
      case rel => exact ⟨k + 1, m1, A3, c3, by omega, Hm1.out, rfl, by go_num, HO3, HR3, HX3, HB3⟩
      case measure => simp [intOf]; omega
    · obtain rfl : 4 = k := by omega
      obtain rfl : 32 = m := hm.symm
      have ho := HO.out
      rw [show (h4B (k1, k2, k3, k4)).take 32 = h4B (k1, k2, k3, k4) from List.take_of_length_le (by rw [h4B_len]; exact Nat.le_refl _)] at ho
      have HO := Lib.hid ho
      have x4 := HX.out.cell (i := 4) rfl
      clear ho hk hlt hm
      by_cases hL0 : L = []
      · subst hL0
        have hn0 : n = 0 := (h_l.out).symm.trans rfl
        have hz1 : ((n : Int) == 0) = true := by rw [hn0]; rfl
        have hP := sdP_nil (k1, k2, k3, k4)
        have HP : RowKit.Hid (GivesP w ((k1, k2, k3, k4), []) (.returned (.tuple #[.slice A1 32 c1, .int .i64 0])) wz) := Lib.hid (by
          unfold GivesP
          rw [hP.1, hP.2, h4B_len]
          exact ⟨A1, c1, rfl, HO.out, HB.out⟩)
        clear hn0 hP HR HO
        go_wp2
        refine bodyPost_ret (v := .tuple #[.slice A1 32 c1, .int .i64 0]) (by simp [results, Try.results13, go_sem]) rfl ?_
        exact HP.out
      · have hn1 : 0 < n := by rw [← h_l.out]; exact List.length_pos_iff.2 hL0
        have hz1 : ((n : Int) == 0) = false := beq_eq_false_iff_ne.2 (by omega)
        have hP := sdP_ops (k1, k2, k3, k4) hL0
        have HPt := Lib.hid hP
        clear hP hL0 hn1
        go_wp2_with fail
        refine (oput10_p A1 32 c1 (h4B (k1, k2, k3, k4)) A n c L _ (h4B_len _) (own_rds HO.out) (by omega) HR.out hn).mono ?_
        rintro e w5 ⟨A5, c5, rfl, ho5, hb5⟩
        have HP : RowKit.Hid (GivesP w ((k1, k2, k3, k4), L) (.returned (.tuple #[.slice A5 (pE (h4B (k1, k2, k3, k4)) L).length c5, .int .i64 (mayE L)])) w5) := Lib.hid (by
          unfold GivesP
          rw [HPt.out.1, HPt.out.2]
          exact ⟨A5, c5, rfl, own_lo8 ho5 HB.out.size, bel_bl HB.out hb5⟩)
        clear ho5 hb5 HR HO HPt
        go_wp2
        refine bodyPost_ret (v := .tuple #[.slice A5 (pE (h4B (k1, k2, k3, k4)) L).length c5, .int .i64 (mayE L)]) (by simp [results, Try.results13, go_sem]) rfl ?_
        exact HP.out
end Go.Proofs.Ytinfbaflkjghhaa
