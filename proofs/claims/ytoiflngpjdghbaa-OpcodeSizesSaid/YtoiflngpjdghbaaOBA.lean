/- 'OpcodeSizes' answers true for every edit.
   No condition beyond the row's own. -/
import Derived.Test.YtoiflngpjdghbaaOAH
import Derived.Test.YtoiflngpjdghbaaRows
import Derived.Test.YtoiflngpjdghbaaOAI
import Derived.Test.YtoiflngpjdghbaaOAB

/- OpcodeSizes' walk. -/
namespace Go.Proofs.Ytoiflngpjdghbaa
open Go.RowKit
set_option linter.unusedSimpArgs false
set_option linter.unusedVariables false

theorem neq_dartz (a b c : Int) (W : World) : (binOp .neq 44 (.agg #[.int .i64 a, .int .i64 b, .int .i64 c]) (.agg #[.int .i64 0, .int .i64 0, .int .i64 0])).run Try.prog W = .ok (.bool (!decide (a = 0 ∧ b = 0 ∧ c = 0))) W := by
  by_cases h1 : a = 0 <;> by_cases h2 : b = 0 <;> by_cases h3 : c = 0 <;> simp [go_sem, h1, h2, h3]
theorem crB_size (c : C5) : (crB c).length = if c.2.2.1 = 0 ∧ c.2.2.2.1 = 0 ∧ c.2.2.2.2 = 0 then 5 else 9 := by
  unfold crB; split <;> simp [idB]
theorem opB_size (o : OpT) : (opB o).length = 5 + (fdB o).length := by simp [opB, idB]; omega
/-- How many bytes the first k operations have. -/
def szT (E : List OpT) (k : Nat) : Nat := 1 + ((E.take k).flatMap opB).length
theorem szT_next {E : List OpT} {k : Nat} {o : OpT} (h : E[k]? = some o) : szT E (k + 1) = szT E k + (5 + (fdB o).length) := by
  unfold szT
  rw [take_snoc_ E k o h, List.flatMap_append, List.flatMap_cons, List.flatMap_nil, List.append_nil, List.length_append, opB_size]
  omega
theorem szT_all (E : List OpT) : szT E E.length = (edB E).length := by unfold szT edB; rw [List.take_length, List.length_cons]; omega
theorem szT_le {E : List OpT} (h : mayE E = 0) (k : Nat) : szT E k ≤ 200 := by
  have h1 := flat_len (E.take k) (fun o ho => mayE_all h o (List.mem_of_mem_take ho))
  have h2 : (E.take k).length ≤ E.length := List.length_take_le' _ _
  have h3 := (mayE_ok h).2.1
  unfold szT
  omega
set_option maxRecDepth 100000 in
set_option maxHeartbeats 8000000 in
theorem law_sizes (A : Option Addr) (n c : Nat) (L : List OpT) (w : World) (h : RdS w w.heap.size 20 A n c (rowsV opCells L)) (hn : n ≤ maxLen) :
    Calls Try.prog 7 #[.agg #[.slice A n c]] w fun e w' => e = .returned (.bool true) ∧ Below w.heap.size w w' := by
  have HR := Lib.hid (h.al (.cells #[.slice A n c] 25))
  have HX0 : RowKit.Hid (Whole (w.alloc (.cells #[.slice A n c] 25)) w.heap.size 25 [.slice A n c]) := Lib.hid (Whole.new_ _ _ [_])
  have HB0 : RowKit.Hid (Below w.heap.size w (w.alloc (.cells #[.slice A n c] 25))) := Lib.hid (below1 _ _)
  have HF := Lib.hid (fun W h => few10_any A n c L W h hn)
  have HEl := Lib.hid (fewE_len L)
  obtain ⟨E, gE⟩ : ∃ z, fewE L = z := ⟨_, rfl⟩
  rw [gE] at HF HEl
  obtain ⟨m, gm⟩ : ∃ z, E.length = z := ⟨_, rfl⟩
  rw [gm] at HF HEl
  have Gm := Lib.hid gm
  have hmb : m ≤ 10 := HEl.out
  have HPu := Lib.hid (fun A' c' W (h : RdS W W.heap.size 20 A' m c' (rowsV opCells E)) => oput_any none 0 [] A' m c' E W (rds_nil _ _ _) (by simp) h (by omega))
  clear h gE gm
  go_enter Try.func7, Try.ntmps7
  go_upto_region 1 with fail
  obtain ⟨w0, gw0⟩ : ∃ z, w.alloc (.cells #[.slice A n c] 25) = z := ⟨_, rfl⟩
  obtain ⟨b1, gb1⟩ : ∃ z, w.heap.size = z := ⟨_, rfl⟩
  rw [gw0] at HR HX0 HB0 ⊢
  rw [gb1] at HX0 ⊢
  have Gb1 : RowKit.Hid (w.heap.size ≤ b1) := Lib.hid (Nat.le_of_eq gb1)
  clear gw0 gb1
  go_upto_region 2 with (first
    | (go_at_call 9
       refine (shown10_any _).mono ?_
       rintro e w1 ⟨rfl, hb⟩
       have HR1 := Lib.hid (HR.out.bl hb)
       have HX1 := Lib.hid (HX0.out.bl hb)
       have HB1 := Lib.hid (bel_bl HB0.out hb)
       clear hb HR HX0 HB0))
  have d0 := HX1.out.cell (i := 0) rfl
  go_upto_region 3 with (first
    | (go_at_call 11
       refine (HF.out _ HR1.out).mono ?_
       rintro e w2 ⟨A2, c2, rfl, ho, hb⟩
       have HX2 := Lib.hid (HX1.out.bl hb)
       have HB2 := Lib.hid (bel_bl HB1.out hb)
       have HO2 := Lib.hid ho
       have q0 := HX2.out.cell (i := 0) rfl
       have f0 := HX2.out.free 0
       clear hb ho d0))
  clear q0 f0
  have HX3 := Lib.hid (HX2.out.set_ 0 (.slice A2 m c2))
  have HB3 := Lib.hid (HB2.out.setCell (p := ⟨b1, 0, none⟩) Gb1.out (.slice A2 m c2))
  have HR3 : RowKit.Hid (RdS (w2.setCell ⟨b1, 0, none⟩ (.slice A2 m c2)) (w2.setCell ⟨b1, 0, none⟩ (.slice A2 m c2)).heap.size 20 A2 m c2 (rowsV opCells E)) := Lib.hid (own_rds (own_cell_far HO2.out (own_ne HO2.out HX2.out (by decide)) _))
  obtain ⟨w3, gw3⟩ : ∃ z, w2.setCell ⟨b1, 0, none⟩ (.slice A2 m c2) = z := ⟨_, rfl⟩
  rw [gw3] at HX3 HB3 HR3 ⊢
  clear gw3 HX1 HX2 HB1 HB2 HR1 HO2
  have d0 := HX3.out.cell (i := 0) rfl
  have HSn := Lib.hid (fun k o (h : E[k]? = some o) => szT_next h)
  by_cases hm : mayE E = 0
  · have hp : pE [] E = edB E := by unfold pE; rw [if_pos hm, List.nil_append]
    have Hm := Lib.hid hm
    rw [hp, hm] at HPu
    have HSa := Lib.hid (szT_all E)
    have HSl := Lib.hid (szT_le hm)
    obtain ⟨P, gP⟩ : ∃ z, (edB E).length = z := ⟨_, rfl⟩
    have HPu2 := HPu
    rw [gP] at HPu HSa
    clear hp hm gP HPu2
    go_upto_region 6 with (first
      | (go_at_call 10
         refine (HPu.out _ _ _ HR3.out).mono ?_
         rintro e w4 ⟨A4, c4, rfl, -, hb⟩
         have HX4 := Lib.hid (HX3.out.bl hb)
         have HB4 := Lib.hid (bel_bl HB3.out hb)
         have HR4 := Lib.hid (HR3.out.bl hb)
         clear hb d0 HX3 HB3 HR3))
    go_upto_region 7 with fail
    go_wp2
    go_loopw [6, 7] (fun v i wr => ∃ (k : Nat) (N : Nat), k ≤ m ∧ N = szT E k ∧ v = .int .i64 (N : Int) ∧ i = .int .i64 (k : Int) ∧ RowKit.Hid (Below w4.heap.size w4 wr)) (fun _ i _ => m - (intOf i).toNat)
    case atStart => exact ⟨0, 1, Nat.zero_le _, rfl, rfl, rfl, Lib.hid (Below.refl _ _)⟩
    case round =>
      obtain ⟨k, N, hk, hN, rfl, rfl, hin⟩ := hrel
      have HX5 := Lib.hid (HX4.out.bl hin.out)
      have d0 := HX5.out.cell (i := 0) rfl
      have hNb : N ≤ 200 := by rw [hN]; exact HSl.out k
      have HN := Lib.hid hN
      clear hN
      by_cases hlt : k < m
      · have hi1 : (k : Int) < (m : Int) := by omega
        have hk0 : E[k]? = some (E[k]'(by have := Gm.out; omega)) := List.getElem?_eq_getElem _
        obtain ⟨o, go⟩ : ∃ o, E[k]'(by have := Gm.out; omega) = o := ⟨_, rfl⟩
        rw [go] at hk0
        have hsn := HSn.out k o hk0
        have hMo := mayE_all Hm.out o (List.mem_of_getElem? hk0)
        have hfl := fdB_len (mayO_head hMo).2.2.2
        have hts := (mayO_head hMo).2.2.2
        rw [← HN.out] at hsn
        have Hsn := Lib.hid hsn
        have HRd2 := Lib.hid (HR4.out.bl hin.out)
        obtain ⟨b, off, rfl, hbB, hpl⟩ := HRd2.out.place opCells_len' (by decide) (by omega)
        have HP := Lib.hid (hpl k o hk0)
        clear go hk0 hpl hbB hsn hMo
        go_upto_region 10 with fail
        refine wp_region_lit ?_
        refine wl_read (v := ?_) (some 32) rfl (by rfl) ?_ ?_
        rotate_left
        · go_simp; (try with_reducible rfl)
        simp only [Act.put, List.setIfInBounds_toArray, List.set_cons_zero, List.set_cons_succ]
        refine wl_read (v := ?_) (some 33) rfl (by rfl) ?_ ?_
        rotate_left
        · go_simp; (try with_reducible rfl)
        simp only [Act.put, List.setIfInBounds_toArray, List.set_cons_zero, List.set_cons_succ]
        refine wl_read (v := ?_) (some 34) rfl (by rfl) ?_ ?_
        rotate_left
        · go_simp; (try with_reducible rfl)
        simp only [Act.put, List.setIfInBounds_toArray, List.set_cons_zero, List.set_cons_succ]
        refine wl_read (v := ?_) (some 35) rfl (by rfl) ?_ ?_
        rotate_left
        · go_simp; (try with_reducible rfl)
        simp only [Act.put, List.setIfInBounds_toArray, List.set_cons_zero, List.set_cons_succ]
        refine wl_load_at (some 36) rfl (by rfl) 48 (.tmp 35) rfl ⟨b, off + k * 20, none⟩ rfl (opCells o) _ HP.out Try.underlying48 rfl (by kernel_rfl) ?_
        simp only [Act.put, List.setIfInBounds_toArray, List.set_cons_zero, List.set_cons_succ]
        refine wl_new 8 rfl rfl rfl 48 (.tmp 36) rfl rfl #[.int .i64 0, .int .i64 0, .int .i64 0, .int .i64 0, .int .i64 0, .int .i64 0, .int .i64 0, .int .i64 0, .int .i64 0, .int .i64 0, .int .i64 0, .int .i64 0, .int .i64 0, .int .i64 0, .int .i64 0, .int .i64 0, .int .i64 0, .bool false, .string ⟨#[]⟩, .int .i64 0] ?_ (opCells o).toArray (by simp) rfl (by kernel_rfl) rfl (opCells_arr _) ?_
        · go_simp; (try with_reducible rfl)
        simp only [Act.put, List.setIfInBounds_toArray, List.set_cons_zero, List.set_cons_succ]
        have HY6 : RowKit.Hid (Whole (wr.alloc (.cells (opCells o).toArray 48)) wr.heap.size 48 (opCells o)) := Lib.hid (Whole.new_ _ _ _)
        have HB6 : RowKit.Hid (Below w4.heap.size w4 (wr.alloc (.cells (opCells o).toArray 48))) := Lib.hid (hin.out.alloc hin.out.size _)
        obtain ⟨w6, gw6⟩ : ∃ z, wr.alloc (.cells (opCells o).toArray 48) = z := ⟨_, rfl⟩
        obtain ⟨g6, gg6⟩ : ∃ z, wr.heap.size = z := ⟨_, rfl⟩
        rw [gw6] at HY6 HB6 ⊢
        rw [gg6] at HY6 ⊢
        clear gw6 gg6 hin d0 HX5 HRd2 HP
        have y0 := HY6.out.cell (i := 0) rfl
        have hw5 : IntKind.i64.wrap ((N : Int) + 5) = ((N + 5 : Nat) : Int) := by rw [IntWalk.i64_in _ (by omega)]; omega
        obtain ⟨N5, gN5⟩ : ∃ z, N + 5 = z := ⟨_, rfl⟩
        rw [gN5] at hw5
        have GN5 := Lib.hid gN5
        clear gN5
        by_cases k3 : o.k = 3
        · have q3 : (o.k == 3) = true := by rw [k3]; rfl
          have hfs : (fdB o).length = (if o.a2 = 0 ∧ o.a3 = 0 ∧ o.a4 = 0 then 5 else 9) + (if o.b2 = 0 ∧ o.b3 = 0 ∧ o.b4 = 0 then 5 else 9) := by rw [fdB3 k3, List.length_append, crB_size, crB_size]; rfl
          have hqa := neq_dartz o.a2 o.a3 o.a4
          have hqb := neq_dartz o.b2 o.b3 o.b4
          have y9 := HY6.out.cell (i := 9) rfl
          have y10 := HY6.out.cell (i := 10) rfl
          have y11 := HY6.out.cell (i := 11) rfl
          have y14 := HY6.out.cell (i := 14) rfl
          have y15 := HY6.out.cell (i := 15) rfl
          have y16 := HY6.out.cell (i := 16) rfl
          have hT1 : IntKind.i64.wrap ((N5 : Int) + 10) = ((N5 + 10 : Nat) : Int) := by have := GN5.out; rw [IntWalk.i64_in _ (by omega)]; omega
          obtain ⟨T1, gT1⟩ : ∃ z, N5 + 10 = z := ⟨_, rfl⟩
          rw [gT1] at hT1
          have GT1 := Lib.hid gT1
          clear gT1
          by_cases ha : o.a2 = 0 ∧ o.a3 = 0 ∧ o.a4 = 0
          · by_cases hb : o.b2 = 0 ∧ o.b3 = 0 ∧ o.b4 = 0
            · rw [if_pos ha, if_pos hb] at hfs
              rw [decide_eq_true ha] at hqa
              rw [decide_eq_true hb] at hqb
              have HFl := Lib.hid hfs
              simp only [Bool.not_true, Bool.not_false] at hqa hqb
              clear hfs ha hb k3
              clear hfl hts
              go_wp2
              go_roundw
              case rel => exact ⟨k + 1, T1, by omega, by rw [Hsn.out, HFl.out]; have := GN5.out; have := GT1.out; omega, rfl, by go_num, HB6⟩
              case measure => simp [intOf]; omega
            · rw [if_pos ha, if_neg hb] at hfs
              rw [decide_eq_true ha] at hqa
              rw [decide_eq_false hb] at hqb
              have HFl := Lib.hid hfs
              simp only [Bool.not_true, Bool.not_false] at hqa hqb
              have hT3 : IntKind.i64.wrap ((T1 : Int) + 4) = ((T1 + 4 : Nat) : Int) := by have := GN5.out; have := GT1.out; rw [IntWalk.i64_in _ (by omega)]; omega
              obtain ⟨T3, gT3⟩ : ∃ z, T1 + 4 = z := ⟨_, rfl⟩
              rw [gT3] at hT3
              have GT3 := Lib.hid gT3
              clear gT3
              clear hfs ha hb k3
              clear hfl hts
              go_wp2
              go_roundw
              case rel => exact ⟨k + 1, T3, by omega, by rw [Hsn.out, HFl.out]; have := GN5.out; have := GT1.out; have := GT3.out; omega, rfl, by go_num, HB6⟩
              case measure => simp [intOf]; omega
          · by_cases hb : o.b2 = 0 ∧ o.b3 = 0 ∧ o.b4 = 0
            · rw [if_neg ha, if_pos hb] at hfs
              rw [decide_eq_false ha] at hqa
              rw [decide_eq_true hb] at hqb
              have HFl := Lib.hid hfs
              simp only [Bool.not_true, Bool.not_false] at hqa hqb
              have hT2 : IntKind.i64.wrap ((T1 : Int) + 4) = ((T1 + 4 : Nat) : Int) := by have := GN5.out; have := GT1.out; rw [IntWalk.i64_in _ (by omega)]; omega
              obtain ⟨T2, gT2⟩ : ∃ z, T1 + 4 = z := ⟨_, rfl⟩
              rw [gT2] at hT2
              have GT2 := Lib.hid gT2
              clear gT2
              clear hfs ha hb k3
              clear hfl hts
              go_wp2
              go_roundw
              case rel => exact ⟨k + 1, T2, by omega, by rw [Hsn.out, HFl.out]; have := GN5.out; have := GT1.out; have := GT2.out; omega, rfl, by go_num, HB6⟩
              case measure => simp [intOf]; omega
            · rw [if_neg ha, if_neg hb] at hfs
              rw [decide_eq_false ha] at hqa
              rw [decide_eq_false hb] at hqb
              have HFl := Lib.hid hfs
              simp only [Bool.not_true, Bool.not_false] at hqa hqb
              have hT2 : IntKind.i64.wrap ((T1 : Int) + 4) = ((T1 + 4 : Nat) : Int) := by have := GN5.out; have := GT1.out; rw [IntWalk.i64_in _ (by omega)]; omega
              obtain ⟨T2, gT2⟩ : ∃ z, T1 + 4 = z := ⟨_, rfl⟩
              rw [gT2] at hT2
              have GT2 := Lib.hid gT2
              clear gT2
              have hT3 : IntKind.i64.wrap ((T2 : Int) + 4) = ((T2 + 4 : Nat) : Int) := by have := GN5.out; have := GT1.out; have := GT2.out; rw [IntWalk.i64_in _ (by omega)]; omega
              obtain ⟨T3, gT3⟩ : ∃ z, T2 + 4 = z := ⟨_, rfl⟩
              rw [gT3] at hT3
              have GT3 := Lib.hid gT3
              clear gT3
              clear hfs ha hb k3
              clear hfl hts
              go_wp2
              go_roundw
              case rel => exact ⟨k + 1, T3, by omega, by rw [Hsn.out, HFl.out]; have := GN5.out; have := GT1.out; have := GT2.out; have := GT3.out; omega, rfl, by go_num, HB6⟩
              case measure => simp [intOf]; omega
        have q3 : (o.k == 3) = false := by simpa using k3
        by_cases k5 : o.k = 5
        · have q5 : (o.k == 5) = true := by rw [k5]; rfl
          have HFl : RowKit.Hid ((fdB o).length = 9) := Lib.hid (by rw [fdB5 k5]; simp [idB, be8_len])
          have hT1 : IntKind.i64.wrap ((N5 : Int) + 9) = ((N5 + 9 : Nat) : Int) := by have := GN5.out; rw [IntWalk.i64_in _ (by omega)]; omega
          obtain ⟨T1, gT1⟩ : ∃ z, N5 + 9 = z := ⟨_, rfl⟩
          rw [gT1] at hT1
          have GT1 := Lib.hid gT1
          clear gT1
          clear k5
          clear hfl hts
          go_wp2
          go_roundw
          case rel => exact ⟨k + 1, T1, by omega, by rw [Hsn.out, HFl.out]; have := GN5.out; have := GT1.out; omega, rfl, by go_num, HB6⟩
          case measure => simp [intOf]; omega
        have q5 : (o.k == 5) = false := by simpa using k5
        by_cases k6 : o.k = 6
        · have q6 : (o.k == 6) = true := by rw [k6]; rfl
          have HFl : RowKit.Hid ((fdB o).length = 4) := Lib.hid (by rw [fdB6 k6]; simp [idB, be8_len])
          have hT1 : IntKind.i64.wrap ((N5 : Int) + 4) = ((N5 + 4 : Nat) : Int) := by have := GN5.out; rw [IntWalk.i64_in _ (by omega)]; omega
          obtain ⟨T1, gT1⟩ : ∃ z, N5 + 4 = z := ⟨_, rfl⟩
          rw [gT1] at hT1
          have GT1 := Lib.hid gT1
          clear gT1
          clear k6
          clear hfl hts
          go_wp2
          go_roundw
          case rel => exact ⟨k + 1, T1, by omega, by rw [Hsn.out, HFl.out]; have := GN5.out; have := GT1.out; omega, rfl, by go_num, HB6⟩
          case measure => simp [intOf]; omega
        have q6 : (o.k == 6) = false := by simpa using k6
        by_cases k7 : o.k = 7
        · have q7 : (o.k == 7) = true := by rw [k7]; rfl
          have HFl : RowKit.Hid ((fdB o).length = 2 + o.t.size) := Lib.hid (by rw [fdB7 k7]; simp [textB, tB_len]; omega)
          have y18 := HY6.out.cell (i := 18) (v := .string o.t) rfl
          obtain ⟨sz, gsz⟩ : ∃ z, o.t.size = z := ⟨_, rfl⟩
          rw [gsz] at HFl hts
          have hT1 : IntKind.i64.wrap ((N5 : Int) + 2) = ((N5 + 2 : Nat) : Int) := by have := GN5.out; rw [IntWalk.i64_in _ (by omega)]; omega
          obtain ⟨T1, gT1⟩ : ∃ z, N5 + 2 = z := ⟨_, rfl⟩
          rw [gT1] at hT1
          have GT1 := Lib.hid gT1
          clear gT1
          have hT2 : IntKind.i64.wrap ((T1 : Int) + (sz : Int)) = ((T1 + sz : Nat) : Int) := by have := GN5.out; have := GT1.out; rw [IntWalk.i64_in _ (by omega)]; omega
          obtain ⟨T2, gT2⟩ : ∃ z, T1 + sz = z := ⟨_, rfl⟩
          rw [gT2] at hT2
          have GT2 := Lib.hid gT2
          clear gT2 k7
          clear hfl hts
          go_wp2
          go_roundw
          case rel => exact ⟨k + 1, T2, by omega, by rw [Hsn.out, HFl.out]; have := GN5.out; have := GT1.out; have := GT2.out; omega, rfl, by go_num, HB6⟩
          case measure => simp [intOf]; omega
        have q7 : (o.k == 7) = false := by simpa using k7
        by_cases k8 : o.k = 8
        · have q8 : (o.k == 8) = true := by rw [k8]; rfl
          have HFl : RowKit.Hid ((fdB o).length = 9) := Lib.hid (by rw [fdB8 k8]; simp [idB, be8_len])
          have hT1 : IntKind.i64.wrap ((N5 : Int) + 9) = ((N5 + 9 : Nat) : Int) := by have := GN5.out; rw [IntWalk.i64_in _ (by omega)]; omega
          obtain ⟨T1, gT1⟩ : ∃ z, N5 + 9 = z := ⟨_, rfl⟩
          rw [gT1] at hT1
          have GT1 := Lib.hid gT1
          clear gT1
          clear k8
          clear hfl hts
          go_wp2
          go_roundw
          case rel => exact ⟨k + 1, T1, by omega, by rw [Hsn.out, HFl.out]; have := GN5.out; have := GT1.out; omega, rfl, by go_num, HB6⟩
          case measure => simp [intOf]; omega
        have q8 : (o.k == 8) = false := by simpa using k8
        have HFl : RowKit.Hid ((fdB o).length = 0) := Lib.hid (by rw [fdB0 k3 k5 k6 k7 k8]; rfl)
        clear k3 k5 k6 k7 k8
        clear hfl hts
        go_wp2
        go_roundw
        case rel => exact ⟨k + 1, N5, by omega, by rw [Hsn.out, HFl.out]; have := GN5.out; omega, rfl, by go_num, HB6⟩
        case measure => simp [intOf]; omega
      · obtain rfl : m = k := by omega
        have hi1 : ¬ (m : Int) < (m : Int) := by omega
        have hNP : N = P := by rw [HN.out, ← HSa.out, Gm.out]
        subst hNP
        have HBz : RowKit.Hid (Below w.heap.size w wr) := Lib.hid (bel_bl HB4.out hin.out)
        clear hin hlt
        go_wp2
        go_ret
        exact ⟨rfl, HBz.out⟩
  · have hp : pE [] E = [] := by unfold pE; rw [if_neg hm]
    rw [hp] at HPu
    obtain ⟨x, gx⟩ : ∃ z, mayE E = z := ⟨_, rfl⟩
    rw [gx] at HPu hm
    have q1 : (x == 0) = false := beq_eq_false_iff_ne.2 hm
    have q2 : (x != 0) = true := bne_iff_ne.2 hm
    clear hp gx hm
    go_wp2_with (first
      | (go_at_call 10
         refine (HPu.out _ _ _ HR3.out).mono ?_
         rintro e w4 ⟨A4, c4, rfl, -, hb⟩
         have HB4 := Lib.hid (bel_bl HB3.out hb)
         clear hb d0))
    go_ret
    exact ⟨rfl, HB4.out⟩
end Go.Proofs.Ytoiflngpjdghbaa

/- 'OpcodeSizes' answers true for every edit.
   No condition beyond the row's own. -/
namespace Go.Proofs.Ytoiflngpjdghbaa
open Go.ChangeShapes Go.WideShapes Go.ChangeAt Go.RowKit
namespace lawOpcodeSizes

set_option maxRecDepth 100000 in
theorem contract (H : Type) (enc : TypeId × Value → H) (W : World) (base : Nat) (args : Array Value) (ds gs : List (DataW H)) (before : List MemPlace)
    (hval : ∀ (j : Nat) t v, Try.f7.params[j]? = some t → args[j]? = some v → Value.okWide Try.prog W .any base t v)
    (hW : DataW.Whole enc Try.prog Try.f7.params.toList Rows.opcodeSizesSpec.vars false W args.toList ds gs before) :
    Calls Try.prog 7 args W fun e W' => ∃ v, e = .returned v ∧ Rows.opcodeSizesSpec.post enc Try.prog Try.f7 false true false false W args v W' := by
  have hW' := hW
  obtain ⟨p, q, hA, hV, rfl, hfz, hnd⟩ := hW
  obtain ⟨rfl, rfl⟩ := trodVars_none hV
  rw [Try.params7] at hA hval
  obtain ⟨v0, d0, rfl, rfl, h0⟩ := trodAll_one hA
  obtain ⟨a, rfl, hx0⟩ := open_row1_struct (row1_edit H) Try.underlying25 (hval 0 25 v0 rfl rfl) h0
  refine (law_sizes a.1 a.2.1 a.2.2.1 a.2.2.2 W hx0.2.1 (Nat.le_trans hx0.2.1.le hx0.1)).mono fun e W' ⟨he, hb⟩ => ⟨_, he, ?_⟩
  exact law_post Try.laidOut (by kernel_rfl) (tb := 4) (by kernel_rfl) Try.underlying4 rfl ⟨rfl, rfl, rfl⟩ hW' hb

set_option maxRecDepth 100000 in
theorem lifted (os : Os) (started : os.Started) (H : Type) (enc : TypeId × Value → H) :
    ReturnsInHanded {} Try.checked os 7 .any (Rows.opcodeSizesSpec.pre6 enc Try.prog Try.f7 Rows.opcodeSizesRow.domain false) (Rows.opcodeSizesSpec.post enc Try.prog Try.f7 false true false false) := by
  refine returnsInHanded_of_change (C := Try.checked) Try.own started (by kernel_rfl) Try.func7
    (ChangeSpec.witness6 (enc := enc) (C := Try.checked) false ⟨#[], #[.agg #[.slice none 0 0]], []⟩ 8 (by kernel_rfl) (by kernel_rfl) (by kernel_rfl) (by kernel_rfl)) ?_
  intro W base args ds gs before hval hW _ _
  exact contract H enc W base args ds gs before hval hW

theorem proved : Rows.OpcodeSizesSaid :=
  OpenClaim.holds_of_wide 7 Try.f7 rfl rfl rfl rfl rfl rfl rfl ⟨rfl, rfl, rfl, rfl, rfl⟩ rfl rfl rfl rfl rfl (by kernel_rfl) Try.func7 (by kernel_rfl)
    (of_decide_eq_true (by kernel_rfl)) (by unfold Func.isWrapper; first | (rw [if_pos (by decide +kernel)]; kernel_rfl) | (rw [if_neg (by decide +kernel)]; exact ⟨rfl, rfl⟩))
    (fun os started H enc _ => lifted os started H enc)
end lawOpcodeSizes
end Go.Proofs.Ytoiflngpjdghbaa
