/- The contracts of op.MayEdit and of the document's own. -/
import Derived.Test.YtfbgbljljhgbjaaOp11
import Derived.Test.YtfbgbljljhgbjaaRow
namespace Go.Proofs.Ytfbgbljljhgbjaa
open Go.RowKit
set_option linter.unusedSimpArgs false
set_option linter.unusedVariables false

/-- What is wrong with the first of them that is wrong. -/
def mayEs : List OpT → Int
  | [] => 0
  | o :: l => if mayO o = 0 then mayEs l else mayO o
/-- What is wrong with an edit. -/
def mayE (L : List OpT) : Int := if L.length < 1 ∨ 6 < L.length then 3 else mayEs L
theorem mayEs_app (l m : List OpT) : mayEs (l ++ m) = if mayEs l = 0 then mayEs m else mayEs l := by
  induction l with
  | nil => simp [mayEs]
  | cons o l ih =>
    simp only [List.cons_append, mayEs]
    by_cases h : mayO o = 0
    · simp [h, ih]
    · simp [h]
theorem take_snoc_ {α : Type} (l : List α) (k : Nat) (x : α) (h : l[k]? = some x) : l.take (k + 1) = l.take k ++ [x] := by
  rw [List.take_add_one, h]
  rfl
theorem mayEs_next (L : List OpT) (k : Nat) (o : OpT) (h : L[k]? = some o) (h0 : mayEs (L.take k) = 0) (ho : mayO o = 0) : mayEs (L.take (k + 1)) = 0 := by
  rw [take_snoc_ L k o h, mayEs_app, if_pos h0]
  simp [mayEs, ho]
theorem mayEs_stop (L : List OpT) (k : Nat) (o : OpT) (h : L[k]? = some o) (h0 : mayEs (L.take k) = 0) (ho : mayO o ≠ 0) : mayEs L = mayO o := by
  have e : L = L.take (k + 1) ++ L.drop (k + 1) := (List.take_append_drop _ _).symm
  rw [e, take_snoc_ L k o h, List.append_assoc, mayEs_app, if_pos h0]
  simp [mayEs, ho]
theorem opCells_len' (o : OpT) : (opCells o).length = 20 := rfl
theorem opCells_one (o : OpT) : ∀ u ∈ opCells o, u.oneCell' = true := by simp [opCells, Value.oneCell']
theorem opCells_all (o : OpT) : (opCells o).toArray.all (·.oneCell') = true := by simp [opCells, Value.oneCell']

/-- How a round of the loop over an edit stands. -/
def EdIn (L : List OpT) (W1 : World) (k : Nat) (wr : World) : Prop := Ext W1 wr ∧ mayEs (L.take k) = 0

set_option maxRecDepth 100000 in
set_option maxHeartbeats 2000000 in
theorem mayedit_any (A : Option Addr) (n c : Nat) (L : List OpT) (w : World) (h : RdS w w.heap.size 20 A n c (rowsV opCells L)) (hn : n ≤ maxLen) :
    Calls Try.prog 16 #[.agg #[.slice A n c]] w fun e w' => e = .returned (.int .i64 (mayE L)) ∧ Below w.heap.size w w' := by
  have hl := h.rlen opCells_len' (by decide)
  unfold maxLen at hn
  by_cases h1 : n < 1
  · have hm : mayE L = 3 := by unfold mayE; rw [if_pos (by omega)]
    rw [hm]
    have q1 : decide ((n : Int) < 1) = true := decide_eq_true (by omega)
    clear hm hl h1
    go_enter Try.func16, Try.ntmps16
    go_wp2
    go_ret
    exact ⟨rfl, below1 _ _⟩
  have q1 : decide ((n : Int) < 1) = false := decide_eq_false (by omega)
  by_cases h6 : 6 < n
  · have hm : mayE L = 3 := by unfold mayE; rw [if_pos (by omega)]
    rw [hm]
    have q6 : decide ((6 : Int) < (n : Int)) = true := decide_eq_true (by omega)
    clear hm hl h1
    go_enter Try.func16, Try.ntmps16
    go_wp2
    go_ret
    exact ⟨rfl, below1 _ _⟩
  have q6 : decide ((6 : Int) < (n : Int)) = false := decide_eq_false (by omega)
  have hm : mayE L = mayEs L := by unfold mayE; rw [if_neg (by omega)]
  have HM := Lib.hid hm
  have HR := Lib.hid h
  obtain rfl := hl
  clear hm h
  go_enter Try.func16, Try.ntmps16
  go_wp2
  clear q1 q6
  obtain ⟨W1, gW1⟩ : ∃ x, w.alloc (.cells #[.slice A L.length c] 32) = x := ⟨_, rfl⟩
  have HB : RowKit.Hid (Below w.heap.size w W1) := Lib.hid (by rw [← gW1]; exact below1 _ _)
  have HRd : RowKit.Hid (RdS W1 W1.heap.size 20 A L.length c (rowsV opCells L)) := Lib.hid (by rw [← gW1]; exact HR.out.al _)
  have HE : RowKit.Hid (Whole W1 w.heap.size 32 [.slice A L.length c]) := Lib.hid (by rw [← gW1]; exact Whole.new_ w _ [_])
  rw [gW1]
  clear gW1
  obtain ⟨g0, gg0⟩ : ∃ x, w.heap.size = x := ⟨_, rfl⟩
  rw [gg0] at HE ⊢
  clear gg0
  go_loopw [19] (fun i wr => ∃ k : Nat, k ≤ L.length ∧ i = .int .i64 k ∧ RowKit.Hid (EdIn L W1 k wr)) (fun i _ => L.length - (intOf i).toNat)
  case atStart => exact ⟨0, Nat.zero_le _, rfl, Lib.hid ⟨Ext.refl _, rfl⟩⟩
  case round =>
    rename_i wr _
    obtain ⟨k, hk, rfl, hin⟩ := hrel
    by_cases hlt : k < L.length
    · have hk0 : L[k]? = some (L[k]'(by omega)) := List.getElem?_eq_getElem _
      obtain ⟨o, go⟩ : ∃ o, L[k]'(by omega) = o := ⟨_, rfl⟩
      rw [go] at hk0
      have HK := Lib.hid hk0
      have HRd2 := Lib.hid (HRd.out.bl hin.out.1)
      obtain ⟨b, off, rfl, hbB, hpl⟩ := HRd2.out.place opCells_len' (by decide) (by omega)
      have HP := Lib.hid (hpl k o hk0)
      clear go hk0 hpl hbB
      obtain ⟨x, gx⟩ : ∃ x, mayO o = x := ⟨_, rfl⟩
      have HC := Lib.hid (mayop_any o)
      rw [gx] at HC
      have HX := Lib.hid gx
      clear gx
      go_upto_region 5 with fail
      refine wp_region_lit ?_
      refine wl_read (v := ?_) (some 21) rfl (by rfl) ?_ ?_
      rotate_left
      · go_simp; (try with_reducible rfl)
      simp only [Act.put, List.setIfInBounds_toArray, List.set_cons_zero, List.set_cons_succ]
      refine wl_load_at (some 22) rfl (by rfl) 29 (.tmp 21) rfl ⟨b, off + k * 20, none⟩ rfl (opCells o) _ HP.out Try.underlying29 rfl (by kernel_rfl) ?_
      simp only [Act.put, List.setIfInBounds_toArray, List.set_cons_zero, List.set_cons_succ]
      refine wl_new 4 rfl rfl rfl 29 (.tmp 22) rfl rfl #[.int .i64 0, .int .i64 0, .int .i64 0, .int .i64 0, .int .i64 0, .int .i64 0, .int .i64 0, .int .i64 0, .int .i64 0, .int .i64 0, .int .i64 0, .int .i64 0, .int .i64 0, .int .i64 0, .int .i64 0, .int .i64 0, .int .i64 0, .bool false, .string ⟨#[]⟩, .int .i64 0] ?_ (opCells o).toArray (by simp) rfl (by kernel_rfl) rfl (opCells_all o) ?_
      · go_simp; (try with_reducible rfl)
      simp only [Act.put, List.setIfInBounds_toArray, List.set_cons_zero, List.set_cons_succ]
      have HX2 : RowKit.Hid (Ext W1 (wr.alloc (.cells (opCells o).toArray 29))) := Lib.hid (hin.out.1.trans (below1 _ _))
      have HN : RowKit.Hid (Whole (wr.alloc (.cells (opCells o).toArray 29)) wr.heap.size 29 (opCells o)) := Lib.hid (Whole.new_ _ _ _)
      obtain ⟨W2, gW2⟩ : ∃ x, wr.alloc (.cells (opCells o).toArray 29) = x := ⟨_, rfl⟩
      obtain ⟨g2, gg2⟩ : ∃ x, wr.heap.size = x := ⟨_, rfl⟩
      rw [gW2] at HX2 HN ⊢
      rw [gg2] at HN ⊢
      clear gW2 gg2
      go_upto_region 6 with fail
      refine wp_region_lit ?_
      refine wl_load (some 23) rfl (by rfl) 29 (.tmp 4) rfl g2 rfl 29 (opCells o) _ HN.out Try.underlying29 rfl (by kernel_rfl) ?_
      simp only [Act.put, List.setIfInBounds_toArray, List.set_cons_zero, List.set_cons_succ]
      go_wp2_with fail
      refine (HC.out _).mono ?_
      rintro e w3 ⟨rfl, hb3⟩
      have HX3 := Lib.hid (HX2.out.trans hb3)
      clear hb3
      by_cases hx : x = 0
      · subst hx
        have HI : RowKit.Hid (EdIn L W1 (k + 1) w3) := Lib.hid ⟨HX3.out, mayEs_next L k o HK.out hin.out.2 HX.out⟩
        go_wp2
        go_roundw
        case rel => exact ⟨k + 1, by omega, by go_num, HI⟩
        case measure => simp [intOf]; omega
      · have q : (x == 0) = false := by simpa using hx
        have q' : (x != 0) = true := by simpa using hx
        have HR9 : RowKit.Hid (mayEs L = x) := Lib.hid (by rw [mayEs_stop L k o HK.out hin.out.2 (by rw [HX.out]; exact hx), HX.out])
        clear hx
        go_wp2
        go_ret
        exact ⟨ret_int (by rw [HM.out, HR9.out]), HB.out.trans (HX3.out.mono HB.out.size)⟩
    · have HR9 : RowKit.Hid (mayEs L = 0) := Lib.hid (by have := hin.out.2; rwa [List.take_of_length_le (by omega)] at this)
      go_wp2
      go_ret
      exact ⟨ret_int (by rw [HM.out, HR9.out]), HB.out.trans (hin.out.1.mono HB.out.size)⟩

set_option maxRecDepth 100000 in
set_option maxHeartbeats 2000000 in
theorem rmayedit_any (A : Option Addr) (n c : Nat) (L : List OpT) (w : World) (h : RdS w w.heap.size 20 A n c (rowsV opCells L)) (hn : n ≤ maxLen) (ht : ∀ o ∈ L, o.t.size ≤ maxLen) :
    Calls Try.prog 17 #[.agg #[.slice A n c]] w fun e w' => e = .returned (.int .i64 (mayE L)) ∧ Below w.heap.size w w' := by
  have hl := h.rlen opCells_len' (by decide)
  unfold maxLen at hn
  have HT := Lib.hid ht
  clear ht
  by_cases h1 : n < 1
  · have hm : mayE L = 3 := by unfold mayE; rw [if_pos (by omega)]
    rw [hm]
    have q1 : decide ((n : Int) < 1) = true := decide_eq_true (by omega)
    clear hm hl h1
    go_enter Try.func17, Try.ntmps17
    go_wp2
    go_ret
    exact ⟨rfl, below1 _ _⟩
  have q1 : decide ((n : Int) < 1) = false := decide_eq_false (by omega)
  by_cases h6 : 6 < n
  · have hm : mayE L = 3 := by unfold mayE; rw [if_pos (by omega)]
    rw [hm]
    have q6 : decide ((6 : Int) < (n : Int)) = true := decide_eq_true (by omega)
    clear hm hl h1
    go_enter Try.func17, Try.ntmps17
    go_wp2
    go_ret
    exact ⟨rfl, below1 _ _⟩
  have q6 : decide ((6 : Int) < (n : Int)) = false := decide_eq_false (by omega)
  have hm : mayE L = mayEs L := by unfold mayE; rw [if_neg (by omega)]
  have HM := Lib.hid hm
  have HR := Lib.hid h
  obtain rfl := hl
  clear hm h
  go_enter Try.func17, Try.ntmps17
  go_wp2
  clear q1 q6
  obtain ⟨W1, gW1⟩ : ∃ x, w.alloc (.cells #[.slice A L.length c] 32) = x := ⟨_, rfl⟩
  have HB : RowKit.Hid (Below w.heap.size w W1) := Lib.hid (by rw [← gW1]; exact below1 _ _)
  have HRd : RowKit.Hid (RdS W1 W1.heap.size 20 A L.length c (rowsV opCells L)) := Lib.hid (by rw [← gW1]; exact HR.out.al _)
  have HE : RowKit.Hid (Whole W1 w.heap.size 32 [.slice A L.length c]) := Lib.hid (by rw [← gW1]; exact Whole.new_ w _ [_])
  rw [gW1]
  clear gW1
  obtain ⟨g0, gg0⟩ : ∃ x, w.heap.size = x := ⟨_, rfl⟩
  rw [gg0] at HE ⊢
  clear gg0
  go_loopw [3] (fun i wr => ∃ k : Nat, k ≤ L.length ∧ i = .int .i64 k ∧ RowKit.Hid (EdIn L W1 k wr)) (fun i _ => L.length - (intOf i).toNat)
  case atStart => exact ⟨0, Nat.zero_le _, rfl, Lib.hid ⟨Ext.refl _, rfl⟩⟩
  case round =>
    rename_i wr _
    obtain ⟨k, hk, rfl, hin⟩ := hrel
    have le := (HE.out.bl hin.out.1).cell (i := 0) rfl
    by_cases hlt : k < L.length
    · have hk0 : L[k]? = some (L[k]'(by omega)) := List.getElem?_eq_getElem _
      obtain ⟨o, go⟩ : ∃ o, L[k]'(by omega) = o := ⟨_, rfl⟩
      rw [go] at hk0
      have HK := Lib.hid hk0
      have HRd2 := Lib.hid (HRd.out.bl hin.out.1)
      obtain ⟨b, off, rfl, hbB, hpl⟩ := HRd2.out.place opCells_len' (by decide) (by omega)
      have HP := Lib.hid (hpl k o hk0)
      clear go hk0 hpl hbB
      obtain ⟨x, gx⟩ : ∃ x, mayO o = x := ⟨_, rfl⟩
      have HC := Lib.hid (rmayop_any o (HT.out o (List.mem_of_getElem? HK.out)))
      rw [gx] at HC
      have HX := Lib.hid gx
      clear gx
      go_upto_region 6 with fail
      refine wp_region_lit ?_
      refine wl_read (v := ?_) (some 22) rfl (by rfl) ?_ ?_
      rotate_left
      · go_simp; (try with_reducible rfl)
      simp only [Act.put, List.setIfInBounds_toArray, List.set_cons_zero, List.set_cons_succ]
      refine wl_read (v := ?_) (some 23) rfl (by rfl) ?_ ?_
      rotate_left
      · go_simp; (try with_reducible rfl)
      simp only [Act.put, List.setIfInBounds_toArray, List.set_cons_zero, List.set_cons_succ]
      refine wl_read (v := ?_) (some 24) rfl (by rfl) ?_ ?_
      rotate_left
      · go_simp; (try with_reducible rfl)
      simp only [Act.put, List.setIfInBounds_toArray, List.set_cons_zero, List.set_cons_succ]
      refine wl_read (v := ?_) (some 25) rfl (by rfl) ?_ ?_
      rotate_left
      · go_simp; (try with_reducible rfl)
      simp only [Act.put, List.setIfInBounds_toArray, List.set_cons_zero, List.set_cons_succ]
      refine wl_load_at (some 26) rfl (by rfl) 29 (.tmp 25) rfl ⟨b, off + k * 20, none⟩ rfl (opCells o) _ HP.out Try.underlying29 rfl (by kernel_rfl) ?_
      simp only [Act.put, List.setIfInBounds_toArray, List.set_cons_zero, List.set_cons_succ]
      have HX2 := Lib.hid hin.out.1
      go_wp2_with fail
      refine (HC.out _).mono ?_
      rintro e w3 ⟨rfl, hb3⟩
      have HX3 := Lib.hid (HX2.out.trans hb3)
      clear hb3
      by_cases hx : x = 0
      · subst hx
        have HI : RowKit.Hid (EdIn L W1 (k + 1) w3) := Lib.hid ⟨HX3.out, mayEs_next L k o HK.out hin.out.2 HX.out⟩
        go_wp2
        go_roundw
        case rel => exact ⟨k + 1, by omega, by go_num, HI⟩
        case measure => simp [intOf]; omega
      · have q : (x == 0) = false := by simpa using hx
        have q' : (x != 0) = true := by simpa using hx
        have HR9 : RowKit.Hid (mayEs L = x) := Lib.hid (by rw [mayEs_stop L k o HK.out hin.out.2 (by rw [HX.out]; exact hx), HX.out])
        clear hx
        go_wp2
        go_ret
        exact ⟨ret_int (by rw [HM.out, HR9.out]), HB.out.trans (HX3.out.mono HB.out.size)⟩
    · have HR9 : RowKit.Hid (mayEs L = 0) := Lib.hid (by have := hin.out.2; rwa [List.take_of_length_le (by omega)] at this)
      go_wp2
      go_ret
      exact ⟨ret_int (by rw [HM.out, HR9.out]), HB.out.trans (hin.out.1.mono HB.out.size)⟩

end Go.Proofs.Ytfbgbljljhgbjaa
