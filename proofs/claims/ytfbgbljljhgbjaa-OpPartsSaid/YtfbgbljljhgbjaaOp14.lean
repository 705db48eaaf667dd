/- Two rows compared: slices.Equal of operations, op.Same, the document's own Same and IDs. -/
import Derived.Test.YtfbgbljljhgbjaaOp13
namespace Go.Proofs.Ytfbgbljljhgbjaa
open Go.RowKit
set_option linter.unusedSimpArgs false
set_option linter.unusedVariables false

theorem neq_id_run (p q : Int × Int) (W : World) : (binOp .neq 23 (.agg (idCells p).toArray) (.agg (idCells q).toArray)).run Try.prog W = .ok (.bool (!decide (p = q))) W := by
  obtain ⟨a, b⟩ := p
  obtain ⟨a', b'⟩ := q
  simp only [idCells, Prod.mk.injEq]
  by_cases h1 : a = a' <;> by_cases h2 : b = b' <;> simp [go_sem, h1, h2]

theorem eqs_next {α : Type} [DecidableEq α] {L M : List α} {k : Nat} {x y : α} (hx : L[k]? = some x) (hy : M[k]? = some y) (h : L.take k = M.take k) (e : x = y) : L.take (k + 1) = M.take (k + 1) := by
  rw [take_snoc_ L k x hx, take_snoc_ M k y hy, h, e]
theorem eqs_not {α : Type} [DecidableEq α] {L M : List α} {k : Nat} {x y : α} (hx : L[k]? = some x) (hy : M[k]? = some y) (e : ¬ x = y) : decide (L = M) = false := by
  refine decide_eq_false fun h => e ?_
  subst h
  rw [hx] at hy
  exact Option.some.inj hy
theorem eqs_all {α : Type} [DecidableEq α] {L M : List α} {k : Nat} (hl : L.length ≤ k) (hm : M.length ≤ k) (h : L.take k = M.take k) : decide (L = M) = true := by
  rw [List.take_of_length_le hl, List.take_of_length_le hm] at h
  exact decide_eq_true h
theorem eqs_len {α : Type} [DecidableEq α] {L M : List α} (h : ¬ L.length = M.length) : decide (L = M) = false := decide_eq_false fun e => h (by rw [e])

set_option maxRecDepth 100000 in
set_option maxHeartbeats 2000000 in
theorem equal_ops (A A' : Option Addr) (n n' c c' : Nat) (L M : List (OpT)) (w : World) (h : RdS w w.heap.size 20 A n c (rowsV opCells L)) (h' : RdS w w.heap.size 20 A' n' c' (rowsV opCells M)) (hn : n ≤ maxLen) :
    Calls Try.prog 29 #[.slice A n c, .slice A' n' c'] w fun e w' => e = .returned (.bool (decide (L = M))) ∧ Below w.heap.size w w' := by
  have hl := h.rlen opCells_len' (by decide)
  have hl' := h'.rlen opCells_len' (by decide)
  unfold maxLen at hn
  obtain rfl := hl
  obtain rfl := hl'
  have HR := Lib.hid h
  have HR' := Lib.hid h'
  clear h h'
  by_cases hlen : L.length = M.length
  case neg =>
    rw [eqs_len hlen]
    have q : (((L.length : Nat) : Int) == ((M.length : Nat) : Int)) = false := beq_eq_false_iff_ne.2 (by omega)
    have q2 : (((L.length : Nat) : Int) != ((M.length : Nat) : Int)) = true := bne_iff_ne.2 (by omega)
    have q3 : decide (L.length = M.length) = false := decide_eq_false hlen
    clear hn
    go_enter Try.func29, Try.ntmps29
    go_wp2
    go_ret
    exact ⟨rfl, Below.refl _ _⟩
  rw [← hlen] at HR' ⊢
  have HLM := Lib.hid hlen
  clear hlen
  obtain ⟨W1, gW1⟩ : ∃ x, w = x := ⟨_, rfl⟩
  have HB : RowKit.Hid (Below w.heap.size w W1) := Lib.hid (by rw [← gW1]; exact Below.refl _ _)
  have HRd : RowKit.Hid (RdS W1 W1.heap.size 20 A L.length c (rowsV opCells L)) := Lib.hid (by rw [← gW1]; exact HR.out)
  have HRd' : RowKit.Hid (RdS W1 W1.heap.size 20 A' L.length c' (rowsV opCells M)) := Lib.hid (by rw [← gW1]; exact HR'.out)
  go_enter Try.func29, Try.ntmps29
  go_wp2
  clear gW1
  go_loopw [13] (fun i wr => ∃ k : Nat, k ≤ L.length ∧ i = .int .i64 k ∧ RowKit.Hid (Ext W1 wr ∧ L.take k = M.take k)) (fun i _ => L.length - (intOf i).toNat)
  case atStart => exact ⟨0, Nat.zero_le _, rfl, Lib.hid ⟨Ext.refl _, rfl⟩⟩
  case round =>
    rename_i wr _
    obtain ⟨k, hk, rfl, hin⟩ := hrel
    by_cases hlt : k < L.length
    · have hx : L[k]? = some (L[k]'(by omega)) := List.getElem?_eq_getElem _
      have hy : M[k]? = some (M[k]'(by have := HLM.out; omega)) := List.getElem?_eq_getElem _
      obtain ⟨x, gx⟩ : ∃ x, L[k]'(by omega) = x := ⟨_, rfl⟩
      obtain ⟨y, gy⟩ : ∃ x, M[k]'(by have := HLM.out; omega) = x := ⟨_, rfl⟩
      rw [gx] at hx
      rw [gy] at hy
      have HX := Lib.hid hx
      have HY := Lib.hid hy
      have HRd2 := Lib.hid (HRd.out.bl hin.out.1)
      have HRd2' := Lib.hid (HRd'.out.bl hin.out.1)
      obtain ⟨b, off, rfl, hbB, hpl⟩ := HRd2.out.place opCells_len' (by decide) (by omega)
      obtain ⟨b', off', rfl, hbB', hpl'⟩ := HRd2'.out.place opCells_len' (by decide) (by omega)
      have HP := Lib.hid (fun w' (h : Kept Nil_ wr.drew w') j v hj => h.nil_cell (hpl k x hx j v hj))
      have HP' := Lib.hid (fun w' (h : Kept Nil_ wr.drew w') j v hj => h.nil_cell (hpl' k y hy j v hj))
      have hq := neq_op_run x y
      clear gx gy hx hy hpl hpl' hbB hbB'
      by_cases hxy : x = y
      all_goals
        first | rw [decide_eq_true hxy] at hq | rw [decide_eq_false hxy] at hq
        have HQ := Lib.hid hq
        have HXY := Lib.hid hxy
        clear hq hxy
        go_upto_region 6 with fail
        refine wp_region_reg (Nil_) (by kernel_rfl) ?_
        apply wpR_next 0 (some 16)
        · simp only [List.getElem?_toArray, List.getElem?_cons_succ, List.getElem?_cons_zero]; exact rfl
        · rfl
        · kernel_rfl
        · kernel_rfl
        · kernel_rfl
        · exact fun _ _ _ _ h => h
        apply Exists.intro
        apply And.intro
        · apply yr_run; rfl; intro w' hw'; go_simp; (try with_reducible rfl)
        simp only [Act.put, List.setIfInBounds_toArray, List.set_cons_zero, List.set_cons_succ]
        apply wpR_next 1 (some 17)
        · simp only [List.getElem?_toArray, List.getElem?_cons_succ, List.getElem?_cons_zero]; exact rfl
        · rfl
        · kernel_rfl
        · kernel_rfl
        · kernel_rfl
        · exact fun _ _ _ _ h => h
        apply Exists.intro
        apply And.intro
        · apply yr_run; rfl; intro w' hw'; go_simp; (try with_reducible rfl)
        simp only [Act.put, List.setIfInBounds_toArray, List.set_cons_zero, List.set_cons_succ]
        apply wpR_next 2 (some 18)
        · simp only [List.getElem?_toArray, List.getElem?_cons_succ, List.getElem?_cons_zero]; exact rfl
        · rfl
        · kernel_rfl
        · kernel_rfl
        · kernel_rfl
        · exact fun _ _ _ _ h => h
        apply Exists.intro
        apply And.intro
        · apply yr_run; rfl; intro w' hw'; go_simp; (try with_reducible rfl)
        simp only [Act.put, List.setIfInBounds_toArray, List.set_cons_zero, List.set_cons_succ]
        apply wpR_next 3 (some 19)
        · simp only [List.getElem?_toArray, List.getElem?_cons_succ, List.getElem?_cons_zero]; exact rfl
        · rfl
        · kernel_rfl
        · kernel_rfl
        · kernel_rfl
        · exact fun _ _ _ _ h => h
        apply Exists.intro
        apply And.intro
        · exact yr_load_at (by rfl) 29 (.tmp 18) rfl ⟨b, off + k * 20, none⟩ rfl (opCells x) _ HP.out Try.underlying29 rfl (by kernel_rfl)
        simp only [Act.put, List.setIfInBounds_toArray, List.set_cons_zero, List.set_cons_succ]
        apply wpR_next 4 (some 20)
        · simp only [List.getElem?_toArray, List.getElem?_cons_succ, List.getElem?_cons_zero]; exact rfl
        · rfl
        · kernel_rfl
        · kernel_rfl
        · kernel_rfl
        · exact fun _ _ _ _ h => h
        apply Exists.intro
        apply And.intro
        · apply yr_run; rfl; intro w' hw'; go_simp; (try with_reducible rfl)
        simp only [Act.put, List.setIfInBounds_toArray, List.set_cons_zero, List.set_cons_succ]
        apply wpR_next 5 (some 21)
        · simp only [List.getElem?_toArray, List.getElem?_cons_succ, List.getElem?_cons_zero]; exact rfl
        · rfl
        · kernel_rfl
        · kernel_rfl
        · kernel_rfl
        · exact fun _ _ _ _ h => h
        apply Exists.intro
        apply And.intro
        · apply yr_run; rfl; intro w' hw'; go_simp; (try with_reducible rfl)
        simp only [Act.put, List.setIfInBounds_toArray, List.set_cons_zero, List.set_cons_succ]
        apply wpR_next 6 (some 22)
        · simp only [List.getElem?_toArray, List.getElem?_cons_succ, List.getElem?_cons_zero]; exact rfl
        · rfl
        · kernel_rfl
        · kernel_rfl
        · kernel_rfl
        · exact fun _ _ _ _ h => h
        apply Exists.intro
        apply And.intro
        · apply yr_run; rfl; intro w' hw'; go_simp; (try with_reducible rfl)
        simp only [Act.put, List.setIfInBounds_toArray, List.set_cons_zero, List.set_cons_succ]
        apply wpR_next 7 (some 23)
        · simp only [List.getElem?_toArray, List.getElem?_cons_succ, List.getElem?_cons_zero]; exact rfl
        · rfl
        · kernel_rfl
        · kernel_rfl
        · kernel_rfl
        · exact fun _ _ _ _ h => h
        apply Exists.intro
        apply And.intro
        · exact yr_load_at (by rfl) 29 (.tmp 22) rfl ⟨b', off' + k * 20, none⟩ rfl (opCells y) _ HP'.out Try.underlying29 rfl (by kernel_rfl)
        simp only [Act.put, List.setIfInBounds_toArray, List.set_cons_zero, List.set_cons_succ]
        apply wpR_next 8 (some 24)
        · simp only [List.getElem?_toArray, List.getElem?_cons_succ, List.getElem?_cons_zero]; exact rfl
        · rfl
        · kernel_rfl
        · kernel_rfl
        · kernel_rfl
        · exact fun _ _ _ _ h => h
        apply Exists.intro
        apply And.intro
        · exact yr_run (by rfl) (fun w' _ => exec_binop_agg .neq 29 (.tmp 19) (.tmp 23) 29 rfl rfl rfl (by kernel_rfl) (HQ.out w'))
        simp only [Act.put, List.setIfInBounds_toArray, List.set_cons_zero, List.set_cons_succ]
        refine wpR_done (by kernel_rfl) ?_ _
        intro w2 hw2
        have HX2 := Lib.hid (hin.out.1.trans ((Below.refl _ _).drew.trans hw2))
        clear hw2
      · have HI : RowKit.Hid (Ext W1 w2 ∧ L.take (k + 1) = M.take (k + 1)) := Lib.hid ⟨HX2.out, eqs_next HX.out HY.out hin.out.2 HXY.out⟩
        go_wp2
        go_roundw
        case rel => exact ⟨k + 1, by omega, by go_num, HI⟩
        case measure => simp [intOf]; omega
      · have HF := Lib.hid (eqs_not HX.out HY.out HXY.out)
        go_wp2
        go_ret
        exact ⟨ret_bool HF.out.symm, HB.out.trans (HX2.out.mono HB.out.size)⟩
    · have HF := Lib.hid (eqs_all (L := L) (M := M) (k := k) (by omega) (by have := HLM.out; omega) hin.out.2)
      go_wp2
      go_ret
      exact ⟨ret_bool HF.out.symm, HB.out.trans (hin.out.1.mono HB.out.size)⟩

set_option maxRecDepth 100000 in
set_option maxHeartbeats 2000000 in
theorem rsame_any (A A' : Option Addr) (n n' c c' : Nat) (L M : List (OpT)) (w : World) (h : RdS w w.heap.size 20 A n c (rowsV opCells L)) (h' : RdS w w.heap.size 20 A' n' c' (rowsV opCells M)) (hn : n ≤ maxLen) :
    Calls Try.prog 19 #[.agg #[.slice A n c], .agg #[.slice A' n' c']] w fun e w' => e = .returned (.bool (decide (L = M))) ∧ Below w.heap.size w w' := by
  have hl := h.rlen opCells_len' (by decide)
  have hl' := h'.rlen opCells_len' (by decide)
  unfold maxLen at hn
  obtain rfl := hl
  obtain rfl := hl'
  have HR := Lib.hid h
  have HR' := Lib.hid h'
  clear h h'
  by_cases hlen : L.length = M.length
  case neg =>
    rw [eqs_len hlen]
    have q : (((L.length : Nat) : Int) == ((M.length : Nat) : Int)) = false := beq_eq_false_iff_ne.2 (by omega)
    have q2 : (((L.length : Nat) : Int) != ((M.length : Nat) : Int)) = true := bne_iff_ne.2 (by omega)
    have q3 : decide (L.length = M.length) = false := decide_eq_false hlen
    clear hn
    go_enter Try.func19, Try.ntmps19
    go_wp2
    go_ret
    exact ⟨rfl, below2 _ _ _⟩
  rw [← hlen] at HR' ⊢
  have HLM := Lib.hid hlen
  clear hlen
  go_enter Try.func19, Try.ntmps19
  go_wp2
  obtain ⟨W1, gW1⟩ : ∃ x, (w.alloc (.cells #[.slice A L.length c] 32)).alloc (.cells #[.slice A' L.length c'] 32) = x := ⟨_, rfl⟩
  have HB : RowKit.Hid (Below w.heap.size w W1) := Lib.hid (by rw [← gW1]; exact below2 _ _ _)
  have HRd : RowKit.Hid (RdS W1 W1.heap.size 20 A L.length c (rowsV opCells L)) := Lib.hid (by rw [← gW1]; exact (HR.out.al _).al _)
  have HRd' : RowKit.Hid (RdS W1 W1.heap.size 20 A' L.length c' (rowsV opCells M)) := Lib.hid (by rw [← gW1]; exact (HR'.out.al _).al _)
  have HE : RowKit.Hid (Whole W1 w.heap.size 32 [.slice A L.length c]) := Lib.hid (by rw [← gW1]; exact (Whole.new_ w _ [_]).al _)
  have HE' : RowKit.Hid (Whole W1 (w.heap.size + 1) 32 [.slice A' L.length c']) := Lib.hid (by rw [← gW1]; exact Whole.new2 (cs := [_]) (by simp))
  rw [gW1]
  clear gW1
  obtain ⟨g0, gg0⟩ : ∃ x, w.heap.size = x := ⟨_, rfl⟩
  rw [gg0] at HE HE' ⊢
  clear gg0
  go_loopw [5] (fun i wr => ∃ k : Nat, k ≤ L.length ∧ i = .int .i64 k ∧ RowKit.Hid (Ext W1 wr ∧ L.take k = M.take k)) (fun i _ => L.length - (intOf i).toNat)
  case atStart => exact ⟨0, Nat.zero_le _, rfl, Lib.hid ⟨Ext.refl _, rfl⟩⟩
  case round =>
    rename_i wr _
    obtain ⟨k, hk, rfl, hin⟩ := hrel
    have le := (HE.out.bl hin.out.1).cell (i := 0) rfl
    have le' := (HE'.out.bl hin.out.1).cell (i := 0) rfl
    by_cases hlt : k < L.length
    · have hx : L[k]? = some (L[k]'(by omega)) := List.getElem?_eq_getElem _
      have hy : M[k]? = some (M[k]'(by have := HLM.out; omega)) := List.getElem?_eq_getElem _
      obtain ⟨x, gx⟩ : ∃ x, L[k]'(by omega) = x := ⟨_, rfl⟩
      obtain ⟨y, gy⟩ : ∃ x, M[k]'(by have := HLM.out; omega) = x := ⟨_, rfl⟩
      rw [gx] at hx
      rw [gy] at hy
      have HX := Lib.hid hx
      have HY := Lib.hid hy
      have HRd2 := Lib.hid (HRd.out.bl hin.out.1)
      have HRd2' := Lib.hid (HRd'.out.bl hin.out.1)
      obtain ⟨b, off, rfl, hbB, hpl⟩ := HRd2.out.place opCells_len' (by decide) (by omega)
      obtain ⟨b', off', rfl, hbB', hpl'⟩ := HRd2'.out.place opCells_len' (by decide) (by omega)
      have HP := Lib.hid (fun w' (h : Kept Nil_ wr.drew w') j v hj => h.nil_cell (hpl k x hx j v hj))
      have HP' := Lib.hid (fun w' (h : Kept Nil_ wr.drew w') j v hj => h.nil_cell (hpl' k y hy j v hj))
      have hq := neq_op_run x y
      clear gx gy hx hy hpl hpl' hbB hbB'
      by_cases hxy : x = y
      all_goals
        first | rw [decide_eq_true hxy] at hq | rw [decide_eq_false hxy] at hq
        have HQ := Lib.hid hq
        have HXY := Lib.hid hxy
        clear hq hxy
        go_upto_region 6 with fail
        have ld : ∀ w', Kept Nil_ wr.drew w' → w'.cell? ⟨g0, 0, none⟩ = some (.slice (some ⟨b, off, none⟩) L.length c) := fun w' h => h.nil_cell le
        have ld' : ∀ w', Kept Nil_ wr.drew w' → w'.cell? ⟨g0 + 1, 0, none⟩ = some (.slice (some ⟨b', off', none⟩) L.length c') := fun w' h => h.nil_cell le'
        refine wp_region_reg (Nil_) (by kernel_rfl) ?_
        apply wpR_next 0 (some 20)
        · simp only [List.getElem?_toArray, List.getElem?_cons_succ, List.getElem?_cons_zero]; exact rfl
        · rfl
        · kernel_rfl
        · kernel_rfl
        · kernel_rfl
        · exact fun _ _ _ _ h => h
        apply Exists.intro
        apply And.intro
        · apply yr_run; rfl; intro w' hw'; go_simp; (try with_reducible rfl)
        simp only [Act.put, List.setIfInBounds_toArray, List.set_cons_zero, List.set_cons_succ]
        apply wpR_next 1 (some 21)
        · simp only [List.getElem?_toArray, List.getElem?_cons_succ, List.getElem?_cons_zero]; exact rfl
        · rfl
        · kernel_rfl
        · kernel_rfl
        · kernel_rfl
        · exact fun _ _ _ _ h => h
        apply Exists.intro
        apply And.intro
        · apply yr_run; rfl; intro w' hw'; go_simp; (try with_reducible rfl)
        simp only [Act.put, List.setIfInBounds_toArray, List.set_cons_zero, List.set_cons_succ]
        apply wpR_next 2 (some 22)
        · simp only [List.getElem?_toArray, List.getElem?_cons_succ, List.getElem?_cons_zero]; exact rfl
        · rfl
        · kernel_rfl
        · kernel_rfl
        · kernel_rfl
        · exact fun _ _ _ _ h => h
        apply Exists.intro
        apply And.intro
        · apply yr_run; rfl; intro w' hw'; go_simp; (try with_reducible rfl)
        simp only [Act.put, List.setIfInBounds_toArray, List.set_cons_zero, List.set_cons_succ]
        apply wpR_next 3 (some 23)
        · simp only [List.getElem?_toArray, List.getElem?_cons_succ, List.getElem?_cons_zero]; exact rfl
        · rfl
        · kernel_rfl
        · kernel_rfl
        · kernel_rfl
        · exact fun _ _ _ _ h => h
        apply Exists.intro
        apply And.intro
        · apply yr_run; rfl; intro w' hw'; go_simp; (try with_reducible rfl)
        simp only [Act.put, List.setIfInBounds_toArray, List.set_cons_zero, List.set_cons_succ]
        apply wpR_next 4 (some 24)
        · simp only [List.getElem?_toArray, List.getElem?_cons_succ, List.getElem?_cons_zero]; exact rfl
        · rfl
        · kernel_rfl
        · kernel_rfl
        · kernel_rfl
        · exact fun _ _ _ _ h => h
        apply Exists.intro
        apply And.intro
        · exact yr_load_at (by rfl) 29 (.tmp 23) rfl ⟨b, off + k * 20, none⟩ rfl (opCells x) _ HP.out Try.underlying29 rfl (by kernel_rfl)
        simp only [Act.put, List.setIfInBounds_toArray, List.set_cons_zero, List.set_cons_succ]
        apply wpR_next 5 (some 25)
        · simp only [List.getElem?_toArray, List.getElem?_cons_succ, List.getElem?_cons_zero]; exact rfl
        · rfl
        · kernel_rfl
        · kernel_rfl
        · kernel_rfl
        · exact fun _ _ _ _ h => h
        apply Exists.intro
        apply And.intro
        · apply yr_run; rfl; intro w' hw'; go_simp; (try with_reducible rfl)
        simp only [Act.put, List.setIfInBounds_toArray, List.set_cons_zero, List.set_cons_succ]
        apply wpR_next 6 (some 26)
        · simp only [List.getElem?_toArray, List.getElem?_cons_succ, List.getElem?_cons_zero]; exact rfl
        · rfl
        · kernel_rfl
        · kernel_rfl
        · kernel_rfl
        · exact fun _ _ _ _ h => h
        apply Exists.intro
        apply And.intro
        · apply yr_run; rfl; intro w' hw'; go_simp; (try with_reducible rfl)
        simp only [Act.put, List.setIfInBounds_toArray, List.set_cons_zero, List.set_cons_succ]
        apply wpR_next 7 (some 27)
        · simp only [List.getElem?_toArray, List.getElem?_cons_succ, List.getElem?_cons_zero]; exact rfl
        · rfl
        · kernel_rfl
        · kernel_rfl
        · kernel_rfl
        · exact fun _ _ _ _ h => h
        apply Exists.intro
        apply And.intro
        · apply yr_run; rfl; intro w' hw'; go_simp; (try with_reducible rfl)
        simp only [Act.put, List.setIfInBounds_toArray, List.set_cons_zero, List.set_cons_succ]
        apply wpR_next 8 (some 28)
        · simp only [List.getElem?_toArray, List.getElem?_cons_succ, List.getElem?_cons_zero]; exact rfl
        · rfl
        · kernel_rfl
        · kernel_rfl
        · kernel_rfl
        · exact fun _ _ _ _ h => h
        apply Exists.intro
        apply And.intro
        · apply yr_run; rfl; intro w' hw'; go_simp; (try with_reducible rfl)
        simp only [Act.put, List.setIfInBounds_toArray, List.set_cons_zero, List.set_cons_succ]
        apply wpR_next 9 (some 29)
        · simp only [List.getElem?_toArray, List.getElem?_cons_succ, List.getElem?_cons_zero]; exact rfl
        · rfl
        · kernel_rfl
        · kernel_rfl
        · kernel_rfl
        · exact fun _ _ _ _ h => h
        apply Exists.intro
        apply And.intro
        · exact yr_load_at (by rfl) 29 (.tmp 28) rfl ⟨b', off' + k * 20, none⟩ rfl (opCells y) _ HP'.out Try.underlying29 rfl (by kernel_rfl)
        simp only [Act.put, List.setIfInBounds_toArray, List.set_cons_zero, List.set_cons_succ]
        apply wpR_next 10 (some 30)
        · simp only [List.getElem?_toArray, List.getElem?_cons_succ, List.getElem?_cons_zero]; exact rfl
        · rfl
        · kernel_rfl
        · kernel_rfl
        · kernel_rfl
        · exact fun _ _ _ _ h => h
        apply Exists.intro
        apply And.intro
        · exact yr_run (by rfl) (fun w' _ => exec_binop_agg .neq 29 (.tmp 24) (.tmp 29) 29 rfl rfl rfl (by kernel_rfl) (HQ.out w'))
        simp only [Act.put, List.setIfInBounds_toArray, List.set_cons_zero, List.set_cons_succ]
        refine wpR_done (by kernel_rfl) ?_ _
        intro w2 hw2
        have HX2 := Lib.hid (hin.out.1.trans ((Below.refl _ _).drew.trans hw2))
        clear hw2 ld ld' le le'
      · have HI : RowKit.Hid (Ext W1 w2 ∧ L.take (k + 1) = M.take (k + 1)) := Lib.hid ⟨HX2.out, eqs_next HX.out HY.out hin.out.2 HXY.out⟩
        go_wp2
        go_roundw
        case rel => exact ⟨k + 1, by omega, by go_num, HI⟩
        case measure => simp [intOf]; omega
      · have HF := Lib.hid (eqs_not HX.out HY.out HXY.out)
        go_wp2
        go_ret
        exact ⟨ret_bool HF.out.symm, HB.out.trans (HX2.out.mono HB.out.size)⟩
    · have HF := Lib.hid (eqs_all (L := L) (M := M) (k := k) (by omega) (by have := HLM.out; omega) hin.out.2)
      go_wp2
      go_ret
      exact ⟨ret_bool HF.out.symm, HB.out.trans (hin.out.1.mono HB.out.size)⟩

set_option maxRecDepth 100000 in
set_option maxHeartbeats 2000000 in
theorem ids_any (A A' : Option Addr) (n n' c c' : Nat) (L M : List (Int × Int)) (w : World) (h : RdS w w.heap.size 2 A n c (rowsV idCells L)) (h' : RdS w w.heap.size 2 A' n' c' (rowsV idCells M)) (hn : n ≤ maxLen) :
    Calls Try.prog 11 #[.slice A n c, .slice A' n' c'] w fun e w' => e = .returned (.bool (decide (L = M))) ∧ Below w.heap.size w w' := by
  have hl := h.rlen idCells_len (by decide)
  have hl' := h'.rlen idCells_len (by decide)
  unfold maxLen at hn
  obtain rfl := hl
  obtain rfl := hl'
  have HR := Lib.hid h
  have HR' := Lib.hid h'
  clear h h'
  by_cases hlen : L.length = M.length
  case neg =>
    rw [eqs_len hlen]
    have q : (((L.length : Nat) : Int) == ((M.length : Nat) : Int)) = false := beq_eq_false_iff_ne.2 (by omega)
    have q2 : (((L.length : Nat) : Int) != ((M.length : Nat) : Int)) = true := bne_iff_ne.2 (by omega)
    have q3 : decide (L.length = M.length) = false := decide_eq_false hlen
    clear hn
    go_enter Try.func11, Try.ntmps11
    go_wp2
    go_ret
    exact ⟨rfl, Below.refl _ _⟩
  rw [← hlen] at HR' ⊢
  have HLM := Lib.hid hlen
  clear hlen
  obtain ⟨W1, gW1⟩ : ∃ x, w = x := ⟨_, rfl⟩
  have HB : RowKit.Hid (Below w.heap.size w W1) := Lib.hid (by rw [← gW1]; exact Below.refl _ _)
  have HRd : RowKit.Hid (RdS W1 W1.heap.size 2 A L.length c (rowsV idCells L)) := Lib.hid (by rw [← gW1]; exact HR.out)
  have HRd' : RowKit.Hid (RdS W1 W1.heap.size 2 A' L.length c' (rowsV idCells M)) := Lib.hid (by rw [← gW1]; exact HR'.out)
  go_enter Try.func11, Try.ntmps11
  go_wp2
  clear gW1
  go_loopw [5] (fun i wr => ∃ k : Nat, k ≤ L.length ∧ i = .int .i64 k ∧ RowKit.Hid (Ext W1 wr ∧ L.take k = M.take k)) (fun i _ => L.length - (intOf i).toNat)
  case atStart => exact ⟨0, Nat.zero_le _, rfl, Lib.hid ⟨Ext.refl _, rfl⟩⟩
  case round =>
    rename_i wr _
    obtain ⟨k, hk, rfl, hin⟩ := hrel
    by_cases hlt : k < L.length
    · have hx : L[k]? = some (L[k]'(by omega)) := List.getElem?_eq_getElem _
      have hy : M[k]? = some (M[k]'(by have := HLM.out; omega)) := List.getElem?_eq_getElem _
      obtain ⟨x, gx⟩ : ∃ x, L[k]'(by omega) = x := ⟨_, rfl⟩
      obtain ⟨y, gy⟩ : ∃ x, M[k]'(by have := HLM.out; omega) = x := ⟨_, rfl⟩
      rw [gx] at hx
      rw [gy] at hy
      have HX := Lib.hid hx
      have HY := Lib.hid hy
      have HRd2 := Lib.hid (HRd.out.bl hin.out.1)
      have HRd2' := Lib.hid (HRd'.out.bl hin.out.1)
      obtain ⟨b, off, rfl, hbB, hpl⟩ := HRd2.out.place idCells_len (by decide) (by omega)
      obtain ⟨b', off', rfl, hbB', hpl'⟩ := HRd2'.out.place idCells_len (by decide) (by omega)
      have HP := Lib.hid (fun w' (h : Kept Nil_ wr.drew w') j v hj => h.nil_cell (hpl k x hx j v hj))
      have HP' := Lib.hid (fun w' (h : Kept Nil_ wr.drew w') j v hj => h.nil_cell (hpl' k y hy j v hj))
      have hq := neq_id_run x y
      clear gx gy hx hy hpl hpl' hbB hbB'
      by_cases hxy : x = y
      all_goals
        first | rw [decide_eq_true hxy] at hq | rw [decide_eq_false hxy] at hq
        have HQ := Lib.hid hq
        have HXY := Lib.hid hxy
        clear hq hxy
        go_upto_region 6 with fail
        refine wp_region_reg (Nil_) (by kernel_rfl) ?_
        apply wpR_next 0 (some 17)
        · simp only [List.getElem?_toArray, List.getElem?_cons_succ, List.getElem?_cons_zero]; exact rfl
        · rfl
        · kernel_rfl
        · kernel_rfl
        · kernel_rfl
        · exact fun _ _ _ _ h => h
        apply Exists.intro
        apply And.intro
        · apply yr_run; rfl; intro w' hw'; go_simp; (try with_reducible rfl)
        simp only [Act.put, List.setIfInBounds_toArray, List.set_cons_zero, List.set_cons_succ]
        apply wpR_next 1 (some 18)
        · simp only [List.getElem?_toArray, List.getElem?_cons_succ, List.getElem?_cons_zero]; exact rfl
        · rfl
        · kernel_rfl
        · kernel_rfl
        · kernel_rfl
        · exact fun _ _ _ _ h => h
        apply Exists.intro
        apply And.intro
        · apply yr_run; rfl; intro w' hw'; go_simp; (try with_reducible rfl)
        simp only [Act.put, List.setIfInBounds_toArray, List.set_cons_zero, List.set_cons_succ]
        apply wpR_next 2 (some 19)
        · simp only [List.getElem?_toArray, List.getElem?_cons_succ, List.getElem?_cons_zero]; exact rfl
        · rfl
        · kernel_rfl
        · kernel_rfl
        · kernel_rfl
        · exact fun _ _ _ _ h => h
        apply Exists.intro
        apply And.intro
        · apply yr_run; rfl; intro w' hw'; go_simp; (try with_reducible rfl)
        simp only [Act.put, List.setIfInBounds_toArray, List.set_cons_zero, List.set_cons_succ]
        apply wpR_next 3 (some 20)
        · simp only [List.getElem?_toArray, List.getElem?_cons_succ, List.getElem?_cons_zero]; exact rfl
        · rfl
        · kernel_rfl
        · kernel_rfl
        · kernel_rfl
        · exact fun _ _ _ _ h => h
        apply Exists.intro
        apply And.intro
        · exact yr_load_at (by rfl) 23 (.tmp 19) rfl ⟨b, off + k * 2, none⟩ rfl (idCells x) _ HP.out Try.underlying23 rfl (by kernel_rfl)
        simp only [Act.put, List.setIfInBounds_toArray, List.set_cons_zero, List.set_cons_succ]
        apply wpR_next 4 (some 21)
        · simp only [List.getElem?_toArray, List.getElem?_cons_succ, List.getElem?_cons_zero]; exact rfl
        · rfl
        · kernel_rfl
        · kernel_rfl
        · kernel_rfl
        · exact fun _ _ _ _ h => h
        apply Exists.intro
        apply And.intro
        · apply yr_run; rfl; intro w' hw'; go_simp; (try with_reducible rfl)
        simp only [Act.put, List.setIfInBounds_toArray, List.set_cons_zero, List.set_cons_succ]
        apply wpR_next 5 (some 22)
        · simp only [List.getElem?_toArray, List.getElem?_cons_succ, List.getElem?_cons_zero]; exact rfl
        · rfl
        · kernel_rfl
        · kernel_rfl
        · kernel_rfl
        · exact fun _ _ _ _ h => h
        apply Exists.intro
        apply And.intro
        · apply yr_run; rfl; intro w' hw'; go_simp; (try with_reducible rfl)
        simp only [Act.put, List.setIfInBounds_toArray, List.set_cons_zero, List.set_cons_succ]
        apply wpR_next 6 (some 23)
        · simp only [List.getElem?_toArray, List.getElem?_cons_succ, List.getElem?_cons_zero]; exact rfl
        · rfl
        · kernel_rfl
        · kernel_rfl
        · kernel_rfl
        · exact fun _ _ _ _ h => h
        apply Exists.intro
        apply And.intro
        · apply yr_run; rfl; intro w' hw'; go_simp; (try with_reducible rfl)
        simp only [Act.put, List.setIfInBounds_toArray, List.set_cons_zero, List.set_cons_succ]
        apply wpR_next 7 (some 24)
        · simp only [List.getElem?_toArray, List.getElem?_cons_succ, List.getElem?_cons_zero]; exact rfl
        · rfl
        · kernel_rfl
        · kernel_rfl
        · kernel_rfl
        · exact fun _ _ _ _ h => h
        apply Exists.intro
        apply And.intro
        · exact yr_load_at (by rfl) 23 (.tmp 23) rfl ⟨b', off' + k * 2, none⟩ rfl (idCells y) _ HP'.out Try.underlying23 rfl (by kernel_rfl)
        simp only [Act.put, List.setIfInBounds_toArray, List.set_cons_zero, List.set_cons_succ]
        apply wpR_next 8 (some 25)
        · simp only [List.getElem?_toArray, List.getElem?_cons_succ, List.getElem?_cons_zero]; exact rfl
        · rfl
        · kernel_rfl
        · kernel_rfl
        · kernel_rfl
        · exact fun _ _ _ _ h => h
        apply Exists.intro
        apply And.intro
        · exact yr_run (by rfl) (fun w' _ => exec_binop_agg .neq 23 (.tmp 20) (.tmp 24) 23 rfl rfl rfl (by kernel_rfl) (HQ.out w'))
        simp only [Act.put, List.setIfInBounds_toArray, List.set_cons_zero, List.set_cons_succ]
        refine wpR_done (by kernel_rfl) ?_ _
        intro w2 hw2
        have HX2 := Lib.hid (hin.out.1.trans ((Below.refl _ _).drew.trans hw2))
        clear hw2
      · have HI : RowKit.Hid (Ext W1 w2 ∧ L.take (k + 1) = M.take (k + 1)) := Lib.hid ⟨HX2.out, eqs_next HX.out HY.out hin.out.2 HXY.out⟩
        go_wp2
        go_roundw
        case rel => exact ⟨k + 1, by omega, by go_num, HI⟩
        case measure => simp [intOf]; omega
      · have HF := Lib.hid (eqs_not HX.out HY.out HXY.out)
        go_wp2
        go_ret
        exact ⟨ret_bool HF.out.symm, HB.out.trans (HX2.out.mono HB.out.size)⟩
    · have HF := Lib.hid (eqs_all (L := L) (M := M) (k := k) (by omega) (by have := HLM.out; omega) hin.out.2)
      go_wp2
      go_ret
      exact ⟨ret_bool HF.out.symm, HB.out.trans (hin.out.1.mono HB.out.size)⟩

theorem same_any (A A' : Option Addr) (n n' c c' : Nat) (L M : List OpT) (w : World) (h : RdS w w.heap.size 20 A n c (rowsV opCells L)) (h' : RdS w w.heap.size 20 A' n' c' (rowsV opCells M)) (hn : n ≤ maxLen) :
    Calls Try.prog 18 #[.agg #[.slice A n c], .agg #[.slice A' n' c']] w fun e w' => e = .returned (.bool (decide (L = M))) ∧ Below w.heap.size w w' := by
  have HC := Lib.hid (equal_ops A A' n n' c c' L M _ ((h.al (.cells #[.slice A n c] 32)).al (.cells #[.slice A' n' c'] 32)) ((h'.al _).al _) hn)
  clear h h'
  go_enter Try.func18, Try.ntmps18
  go_wp2_with fail
  refine HC.out.mono ?_
  rintro e w2 ⟨rfl, hb⟩
  have HB := Lib.hid (below_after2 hb)
  clear hb
  go_wp2
  go_ret
  exact ⟨rfl, HB.out⟩
end Go.Proofs.Ytfbgbljljhgbjaa
