/- The contracts of op.Names and of the document's own. -/
import Derived.Test.YtfbgbljljhgbjaaOp12
import Derived.Test.YtfbgbljljhgbjaaOw4
namespace Go.Proofs.Ytfbgbljljhgbjaa
open Go.RowKit
set_option linter.unusedSimpArgs false
set_option linter.unusedVariables false

def idCells (p : Int × Int) : List Value := [.int .i64 p.1, .int .i64 p.2]
theorem idCells_len (p : Int × Int) : (idCells p).length = 2 := rfl
theorem idCells_one (p : Int × Int) : ∀ u ∈ idCells p, u.oneCell' = true := by simp [idCells, Value.oneCell']
theorem info_id : (Try.prog.info? 23).map (fun i => (i.zero, i.size, i.bytes)) = some (some (.agg #[.int .i64 0, .int .i64 0]), 2, 16) := by kernel_rfl
theorem info_parts_ {o : Option TypeInfo} {z : Value} {s b : Nat} (h : o.map (fun i => (i.zero, i.size, i.bytes)) = some (some z, s, b)) : ∃ i, o = some i ∧ i.zero = some z ∧ i.size = s ∧ i.bytes = b := by
  cases o with
  | none => simp at h
  | some i => simp at h; exact ⟨i, rfl, h⟩
/-- The names that an operation would give. -/
def namesO (o : OpT) : List (Int × Int) := if o.k = 1 ∨ o.k = 3 then [(o.s, o.n)] else if o.k = 5 then [(o.s1, o.n1), (o.s2, o.n2)] else []
def namesE (L : List OpT) : List (Int × Int) := L.flatMap namesO
theorem namesO_len (o : OpT) : (namesO o).length ≤ 2 := by
  unfold namesO
  repeat' split
  all_goals simp
theorem namesE_next (L : List OpT) (k : Nat) (o : OpT) (h : L[k]? = some o) : namesE (L.take (k + 1)) = namesE (L.take k) ++ namesO o := by
  rw [take_snoc_ L k o h]
  simp [namesE]
theorem namesE_len (L : List OpT) : (namesE L).length ≤ 2 * L.length := by
  induction L with
  | nil => simp [namesE]
  | cons o L ih =>
    have := namesO_len o
    simp only [namesE, List.flatMap_cons, List.length_append, List.length_cons] at ih ⊢
    omega

/-- A slice of names, told. -/
def GivesI (w : World) (M : List (Int × Int)) (e : Ending) (w' : World) : Prop :=
  ∃ A c, e = .returned (.slice A M.length c) ∧ RdS w' w'.heap.size 2 A M.length c (rowsV idCells M) ∧ Below w.heap.size w w'

/-- The same, and that it is new. -/
def GivesJ (w : World) (M : List (Int × Int)) (e : Ending) (w' : World) : Prop :=
  ∃ A c, e = .returned (.slice A M.length c) ∧ RdS w' w'.heap.size 2 A M.length c (rowsV idCells M) ∧ (∀ a, A = some a → 0 < M.length → w.heap.size ≤ a.block) ∧ Below w.heap.size w w'
theorem GivesJ.gives {w w' : World} {M : List (Int × Int)} {e : Ending} (h : GivesJ w M e w') : GivesI w M e w' := by
  obtain ⟨A, c, h1, h2, -, h3⟩ := h
  exact ⟨A, c, h1, h2, h3⟩

def NmIn (L : List OpT) (W1 : World) (k : Nat) (v : Value) (wr : World) : Prop := Ow W1 W1.heap.size 23 2 v (namesE (L.take k)).length (rowsV idCells (namesE (L.take k))) wr
theorem NmIn.next {L : List OpT} {W1 : World} {k : Nat} {v : Value} {wr : World} {o : OpT} {m : Nat} {xs : List Value} (hk : L[k]? = some o) (hm : m = (namesO o).length) (hx : xs = rowsV idCells (namesO o))
    (h : Ow W1 W1.heap.size 23 2 v ((namesE (L.take k)).length + m) (rowsV idCells (namesE (L.take k)) ++ xs) wr) : NmIn L W1 (k + 1) v wr := by
  unfold NmIn
  rw [namesE_next L k o hk, List.length_append, rowsV_app, ← hm, ← hx]
  exact h
theorem NmIn.stay {L : List OpT} {W1 : World} {k : Nat} {v : Value} {wr w2 : World} {o : OpT} (hk : L[k]? = some o) (hm : namesO o = [])
    (h : NmIn L W1 k v wr) (hb : Below wr.heap.size wr w2) : NmIn L W1 (k + 1) v w2 := by
  unfold NmIn
  rw [namesE_next L k o hk, hm, List.append_nil]
  exact h.up hb

set_option maxRecDepth 100000 in
set_option maxHeartbeats 2000000 in
theorem names_new (A : Option Addr) (n c : Nat) (L : List OpT) (w : World) (h : RdS w w.heap.size 20 A n c (rowsV opCells L)) (hn : n ≤ 1000000) :
    Calls Try.prog 12 #[.agg #[.slice A n c]] w (GivesJ w (namesE L)) := by
  have hl := h.rlen opCells_len' (by decide)
  obtain ⟨i0, hi, hz0, hz1, hz2⟩ := info_parts_ info_id
  have HR := Lib.hid h
  obtain rfl := hl
  clear h
  go_enter Try.func12, Try.ntmps12
  go_wp2
  obtain ⟨W1, gW1⟩ : ∃ x, w.alloc (.cells #[.slice A L.length c] 32) = x := ⟨_, rfl⟩
  have HB : RowKit.Hid (Below w.heap.size w W1) := Lib.hid (by rw [← gW1]; exact below1 _ _)
  have HRd : RowKit.Hid (RdS W1 W1.heap.size 20 A L.length c (rowsV opCells L)) := Lib.hid (by rw [← gW1]; exact HR.out.al _)
  have HE : RowKit.Hid (Whole W1 w.heap.size 32 [.slice A L.length c]) := Lib.hid (by rw [← gW1]; exact Whole.new_ w _ [_])
  have H0 : RowKit.Hid (NmIn L W1 0 (.slice none 0 0) W1) := Lib.hid (Ow.nil_ (Below.refl _ _) (Nat.le_refl _) (Nat.le_refl _))
  rw [gW1]
  clear gW1
  obtain ⟨g0, gg0⟩ : ∃ x, w.heap.size = x := ⟨_, rfl⟩
  rw [gg0] at HE ⊢
  clear gg0
  go_loopw [3, 9] (fun v i wr => ∃ k : Nat, k ≤ L.length ∧ i = .int .i64 k ∧ RowKit.Hid (NmIn L W1 k v wr)) (fun _ i _ => L.length - (intOf i).toNat)
  case atStart => exact ⟨0, Nat.zero_le _, rfl, H0⟩
  case round =>
    rename_i wr _
    clear H0
    obtain ⟨k, hk, rfl, hin⟩ := hrel
    by_cases hlt : k < L.length
    · have hk0 : L[k]? = some (L[k]'(by omega)) := List.getElem?_eq_getElem _
      obtain ⟨o, go⟩ : ∃ o, L[k]'(by omega) = o := ⟨_, rfl⟩
      rw [go] at hk0
      have HK := Lib.hid hk0
      have HRd2 := Lib.hid (HRd.out.up hin.out.below hin.out.below.size)
      obtain ⟨b, off, rfl, hbB, hpl⟩ := HRd2.out.place opCells_len' (by decide) (by omega)
      have HP := Lib.hid (hpl k o hk0)
      have HL : RowKit.Hid ((namesE (L.take k)).length ≤ 2 * L.length) := Lib.hid (Nat.le_trans (namesE_len _) (Nat.mul_le_mul_left 2 (List.length_take_le' _ _)))
      clear go hk0 hpl hbB
      go_upto_region 4 with fail
      refine wp_region_lit ?_
      refine wl_read (v := ?_) (some 11) rfl (by rfl) ?_ ?_
      rotate_left
      · go_simp; (try with_reducible rfl)
      simp only [Act.put, List.setIfInBounds_toArray, List.set_cons_zero, List.set_cons_succ]
      refine wl_load_at (some 12) rfl (by rfl) 29 (.tmp 11) rfl ⟨b, off + k * 20, none⟩ rfl (opCells o) _ HP.out Try.underlying29 rfl (by kernel_rfl) ?_
      simp only [Act.put, List.setIfInBounds_toArray, List.set_cons_zero, List.set_cons_succ]
      refine wl_new 5 rfl rfl rfl 29 (.tmp 12) rfl rfl #[.int .i64 0, .int .i64 0, .int .i64 0, .int .i64 0, .int .i64 0, .int .i64 0, .int .i64 0, .int .i64 0, .int .i64 0, .int .i64 0, .int .i64 0, .int .i64 0, .int .i64 0, .int .i64 0, .int .i64 0, .int .i64 0, .int .i64 0, .bool false, .string ⟨#[]⟩, .int .i64 0] ?_ (opCells o).toArray (by simp) rfl (by kernel_rfl) rfl (opCells_all o) ?_
      · go_simp; (try with_reducible rfl)
      simp only [Act.put, List.setIfInBounds_toArray, List.set_cons_zero, List.set_cons_succ]
      have HI2 : RowKit.Hid (NmIn L W1 k _ (wr.alloc (.cells (opCells o).toArray 29))) := Lib.hid (hin.out.up (below1 _ _))
      have HN : RowKit.Hid (Whole (wr.alloc (.cells (opCells o).toArray 29)) wr.heap.size 29 (opCells o)) := Lib.hid (Whole.new_ _ _ _)
      obtain ⟨W2, gW2⟩ : ∃ x, wr.alloc (.cells (opCells o).toArray 29) = x := ⟨_, rfl⟩
      obtain ⟨g2, gg2⟩ : ∃ x, wr.heap.size = x := ⟨_, rfl⟩
      have HNE : RowKit.Hid (some wr.heap.size ≠ _) := Lib.hid (Ow.ne_ hin.out (Nat.le_refl _))
      rw [gW2] at HI2 HN ⊢
      rw [gg2] at HN HNE ⊢
      clear gW2 gg2 hin
      have l0 := HN.out.cell (i := 0) rfl
      have l1 := HN.out.cell (i := 1) rfl
      have l2 := HN.out.cell (i := 2) rfl
      have l3 := HN.out.cell (i := 3) rfl
      have l4 := HN.out.cell (i := 4) rfl
      have l5 := HN.out.cell (i := 5) rfl
      have l6 := HN.out.cell (i := 6) rfl
      by_cases k1 : o.k = 1
      · have HN9 : RowKit.Hid (namesO o = [(o.s, o.n)]) := Lib.hid (by unfold namesO; rw [if_pos (.inl k1)])
        have q1 : (o.k == 1) = true := by simpa using k1
        have q5 : (o.k == 5) = false := by rw [k1]; rfl
        clear k1
        go_wp2_with (first
          | (at_builtin
             refine wpList_push2 rfl (.tmp 18) (.tmp 21) _ rfl _ 23 i0 _ 2 16 Try.underlying36 hi hz0 hz1 hz2 rfl (by decide) _ _ _ rfl (by exact Ow.up HI2.out (below1 _ _)) _ (some ⟨W2.heap.size, 0, none⟩) 1 1 (rowsV idCells [(o.s, o.n)]) rfl (by exact RdS.new_ rfl (Nat.lt_succ_self _) rfl rfl) (by simp [Value.oneCell', rowsV, idCells]) (by have := HL.out; unfold maxLen; omega) (by have := HL.out; omega) ?_
             intro v1 w1 how1 hb1 hgr
             have HO1 := Lib.hid how1
             have HN1 := ((HN.out.alloc _).grown hgr HNE.out)
             have m0 := HN1.cell (i := 0) rfl
             clear how1 hb1 hgr HN1))
        go_roundw
        case rel => exact ⟨k + 1, by omega, by go_num, Lib.hid (NmIn.next HK.out (by rw [HN9.out]; rfl) (by rw [HN9.out]) HO1.out)⟩
        case measure => simp [intOf]; omega
      have q1 : (o.k == 1) = false := by simpa using k1
      by_cases k3 : o.k = 3
      · have HN9 : RowKit.Hid (namesO o = [(o.s, o.n)]) := Lib.hid (by unfold namesO; rw [if_pos (.inr k3)])
        have q3 : (o.k == 3) = true := by simpa using k3
        have q5 : (o.k == 5) = false := by rw [k3]; rfl
        clear k3 k1
        go_wp2_with (first
          | (at_builtin
             refine wpList_push2 rfl (.tmp 18) (.tmp 21) _ rfl _ 23 i0 _ 2 16 Try.underlying36 hi hz0 hz1 hz2 rfl (by decide) _ _ _ rfl (by exact Ow.up HI2.out (below1 _ _)) _ (some ⟨W2.heap.size, 0, none⟩) 1 1 (rowsV idCells [(o.s, o.n)]) rfl (by exact RdS.new_ rfl (Nat.lt_succ_self _) rfl rfl) (by simp [Value.oneCell', rowsV, idCells]) (by have := HL.out; unfold maxLen; omega) (by have := HL.out; omega) ?_
             intro v1 w1 how1 hb1 hgr
             have HO1 := Lib.hid how1
             have HN1 := ((HN.out.alloc _).grown hgr HNE.out)
             have m0 := HN1.cell (i := 0) rfl
             clear how1 hb1 hgr HN1))
        go_roundw
        case rel => exact ⟨k + 1, by omega, by go_num, Lib.hid (NmIn.next HK.out (by rw [HN9.out]; rfl) (by rw [HN9.out]) HO1.out)⟩
        case measure => simp [intOf]; omega
      have q3 : (o.k == 3) = false := by simpa using k3
      by_cases k5 : o.k = 5
      · have HN9 : RowKit.Hid (namesO o = [(o.s1, o.n1), (o.s2, o.n2)]) := Lib.hid (by unfold namesO; rw [if_neg (by omega), if_pos k5])
        have q5 : (o.k == 5) = true := by simpa using k5
        clear k5 k3 k1
        go_wp2_with (first
          | (at_builtin
             refine wpList_push2 rfl (.tmp 25) (.tmp 30) _ rfl _ 23 i0 _ 2 16 Try.underlying36 hi hz0 hz1 hz2 rfl (by decide) _ _ _ rfl (by exact Ow.up HI2.out (below1 _ _)) _ (some ⟨W2.heap.size, 0, none⟩) 2 2 (rowsV idCells [(o.s1, o.n1), (o.s2, o.n2)]) rfl (by exact RdS.new_ rfl (Nat.lt_succ_self _) rfl rfl) (by simp [Value.oneCell', rowsV, idCells]) (by have := HL.out; unfold maxLen; omega) (by have := HL.out; omega) ?_
             intro v1 w1 how1 hb1 hgr
             have HO1 := Lib.hid how1
             have HN1 := ((HN.out.alloc _).grown hgr HNE.out)
             have m0 := HN1.cell (i := 0) rfl
             clear how1 hb1 hgr HN1))
        go_roundw
        case rel => exact ⟨k + 1, by omega, by go_num, Lib.hid (NmIn.next HK.out (by rw [HN9.out]; rfl) (by rw [HN9.out]) HO1.out)⟩
        case measure => simp [intOf]; omega
      have q5 : (o.k == 5) = false := by simpa using k5
      have HN9 : RowKit.Hid (namesO o = []) := Lib.hid (by unfold namesO; rw [if_neg (by omega), if_neg k5])
      clear k5 k3 k1
      go_wp2
      go_roundw
      case rel => exact ⟨k + 1, by omega, by go_num, Lib.hid (NmIn.stay HK.out HN9.out HI2.out (Below.refl _ _))⟩
      case measure => simp [intOf]; omega
    · have hfull : L.take k = L := List.take_of_length_le (by omega)
      unfold NmIn at hin
      rw [hfull] at hin
      obtain ⟨A1, c1, hv, hr1⟩ := hin.out.rds
      subst hv
      have HR1 := Lib.hid hr1
      have HB9 := Lib.hid hin.out.below
      have HW9 : RowKit.Hid (∀ a, A1 = some a → 0 < (namesE L).length → w.heap.size ≤ a.block) := Lib.hid (fun a e _ => by
        subst e
        have h1 := (hin.out.own.lt a.block rfl).1
        have h2 := HB.out.size
        omega)
      clear hr1 hfull hin
      go_wp2
      go_ret
      exact ⟨A1, c1, rfl, HR1.out, HW9.out, HB.out.trans (HB9.out.mono HB.out.size)⟩

set_option maxRecDepth 100000 in
set_option maxHeartbeats 2000000 in
theorem rnames_new (A : Option Addr) (n c : Nat) (L : List OpT) (w : World) (h : RdS w w.heap.size 20 A n c (rowsV opCells L)) (hn : n ≤ 1000000) :
    Calls Try.prog 13 #[.agg #[.slice A n c]] w (GivesJ w (namesE L)) := by
  have hl := h.rlen opCells_len' (by decide)
  obtain ⟨i0, hi, hz0, hz1, hz2⟩ := info_parts_ info_id
  have HR := Lib.hid h
  obtain rfl := hl
  clear h
  go_enter Try.func13, Try.ntmps13
  go_wp2
  obtain ⟨W1, gW1⟩ : ∃ x, w.alloc (.cells #[.slice A L.length c] 32) = x := ⟨_, rfl⟩
  have HB : RowKit.Hid (Below w.heap.size w W1) := Lib.hid (by rw [← gW1]; exact below1 _ _)
  have HRd : RowKit.Hid (RdS W1 W1.heap.size 20 A L.length c (rowsV opCells L)) := Lib.hid (by rw [← gW1]; exact HR.out.al _)
  have HE : RowKit.Hid (Whole W1 w.heap.size 32 [.slice A L.length c]) := Lib.hid (by rw [← gW1]; exact Whole.new_ w _ [_])
  have hsz : w.heap.size + 1 = W1.heap.size := by rw [← gW1]; simp
  have H0 : RowKit.Hid (NmIn L W1 0 (.slice (some ⟨W1.heap.size, 0, none⟩) 0 0) (W1.alloc (.cells #[] 23))) := Lib.hid (Ow.new_ (e := 23) (size := 2) (cs := #[]) (Below.refl _ _) (Nat.le_refl _) (Nat.le_refl _) (n := 0) (Nat.zero_le _) rfl)
  rw [gW1, hsz]
  clear gW1 hsz
  obtain ⟨g0, gg0⟩ : ∃ x, w.heap.size = x := ⟨_, rfl⟩
  rw [gg0] at HE ⊢
  clear gg0
  go_loopw [3, 4] (fun v i wr => ∃ k : Nat, k ≤ L.length ∧ i = .int .i64 k ∧ RowKit.Hid (NmIn L W1 k v wr)) (fun _ i _ => L.length - (intOf i).toNat)
  case atStart => exact ⟨0, Nat.zero_le _, rfl, H0⟩
  case round =>
    rename_i wr _
    clear H0
    obtain ⟨k, hk, rfl, hin⟩ := hrel
    have le := (HE.out.below hin.out.below).cell (i := 0) rfl
    by_cases hlt : k < L.length
    · have hk0 : L[k]? = some (L[k]'(by omega)) := List.getElem?_eq_getElem _
      obtain ⟨o, go⟩ : ∃ o, L[k]'(by omega) = o := ⟨_, rfl⟩
      rw [go] at hk0
      have HK := Lib.hid hk0
      have HRd2 := Lib.hid (HRd.out.up hin.out.below hin.out.below.size)
      obtain ⟨b, off, rfl, hbB, hpl⟩ := HRd2.out.place opCells_len' (by decide) (by omega)
      have HP := Lib.hid (hpl k o hk0)
      have HL : RowKit.Hid ((namesE (L.take k)).length ≤ 2 * L.length) := Lib.hid (Nat.le_trans (namesE_len _) (Nat.mul_le_mul_left 2 (List.length_take_le' _ _)))
      clear go hk0 hpl hbB
      go_upto_region 5 with fail
      refine wp_region_lit ?_
      refine wl_read (v := ?_) (some 14) rfl (by rfl) ?_ ?_
      rotate_left
      · go_simp; (try with_reducible rfl)
      simp only [Act.put, List.setIfInBounds_toArray, List.set_cons_zero, List.set_cons_succ]
      refine wl_read (v := ?_) (some 15) rfl (by rfl) ?_ ?_
      rotate_left
      · go_simp; (try with_reducible rfl)
      simp only [Act.put, List.setIfInBounds_toArray, List.set_cons_zero, List.set_cons_succ]
      refine wl_read (v := ?_) (some 16) rfl (by rfl) ?_ ?_
      rotate_left
      · go_simp; (try with_reducible rfl)
      simp only [Act.put, List.setIfInBounds_toArray, List.set_cons_zero, List.set_cons_succ]
      refine wl_read (v := ?_) (some 17) rfl (by rfl) ?_ ?_
      rotate_left
      · go_simp; (try with_reducible rfl)
      simp only [Act.put, List.setIfInBounds_toArray, List.set_cons_zero, List.set_cons_succ]
      refine wl_load_at (some 18) rfl (by rfl) 29 (.tmp 17) rfl ⟨b, off + k * 20, none⟩ rfl (opCells o) _ HP.out Try.underlying29 rfl (by kernel_rfl) ?_
      simp only [Act.put, List.setIfInBounds_toArray, List.set_cons_zero, List.set_cons_succ]
      refine wl_new 5 rfl rfl rfl 29 (.tmp 18) rfl rfl #[.int .i64 0, .int .i64 0, .int .i64 0, .int .i64 0, .int .i64 0, .int .i64 0, .int .i64 0, .int .i64 0, .int .i64 0, .int .i64 0, .int .i64 0, .int .i64 0, .int .i64 0, .int .i64 0, .int .i64 0, .int .i64 0, .int .i64 0, .bool false, .string ⟨#[]⟩, .int .i64 0] ?_ (opCells o).toArray (by simp) rfl (by kernel_rfl) rfl (opCells_all o) ?_
      · go_simp; (try with_reducible rfl)
      simp only [Act.put, List.setIfInBounds_toArray, List.set_cons_zero, List.set_cons_succ]
      have HI2 : RowKit.Hid (NmIn L W1 k _ (wr.alloc (.cells (opCells o).toArray 29))) := Lib.hid (hin.out.up (below1 _ _))
      have HN : RowKit.Hid (Whole (wr.alloc (.cells (opCells o).toArray 29)) wr.heap.size 29 (opCells o)) := Lib.hid (Whole.new_ _ _ _)
      obtain ⟨W2, gW2⟩ : ∃ x, wr.alloc (.cells (opCells o).toArray 29) = x := ⟨_, rfl⟩
      obtain ⟨g2, gg2⟩ : ∃ x, wr.heap.size = x := ⟨_, rfl⟩
      have HNE : RowKit.Hid (some wr.heap.size ≠ _) := Lib.hid (Ow.ne_ hin.out (Nat.le_refl _))
      rw [gW2] at HI2 HN ⊢
      rw [gg2] at HN HNE ⊢
      clear gW2 gg2 hin
      have l0 := HN.out.cell (i := 0) rfl
      have l1 := HN.out.cell (i := 1) rfl
      have l2 := HN.out.cell (i := 2) rfl
      have l3 := HN.out.cell (i := 3) rfl
      have l4 := HN.out.cell (i := 4) rfl
      have l5 := HN.out.cell (i := 5) rfl
      have l6 := HN.out.cell (i := 6) rfl
      by_cases k1 : o.k = 1
      · have HN9 : RowKit.Hid (namesO o = [(o.s, o.n)]) := Lib.hid (by unfold namesO; rw [if_pos (.inl k1)])
        have q1 : (o.k == 1) = true := by simpa using k1
        have q5 : (o.k == 5) = false := by rw [k1]; rfl
        clear k1
        go_wp2_with (first
          | (at_builtin
             refine wpList_push2 rfl (.tmp 27) (.tmp 30) _ rfl _ 23 i0 _ 2 16 Try.underlying36 hi hz0 hz1 hz2 rfl (by decide) _ _ _ rfl (by exact Ow.up HI2.out (below1 _ _)) _ (some ⟨W2.heap.size, 0, none⟩) 1 1 (rowsV idCells [(o.s, o.n)]) rfl (by exact RdS.new_ rfl (Nat.lt_succ_self _) rfl rfl) (by simp [Value.oneCell', rowsV, idCells]) (by have := HL.out; unfold maxLen; omega) (by have := HL.out; omega) ?_
             intro v1 w1 how1 hb1 hgr
             have HO1 := Lib.hid how1
             have HN1 := ((HN.out.alloc _).grown hgr HNE.out)
             have m0 := HN1.cell (i := 0) rfl
             clear how1 hb1 hgr HN1))
        go_roundw
        case rel => exact ⟨k + 1, by omega, by go_num, Lib.hid (NmIn.next HK.out (by rw [HN9.out]; rfl) (by rw [HN9.out]) HO1.out)⟩
        case measure => simp [intOf]; omega
      have q1 : (o.k == 1) = false := by simpa using k1
      by_cases k3 : o.k = 3
      · have HN9 : RowKit.Hid (namesO o = [(o.s, o.n)]) := Lib.hid (by unfold namesO; rw [if_pos (.inr k3)])
        have q3 : (o.k == 3) = true := by simpa using k3
        have q5 : (o.k == 5) = false := by rw [k3]; rfl
        clear k3 k1
        go_wp2_with (first
          | (at_builtin
             refine wpList_push2 rfl (.tmp 27) (.tmp 30) _ rfl _ 23 i0 _ 2 16 Try.underlying36 hi hz0 hz1 hz2 rfl (by decide) _ _ _ rfl (by exact Ow.up HI2.out (below1 _ _)) _ (some ⟨W2.heap.size, 0, none⟩) 1 1 (rowsV idCells [(o.s, o.n)]) rfl (by exact RdS.new_ rfl (Nat.lt_succ_self _) rfl rfl) (by simp [Value.oneCell', rowsV, idCells]) (by have := HL.out; unfold maxLen; omega) (by have := HL.out; omega) ?_
             intro v1 w1 how1 hb1 hgr
             have HO1 := Lib.hid how1
             have HN1 := ((HN.out.alloc _).grown hgr HNE.out)
             have m0 := HN1.cell (i := 0) rfl
             clear how1 hb1 hgr HN1))
        go_roundw
        case rel => exact ⟨k + 1, by omega, by go_num, Lib.hid (NmIn.next HK.out (by rw [HN9.out]; rfl) (by rw [HN9.out]) HO1.out)⟩
        case measure => simp [intOf]; omega
      have q3 : (o.k == 3) = false := by simpa using k3
      by_cases k5 : o.k = 5
      · have HN9 : RowKit.Hid (namesO o = [(o.s1, o.n1), (o.s2, o.n2)]) := Lib.hid (by unfold namesO; rw [if_neg (by omega), if_pos k5])
        have q5 : (o.k == 5) = true := by simpa using k5
        clear k5 k3 k1
        go_wp2_with (first
          | (at_builtin
             refine wpList_push2 rfl (.tmp 35) (.tmp 40) _ rfl _ 23 i0 _ 2 16 Try.underlying36 hi hz0 hz1 hz2 rfl (by decide) _ _ _ rfl (by exact Ow.up HI2.out (below1 _ _)) _ (some ⟨W2.heap.size, 0, none⟩) 2 2 (rowsV idCells [(o.s1, o.n1), (o.s2, o.n2)]) rfl (by exact RdS.new_ rfl (Nat.lt_succ_self _) rfl rfl) (by simp [Value.oneCell', rowsV, idCells]) (by have := HL.out; unfold maxLen; omega) (by have := HL.out; omega) ?_
             intro v1 w1 how1 hb1 hgr
             have HO1 := Lib.hid how1
             have HN1 := ((HN.out.alloc _).grown hgr HNE.out)
             have m0 := HN1.cell (i := 0) rfl
             clear how1 hb1 hgr HN1))
        go_roundw
        case rel => exact ⟨k + 1, by omega, by go_num, Lib.hid (NmIn.next HK.out (by rw [HN9.out]; rfl) (by rw [HN9.out]) HO1.out)⟩
        case measure => simp [intOf]; omega
      have q5 : (o.k == 5) = false := by simpa using k5
      have HN9 : RowKit.Hid (namesO o = []) := Lib.hid (by unfold namesO; rw [if_neg (by omega), if_neg k5])
      clear k5 k3 k1
      go_wp2
      go_roundw
      case rel => exact ⟨k + 1, by omega, by go_num, Lib.hid (NmIn.stay HK.out HN9.out HI2.out (Below.refl _ _))⟩
      case measure => simp [intOf]; omega
    · have hfull : L.take k = L := List.take_of_length_le (by omega)
      unfold NmIn at hin
      rw [hfull] at hin
      obtain ⟨A1, c1, hv, hr1⟩ := hin.out.rds
      subst hv
      have HR1 := Lib.hid hr1
      have HB9 := Lib.hid hin.out.below
      have HW9 : RowKit.Hid (∀ a, A1 = some a → 0 < (namesE L).length → w.heap.size ≤ a.block) := Lib.hid (fun a e _ => by
        subst e
        have h1 := (hin.out.own.lt a.block rfl).1
        have h2 := HB.out.size
        omega)
      clear hr1 hfull hin
      go_wp2
      go_ret
      exact ⟨A1, c1, rfl, HR1.out, HW9.out, HB.out.trans (HB9.out.mono HB.out.size)⟩

theorem names_any (A : Option Addr) (n c : Nat) (L : List OpT) (w : World) (h : RdS w w.heap.size 20 A n c (rowsV opCells L)) (hn : n ≤ 1000000) :
    Calls Try.prog 12 #[.agg #[.slice A n c]] w (GivesI w (namesE L)) := (names_new A n c L w h hn).mono fun _ _ h => h.gives
theorem rnames_any (A : Option Addr) (n c : Nat) (L : List OpT) (w : World) (h : RdS w w.heap.size 20 A n c (rowsV opCells L)) (hn : n ≤ 1000000) :
    Calls Try.prog 13 #[.agg #[.slice A n c]] w (GivesI w (namesE L)) := (rnames_new A n c L w h hn).mono fun _ _ h => h.gives
end Go.Proofs.Ytfbgbljljhgbjaa
