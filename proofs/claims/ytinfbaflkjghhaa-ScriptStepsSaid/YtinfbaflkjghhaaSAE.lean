/- Several texts in one. -/
import Derived.Test.YtinfbaflkjghhaaSAA
import Derived.Test.YtinfbaflkjghhaaSAD
import Derived.Test.YtinfbaflkjghhaaSAB
import Derived.Test.YtinfbaflkjghhaaSAC
/- The contracts of op.MayEdit and of the document's own. -/
set_option linter.unusedSimpArgs false
set_option linter.unusedVariables false
namespace Go.Proofs.Ytinfbaflkjghhaa
open Go.RowKit
/-- What is wrong with the first of them that is wrong. -/
def mayEs : List OpT → Int
  | [] => 0
  | o :: l => if mayO o = 0 then mayEs l else mayO o
/-- What is wrong with an edit. -/
def mayE (L : List OpT) : Int := if L.length < 1 ∨ 6 < L.length then 3 else mayEs L
theorem mayEs_app (l m : List OpT) : mayEs (l ++ m) = if mayEs l = 0 then mayEs m else mayEs l := by
  induction l with
  | nil => simp [mayEs]
  | cons o l ih =>
    simp only [List.cons_append, mayEs]
    by_cases h : mayO o = 0
    · simp [h, ih]
    · simp [h]
theorem mayEs_next (L : List OpT) (k : Nat) (o : OpT) (h : L[k]? = some o) (h0 : mayEs (L.take k) = 0) (ho : mayO o = 0) : mayEs (L.take (k + 1)) = 0 := by
  rw [take_snoc_ L k o h, mayEs_app, if_pos h0]
  simp [mayEs, ho]
theorem mayEs_stop (L : List OpT) (k : Nat) (o : OpT) (h : L[k]? = some o) (h0 : mayEs (L.take k) = 0) (ho : mayO o ≠ 0) : mayEs L = mayO o := by
  have e : L = L.take (k + 1) ++ L.drop (k + 1) := (List.take_append_drop _ _).symm
  rw [e, take_snoc_ L k o h, List.append_assoc, mayEs_app, if_pos h0]
  simp [mayEs, ho]
theorem opCells_len' (o : OpT) : (opCells o).length = 20 := rfl
theorem opCells_one (o : OpT) : ∀ u ∈ opCells o, u.oneCell' = true := by simp [opCells, Value.oneCell']
theorem opCells_all (o : OpT) : (opCells o).toArray.all (·.oneCell') = true := by simp [opCells, Value.oneCell']
/-- How a round of the loop over an edit stands. -/
def EdIn (L : List OpT) (W1 : World) (k : Nat) (wr : World) : Prop := Ext W1 wr ∧ mayEs (L.take k) = 0
set_option maxRecDepth 100000 in
set_option maxHeartbeats 2000000 in
theorem mayedit_any (A : Option Addr) (n c : Nat) (L : List OpT) (w : World) (h : RdS w w.heap.size 20 A n c (rowsV opCells L)) (hn : n ≤ maxLen) :
    Calls Try.prog 41 #[.agg #[.slice A n c]] w fun e w' => e = .returned (.int .i64 (mayE L)) ∧ Below w.heap.size w w' := by
  have hl := h.rlen opCells_len' (by decide)
  unfold maxLen at hn
  by_cases h1 : n < 1
  · have hm : mayE L = 3 := by unfold mayE; rw [if_pos (by omega)]
    rw [hm]
    have q1 : decide ((n : Int) < 1) = true := decide_eq_true (by omega)
    clear hm hl h1
    go_enter Try.func41, Try.ntmps41
    go_wp2
    go_ret
    exact ⟨rfl, below1 _ _⟩
  have q1 : decide ((n : Int) < 1) = false := decide_eq_false (by omega)
  by_cases h6 : 6 < n
  · have hm : mayE L = 3 := by unfold mayE; rw [if_pos (by omega)]
    rw [hm]
    have q6 : decide ((6 : Int) < (n : Int)) = true := decide_eq_true (by omega)
    clear hm hl h1
    go_enter Try.func41, Try.ntmps41
    go_wp2
    go_ret
    exact ⟨rfl, below1 _ _⟩
  have q6 : decide ((6 : Int) < (n : Int)) = false := decide_eq_false (by omega)
  have hm : mayE L = mayEs L := by unfold mayE; rw [if_neg (by omega)]
  have HM := Lib.hid hm
  have HR := Lib.hid h
  obtain rfl := hl
  clear hm h
  go_enter Try.func41, Try.ntmps41
  go_wp2
  clear q1 q6
  obtain ⟨W1, gW1⟩ : ∃ x, w.alloc (.cells #[.slice A L.length c] 28) = x := ⟨_, rfl⟩
  have HB : RowKit.Hid (Below w.heap.size w W1) := Lib.hid (by rw [← gW1]; exact below1 _ _)
  have HRd : RowKit.Hid (RdS W1 W1.heap.size 20 A L.length c (rowsV opCells L)) := Lib.hid (by rw [← gW1]; exact HR.out.al _)
  have HE : RowKit.Hid (Whole W1 w.heap.size 28 [.slice A L.length c]) := Lib.hid (by rw [← gW1]; exact Whole.new_ w _ [_])
  rw [gW1]
  clear gW1
  obtain ⟨g0, gg0⟩ : ∃ x, w.heap.size = x := ⟨_, rfl⟩
  rw [gg0] at HE ⊢
  clear gg0
  go_loopw [19] (fun i wr => ∃ k : Nat, k ≤ L.length ∧ i = .int .i64 k ∧ RowKit.Hid (EdIn L W1 k wr)) (fun i _ => L.length - (intOf i).toNat)
  case atStart => exact ⟨0, Nat.zero_le _, rfl, Lib.hid ⟨Ext.refl _, rfl⟩⟩
  case round =>
    rename_i wr _
    obtain ⟨k, hk, rfl, hin⟩ := hrel
    by_cases hlt : k < L.length
    · have hk0 : L[k]? = some (L[k]'(by omega)) := List.getElem?_eq_getElem _
      obtain ⟨o, go⟩ : ∃ o, L[k]'(by omega) = o := ⟨_, rfl⟩
      rw [go] at hk0
      have HK := Lib.hid hk0
      have HRd2 := Lib.hid (HRd.out.bl hin.out.1)
      obtain ⟨b, off, rfl, hbB, hpl⟩ := HRd2.out.place opCells_len' (by decide) (by omega)
      have HP := Lib.hid (hpl k o hk0)
      clear go hk0 hpl hbB
      obtain ⟨x, gx⟩ : ∃ x, mayO o = x := ⟨_, rfl⟩
      have HC := Lib.hid (mayop_any o)
      rw [gx] at HC
      have HX := Lib.hid gx
      clear gx
      go_upto_region 5 with fail
      refine wp_region_lit ?_
      refine wl_read (v := ?_) (some 21) rfl (by rfl) ?_ ?_
      rotate_left
      · go_simp; (try with_reducible rfl)
      simp only [Act.put, stA_, st0_, st1_]
      refine wl_load_at (some 22) rfl (by rfl) 53 (.tmp 21) rfl ⟨b, off + k * 20, none⟩ rfl (opCells o) _ HP.out Try.underlying53 rfl (by kernel_rfl) ?_
      simp only [Act.put, stA_, st0_, st1_]
      refine wl_new 4 rfl rfl rfl 53 (.tmp 22) rfl rfl #[.int .i64 0, .int .i64 0, .int .i64 0, .int .i64 0, .int .i64 0, .int .i64 0, .int .i64 0, .int .i64 0, .int .i64 0, .int .i64 0, .int .i64 0, .int .i64 0, .int .i64 0, .int .i64 0, .int .i64 0, .int .i64 0, .int .i64 0, .bool false, .string ⟨#[]⟩, .int .i64 0] ?_ (opCells o).toArray (by simp) rfl (by kernel_rfl) rfl (opCells_all o) ?_
      · go_simp; (try with_reducible rfl)
      simp only [Act.put, stA_, st0_, st1_]
      have HX2 : RowKit.Hid (Ext W1 (wr.alloc (.cells (opCells o).toArray 53))) := Lib.hid (hin.out.1.trans (below1 _ _))
      have HN : RowKit.Hid (Whole (wr.alloc (.cells (opCells o).toArray 53)) wr.heap.size 53 (opCells o)) := Lib.hid (Whole.new_ _ _ _)
      obtain ⟨W2, gW2⟩ : ∃ x, wr.alloc (.cells (opCells o).toArray 53) = x := ⟨_, rfl⟩
      obtain ⟨g2, gg2⟩ : ∃ x, wr.heap.size = x := ⟨_, rfl⟩
      rw [gW2] at HX2 HN ⊢
      rw [gg2] at HN ⊢
      clear gW2 gg2
      go_upto_region 6 with fail
      refine wp_region_lit ?_
      refine wl_load (some 23) rfl (by rfl) 53 (.tmp 4) rfl g2 rfl 53 (opCells o) _ HN.out Try.underlying53 rfl (by kernel_rfl) ?_
      simp only [Act.put, stA_, st0_, st1_]
      go_wp2_with fail
      refine (HC.out _).mono ?_
      rintro e w3 ⟨rfl, hb3⟩
      have HX3 := Lib.hid (HX2.out.trans hb3)
      clear hb3
      by_cases hx : x = 0
      · subst hx
        have HI : RowKit.Hid (EdIn L W1 (k + 1) w3) := Lib.hid ⟨HX3.out, mayEs_next L k o HK.out hin.out.2 HX.out⟩
        go_wp2
        go_roundw
        case rel => exact ⟨k + 1, by omega, by go_num, HI⟩
        case measure => simp [intOf]; omega
      · have q : (x == 0) = false := by simpa using hx
        have q' : (x != 0) = true := by simpa using hx
        have HR9 : RowKit.Hid (mayEs L = x) := Lib.hid (by rw [mayEs_stop L k o HK.out hin.out.2 (by rw [HX.out]; exact hx), HX.out])
        clear hx
        go_wp2
        go_ret
        exact ⟨ret_int (by rw [HM.out, HR9.out]), HB.out.trans (HX3.out.mono HB.out.size)⟩
    · have HR9 : RowKit.Hid (mayEs L = 0) := Lib.hid (by have := hin.out.2; rwa [List.take_of_length_le (by omega)] at this)
      go_wp2
      go_ret
      exact ⟨ret_int (by rw [HM.out, HR9.out]), HB.out.trans (hin.out.1.mono HB.out.size)⟩
set_option maxRecDepth 100000 in
set_option maxHeartbeats 2000000 in
theorem rmayedit_any (A : Option Addr) (n c : Nat) (L : List OpT) (w : World) (h : RdS w w.heap.size 20 A n c (rowsV opCells L)) (hn : n ≤ maxLen) (ht : ∀ o ∈ L, o.t.size ≤ maxLen) :
    Calls Try.prog 44 #[.agg #[.slice A n c]] w fun e w' => e = .returned (.int .i64 (mayE L)) ∧ Below w.heap.size w w' := by
  have hl := h.rlen opCells_len' (by decide)
  unfold maxLen at hn
  have HT := Lib.hid ht
  clear ht
  by_cases h1 : n < 1
  · have hm : mayE L = 3 := by unfold mayE; rw [if_pos (by omega)]
    rw [hm]
    have q1 : decide ((n : Int) < 1) = true := decide_eq_true (by omega)
    clear hm hl h1
    go_enter Try.func44, Try.ntmps44
    go_wp2
    go_ret
    exact ⟨rfl, below1 _ _⟩
  have q1 : decide ((n : Int) < 1) = false := decide_eq_false (by omega)
  by_cases h6 : 6 < n
  · have hm : mayE L = 3 := by unfold mayE; rw [if_pos (by omega)]
    rw [hm]
    have q6 : decide ((6 : Int) < (n : Int)) = true := decide_eq_true (by omega)
    clear hm hl h1
    go_enter Try.func44, Try.ntmps44
    go_wp2
    go_ret
    exact ⟨rfl, below1 _ _⟩
  have q6 : decide ((6 : Int) < (n : Int)) = false := decide_eq_false (by omega)
  have hm : mayE L = mayEs L := by unfold mayE; rw [if_neg (by omega)]
  have HM := Lib.hid hm
  have HR := Lib.hid h
  obtain rfl := hl
  clear hm h
  go_enter Try.func44, Try.ntmps44
  go_wp2
  clear q1 q6
  obtain ⟨W1, gW1⟩ : ∃ x, w.alloc (.cells #[.slice A L.length c] 28) = x := ⟨_, rfl⟩
  have HB : RowKit.Hid (Below w.heap.size w W1) := Lib.hid (by rw [← gW1]; exact below1 _ _)
  have HRd : RowKit.Hid (RdS W1 W1.heap.size 20 A L.length c (rowsV opCells L)) := Lib.hid (by rw [← gW1]; exact HR.out.al _)
  have HE : RowKit.Hid (Whole W1 w.heap.size 28 [.slice A L.length c]) := Lib.hid (by rw [← gW1]; exact Whole.new_ w _ [_])
  rw [gW1]
  clear gW1
  obtain ⟨g0, gg0⟩ : ∃ x, w.heap.size = x := ⟨_, rfl⟩
  rw [gg0] at HE ⊢
  clear gg0
  go_loopw [3] (fun i wr => ∃ k : Nat, k ≤ L.length ∧ i = .int .i64 k ∧ RowKit.Hid (EdIn L W1 k wr)) (fun i _ => L.length - (intOf i).toNat)
  case atStart => exact ⟨0, Nat.zero_le _, rfl, Lib.hid ⟨Ext.refl _, rfl⟩⟩
  case round =>
    rename_i wr _
    obtain ⟨k, hk, rfl, hin⟩ := hrel
    have le := (HE.out.bl hin.out.1).cell (i := 0) rfl
    by_cases hlt : k < L.length
    · have hk0 : L[k]? = some (L[k]'(by omega)) := List.getElem?_eq_getElem _
      obtain ⟨o, go⟩ : ∃ o, L[k]'(by omega) = o := ⟨_, rfl⟩
      rw [go] at hk0
      have HK := Lib.hid hk0
      have HRd2 := Lib.hid (HRd.out.bl hin.out.1)
      obtain ⟨b, off, rfl, hbB, hpl⟩ := HRd2.out.place opCells_len' (by decide) (by omega)
      have HP := Lib.hid (hpl k o hk0)
      clear go hk0 hpl hbB
      obtain ⟨x, gx⟩ : ∃ x, mayO o = x := ⟨_, rfl⟩
      have HC := Lib.hid (rmayop_any o (HT.out o (List.mem_of_getElem? HK.out)))
      rw [gx] at HC
      have HX := Lib.hid gx
      clear gx
      go_upto_region 6 with fail
      refine wp_region_lit ?_
      refine wl_read (v := ?_) (some 22) rfl (by rfl) ?_ ?_
      rotate_left
      · go_simp; (try with_reducible rfl)
      simp only [Act.put, stA_, st0_, st1_]
      refine wl_read (v := ?_) (some 23) rfl (by rfl) ?_ ?_
      rotate_left
      · go_simp; (try with_reducible rfl)
      simp only [Act.put, stA_, st0_, st1_]
      refine wl_read (v := ?_) (some 24) rfl (by rfl) ?_ ?_
      rotate_left
      · go_simp; (try with_reducible rfl)
      simp only [Act.put, stA_, st0_, st1_]
      refine wl_read (v := ?_) (some 25) rfl (by rfl) ?_ ?_
      rotate_left
      · go_simp; (try with_reducible rfl)
      simp only [Act.put, stA_, st0_, st1_]
      refine wl_load_at (some 26) rfl (by rfl) 53 (.tmp 25) rfl ⟨b, off + k * 20, none⟩ rfl (opCells o) _ HP.out Try.underlying53 rfl (by kernel_rfl) ?_
      simp only [Act.put, stA_, st0_, st1_]
      have HX2 := Lib.hid hin.out.1
      go_wp2_with fail
      refine (HC.out _).mono ?_
      rintro e w3 ⟨rfl, hb3⟩
      have HX3 := Lib.hid (HX2.out.trans hb3)
      clear hb3
      by_cases hx : x = 0
      · subst hx
        have HI : RowKit.Hid (EdIn L W1 (k + 1) w3) := Lib.hid ⟨HX3.out, mayEs_next L k o HK.out hin.out.2 HX.out⟩
        go_wp2
        go_roundw
        case rel => exact ⟨k + 1, by omega, by go_num, HI⟩
        case measure => simp [intOf]; omega
      · have q : (x == 0) = false := by simpa using hx
        have q' : (x != 0) = true := by simpa using hx
        have HR9 : RowKit.Hid (mayEs L = x) := Lib.hid (by rw [mayEs_stop L k o HK.out hin.out.2 (by rw [HX.out]; exact hx), HX.out])
        clear hx
        go_wp2
        go_ret
        exact ⟨ret_int (by rw [HM.out, HR9.out]), HB.out.trans (HX3.out.mono HB.out.size)⟩
    · have HR9 : RowKit.Hid (mayEs L = 0) := Lib.hid (by have := hin.out.2; rwa [List.take_of_length_le (by omega)] at this)
      go_wp2
      go_ret
      exact ⟨ret_int (by rw [HM.out, HR9.out]), HB.out.trans (hin.out.1.mono HB.out.size)⟩
end Go.Proofs.Ytinfbaflkjghhaa
/- Edits as bytes, and what bytes are read as: numbers alone. -/
namespace Go.Proofs.Ytinfbaflkjghhaa
open Go.RowKit
/-- A flag's byte. -/
def fl (e : Bool) : Nat := if e then 1 else 0
abbrev C5 := Int × Int × Int × Int × Int
/-- A corner's bytes. -/
def crB (c : C5) : List Nat := idB (c.1, c.2.1) ++ (if c.2.2.1 = 0 ∧ c.2.2.2.1 = 0 ∧ c.2.2.2.2 = 0 then [0] else ((1 + c.2.2.2.2) % 256).toNat :: idB (c.2.2.1, c.2.2.2.1))
def OpT.ca (o : OpT) : C5 := (o.a0, o.a1, o.a2, o.a3, o.a4)
def OpT.cb (o : OpT) : C5 := (o.b0, o.b1, o.b2, o.b3, o.b4)
/-- What an operation has beside its kind and its name. -/
def fdB (o : OpT) : List Nat :=
  if o.k = 3 then crB o.ca ++ crB o.cb
  else if o.k = 5 then idB (o.s1, o.n1) ++ (idB (o.s2, o.n2) ++ [(o.m % 256).toNat])
  else if o.k = 6 then idB (o.s2, o.n2)
  else if o.k = 7 then fl o.e :: textB o.t
  else if o.k = 8 then fl o.e :: be8 o.m
  else []
def opB (o : OpT) : List Nat := (o.k % 256).toNat :: (idB (o.s, o.n) ++ fdB o)
/-- An edit's bytes. -/
def edB (L : List OpT) : List Nat := L.length % 256 :: L.flatMap opB
/-- A name as it is read, and what is left. -/
def vI (L : List Nat) : Int × Int := if 4 ≤ L.length then tk4 L else (0, 0)
def lI (L : List Nat) : List Nat := if 4 ≤ L.length then L.drop 4 else L
def crV (L : List Nat) : C5 := if 0 < c1 (lI L) then ((vI L).1, (vI L).2, (vI ((lI L).drop 1)).1, (vI ((lI L).drop 1)).2, (c1 (lI L) : Int) - 1) else ((vI L).1, (vI L).2, 0, 0, 0)
def crL (L : List Nat) : List Nat := if 0 < c1 (lI L) then lI ((lI L).drop 1) else (lI L).drop 1
def vM (L : List Nat) : Int := if 8 ≤ L.length then num8 (L.take 8) else 0
def lM (L : List Nat) : List Nat := if 8 ≤ L.length then L.drop 8 else L
/-- An operation as it is read behind its kind and its name. -/
def fdV (k : Nat) (x : Int × Int) (M : List Nat) : OpT :=
  if k = 3 then ⟨3, x.1, x.2, 0, 0, 0, 0, (crV M).1, (crV M).2.1, (crV M).2.2.1, (crV M).2.2.2.1, (crV M).2.2.2.2, (crV (crL M)).1, (crV (crL M)).2.1, (crV (crL M)).2.2.1, (crV (crL M)).2.2.2.1, (crV (crL M)).2.2.2.2, false, ⟨#[]⟩, 0⟩
  else if k = 5 then ⟨5, x.1, x.2, (vI M).1, (vI M).2, (vI (lI M)).1, (vI (lI M)).2, 0, 0, 0, 0, 0, 0, 0, 0, 0, 0, false, ⟨#[]⟩, (c1 (lI (lI M)) : Int)⟩
  else if k = 6 then ⟨6, x.1, x.2, 0, 0, (vI M).1, (vI M).2, 0, 0, 0, 0, 0, 0, 0, 0, 0, 0, false, ⟨#[]⟩, 0⟩
  else if k = 7 then ⟨7, x.1, x.2, 0, 0, 0, 0, 0, 0, 0, 0, 0, 0, 0, 0, 0, 0, decide (c1 M ≠ 0), txT (M.drop 1), 0⟩
  else if k = 8 then ⟨8, x.1, x.2, 0, 0, 0, 0, 0, 0, 0, 0, 0, 0, 0, 0, 0, 0, decide (c1 M ≠ 0), ⟨#[]⟩, vM (M.drop 1)⟩
  else ⟨(k : Int), x.1, x.2, 0, 0, 0, 0, 0, 0, 0, 0, 0, 0, 0, 0, 0, 0, false, ⟨#[]⟩, 0⟩
def fdL (k : Nat) (M : List Nat) : List Nat :=
  if k = 3 then crL (crL M)
  else if k = 5 then (lI (lI M)).drop 1
  else if k = 6 then lI M
  else if k = 7 then leT (M.drop 1)
  else if k = 8 then lM (M.drop 1)
  else M
def opV (L : List Nat) : OpT := fdV (c1 L) (vI (L.drop 1)) (lI (L.drop 1))
def opL (L : List Nat) : List Nat := fdL (c1 L) (lI (L.drop 1))
def edV : Nat → List Nat → List OpT
  | 0, _ => []
  | n + 1, L => opV L :: edV n (opL L)
def edL : Nat → List Nat → List Nat
  | 0, L => L
  | n + 1, L => edL n (opL L)
/-- Whether what is read stands there. -/
def okC (L : List Nat) : Bool := idT L && (decide (1 ≤ (L.drop 4).length) && (decide (c1 (L.drop 4) ≤ 2) && (decide (c1 (L.drop 4) = 0) || idT ((L.drop 4).drop 1))))
def okF (L : List Nat) : Bool := decide (1 ≤ L.length) && decide (c1 L ≤ 1)
def okFd (k : Nat) (M : List Nat) : Bool :=
  if k = 3 then okC M && okC (crL M)
  else if k = 5 then idT M && (idT (M.drop 4) && decide (1 ≤ ((M.drop 4).drop 4).length))
  else if k = 6 then idT M
  else if k = 7 then okF M && isT (M.drop 1)
  else if k = 8 then okF M && decide (8 ≤ (M.drop 1).length)
  else true
def okO (L : List Nat) : Bool := decide (1 ≤ L.length) && (idT (L.drop 1) && okFd (c1 L) ((L.drop 1).drop 4))
def okN : Nat → List Nat → Bool
  | 0, _ => true
  | n + 1, L => okO L && okN n (opL L)
theorem idT_vI {L : List Nat} (h : idT L = true) : vI L = nm4 L ∧ lI L = L.drop 4 := by
  obtain ⟨h1, h2⟩ := of_decide_eq_true h
  unfold vI lI tk4
  rw [if_pos h1, if_pos h1, if_pos h2]
  exact ⟨rfl, rfl⟩
theorem idT_B {x : Int × Int} (R : List Nat) (h : mayI x.1 x.2 = true) : idT (idB x ++ R) = true ∧ vI (idB x ++ R) = x ∧ lI (idB x ++ R) = R := by
  have h1 : 4 ≤ (idB x ++ R).length := by simp [idB]
  have ht : tk4 (idB x ++ R) = x := tk4_idB h
  have hn : nm4 (idB x ++ R) = nm4 (idB x) := rfl
  have h2 : nm4 (idB x) = x := by
    have := tk4_idB h
    unfold tk4 at this
    by_cases hq : mayI (nm4 (idB x)).1 (nm4 (idB x)).2 = true
    · rwa [if_pos hq] at this
    · rw [if_neg hq] at this
      rw [← this] at h
      exact absurd h (by decide)
  refine ⟨decide_eq_true ⟨h1, by rw [hn, h2]; exact h⟩, ?_, ?_⟩
  · unfold vI; rw [if_pos h1, ht]
  · unfold lI; rw [if_pos h1, drop_app (A := idB x) (n := 4) rfl]
/-- Four bytes that are a name are those that it is laid down as. -/
theorem idB_nm4 {L : List Nat} (hb : ∀ b ∈ L, b < 256) (h : 4 ≤ L.length) : idB (nm4 L) ++ L.drop 4 = L := by
  match L, h with
  | a :: b :: c :: d :: K, _ =>
    have := hb a (by simp); have := hb b (by simp); have := hb c (by simp); have := hb d (by simp)
    simp only [idB, nm4, List.getD_cons_zero, List.getD_cons_succ, List.drop_succ_cons, List.drop_zero, List.cons_append, List.nil_append, List.cons.injEq, and_true]
    omega
theorem c1_cons {L : List Nat} (h : 1 ≤ L.length) : c1 L :: L.drop 1 = L := by
  cases L with
  | nil => simp at h
  | cons a l => rfl
theorem drop_lt {L : List Nat} (h : ∀ b ∈ L, b < 256) (n : Nat) : ∀ b ∈ L.drop n, b < 256 := fun b hb => h b (List.mem_of_mem_drop hb)
theorem lI_lt {L : List Nat} (h : ∀ b ∈ L, b < 256) : ∀ b ∈ lI L, b < 256 := by
  unfold lI; split
  · exact drop_lt h 4
  · exact h
theorem crL_lt {L : List Nat} (h : ∀ b ∈ L, b < 256) : ∀ b ∈ crL L, b < 256 := by
  unfold crL; split
  · exact lI_lt (drop_lt (lI_lt h) 1)
  · exact drop_lt (lI_lt h) 1
theorem leT_lt {L : List Nat} (h : ∀ b ∈ L, b < 256) : ∀ b ∈ leT L, b < 256 := by
  unfold leT; split
  · exact drop_lt h _
  · exact h
theorem lM_lt {L : List Nat} (h : ∀ b ∈ L, b < 256) : ∀ b ∈ lM L, b < 256 := by
  unfold lM; split
  · exact drop_lt h _
  · exact h
theorem fdL_lt {L : List Nat} (k : Nat) (h : ∀ b ∈ L, b < 256) : ∀ b ∈ fdL k L, b < 256 := by
  unfold fdL
  split
  · exact crL_lt (crL_lt h)
  split
  · exact drop_lt (lI_lt (lI_lt h)) 1
  split
  · exact lI_lt h
  split
  · exact leT_lt (drop_lt h 1)
  split
  · exact lM_lt (drop_lt h 1)
  · exact h
theorem opL_lt {L : List Nat} (h : ∀ b ∈ L, b < 256) : ∀ b ∈ opL L, b < 256 := fdL_lt _ (lI_lt (drop_lt h 1))
/-- A corner that is there is laid down as it stands. -/
theorem okC_B {L : List Nat} (hb : ∀ b ∈ L, b < 256) (h : okC L = true) : crB (crV L) ++ crL L = L := by
  unfold okC at h
  simp only [Bool.and_eq_true, Bool.or_eq_true, decide_eq_true_eq] at h
  obtain ⟨h1, h2, h3, h4⟩ := h
  have hi := idT_vI h1
  have h5 := of_decide_eq_true h1
  have hc := c1_cons h2
  have e1 := idB_nm4 hb h5.1
  unfold crV crL
  rw [hi.1, hi.2]
  by_cases hz : c1 (L.drop 4) = 0
  · rw [if_neg (by omega), if_neg (by omega)]
    unfold crB
    rw [if_pos ⟨rfl, rfl, rfl⟩]
    rw [hz] at hc
    rw [List.append_assoc, List.singleton_append, hc]
    exact e1
  · rw [if_pos (by omega), if_pos (by omega)]
    have h6 := h4.resolve_left hz
    have hj := idT_vI h6
    have h7 := of_decide_eq_true h6
    have e2 := idB_nm4 (drop_lt (drop_lt hb 4) 1) h7.1
    rw [hj.1, hj.2]
    unfold crB
    have h8 : 1 ≤ (nm4 ((L.drop 4).drop 1)).1 := (of_decide_eq_true (show decide (_ ∧ _) = true from h7.2)).1
    rw [if_neg (fun q => by have := q.1; simp only at this; omega)]
    simp only
    rw [show ((1 + ((c1 (L.drop 4) : Int) - 1)) % 256).toNat = c1 (L.drop 4) by omega]
    rw [List.append_assoc, List.cons_append, e2, hc]
    exact e1
theorem txT_B {L : List Nat} (hb : ∀ b ∈ L, b < 256) (h : isT L = true) : textB (txT L) ++ leT L = L := by
  obtain ⟨h1, h2⟩ := of_decide_eq_true h
  have hc := byte_lt hb
  unfold txT leT textB
  rw [if_pos h, if_pos h, txt_size, List.length_take, List.length_drop, Nat.min_eq_left (by omega), Nat.mod_eq_of_lt hc]
  have e : tB (txt ((L.drop 1).take (c1 L))) = (L.drop 1).take (c1 L) := by
    rw [tB, txt_list, List.map_map]
    conv => rhs; rw [← List.map_id ((L.drop 1).take (c1 L))]
    refine List.map_congr_left fun b hb' => ?_
    have := hb b (List.mem_of_mem_drop (List.mem_of_mem_take hb'))
    simp [UInt8.toNat_ofNat']
    omega
  rw [e, ← List.drop_drop, List.append_assoc, List.take_append_drop]
  rw [List.singleton_append]
  exact c1_cons h1
theorem beN_deN_rev : ∀ (K : List Nat), (∀ b ∈ K, b < 256) → beN K.length (deN K.reverse) = K.reverse
  | [], _ => rfl
  | a :: K, hm => by
    have ha := hm a (by simp)
    rw [List.reverse_cons, List.length_cons, deN_snoc, beN, show (deN K.reverse * 256 + a) / 256 = deN K.reverse by omega, show (deN K.reverse * 256 + a) % 256 = a by omega, beN_deN_rev K (fun b hb => hm b (by simp [hb]))]
theorem beN_deN (M : List Nat) (h : ∀ b ∈ M, b < 256) : beN M.length (deN M) = M := by
  have := beN_deN_rev M.reverse (fun b hb => h b (List.mem_reverse.1 hb))
  rwa [List.length_reverse, List.reverse_reverse] at this
theorem num8_B {L : List Nat} (hb : ∀ b ∈ L, b < 256) (h : 8 ≤ L.length) : be8 (num8 (L.take 8)) ++ L.drop 8 = L := by
  have hl : (L.take 8).length = 8 := by rw [List.length_take]; omega
  have hk := beN_deN (L.take 8) (fun b hb' => hb b (List.mem_of_mem_take hb'))
  have hlt := deN_lt hb 8 h
  rw [hl] at hk
  have e : u64 (num8 (L.take 8)) = deN (L.take 8) := by
    unfold num8 u64
    rw [IntKind.wrap_i64]
    omega
  unfold be8
  rw [e, hk, List.take_append_drop]
theorem fdB3 {o : OpT} (h : o.k = 3) : fdB o = crB o.ca ++ crB o.cb := by unfold fdB; rw [if_pos h]
theorem fdB5 {o : OpT} (h : o.k = 5) : fdB o = idB (o.s1, o.n1) ++ (idB (o.s2, o.n2) ++ [(o.m % 256).toNat]) := by unfold fdB; rw [if_neg (by omega), if_pos h]
theorem fdB6 {o : OpT} (h : o.k = 6) : fdB o = idB (o.s2, o.n2) := by unfold fdB; rw [if_neg (by omega), if_neg (by omega), if_pos h]
theorem fdB7 {o : OpT} (h : o.k = 7) : fdB o = fl o.e :: textB o.t := by unfold fdB; rw [if_neg (by omega), if_neg (by omega), if_neg (by omega), if_pos h]
theorem fdB8 {o : OpT} (h : o.k = 8) : fdB o = fl o.e :: be8 o.m := by unfold fdB; rw [if_neg (by omega), if_neg (by omega), if_neg (by omega), if_neg (by omega), if_pos h]
theorem fdB0 {o : OpT} (k3 : o.k ≠ 3) (k5 : o.k ≠ 5) (k6 : o.k ≠ 6) (k7 : o.k ≠ 7) (k8 : o.k ≠ 8) : fdB o = [] := by unfold fdB; rw [if_neg k3, if_neg k5, if_neg k6, if_neg k7, if_neg k8]
theorem fl_of {c : Nat} (hc : c ≤ 1) : fl (decide (c ≠ 0)) = c := by
  rcases (by omega : c = 0 ∨ c = 1) with rfl | rfl <;> rfl
theorem okFd_B {k : Nat} {x : Int × Int} {M : List Nat} (hb : ∀ b ∈ M, b < 256) (h : okFd k M = true) : fdB (fdV k x M) ++ fdL k M = M := by
  unfold okFd at h
  unfold fdV fdL
  by_cases k3 : k = 3
  · rw [if_pos k3] at h
    rw [if_pos k3, if_pos k3]
    have h9 := Bool.and_eq_true_iff.1 h
    rw [fdB3 rfl]
    show (crB (crV M) ++ crB (crV (crL M))) ++ crL (crL M) = M
    rw [List.append_assoc, okC_B (crL_lt hb) h9.2, okC_B hb h9.1]
  rw [if_neg k3] at h
  rw [if_neg k3, if_neg k3]
  by_cases k5 : k = 5
  · rw [if_pos k5] at h
    rw [if_pos k5, if_pos k5]
    simp only [Bool.and_eq_true, decide_eq_true_eq] at h
    obtain ⟨h1, h2, h3⟩ := h
    have i1 := idT_vI h1
    rw [i1.1, i1.2]
    have i2 := idT_vI h2
    rw [i2.1, i2.2]
    have e1 := idB_nm4 hb (of_decide_eq_true h1).1
    have e2 := idB_nm4 (drop_lt hb 4) (of_decide_eq_true h2).1
    have hc := byte_lt (drop_lt (drop_lt hb 4) 4)
    rw [fdB5 rfl]
    show (idB (nm4 M) ++ (idB (nm4 (M.drop 4)) ++ [(((c1 ((M.drop 4).drop 4) : Nat) : Int) % 256).toNat])) ++ ((M.drop 4).drop 4).drop 1 = M
    rw [show (((c1 ((M.drop 4).drop 4) : Nat) : Int) % 256).toNat = c1 ((M.drop 4).drop 4) by omega]
    rw [List.append_assoc, List.append_assoc, List.singleton_append, c1_cons h3, e2, e1]
  rw [if_neg k5] at h
  rw [if_neg k5, if_neg k5]
  by_cases k6 : k = 6
  · rw [if_pos k6] at h
    rw [if_pos k6, if_pos k6]
    have i1 := idT_vI h
    rw [i1.1, i1.2, fdB6 rfl]
    exact idB_nm4 hb (of_decide_eq_true h).1
  rw [if_neg k6] at h
  rw [if_neg k6, if_neg k6]
  by_cases k7 : k = 7
  · rw [if_pos k7] at h
    rw [if_pos k7, if_pos k7]
    simp only [okF, Bool.and_eq_true, decide_eq_true_eq] at h
    obtain ⟨⟨h1, h2⟩, h3⟩ := h
    rw [fdB7 rfl]
    show (fl (decide (c1 M ≠ 0)) :: textB (txT (M.drop 1))) ++ leT (M.drop 1) = M
    rw [fl_of h2, List.cons_append, txT_B (drop_lt hb 1) h3, c1_cons h1]
  rw [if_neg k7] at h
  rw [if_neg k7, if_neg k7]
  by_cases k8 : k = 8
  · rw [if_pos k8] at h
    rw [if_pos k8, if_pos k8]
    simp only [okF, Bool.and_eq_true, decide_eq_true_eq] at h
    obtain ⟨⟨h1, h2⟩, h3⟩ := h
    rw [fdB8 rfl]
    show (fl (decide (c1 M ≠ 0)) :: be8 (vM (M.drop 1))) ++ lM (M.drop 1) = M
    unfold vM lM
    rw [if_pos h3, if_pos h3, fl_of h2, List.cons_append, num8_B (drop_lt hb 1) h3, c1_cons h1]
  rw [if_neg k8, if_neg k8]
  rw [fdB0 (by show (k : Int) ≠ 3; omega) (by show (k : Int) ≠ 5; omega) (by show (k : Int) ≠ 6; omega) (by show (k : Int) ≠ 7; omega) (by show (k : Int) ≠ 8; omega), List.nil_append]
theorem fdV_head (k : Nat) (x : Int × Int) (M : List Nat) : (fdV k x M).k = (k : Int) ∧ (fdV k x M).s = x.1 ∧ (fdV k x M).n = x.2 := by
  unfold fdV
  by_cases k3 : k = 3
  · rw [if_pos k3]; subst k3; exact ⟨rfl, rfl, rfl⟩
  rw [if_neg k3]
  by_cases k5 : k = 5
  · rw [if_pos k5]; subst k5; exact ⟨rfl, rfl, rfl⟩
  rw [if_neg k5]
  by_cases k6 : k = 6
  · rw [if_pos k6]; subst k6; exact ⟨rfl, rfl, rfl⟩
  rw [if_neg k6]
  by_cases k7 : k = 7
  · rw [if_pos k7]; subst k7; exact ⟨rfl, rfl, rfl⟩
  rw [if_neg k7]
  by_cases k8 : k = 8
  · rw [if_pos k8]; subst k8; exact ⟨rfl, rfl, rfl⟩
  rw [if_neg k8]
  exact ⟨rfl, rfl, rfl⟩
theorem okO_B {L : List Nat} (hb : ∀ b ∈ L, b < 256) (h : okO L = true) : opB (opV L) ++ opL L = L := by
  unfold okO at h
  simp only [Bool.and_eq_true, decide_eq_true_eq] at h
  obtain ⟨h1, h2, h3⟩ := h
  have i := idT_vI h2
  unfold opV opL opB
  rw [i.1, i.2]
  have hh := fdV_head (c1 L) (nm4 (L.drop 1)) ((L.drop 1).drop 4)
  rw [hh.1, hh.2.1, hh.2.2]
  have hc := byte_lt hb
  rw [show ((c1 L : Int) % 256).toNat = c1 L by omega, List.cons_append, List.append_assoc, okFd_B (drop_lt (drop_lt hb 1) 4) h3]
  show c1 L :: (idB (nm4 (L.drop 1)) ++ _) = L
  rw [idB_nm4 (drop_lt hb 1) (of_decide_eq_true h2).1]
  exact c1_cons h1
theorem okN_B : ∀ (n : Nat) {L : List Nat}, (∀ b ∈ L, b < 256) → okN n L = true → (edV n L).flatMap opB ++ edL n L = L
  | 0, L, _, _ => rfl
  | n + 1, L, hb, h => by
    have h9 := Bool.and_eq_true_iff.1 h
    show (opV L :: edV n (opL L)).flatMap opB ++ edL n (opL L) = L
    rw [List.flatMap_cons, List.append_assoc, okN_B n (opL_lt hb) h9.2, okO_B hb h9.1]
theorem edV_len : ∀ (n : Nat) (L : List Nat), (edV n L).length = n
  | 0, _ => rfl
  | n + 1, L => by show (edV n (opL L)).length + 1 = n + 1; rw [edV_len n]
/-- A corner that may be is read as it was laid down. -/
theorem crB_ok {c : C5} (R : List Nat) (h : mayC c.1 c.2.1 c.2.2.1 c.2.2.2.1 c.2.2.2.2 = true) : okC (crB c ++ R) = true ∧ crV (crB c ++ R) = c ∧ crL (crB c ++ R) = R := by
  obtain ⟨c0, c1', c2, c3, c4⟩ := c
  unfold mayC at h
  simp only [Bool.and_eq_true, Bool.or_eq_true, decide_eq_true_eq] at h
  obtain ⟨h1, h2⟩ := h
  unfold crB
  simp only
  rw [List.append_assoc]
  obtain ⟨X, gX⟩ : ∃ X, (if c2 = 0 ∧ c3 = 0 ∧ c4 = 0 then [0] else ((1 + c4) % 256).toNat :: idB (c2, c3)) ++ R = X := ⟨_, rfl⟩
  rw [gX]
  obtain ⟨i1, i2, i3⟩ := idT_B (x := (c0, c1')) X h1
  have d4 : (idB (c0, c1') ++ X).drop 4 = X := drop_app (A := idB (c0, c1')) (n := 4) rfl
  unfold okC crV crL
  rw [i1, i2, i3, d4]
  by_cases hz : c2 = 0 ∧ c3 = 0 ∧ c4 = 0
  · rw [if_pos hz] at gX
    subst gX
    obtain ⟨rfl, rfl, rfl⟩ := hz
    refine ⟨rfl, rfl, rfl⟩
  · rw [if_neg hz, List.cons_append] at gX
    subst gX
    have hd := h2.resolve_left hz
    unfold mayD at hd
    simp only [Bool.and_eq_true, Bool.or_eq_true, decide_eq_true_eq] at hd
    obtain ⟨j1, j2, j3⟩ := idT_B (x := (c2, c3)) R hd.1
    have hc : c1 (((1 + c4) % 256).toNat :: (idB (c2, c3) ++ R)) = ((1 + c4) % 256).toNat := rfl
    have hdr : (((1 + c4) % 256).toNat :: (idB (c2, c3) ++ R)).drop 1 = idB (c2, c3) ++ R := rfl
    rw [hc, hdr, j1, j2, j3]
    have hq := hd.2
    rw [if_pos (by omega), if_pos (by omega)]
    refine ⟨?_, ?_, rfl⟩
    · simp only [Bool.true_and, Bool.and_eq_true, Bool.or_true, decide_eq_true_eq, and_true]
      exact ⟨by simp, by omega⟩
    · simp only [Prod.mk.injEq, true_and]
      omega
theorem tB_take {s : ByteArray} (R : List Nat) (hs : s.size < 256) : isT (textB s ++ R) = true ∧ txT (textB s ++ R) = s ∧ leT (textB s ++ R) = R := by
  have e : textB s ++ R = s.size :: (tB s ++ R) := by rw [textB, Nat.mod_eq_of_lt hs]; rfl
  rw [e]
  have hc : c1 (s.size :: (tB s ++ R)) = s.size := rfl
  have hl := tB_len s
  have h1 : isT (s.size :: (tB s ++ R)) = true := decide_eq_true ⟨by simp, by rw [hc]; simp [hl]; omega⟩
  refine ⟨h1, ?_, ?_⟩
  · unfold txT
    rw [if_pos h1, hc, List.drop_succ_cons, List.drop_zero, List.take_append_of_le_length (by omega), List.take_of_length_le (by omega), txt_tB]
  · unfold leT
    rw [if_pos h1, hc, Nat.add_comm, List.drop_succ_cons, drop_app hl]
theorem fdB_ok {o : OpT} (R : List Nat) (h : mayO o = 0) : okFd o.k.toNat (fdB o ++ R) = true ∧ fdV o.k.toNat (o.s, o.n) (fdB o ++ R) = o ∧ fdL o.k.toNat (fdB o ++ R) = R := by
  unfold mayO at h
  by_cases hh : mayI o.s o.n = true ∧ fitsO o = true ∧ o = onlyO o
  case neg => rw [if_neg hh] at h; exact absurd h (by decide)
  rw [if_pos hh] at h
  by_cases ht : mayL o.t = true
  case neg => rw [if_neg ht] at h; exact absurd h (by decide)
  obtain ⟨h1, h2, h3⟩ := hh
  have hts : o.t.size ≤ 16 := by
    unfold mayL at ht
    exact of_decide_eq_true (Bool.and_eq_true_iff.1 ht).1
  clear h ht h1
  unfold fitsO at h2
  unfold onlyO at h3
  unfold okFd fdV fdL
  by_cases k3 : o.k = 3
  · rw [fdB3 k3]
    rw [if_neg (by omega), if_pos k3] at h2
    rw [if_pos k3] at h3
    obtain ⟨q1, q2⟩ := Bool.and_eq_true_iff.1 h2
    obtain ⟨A1, A2, A3⟩ := crB_ok (c := o.ca) (crB o.cb ++ R) q1
    obtain ⟨B1, B2, B3⟩ := crB_ok (c := o.cb) R q2
    have e : o.k.toNat = 3 := by omega
    rw [List.append_assoc, if_pos e, if_pos e, if_pos e, A1, A2, A3, B1, B2, B3]
    refine ⟨rfl, Eq.trans ?_ h3.symm, rfl⟩
    rw [k3]
    rfl
  rw [if_neg k3] at h3
  have e3 : o.k.toNat ≠ 3 := by omega
  rw [if_neg e3, if_neg e3, if_neg e3]
  by_cases k5 : o.k = 5
  · rw [fdB5 k5]
    rw [if_neg (by omega), if_neg k3, if_pos k5] at h2
    rw [if_pos k5] at h3
    simp only [Bool.and_eq_true, decide_eq_true_eq] at h2
    obtain ⟨⟨q1, q2⟩, q3⟩ := h2
    obtain ⟨A1, A2, A3⟩ := idT_B (x := (o.s1, o.n1)) (idB (o.s2, o.n2) ++ ([(o.m % 256).toNat] ++ R)) q1
    obtain ⟨B1, B2, B3⟩ := idT_B (x := (o.s2, o.n2)) ([(o.m % 256).toNat] ++ R) q2
    have d1 : (idB (o.s1, o.n1) ++ (idB (o.s2, o.n2) ++ ([(o.m % 256).toNat] ++ R))).drop 4 = idB (o.s2, o.n2) ++ ([(o.m % 256).toNat] ++ R) := drop_app (A := idB (o.s1, o.n1)) (n := 4) rfl
    have d2 : (idB (o.s2, o.n2) ++ ([(o.m % 256).toNat] ++ R)).drop 4 = [(o.m % 256).toNat] ++ R := drop_app (A := idB (o.s2, o.n2)) (n := 4) rfl
    have e : o.k.toNat = 5 := by omega
    have hc : c1 ([(o.m % 256).toNat] ++ R) = (o.m % 256).toNat := rfl
    have hm : (((o.m % 256).toNat : Nat) : Int) = o.m := by omega
    rw [List.append_assoc, List.append_assoc, if_pos e, if_pos e, if_pos e, A1, A2, A3, d1, B1, B2, B3, d2, hc, hm]
    refine ⟨by simp, Eq.trans ?_ h3.symm, rfl⟩
    rw [k5]
  rw [if_neg k5] at h3
  have e5 : o.k.toNat ≠ 5 := by omega
  rw [if_neg e5, if_neg e5, if_neg e5]
  by_cases k6 : o.k = 6
  · rw [fdB6 k6]
    rw [if_neg (by omega), if_neg k3, if_neg k5, if_pos k6] at h2
    rw [if_pos k6] at h3
    obtain ⟨A1, A2, A3⟩ := idT_B (x := (o.s2, o.n2)) R h2
    have e : o.k.toNat = 6 := by omega
    rw [if_pos e, if_pos e, if_pos e, A1, A2, A3]
    refine ⟨rfl, Eq.trans ?_ h3.symm, rfl⟩
    rw [k6]
  rw [if_neg k6] at h3
  have e6 : o.k.toNat ≠ 6 := by omega
  rw [if_neg e6, if_neg e6, if_neg e6]
  have hfl : ∀ b : Bool, fl b ≤ 1 ∧ decide (fl b ≠ 0) = b := fun b => by cases b <;> exact ⟨by decide, rfl⟩
  by_cases k7 : o.k = 7
  · rw [fdB7 k7]
    rw [if_pos k7] at h3
    obtain ⟨A1, A2, A3⟩ := tB_take (s := o.t) R (by omega)
    have e : o.k.toNat = 7 := by omega
    have hd : (fl o.e :: textB o.t ++ R).drop 1 = textB o.t ++ R := rfl
    have hc : c1 (fl o.e :: textB o.t ++ R) = fl o.e := rfl
    rw [if_pos e, if_pos e, if_pos e, hd, A1, A2, A3, hc, (hfl o.e).2]
    refine ⟨?_, Eq.trans ?_ h3.symm, rfl⟩
    · unfold okF
      rw [hc, decide_eq_true (hfl o.e).1, decide_eq_true (by simp)]
      rfl
    · rw [k7]
  rw [if_neg k7] at h3
  have e7 : o.k.toNat ≠ 7 := by omega
  rw [if_neg e7, if_neg e7, if_neg e7]
  by_cases k8 : o.k = 8
  · rw [fdB8 k8]
    rw [if_neg (by omega), if_neg k3, if_neg k5, if_neg k6, if_pos k8] at h2
    rw [if_pos k8] at h3
    have hm := of_decide_eq_true (show decide (_ ∧ _) = true from h2)
    have e : o.k.toNat = 8 := by omega
    have hd : (fl o.e :: be8 o.m ++ R).drop 1 = be8 o.m ++ R := rfl
    have hc : c1 (fl o.e :: be8 o.m ++ R) = fl o.e := rfl
    have hl : 8 ≤ (be8 o.m ++ R).length := by rw [List.length_append, be8_len]; omega
    have hv : vM (be8 o.m ++ R) = o.m := by
      unfold vM
      rw [if_pos hl, List.take_append_of_le_length (by rw [be8_len]; omega), List.take_of_length_le (by rw [be8_len]; omega), num8_be8 _ ⟨by omega, by omega⟩]
    have hr : lM (be8 o.m ++ R) = R := by
      unfold lM
      rw [if_pos hl, drop_app (be8_len _)]
    rw [if_pos e, if_pos e, if_pos e, hd, hv, hr, hc, (hfl o.e).2]
    refine ⟨?_, Eq.trans ?_ h3.symm, rfl⟩
    · unfold okF
      rw [hc, decide_eq_true (hfl o.e).1, decide_eq_true hl, decide_eq_true (by simp)]
      rfl
    · rw [k8]
  rw [if_neg k8] at h3
  have e8 : o.k.toNat ≠ 8 := by omega
  have hk : 1 ≤ o.k ∧ o.k ≤ 7 := by
    by_cases hq : o.k = 1 ∨ o.k = 2 ∨ o.k = 4 ∨ o.k = 7
    · omega
    · rw [if_neg hq, if_neg k3, if_neg k5, if_neg k6, if_neg k8] at h2
      cases h2
  rw [if_neg e8, if_neg e8, if_neg e8, fdB0 k3 k5 k6 k7 k8, List.nil_append]
  refine ⟨rfl, Eq.trans ?_ h3.symm, rfl⟩
  rw [show ((o.k.toNat : Nat) : Int) = o.k by omega]
theorem mayO_head {o : OpT} (h : mayO o = 0) : mayI o.s o.n = true ∧ 1 ≤ o.k ∧ o.k ≤ 8 ∧ o.t.size ≤ 16 := by
  unfold mayO at h
  by_cases hh : mayI o.s o.n = true ∧ fitsO o = true ∧ o = onlyO o
  case neg => rw [if_neg hh] at h; exact absurd h (by decide)
  rw [if_pos hh] at h
  by_cases ht : mayL o.t = true
  case neg => rw [if_neg ht] at h; exact absurd h (by decide)
  have h2 := hh.2.1
  refine ⟨hh.1, ?_⟩
  have hts : o.t.size ≤ 16 := by
    unfold mayL at ht
    exact of_decide_eq_true (Bool.and_eq_true_iff.1 ht).1
  unfold fitsO at h2
  by_cases hq : o.k = 1 ∨ o.k = 2 ∨ o.k = 4 ∨ o.k = 7
  · omega
  rw [if_neg hq] at h2
  by_cases k3 : o.k = 3
  · omega
  rw [if_neg k3] at h2
  by_cases k5 : o.k = 5
  · omega
  rw [if_neg k5] at h2
  by_cases k6 : o.k = 6
  · omega
  rw [if_neg k6] at h2
  by_cases k8 : o.k = 8
  · omega
  rw [if_neg k8] at h2
  cases h2
/-- An operation that may be is read as it was laid down. -/
theorem opB_ok {o : OpT} (R : List Nat) (h : mayO o = 0) : okO (opB o ++ R) = true ∧ opV (opB o ++ R) = o ∧ opL (opB o ++ R) = R := by
  obtain ⟨h1, h2, h3, -⟩ := mayO_head h
  obtain ⟨f1, f2, f3⟩ := fdB_ok R h
  obtain ⟨i1, i2, i3⟩ := idT_B (x := (o.s, o.n)) (fdB o ++ R) h1
  have e : opB o ++ R = (o.k % 256).toNat :: (idB (o.s, o.n) ++ (fdB o ++ R)) := by unfold opB; rw [List.cons_append, List.append_assoc]
  have ek : (o.k % 256).toNat = o.k.toNat := by omega
  rw [e, ek]
  have hc : c1 (o.k.toNat :: (idB (o.s, o.n) ++ (fdB o ++ R))) = o.k.toNat := rfl
  have hd : (o.k.toNat :: (idB (o.s, o.n) ++ (fdB o ++ R))).drop 1 = idB (o.s, o.n) ++ (fdB o ++ R) := rfl
  have d4 : (idB (o.s, o.n) ++ (fdB o ++ R)).drop 4 = fdB o ++ R := drop_app (A := idB (o.s, o.n)) (n := 4) rfl
  unfold okO opV opL
  rw [hc, hd, i1, i2, i3, d4, f1, f2, f3]
  exact ⟨by simp, rfl, rfl⟩
theorem opsB_ok : ∀ (L : List OpT) (R : List Nat), mayEs L = 0 → okN L.length (L.flatMap opB ++ R) = true ∧ edV L.length (L.flatMap opB ++ R) = L ∧ edL L.length (L.flatMap opB ++ R) = R
  | [], R, _ => ⟨rfl, rfl, rfl⟩
  | o :: L, R, h => by
    unfold mayEs at h
    by_cases ho : mayO o = 0
    case neg => rw [if_neg ho] at h; exact absurd h ho
    rw [if_pos ho] at h
    obtain ⟨a1, a2, a3⟩ := opB_ok (L.flatMap opB ++ R) ho
    obtain ⟨b1, b2, b3⟩ := opsB_ok L R h
    rw [List.flatMap_cons, List.append_assoc]
    show (okO _ && okN L.length (opL _)) = true ∧ opV _ :: edV L.length (opL _) = o :: L ∧ edL L.length (opL _) = R
    rw [a1, a2, a3, b1, b2, b3]
    exact ⟨rfl, rfl, rfl⟩
theorem mayE_ok {L : List OpT} (h : mayE L = 0) : 1 ≤ L.length ∧ L.length ≤ 6 ∧ mayEs L = 0 := by
  unfold mayE at h
  by_cases hq : L.length < 1 ∨ 6 < L.length
  · rw [if_pos hq] at h; exact absurd h (by decide)
  · rw [if_neg hq] at h; exact ⟨by omega, by omega, h⟩
/-- What stands at the head of bytes. -/
def isE (B : List Nat) (L : List OpT) (R : List Nat) : Prop := mayE L = 0 ∧ B = edB L ++ R
def rdV (B : List Nat) : List OpT := edV (c1 B) (B.drop 1)
def rdR (B : List Nat) : List Nat := edL (c1 B) (B.drop 1)
theorem isE_rd {B : List Nat} {L : List OpT} {R : List Nat} (h : isE B L R) : rdV B = L ∧ rdR B = R ∧ okN (c1 B) (B.drop 1) = true ∧ 1 ≤ B.length ∧ c1 B = L.length := by
  obtain ⟨h1, rfl⟩ := h
  obtain ⟨h2, h3, h4⟩ := mayE_ok h1
  obtain ⟨q1, q2, q3⟩ := opsB_ok L R h4
  have hc : c1 (edB L ++ R) = L.length := by
    show L.length % 256 = L.length
    omega
  have hd : (edB L ++ R).drop 1 = L.flatMap opB ++ R := rfl
  unfold rdV rdR
  rw [hc, hd]
  exact ⟨q2, q3, q1, by simp [edB], rfl⟩
/-- What is read without a fault, and may be, stands there. -/
theorem rd_isE {B : List Nat} (hb : ∀ b ∈ B, b < 256) (h0 : 1 ≤ B.length) (h1 : okN (c1 B) (B.drop 1) = true) (h2 : mayE (rdV B) = 0) : isE B (rdV B) (rdR B) := by
  refine ⟨h2, ?_⟩
  have hl : (rdV B).length = c1 B := edV_len _ _
  have hc := byte_lt hb
  unfold edB
  rw [hl, Nat.mod_eq_of_lt hc, List.cons_append]
  unfold rdV rdR
  rw [okN_B _ (drop_lt hb 1) h1, c1_cons h0]
end Go.Proofs.Ytinfbaflkjghhaa
/- opcode.name, flag, corner. -/
namespace Go.Proofs.Ytinfbaflkjghhaa
open Go.RowKit
/-- What a call from a later world gives is given from an earlier one. -/
theorem Gives8.from_ {w w1 w' : World} {L : List Nat} {e : Ending} (h : Gives8 w1 L e w') (hx : Below w.heap.size w w1) : Gives8 w L e w' := by
  obtain ⟨A, c, h1, h2, h3, h4, h5⟩ := h
  exact ⟨A, c, h1, h2, fun a ha hl => Nat.le_trans hx.size (h3 a ha hl), own_lo8 h4 hx.size, hx.trans (h5.mono hx.size)⟩
set_option maxRecDepth 100000 in
theorem oname_any (x1 x2 : Int) (w : World) : Calls Try.prog 42 #[.agg #[.int .i64 x1, .int .i64 x2]] w (Gives8 w (idB (x1, x2))) := by
  have HP := Lib.hid (idput_any none 0 [] x1 x2 (w.alloc (.cells #[.int .i64 x1, .int .i64 x2] 47)) (rds_nil _ _ _) (by simp))
  rw [List.nil_append] at HP
  have hX : Whole (w.alloc (.cells #[.int .i64 x1, .int .i64 x2] 47)) w.heap.size 47 [.int .i64 x1, .int .i64 x2] := Whole.new_ _ _ [_, _]
  have c0 := hX.cell (i := 0) rfl
  have c1 := hX.cell (i := 1) rfl
  clear hX
  go_enter Try.func42, Try.ntmps42
  go_wp2_with (first
    | (go_at_call 63
       refine HP.out.mono ?_
       rintro e w2 ⟨A, c, rfl, h2, h3, h4, h5⟩
       have HG := Lib.hid (Gives8.from_ (w := w) ⟨A, c, rfl, h2, h3, h4, h5⟩ (below1 _ _))
       clear h2 h3 h4 h5))
  go_ret
  exact HG.out
set_option maxRecDepth 100000 in
theorem oflag_any (b : Bool) (w : World) : Calls Try.prog 66 #[.bool b] w (Gives8 w [fl b]) := by
  have hg : ∀ x : Nat, Gives8 w [x] (.returned (.slice (some ⟨w.heap.size, 0, none⟩) 1 1)) (w.alloc (.cells #[.int .u8 (x : Int)] 5)) := fun x =>
    gives8_whole rfl (by decide) (Nat.le_refl _) (Whole.new_ _ _ [_]) (below1 _ _)
  cases b with
  | true =>
    have HG := Lib.hid (hg 1)
    clear hg
    go_enter Try.func66, Try.ntmps66
    go_wp2
    go_ret
    exact HG.out
  | false =>
    have HG := Lib.hid (hg 0)
    clear hg
    go_enter Try.func66, Try.ntmps66
    go_wp2
    go_ret
    exact HG.out
theorem eq_dartz (a b c : Int) (W : World) : (binOp .eql 49 (.agg #[.int .i64 a, .int .i64 b, .int .i64 c]) (.agg #[.int .i64 0, .int .i64 0, .int .i64 0])).run Try.prog W = .ok (.bool (decide (a = 0 ∧ b = 0 ∧ c = 0))) W := eq_dartz_run a b c W
end Go.Proofs.Ytinfbaflkjghhaa
/- opcode.corner. -/
namespace Go.Proofs.Ytinfbaflkjghhaa
open Go.RowKit
theorem oname_4 (x1 x2 : Int) (w : World) : Calls Try.prog 42 #[.agg #[.int .i64 x1, .int .i64 x2]] w fun e w' => ∃ A c, e = .returned (.slice A 4 c) ∧ RdS w' w'.heap.size 1 A 4 c (rowsV f8 (idB (x1, x2))) ∧ (∀ a, A = some a → 0 < 4 → w.heap.size ≤ a.block) ∧ w'.ownsRow w.heap.size 5 1 (.slice A 4 c) 4 (rowsV f8 (idB (x1, x2))) ∧ Below w.heap.size w w' := (oname_any x1 x2 w).mono fun e w' h => h
set_option maxRecDepth 100000 in
set_option maxHeartbeats 4000000 in
theorem ocorner_any (a0 a1 a2 a3 a4 : Int) (w : World) : Calls Try.prog 64 #[.agg #[.int .i64 a0, .int .i64 a1, .int .i64 a2, .int .i64 a3, .int .i64 a4]] w (Gives8 w (crB (a0, a1, a2, a3, a4))) := by
  obtain ⟨i0, hi, hz0, hz1, hz2⟩ := info_parts_ info_u8
  have HQ := Lib.hid (eq_dartz a2 a3 a4)
  have HN0 := Lib.hid (fun W => oname_4 a0 a1 W)
  have HX : RowKit.Hid (Whole (w.alloc (.cells #[.int .i64 a0, .int .i64 a1, .int .i64 a2, .int .i64 a3, .int .i64 a4] 51)) w.heap.size 51 [.int .i64 a0, .int .i64 a1, .int .i64 a2, .int .i64 a3, .int .i64 a4]) := Lib.hid (Whole.new_ _ _ [_, _, _, _, _])
  have HB1 : RowKit.Hid (Below w.heap.size w (w.alloc (.cells #[.int .i64 a0, .int .i64 a1, .int .i64 a2, .int .i64 a3, .int .i64 a4] 51))) := Lib.hid (below1 _ _)
  go_enter Try.func64, Try.ntmps64
  go_upto_region 1 with fail
  obtain ⟨w1, gw1⟩ : ∃ z, w.alloc (.cells #[.int .i64 a0, .int .i64 a1, .int .i64 a2, .int .i64 a3, .int .i64 a4] 51) = z := ⟨_, rfl⟩
  rw [gw1] at HX HB1 ⊢
  obtain ⟨g0, gg0⟩ : ∃ z, w.heap.size = z := ⟨_, rfl⟩
  rw [gg0] at HX ⊢
  clear gw1 gg0
  have c0 := HX.out.cell (i := 0) rfl
  have c1 := HX.out.cell (i := 1) rfl
  go_upto_region 2 with (first
    | (go_at_call 42
       refine (HN0.out _).mono ?_
       rintro e w2 ⟨A2, c2, rfl, -, -, h4, h5⟩
       have HO2 : RowKit.Hid (Ow w1 w1.heap.size 5 1 (.slice A2 4 c2) 4 (rowsV f8 (idB (a0, a1))) w2) := Lib.hid ⟨h4, h5, Nat.le_refl _, h5.size⟩
       have HX2 := Lib.hid (HX.out.bl h5)
       clear h4 h5 c0 c1))
  have d2 := HX2.out.cell (i := 2) rfl
  have d3 := HX2.out.cell (i := 3) rfl
  have d4 := HX2.out.cell (i := 4) rfl
  have hq := HQ.out
  by_cases hz : a2 = 0 ∧ a3 = 0 ∧ a4 = 0
  · have HL : RowKit.Hid (crB (a0, a1, a2, a3, a4) = idB (a0, a1) ++ [0]) := Lib.hid (by unfold crB; rw [if_pos hz])
    rw [decide_eq_true hz] at hq
    have HQ2 := Lib.hid hq
    clear hz HX hq
    have hq := HQ2.out
    go_wp2_with (first
      | (at_builtin
         refine wpList_push2 rfl (.tmp 11) (.tmp 12) _ rfl _ 5 i0 _ 1 1 Try.underlying23 hi hz0 hz1 hz2 rfl (by decide) _ _ _ rfl (by exact Ow.up HO2.out (below1 _ _)) _ (some ⟨w2.heap.size, 0, none⟩) 1 1 [.int .u8 0] rfl (by exact RdS.new_ rfl (Nat.lt_succ_self _) rfl rfl) (by simp [Value.oneCell']) (by unfold maxLen; omega) (by omega) ?_
         intro v1 w3 how1 hb1 hgr1
         have HO3 := Lib.hid how1
         clear how1 hb1 hgr1 d2 d3 d4))
    have ho := HO3.out
    rw [show rowsV f8 (idB (a0, a1)) ++ [.int .u8 0] = rowsV f8 (idB (a0, a1) ++ [0]) from by rw [rowsV_app]; rfl] at ho
    obtain ⟨A9, c9, rfl, hG⟩ := gives8_ow (L := idB (a0, a1) ++ [0]) rfl ho
    have HG := Lib.hid (Gives8.from_ hG HB1.out)
    clear ho hG
    rw [HL.out]
    go_ret
    exact HG.out
  · have HL : RowKit.Hid (crB (a0, a1, a2, a3, a4) = idB (a0, a1) ++ (((1 + a4) % 256).toNat :: idB (a2, a3))) := Lib.hid (by unfold crB; rw [if_neg hz])
    rw [decide_eq_false hz] at hq
    have HQ2 := Lib.hid hq
    clear hz hq
    have hq := HQ2.out
    go_upto_region 4 with fail
    clear hq d2 d3 d4
    obtain ⟨q, gq⟩ : ∃ q, ((1 + a4) % 256).toNat = q := ⟨_, rfl⟩
    rw [gq] at HL
    obtain ⟨z, gz⟩ : ∃ z, IntKind.i64.wrap (1 + a4) = z := ⟨_, rfl⟩
    have hu : IntKind.u8.wrap z = (q : Int) := by rw [← gz, IntKind.wrap_u8, IntKind.wrap_i64, ← gq]; omega
    clear gq
    obtain ⟨B0, hB0⟩ : ∃ x, w1.heap.size = x := ⟨_, rfl⟩
    rw [hB0] at HO2
    have HB0 := Lib.hid hB0
    have HG1 : RowKit.Hid (g0 < B0) := Lib.hid (by have := HX.out.lt; omega)
    clear hB0
    have R9 := Lib.hid (HO2.out.up ((Below.refl _ _).drew))
    have EX9 : RowKit.Hid (Ext w1 w2.drew) := Lib.hid (Ext.trans HO2.out.below ((Below.refl _ _).drew))
    have lC2 : ∀ w', Kept (From_ B0) w2.drew w' → w'.cell? ⟨g0, 2, none⟩ = some (.int .i64 a2) := fun w' h => h.from_cell HG1.out (EX9.out.cell (HX.out.cell (i := 2) rfl))
    have lC3 : ∀ w', Kept (From_ B0) w2.drew w' → w'.cell? ⟨g0, 3, none⟩ = some (.int .i64 a3) := fun w' h => h.from_cell HG1.out (EX9.out.cell (HX.out.cell (i := 3) rfl))
    have lC4 : ∀ w', Kept (From_ B0) w2.drew w' → w'.cell? ⟨g0, 4, none⟩ = some (.int .i64 a4) := fun w' h => h.from_cell HG1.out (EX9.out.cell (HX.out.cell (i := 4) rfl))
    refine wp_region_reg (From_ B0) (by kernel_rfl) ?_
    apply wpR_next 0 (some 14)
    · rfl
    · rfl
    · kernel_rfl
    · kernel_rfl
    · kernel_rfl
    · first | exact fun _ _ _ _ h => Exit.noConfusion h.1 | exact fun _ _ _ _ h => h
    apply Exists.intro
    apply And.intro
    · apply yr_run; rfl; intro w' hw'; go_simp; (try with_reducible rfl)
    simp only [Act.put, stA_, st0_, st1_]
    apply wpR_next 1 (some 15)
    · rfl
    · rfl
    · kernel_rfl
    · kernel_rfl
    · kernel_rfl
    · first | exact fun _ _ _ _ h => Exit.noConfusion h.1 | exact fun _ _ _ _ h => h
    apply Exists.intro
    apply And.intro
    · apply yr_run; rfl; intro w' hw'; go_simp; (try with_reducible rfl)
    simp only [Act.put, stA_, st0_, st1_]
    apply wpR_next 2 (some 16)
    · rfl
    · rfl
    · kernel_rfl
    · kernel_rfl
    · kernel_rfl
    · first | exact fun _ _ _ _ h => Exit.noConfusion h.1 | exact fun _ _ _ _ h => h
    apply Exists.intro
    apply And.intro
    · apply yr_run; rfl; intro w' hw'; go_simp; (try with_reducible rfl)
    simp only [Act.put, stA_, st0_, st1_]
    apply wpR_next 3 (some 17)
    · rfl
    · rfl
    · kernel_rfl
    · kernel_rfl
    · kernel_rfl
    · first | exact fun _ _ _ _ h => Exit.noConfusion h.1 | exact fun _ _ _ _ h => h
    apply Exists.intro
    apply And.intro
    · apply yr_run; rfl; intro w' hw'; go_simp; (try with_reducible rfl)
    simp only [Act.put, stA_, st0_, st1_]
    apply wpR_next 4 (some 18)
    · rfl
    · rfl
    · kernel_rfl
    · kernel_rfl
    · kernel_rfl
    · first | exact fun _ _ _ _ h => Exit.noConfusion h.1 | exact fun _ _ _ _ h => h
    apply Exists.intro
    apply And.intro
    · apply yr_run; rfl; intro w' hw'; go_simp; (try with_reducible rfl)
    simp only [Act.put, stA_, st0_, st1_]
    apply wpR_next 5 (some 19)
    · rfl
    · rfl
    · kernel_rfl
    · kernel_rfl
    · kernel_rfl
    · first | exact fun _ _ _ _ h => Exit.noConfusion h.1 | exact fun _ _ _ _ h => h
    apply Exists.intro
    apply And.intro
    · apply yr_run; rfl; intro w' hw'; go_simp; (try with_reducible rfl)
    simp only [Act.put, stA_, st0_, st1_]
    apply wpR_next 8 (some 22)
    · rfl
    · rfl
    · kernel_rfl
    · kernel_rfl
    · kernel_rfl
    · first | exact fun _ _ _ _ h => Exit.noConfusion h.1 | exact fun _ _ _ _ h => h
    apply Exists.intro
    apply And.intro
    · apply yr_run; rfl; intro w' hw'; go_simp; (try with_reducible rfl)
    simp only [Act.put, stA_, st0_, st1_]
    apply wpR_next 9 (some 23)
    · rfl
    · rfl
    · kernel_rfl
    · kernel_rfl
    · kernel_rfl
    · first | exact fun _ _ _ _ h => Exit.noConfusion h.1 | exact fun _ _ _ _ h => h
    apply Exists.intro
    apply And.intro
    · apply yr_run; rfl; intro w' hw'; go_simp; (try with_reducible rfl)
    simp only [Act.put, stA_, st0_, st1_]
    apply wpR_next 10 (some 24)
    · rfl
    · rfl
    · kernel_rfl
    · kernel_rfl
    · kernel_rfl
    · first | exact fun _ _ _ _ h => Exit.noConfusion h.1 | exact fun _ _ _ _ h => h
    apply Exists.intro
    apply And.intro
    · apply yr_run; rfl; intro w' hw'; go_simp; (try with_reducible rfl)
    simp only [Act.put, stA_, st0_, st1_]
    refine wpR_one 6 (by kernel_rfl) ?_
    apply at_run 6 (some 20)
    · rfl
    · rfl
    · rfl
    intro w' hw'
    have RR_0_2 := Lib.hid (Ow.up R9.out (hw'))
    have E_0_2 := Lib.hid (Ext.trans EX9.out (hw'))
    refine ⟨.slice (some ⟨w'.heap.size, 0, none⟩) 1 1, w'.alloc (.cells (#[.int .u8 (q : Int)]) 5), exec_buildSlice 23 5 1 #[(0, .tmp 19)] (by rfl) Try.underlying23 _ (by kernel_rfl), Kept.of_below (below1 _ _), ?_⟩
    have NE_R_S_0_1 : RowKit.Hid (some w'.heap.size ≠ _) := Lib.hid (Ow.ne_ RR_0_2.out (Nat.le_refl _))
    have RR_0_3 := Lib.hid (Ow.up RR_0_2.out (below1 w' (.cells (#[.int .u8 (q : Int)]) 5)))
    have E_0_3 := Lib.hid (Ext.trans E_0_2.out (below1 w' (.cells (#[.int .u8 (q : Int)]) 5)))
    have US_n0_1 : RowKit.Hid (RdS (w'.alloc (.cells (#[.int .u8 (q : Int)]) 5)) (w'.alloc (.cells (#[.int .u8 (q : Int)]) 5)).heap.size 1 (some ⟨w'.heap.size, 0, none⟩) 1 1 (rowsV f8 [q])) := Lib.hid (RdS.of_whole8 (Whole.new_ _ _ _) rfl)
    have hkk : Kept (From_ B0) w2.drew (w'.alloc (.cells (#[.int .u8 (q : Int)]) 5)) := (Kept.of_ext hw').trans (Kept.of_below (below1 _ _))
    obtain ⟨v0_4, gv0_4⟩ : ∃ x, w'.alloc (.cells (#[.int .u8 (q : Int)]) 5) = x := ⟨_, rfl⟩
    rw [gv0_4] at RR_0_3 US_n0_1 E_0_3 hkk ⊢
    have ldt0_5 := fun w'' (h : Kept (From_ B0) v0_4 w'') => lC2 w'' (hkk.trans h)
    have ldt0_6 := fun w'' (h : Kept (From_ B0) v0_4 w'') => lC3 w'' (hkk.trans h)
    have ldt0_7 := fun w'' (h : Kept (From_ B0) v0_4 w'') => lC4 w'' (hkk.trans h)
    clear lC2 lC3 lC4
    clear gv0_4 hkk
    obtain ⟨g0_1, gg0_1⟩ : ∃ x, w'.heap.size = x := ⟨_, rfl⟩
    rw [gg0_1] at US_n0_1 NE_R_S_0_1 ⊢
    clear gg0_1 hw'
    have NF_NE_R_S_0_1 : RowKit.Hid (∀ a, (some (⟨g0_1, 0, none⟩ : Addr)) = some a → 0 < 1 → some a.block ≠ _) := Lib.hid (fun a ha _ => by obtain rfl := Option.some.inj ha; exact NE_R_S_0_1.out)
    try simp only [Act.put, stA_, st0_, st1_]
    refine wpR_one 7 (by kernel_rfl) ?_
    apply at_run 7 (some 21)
    · rfl
    · rfl
    · rfl
    intro w' hw'
    have RR_0_9 := Lib.hid (Ow.up RR_0_3.out (hw'))
    have US_0_9 := Lib.hid (RdS.bl US_n0_1.out (hw'))
    have E_0_9 := Lib.hid (Ext.trans E_0_3.out (hw'))
    obtain ⟨vv, w'', hrun, ho, hb, hg, hbk⟩ := Ow.app2 (P := Try.prog) 23 23 5 i0 _ 1 1 _ Try.underlying23 hi hz0 hz1 hz2 rfl (by decide) _ _ _ RR_0_9.out _ _ _ _ _ (US_0_9.out) (f8_all [q]) (by unfold maxLen; omega) (by omega)
    refine ⟨vv, w'', exec_append (by rfl) (by rfl) (by rfl) hrun, Kept.of_from hb, ?_⟩
    have US_0_8 := Lib.hid (RdS.grown US_0_9.out hg NF_NE_R_S_0_1.out)
    have NE_R_S_0_8 : RowKit.Hid (∀ a, (some (⟨g0_1, 0, none⟩ : Addr)) = some a → 0 < 1 → some a.block ≠ _) := Lib.hid (fun a ha hn => Ow.ne2 (NF_NE_R_S_0_1.out a ha hn) (US_0_9.out.low a ha hn) hbk)
    have E_0_8 : RowKit.Hid (Ext w1 w'') := Lib.hid ho.below
    have hkk : Kept (From_ B0) v0_4 w'' := (Kept.of_ext hw').trans (Kept.of_from hb)
    obtain ⟨AA0_8, cc0_8, rfl, hrr⟩ := ho.rds
    have RR_0_8 := Lib.hid ho
    clear hrr
    obtain ⟨z0_8, gz0_8⟩ : ∃ x, w'' = x := ⟨_, rfl⟩
    rw [gz0_8] at RR_0_8 US_0_8 E_0_8 hkk ⊢
    have ldt0_10 := fun w'' (h : Kept (From_ B0) z0_8 w'') => ldt0_5 w'' (hkk.trans h)
    have ldt0_11 := fun w'' (h : Kept (From_ B0) z0_8 w'') => ldt0_6 w'' (hkk.trans h)
    have ldt0_12 := fun w'' (h : Kept (From_ B0) z0_8 w'') => ldt0_7 w'' (hkk.trans h)
    clear ldt0_5 ldt0_6 ldt0_7
    clear hkk hrun ho hb hg hbk gz0_8 hw'
    try simp only [Act.put, stA_, st0_, st1_]
    refine wpR_one 11 (by kernel_rfl) ?_
    apply at_call 11 (some 25)
    · rfl
    · rfl
    · rfl
    · intro w'; go_simp; first | done | exact ⟨rfl, rfl⟩ | with_reducible rfl
    intro w' hw'
    have RR_0_14 := Lib.hid (Ow.up RR_0_8.out (hw'))
    have US_0_14 := Lib.hid (RdS.bl US_0_8.out (hw'))
    have E_0_14 := Lib.hid (Ext.trans E_0_8.out (hw'))
    refine (oname_4 a2 a3 _).mono ?_
    rintro e w'' ⟨A3, c3, rfl, hr3, hn3, -, hb⟩
    have NE_R_N_0_13 : RowKit.Hid (∀ a, A3 = some a → 0 < 4 → some a.block ≠ _) := Lib.hid (fun a ha hn e => by have h1 := (RR_0_14.out.own.lt _ e.symm).2; have h2 := hn3 a ha hn; omega)
    have RR_0_15 := Lib.hid (Ow.up RR_0_14.out (hb))
    have US_0_15 := Lib.hid (RdS.bl US_0_14.out (hb))
    have E_0_15 := Lib.hid (Ext.trans E_0_14.out (hb))
    have UN_0_13 := Lib.hid hr3
    clear hr3 hn3
    have hkk : Kept (From_ B0) z0_8 w'' := (Kept.of_ext hw').trans (Kept.of_below hb)
    refine ⟨_, rfl, Kept.of_below hb, ?_⟩
    obtain ⟨z0_13, gz0_13⟩ : ∃ x, w'' = x := ⟨_, rfl⟩
    rw [gz0_13] at RR_0_15 US_0_15 UN_0_13 E_0_15 hkk ⊢
    have ldt0_16 := fun w'' (h : Kept (From_ B0) z0_13 w'') => ldt0_10 w'' (hkk.trans h)
    have ldt0_17 := fun w'' (h : Kept (From_ B0) z0_13 w'') => ldt0_11 w'' (hkk.trans h)
    have ldt0_18 := fun w'' (h : Kept (From_ B0) z0_13 w'') => ldt0_12 w'' (hkk.trans h)
    clear ldt0_10 ldt0_11 ldt0_12
    clear hkk hb gz0_13 hw'
    try simp only [Act.put, stA_, st0_, st1_]
    refine wpR_one 12 (by kernel_rfl) ?_
    apply at_run 12 (some 26)
    · rfl
    · rfl
    · rfl
    intro w' hw'
    have RR_0_20 := Lib.hid (Ow.up RR_0_15.out (hw'))
    have US_0_20 := Lib.hid (RdS.bl US_0_15.out (hw'))
    have UN_0_20 := Lib.hid (RdS.bl UN_0_13.out (hw'))
    have E_0_20 := Lib.hid (Ext.trans E_0_15.out (hw'))
    obtain ⟨vv, w'', hrun, ho, hb, hg, hbk⟩ := Ow.app2 (P := Try.prog) 23 23 5 i0 _ 1 1 _ Try.underlying23 hi hz0 hz1 hz2 rfl (by decide) _ _ _ RR_0_20.out _ _ _ _ _ (UN_0_20.out) (f8_all _) (by unfold maxLen; omega) (by omega)
    refine ⟨vv, w'', exec_append (by rfl) (by rfl) (by rfl) hrun, Kept.of_from hb, ?_⟩
    have US_0_19 := Lib.hid (RdS.grown US_0_20.out hg NE_R_S_0_8.out)
    have NE_R_S_0_19 : RowKit.Hid (∀ a, (some (⟨g0_1, 0, none⟩ : Addr)) = some a → 0 < 1 → some a.block ≠ _) := Lib.hid (fun a ha hn => Ow.ne2 (NE_R_S_0_8.out a ha hn) (US_0_20.out.low a ha hn) hbk)
    have UN_0_19 := Lib.hid (RdS.grown UN_0_20.out hg NE_R_N_0_13.out)
    have NE_R_N_0_19 : RowKit.Hid (∀ a, A3 = some a → 0 < 4 → some a.block ≠ _) := Lib.hid (fun a ha hn => Ow.ne2 (NE_R_N_0_13.out a ha hn) (UN_0_20.out.low a ha hn) hbk)
    have E_0_19 : RowKit.Hid (Ext w1 w'') := Lib.hid ho.below
    have hkk : Kept (From_ B0) z0_13 w'' := (Kept.of_ext hw').trans (Kept.of_from hb)
    obtain ⟨AA0_19, cc0_19, rfl, hrr⟩ := ho.rds
    have RR_0_19 := Lib.hid ho
    clear hrr
    obtain ⟨z0_19, gz0_19⟩ : ∃ x, w'' = x := ⟨_, rfl⟩
    rw [gz0_19] at RR_0_19 US_0_19 UN_0_19 E_0_19 hkk ⊢
    have ldt0_21 := fun w'' (h : Kept (From_ B0) z0_19 w'') => ldt0_16 w'' (hkk.trans h)
    have ldt0_22 := fun w'' (h : Kept (From_ B0) z0_19 w'') => ldt0_17 w'' (hkk.trans h)
    have ldt0_23 := fun w'' (h : Kept (From_ B0) z0_19 w'') => ldt0_18 w'' (hkk.trans h)
    clear ldt0_16 ldt0_17 ldt0_18
    clear hkk hrun ho hb hg hbk gz0_19 hw'
    try simp only [Act.put, stA_, st0_, st1_]
    apply wpR_next 13 (some 2)
    · rfl
    · rfl
    · kernel_rfl
    · kernel_rfl
    · kernel_rfl
    · first | exact fun _ _ _ _ h => Exit.noConfusion h.1 | exact fun _ _ _ _ h => h
    apply Exists.intro
    apply And.intro
    · apply yr_run; rfl; intro w' hw'; go_simp; (try with_reducible rfl)
    simp only [Act.put, stA_, st0_, st1_]
    refine wpR_done (by kernel_rfl) ?_ _
    intro wE hwE
    skip
    have ho := (RR_0_19.out.up hwE)
    rw [show rowsV f8 (idB (a0, a1)) ++ rowsV f8 [q] ++ rowsV f8 (idB (a2, a3)) = rowsV f8 (idB (a0, a1) ++ (q :: idB (a2, a3))) from by rw [List.append_assoc, rowsV_app]; rfl, ← HB0.out] at ho
    obtain ⟨A9, c9, e9, hG⟩ := gives8_ow (L := idB (a0, a1) ++ (q :: idB (a2, a3))) rfl ho
    rw [← HL.out] at e9 hG
    have HG := Lib.hid (Gives8.from_ hG HB1.out)
    have HE := Lib.hid e9
    clear ho hG hwE e9 ldt0_21 ldt0_22 ldt0_23
    go_wp2
    go_ret
    exact HE.out ▸ HG.out
end Go.Proofs.Ytinfbaflkjghhaa
/- opcode.fields. -/
namespace Go.Proofs.Ytinfbaflkjghhaa
open Go.RowKit
theorem g8_parts {k : FuncId} {ar : Array Value} {w : World} {L : List Nat} {n : Nat} (hn : L.length = n) (h : Calls Try.prog k ar w (Gives8 w L)) : Calls Try.prog k ar w fun e w' => ∃ A c, e = .returned (.slice A n c) ∧ RdS w' w'.heap.size 1 A n c (rowsV f8 L) ∧ (∀ a, A = some a → 0 < n → w.heap.size ≤ a.block) ∧ w'.ownsRow w.heap.size 5 1 (.slice A n c) n (rowsV f8 L) ∧ Below w.heap.size w w' := by
  subst hn
  exact h
theorem crB_len (c : C5) : ∃ n, (crB c).length = n ∧ 1 ≤ n ∧ n ≤ 9 := by
  refine ⟨_, rfl, ?_, ?_⟩ <;> unfold crB <;> split <;> simp [idB]
set_option maxRecDepth 100000 in
set_option maxHeartbeats 4000000 in
theorem fields_3 (o : OpT) (hk : o.k = 3) (hs : o.t.size ≤ 100000) (w : World) : Calls Try.prog 43 #[.agg (opCells o).toArray] w (Gives8 w (fdB o)) := by
  obtain ⟨i0, hi, hz0, hz1, hz2⟩ := info_parts_ info_u8
  have HL : RowKit.Hid (fdB o = crB o.ca ++ crB o.cb) := Lib.hid (by unfold fdB; rw [if_pos hk])
  have q3 : (o.k == 3) = true := by rw [hk]; rfl
  obtain ⟨na, gna, na1, na2⟩ := crB_len o.ca
  obtain ⟨nb, gnb, nb1, nb2⟩ := crB_len o.cb
  have Gna := Lib.hid gna
  have Gnb := Lib.hid gnb
  have HCA : RowKit.Hid (∀ W, _) := Lib.hid (fun W => g8_parts gna (ocorner_any o.a0 o.a1 o.a2 o.a3 o.a4 W))
  have HCB : RowKit.Hid (∀ W, _) := Lib.hid (fun W => g8_parts gnb (ocorner_any o.b0 o.b1 o.b2 o.b3 o.b4 W))
  clear gna gnb
  have HX : RowKit.Hid (Whole (w.alloc (.cells (opCells o).toArray 53)) w.heap.size 53 (opCells o)) := Lib.hid (Whole.new_ _ _ _)
  have HB1 : RowKit.Hid (Below w.heap.size w (w.alloc (.cells (opCells o).toArray 53))) := Lib.hid (below1 _ _)
  clear hk
  go_enter Try.func43, Try.ntmps43
  go_upto_region 1 with fail
  obtain ⟨w1, gw1⟩ : ∃ z, w.alloc (.cells (opCells o).toArray 53) = z := ⟨_, rfl⟩
  rw [gw1] at HX HB1 ⊢
  obtain ⟨g0, gg0⟩ : ∃ z, w.heap.size = z := ⟨_, rfl⟩
  rw [gg0] at HX ⊢
  clear gw1 gg0
  have c0 := HX.out.cell (i := 0) rfl
  go_upto_region 3 with fail
  clear c0 q3
  obtain ⟨B0, hB0⟩ : ∃ x, w1.heap.size = x := ⟨_, rfl⟩
  have HB0 := Lib.hid hB0
  have HG1 : RowKit.Hid (g0 < B0) := Lib.hid (by have := HX.out.lt; omega)
  have EX9 : RowKit.Hid (Ext w1 w1.drew) := Lib.hid ((Below.refl _ _).drew)
  have lC7 : ∀ w', Kept (From_ B0) w1.drew w' → w'.cell? ⟨g0, 7, none⟩ = some (.int .i64 o.a0) := fun w' h => h.from_cell HG1.out (EX9.out.cell (HX.out.cell (i := 7) rfl))
  have lC8 : ∀ w', Kept (From_ B0) w1.drew w' → w'.cell? ⟨g0, 8, none⟩ = some (.int .i64 o.a1) := fun w' h => h.from_cell HG1.out (EX9.out.cell (HX.out.cell (i := 8) rfl))
  have lC9 : ∀ w', Kept (From_ B0) w1.drew w' → w'.cell? ⟨g0, 9, none⟩ = some (.int .i64 o.a2) := fun w' h => h.from_cell HG1.out (EX9.out.cell (HX.out.cell (i := 9) rfl))
  have lC10 : ∀ w', Kept (From_ B0) w1.drew w' → w'.cell? ⟨g0, 10, none⟩ = some (.int .i64 o.a3) := fun w' h => h.from_cell HG1.out (EX9.out.cell (HX.out.cell (i := 10) rfl))
  have lC11 : ∀ w', Kept (From_ B0) w1.drew w' → w'.cell? ⟨g0, 11, none⟩ = some (.int .i64 o.a4) := fun w' h => h.from_cell HG1.out (EX9.out.cell (HX.out.cell (i := 11) rfl))
  have lC12 : ∀ w', Kept (From_ B0) w1.drew w' → w'.cell? ⟨g0, 12, none⟩ = some (.int .i64 o.b0) := fun w' h => h.from_cell HG1.out (EX9.out.cell (HX.out.cell (i := 12) rfl))
  have lC13 : ∀ w', Kept (From_ B0) w1.drew w' → w'.cell? ⟨g0, 13, none⟩ = some (.int .i64 o.b1) := fun w' h => h.from_cell HG1.out (EX9.out.cell (HX.out.cell (i := 13) rfl))
  have lC14 : ∀ w', Kept (From_ B0) w1.drew w' → w'.cell? ⟨g0, 14, none⟩ = some (.int .i64 o.b2) := fun w' h => h.from_cell HG1.out (EX9.out.cell (HX.out.cell (i := 14) rfl))
  have lC15 : ∀ w', Kept (From_ B0) w1.drew w' → w'.cell? ⟨g0, 15, none⟩ = some (.int .i64 o.b3) := fun w' h => h.from_cell HG1.out (EX9.out.cell (HX.out.cell (i := 15) rfl))
  have lC16 : ∀ w', Kept (From_ B0) w1.drew w' → w'.cell? ⟨g0, 16, none⟩ = some (.int .i64 o.b4) := fun w' h => h.from_cell HG1.out (EX9.out.cell (HX.out.cell (i := 16) rfl))
  clear hB0
  refine wp_region_reg (From_ B0) (by kernel_rfl) ?_
  apply wpR_next 0 (some 7)
  · rfl
  · rfl
  · kernel_rfl
  · kernel_rfl
  · kernel_rfl
  · first | exact fun _ _ _ _ h => Exit.noConfusion h.1 | exact fun _ _ _ _ h => h
  apply Exists.intro
  apply And.intro
  · apply yr_run; rfl; intro w' hw'; go_simp; (try with_reducible rfl)
  simp only [Act.put, stA_, st0_, st1_]
  apply wpR_next 1 (some 8)
  · rfl
  · rfl
  · kernel_rfl
  · kernel_rfl
  · kernel_rfl
  · first | exact fun _ _ _ _ h => Exit.noConfusion h.1 | exact fun _ _ _ _ h => h
  apply Exists.intro
  apply And.intro
  · apply yr_run; rfl; intro w' hw'; go_simp; (try with_reducible rfl)
  simp only [Act.put, stA_, st0_, st1_]
  apply wpR_next 3 (some 10)
  · rfl
  · rfl
  · kernel_rfl
  · kernel_rfl
  · kernel_rfl
  · first | exact fun _ _ _ _ h => Exit.noConfusion h.1 | exact fun _ _ _ _ h => h
  apply Exists.intro
  apply And.intro
  · apply yr_run; rfl; intro w' hw'; go_simp; (try with_reducible rfl)
  simp only [Act.put, stA_, st0_, st1_]
  apply wpR_next 4 (some 11)
  · rfl
  · rfl
  · kernel_rfl
  · kernel_rfl
  · kernel_rfl
  · first | exact fun _ _ _ _ h => Exit.noConfusion h.1 | exact fun _ _ _ _ h => h
  apply Exists.intro
  apply And.intro
  · apply yr_run; rfl; intro w' hw'; go_simp; (try with_reducible rfl)
  simp only [Act.put, stA_, st0_, st1_]
  refine wpR_one 2 (by kernel_rfl) ?_
  apply at_call 2 (some 9)
  · rfl
  · rfl
  · rfl
  · intro w'; go_simp; first | done | exact ⟨rfl, rfl⟩ | with_reducible rfl
  intro w' hw'
  have E_0_2 := Lib.hid (Ext.trans EX9.out (hw'))
  refine (HCA.out _).mono ?_
  rintro e w'' ⟨AA0_1, cc0_1, rfl, -, -, hown, hb⟩
  have E_0_3 := Lib.hid (Ext.trans E_0_2.out (hb))
  have RR_n0_1 : RowKit.Hid (Ow w1 B0 5 1 (.slice AA0_1 na cc0_1) na (rowsV f8 (crB o.ca)) w'') := Lib.hid ⟨own_lo8 hown (by have h1 := E_0_2.out.size; have h2 := HB0.out; omega), E_0_3.out, Nat.le_of_eq HB0.out, by have h1 := E_0_3.out.size; have h2 := HB0.out; omega⟩
  have hkk : Kept (From_ B0) w1.drew w'' := (Kept.of_ext hw').trans (Kept.of_below hb)
  refine ⟨_, rfl, Kept.of_below hb, ?_⟩
  obtain ⟨z0_1, gz0_1⟩ : ∃ x, w'' = x := ⟨_, rfl⟩
  rw [gz0_1] at RR_n0_1 E_0_3 hkk ⊢
  have ldt0_4 := fun w'' (h : Kept (From_ B0) z0_1 w'') => lC7 w'' (hkk.trans h)
  have ldt0_5 := fun w'' (h : Kept (From_ B0) z0_1 w'') => lC8 w'' (hkk.trans h)
  have ldt0_6 := fun w'' (h : Kept (From_ B0) z0_1 w'') => lC9 w'' (hkk.trans h)
  have ldt0_7 := fun w'' (h : Kept (From_ B0) z0_1 w'') => lC10 w'' (hkk.trans h)
  have ldt0_8 := fun w'' (h : Kept (From_ B0) z0_1 w'') => lC11 w'' (hkk.trans h)
  have ldt0_9 := fun w'' (h : Kept (From_ B0) z0_1 w'') => lC12 w'' (hkk.trans h)
  have ldt0_10 := fun w'' (h : Kept (From_ B0) z0_1 w'') => lC13 w'' (hkk.trans h)
  have ldt0_11 := fun w'' (h : Kept (From_ B0) z0_1 w'') => lC14 w'' (hkk.trans h)
  have ldt0_12 := fun w'' (h : Kept (From_ B0) z0_1 w'') => lC15 w'' (hkk.trans h)
  have ldt0_13 := fun w'' (h : Kept (From_ B0) z0_1 w'') => lC16 w'' (hkk.trans h)
  clear lC7 lC8 lC9 lC10 lC11 lC12 lC13 lC14 lC15 lC16
  clear hkk hown hb gz0_1 hw'
  try simp only [Act.put, stA_, st0_, st1_]
  refine wpR_one 5 (by kernel_rfl) ?_
  apply at_call 5 (some 12)
  · rfl
  · rfl
  · rfl
  · intro w'; go_simp; first | done | exact ⟨rfl, rfl⟩ | with_reducible rfl
  intro w' hw'
  have RR_0_15 := Lib.hid (Ow.up RR_n0_1.out (hw'))
  have E_0_15 := Lib.hid (Ext.trans E_0_3.out (hw'))
  refine (HCB.out _).mono ?_
  rintro e w'' ⟨A3, c3, rfl, hr3, hn3, -, hb⟩
  have NE_R_N_0_14 : RowKit.Hid (∀ a, A3 = some a → 0 < nb → some a.block ≠ _) := Lib.hid (fun a ha hn e => by have h1 := (RR_0_15.out.own.lt _ e.symm).2; have h2 := hn3 a ha hn; omega)
  have RR_0_16 := Lib.hid (Ow.up RR_0_15.out (hb))
  have E_0_16 := Lib.hid (Ext.trans E_0_15.out (hb))
  have UN_0_14 := Lib.hid hr3
  clear hr3 hn3
  have hkk : Kept (From_ B0) z0_1 w'' := (Kept.of_ext hw').trans (Kept.of_below hb)
  refine ⟨_, rfl, Kept.of_below hb, ?_⟩
  obtain ⟨z0_14, gz0_14⟩ : ∃ x, w'' = x := ⟨_, rfl⟩
  rw [gz0_14] at RR_0_16 UN_0_14 E_0_16 hkk ⊢
  have ldt0_17 := fun w'' (h : Kept (From_ B0) z0_14 w'') => ldt0_4 w'' (hkk.trans h)
  have ldt0_18 := fun w'' (h : Kept (From_ B0) z0_14 w'') => ldt0_5 w'' (hkk.trans h)
  have ldt0_19 := fun w'' (h : Kept (From_ B0) z0_14 w'') => ldt0_6 w'' (hkk.trans h)
  have ldt0_20 := fun w'' (h : Kept (From_ B0) z0_14 w'') => ldt0_7 w'' (hkk.trans h)
  have ldt0_21 := fun w'' (h : Kept (From_ B0) z0_14 w'') => ldt0_8 w'' (hkk.trans h)
  have ldt0_22 := fun w'' (h : Kept (From_ B0) z0_14 w'') => ldt0_9 w'' (hkk.trans h)
  have ldt0_23 := fun w'' (h : Kept (From_ B0) z0_14 w'') => ldt0_10 w'' (hkk.trans h)
  have ldt0_24 := fun w'' (h : Kept (From_ B0) z0_14 w'') => ldt0_11 w'' (hkk.trans h)
  have ldt0_25 := fun w'' (h : Kept (From_ B0) z0_14 w'') => ldt0_12 w'' (hkk.trans h)
  have ldt0_26 := fun w'' (h : Kept (From_ B0) z0_14 w'') => ldt0_13 w'' (hkk.trans h)
  clear ldt0_4 ldt0_5 ldt0_6 ldt0_7 ldt0_8 ldt0_9 ldt0_10 ldt0_11 ldt0_12 ldt0_13
  clear hkk hb gz0_14 hw'
  try simp only [Act.put, stA_, st0_, st1_]
  refine wpR_one 6 (by kernel_rfl) ?_
  apply at_run 6 (some 13)
  · rfl
  · rfl
  · rfl
  intro w' hw'
  have RR_0_28 := Lib.hid (Ow.up RR_0_16.out (hw'))
  have UN_0_28 := Lib.hid (RdS.bl UN_0_14.out (hw'))
  have E_0_28 := Lib.hid (Ext.trans E_0_16.out (hw'))
  obtain ⟨vv, w'', hrun, ho, hb, hg, hbk⟩ := Ow.app2 (P := Try.prog) 23 23 5 i0 _ 1 1 _ Try.underlying23 hi hz0 hz1 hz2 rfl (by decide) _ _ _ RR_0_28.out _ _ _ _ _ (UN_0_28.out) (f8_all _) (by unfold maxLen; omega) (by omega)
  refine ⟨vv, w'', exec_append (by rfl) (by rfl) (by rfl) hrun, Kept.of_from hb, ?_⟩
  have UN_0_27 := Lib.hid (RdS.grown UN_0_28.out hg NE_R_N_0_14.out)
  have NE_R_N_0_27 : RowKit.Hid (∀ a, A3 = some a → 0 < nb → some a.block ≠ _) := Lib.hid (fun a ha hn => Ow.ne2 (NE_R_N_0_14.out a ha hn) (UN_0_28.out.low a ha hn) hbk)
  have E_0_27 : RowKit.Hid (Ext w1 w'') := Lib.hid ho.below
  have hkk : Kept (From_ B0) z0_14 w'' := (Kept.of_ext hw').trans (Kept.of_from hb)
  obtain ⟨AA0_27, cc0_27, rfl, hrr⟩ := ho.rds
  have RR_0_27 := Lib.hid ho
  clear hrr
  obtain ⟨z0_27, gz0_27⟩ : ∃ x, w'' = x := ⟨_, rfl⟩
  rw [gz0_27] at RR_0_27 UN_0_27 E_0_27 hkk ⊢
  have ldt0_29 := fun w'' (h : Kept (From_ B0) z0_27 w'') => ldt0_17 w'' (hkk.trans h)
  have ldt0_30 := fun w'' (h : Kept (From_ B0) z0_27 w'') => ldt0_18 w'' (hkk.trans h)
  have ldt0_31 := fun w'' (h : Kept (From_ B0) z0_27 w'') => ldt0_19 w'' (hkk.trans h)
  have ldt0_32 := fun w'' (h : Kept (From_ B0) z0_27 w'') => ldt0_20 w'' (hkk.trans h)
  have ldt0_33 := fun w'' (h : Kept (From_ B0) z0_27 w'') => ldt0_21 w'' (hkk.trans h)
  have ldt0_34 := fun w'' (h : Kept (From_ B0) z0_27 w'') => ldt0_22 w'' (hkk.trans h)
  have ldt0_35 := fun w'' (h : Kept (From_ B0) z0_27 w'') => ldt0_23 w'' (hkk.trans h)
  have ldt0_36 := fun w'' (h : Kept (From_ B0) z0_27 w'') => ldt0_24 w'' (hkk.trans h)
  have ldt0_37 := fun w'' (h : Kept (From_ B0) z0_27 w'') => ldt0_25 w'' (hkk.trans h)
  have ldt0_38 := fun w'' (h : Kept (From_ B0) z0_27 w'') => ldt0_26 w'' (hkk.trans h)
  clear ldt0_17 ldt0_18 ldt0_19 ldt0_20 ldt0_21 ldt0_22 ldt0_23 ldt0_24 ldt0_25 ldt0_26
  clear hkk hrun ho hb hg hbk gz0_27 hw'
  try simp only [Act.put, stA_, st0_, st1_]
  apply wpR_next 7 (some 2)
  · rfl
  · rfl
  · kernel_rfl
  · kernel_rfl
  · kernel_rfl
  · first | exact fun _ _ _ _ h => Exit.noConfusion h.1 | exact fun _ _ _ _ h => h
  apply Exists.intro
  apply And.intro
  · apply yr_run; rfl; intro w' hw'; go_simp; (try with_reducible rfl)
  simp only [Act.put, stA_, st0_, st1_]
  refine wpR_done (by kernel_rfl) ?_ _
  intro wE hwE
  skip
  have ho := (RR_0_27.out.up hwE)
  rw [← rowsV_app] at ho
  obtain ⟨A9, c9, e9, hG⟩ := gives8_ow (w := w1) (L := crB o.ca ++ crB o.cb) (by rw [List.length_append, Gna.out, Gnb.out]) (⟨own_lo8 ho.own (Nat.le_of_eq HB0.out), ho.below, Nat.le_refl _, ho.below.size⟩ : Ow w1 w1.heap.size 5 1 _ _ _ _)
  rw [← HL.out] at hG
  try rw [← HL.out] at e9
  have HG := Lib.hid (Gives8.from_ hG HB1.out)
  have HE := Lib.hid e9
  clear ho hG hwE e9 ldt0_29 ldt0_30 ldt0_31 ldt0_32 ldt0_33 ldt0_34 ldt0_35 ldt0_36 ldt0_37 ldt0_38
  go_wp2
  go_ret
  exact HE.out ▸ HG.out
set_option maxRecDepth 100000 in
set_option maxHeartbeats 4000000 in
theorem fields_6 (o : OpT) (hk : o.k = 6) (hs : o.t.size ≤ 100000) (w : World) : Calls Try.prog 43 #[.agg (opCells o).toArray] w (Gives8 w (fdB o)) := by
  obtain ⟨i0, hi, hz0, hz1, hz2⟩ := info_parts_ info_u8
  have HL : RowKit.Hid (fdB o = idB (o.s2, o.n2)) := Lib.hid (by unfold fdB; rw [if_neg (by omega), if_neg (by omega), if_pos hk])
  have q3 : (o.k == 3) = false := by rw [hk]; rfl
  have q5 : (o.k == 5) = false := by rw [hk]; rfl
  have q6 : (o.k == 6) = true := by rw [hk]; rfl
  have HX : RowKit.Hid (Whole (w.alloc (.cells (opCells o).toArray 53)) w.heap.size 53 (opCells o)) := Lib.hid (Whole.new_ _ _ _)
  have HB1 : RowKit.Hid (Below w.heap.size w (w.alloc (.cells (opCells o).toArray 53))) := Lib.hid (below1 _ _)
  clear hk
  go_enter Try.func43, Try.ntmps43
  go_upto_region 1 with fail
  obtain ⟨w1, gw1⟩ : ∃ z, w.alloc (.cells (opCells o).toArray 53) = z := ⟨_, rfl⟩
  rw [gw1] at HX HB1 ⊢
  obtain ⟨g0, gg0⟩ : ∃ z, w.heap.size = z := ⟨_, rfl⟩
  rw [gg0] at HX ⊢
  clear gw1 gg0
  have c0 := HX.out.cell (i := 0) rfl
  have c5 := HX.out.cell (i := 5) rfl
  have c6 := HX.out.cell (i := 6) rfl
  go_wp2_with (first
    | (go_at_call 42
       refine (oname_any o.s2 o.n2 _).mono ?_
       rintro e w2 ⟨A, c, rfl, h2, h3, h4, h5⟩
       have HG := Lib.hid (Gives8.from_ (w := w) ⟨A, c, rfl, h2, h3, h4, h5⟩ HB1.out)
       clear h2 h3 h4 h5))
  rw [HL.out]
  go_ret
  exact HG.out
set_option maxRecDepth 100000 in
set_option maxHeartbeats 4000000 in
theorem fields_0 (o : OpT) (k3 : o.k ≠ 3) (k5 : o.k ≠ 5) (k6 : o.k ≠ 6) (k7 : o.k ≠ 7) (k8 : o.k ≠ 8) (w : World) : Calls Try.prog 43 #[.agg (opCells o).toArray] w (Gives8 w (fdB o)) := by
  have HL : RowKit.Hid (fdB o = []) := Lib.hid (by unfold fdB; rw [if_neg k3, if_neg k5, if_neg k6, if_neg k7, if_neg k8])
  have q3 : (o.k == 3) = false := by simpa using k3
  have q5 : (o.k == 5) = false := by simpa using k5
  have q6 : (o.k == 6) = false := by simpa using k6
  have q7 : (o.k == 7) = false := by simpa using k7
  have q8 : (o.k == 8) = false := by simpa using k8
  have HX : RowKit.Hid (Whole (w.alloc (.cells (opCells o).toArray 53)) w.heap.size 53 (opCells o)) := Lib.hid (Whole.new_ _ _ _)
  have HB1 : RowKit.Hid (Below w.heap.size w (w.alloc (.cells (opCells o).toArray 53))) := Lib.hid (below1 _ _)
  clear k3 k5 k6 k7 k8
  go_enter Try.func43, Try.ntmps43
  go_upto_region 1 with fail
  obtain ⟨w1, gw1⟩ : ∃ z, w.alloc (.cells (opCells o).toArray 53) = z := ⟨_, rfl⟩
  rw [gw1] at HX HB1 ⊢
  obtain ⟨g0, gg0⟩ : ∃ z, w.heap.size = z := ⟨_, rfl⟩
  rw [gg0] at HX ⊢
  have Gg0 := Lib.hid gg0
  clear gw1 gg0
  have c0 := HX.out.cell (i := 0) rfl
  go_wp2
  rw [HL.out]
  go_ret
  exact ⟨none, 0, rfl, rds_nil _ _ _, fun a ha => (by cases ha), World.ownsRow_nil _ _ _ _, HB1.out⟩
set_option maxRecDepth 100000 in
set_option maxHeartbeats 4000000 in
theorem fields_5 (o : OpT) (hk : o.k = 5) (hs : o.t.size ≤ 100000) (w : World) : Calls Try.prog 43 #[.agg (opCells o).toArray] w (Gives8 w (fdB o)) := by
  obtain ⟨i0, hi, hz0, hz1, hz2⟩ := info_parts_ info_u8
  have HL : RowKit.Hid (fdB o = idB (o.s1, o.n1) ++ (idB (o.s2, o.n2) ++ [(o.m % 256).toNat])) := Lib.hid (by unfold fdB; rw [if_neg (by omega), if_pos hk])
  have q3 : (o.k == 3) = false := by rw [hk]; rfl
  have q5 : (o.k == 5) = true := by rw [hk]; rfl
  have HX : RowKit.Hid (Whole (w.alloc (.cells (opCells o).toArray 53)) w.heap.size 53 (opCells o)) := Lib.hid (Whole.new_ _ _ _)
  have HB1 : RowKit.Hid (Below w.heap.size w (w.alloc (.cells (opCells o).toArray 53))) := Lib.hid (below1 _ _)
  clear hk
  go_enter Try.func43, Try.ntmps43
  go_upto_region 1 with fail
  obtain ⟨w1, gw1⟩ : ∃ z, w.alloc (.cells (opCells o).toArray 53) = z := ⟨_, rfl⟩
  rw [gw1] at HX HB1 ⊢
  obtain ⟨g0, gg0⟩ : ∃ z, w.heap.size = z := ⟨_, rfl⟩
  rw [gg0] at HX ⊢
  clear gw1 gg0
  have c0 := HX.out.cell (i := 0) rfl
  go_upto_region 5 with fail
  clear c0 q3 q5
  obtain ⟨q, gq⟩ : ∃ q, (o.m % 256).toNat = q := ⟨_, rfl⟩
  rw [gq] at HL
  have hu : IntKind.u8.wrap o.m = (q : Int) := by rw [IntKind.wrap_u8]; omega
  clear gq
  obtain ⟨B0, hB0⟩ : ∃ x, w1.heap.size = x := ⟨_, rfl⟩
  have HB0 := Lib.hid hB0
  have HG1 : RowKit.Hid (g0 < B0) := Lib.hid (by have := HX.out.lt; omega)
  have EX9 : RowKit.Hid (Ext w1 w1.drew) := Lib.hid ((Below.refl _ _).drew)
  have lC3 : ∀ w', Kept (From_ B0) w1.drew w' → w'.cell? ⟨g0, 3, none⟩ = some (.int .i64 o.s1) := fun w' h => h.from_cell HG1.out (EX9.out.cell (HX.out.cell (i := 3) rfl))
  have lC4 : ∀ w', Kept (From_ B0) w1.drew w' → w'.cell? ⟨g0, 4, none⟩ = some (.int .i64 o.n1) := fun w' h => h.from_cell HG1.out (EX9.out.cell (HX.out.cell (i := 4) rfl))
  have lC5 : ∀ w', Kept (From_ B0) w1.drew w' → w'.cell? ⟨g0, 5, none⟩ = some (.int .i64 o.s2) := fun w' h => h.from_cell HG1.out (EX9.out.cell (HX.out.cell (i := 5) rfl))
  have lC6 : ∀ w', Kept (From_ B0) w1.drew w' → w'.cell? ⟨g0, 6, none⟩ = some (.int .i64 o.n2) := fun w' h => h.from_cell HG1.out (EX9.out.cell (HX.out.cell (i := 6) rfl))
  have lC19 : ∀ w', Kept (From_ B0) w1.drew w' → w'.cell? ⟨g0, 19, none⟩ = some (.int .i64 o.m) := fun w' h => h.from_cell HG1.out (EX9.out.cell (HX.out.cell (i := 19) rfl))
  clear hB0
  refine wp_region_reg (From_ B0) (by kernel_rfl) ?_
  apply wpR_next 0 (some 16)
  · rfl
  · rfl
  · kernel_rfl
  · kernel_rfl
  · kernel_rfl
  · first | exact fun _ _ _ _ h => Exit.noConfusion h.1 | exact fun _ _ _ _ h => h
  apply Exists.intro
  apply And.intro
  · apply yr_run; rfl; intro w' hw'; go_simp; (try with_reducible rfl)
  simp only [Act.put, stA_, st0_, st1_]
  apply wpR_next 1 (some 17)
  · rfl
  · rfl
  · kernel_rfl
  · kernel_rfl
  · kernel_rfl
  · first | exact fun _ _ _ _ h => Exit.noConfusion h.1 | exact fun _ _ _ _ h => h
  apply Exists.intro
  apply And.intro
  · apply yr_run; rfl; intro w' hw'; go_simp; (try with_reducible rfl)
  simp only [Act.put, stA_, st0_, st1_]
  apply wpR_next 3 (some 19)
  · rfl
  · rfl
  · kernel_rfl
  · kernel_rfl
  · kernel_rfl
  · first | exact fun _ _ _ _ h => Exit.noConfusion h.1 | exact fun _ _ _ _ h => h
  apply Exists.intro
  apply And.intro
  · apply yr_run; rfl; intro w' hw'; go_simp; (try with_reducible rfl)
  simp only [Act.put, stA_, st0_, st1_]
  apply wpR_next 4 (some 20)
  · rfl
  · rfl
  · kernel_rfl
  · kernel_rfl
  · kernel_rfl
  · first | exact fun _ _ _ _ h => Exit.noConfusion h.1 | exact fun _ _ _ _ h => h
  apply Exists.intro
  apply And.intro
  · apply yr_run; rfl; intro w' hw'; go_simp; (try with_reducible rfl)
  simp only [Act.put, stA_, st0_, st1_]
  apply wpR_next 7 (some 23)
  · rfl
  · rfl
  · kernel_rfl
  · kernel_rfl
  · kernel_rfl
  · first | exact fun _ _ _ _ h => Exit.noConfusion h.1 | exact fun _ _ _ _ h => h
  apply Exists.intro
  apply And.intro
  · apply yr_run; rfl; intro w' hw'; go_simp; (try with_reducible rfl)
  simp only [Act.put, stA_, st0_, st1_]
  apply wpR_next 8 (some 24)
  · rfl
  · rfl
  · kernel_rfl
  · kernel_rfl
  · kernel_rfl
  · first | exact fun _ _ _ _ h => Exit.noConfusion h.1 | exact fun _ _ _ _ h => h
  apply Exists.intro
  apply And.intro
  · apply yr_run; rfl; intro w' hw'; go_simp; (try with_reducible rfl)
  simp only [Act.put, stA_, st0_, st1_]
  apply wpR_next 9 (some 25)
  · rfl
  · rfl
  · kernel_rfl
  · kernel_rfl
  · kernel_rfl
  · first | exact fun _ _ _ _ h => Exit.noConfusion h.1 | exact fun _ _ _ _ h => h
  apply Exists.intro
  apply And.intro
  · apply yr_run; rfl; intro w' hw'; go_simp; (try with_reducible rfl)
  simp only [Act.put, stA_, st0_, st1_]
  refine wpR_two 2 10 (by kernel_rfl) ?_ ?_
  · apply at_call 2 (some 18)
    · rfl
    · rfl
    · rfl
    · intro w'; go_simp; first | done | exact ⟨rfl, rfl⟩ | with_reducible rfl
    intro w' hw'
    have E_1_2 := Lib.hid (Ext.trans EX9.out (hw'))
    refine (oname_4 o.s1 o.n1 _).mono ?_
    rintro e w'' ⟨AA1_1, cc1_1, rfl, -, -, hown, hb⟩
    have E_1_3 := Lib.hid (Ext.trans E_1_2.out (hb))
    have RR_n1_1 : RowKit.Hid (Ow w1 B0 5 1 (.slice AA1_1 4 cc1_1) 4 (rowsV f8 (idB (o.s1, o.n1))) w'') := Lib.hid ⟨own_lo8 hown (by have h1 := E_1_2.out.size; have h2 := HB0.out; omega), E_1_3.out, Nat.le_of_eq HB0.out, by have h1 := E_1_3.out.size; have h2 := HB0.out; omega⟩
    have hkk : Kept (From_ B0) w1.drew w'' := (Kept.of_ext hw').trans (Kept.of_below hb)
    refine ⟨_, rfl, Kept.of_below hb, ?_⟩
    obtain ⟨z1_1, gz1_1⟩ : ∃ x, w'' = x := ⟨_, rfl⟩
    rw [gz1_1] at RR_n1_1 E_1_3 hkk ⊢
    have ldt1_4 := fun w'' (h : Kept (From_ B0) z1_1 w'') => lC3 w'' (hkk.trans h)
    have ldt1_5 := fun w'' (h : Kept (From_ B0) z1_1 w'') => lC4 w'' (hkk.trans h)
    have ldt1_6 := fun w'' (h : Kept (From_ B0) z1_1 w'') => lC5 w'' (hkk.trans h)
    have ldt1_7 := fun w'' (h : Kept (From_ B0) z1_1 w'') => lC6 w'' (hkk.trans h)
    have ldt1_8 := fun w'' (h : Kept (From_ B0) z1_1 w'') => lC19 w'' (hkk.trans h)
    clear lC3 lC4 lC5 lC6 lC19
    clear hkk hown hb gz1_1 hw'
    try simp only [Act.put, stA_, st0_, st1_]
    refine wpR_two 5 10 (by kernel_rfl) ?_ ?_
    · apply at_call 5 (some 21)
      · rfl
      · rfl
      · rfl
      · intro w'; go_simp; first | done | exact ⟨rfl, rfl⟩ | with_reducible rfl
      intro w' hw'
      have RR_2_10 := Lib.hid (Ow.up RR_n1_1.out (hw'))
      have E_2_10 := Lib.hid (Ext.trans E_1_3.out (hw'))
      refine (oname_4 o.s2 o.n2 _).mono ?_
      rintro e w'' ⟨A3, c3, rfl, hr3, hn3, -, hb⟩
      have NE_R_N_2_9 : RowKit.Hid (∀ a, A3 = some a → 0 < 4 → some a.block ≠ _) := Lib.hid (fun a ha hn e => by have h1 := (RR_2_10.out.own.lt _ e.symm).2; have h2 := hn3 a ha hn; omega)
      have RR_2_11 := Lib.hid (Ow.up RR_2_10.out (hb))
      have E_2_11 := Lib.hid (Ext.trans E_2_10.out (hb))
      have UN_2_9 := Lib.hid hr3
      clear hr3 hn3
      have hkk : Kept (From_ B0) z1_1 w'' := (Kept.of_ext hw').trans (Kept.of_below hb)
      refine ⟨_, rfl, Kept.of_below hb, ?_⟩
      obtain ⟨z2_9, gz2_9⟩ : ∃ x, w'' = x := ⟨_, rfl⟩
      rw [gz2_9] at RR_2_11 UN_2_9 E_2_11 hkk ⊢
      have ldt2_12 := fun w'' (h : Kept (From_ B0) z2_9 w'') => ldt1_4 w'' (hkk.trans h)
      have ldt2_13 := fun w'' (h : Kept (From_ B0) z2_9 w'') => ldt1_5 w'' (hkk.trans h)
      have ldt2_14 := fun w'' (h : Kept (From_ B0) z2_9 w'') => ldt1_6 w'' (hkk.trans h)
      have ldt2_15 := fun w'' (h : Kept (From_ B0) z2_9 w'') => ldt1_7 w'' (hkk.trans h)
      have ldt2_16 := fun w'' (h : Kept (From_ B0) z2_9 w'') => ldt1_8 w'' (hkk.trans h)
      clear ldt1_4 ldt1_5 ldt1_6 ldt1_7 ldt1_8
      clear hkk hb gz2_9 hw'
      try simp only [Act.put, stA_, st0_, st1_]
      refine wpR_two 6 10 (by kernel_rfl) ?_ ?_
      · apply at_run 6 (some 22)
        · rfl
        · rfl
        · rfl
        intro w' hw'
        have RR_3_18 := Lib.hid (Ow.up RR_2_11.out (hw'))
        have UN_3_18 := Lib.hid (RdS.bl UN_2_9.out (hw'))
        have E_3_18 := Lib.hid (Ext.trans E_2_11.out (hw'))
        obtain ⟨vv, w'', hrun, ho, hb, hg, hbk⟩ := Ow.app2 (P := Try.prog) 23 23 5 i0 _ 1 1 _ Try.underlying23 hi hz0 hz1 hz2 rfl (by decide) _ _ _ RR_3_18.out _ _ _ _ _ (UN_3_18.out) (f8_all _) (by unfold maxLen; omega) (by omega)
        refine ⟨vv, w'', exec_append (by rfl) (by rfl) (by rfl) hrun, Kept.of_from hb, ?_⟩
        have UN_3_17 := Lib.hid (RdS.grown UN_3_18.out hg NE_R_N_2_9.out)
        have NE_R_N_3_17 : RowKit.Hid (∀ a, A3 = some a → 0 < 4 → some a.block ≠ _) := Lib.hid (fun a ha hn => Ow.ne2 (NE_R_N_2_9.out a ha hn) (UN_3_18.out.low a ha hn) hbk)
        have E_3_17 : RowKit.Hid (Ext w1 w'') := Lib.hid ho.below
        have hkk : Kept (From_ B0) z2_9 w'' := (Kept.of_ext hw').trans (Kept.of_from hb)
        obtain ⟨AA3_17, cc3_17, rfl, hrr⟩ := ho.rds
        have RR_3_17 := Lib.hid ho
        clear hrr
        obtain ⟨z3_17, gz3_17⟩ : ∃ x, w'' = x := ⟨_, rfl⟩
        rw [gz3_17] at RR_3_17 UN_3_17 E_3_17 hkk ⊢
        have ldt3_19 := fun w'' (h : Kept (From_ B0) z3_17 w'') => ldt2_12 w'' (hkk.trans h)
        have ldt3_20 := fun w'' (h : Kept (From_ B0) z3_17 w'') => ldt2_13 w'' (hkk.trans h)
        have ldt3_21 := fun w'' (h : Kept (From_ B0) z3_17 w'') => ldt2_14 w'' (hkk.trans h)
        have ldt3_22 := fun w'' (h : Kept (From_ B0) z3_17 w'') => ldt2_15 w'' (hkk.trans h)
        have ldt3_23 := fun w'' (h : Kept (From_ B0) z3_17 w'') => ldt2_16 w'' (hkk.trans h)
        clear ldt2_12 ldt2_13 ldt2_14 ldt2_15 ldt2_16
        clear hkk hrun ho hb hg hbk gz3_17 hw'
        try simp only [Act.put, stA_, st0_, st1_]
        refine wpR_one 10 (by kernel_rfl) ?_
        apply at_run 10 (some 26)
        · rfl
        · rfl
        · rfl
        intro w' hw'
        have RR_3_25 := Lib.hid (Ow.up RR_3_17.out (hw'))
        have UN_3_25 := Lib.hid (RdS.bl UN_3_17.out (hw'))
        have E_3_25 := Lib.hid (Ext.trans E_3_17.out (hw'))
        refine ⟨.slice (some ⟨w'.heap.size, 0, none⟩) 1 1, w'.alloc (.cells (#[.int .u8 (q : Int)]) 5), exec_buildSlice 23 5 1 #[(0, .tmp 25)] (by rfl) Try.underlying23 _ (by kernel_rfl), Kept.of_below (below1 _ _), ?_⟩
        have NE_R_S_3_24 : RowKit.Hid (some w'.heap.size ≠ _) := Lib.hid (Ow.ne_ RR_3_25.out (Nat.le_refl _))
        have RR_3_26 := Lib.hid (Ow.up RR_3_25.out (below1 w' (.cells (#[.int .u8 (q : Int)]) 5)))
        have UN_3_26 := Lib.hid (RdS.bl UN_3_25.out (below1 w' (.cells (#[.int .u8 (q : Int)]) 5)))
        have E_3_26 := Lib.hid (Ext.trans E_3_25.out (below1 w' (.cells (#[.int .u8 (q : Int)]) 5)))
        have US_n3_24 : RowKit.Hid (RdS (w'.alloc (.cells (#[.int .u8 (q : Int)]) 5)) (w'.alloc (.cells (#[.int .u8 (q : Int)]) 5)).heap.size 1 (some ⟨w'.heap.size, 0, none⟩) 1 1 (rowsV f8 [q])) := Lib.hid (RdS.of_whole8 (Whole.new_ _ _ _) rfl)
        have hkk : Kept (From_ B0) z3_17 (w'.alloc (.cells (#[.int .u8 (q : Int)]) 5)) := (Kept.of_ext hw').trans (Kept.of_below (below1 _ _))
        obtain ⟨v3_27, gv3_27⟩ : ∃ x, w'.alloc (.cells (#[.int .u8 (q : Int)]) 5) = x := ⟨_, rfl⟩
        rw [gv3_27] at RR_3_26 UN_3_26 US_n3_24 E_3_26 hkk ⊢
        have ldt3_28 := fun w'' (h : Kept (From_ B0) v3_27 w'') => ldt3_19 w'' (hkk.trans h)
        have ldt3_29 := fun w'' (h : Kept (From_ B0) v3_27 w'') => ldt3_20 w'' (hkk.trans h)
        have ldt3_30 := fun w'' (h : Kept (From_ B0) v3_27 w'') => ldt3_21 w'' (hkk.trans h)
        have ldt3_31 := fun w'' (h : Kept (From_ B0) v3_27 w'') => ldt3_22 w'' (hkk.trans h)
        have ldt3_32 := fun w'' (h : Kept (From_ B0) v3_27 w'') => ldt3_23 w'' (hkk.trans h)
        clear ldt3_19 ldt3_20 ldt3_21 ldt3_22 ldt3_23
        clear gv3_27 hkk
        obtain ⟨g3_24, gg3_24⟩ : ∃ x, w'.heap.size = x := ⟨_, rfl⟩
        rw [gg3_24] at US_n3_24 NE_R_S_3_24 ⊢
        clear gg3_24 hw'
        have NF_NE_R_S_3_24 : RowKit.Hid (∀ a, (some (⟨g3_24, 0, none⟩ : Addr)) = some a → 0 < 1 → some a.block ≠ _) := Lib.hid (fun a ha _ => by obtain rfl := Option.some.inj ha; exact NE_R_S_3_24.out)
        try simp only [Act.put, stA_, st0_, st1_]
        refine wpR_one 11 (by kernel_rfl) ?_
        apply at_run 11 (some 27)
        · rfl
        · rfl
        · rfl
        intro w' hw'
        have RR_3_34 := Lib.hid (Ow.up RR_3_26.out (hw'))
        have UN_3_34 := Lib.hid (RdS.bl UN_3_26.out (hw'))
        have US_3_34 := Lib.hid (RdS.bl US_n3_24.out (hw'))
        have E_3_34 := Lib.hid (Ext.trans E_3_26.out (hw'))
        obtain ⟨vv, w'', hrun, ho, hb, hg, hbk⟩ := Ow.app2 (P := Try.prog) 23 23 5 i0 _ 1 1 _ Try.underlying23 hi hz0 hz1 hz2 rfl (by decide) _ _ _ RR_3_34.out _ _ _ _ _ (US_3_34.out) (f8_all _) (by unfold maxLen; omega) (by omega)
        refine ⟨vv, w'', exec_append (by rfl) (by rfl) (by rfl) hrun, Kept.of_from hb, ?_⟩
        have UN_3_33 := Lib.hid (RdS.grown UN_3_34.out hg NE_R_N_3_17.out)
        have NE_R_N_3_33 : RowKit.Hid (∀ a, A3 = some a → 0 < 4 → some a.block ≠ _) := Lib.hid (fun a ha hn => Ow.ne2 (NE_R_N_3_17.out a ha hn) (UN_3_34.out.low a ha hn) hbk)
        have US_3_33 := Lib.hid (RdS.grown US_3_34.out hg NF_NE_R_S_3_24.out)
        have NE_R_S_3_33 : RowKit.Hid (∀ a, (some (⟨g3_24, 0, none⟩ : Addr)) = some a → 0 < 1 → some a.block ≠ _) := Lib.hid (fun a ha hn => Ow.ne2 (NF_NE_R_S_3_24.out a ha hn) (US_3_34.out.low a ha hn) hbk)
        have E_3_33 : RowKit.Hid (Ext w1 w'') := Lib.hid ho.below
        have hkk : Kept (From_ B0) v3_27 w'' := (Kept.of_ext hw').trans (Kept.of_from hb)
        obtain ⟨AA3_33, cc3_33, rfl, hrr⟩ := ho.rds
        have RR_3_33 := Lib.hid ho
        clear hrr
        obtain ⟨z3_33, gz3_33⟩ : ∃ x, w'' = x := ⟨_, rfl⟩
        rw [gz3_33] at RR_3_33 UN_3_33 US_3_33 E_3_33 hkk ⊢
        have ldt3_35 := fun w'' (h : Kept (From_ B0) z3_33 w'') => ldt3_28 w'' (hkk.trans h)
        have ldt3_36 := fun w'' (h : Kept (From_ B0) z3_33 w'') => ldt3_29 w'' (hkk.trans h)
        have ldt3_37 := fun w'' (h : Kept (From_ B0) z3_33 w'') => ldt3_30 w'' (hkk.trans h)
        have ldt3_38 := fun w'' (h : Kept (From_ B0) z3_33 w'') => ldt3_31 w'' (hkk.trans h)
        have ldt3_39 := fun w'' (h : Kept (From_ B0) z3_33 w'') => ldt3_32 w'' (hkk.trans h)
        clear ldt3_28 ldt3_29 ldt3_30 ldt3_31 ldt3_32
        clear hkk hrun ho hb hg hbk gz3_33 hw'
        try simp only [Act.put, stA_, st0_, st1_]
        apply wpR_next 12 (some 2)
        · rfl
        · rfl
        · kernel_rfl
        · kernel_rfl
        · kernel_rfl
        · first | exact fun _ _ _ _ h => Exit.noConfusion h.1 | exact fun _ _ _ _ h => h
        apply Exists.intro
        apply And.intro
        · apply yr_run; rfl; intro w' hw'; go_simp; (try with_reducible rfl)
        simp only [Act.put, stA_, st0_, st1_]
        refine wpR_done (by kernel_rfl) ?_ _
        intro wE hwE
        have ho := (RR_3_33.out.up hwE)
        rw [show rowsV f8 (idB (o.s1, o.n1)) ++ rowsV f8 (idB (o.s2, o.n2)) ++ rowsV f8 [q] = rowsV f8 (idB (o.s1, o.n1) ++ (idB (o.s2, o.n2) ++ [q])) from by rw [rowsV_app, rowsV_app, List.append_assoc]] at ho
        obtain ⟨A9, c9, e9, hG⟩ := gives8_ow (w := w1) (L := idB (o.s1, o.n1) ++ (idB (o.s2, o.n2) ++ [q])) rfl (⟨own_lo8 ho.own (Nat.le_of_eq HB0.out), ho.below, Nat.le_refl _, ho.below.size⟩ : Ow w1 w1.heap.size 5 1 _ _ _ _)
        rw [← HL.out] at hG
        try rw [← HL.out] at e9
        have HG := Lib.hid (Gives8.from_ hG HB1.out)
        have HE := Lib.hid e9
        clear ho hG hwE e9 ldt3_35 ldt3_36 ldt3_37 ldt3_38 ldt3_39
        go_wp2
        go_ret
        exact HE.out ▸ HG.out
      · apply at_run 10 (some 26)
        · rfl
        · rfl
        · rfl
        intro w' hw'
        have RR_4_41 := Lib.hid (Ow.up RR_2_11.out (hw'))
        have UN_4_41 := Lib.hid (RdS.bl UN_2_9.out (hw'))
        have E_4_41 := Lib.hid (Ext.trans E_2_11.out (hw'))
        refine ⟨.slice (some ⟨w'.heap.size, 0, none⟩) 1 1, w'.alloc (.cells (#[.int .u8 (q : Int)]) 5), exec_buildSlice 23 5 1 #[(0, .tmp 25)] (by rfl) Try.underlying23 _ (by kernel_rfl), Kept.of_below (below1 _ _), ?_⟩
        have NE_R_S_4_40 : RowKit.Hid (some w'.heap.size ≠ _) := Lib.hid (Ow.ne_ RR_4_41.out (Nat.le_refl _))
        have RR_4_42 := Lib.hid (Ow.up RR_4_41.out (below1 w' (.cells (#[.int .u8 (q : Int)]) 5)))
        have UN_4_42 := Lib.hid (RdS.bl UN_4_41.out (below1 w' (.cells (#[.int .u8 (q : Int)]) 5)))
        have E_4_42 := Lib.hid (Ext.trans E_4_41.out (below1 w' (.cells (#[.int .u8 (q : Int)]) 5)))
        have US_n4_40 : RowKit.Hid (RdS (w'.alloc (.cells (#[.int .u8 (q : Int)]) 5)) (w'.alloc (.cells (#[.int .u8 (q : Int)]) 5)).heap.size 1 (some ⟨w'.heap.size, 0, none⟩) 1 1 (rowsV f8 [q])) := Lib.hid (RdS.of_whole8 (Whole.new_ _ _ _) rfl)
        have hkk : Kept (From_ B0) z2_9 (w'.alloc (.cells (#[.int .u8 (q : Int)]) 5)) := (Kept.of_ext hw').trans (Kept.of_below (below1 _ _))
        obtain ⟨v4_43, gv4_43⟩ : ∃ x, w'.alloc (.cells (#[.int .u8 (q : Int)]) 5) = x := ⟨_, rfl⟩
        rw [gv4_43] at RR_4_42 UN_4_42 US_n4_40 E_4_42 hkk ⊢
        have ldt4_44 := fun w'' (h : Kept (From_ B0) v4_43 w'') => ldt2_12 w'' (hkk.trans h)
        have ldt4_45 := fun w'' (h : Kept (From_ B0) v4_43 w'') => ldt2_13 w'' (hkk.trans h)
        have ldt4_46 := fun w'' (h : Kept (From_ B0) v4_43 w'') => ldt2_14 w'' (hkk.trans h)
        have ldt4_47 := fun w'' (h : Kept (From_ B0) v4_43 w'') => ldt2_15 w'' (hkk.trans h)
        have ldt4_48 := fun w'' (h : Kept (From_ B0) v4_43 w'') => ldt2_16 w'' (hkk.trans h)
        clear ldt2_12 ldt2_13 ldt2_14 ldt2_15 ldt2_16
        clear gv4_43 hkk
        obtain ⟨g4_40, gg4_40⟩ : ∃ x, w'.heap.size = x := ⟨_, rfl⟩
        rw [gg4_40] at US_n4_40 NE_R_S_4_40 ⊢
        clear gg4_40 hw'
        have NF_NE_R_S_4_40 : RowKit.Hid (∀ a, (some (⟨g4_40, 0, none⟩ : Addr)) = some a → 0 < 1 → some a.block ≠ _) := Lib.hid (fun a ha _ => by obtain rfl := Option.some.inj ha; exact NE_R_S_4_40.out)
        try simp only [Act.put, stA_, st0_, st1_]
        refine wpR_one 6 (by kernel_rfl) ?_
        apply at_run 6 (some 22)
        · rfl
        · rfl
        · rfl
        intro w' hw'
        have RR_4_50 := Lib.hid (Ow.up RR_4_42.out (hw'))
        have UN_4_50 := Lib.hid (RdS.bl UN_4_42.out (hw'))
        have US_4_50 := Lib.hid (RdS.bl US_n4_40.out (hw'))
        have E_4_50 := Lib.hid (Ext.trans E_4_42.out (hw'))
        obtain ⟨vv, w'', hrun, ho, hb, hg, hbk⟩ := Ow.app2 (P := Try.prog) 23 23 5 i0 _ 1 1 _ Try.underlying23 hi hz0 hz1 hz2 rfl (by decide) _ _ _ RR_4_50.out _ _ _ _ _ (UN_4_50.out) (f8_all _) (by unfold maxLen; omega) (by omega)
        refine ⟨vv, w'', exec_append (by rfl) (by rfl) (by rfl) hrun, Kept.of_from hb, ?_⟩
        have UN_4_49 := Lib.hid (RdS.grown UN_4_50.out hg NE_R_N_2_9.out)
        have NE_R_N_4_49 : RowKit.Hid (∀ a, A3 = some a → 0 < 4 → some a.block ≠ _) := Lib.hid (fun a ha hn => Ow.ne2 (NE_R_N_2_9.out a ha hn) (UN_4_50.out.low a ha hn) hbk)
        have US_4_49 := Lib.hid (RdS.grown US_4_50.out hg NF_NE_R_S_4_40.out)
        have NE_R_S_4_49 : RowKit.Hid (∀ a, (some (⟨g4_40, 0, none⟩ : Addr)) = some a → 0 < 1 → some a.block ≠ _) := Lib.hid (fun a ha hn => Ow.ne2 (NF_NE_R_S_4_40.out a ha hn) (US_4_50.out.low a ha hn) hbk)
        have E_4_49 : RowKit.Hid (Ext w1 w'') := Lib.hid ho.below
        have hkk : Kept (From_ B0) v4_43 w'' := (Kept.of_ext hw').trans (Kept.of_from hb)
        obtain ⟨AA4_49, cc4_49, rfl, hrr⟩ := ho.rds
        have RR_4_49 := Lib.hid ho
        clear hrr
        obtain ⟨z4_49, gz4_49⟩ : ∃ x, w'' = x := ⟨_, rfl⟩
        rw [gz4_49] at RR_4_49 UN_4_49 US_4_49 E_4_49 hkk ⊢
        have ldt4_51 := fun w'' (h : Kept (From_ B0) z4_49 w'') => ldt4_44 w'' (hkk.trans h)
        have ldt4_52 := fun w'' (h : Kept (From_ B0) z4_49 w'') => ldt4_45 w'' (hkk.trans h)
        have ldt4_53 := fun w'' (h : Kept (From_ B0) z4_49 w'') => ldt4_46 w'' (hkk.trans h)
        have ldt4_54 := fun w'' (h : Kept (From_ B0) z4_49 w'') => ldt4_47 w'' (hkk.trans h)
        have ldt4_55 := fun w'' (h : Kept (From_ B0) z4_49 w'') => ldt4_48 w'' (hkk.trans h)
        clear ldt4_44 ldt4_45 ldt4_46 ldt4_47 ldt4_48
        clear hkk hrun ho hb hg hbk gz4_49 hw'
        try simp only [Act.put, stA_, st0_, st1_]
        refine wpR_one 11 (by kernel_rfl) ?_
        apply at_run 11 (some 27)
        · rfl
        · rfl
        · rfl
        intro w' hw'
        have RR_4_57 := Lib.hid (Ow.up RR_4_49.out (hw'))
        have UN_4_57 := Lib.hid (RdS.bl UN_4_49.out (hw'))
        have US_4_57 := Lib.hid (RdS.bl US_4_49.out (hw'))
        have E_4_57 := Lib.hid (Ext.trans E_4_49.out (hw'))
        obtain ⟨vv, w'', hrun, ho, hb, hg, hbk⟩ := Ow.app2 (P := Try.prog) 23 23 5 i0 _ 1 1 _ Try.underlying23 hi hz0 hz1 hz2 rfl (by decide) _ _ _ RR_4_57.out _ _ _ _ _ (US_4_57.out) (f8_all _) (by unfold maxLen; omega) (by omega)
        refine ⟨vv, w'', exec_append (by rfl) (by rfl) (by rfl) hrun, Kept.of_from hb, ?_⟩
        have UN_4_56 := Lib.hid (RdS.grown UN_4_57.out hg NE_R_N_4_49.out)
        have NE_R_N_4_56 : RowKit.Hid (∀ a, A3 = some a → 0 < 4 → some a.block ≠ _) := Lib.hid (fun a ha hn => Ow.ne2 (NE_R_N_4_49.out a ha hn) (UN_4_57.out.low a ha hn) hbk)
        have US_4_56 := Lib.hid (RdS.grown US_4_57.out hg NE_R_S_4_49.out)
        have NE_R_S_4_56 : RowKit.Hid (∀ a, (some (⟨g4_40, 0, none⟩ : Addr)) = some a → 0 < 1 → some a.block ≠ _) := Lib.hid (fun a ha hn => Ow.ne2 (NE_R_S_4_49.out a ha hn) (US_4_57.out.low a ha hn) hbk)
        have E_4_56 : RowKit.Hid (Ext w1 w'') := Lib.hid ho.below
        have hkk : Kept (From_ B0) z4_49 w'' := (Kept.of_ext hw').trans (Kept.of_from hb)
        obtain ⟨AA4_56, cc4_56, rfl, hrr⟩ := ho.rds
        have RR_4_56 := Lib.hid ho
        clear hrr
        obtain ⟨z4_56, gz4_56⟩ : ∃ x, w'' = x := ⟨_, rfl⟩
        rw [gz4_56] at RR_4_56 UN_4_56 US_4_56 E_4_56 hkk ⊢
        have ldt4_58 := fun w'' (h : Kept (From_ B0) z4_56 w'') => ldt4_51 w'' (hkk.trans h)
        have ldt4_59 := fun w'' (h : Kept (From_ B0) z4_56 w'') => ldt4_52 w'' (hkk.trans h)
        have ldt4_60 := fun w'' (h : Kept (From_ B0) z4_56 w'') => ldt4_53 w'' (hkk.trans h)
        have ldt4_61 := fun w'' (h : Kept (From_ B0) z4_56 w'') => ldt4_54 w'' (hkk.trans h)
        have ldt4_62 := fun w'' (h : Kept (From_ B0) z4_56 w'') => ldt4_55 w'' (hkk.trans h)
        clear ldt4_51 ldt4_52 ldt4_53 ldt4_54 ldt4_55
        clear hkk hrun ho hb hg hbk gz4_56 hw'
        try simp only [Act.put, stA_, st0_, st1_]
        apply wpR_next 12 (some 2)
        · rfl
        · rfl
        · kernel_rfl
        · kernel_rfl
        · kernel_rfl
        · first | exact fun _ _ _ _ h => Exit.noConfusion h.1 | exact fun _ _ _ _ h => h
        apply Exists.intro
        apply And.intro
        · apply yr_run; rfl; intro w' hw'; go_simp; (try with_reducible rfl)
        simp only [Act.put, stA_, st0_, st1_]
        refine wpR_done (by kernel_rfl) ?_ _
        intro wE hwE
        have ho := (RR_4_56.out.up hwE)
        rw [show rowsV f8 (idB (o.s1, o.n1)) ++ rowsV f8 (idB (o.s2, o.n2)) ++ rowsV f8 [q] = rowsV f8 (idB (o.s1, o.n1) ++ (idB (o.s2, o.n2) ++ [q])) from by rw [rowsV_app, rowsV_app, List.append_assoc]] at ho
        obtain ⟨A9, c9, e9, hG⟩ := gives8_ow (w := w1) (L := idB (o.s1, o.n1) ++ (idB (o.s2, o.n2) ++ [q])) rfl (⟨own_lo8 ho.own (Nat.le_of_eq HB0.out), ho.below, Nat.le_refl _, ho.below.size⟩ : Ow w1 w1.heap.size 5 1 _ _ _ _)
        rw [← HL.out] at hG
        try rw [← HL.out] at e9
        have HG := Lib.hid (Gives8.from_ hG HB1.out)
        have HE := Lib.hid e9
        clear ho hG hwE e9 ldt4_58 ldt4_59 ldt4_60 ldt4_61 ldt4_62
        go_wp2
        go_ret
        exact HE.out ▸ HG.out
    · apply at_run 10 (some 26)
      · rfl
      · rfl
      · rfl
      intro w' hw'
      have RR_5_64 := Lib.hid (Ow.up RR_n1_1.out (hw'))
      have E_5_64 := Lib.hid (Ext.trans E_1_3.out (hw'))
      refine ⟨.slice (some ⟨w'.heap.size, 0, none⟩) 1 1, w'.alloc (.cells (#[.int .u8 (q : Int)]) 5), exec_buildSlice 23 5 1 #[(0, .tmp 25)] (by rfl) Try.underlying23 _ (by kernel_rfl), Kept.of_below (below1 _ _), ?_⟩
      have NE_R_S_5_63 : RowKit.Hid (some w'.heap.size ≠ _) := Lib.hid (Ow.ne_ RR_5_64.out (Nat.le_refl _))
      have RR_5_65 := Lib.hid (Ow.up RR_5_64.out (below1 w' (.cells (#[.int .u8 (q : Int)]) 5)))
      have E_5_65 := Lib.hid (Ext.trans E_5_64.out (below1 w' (.cells (#[.int .u8 (q : Int)]) 5)))
      have US_n5_63 : RowKit.Hid (RdS (w'.alloc (.cells (#[.int .u8 (q : Int)]) 5)) (w'.alloc (.cells (#[.int .u8 (q : Int)]) 5)).heap.size 1 (some ⟨w'.heap.size, 0, none⟩) 1 1 (rowsV f8 [q])) := Lib.hid (RdS.of_whole8 (Whole.new_ _ _ _) rfl)
      have hkk : Kept (From_ B0) z1_1 (w'.alloc (.cells (#[.int .u8 (q : Int)]) 5)) := (Kept.of_ext hw').trans (Kept.of_below (below1 _ _))
      obtain ⟨v5_66, gv5_66⟩ : ∃ x, w'.alloc (.cells (#[.int .u8 (q : Int)]) 5) = x := ⟨_, rfl⟩
      rw [gv5_66] at RR_5_65 US_n5_63 E_5_65 hkk ⊢
      have ldt5_67 := fun w'' (h : Kept (From_ B0) v5_66 w'') => ldt1_4 w'' (hkk.trans h)
      have ldt5_68 := fun w'' (h : Kept (From_ B0) v5_66 w'') => ldt1_5 w'' (hkk.trans h)
      have ldt5_69 := fun w'' (h : Kept (From_ B0) v5_66 w'') => ldt1_6 w'' (hkk.trans h)
      have ldt5_70 := fun w'' (h : Kept (From_ B0) v5_66 w'') => ldt1_7 w'' (hkk.trans h)
      have ldt5_71 := fun w'' (h : Kept (From_ B0) v5_66 w'') => ldt1_8 w'' (hkk.trans h)
      clear ldt1_4 ldt1_5 ldt1_6 ldt1_7 ldt1_8
      clear gv5_66 hkk
      obtain ⟨g5_63, gg5_63⟩ : ∃ x, w'.heap.size = x := ⟨_, rfl⟩
      rw [gg5_63] at US_n5_63 NE_R_S_5_63 ⊢
      clear gg5_63 hw'
      have NF_NE_R_S_5_63 : RowKit.Hid (∀ a, (some (⟨g5_63, 0, none⟩ : Addr)) = some a → 0 < 1 → some a.block ≠ _) := Lib.hid (fun a ha _ => by obtain rfl := Option.some.inj ha; exact NE_R_S_5_63.out)
      try simp only [Act.put, stA_, st0_, st1_]
      refine wpR_one 5 (by kernel_rfl) ?_
      apply at_call 5 (some 21)
      · rfl
      · rfl
      · rfl
      · intro w'; go_simp; first | done | exact ⟨rfl, rfl⟩ | with_reducible rfl
      intro w' hw'
      have RR_5_73 := Lib.hid (Ow.up RR_5_65.out (hw'))
      have US_5_73 := Lib.hid (RdS.bl US_n5_63.out (hw'))
      have E_5_73 := Lib.hid (Ext.trans E_5_65.out (hw'))
      refine (oname_4 o.s2 o.n2 _).mono ?_
      rintro e w'' ⟨A3, c3, rfl, hr3, hn3, -, hb⟩
      have NE_R_N_5_72 : RowKit.Hid (∀ a, A3 = some a → 0 < 4 → some a.block ≠ _) := Lib.hid (fun a ha hn e => by have h1 := (RR_5_73.out.own.lt _ e.symm).2; have h2 := hn3 a ha hn; omega)
      have RR_5_74 := Lib.hid (Ow.up RR_5_73.out (hb))
      have US_5_74 := Lib.hid (RdS.bl US_5_73.out (hb))
      have E_5_74 := Lib.hid (Ext.trans E_5_73.out (hb))
      have UN_5_72 := Lib.hid hr3
      clear hr3 hn3
      have hkk : Kept (From_ B0) v5_66 w'' := (Kept.of_ext hw').trans (Kept.of_below hb)
      refine ⟨_, rfl, Kept.of_below hb, ?_⟩
      obtain ⟨z5_72, gz5_72⟩ : ∃ x, w'' = x := ⟨_, rfl⟩
      rw [gz5_72] at RR_5_74 US_5_74 UN_5_72 E_5_74 hkk ⊢
      have ldt5_75 := fun w'' (h : Kept (From_ B0) z5_72 w'') => ldt5_67 w'' (hkk.trans h)
      have ldt5_76 := fun w'' (h : Kept (From_ B0) z5_72 w'') => ldt5_68 w'' (hkk.trans h)
      have ldt5_77 := fun w'' (h : Kept (From_ B0) z5_72 w'') => ldt5_69 w'' (hkk.trans h)
      have ldt5_78 := fun w'' (h : Kept (From_ B0) z5_72 w'') => ldt5_70 w'' (hkk.trans h)
      have ldt5_79 := fun w'' (h : Kept (From_ B0) z5_72 w'') => ldt5_71 w'' (hkk.trans h)
      clear ldt5_67 ldt5_68 ldt5_69 ldt5_70 ldt5_71
      clear hkk hb gz5_72 hw'
      try simp only [Act.put, stA_, st0_, st1_]
      refine wpR_one 6 (by kernel_rfl) ?_
      apply at_run 6 (some 22)
      · rfl
      · rfl
      · rfl
      intro w' hw'
      have RR_5_81 := Lib.hid (Ow.up RR_5_74.out (hw'))
      have US_5_81 := Lib.hid (RdS.bl US_5_74.out (hw'))
      have UN_5_81 := Lib.hid (RdS.bl UN_5_72.out (hw'))
      have E_5_81 := Lib.hid (Ext.trans E_5_74.out (hw'))
      obtain ⟨vv, w'', hrun, ho, hb, hg, hbk⟩ := Ow.app2 (P := Try.prog) 23 23 5 i0 _ 1 1 _ Try.underlying23 hi hz0 hz1 hz2 rfl (by decide) _ _ _ RR_5_81.out _ _ _ _ _ (UN_5_81.out) (f8_all _) (by unfold maxLen; omega) (by omega)
      refine ⟨vv, w'', exec_append (by rfl) (by rfl) (by rfl) hrun, Kept.of_from hb, ?_⟩
      have US_5_80 := Lib.hid (RdS.grown US_5_81.out hg NF_NE_R_S_5_63.out)
      have NE_R_S_5_80 : RowKit.Hid (∀ a, (some (⟨g5_63, 0, none⟩ : Addr)) = some a → 0 < 1 → some a.block ≠ _) := Lib.hid (fun a ha hn => Ow.ne2 (NF_NE_R_S_5_63.out a ha hn) (US_5_81.out.low a ha hn) hbk)
      have UN_5_80 := Lib.hid (RdS.grown UN_5_81.out hg NE_R_N_5_72.out)
      have NE_R_N_5_80 : RowKit.Hid (∀ a, A3 = some a → 0 < 4 → some a.block ≠ _) := Lib.hid (fun a ha hn => Ow.ne2 (NE_R_N_5_72.out a ha hn) (UN_5_81.out.low a ha hn) hbk)
      have E_5_80 : RowKit.Hid (Ext w1 w'') := Lib.hid ho.below
      have hkk : Kept (From_ B0) z5_72 w'' := (Kept.of_ext hw').trans (Kept.of_from hb)
      obtain ⟨AA5_80, cc5_80, rfl, hrr⟩ := ho.rds
      have RR_5_80 := Lib.hid ho
      clear hrr
      obtain ⟨z5_80, gz5_80⟩ : ∃ x, w'' = x := ⟨_, rfl⟩
      rw [gz5_80] at RR_5_80 US_5_80 UN_5_80 E_5_80 hkk ⊢
      have ldt5_82 := fun w'' (h : Kept (From_ B0) z5_80 w'') => ldt5_75 w'' (hkk.trans h)
      have ldt5_83 := fun w'' (h : Kept (From_ B0) z5_80 w'') => ldt5_76 w'' (hkk.trans h)
      have ldt5_84 := fun w'' (h : Kept (From_ B0) z5_80 w'') => ldt5_77 w'' (hkk.trans h)
      have ldt5_85 := fun w'' (h : Kept (From_ B0) z5_80 w'') => ldt5_78 w'' (hkk.trans h)
      have ldt5_86 := fun w'' (h : Kept (From_ B0) z5_80 w'') => ldt5_79 w'' (hkk.trans h)
      clear ldt5_75 ldt5_76 ldt5_77 ldt5_78 ldt5_79
      clear hkk hrun ho hb hg hbk gz5_80 hw'
      try simp only [Act.put, stA_, st0_, st1_]
      refine wpR_one 11 (by kernel_rfl) ?_
      apply at_run 11 (some 27)
      · rfl
      · rfl
      · rfl
      intro w' hw'
      have RR_5_88 := Lib.hid (Ow.up RR_5_80.out (hw'))
      have US_5_88 := Lib.hid (RdS.bl US_5_80.out (hw'))
      have UN_5_88 := Lib.hid (RdS.bl UN_5_80.out (hw'))
      have E_5_88 := Lib.hid (Ext.trans E_5_80.out (hw'))
      obtain ⟨vv, w'', hrun, ho, hb, hg, hbk⟩ := Ow.app2 (P := Try.prog) 23 23 5 i0 _ 1 1 _ Try.underlying23 hi hz0 hz1 hz2 rfl (by decide) _ _ _ RR_5_88.out _ _ _ _ _ (US_5_88.out) (f8_all _) (by unfold maxLen; omega) (by omega)
      refine ⟨vv, w'', exec_append (by rfl) (by rfl) (by rfl) hrun, Kept.of_from hb, ?_⟩
      have US_5_87 := Lib.hid (RdS.grown US_5_88.out hg NE_R_S_5_80.out)
      have NE_R_S_5_87 : RowKit.Hid (∀ a, (some (⟨g5_63, 0, none⟩ : Addr)) = some a → 0 < 1 → some a.block ≠ _) := Lib.hid (fun a ha hn => Ow.ne2 (NE_R_S_5_80.out a ha hn) (US_5_88.out.low a ha hn) hbk)
      have UN_5_87 := Lib.hid (RdS.grown UN_5_88.out hg NE_R_N_5_80.out)
      have NE_R_N_5_87 : RowKit.Hid (∀ a, A3 = some a → 0 < 4 → some a.block ≠ _) := Lib.hid (fun a ha hn => Ow.ne2 (NE_R_N_5_80.out a ha hn) (UN_5_88.out.low a ha hn) hbk)
      have E_5_87 : RowKit.Hid (Ext w1 w'') := Lib.hid ho.below
      have hkk : Kept (From_ B0) z5_80 w'' := (Kept.of_ext hw').trans (Kept.of_from hb)
      obtain ⟨AA5_87, cc5_87, rfl, hrr⟩ := ho.rds
      have RR_5_87 := Lib.hid ho
      clear hrr
      obtain ⟨z5_87, gz5_87⟩ : ∃ x, w'' = x := ⟨_, rfl⟩
      rw [gz5_87] at RR_5_87 US_5_87 UN_5_87 E_5_87 hkk ⊢
      have ldt5_89 := fun w'' (h : Kept (From_ B0) z5_87 w'') => ldt5_82 w'' (hkk.trans h)
      have ldt5_90 := fun w'' (h : Kept (From_ B0) z5_87 w'') => ldt5_83 w'' (hkk.trans h)
      have ldt5_91 := fun w'' (h : Kept (From_ B0) z5_87 w'') => ldt5_84 w'' (hkk.trans h)
      have ldt5_92 := fun w'' (h : Kept (From_ B0) z5_87 w'') => ldt5_85 w'' (hkk.trans h)
      have ldt5_93 := fun w'' (h : Kept (From_ B0) z5_87 w'') => ldt5_86 w'' (hkk.trans h)
      clear ldt5_82 ldt5_83 ldt5_84 ldt5_85 ldt5_86
      clear hkk hrun ho hb hg hbk gz5_87 hw'
      try simp only [Act.put, stA_, st0_, st1_]
      apply wpR_next 12 (some 2)
      · rfl
      · rfl
      · kernel_rfl
      · kernel_rfl
      · kernel_rfl
      · first | exact fun _ _ _ _ h => Exit.noConfusion h.1 | exact fun _ _ _ _ h => h
      apply Exists.intro
      apply And.intro
      · apply yr_run; rfl; intro w' hw'; go_simp; (try with_reducible rfl)
      simp only [Act.put, stA_, st0_, st1_]
      refine wpR_done (by kernel_rfl) ?_ _
      intro wE hwE
      have ho := (RR_5_87.out.up hwE)
      rw [show rowsV f8 (idB (o.s1, o.n1)) ++ rowsV f8 (idB (o.s2, o.n2)) ++ rowsV f8 [q] = rowsV f8 (idB (o.s1, o.n1) ++ (idB (o.s2, o.n2) ++ [q])) from by rw [rowsV_app, rowsV_app, List.append_assoc]] at ho
      obtain ⟨A9, c9, e9, hG⟩ := gives8_ow (w := w1) (L := idB (o.s1, o.n1) ++ (idB (o.s2, o.n2) ++ [q])) rfl (⟨own_lo8 ho.own (Nat.le_of_eq HB0.out), ho.below, Nat.le_refl _, ho.below.size⟩ : Ow w1 w1.heap.size 5 1 _ _ _ _)
      rw [← HL.out] at hG
      try rw [← HL.out] at e9
      have HG := Lib.hid (Gives8.from_ hG HB1.out)
      have HE := Lib.hid e9
      clear ho hG hwE e9 ldt5_89 ldt5_90 ldt5_91 ldt5_92 ldt5_93
      go_wp2
      go_ret
      exact HE.out ▸ HG.out
  · apply at_run 10 (some 26)
    · rfl
    · rfl
    · rfl
    intro w' hw'
    have E_6_95 := Lib.hid (Ext.trans EX9.out (hw'))
    refine ⟨.slice (some ⟨w'.heap.size, 0, none⟩) 1 1, w'.alloc (.cells (#[.int .u8 (q : Int)]) 5), exec_buildSlice 23 5 1 #[(0, .tmp 25)] (by rfl) Try.underlying23 _ (by kernel_rfl), Kept.of_below (below1 _ _), ?_⟩
    have E_6_96 := Lib.hid (Ext.trans E_6_95.out (below1 w' (.cells (#[.int .u8 (q : Int)]) 5)))
    have US_n6_94 : RowKit.Hid (RdS (w'.alloc (.cells (#[.int .u8 (q : Int)]) 5)) (w'.alloc (.cells (#[.int .u8 (q : Int)]) 5)).heap.size 1 (some ⟨w'.heap.size, 0, none⟩) 1 1 (rowsV f8 [q])) := Lib.hid (RdS.of_whole8 (Whole.new_ _ _ _) rfl)
    have hkk : Kept (From_ B0) w1.drew (w'.alloc (.cells (#[.int .u8 (q : Int)]) 5)) := (Kept.of_ext hw').trans (Kept.of_below (below1 _ _))
    obtain ⟨v6_97, gv6_97⟩ : ∃ x, w'.alloc (.cells (#[.int .u8 (q : Int)]) 5) = x := ⟨_, rfl⟩
    rw [gv6_97] at US_n6_94 E_6_96 hkk ⊢
    have ldt6_98 := fun w'' (h : Kept (From_ B0) v6_97 w'') => lC3 w'' (hkk.trans h)
    have ldt6_99 := fun w'' (h : Kept (From_ B0) v6_97 w'') => lC4 w'' (hkk.trans h)
    have ldt6_100 := fun w'' (h : Kept (From_ B0) v6_97 w'') => lC5 w'' (hkk.trans h)
    have ldt6_101 := fun w'' (h : Kept (From_ B0) v6_97 w'') => lC6 w'' (hkk.trans h)
    have ldt6_102 := fun w'' (h : Kept (From_ B0) v6_97 w'') => lC19 w'' (hkk.trans h)
    clear lC3 lC4 lC5 lC6 lC19
    clear gv6_97 hkk
    obtain ⟨g6_94, gg6_94⟩ : ∃ x, w'.heap.size = x := ⟨_, rfl⟩
    rw [gg6_94] at US_n6_94  ⊢
    clear gg6_94 hw'
    try simp only [Act.put, stA_, st0_, st1_]
    refine wpR_one 2 (by kernel_rfl) ?_
    apply at_call 2 (some 18)
    · rfl
    · rfl
    · rfl
    · intro w'; go_simp; first | done | exact ⟨rfl, rfl⟩ | with_reducible rfl
    intro w' hw'
    have US_6_104 := Lib.hid (RdS.bl US_n6_94.out (hw'))
    have E_6_104 := Lib.hid (Ext.trans E_6_96.out (hw'))
    refine (oname_4 o.s1 o.n1 _).mono ?_
    rintro e w'' ⟨AA6_103, cc6_103, rfl, -, -, hown, hb⟩
    have NE_R_S_6_103 : RowKit.Hid (∀ a, (some (⟨g6_94, 0, none⟩ : Addr)) = some a → 0 < 1 → some a.block ≠ (Value.slice AA6_103 4 cc6_103).ownBlock) := Lib.hid (fun a ha hn e => by have h1 := (hown.lt _ e.symm).1; have h2 := US_6_104.out.low a ha hn; omega)
    have US_6_105 := Lib.hid (RdS.bl US_6_104.out (hb))
    have E_6_105 := Lib.hid (Ext.trans E_6_104.out (hb))
    have RR_n6_103 : RowKit.Hid (Ow w1 B0 5 1 (.slice AA6_103 4 cc6_103) 4 (rowsV f8 (idB (o.s1, o.n1))) w'') := Lib.hid ⟨own_lo8 hown (by have h1 := E_6_104.out.size; have h2 := HB0.out; omega), E_6_105.out, Nat.le_of_eq HB0.out, by have h1 := E_6_105.out.size; have h2 := HB0.out; omega⟩
    have hkk : Kept (From_ B0) v6_97 w'' := (Kept.of_ext hw').trans (Kept.of_below hb)
    refine ⟨_, rfl, Kept.of_below hb, ?_⟩
    obtain ⟨z6_103, gz6_103⟩ : ∃ x, w'' = x := ⟨_, rfl⟩
    rw [gz6_103] at RR_n6_103 US_6_105 E_6_105 hkk ⊢
    have ldt6_106 := fun w'' (h : Kept (From_ B0) z6_103 w'') => ldt6_98 w'' (hkk.trans h)
    have ldt6_107 := fun w'' (h : Kept (From_ B0) z6_103 w'') => ldt6_99 w'' (hkk.trans h)
    have ldt6_108 := fun w'' (h : Kept (From_ B0) z6_103 w'') => ldt6_100 w'' (hkk.trans h)
    have ldt6_109 := fun w'' (h : Kept (From_ B0) z6_103 w'') => ldt6_101 w'' (hkk.trans h)
    have ldt6_110 := fun w'' (h : Kept (From_ B0) z6_103 w'') => ldt6_102 w'' (hkk.trans h)
    clear ldt6_98 ldt6_99 ldt6_100 ldt6_101 ldt6_102
    clear hkk hown hb gz6_103 hw'
    try simp only [Act.put, stA_, st0_, st1_]
    refine wpR_one 5 (by kernel_rfl) ?_
    apply at_call 5 (some 21)
    · rfl
    · rfl
    · rfl
    · intro w'; go_simp; first | done | exact ⟨rfl, rfl⟩ | with_reducible rfl
    intro w' hw'
    have RR_6_112 := Lib.hid (Ow.up RR_n6_103.out (hw'))
    have US_6_112 := Lib.hid (RdS.bl US_6_105.out (hw'))
    have E_6_112 := Lib.hid (Ext.trans E_6_105.out (hw'))
    refine (oname_4 o.s2 o.n2 _).mono ?_
    rintro e w'' ⟨A3, c3, rfl, hr3, hn3, -, hb⟩
    have NE_R_N_6_111 : RowKit.Hid (∀ a, A3 = some a → 0 < 4 → some a.block ≠ _) := Lib.hid (fun a ha hn e => by have h1 := (RR_6_112.out.own.lt _ e.symm).2; have h2 := hn3 a ha hn; omega)
    have RR_6_113 := Lib.hid (Ow.up RR_6_112.out (hb))
    have US_6_113 := Lib.hid (RdS.bl US_6_112.out (hb))
    have E_6_113 := Lib.hid (Ext.trans E_6_112.out (hb))
    have UN_6_111 := Lib.hid hr3
    clear hr3 hn3
    have hkk : Kept (From_ B0) z6_103 w'' := (Kept.of_ext hw').trans (Kept.of_below hb)
    refine ⟨_, rfl, Kept.of_below hb, ?_⟩
    obtain ⟨z6_111, gz6_111⟩ : ∃ x, w'' = x := ⟨_, rfl⟩
    rw [gz6_111] at RR_6_113 US_6_113 UN_6_111 E_6_113 hkk ⊢
    have ldt6_114 := fun w'' (h : Kept (From_ B0) z6_111 w'') => ldt6_106 w'' (hkk.trans h)
    have ldt6_115 := fun w'' (h : Kept (From_ B0) z6_111 w'') => ldt6_107 w'' (hkk.trans h)
    have ldt6_116 := fun w'' (h : Kept (From_ B0) z6_111 w'') => ldt6_108 w'' (hkk.trans h)
    have ldt6_117 := fun w'' (h : Kept (From_ B0) z6_111 w'') => ldt6_109 w'' (hkk.trans h)
    have ldt6_118 := fun w'' (h : Kept (From_ B0) z6_111 w'') => ldt6_110 w'' (hkk.trans h)
    clear ldt6_106 ldt6_107 ldt6_108 ldt6_109 ldt6_110
    clear hkk hb gz6_111 hw'
    try simp only [Act.put, stA_, st0_, st1_]
    refine wpR_one 6 (by kernel_rfl) ?_
    apply at_run 6 (some 22)
    · rfl
    · rfl
    · rfl
    intro w' hw'
    have RR_6_120 := Lib.hid (Ow.up RR_6_113.out (hw'))
    have US_6_120 := Lib.hid (RdS.bl US_6_113.out (hw'))
    have UN_6_120 := Lib.hid (RdS.bl UN_6_111.out (hw'))
    have E_6_120 := Lib.hid (Ext.trans E_6_113.out (hw'))
    obtain ⟨vv, w'', hrun, ho, hb, hg, hbk⟩ := Ow.app2 (P := Try.prog) 23 23 5 i0 _ 1 1 _ Try.underlying23 hi hz0 hz1 hz2 rfl (by decide) _ _ _ RR_6_120.out _ _ _ _ _ (UN_6_120.out) (f8_all _) (by unfold maxLen; omega) (by omega)
    refine ⟨vv, w'', exec_append (by rfl) (by rfl) (by rfl) hrun, Kept.of_from hb, ?_⟩
    have US_6_119 := Lib.hid (RdS.grown US_6_120.out hg NE_R_S_6_103.out)
    have NE_R_S_6_119 : RowKit.Hid (∀ a, (some (⟨g6_94, 0, none⟩ : Addr)) = some a → 0 < 1 → some a.block ≠ _) := Lib.hid (fun a ha hn => Ow.ne2 (NE_R_S_6_103.out a ha hn) (US_6_120.out.low a ha hn) hbk)
    have UN_6_119 := Lib.hid (RdS.grown UN_6_120.out hg NE_R_N_6_111.out)
    have NE_R_N_6_119 : RowKit.Hid (∀ a, A3 = some a → 0 < 4 → some a.block ≠ _) := Lib.hid (fun a ha hn => Ow.ne2 (NE_R_N_6_111.out a ha hn) (UN_6_120.out.low a ha hn) hbk)
    have E_6_119 : RowKit.Hid (Ext w1 w'') := Lib.hid ho.below
    have hkk : Kept (From_ B0) z6_111 w'' := (Kept.of_ext hw').trans (Kept.of_from hb)
    obtain ⟨AA6_119, cc6_119, rfl, hrr⟩ := ho.rds
    have RR_6_119 := Lib.hid ho
    clear hrr
    obtain ⟨z6_119, gz6_119⟩ : ∃ x, w'' = x := ⟨_, rfl⟩
    rw [gz6_119] at RR_6_119 US_6_119 UN_6_119 E_6_119 hkk ⊢
    have ldt6_121 := fun w'' (h : Kept (From_ B0) z6_119 w'') => ldt6_114 w'' (hkk.trans h)
    have ldt6_122 := fun w'' (h : Kept (From_ B0) z6_119 w'') => ldt6_115 w'' (hkk.trans h)
    have ldt6_123 := fun w'' (h : Kept (From_ B0) z6_119 w'') => ldt6_116 w'' (hkk.trans h)
    have ldt6_124 := fun w'' (h : Kept (From_ B0) z6_119 w'') => ldt6_117 w'' (hkk.trans h)
    have ldt6_125 := fun w'' (h : Kept (From_ B0) z6_119 w'') => ldt6_118 w'' (hkk.trans h)
    clear ldt6_114 ldt6_115 ldt6_116 ldt6_117 ldt6_118
    clear hkk hrun ho hb hg hbk gz6_119 hw'
    try simp only [Act.put, stA_, st0_, st1_]
    refine wpR_one 11 (by kernel_rfl) ?_
    apply at_run 11 (some 27)
    · rfl
    · rfl
    · rfl
    intro w' hw'
    have RR_6_127 := Lib.hid (Ow.up RR_6_119.out (hw'))
    have US_6_127 := Lib.hid (RdS.bl US_6_119.out (hw'))
    have UN_6_127 := Lib.hid (RdS.bl UN_6_119.out (hw'))
    have E_6_127 := Lib.hid (Ext.trans E_6_119.out (hw'))
    obtain ⟨vv, w'', hrun, ho, hb, hg, hbk⟩ := Ow.app2 (P := Try.prog) 23 23 5 i0 _ 1 1 _ Try.underlying23 hi hz0 hz1 hz2 rfl (by decide) _ _ _ RR_6_127.out _ _ _ _ _ (US_6_127.out) (f8_all _) (by unfold maxLen; omega) (by omega)
    refine ⟨vv, w'', exec_append (by rfl) (by rfl) (by rfl) hrun, Kept.of_from hb, ?_⟩
    have US_6_126 := Lib.hid (RdS.grown US_6_127.out hg NE_R_S_6_119.out)
    have NE_R_S_6_126 : RowKit.Hid (∀ a, (some (⟨g6_94, 0, none⟩ : Addr)) = some a → 0 < 1 → some a.block ≠ _) := Lib.hid (fun a ha hn => Ow.ne2 (NE_R_S_6_119.out a ha hn) (US_6_127.out.low a ha hn) hbk)
    have UN_6_126 := Lib.hid (RdS.grown UN_6_127.out hg NE_R_N_6_119.out)
    have NE_R_N_6_126 : RowKit.Hid (∀ a, A3 = some a → 0 < 4 → some a.block ≠ _) := Lib.hid (fun a ha hn => Ow.ne2 (NE_R_N_6_119.out a ha hn) (UN_6_127.out.low a ha hn) hbk)
    have E_6_126 : RowKit.Hid (Ext w1 w'') := Lib.hid ho.below
    have hkk : Kept (From_ B0) z6_119 w'' := (Kept.of_ext hw').trans (Kept.of_from hb)
    obtain ⟨AA6_126, cc6_126, rfl, hrr⟩ := ho.rds
    have RR_6_126 := Lib.hid ho
    clear hrr
    obtain ⟨z6_126, gz6_126⟩ : ∃ x, w'' = x := ⟨_, rfl⟩
    rw [gz6_126] at RR_6_126 US_6_126 UN_6_126 E_6_126 hkk ⊢
    have ldt6_128 := fun w'' (h : Kept (From_ B0) z6_126 w'') => ldt6_121 w'' (hkk.trans h)
    have ldt6_129 := fun w'' (h : Kept (From_ B0) z6_126 w'') => ldt6_122 w'' (hkk.trans h)
    have ldt6_130 := fun w'' (h : Kept (From_ B0) z6_126 w'') => ldt6_123 w'' (hkk.trans h)
    have ldt6_131 := fun w'' (h : Kept (From_ B0) z6_126 w'') => ldt6_124 w'' (hkk.trans h)
    have ldt6_132 := fun w'' (h : Kept (From_ B0) z6_126 w'') => ldt6_125 w'' (hkk.trans h)
    clear ldt6_121 ldt6_122 ldt6_123 ldt6_124 ldt6_125
    clear hkk hrun ho hb hg hbk gz6_126 hw'
    try simp only [Act.put, stA_, st0_, st1_]
    apply wpR_next 12 (some 2)
    · rfl
    · rfl
    · kernel_rfl
    · kernel_rfl
    · kernel_rfl
    · first | exact fun _ _ _ _ h => Exit.noConfusion h.1 | exact fun _ _ _ _ h => h
    apply Exists.intro
    apply And.intro
    · apply yr_run; rfl; intro w' hw'; go_simp; (try with_reducible rfl)
    simp only [Act.put, stA_, st0_, st1_]
    refine wpR_done (by kernel_rfl) ?_ _
    intro wE hwE
    have ho := (RR_6_126.out.up hwE)
    rw [show rowsV f8 (idB (o.s1, o.n1)) ++ rowsV f8 (idB (o.s2, o.n2)) ++ rowsV f8 [q] = rowsV f8 (idB (o.s1, o.n1) ++ (idB (o.s2, o.n2) ++ [q])) from by rw [rowsV_app, rowsV_app, List.append_assoc]] at ho
    obtain ⟨A9, c9, e9, hG⟩ := gives8_ow (w := w1) (L := idB (o.s1, o.n1) ++ (idB (o.s2, o.n2) ++ [q])) rfl (⟨own_lo8 ho.own (Nat.le_of_eq HB0.out), ho.below, Nat.le_refl _, ho.below.size⟩ : Ow w1 w1.heap.size 5 1 _ _ _ _)
    rw [← HL.out] at hG
    try rw [← HL.out] at e9
    have HG := Lib.hid (Gives8.from_ hG HB1.out)
    have HE := Lib.hid e9
    clear ho hG hwE e9 ldt6_128 ldt6_129 ldt6_130 ldt6_131 ldt6_132
    go_wp2
    go_ret
    exact HE.out ▸ HG.out
set_option maxRecDepth 100000 in
set_option maxHeartbeats 4000000 in
theorem fields_7 (o : OpT) (hk : o.k = 7) (hs : o.t.size ≤ 100000) (w : World) : Calls Try.prog 43 #[.agg (opCells o).toArray] w (Gives8 w (fdB o)) := by
  obtain ⟨i0, hi, hz0, hz1, hz2⟩ := info_parts_ info_u8
  have HL : RowKit.Hid (fdB o = fl o.e :: textB o.t) := Lib.hid (by unfold fdB; rw [if_neg (by omega), if_neg (by omega), if_neg (by omega), if_pos hk])
  have q3 : (o.k == 3) = false := by rw [hk]; rfl
  have q5 : (o.k == 5) = false := by rw [hk]; rfl
  have q6 : (o.k == 6) = false := by rw [hk]; rfl
  have q7 : (o.k == 7) = true := by rw [hk]; rfl
  have HX : RowKit.Hid (Whole (w.alloc (.cells (opCells o).toArray 53)) w.heap.size 53 (opCells o)) := Lib.hid (Whole.new_ _ _ _)
  have HB1 : RowKit.Hid (Below w.heap.size w (w.alloc (.cells (opCells o).toArray 53))) := Lib.hid (below1 _ _)
  clear hk
  go_enter Try.func43, Try.ntmps43
  go_upto_region 1 with fail
  obtain ⟨w1, gw1⟩ : ∃ z, w.alloc (.cells (opCells o).toArray 53) = z := ⟨_, rfl⟩
  rw [gw1] at HX HB1 ⊢
  obtain ⟨g0, gg0⟩ : ∃ z, w.heap.size = z := ⟨_, rfl⟩
  rw [gg0] at HX ⊢
  clear gw1 gg0
  have c0 := HX.out.cell (i := 0) rfl
  go_upto_region 9 with fail
  clear c0 q3 q5 q6 q7
  obtain ⟨B0, hB0⟩ : ∃ x, w1.heap.size = x := ⟨_, rfl⟩
  have HB0 := Lib.hid hB0
  have HG1 : RowKit.Hid (g0 < B0) := Lib.hid (by have := HX.out.lt; omega)
  have EX9 : RowKit.Hid (Ext w1 w1.drew) := Lib.hid ((Below.refl _ _).drew)
  have lC17 : ∀ w', Kept (From_ B0) w1.drew w' → w'.cell? ⟨g0, 17, none⟩ = some (.bool o.e) := fun w' h => h.from_cell HG1.out (EX9.out.cell (HX.out.cell (i := 17) rfl))
  have lC18 : ∀ w', Kept (From_ B0) w1.drew w' → w'.cell? ⟨g0, 18, none⟩ = some (.string o.t) := fun w' h => h.from_cell HG1.out (EX9.out.cell (HX.out.cell (i := 18) rfl))
  clear hB0
  refine wp_region_reg (From_ B0) (by kernel_rfl) ?_
  refine opR_ 0 35 (v := ?_) ?_ ?_; rotate_left
  · intro w' hw'; go_simp; (try with_reducible rfl)
  simp only [st0_, st1_]
  refine opR_ 1 36 (v := ?_) ?_ ?_; rotate_left
  · intro w' hw'; go_simp; (try with_reducible rfl)
  simp only [st0_, st1_]
  refine opR_ 3 38 (v := ?_) ?_ ?_; rotate_left
  · intro w' hw'; go_simp; (try with_reducible rfl)
  simp only [st0_, st1_]
  refine opR_ 4 39 (v := ?_) ?_ ?_; rotate_left
  · intro w' hw'; go_simp; (try with_reducible rfl)
  simp only [st0_, st1_]
  apply wpR_call 2 (some 37)
  · rfl
  · rfl
  · kernel_rfl
  · rfl
  · intro w'; go_simp; first | done | exact ⟨rfl, rfl⟩ | with_reducible rfl
  intro w' hw'
  refine (g8_parts (n := 1) rfl (oflag_any o.e w')).mono ?_
  rintro e w2 ⟨A3, c3, rfl, hr3, -, -, hb⟩
  refine ⟨_, rfl, Kept.of_below hb, ?_⟩
  have EX2 : RowKit.Hid (Ext w1 w2) := Lib.hid (Ext.trans (Ext.trans EX9.out hw') hb)
  have HR2 := Lib.hid hr3
  have kk := (Kept.of_ext (S := From_ B0) hw').trans (Kept.of_below hb)
  replace lC17 := fun w'' (h : Kept (From_ B0) w2 w'') => lC17 w'' (kk.trans h)
  replace lC18 := fun w'' (h : Kept (From_ B0) w2 w'') => lC18 w'' (kk.trans h)
  clear hw' hb hr3 kk
  simp only [Act.put, stA_, st0_, st1_]
  apply wpR_call 5 (some 40)
  · rfl
  · rfl
  · kernel_rfl
  · rfl
  · intro w'; go_simp; first | done | exact ⟨rfl, rfl⟩ | with_reducible rfl
  intro w' hw'
  have hr3 := HR2.out.bl hw'
  refine (text_any A3 c3 [fl o.e] o.t _ hr3 (by show 1 ≤ _; omega) (by omega)).mono ?_
  rintro e w3 ⟨A4, c4, rfl, h2, h3, h4, h5⟩
  refine ⟨_, rfl, Kept.of_below h5, ?_⟩
  have HG := Lib.hid (Gives8.from_ (w := w) ⟨A4, c4, rfl, h2, h3, h4, h5⟩ (bel_bl HB1.out (Ext.trans EX2.out hw')))
  clear hw' hr3 h2 h3 h4 h5 lC17 lC18
  simp only [Act.put, stA_, st0_, st1_]
  refine opR_ 6 2 (v := ?_) ?_ ?_; rotate_left
  · intro w' hw'; go_simp; (try with_reducible rfl)
  simp only [st0_, st1_]
  refine wpR_done (by kernel_rfl) ?_ _
  intro wE hwE
  have HGE : RowKit.Hid (Gives8 w (fl o.e :: textB o.t) (.returned (.slice A4 (([fl o.e] ++ textB o.t) : List Nat).length c4)) wE) := Lib.hid (by
    obtain ⟨A9, c9, e9, h2, h3, h4, h5⟩ := HG.out
    obtain ⟨rfl, rfl⟩ : A4 = A9 ∧ c4 = c9 := by injection e9 with e9; injection e9 with a1 a2 a3; exact ⟨a1, a3⟩
    exact ⟨A4, c4, rfl, h2.bl hwE, h3, own_up h4 hwE, bel_bl h5 hwE⟩)
  clear hwE
  have hf := HGE.out
  rw [← HL.out] at hf
  have HF := Lib.hid hf
  clear hf HGE
  go_wp2
  go_ret
  exact HF.out
set_option maxRecDepth 100000 in
set_option maxHeartbeats 4000000 in
theorem fields_8 (o : OpT) (hk : o.k = 8) (hs : o.t.size ≤ 100000) (w : World) : Calls Try.prog 43 #[.agg (opCells o).toArray] w (Gives8 w (fdB o)) := by
  obtain ⟨i0, hi, hz0, hz1, hz2⟩ := info_parts_ info_u8
  have HL : RowKit.Hid (fdB o = fl o.e :: be8 o.m) := Lib.hid (by unfold fdB; rw [if_neg (by omega), if_neg (by omega), if_neg (by omega), if_neg (by omega), if_pos hk])
  have q3 : (o.k == 3) = false := by rw [hk]; rfl
  have q5 : (o.k == 5) = false := by rw [hk]; rfl
  have q6 : (o.k == 6) = false := by rw [hk]; rfl
  have q7 : (o.k == 7) = false := by rw [hk]; rfl
  have q8 : (o.k == 8) = true := by rw [hk]; rfl
  have HX : RowKit.Hid (Whole (w.alloc (.cells (opCells o).toArray 53)) w.heap.size 53 (opCells o)) := Lib.hid (Whole.new_ _ _ _)
  have HB1 : RowKit.Hid (Below w.heap.size w (w.alloc (.cells (opCells o).toArray 53))) := Lib.hid (below1 _ _)
  clear hk
  go_enter Try.func43, Try.ntmps43
  go_upto_region 1 with fail
  obtain ⟨w1, gw1⟩ : ∃ z, w.alloc (.cells (opCells o).toArray 53) = z := ⟨_, rfl⟩
  rw [gw1] at HX HB1 ⊢
  obtain ⟨g0, gg0⟩ : ∃ z, w.heap.size = z := ⟨_, rfl⟩
  rw [gg0] at HX ⊢
  clear gw1 gg0
  have c0 := HX.out.cell (i := 0) rfl
  go_upto_region 11 with fail
  clear c0 q3 q5 q6 q7 q8
  obtain ⟨B0, hB0⟩ : ∃ x, w1.heap.size = x := ⟨_, rfl⟩
  have HB0 := Lib.hid hB0
  have HG1 : RowKit.Hid (g0 < B0) := Lib.hid (by have := HX.out.lt; omega)
  have EX9 : RowKit.Hid (Ext w1 w1.drew) := Lib.hid ((Below.refl _ _).drew)
  have lC17 : ∀ w', Kept (From_ B0) w1.drew w' → w'.cell? ⟨g0, 17, none⟩ = some (.bool o.e) := fun w' h => h.from_cell HG1.out (EX9.out.cell (HX.out.cell (i := 17) rfl))
  have lC19 : ∀ w', Kept (From_ B0) w1.drew w' → w'.cell? ⟨g0, 19, none⟩ = some (.int .i64 o.m) := fun w' h => h.from_cell HG1.out (EX9.out.cell (HX.out.cell (i := 19) rfl))
  clear hB0
  refine wp_region_reg (From_ B0) (by kernel_rfl) ?_
  refine opR_ 0 43 (v := ?_) ?_ ?_; rotate_left
  · intro w' hw'; go_simp; (try with_reducible rfl)
  simp only [st0_, st1_]
  refine opR_ 1 44 (v := ?_) ?_ ?_; rotate_left
  · intro w' hw'; go_simp; (try with_reducible rfl)
  simp only [st0_, st1_]
  refine opR_ 3 46 (v := ?_) ?_ ?_; rotate_left
  · intro w' hw'; go_simp; (try with_reducible rfl)
  simp only [st0_, st1_]
  refine opR_ 4 47 (v := ?_) ?_ ?_; rotate_left
  · intro w' hw'; go_simp; (try with_reducible rfl)
  simp only [st0_, st1_]
  apply wpR_call 2 (some 45)
  · rfl
  · rfl
  · kernel_rfl
  · rfl
  · intro w'; go_simp; first | done | exact ⟨rfl, rfl⟩ | with_reducible rfl
  intro w' hw'
  refine (g8_parts (n := 1) rfl (oflag_any o.e w')).mono ?_
  rintro e w2 ⟨A3, c3, rfl, hr3, -, -, hb⟩
  refine ⟨_, rfl, Kept.of_below hb, ?_⟩
  have EX2 : RowKit.Hid (Ext w1 w2) := Lib.hid (Ext.trans (Ext.trans EX9.out hw') hb)
  have HR2 := Lib.hid hr3
  have kk := (Kept.of_ext (S := From_ B0) hw').trans (Kept.of_below hb)
  replace lC17 := fun w'' (h : Kept (From_ B0) w2 w'') => lC17 w'' (kk.trans h)
  replace lC19 := fun w'' (h : Kept (From_ B0) w2 w'') => lC19 w'' (kk.trans h)
  clear hw' hb hr3 kk
  simp only [Act.put, stA_, st0_, st1_]
  apply wpR_call 5 (some 48)
  · rfl
  · rfl
  · kernel_rfl
  · rfl
  · intro w'; go_simp; first | done | exact ⟨rfl, rfl⟩ | with_reducible rfl
  intro w' hw'
  have hr3 := HR2.out.bl hw'
  refine (num_any A3 c3 [fl o.e] o.m _ hr3 (by show 1 ≤ _; omega)).mono ?_
  rintro e w3 ⟨A4, c4, rfl, h2, h3, h4, h5⟩
  refine ⟨_, rfl, Kept.of_below h5, ?_⟩
  have HG := Lib.hid (Gives8.from_ (w := w) ⟨A4, c4, rfl, h2, h3, h4, h5⟩ (bel_bl HB1.out (Ext.trans EX2.out hw')))
  clear hw' hr3 h2 h3 h4 h5 lC17 lC19
  simp only [Act.put, stA_, st0_, st1_]
  refine opR_ 6 2 (v := ?_) ?_ ?_; rotate_left
  · intro w' hw'; go_simp; (try with_reducible rfl)
  simp only [st0_, st1_]
  refine wpR_done (by kernel_rfl) ?_ _
  intro wE hwE
  have HGE : RowKit.Hid (Gives8 w (fl o.e :: be8 o.m) (.returned (.slice A4 (([fl o.e] ++ be8 o.m) : List Nat).length c4)) wE) := Lib.hid (by
    obtain ⟨A9, c9, e9, h2, h3, h4, h5⟩ := HG.out
    obtain ⟨rfl, rfl⟩ : A4 = A9 ∧ c4 = c9 := by injection e9 with e9; injection e9 with a1 a2 a3; exact ⟨a1, a3⟩
    exact ⟨A4, c4, rfl, h2.bl hwE, h3, own_up h4 hwE, bel_bl h5 hwE⟩)
  clear hwE
  have hf := HGE.out
  rw [← HL.out] at hf
  have HF := Lib.hid hf
  clear hf HGE
  go_wp2
  go_ret
  exact HF.out
theorem fields_any (o : OpT) (hs : o.t.size ≤ 100000) (w : World) : Calls Try.prog 43 #[.agg (opCells o).toArray] w (Gives8 w (fdB o)) := by
  by_cases k3 : o.k = 3
  · exact fields_3 o k3 hs w
  by_cases k5 : o.k = 5
  · exact fields_5 o k5 hs w
  by_cases k6 : o.k = 6
  · exact fields_6 o k6 hs w
  by_cases k7 : o.k = 7
  · exact fields_7 o k7 hs w
  by_cases k8 : o.k = 8
  · exact fields_8 o k8 hs w
  exact fields_0 o k3 k5 k6 k7 k8 w
end Go.Proofs.Ytinfbaflkjghhaa
