/- Several texts in one. -/
import Derived.Test.YtahbfdhjgnlmdaaZUH
import Derived.Lib.AppendStr
import Derived.Test.YtahbfdhjgnlmdaaZUB
import Derived.Laws.BitsAllLaws
import Derived.Test.YtahbfdhjgnlmdaaZUE
import Derived.Test.YtahbfdhjgnlmdaaZUF
import Derived.Test.YtahbfdhjgnlmdaaZUA
import Derived.Test.YtahbfdhjgnlmdaaZUG

/- pack.Text. -/
namespace Go.Proofs.Ytahbfdhjgnlmdaa
open Go.RowKit
set_option linter.unusedSimpArgs false
set_option linter.unusedVariables false

theorem tB_data (s : ByteArray) : tB s = s.data.toList.map UInt8.toNat := by rw [tB, ByteArray.toList_eq]
theorem str_rows (s : ByteArray) : Lib.strCells s = rowsV f8 (tB s) := by
  rw [rowsV_map8, tB_data, Lib.strCells, List.map_map]
  rfl
theorem exec_copy {P : Program} {ev : Operand → Value} {o : Oper} {w w' : World} (d s : Operand) (dT sT : TypeId) (ho : o.op = .call { callee := .builtin .copy, args := #[d, s], argTypes := #[dT, sT] }) {x y v : Value} (hd : ev d = x) (hs : ev s = y)
    (hrun : (Builtin.copy_ #[dT, sT] o.type #[x, y]).run P w = .ok v w') : (execOp ev o).run P w = .ok (.value v) w' := by
  unfold execOp
  simp [ho, resolve, invoke, builtin, hd, hs, hrun, Result.andThen]
/-- A text copied to the end of a row. -/
theorem copy_str (ty : TypeId) {w : World} {g N p : Nat} {M : List Nat} {A : Option Addr} {c : Nat} (s : ByteArray) (hw : Whole w g 5 (rowsV f8 M)) (hM : M.length = N) (hp : p + s.size = N) (hA : (if N = p then some (⟨g, 0, none⟩ : Addr) else (some (⟨g, 0, none⟩ : Addr)).map (·.add (p * 1))) = A) {w0 : World} {B : Nat} (hb : Below B w0 w) (hB : B ≤ g) :
    ∃ w', (Builtin.copy_ #[43, 9] ty #[.slice A s.size c, .string s]).run Try.prog w = .ok (goInt s.size) w' ∧ Whole w' g 5 (rowsV f8 (M.take p ++ tB s)) ∧ Below B w0 w' := by
  obtain ⟨i0, hi, hz0, hz1, hz2⟩ := info_parts_ info_u8
  by_cases h0 : N = p
  · rw [if_pos h0] at hA
    obtain rfl := hA
    have hs : s.size = 0 := by omega
    have ht : tB s = [] := List.eq_nil_of_length_eq_zero (by rw [tB_len, hs])
    refine ⟨w, ?_, by rw [ht, List.append_nil, List.take_of_length_le (by omega)]; exact hw, hb⟩
    simp [Builtin.copy_, run_underlying (Try.underlying43), Builtin.lenOf, Builtin.firstCells, sizeOf, typeInfo, hi, hz1, hs, storeCells]
  · rw [if_neg h0] at hA
    have e : (some (⟨g, 0, none⟩ : Addr)).map (·.add (p * 1)) = some (⟨g, p, none⟩ : Addr) := by simp only [Option.map_some, Addr.add_lit, Nat.mul_one, Nat.zero_add]
    rw [e] at hA
    obtain rfl := hA
    have hst := run_storeCells_at Try.prog g p 5 (Lib.strCells s) 0 (rowsV f8 M).toArray w hw (by simp [rows8_len, Lib.strCells_length]; omega) (Lib.strCells_oneCell s)
    have hf := Lib.run_firstCells_string (P := Try.prog) w 1 s
    simp only [Nat.add_zero, Lib.strCells_length] at hst
    have hd : (rowsV f8 M).toArray.toList.drop (p + s.size) = [] := List.drop_eq_nil_of_le (by simp [rows8_len]; omega)
    rw [hd, List.append_nil, str_rows, show ((rowsV f8 M).toArray.toList.take p ++ rowsV f8 (tB s)).toArray = (rowsV f8 (M.take p ++ tB s)).toArray from by rw [rows8_app, rowsV_map8 M, rowsV_map8 (M.take p), List.map_take]] at hst
    refine ⟨_, ?_, Whole.row hw (rowsV f8 (M.take p ++ tB s)), below_setRow hb hB _⟩
    simp only [str_rows] at hf
    simp [Builtin.copy_, run_underlying (Try.underlying43), Builtin.lenOf, sizeOf, typeInfo, hi, hz1, hf, hst]
set_option maxRecDepth 100000 in
set_option maxHeartbeats 1000000 in
theorem text_any (A : Option Addr) (c : Nat) (L : List Nat) (s : ByteArray) (w : World) (h : RdS w w.heap.size 1 A L.length c (rowsV f8 L)) (hn : L.length ≤ 900000) (hs : s.size ≤ 900000) :
    Calls Try.prog 22 #[.slice A L.length c, .string s] w (Gives8 w (L ++ textB s)) := by
  obtain ⟨S, gS⟩ : ∃ S, s.size = S := ⟨_, rfl⟩
  have HC := Lib.hid (room_any A c L (1 + S) w h (by omega) (by omega))
  have hw1 : IntKind.i64.wrap (1 + (S : Int)) = ((1 + S : Nat) : Int) := by rw [IntWalk.i64_in _ (by omega)]; omega
  have hw8 : IntKind.u8.wrap (S : Int) = ((S % 256 : Nat) : Int) := by rw [IntKind.wrap_u8]; omega
  have HE : RowKit.Hid (((L ++ List.replicate (1 + S) 0).set L.length (S % 256)).take (L.length + 1) ++ tB s = L ++ textB s) := Lib.hid (by
    rw [List.set_append, if_neg (by omega), Nat.sub_self, Nat.add_comm 1 S, List.replicate_succ, List.set_cons_zero, textB, gS]
    rw [List.take_append, List.take_of_length_le (by omega), Nat.add_sub_cancel_left, List.take_succ_cons, List.take_zero, List.append_assoc])
  have Hl : RowKit.Hid ((L ++ textB s).length = L.length + (1 + S)) := Lib.hid (by simp [textB, tB_len, gS]; omega)
  have Hs : RowKit.Hid (s.size = S) := Lib.hid gS
  have hsz : (s.size : Int) = (S : Int) := by rw [gS]
  obtain ⟨E, gE⟩ : ∃ E, L ++ textB s = E := ⟨_, rfl⟩
  rw [gE] at HE Hl ⊢
  obtain ⟨M0, gM0⟩ : ∃ M0, L ++ List.replicate (1 + S) 0 = M0 := ⟨_, rfl⟩
  have HM0 : RowKit.Hid (M0.length = L.length + (1 + S)) := Lib.hid (by rw [← gM0]; simp)
  rw [gM0] at HC HE
  obtain ⟨n, gn⟩ : ∃ n, L.length = n := ⟨_, rfl⟩
  rw [gn] at HC HE Hl HM0 hn ⊢
  obtain ⟨m, gm⟩ : ∃ m, 1 + S = m := ⟨_, rfl⟩
  rw [gm] at HC Hl HM0 hw1
  have Hm := Lib.hid gm
  obtain ⟨N, gN⟩ : ∃ N, n + m = N := ⟨_, rfl⟩
  rw [gN] at HC Hl HM0
  have HN := Lib.hid gN
  have hw2 : IntKind.i64.wrap ((n : Int) + 1) = ((n + 1 : Nat) : Int) := by rw [IntWalk.i64_in _ (by omega)]; omega
  have hnN : n < N := by omega
  have hnN2 : (n : Int) < (N : Int) := by omega
  have hNb : N ≤ 100000000 := by omega
  obtain ⟨S8, gS8⟩ : ∃ z, S % 256 = z := ⟨_, rfl⟩
  rw [gS8] at HE hw8
  clear h gE gM0 gn gm gN gS hs gS8
  go_enter Try.func22, Try.ntmps22
  go_upto_region 2 with (first | (go_at_call 40; refine HC.out.mono ?_; rintro e w2 ⟨g, rfl, hg, hw, hb⟩; have HG := Lib.hid hg; have HW := Lib.hid hw; have HB := Lib.hid hb; clear hg hw hb))
  clear hw1
  obtain ⟨b0, hb0⟩ : ∃ b, M0[n]? = some b := ⟨_, List.getElem?_eq_getElem (by rw [HM0.out]; exact hnN)⟩
  have hcell := HW.out.cell (i := n) (v := .int .u8 (b0 : Int)) (by rw [rows_get, hb0]; rfl)
  have hfree := HW.out.free n
  clear hb0
  go_upto_region 3 with fail
  have HW2 : RowKit.Hid (Whole (w2.setCell ⟨g, n, none⟩ (.int .u8 (S8 : Int))) g 5 (rowsV f8 (M0.set n S8))) := Lib.hid (by have := HW.out.set_ n (.int .u8 (S8 : Int)); rwa [rows8_set] at this)
  have HB2 := Lib.hid (HB.out.setCell (p := ⟨g, n, none⟩) HG.out (.int .u8 (S8 : Int)))
  obtain ⟨w3, gw3⟩ : ∃ z, w2.setCell ⟨g, n, none⟩ (.int .u8 (S8 : Int)) = z := ⟨_, rfl⟩
  rw [gw3] at HW2 HB2 ⊢
  clear gw3 HW HB hcell hfree
  obtain ⟨A1, hA1⟩ : ∃ A1, (if N = n + 1 then some (⟨g, 0, none⟩ : Addr) else (some (⟨g, 0, none⟩ : Addr)).map (·.add ((n + 1) * 1))) = A1 := ⟨_, rfl⟩
  have hNS : n + 1 + s.size = N := by have := Hm.out; have := HN.out; have := Hs.out; omega
  have hNS2 : N - (n + 1) = s.size := by omega
  obtain ⟨w4, hrun, hw4, hb4⟩ := copy_str (c := N - (n + 1)) 3 s HW2.out (by rw [List.length_set]; exact HM0.out) hNS hA1 HB2.out HG.out
  have HW4 := Lib.hid hw4
  have HB4 := Lib.hid hb4
  rw [HE.out] at HW4
  refine wp_region_lit ?_
  refine wl_read (v := ?_) (some 18) rfl (by rfl) ?_ ?_
  rotate_left
  · go_simp; (try with_reducible rfl)
  simp only [Act.put, List.setIfInBounds_toArray, List.set_cons_zero, List.set_cons_succ]
  refine wl_read (v := ?_) (some 19) rfl (by rfl) ?_ ?_
  rotate_left
  · go_simp; (try with_reducible rfl)
  simp only [Act.put, List.setIfInBounds_toArray, List.set_cons_zero, List.set_cons_succ]
  refine wl_read (v := ?_) (some 20) rfl (by rfl) ?_ ?_
  rotate_left
  · go_simp; (try with_reducible rfl)
  simp only [Act.put, List.setIfInBounds_toArray, List.set_cons_zero, List.set_cons_succ]
  refine wl_read (v := ?_) (some 21) rfl (by rfl) ?_ ?_
  rotate_left
  · go_simp; (try with_reducible rfl)
  simp only [Act.put, List.setIfInBounds_toArray, List.set_cons_zero, List.set_cons_succ]
  refine wl_run (some 22) rfl (by rfl) (exec_slice_low_as 43 5 (.tmp 18) (.tmp 21) rfl Try.underlying43 (s := 1) (by kernel_rfl) rfl (by rfl) (by omega) hA1 hNS2 rfl) ?_
  simp only [Act.put, List.setIfInBounds_toArray, List.set_cons_zero, List.set_cons_succ]
  refine wl_read (v := ?_) (some 23) rfl (by rfl) ?_ ?_
  rotate_left
  · go_simp; (try with_reducible rfl)
  simp only [Act.put, List.setIfInBounds_toArray, List.set_cons_zero, List.set_cons_succ]
  refine wl_run (some 24) rfl (by rfl) (exec_copy (.tmp 22) (.tmp 23) 43 9 rfl rfl rfl hrun) ?_
  clear hrun hw4 hb4
  go_wp2
  go_ret
  exact gives8_whole Hl.out hNb HG.out HW4.out HB4.out

end Go.Proofs.Ytahbfdhjgnlmdaa

/- pack.number, TakeNum. -/
namespace Go.Proofs.Ytahbfdhjgnlmdaa
open Go.RowKit
set_option linter.unusedSimpArgs false
set_option linter.unusedVariables false

theorem ofInt_64 (a : Nat) (ha : a < 18446744073709551616) : (BitVec.ofInt 64 (a : Int)).toNat = a := by
  rw [BitVec.ofInt_natCast, BitVec.toNat_ofNat]; exact Nat.mod_eq_of_lt (by omega)
theorem u64_or_byte (x b : Nat) (hx : x < 72057594037927936) (hb : b < 256) : bits .or .u64 ((x : Int) * 256) (b : Int) = ((x * 256 + b : Nat) : Int) := by
  have e : ((x : Int) * 256) = ((2 ^ 8 * x : Nat) : Int) := by omega
  rw [e]
  show IntKind.u64.wrap ((BitVec.ofInt 64 ((2 ^ 8 * x : Nat) : Int) ||| BitVec.ofInt 64 (b : Int)).toNat : Int) = _
  rw [BitVec.toNat_or, ofInt_64 _ (by omega), ofInt_64 b (by omega), ← Nat.two_pow_add_eq_or_of_lt (by omega) x, IntKind.wrap_u64]
  omega
/-- The byte at a place. -/
theorem byte_at {W : World} {B n c : Nat} {A : Option Addr} {L : List Nat} (h : RdS W B 1 A n c (rowsV f8 L)) (hn : 0 < n) : ∃ bb off, A = some ⟨bb, off, none⟩ ∧ bb < B ∧ ∀ (j b : Nat), L[j]? = some b → W.cell? ⟨bb, off + j, none⟩ = some (.int .u8 (b : Int)) := by
  obtain ⟨bb, off, rfl, hb, hp⟩ := h.place f8_len (by decide) hn
  refine ⟨bb, off, rfl, hb, fun j b hj => ?_⟩
  have := hp j b hj 0 _ rfl
  rw [Addr.add_lit] at this
  simpa using this
set_option maxRecDepth 100000 in
set_option maxHeartbeats 1000000 in
theorem number_any (A : Option Addr) (n c : Nat) (L : List Nat) (w : World) (h : RdS w w.heap.size 1 A n c (rowsV f8 L)) (hn : 8 ≤ n) (hb : ∀ b ∈ L, b < 256) :
    Calls Try.prog 39 #[.slice A n c] w fun e w' => e = .returned (.int .i64 (num8 (L.take 8))) ∧ w = w' := by
  obtain ⟨bb, off, rfl, -, hp⟩ := byte_at h (by omega)
  have hl := h.rlen f8_len (by decide)
  have hc := h.le
  have Hp := Lib.hid hp
  have Hb := Lib.hid hb
  have Hlt := Lib.hid (fun k hk => deN_lt hb k hk)
  unfold num8
  obtain ⟨x, gx⟩ : ∃ x, IntKind.i64.wrap ((deN (L.take 8) : Nat) : Int) = x := ⟨_, rfl⟩
  rw [gx]
  have Gx := Lib.hid gx
  clear h hp hb gx
  go_enter Try.func39, Try.ntmps39
  go_wp2
  go_loop [3, 9] (fun u i => ∃ k : Nat, k ≤ 8 ∧ u = .int .u64 ((deN (L.take k) : Nat) : Int) ∧ i = .int .i64 (k : Int)) (fun _ i => 8 - (intOf i).toNat)
  case atStart => exact ⟨0, by omega, by simp [deN], by simp⟩
  case round =>
    obtain ⟨k, hk, rfl, rfl⟩ := hrel
    by_cases hlt : k < 8
    · obtain ⟨b, hbk⟩ : ∃ b, L[k]? = some b := ⟨_, List.getElem?_eq_getElem (by omega)⟩
      have l0 := Hp.out k b hbk
      have hb6 : b < 256 := Hb.out b (List.mem_of_getElem? hbk)
      have hd : deN (L.take (k + 1)) = deN (L.take k) * 256 + b := by rw [take_snoc_ L k b hbk, deN_snoc]
      have hdl : deN (L.take k) < 72057594037927936 := by
        have h1 := Hlt.out k (by omega)
        have h2 : 256 ^ k ≤ 256 ^ 7 := Nat.pow_le_pow_right (by omega) (by omega)
        omega
      obtain ⟨X, gX⟩ : ∃ X, deN (L.take k) = X := ⟨_, rfl⟩
      rw [gX] at hd hdl ⊢
      have Hd := Lib.hid hd
      have ho := u64_or_byte X b hdl hb6
      have hw1 : IntKind.u64.wrap ((X : Int) * 256) = (X : Int) * 256 := by rw [IntKind.wrap_u64]; omega
      have hw2 : IntKind.u64.wrap (b : Int) = (b : Int) := by rw [IntKind.wrap_u64]; omega
      have hk8 : (k : Int) < 8 := by omega
      clear gX hd hbk
      go_wp2
      refine ⟨⟨k + 1, by omega, ?_, by go_num⟩, by simp [intOf]; omega⟩
      rw [Hd.out]
      exact congrArg (Value.int .u64) (by omega)
    · obtain rfl : k = 8 := by omega
      have hwx := Gx.out
      obtain ⟨X, gX⟩ : ∃ X, deN (L.take 8) = X := ⟨_, rfl⟩
      rw [gX] at hwx ⊢
      clear gX
      go_wp2
      go_ret
      exact ⟨rfl, rfl⟩

end Go.Proofs.Ytahbfdhjgnlmdaa

/- ident.Put; pack.head. -/
namespace Go.Proofs.Ytahbfdhjgnlmdaa
open Go.RowKit
set_option linter.unusedSimpArgs false
set_option linter.unusedVariables false

theorem exec_makeSlice {P : Program} {ev : Operand → Value} {o : Oper} {w w' : World} (t : TypeId) (l c : Operand) (ho : o.op = .makeSlice t l c) {x y v : Value} (hl : ev l = x) (hc : ev c = y)
    (hrun : (Instr.makeSlice t x y).run P w = .ok v w') : (execOp ev o).run P w = .ok (.value v) w' := by
  unfold execOp
  simp only [ho, hl, hc, Sem.run_bind, Sem.run_pure, Result.andThen_ok, hrun]
/-- A row of one's own is what a call gives. -/
theorem gives8_ow {w w' : World} {L : List Nat} {N : Nat} {v : Value} (hN : L.length = N) (h : Ow w w.heap.size 5 1 v N (rowsV f8 L) w') : ∃ A c, v = .slice A N c ∧ Gives8 w L (.returned (.slice A N c)) w' := by
  subst hN
  obtain ⟨A, c, rfl, hr⟩ := h.rds
  exact ⟨A, c, rfl, A, c, rfl, hr, fun a ha _ => by subst ha; exact (h.own.lt a.block rfl).1, h.own, h.below⟩
set_option maxRecDepth 100000 in
set_option maxHeartbeats 1000000 in
theorem idput_any (A : Option Addr) (c : Nat) (L : List Nat) (x1 x2 : Int) (w : World) (h : RdS w w.heap.size 1 A L.length c (rowsV f8 L)) (hn : L.length ≤ 900000) :
    Calls Try.prog 56 #[.slice A L.length c, .agg #[.int .i64 x1, .int .i64 x2]] w (Gives8 w (L ++ idB (x1, x2))) := by
  obtain ⟨i0, hi, hz0, hz1, hz2⟩ := info_parts_ info_u8
  have HR := Lib.hid h
  obtain ⟨n, gn⟩ : ∃ n, L.length = n := ⟨_, rfl⟩
  have Gn := Lib.hid gn
  rw [gn] at HR hn ⊢
  have hw4 : IntKind.i64.wrap ((n : Int) + 4) = ((n + 4 : Nat) : Int) := by rw [IntWalk.i64_in _ (by omega)]; omega
  obtain ⟨n4, gn4⟩ : ∃ z, n + 4 = z := ⟨_, rfl⟩
  rw [gn4] at hw4
  have HX1 : RowKit.Hid (Whole (w.alloc (.cells #[.int .i64 x1, .int .i64 x2] 31)) w.heap.size 31 [.int .i64 x1, .int .i64 x2]) := Lib.hid (Whole.new_ _ _ [_, _])
  have HR1 := Lib.hid (HR.out.al (.cells #[.int .i64 x1, .int .i64 x2] 31))
  have HB1 := Lib.hid (below1 w (.cells #[.int .i64 x1, .int .i64 x2] 31))
  have Hone := Lib.hid (f8_all L)
  clear h gn
  go_enter Try.func56, Try.ntmps56
  go_upto_region 1 with fail
  obtain ⟨w1, gw1⟩ : ∃ z, w.alloc (.cells #[.int .i64 x1, .int .i64 x2] 31) = z := ⟨_, rfl⟩
  rw [gw1] at HX1 HR1 HB1 ⊢
  clear gw1
  refine wp_region_lit ?_
  refine wl_read (v := ?_) (some 6) rfl (by rfl) ?_ ?_
  rotate_left
  · go_simp; (try with_reducible rfl)
  simp only [Act.put, List.setIfInBounds_toArray, List.set_cons_zero, List.set_cons_succ]
  refine wl_read (v := ?_) (some 7) rfl (by rfl) ?_ ?_
  rotate_left
  · go_simp; (try with_reducible rfl)
  simp only [Act.put, List.setIfInBounds_toArray, List.set_cons_zero, List.set_cons_succ]
  refine wl_read (v := ?_) (some 8) rfl (by rfl) ?_ ?_
  rotate_left
  · go_simp; (try with_reducible rfl)
  simp only [Act.put, List.setIfInBounds_toArray, List.set_cons_zero, List.set_cons_succ]
  obtain ⟨w2, hrun, hown, hgr⟩ := run_make_own (P := Try.prog) w1 w1.heap.size 43 5 i0 _ 1 Try.underlying43 hi hz0 hz1 .i64 .i64 n4 (by rw [hz2]; omega) (by unfold maxLen; omega) (Nat.le_refl _)
  refine wl_run (some 9) rfl (by rfl) (exec_makeSlice 43 _ _ rfl (by rfl) (by rfl) hrun) ?_
  simp only [Act.put, List.setIfInBounds_toArray, List.set_cons_zero, List.set_cons_succ]
  have HP0 : RowKit.Hid (Ow w1 w1.heap.size 5 1 (.slice (some ⟨w1.heap.size, 0, none⟩) 0 n4) 0 [] w2) := Lib.hid ⟨hown, (Below.refl _ _).grown hgr (Nat.le_refl _) (fun k e => by cases e), Nat.le_refl _, hgr.size⟩
  have HR2 := Lib.hid (HR1.out.bl HP0.out.below)
  have HX2 := Lib.hid (HX1.out.bl HP0.out.below)
  obtain ⟨b0, gb0⟩ : ∃ z, w.heap.size = z := ⟨_, rfl⟩
  rw [gb0] at HX1 HX2 ⊢
  have Gb0 := Lib.hid gb0
  clear hrun hown hgr hw4 gn4 gb0
  go_upto_region 3 with (first
    | (at_builtin
       refine wpList_push2 rfl (.tmp 10) (.tmp 11) _ rfl _ 5 i0 _ 1 1 Try.underlying43 hi hz0 hz1 hz2 rfl (by decide) _ _ _ rfl HP0.out _ _ _ _ _ rfl HR2.out Hone.out (by unfold maxLen; omega) (by omega) ?_
       intro v1 w3 how1 hb1 hgr1
       rw [Nat.zero_add, List.nil_append] at how1
       have HP1 := Lib.hid how1
       have HX3 := Lib.hid (HX1.out.bl HP1.out.below)
       clear how1 hb1 hgr1))
  have c0 := HX3.out.cell (i := 0) rfl
  have c1 := HX3.out.cell (i := 1) rfl
  have u1 : IntKind.u8.wrap x1 = (((x1 % 256).toNat : Nat) : Int) := by rw [IntKind.wrap_u8]; omega
  have u2 : IntKind.u8.wrap (x2 / 65536) = (((x2 / 65536 % 256).toNat : Nat) : Int) := by rw [IntKind.wrap_u8]; omega
  have u3 : IntKind.u8.wrap (x2 / 256) = (((x2 / 256 % 256).toNat : Nat) : Int) := by rw [IntKind.wrap_u8]; omega
  have u4 : IntKind.u8.wrap x2 = (((x2 % 256).toNat : Nat) : Int) := by rw [IntKind.wrap_u8]; omega
  have hl : (L ++ idB (x1, x2)).length = n + 4 := by rw [List.length_append, Gn.out]; rfl
  have hrows : rowsV f8 L ++ [.int .u8 (((x1 % 256).toNat : Nat) : Int), .int .u8 (((x2 / 65536 % 256).toNat : Nat) : Int), .int .u8 (((x2 / 256 % 256).toNat : Nat) : Int), .int .u8 (((x2 % 256).toNat : Nat) : Int)] = rowsV f8 (L ++ idB (x1, x2)) := by rw [rows8_app]; rfl
  obtain ⟨q1, g1⟩ : ∃ z, (x1 % 256).toNat = z := ⟨_, rfl⟩
  obtain ⟨q2, g2⟩ : ∃ z, (x2 / 65536 % 256).toNat = z := ⟨_, rfl⟩
  obtain ⟨q3, g3⟩ : ∃ z, (x2 / 256 % 256).toNat = z := ⟨_, rfl⟩
  obtain ⟨q4, g4⟩ : ∃ z, (x2 % 256).toNat = z := ⟨_, rfl⟩
  rw [g1] at u1 hrows
  rw [g2] at u2 hrows
  rw [g3] at u3 hrows
  rw [g4] at u4 hrows
  have Hrows := Lib.hid hrows
  have Hl := Lib.hid hl
  clear hrows hl g1 g2 g3 g4 HX1 HX2
  go_wp2_with (first
    | (at_builtin
       refine wpList_push2 rfl (.tmp 13) (.tmp 28) _ rfl _ 5 i0 _ 1 1 Try.underlying43 hi hz0 hz1 hz2 rfl (by decide) _ _ _ rfl (by exact Ow.up HP1.out (below1 _ _)) _ (some ⟨w3.heap.size, 0, none⟩) 4 4 ([.int .u8 (q1 : Int), .int .u8 (q2 : Int), .int .u8 (q3 : Int), .int .u8 (q4 : Int)]) rfl (by exact RdS.new_ rfl (Nat.lt_succ_self _) rfl rfl) (by simp [Value.oneCell']) (by unfold maxLen; omega) (by omega) ?_
       intro v1 w5 how1 hb1 hgr1
       rw [Hrows.out] at how1
       have HP2 := Lib.hid how1
       clear how1 hb1 hgr1))
  obtain ⟨A9, c9, rfl, hG⟩ := gives8_ow Hl.out ⟨own_lo8 HP2.out.own (by have := HB1.out.size; omega), HB1.out.trans (HP2.out.below.mono HB1.out.size), Nat.le_refl _, (HB1.out.trans (HP2.out.below.mono HB1.out.size)).size⟩
  go_ret
  exact hG

end Go.Proofs.Ytahbfdhjgnlmdaa

/- pack.head. -/
namespace Go.Proofs.Ytahbfdhjgnlmdaa
open Go.RowKit
set_option linter.unusedSimpArgs false
set_option linter.unusedVariables false

set_option maxRecDepth 100000 in
set_option maxHeartbeats 1000000 in
theorem head_any (x1 x2 : Int) (s : ByteArray) (a : Int) (w : World) (hs : s.size ≤ 100000) :
    Calls Try.prog 42 #[.agg #[.int .i64 x1, .int .i64 x2], .string s, .int .i64 a] w (Gives8 w (headB (x1, x2) s a)) := by
  have HX1 : RowKit.Hid (Whole (w.alloc (.cells #[.int .i64 x1, .int .i64 x2] 31)) w.heap.size 31 [.int .i64 x1, .int .i64 x2]) := Lib.hid (Whole.new_ _ _ [_, _])
  have HB1 := Lib.hid (below1 w (.cells #[.int .i64 x1, .int .i64 x2] 31))
  have HA := Lib.hid (fun W => idput_any none 0 [] x1 x2 W (rds_nil W W.heap.size 1) (by simp))
  have hl1 : ([] ++ idB (x1, x2)).length = 4 := rfl
  have HT := Lib.hid (fun (A : Option Addr) (c : Nat) W h => text_any A c ([] ++ idB (x1, x2)) s W h (by rw [hl1]; omega) (by omega))
  obtain ⟨L2, gL2⟩ : ∃ z, [] ++ idB (x1, x2) ++ textB s = z := ⟨_, rfl⟩
  have hl2 : L2.length ≤ 900000 := by rw [← gL2]; simp [idB, textB, tB_len]; omega
  have HN := Lib.hid (fun (A : Option Addr) (c : Nat) W h => num_any A c L2 a W h hl2)
  have e3 : L2 ++ be8 a = headB (x1, x2) s a := by rw [← gL2, headB, List.nil_append, List.append_assoc]
  rw [e3] at HN
  rw [gL2] at HT
  rw [hl1] at HT
  obtain ⟨L1, gL1⟩ : ∃ z, [] ++ idB (x1, x2) = z := ⟨_, rfl⟩
  rw [gL1] at HA HT hl1
  have Hl1 := Lib.hid hl1
  obtain ⟨L3, gL3⟩ : ∃ z, headB (x1, x2) s a = z := ⟨_, rfl⟩
  rw [gL3] at HN ⊢
  clear gL1 gL2 gL3 e3 hl1 hl2 hs
  go_enter Try.func42, Try.ntmps42
  go_upto_region 1 with fail
  have c0 := HX1.out.cell (i := 0) rfl
  have c1 := HX1.out.cell (i := 1) rfl
  go_wp2_with (first
    | (go_at_call 56
       refine (HA.out _).mono ?_
       rintro e w2 ⟨A2, c2, rfl, hr2, -, -, hb2⟩
       have HR2 := Lib.hid hr2
       have HB2 : RowKit.Hid (Below w.heap.size w w2) := Lib.hid (Ext.trans HB1.out hb2)
       rw [Hl1.out] at HR2 ⊢
       clear hr2 hb2 c0 c1)
    | (go_at_call 22
       refine (HT.out A2 c2 _ HR2.out).mono ?_
       rintro e w3 ⟨A3, c3, rfl, hr3, -, -, hb3⟩
       have HR3 := Lib.hid hr3
       have HB3 : RowKit.Hid (Below w.heap.size w w3) := Lib.hid (Ext.trans HB2.out hb3)
       clear hr3 hb3)
    | (go_at_call 20
       refine (HN.out A3 c3 _ HR3.out).mono ?_
       rintro e w4 ⟨A4, c4, rfl, hr4, hn4, ho4, hb4⟩
       have HG : RowKit.Hid (Gives8 w L3 (.returned (.slice A4 L3.length c4)) w4) := Lib.hid ⟨A4, c4, rfl, hr4, fun a ha h0 => Nat.le_trans HB3.out.size (hn4 a ha h0), own_lo8 ho4 HB3.out.size, Ext.trans HB3.out hb4⟩
       clear hr4 hn4 ho4 hb4))
  go_ret
  exact HG.out

end Go.Proofs.Ytahbfdhjgnlmdaa

/- pack.Put. -/
namespace Go.Proofs.Ytahbfdhjgnlmdaa
open Go.RowKit
set_option linter.unusedSimpArgs false
set_option linter.unusedVariables false

theorem own_ne_map {W : World} {lo kk n c b q : Nat} {T : TypeId} {A : Option Addr} {xs : List Value} {e : I2 → Option Nat} (h : W.ownsRow lo T kk (.slice A n c) n xs) (hm : EndsM W b q e) : some b ≠ (Value.slice A n c).ownBlock := by
  intro e0
  obtain ⟨D, h0, h2⟩ := hm
  obtain ⟨es, clock, h1, F, hs, hD⟩ := h0
  rcases h.2 with ⟨h3, h4⟩ | ⟨g, cap, cur, h3, hb, hg, hnc, hcm, hcs, ht⟩
  · rw [h3] at e0
    cases e0
  · rw [h3] at e0
    obtain rfl : b = g := Option.some.inj e0
    rw [h1] at hg
    cases hg
/-- Bytes appended onto a row of one's own. -/
theorem app8 {w W : World} {A A' : Option Addr} {n c m c' : Nat} {X L : List Nat} (ty : TypeId) (ho : Ow w w.heap.size 5 1 (.slice A n c) n (rowsV f8 X) W) (hr : RdS W W.heap.size 1 A' m c' (rowsV f8 L)) (hn : n + m ≤ 1000000) :
    ∃ A2 c2 W', (Builtin.append_ #[43, 43] ty #[.slice A n c, .slice A' m c']).run Try.prog W = .ok (.slice A2 (n + m) c2) W' ∧ Ow w w.heap.size 5 1 (.slice A2 (n + m) c2) (n + m) (rowsV f8 (X ++ L)) W' ∧ W.grownBy W' (Value.slice A n c).ownBlock := by
  obtain ⟨i0, hi, hz0, hz1, hz2⟩ := info_parts_ info_u8
  obtain ⟨v', W', h1, h2, h3, h4, h5⟩ := Ow.app2 (P := Try.prog) 43 ty 5 i0 _ 1 1 _ Try.underlying43 hi hz0 hz1 hz2 rfl (by decide) _ _ _ ho _ A' m c' _ hr (f8_all L) (by unfold maxLen; omega) (by omega)
  rw [← rows8_app] at h2
  obtain ⟨A2, c2, rfl, -⟩ := h2.rds
  exact ⟨A2, c2, W', h1, h2, h4⟩
/-- A literal of one byte. -/
theorem one8 (W : World) (b : Nat) : RdS (W.alloc (.cells #[.int .u8 (b : Int)] 5)) (W.alloc (.cells #[.int .u8 (b : Int)] 5)).heap.size 1 (some ⟨W.heap.size, 0, none⟩) 1 1 (rowsV f8 [b]) := RdS.of_whole8 (Whole.new_ _ _ [_]) rfl
theorem put_not (A : Option Addr) (n c : Nat) (Vs : List VC) (B : Option Addr) (m k : Nat) (Es : List EC) (w : World) (h : DgIn w A n c Vs B m k Es) (hg : GoodD Vs Es) (hr : ∀ x ∈ Vs, x.2.1.2.1 ≤ 1000000) (hm : mayF7 Vs Es ≠ 0) :
    Calls Try.prog 25 #[.agg #[.slice A n c, .slice B m k]] w fun e w' => e = .returned (.tuple #[.slice none 0 0, .int .i64 (mayF7 Vs Es)]) ∧ Below w.heap.size w w' := by
  have HM := Lib.hid (may7_any (A := A) (n := n) (c := c) (B := B) (m := m) (k := k) hr hg)
  have HD := Lib.hid h
  obtain ⟨x, gx⟩ : ∃ z, mayF7 Vs Es = z := ⟨_, rfl⟩
  rw [gx] at HM hm ⊢
  have hne : (x != 0) = true := bne_iff_ne.2 hm
  clear h hg hr hm gx
  go_enter Try.func25, Try.ntmps25
  go_upto_region 1 with fail
  have hx0 : Whole (w.alloc (.cells #[.slice A n c, .slice B m k] 25)) (w.heap.size) 25 [.slice A n c, .slice B m k] := (Whole.new_ w 25 [.slice A n c, .slice B m k])
  have hbl : Below w.heap.size w (w.alloc (.cells #[.slice A n c, .slice B m k] 25)) := (below1 w (.cells #[.slice A n c, .slice B m k] 25))
  have hsz : w.heap.size + 1 ≤ ((w.alloc (.cells #[.slice A n c, .slice B m k] 25))).heap.size := by simp
  obtain ⟨W0, gW0⟩ : ∃ z, (w.alloc (.cells #[.slice A n c, .slice B m k] 25)) = z := ⟨_, rfl⟩
  rw [gW0] at hx0 hbl hsz
  obtain ⟨b0, gb0⟩ : ∃ z, w.heap.size = z := ⟨_, rfl⟩
  rw [gb0] at hx0
  have HX0 := Lib.hid hx0
  have HB0 := Lib.hid hbl
  have HS0 := Lib.hid hsz
  have Gb0 := Lib.hid gb0
  have Lb0 : RowKit.Hid (w.heap.size ≤ b0) := Lib.hid (by omega)
  rw [gW0, gb0]
  clear gW0 hbl hsz hx0 gb0
  have c0 := HX0.out.cell (i := 0) rfl
  have c1 := HX0.out.cell (i := 1) rfl
  have HD0 := Lib.hid (HD.out.bl HB0.out)
  go_wp2_with (first | (go_at_call 41; refine (HM.out _ HD0.out).mono ?_; rintro e w2 ⟨rfl, hb2⟩; have HB2 := Lib.hid (Ext.trans HB0.out hb2); clear hb2 c0 c1))
  exact bodyPost_ret (v := .tuple #[.slice none 0 0, .int .i64 x]) (by simp [results, Try.results25, go_sem]) rfl ⟨rfl, HB2.out⟩

end Go.Proofs.Ytahbfdhjgnlmdaa

/- pack.Put of a diagram that may be. -/
namespace Go.Proofs.Ytahbfdhjgnlmdaa
open Go.RowKit
set_option linter.unusedSimpArgs false
set_option linter.unusedVariables false

theorem ends_get {W : World} {b q : Nat} {e : I2 → Option Nat} (h : EndsM W b q e) {x : I2} (hx : wfI x) {j : Nat} (he : e x = some j) : (Instr.lookup 72 (.map (some b)) (.agg #[.int .i64 x.1, .int .i64 x.2]) false).run Try.prog W = .ok (.int .i64 (j : Int)) W := by
  have h1 := MapF.get (x := x) h Try.underlying72 (zero_intK W) hx
  rw [he] at h1
  exact h1
theorem kept_own {S : Nat → Prop} {w w' : World} {r : Option Nat} (hg : w.grownBy w' r) (hS : ∀ i, some i = r → S i) : Kept S w w' := ⟨hg.os, hg.tape, hg.output, hg.size, fun i hi hn => hg.block i hi (fun e => hn (hS i e))⟩
def restV (Es : List EC) (Us : List VS) (j : Nat) : List Nat := (Us.drop j).flatMap (vtB Es)
def restE (Es : List EC) (Us : List VS) (i : Nat) : List Nat := (Es.drop i).flatMap edB ++ (Us.length % 256 :: restV Es Us 0)
theorem restE_next {Es : List EC} {Us : List VS} {i : Nat} {e : EC} (h : Es[i]? = some e) : restE Es Us i = headB e.1 e.2.1 e.2.2 ++ restE Es Us (i + 1) := by
  obtain ⟨hi, q⟩ := List.getElem?_eq_some_iff.1 h
  unfold restE
  rw [List.drop_eq_getElem_cons hi, q, List.flatMap_cons, List.append_assoc]
  rfl
theorem restV_next {Es : List EC} {Us : List VS} {i : Nat} {v : VS} (h : Us[i]? = some v) : restV Es Us i = headB v.1 v.2.2.1 v.2.2.2 ++ ([v.2.1.length % 256] ++ ((v.2.1.drop 0).map (dB Es) ++ restV Es Us (i + 1))) := by
  obtain ⟨hi, q⟩ := List.getElem?_eq_some_iff.1 h
  unfold restV
  rw [List.drop_eq_getElem_cons hi, q, List.flatMap_cons, vtB, List.append_assoc]
  rfl
theorem rest_all (Es : List EC) (Us : List VS) : [Es.length % 256] ++ restE Es Us 0 = putD Us Es := rfl
theorem rest_len {X R P : List Nat} (h : X ++ R = P) (hP : P.length ≤ 4000) : X.length + R.length ≤ 4000 := by
  have := congrArg List.length h
  rw [List.length_append] at this
  omega
set_option maxRecDepth 100000 in
set_option maxHeartbeats 4000000 in
theorem put_yes (A : Option Addr) (n c : Nat) (Vs : List VC) (B : Option Addr) (m k : Nat) (Es : List EC) (w : World) (h : DgIn w A n c Vs B m k Es) (hg : GoodD Vs Es) (hr : ∀ x ∈ Vs, x.2.1.2.1 ≤ 1000000) (hm : mayF7 Vs Es = 0) :
    Calls Try.prog 25 #[.agg #[.slice A n c, .slice B m k]] w fun e w' => ∃ A' c', e = .returned (.tuple #[.slice A' (putD (Vs.map vS) Es).length c', .int .i64 0]) ∧ w'.ownsRow w.heap.size 5 1 (.slice A' (putD (Vs.map vS) Es).length c') (putD (Vs.map vS) Es).length (rowsV f8 (putD (Vs.map vS) Es)) ∧ Below w.heap.size w w' := by
  have HMy := Lib.hid (may7_any (A := A) (n := n) (c := c) (B := B) (m := m) (k := k) hr hg)
  rw [hm] at HMy
  have HD := Lib.hid h
  have HE := Lib.hid h.e
  have HV := Lib.hid h.v
  have HR := Lib.hid h.r
  have hf := may7_formed hm
  have HF := Lib.hid hf
  have Hle : RowKit.Hid (Es.length = m) := Lib.hid (h.e.rlen eC_len (by decide))
  have Hlv : RowKit.Hid (Vs.length = n) := Lib.hid (h.v.rlen vC_len (by decide))
  have hm40 : m ≤ 40 := by have := hf.e40; have := Hle.out; omega
  have hn24 : n ≤ 24 := by have := hf.v24; have := Hlv.out; omega
  have hP4 := putD_max hf
  have HGd := Lib.hid hg
  have Hnd : RowKit.Hid ((Es.map (·.1)).Nodup) := Lib.hid (rise_nodup hf.re)
  obtain ⟨Us, gUs⟩ : ∃ z, Vs.map vS = z := ⟨_, rfl⟩
  have HUs := Lib.hid gUs
  rw [gUs] at hP4 ⊢
  have hall := rest_all Es Us
  obtain ⟨P, gP⟩ : ∃ z, putD Us Es = z := ⟨_, rfl⟩
  rw [gP] at hP4 hall ⊢
  have HP4 := Lib.hid hP4
  rw [Hle.out] at hall
  have HUl : RowKit.Hid (Us.length = n) := Lib.hid (by rw [← gUs, List.length_map]; exact Hlv.out)
  obtain ⟨m8, gm8⟩ : ∃ z, m % 256 = z := ⟨_, rfl⟩
  rw [gm8] at hall
  have Hall := Lib.hid hall
  have hw8 : IntKind.u8.wrap (m : Int) = (m8 : Int) := by rw [IntKind.wrap_u8]; omega
  clear h hg hr hm hf gUs gP gm8 hall hP4
  have hmm := @run_makeMap Try.prog
  go_enter Try.func25, Try.ntmps25
  go_upto_region 1 with fail
  have hx0 : Whole (w.alloc (.cells #[.slice A n c, .slice B m k] 25)) (w.heap.size) 25 [.slice A n c, .slice B m k] := (Whole.new_ w 25 [.slice A n c, .slice B m k])
  have hbl : Below w.heap.size w (w.alloc (.cells #[.slice A n c, .slice B m k] 25)) := (below1 w (.cells #[.slice A n c, .slice B m k] 25))
  have hsz : w.heap.size + 1 ≤ ((w.alloc (.cells #[.slice A n c, .slice B m k] 25))).heap.size := by simp
  obtain ⟨W0, gW0⟩ : ∃ z, (w.alloc (.cells #[.slice A n c, .slice B m k] 25)) = z := ⟨_, rfl⟩
  rw [gW0] at hx0 hbl hsz
  obtain ⟨b0, gb0⟩ : ∃ z, w.heap.size = z := ⟨_, rfl⟩
  rw [gb0] at hx0
  have HX0 := Lib.hid hx0
  have HB0 := Lib.hid hbl
  have HS0 := Lib.hid hsz
  have Gb0 := Lib.hid gb0
  have Lb0 : RowKit.Hid (w.heap.size ≤ b0) := Lib.hid (by omega)
  rw [gW0, gb0]
  clear gW0 hbl hsz hx0 gb0
  have c0 := HX0.out.cell (i := 0) rfl
  have c1 := HX0.out.cell (i := 1) rfl
  have HD0 := Lib.hid (HD.out.bl HB0.out)
  go_upto_region 4 with (first | (go_at_call 41; refine (HMy.out _ HD0.out).mono ?_; rintro e w2 ⟨rfl, hb2⟩; have HB2 : RowKit.Hid (Below w.heap.size w w2) := Lib.hid (Ext.trans HB0.out hb2); have HX2 := Lib.hid (HX0.out.bl hb2); clear hb2 c0 c1))
  have c1 := HX2.out.cell (i := 1) rfl
  go_upto_region 5 with fail
  clear c1 HX0 HB0 HS0 HD0 HMy hw8
  have HO3 : RowKit.Hid (Ow w w.heap.size 5 1 (.slice (some ⟨w2.heap.size, 0, none⟩) 1 1) 1 (rowsV f8 [m8]) (w2.alloc (.cells #[.int .u8 (m8 : Int)] 5))) := Lib.hid (Ow.new_ (cs := #[.int .u8 (m8 : Int)]) HB2.out (Nat.le_refl _) HB2.out.size (by unfold maxLen; omega) rfl)
  have HX3 := Lib.hid (HX2.out.al (.cells #[.int .u8 (m8 : Int)] 5))
  have HB3 := Lib.hid (bel_al HB2.out (.cells #[.int .u8 (m8 : Int)] 5))
  have Hb03 : RowKit.Hid (b0 < w2.heap.size) := Lib.hid HX2.out.lt
  obtain ⟨w3, gw3⟩ : ∃ z, w2.alloc (.cells #[.int .u8 (m8 : Int)] 5) = z := ⟨_, rfl⟩
  rw [gw3] at HO3 HX3 HB3 ⊢
  have Hb04 : RowKit.Hid (b0 < w3.heap.size) := Lib.hid HX3.out.lt
  clear gw3 HX2 HB2 Hb03
  go_upto_region 6 with fail
  clear hmm
  have HO4 := Lib.hid (Ow.up HO3.out (below1 w3 (.map #[] 0)))
  have HX4 := Lib.hid (HX3.out.al (.map #[] 0))
  have HB4 := Lib.hid (bel_al HB3.out (.map #[] 0))
  have HM4 : RowKit.Hid (EndsM (w3.alloc (.map #[] 0)) w3.heap.size 0 (plM Es 0)) := Lib.hid (by rw [plM_zero]; exact show MapF _ keyID _ _ _ from MapF.made)
  obtain ⟨w4, gw4⟩ : ∃ z, w3.alloc (.map #[] 0) = z := ⟨_, rfl⟩
  have Hlo : RowKit.Hid (w.heap.size ≤ w3.heap.size) := Lib.hid HB3.out.size
  obtain ⟨bm, gbm⟩ : ∃ z, w3.heap.size = z := ⟨_, rfl⟩
  rw [gw4] at HO4 HX4 HB4 HM4 ⊢
  rw [gbm] at HM4 Hlo Hb04 ⊢
  obtain ⟨a1, ga1⟩ : ∃ z, (some (⟨w2.heap.size, 0, none⟩ : Addr)) = z := ⟨_, rfl⟩
  rw [ga1] at HO4 ⊢
  clear gw4 gbm HO3 HX3 HB3 ga1
  have c1 := HX4.out.cell (i := 1) rfl
  go_wp2
  clear c1
  go_loopw [5, 27] (fun v si wr => ∃ (i N : Nat) (A2 : Option Addr) (c2 : Nat) (X : List Nat), i ≤ m ∧ si = .int .i64 i ∧ v = .slice A2 N c2 ∧ RowKit.Hid (Below w.heap.size w wr) ∧ RowKit.Hid (Whole wr b0 25 [.slice A n c, .slice B m k]) ∧ RowKit.Hid (EndsM wr bm i (plM Es i)) ∧ RowKit.Hid (Ow w w.heap.size 5 1 (.slice A2 N c2) N (rowsV f8 X) wr) ∧ RowKit.Hid (X.length = N ∧ X ++ restE Es Us i = P)) (fun _ si _ => m - (intOf si).toNat)
  case atStart => exact ⟨0, 1, _, 1, [m8], by omega, rfl, rfl, HB4, HX4, HM4, HO4, Lib.hid ⟨rfl, Hall.out⟩⟩
  case round =>
    clear HB4 HX4 HM4 HO4
    obtain ⟨i, N, A2, c2, X, hi_, rfl, rfl, HB, HX, HM, HO, HXX⟩ := hrel
    obtain ⟨wo, gwo⟩ : ∃ z, wr = z := ⟨_, rfl⟩
    rw [gwo] at HB HX HM HO ⊢
    clear gwo
    by_cases him : i < m
    · obtain ⟨e, hx⟩ : ∃ e, Es[i]? = some e := ⟨_, List.getElem?_eq_getElem (by have := Hle.out; omega)⟩
      have hsz := HF.out.size.1 e (List.mem_of_getElem? hx)
      have hwe := (HGd.out.e e (List.mem_of_getElem? hx)).1
      have hnx := plM_next Hnd.out hx
      have hrs := HXX.out.2
      rw [restE_next hx, ← List.append_assoc] at hrs
      obtain ⟨eb, eo, gB, -, -⟩ := HE.out.place eC_len (by decide) (by omega)
      subst gB
      have hel := (HE.out.up HB.out HB.out.size).elem eC_len hx
      have l0 := hel 0 _ rfl
      have l1 := hel 1 _ rfl
      have l2 := hel 2 _ rfl
      have l3 := hel 3 _ rfl
      simp only [Addr.add_lit, Nat.add_zero] at l0 l1 l2 l3
      obtain ⟨⟨e1, e2⟩, el, et⟩ := e
      have Hsz : RowKit.Hid (el.size ≤ 16) := Lib.hid hsz
      have Hwe : RowKit.Hid (wfI (e1, e2)) := Lib.hid ⟨hwe.1, hwe.2.1⟩
      have Hnx := Lib.hid hnx
      have Hrs := Lib.hid hrs
      clear hel hsz hwe hnx hrs hx
      go_upto_region 9 with fail
      clear l0 l1 l2 l3
      have HOa := Lib.hid (Ow.up HO.out (below1 wo (.cells #[.int .i64 e1, .int .i64 e2, .string el, .int .i64 et] 33)))
      have HXa := Lib.hid (HX.out.al (.cells #[.int .i64 e1, .int .i64 e2, .string el, .int .i64 et] 33))
      have HMa := Lib.hid (HM.out.al (.cells #[.int .i64 e1, .int .i64 e2, .string el, .int .i64 et] 33))
      have HBa := Lib.hid (bel_al HB.out (.cells #[.int .i64 e1, .int .i64 e2, .string el, .int .i64 et] 33))
      have HEa := Lib.hid (Whole.new2 (w := wo) (t := 33) (cs := [.int .i64 e1, .int .i64 e2, .string el, .int .i64 et]) rfl)
      have Hnb : RowKit.Hid (wo.heap.size ≠ bm) := Lib.hid (by have := HM.out.lt; omega)
      obtain ⟨wa, gwa⟩ : ∃ z, wo.alloc (.cells #[.int .i64 e1, .int .i64 e2, .string el, .int .i64 et] 33) = z := ⟨_, rfl⟩
      obtain ⟨b8, gb8⟩ : ∃ z, wo.heap.size = z := ⟨_, rfl⟩
      rw [gwa] at HOa HXa HMa HBa HEa ⊢
      rw [gb8] at HEa Hnb ⊢
      clear gwa gb8 HO HX HM HB
      have d0 := HEa.out.cell (i := 0) rfl
      have d1 := HEa.out.cell (i := 1) rfl
      refine wp_region_lit ?_
      refine wl_read (v := ?_) (some 32) rfl (by rfl) ?_ ?_
      rotate_left
      · go_simp; (try with_reducible rfl)
      simp only [Act.put, List.setIfInBounds_toArray, List.set_cons_zero, List.set_cons_succ]
      refine wl_read (v := ?_) (some 33) rfl (by rfl) ?_ ?_
      rotate_left
      · go_simp; (try with_reducible rfl)
      simp only [Act.put, List.setIfInBounds_toArray, List.set_cons_zero, List.set_cons_succ]
      refine wl_read (v := ?_) (some 34) rfl (by rfl) ?_ ?_
      rotate_left
      · go_simp; (try with_reducible rfl)
      simp only [Act.put, List.setIfInBounds_toArray, List.set_cons_zero, List.set_cons_succ]
      refine wl_read (v := ?_) (some 35) rfl (by rfl) ?_ ?_
      rotate_left
      · go_simp; (try with_reducible rfl)
      simp only [Act.put, List.setIfInBounds_toArray, List.set_cons_zero, List.set_cons_succ]
      refine wl_mapPut rfl (.tmp 32) (.tmp 34) (.tmp 35) rfl rfl HMa.out Try.underlying72 (by unfold maxLen; omega) (x := ((e1, e2) : I2)) Hwe.out rfl rfl ?_
      intro w5 hm5 hg5
      clear d0 d1
      have HM5 : RowKit.Hid (EndsM w5 bm (i + 1) (plM Es (i + 1))) := Lib.hid (by rw [← Hnx.out]; exact ends_put hm5)
      have HX5 := Lib.hid (HXa.out.grown hg5 (fun e => by have := Option.some.inj e; have := Hb04.out; omega))
      have HE5 := Lib.hid (HEa.out.grown hg5 (fun e => Hnb.out (Option.some.inj e)))
      have HO5 : RowKit.Hid (Ow w w.heap.size 5 1 (.slice A2 N c2) N (rowsV f8 X) w5) := Lib.hid ⟨HOa.out.own.kept hg5 (.inr (Ne.symm (own_ne_map HOa.out.own HMa.out))), HBa.out.grown hg5 HBa.out.size (fun kk e => by obtain rfl := Option.some.inj e; exact Hlo.out), Nat.le_refl _, Nat.le_trans HBa.out.size hg5.size⟩
      clear hm5 hg5 HMa HXa HEa HOa HBa
      have d0 := HE5.out.cell (i := 0) rfl
      have d1 := HE5.out.cell (i := 1) rfl
      have d2 := HE5.out.cell (i := 2) rfl
      have d3 := HE5.out.cell (i := 3) rfl
      have hbd := rest_len Hrs.out HP4.out
      rw [List.length_append, HXX.out.1] at hbd
      have hXl := HXX.out.1
      obtain ⟨LH, gLH⟩ : ∃ z, headB (e1, e2) el et = z := ⟨_, rfl⟩
      have HC := Lib.hid (fun W => gLH ▸ head_any e1 e2 el et W (by have := Hsz.out; omega))
      replace Hrs : RowKit.Hid (X ++ LH ++ restE Es Us (i + 1) = P) := Lib.hid (by rw [← gLH]; exact Hrs.out)
      replace hbd : N + LH.length ≤ 4000 := by
        have h9 : N + (headB (e1, e2) el et).length + (restE Es Us (i + 1)).length ≤ 4000 := hbd
        rw [← gLH]
        omega
      clear gLH
      go_wp2_with (first
        | (go_at_call 42
           refine (HC.out _).mono ?_
           rintro e w6 ⟨A6, c6, rfl, hr6, -, -, hb6⟩
           have HX6 := Lib.hid (HX5.out.bl hb6)
           have HM6 := Lib.hid (HM5.out.bl hb6)
           have HO6 := Lib.hid (Ow.up HO5.out hb6)
           obtain ⟨A7, c7, w7, hrun, ho7, hg7⟩ := app8 43 HO6.out hr6 (by omega)
           have HX7 := Lib.hid (HX6.out.grown hg7 (own_ne HO6.out.own HX6.out (by decide)))
           have HM7 : RowKit.Hid (EndsM w7 bm (i + 1) (plM Es (i + 1))) := Lib.hid (MapF.grown HM6.out hg7 (own_ne_map HO6.out.own HM6.out))
           have HO7 := Lib.hid ho7
           clear hr6 hb6 ho7 hg7 d0 d1 d2 d3)
        | (at_builtin
           refine wl_run (some 44) rfl (by rfl) (exec_append (by rfl) (by rfl) (by rfl) hrun) ?_))
      go_roundw
      case rel => exact ⟨i + 1, N + LH.length, A7, c7, X ++ LH, by omega, by go_num, rfl, Lib.hid HO7.out.below, HX7, HM7, HO7, Lib.hid ⟨by rw [List.length_append, hXl], Hrs.out⟩⟩
      case measure => simp [intOf] <;> omega
    · obtain rfl : m = i := by omega
      have hrs := HXX.out.2
      unfold restE at hrs
      rw [List.drop_eq_nil_of_le (by have := Hle.out; omega), List.flatMap_nil, List.nil_append, HUl.out, show n % 256 :: restV Es Us 0 = [n % 256] ++ restV Es Us 0 from rfl, ← List.append_assoc] at hrs
      obtain ⟨n8, gn8⟩ : ∃ z, n % 256 = z := ⟨_, rfl⟩
      have hw8 : IntKind.u8.wrap (n : Int) = (n8 : Int) := by rw [IntKind.wrap_u8]; omega
      rw [gn8] at hrs
      have hXl := HXX.out.1
      have hbd := rest_len hrs HP4.out
      rw [List.length_append, hXl, List.length_singleton] at hbd
      have c0 := HX.out.cell (i := 0) rfl
      have HXa := Lib.hid (HX.out.al (.cells #[.int .u8 (n8 : Int)] 5))
      have HMa := Lib.hid (HM.out.al (.cells #[.int .u8 (n8 : Int)] 5))
      have HOa := Lib.hid (Ow.up HO.out (below1 wo (.cells #[.int .u8 (n8 : Int)] 5)))
      obtain ⟨A7, c7, w7, hrun, ho7, hg7⟩ := app8 43 HOa.out (one8 wo n8) (by omega)
      have HX7 := Lib.hid (HXa.out.grown hg7 (own_ne HOa.out.own HXa.out (by decide)))
      have HM7 : RowKit.Hid (EndsM w7 bm m (plM Es m)) := Lib.hid (MapF.grown HMa.out hg7 (own_ne_map HOa.out.own HMa.out))
      have HO7 := Lib.hid ho7
      have HX8 : RowKit.Hid ((X ++ [n8]).length = N + 1 ∧ X ++ [n8] ++ restV Es Us 0 = P) := Lib.hid ⟨by rw [List.length_append, hXl]; rfl, hrs⟩
      clear ho7 hg7 gn8 hrs hXl
      go_upto_region 13 with (first
        | (at_builtin
           refine wl_run (some 52) rfl (by rfl) (exec_append (by rfl) (by rfl) (by rfl) hrun) ?_))
      clear hrun c0 hw8 HXa HMa HOa HX HM HO HB HXX hbd
      obtain ⟨N1, gN1⟩ : ∃ z, N + 1 = z := ⟨_, rfl⟩
      rw [gN1] at HO7 HX8 ⊢
      clear gN1
      obtain ⟨X7, gX7⟩ : ∃ z, X ++ [n8] = z := ⟨_, rfl⟩
      rw [gX7] at HO7 HX8
      clear gX7
      have c0 := HX7.out.cell (i := 0) rfl
      go_wp2
      clear c0
      go_loopw [5, 56] (fun v si wr => ∃ (j N : Nat) (A2 : Option Addr) (c2 : Nat) (X : List Nat), j ≤ n ∧ si = .int .i64 j ∧ v = .slice A2 N c2 ∧ RowKit.Hid (Whole wr b0 25 [.slice A n c, .slice B m k]) ∧ RowKit.Hid (EndsM wr bm m (plM Es m)) ∧ RowKit.Hid (Ow w w.heap.size 5 1 (.slice A2 N c2) N (rowsV f8 X) wr) ∧ RowKit.Hid (X.length = N ∧ X ++ restV Es Us j = P)) (fun _ si _ => n - (intOf si).toNat)
      case atStart => exact ⟨0, N1, A7, c7, X7, by omega, rfl, rfl, HX7, HM7, HO7, HX8⟩
      case round =>
        clear HX7 HM7 HO7 HX8
        obtain ⟨j, N, A2, c2, X, hj_, rfl, rfl, HX, HM, HO, HXX⟩ := hrel
        obtain ⟨wo, gwo⟩ : ∃ z, wr = z := ⟨_, rfl⟩
        rw [gwo] at HX HM HO ⊢
        clear gwo
        by_cases hjn : j < n
        · obtain ⟨v, hx⟩ : ∃ v, Vs[j]? = some v := ⟨_, List.getElem?_eq_getElem (by have := Hlv.out; omega)⟩
          have hvm := List.mem_of_getElem? hx
          have hsz := HF.out.size.2 v hvm
          have hrg := HR.out v hvm
          have hr8 := HF.out.ring v hvm
          have hwd := HGd.out.v v hvm
          have hpl : ∀ d ∈ v.2.1.2.2.2, plM Es m (d.1, d.2.1) = some (plE Es (d.1, d.2.1)) ∧ plE Es (d.1, d.2.1) < m ∧ (d.2.2 = 0 ∨ d.2.2 = 1) := fun d hd => by
            obtain ⟨e, he, q1, q2⟩ := HF.out.of_dart hvm hd
            have h1 := plM_all HF.out hvm hd
            have h2 := plE_lt HF.out hvm hd
            rw [Hle.out] at h1 h2
            exact ⟨h1, h2, q2⟩
          have hrs := HXX.out.2
          rw [restV_next (v := vS v) (by rw [← HUs.out, List.getElem?_map, hx]; rfl), ← List.append_assoc, ← List.append_assoc] at hrs
          obtain ⟨eb, eo, gA, -, -⟩ := HV.out.place vC_len (by decide) (by omega)
          subst gA
          have hel := (HV.out.up HO.out.below HO.out.below.size).elem vC_len hx
          have l0 := hel 0 _ rfl
          have l1 := hel 1 _ rfl
          have l2 := hel 2 _ rfl
          have l3 := hel 3 _ rfl
          have l4 := hel 4 _ rfl
          simp only [Addr.add_lit, Nat.add_zero] at l0 l1 l2 l3 l4
          obtain ⟨⟨i1, i2⟩, ⟨rA, rn, rc, rL⟩, lb, at_⟩ := v
          have Hsz : RowKit.Hid (lb.size ≤ 16) := Lib.hid hsz
          have HRr : RowKit.Hid (RdS w w.heap.size 3 rA rn rc (dartsV rL)) := Lib.hid hrg.2
          have Hwd : RowKit.Hid (∀ d ∈ rL, wfD d) := Lib.hid hwd
          have Hpl : RowKit.Hid (∀ d ∈ rL, plM Es m (d.1, d.2.1) = some (plE Es (d.1, d.2.1)) ∧ plE Es (d.1, d.2.1) < m ∧ (d.2.2 = 0 ∨ d.2.2 = 1)) := Lib.hid hpl
          have hrl : rL.length = rn := HRr.out.dlen
          have Hrl := Lib.hid hrl
          have hr9 : rn ≤ 80 := by rw [← hrl]; exact hr8
          replace hrs : X ++ headB (i1, i2) lb at_ ++ [rL.length % 256] ++ ((rL.drop 0).map (dB Es) ++ restV Es Us (j + 1)) = P := hrs
          rw [hrl] at hrs
          obtain ⟨LH, gLH⟩ : ∃ z, headB (i1, i2) lb at_ = z := ⟨_, rfl⟩
          have HC := Lib.hid (fun W => gLH ▸ head_any i1 i2 lb at_ W (by have := Hsz.out; omega))
          obtain ⟨r8, gr8⟩ : ∃ z, rn % 256 = z := ⟨_, rfl⟩
          have hw8 : IntKind.u8.wrap (rn : Int) = (r8 : Int) := by rw [IntKind.wrap_u8]; omega
          rw [gLH, gr8] at hrs
          have hXl := HXX.out.1
          have hbd := rest_len hrs HP4.out
          rw [List.length_append, List.length_append, hXl, List.length_singleton] at hbd
          have hb1 : N + LH.length ≤ 4000 := by omega
          have hb2 : N + LH.length + 1 ≤ 4000 := by omega
          have Hrs := Lib.hid hrs
          clear hel hsz hwd hrs hx hvm hrg hr8 hpl hrl gLH gr8 hbd
          go_upto_region 16 with fail
          clear l0 l1 l2 l3 l4
          have HOa := Lib.hid (Ow.up HO.out (below1 wo (.cells #[.int .i64 i1, .int .i64 i2, .slice rA rn rc, .string lb, .int .i64 at_] 38)))
          have HXa := Lib.hid (HX.out.al (.cells #[.int .i64 i1, .int .i64 i2, .slice rA rn rc, .string lb, .int .i64 at_] 38))
          have HMa := Lib.hid (HM.out.al (.cells #[.int .i64 i1, .int .i64 i2, .slice rA rn rc, .string lb, .int .i64 at_] 38))
          have HVa := Lib.hid (Whole.new2 (w := wo) (t := 38) (cs := [.int .i64 i1, .int .i64 i2, .slice rA rn rc, .string lb, .int .i64 at_]) rfl)
          obtain ⟨wa, gwa⟩ : ∃ z, wo.alloc (.cells #[.int .i64 i1, .int .i64 i2, .slice rA rn rc, .string lb, .int .i64 at_] 38) = z := ⟨_, rfl⟩
          obtain ⟨b10, gb10⟩ : ∃ z, wo.heap.size = z := ⟨_, rfl⟩
          rw [gwa] at HOa HXa HMa HVa ⊢
          rw [gb10] at HVa ⊢
          clear gwa gb10 HO HX HM
          have d0 := HVa.out.cell (i := 0) rfl
          have d1 := HVa.out.cell (i := 1) rfl
          have d3 := HVa.out.cell (i := 3) rfl
          have d4 := HVa.out.cell (i := 4) rfl
          go_upto_region 17 with (first
            | (go_at_call 42
               refine (HC.out _).mono ?_
               rintro e w6 ⟨A6, c6, rfl, hr6, -, -, hb6⟩
               have HX6 := Lib.hid (HXa.out.bl hb6)
               have HM6 := Lib.hid (HMa.out.bl hb6)
               have HV6 := Lib.hid (HVa.out.bl hb6)
               have HO6 := Lib.hid (Ow.up HOa.out hb6)
               obtain ⟨A7, c7, w7, hrun, ho7, hg7⟩ := app8 43 HO6.out hr6 (by omega)
               have HX7 := Lib.hid (HX6.out.grown hg7 (own_ne HO6.out.own HX6.out (by decide)))
               have HV7 := Lib.hid (HV6.out.grown hg7 (own_ne HO6.out.own HV6.out (by decide)))
               have HM7 : RowKit.Hid (EndsM w7 bm m (plM Es m)) := Lib.hid (MapF.grown HM6.out hg7 (own_ne_map HO6.out.own HM6.out))
               have HO7 := Lib.hid ho7
               clear hr6 hb6 ho7 hg7 d0 d1 d3 d4)
            | (at_builtin
               refine wl_run (some 68) rfl (by rfl) (exec_append (by rfl) (by rfl) (by rfl) hrun) ?_))
          clear hrun HX6 HM6 HV6 HO6 HXa HMa HVa HOa
          have d2 := HV7.out.cell (i := 2) rfl
          have HXb := Lib.hid (HX7.out.al (.cells #[.int .u8 (r8 : Int)] 5))
          have HMb := Lib.hid (HM7.out.al (.cells #[.int .u8 (r8 : Int)] 5))
          have HVb := Lib.hid (HV7.out.al (.cells #[.int .u8 (r8 : Int)] 5))
          have HOb := Lib.hid (Ow.up HO7.out (below1 w7 (.cells #[.int .u8 (r8 : Int)] 5)))
          obtain ⟨A8, c8, w8, hrun, ho8, hg8⟩ := app8 43 HOb.out (one8 w7 r8) (by omega)
          have HX8 := Lib.hid (HXb.out.grown hg8 (own_ne HOb.out.own HXb.out (by decide)))
          have HV8 := Lib.hid (HVb.out.grown hg8 (own_ne HOb.out.own HVb.out (by decide)))
          have HM8 : RowKit.Hid (EndsM w8 bm m (plM Es m)) := Lib.hid (MapF.grown HMb.out hg8 (own_ne_map HOb.out.own HMb.out))
          have HO8 := Lib.hid ho8
          have HX9 : RowKit.Hid ((X ++ LH ++ [r8]).length = N + LH.length + 1 ∧ X ++ LH ++ [r8] ++ ((rL.drop 0).map (dB Es) ++ restV Es Us (j + 1)) = P) := Lib.hid ⟨by rw [List.length_append, List.length_append, hXl]; rfl, Hrs.out⟩
          clear ho8 hg8
          go_upto_region 18 with (first
            | (at_builtin
               refine wl_run (some 75) rfl (by rfl) (exec_append (by rfl) (by rfl) (by rfl) hrun) ?_))
          clear hrun d2 hw8 HXb HMb HVb HOb HX7 HM7 HV7 HO7 hXl HXX hb1 hb2 Hrs HC
          obtain ⟨N8, gN8⟩ : ∃ z, N + LH.length + 1 = z := ⟨_, rfl⟩
          rw [gN8] at HO8 HX9 ⊢
          clear gN8
          obtain ⟨X8, gX8⟩ : ∃ z, X ++ LH ++ [r8] = z := ⟨_, rfl⟩
          rw [gX8] at HO8 HX9
          clear gX8
          obtain ⟨R9, gR9⟩ : ∃ z, restV Es Us (j + 1) = z := ⟨_, rfl⟩
          rw [gR9] at HX9
          have HR9 := Lib.hid gR9
          clear gR9
          have d2 := HV8.out.cell (i := 2) rfl
          go_wp2
          clear d2 HV8
          go_loopw [5, 79] (fun v si wr => ∃ (t N : Nat) (A2 : Option Addr) (c2 : Nat) (X : List Nat), t ≤ rn ∧ si = .int .i64 t ∧ v = .slice A2 N c2 ∧ RowKit.Hid (Whole wr b0 25 [.slice (some ⟨eb, eo, none⟩) n c, .slice B m k]) ∧ RowKit.Hid (EndsM wr bm m (plM Es m)) ∧ RowKit.Hid (Ow w w.heap.size 5 1 (.slice A2 N c2) N (rowsV f8 X) wr) ∧ RowKit.Hid (X.length = N ∧ X ++ ((rL.drop t).map (dB Es) ++ R9) = P)) (fun _ si _ => rn - (intOf si).toNat)
          case atStart => exact ⟨0, N8, A8, c8, X8, by omega, rfl, rfl, HX8, HM8, HO8, HX9⟩
          case round =>
            clear HX8 HM8 HO8 HX9
            obtain ⟨t, N, A2, c2, X, ht_, rfl, rfl, HX, HM, HO, HXX⟩ := hrel
            obtain ⟨wi, gwi⟩ : ∃ z, wr = z := ⟨_, rfl⟩
            rw [gwi] at HX HM HO ⊢
            clear gwi
            by_cases htn : t < rn
            · obtain ⟨d, hx⟩ : ∃ d, rL[t]? = some d := ⟨_, List.getElem?_eq_getElem (by have := Hrl.out; omega)⟩
              obtain ⟨hp1, hp2, hp3⟩ := Hpl.out d (List.mem_of_getElem? hx)
              have hwd := Hwd.out d (List.mem_of_getElem? hx)
              have hrs := HXX.out.2
              have hdr : rL.drop t = d :: rL.drop (t + 1) := by
                rw [List.drop_eq_getElem_cons (List.getElem?_eq_some_iff.1 hx).1, (List.getElem?_eq_some_iff.1 hx).2]
              rw [hdr, List.map_cons, List.cons_append, show ∀ (a : Nat) (l : List Nat), a :: l = [a] ++ l from fun _ _ => rfl, ← List.append_assoc] at hrs
              obtain ⟨rb, ro, gr, -, hcd⟩ := (HRr.out.up HO.out.below HO.out.below.size).darts (by omega)
              subst gr
              have hjl : t < rL.length := by have := Hrl.out; omega
              obtain ⟨l0, l1, l2⟩ := hcd t hjl
              have hgd : rL.getD t (0, 0, 0) = d := by rw [List.getD_eq_getElem?_getD, hx]; rfl
              rw [hgd] at l0 l1 l2
              obtain ⟨d1, d2, d3⟩ := d
              simp only at hp1 hp2 hp3 l0 l1 l2
              obtain ⟨p, gp⟩ : ∃ z, plE Es (d1, d2) = z := ⟨_, rfl⟩
              have hdb : dB Es (d1, d2, d3) = (p + 128 * d3.toNat) % 256 := by unfold dB; rw [gp]
              rw [gp] at hp1 hp2
              obtain ⟨db, gdb⟩ : ∃ z, dB Es (d1, d2, d3) = z := ⟨_, rfl⟩
              rw [gdb] at hrs hdb
              obtain ⟨x1, hw1⟩ : ∃ z, IntKind.i64.wrap (128 * d3) = z := ⟨_, rfl⟩
              have hx1 : x1 = 128 * d3 := by rw [← hw1]; exact IntWalk.i64_in _ (by omega)
              obtain ⟨x2, hw2⟩ : ∃ z, IntKind.i64.wrap ((p : Int) + x1) = z := ⟨_, rfl⟩
              have hx2 : x2 = (p : Int) + 128 * d3 := by rw [← hw2, hx1]; exact IntWalk.i64_in _ (by omega)
              have hw3 : IntKind.u8.wrap x2 = (db : Int) := by rw [hx2, hdb, IntKind.wrap_u8]; omega
              have hXl := HXX.out.1
              have hbd := rest_len hrs HP4.out
              rw [List.length_append, hXl, List.length_singleton] at hbd
              have hb1 : N + 1 ≤ 4000 := by omega
              have Hrs := Lib.hid hrs
              have Hp1 := Lib.hid hp1
              have Hwf : RowKit.Hid (wfI (d1, d2)) := Lib.hid ⟨hwd.1, hwd.2.1⟩
              clear hx hp1 hp3 hwd hrs hdr hcd hjl hgd gp hdb gdb hx1 hx2 hbd
              go_upto_region 21 with fail
              clear l0 l1 l2
              have HOa := Lib.hid (Ow.up HO.out (below1 wi (.cells #[.int .i64 d1, .int .i64 d2, .int .i64 d3] 35)))
              have HXa := Lib.hid (HX.out.al (.cells #[.int .i64 d1, .int .i64 d2, .int .i64 d3] 35))
              have HMa := Lib.hid (HM.out.al (.cells #[.int .i64 d1, .int .i64 d2, .int .i64 d3] 35))
              have HDa := Lib.hid (Whole.new2 (w := wi) (t := 35) (cs := [.int .i64 d1, .int .i64 d2, .int .i64 d3]) rfl)
              obtain ⟨wa, gwa⟩ : ∃ z, wi.alloc (.cells #[.int .i64 d1, .int .i64 d2, .int .i64 d3] 35) = z := ⟨_, rfl⟩
              obtain ⟨b12, gb12⟩ : ∃ z, wi.heap.size = z := ⟨_, rfl⟩
              rw [gwa] at HOa HXa HMa HDa ⊢
              rw [gb12] at HDa ⊢
              clear gwa gb12 HO HX HM
              have Hs1 : RowKit.Hid (¬ (some b12 = (Value.slice A2 N c2).ownBlock ∨ wa.heap.size ≤ b12)) := Lib.hid (fun e => by rcases e with e | e; exact own_ne HOa.out.own HDa.out (by decide) e; exact absurd HDa.out.lt (by omega))
              have Hs2 : RowKit.Hid (¬ (some bm = (Value.slice A2 N c2).ownBlock ∨ wa.heap.size ≤ bm)) := Lib.hid (fun e => by rcases e with e | e; exact own_ne_map HOa.out.own HMa.out e; exact absurd HMa.out.lt (by omega))
              have ld0 : ∀ w', Kept (fun i => some i = (Value.slice A2 N c2).ownBlock ∨ wa.heap.size ≤ i) wa.drew w' → w'.cell? ⟨b12, 0, none⟩ = some (.int .i64 d1) := fun w' h => h.cell (HDa.out.dr.cell (i := 0) rfl) Hs1.out
              have ld1 : ∀ w', Kept (fun i => some i = (Value.slice A2 N c2).ownBlock ∨ wa.heap.size ≤ i) wa.drew w' → w'.cell? ⟨b12, 1, none⟩ = some (.int .i64 d2) := fun w' h => h.cell (HDa.out.dr.cell (i := 1) rfl) Hs1.out
              have ld2 : ∀ w', Kept (fun i => some i = (Value.slice A2 N c2).ownBlock ∨ wa.heap.size ≤ i) wa.drew w' → w'.cell? ⟨b12, 2, none⟩ = some (.int .i64 d3) := fun w' h => h.cell (HDa.out.dr.cell (i := 2) rfl) Hs1.out
              have HDr : RowKit.Hid (Ext wa wa.drew) := Lib.hid (below_drewN wa.heap.size wa 1)
              refine wp_region_reg (fun i => some i = (Value.slice A2 N c2).ownBlock ∨ wa.heap.size ≤ i) (by kernel_rfl) ?_
              apply wpR_next 0 (some 83)
              · simp only [List.getElem?_toArray, List.getElem?_cons_succ, List.getElem?_cons_zero]; exact rfl
              · rfl
              · kernel_rfl
              · kernel_rfl
              · kernel_rfl
              · exact fun _ _ _ _ h => h
              apply Exists.intro
              apply And.intro
              · apply yr_run; rfl; intro w' hw'; go_simp; (try with_reducible rfl)
              simp only [Act.put, List.setIfInBounds_toArray, List.set_cons_zero, List.set_cons_succ]
              apply wpR_next 1 (some 84)
              · simp only [List.getElem?_toArray, List.getElem?_cons_succ, List.getElem?_cons_zero]; exact rfl
              · rfl
              · kernel_rfl
              · kernel_rfl
              · kernel_rfl
              · exact fun _ _ _ _ h => h
              apply Exists.intro
              apply And.intro
              · apply yr_run; rfl; intro w' hw'; go_simp; (try with_reducible rfl)
              simp only [Act.put, List.setIfInBounds_toArray, List.set_cons_zero, List.set_cons_succ]
              apply wpR_next 2 (some 85)
              · simp only [List.getElem?_toArray, List.getElem?_cons_succ, List.getElem?_cons_zero]; exact rfl
              · rfl
              · kernel_rfl
              · kernel_rfl
              · kernel_rfl
              · exact fun _ _ _ _ h => h
              apply Exists.intro
              apply And.intro
              · apply yr_run; rfl; intro w' hw'; go_simp; (try with_reducible rfl)
              simp only [Act.put, List.setIfInBounds_toArray, List.set_cons_zero, List.set_cons_succ]
              apply wpR_next 3 (some 86)
              · simp only [List.getElem?_toArray, List.getElem?_cons_succ, List.getElem?_cons_zero]; exact rfl
              · rfl
              · kernel_rfl
              · kernel_rfl
              · kernel_rfl
              · exact fun _ _ _ _ h => h
              apply Exists.intro
              apply And.intro
              · apply yr_run; rfl; intro w' hw'; go_simp; (try with_reducible rfl)
              simp only [Act.put, List.setIfInBounds_toArray, List.set_cons_zero, List.set_cons_succ]
              apply wpR_next 4 (some 87)
              · simp only [List.getElem?_toArray, List.getElem?_cons_succ, List.getElem?_cons_zero]; exact rfl
              · rfl
              · kernel_rfl
              · kernel_rfl
              · kernel_rfl
              · exact fun _ _ _ _ h => h
              apply Exists.intro
              apply And.intro
              · apply yr_run; rfl; intro w' hw'; exact exec_mapGet rfl rfl rfl (ends_get (EndsM.kept HMa.out.dr hw' Hs2.out) Hwf.out Hp1.out)
              simp only [Act.put, List.setIfInBounds_toArray, List.set_cons_zero, List.set_cons_succ]
              apply wpR_next 5 (some 88)
              · simp only [List.getElem?_toArray, List.getElem?_cons_succ, List.getElem?_cons_zero]; exact rfl
              · rfl
              · kernel_rfl
              · kernel_rfl
              · kernel_rfl
              · exact fun _ _ _ _ h => h
              apply Exists.intro
              apply And.intro
              · apply yr_run; rfl; intro w' hw'; go_simp; (try with_reducible rfl)
              simp only [Act.put, List.setIfInBounds_toArray, List.set_cons_zero, List.set_cons_succ]
              apply wpR_next 6 (some 89)
              · simp only [List.getElem?_toArray, List.getElem?_cons_succ, List.getElem?_cons_zero]; exact rfl
              · rfl
              · kernel_rfl
              · kernel_rfl
              · kernel_rfl
              · exact fun _ _ _ _ h => h
              apply Exists.intro
              apply And.intro
              · apply yr_run; rfl; intro w' hw'; go_simp; (try with_reducible rfl)
              simp only [Act.put, List.setIfInBounds_toArray, List.set_cons_zero, List.set_cons_succ]
              apply wpR_next 7 (some 90)
              · simp only [List.getElem?_toArray, List.getElem?_cons_succ, List.getElem?_cons_zero]; exact rfl
              · rfl
              · kernel_rfl
              · kernel_rfl
              · kernel_rfl
              · exact fun _ _ _ _ h => h
              apply Exists.intro
              apply And.intro
              · apply yr_run; rfl; intro w' hw'; go_simp; (try with_reducible rfl)
              simp only [Act.put, List.setIfInBounds_toArray, List.set_cons_zero, List.set_cons_succ]
              apply wpR_next 8 (some 91)
              · simp only [List.getElem?_toArray, List.getElem?_cons_succ, List.getElem?_cons_zero]; exact rfl
              · rfl
              · kernel_rfl
              · kernel_rfl
              · kernel_rfl
              · exact fun _ _ _ _ h => h
              apply Exists.intro
              apply And.intro
              · apply yr_run; rfl; intro w' hw'; go_simp; (try with_reducible rfl)
              simp only [Act.put, List.setIfInBounds_toArray, List.set_cons_zero, List.set_cons_succ]
              apply wpR_next 9 (some 92)
              · simp only [List.getElem?_toArray, List.getElem?_cons_succ, List.getElem?_cons_zero]; exact rfl
              · rfl
              · kernel_rfl
              · kernel_rfl
              · kernel_rfl
              · exact fun _ _ _ _ h => h
              apply Exists.intro
              apply And.intro
              · apply yr_run; rfl; intro w' hw'; go_simp; (try with_reducible rfl)
              simp only [Act.put, List.setIfInBounds_toArray, List.set_cons_zero, List.set_cons_succ]
              apply wpR_run 10 (some 93)
              · simp only [List.getElem?_toArray, List.getElem?_cons_succ, List.getElem?_cons_zero]; exact rfl
              · rfl
              · kernel_rfl
              · rfl
              intro w' hw'
              refine ⟨.slice (some ⟨w'.heap.size, 0, none⟩) 1 1, w'.alloc (.cells #[.int .u8 (db : Int)] 5), by (go_simp; first | done | exact rfl | exact ⟨rfl, rfl⟩), Kept.of_below (below1 _ _), ?_⟩
              have hE0 := Ext.trans HDr.out hw'
              have HXb := Lib.hid ((HXa.out.bl hE0).al (.cells #[.int .u8 (db : Int)] 5))
              have HMb := Lib.hid ((HMa.out.bl hE0).al (.cells #[.int .u8 (db : Int)] 5))
              have HOb := Lib.hid (Ow.up (Ow.up HOa.out hE0) (below1 w' (.cells #[.int .u8 (db : Int)] 5)))
              have HSb := Lib.hid (one8 w' db)
              obtain ⟨wb, gwb⟩ : ∃ z, w'.alloc (.cells #[.int .u8 (db : Int)] 5) = z := ⟨_, rfl⟩
              obtain ⟨ab, gab⟩ : ∃ z, w'.heap.size = z := ⟨_, rfl⟩
              rw [gwb] at HXb HMb HOb HSb ⊢
              rw [gab] at HSb ⊢
              clear gwb gab hE0 hw' HXa HMa HOa ld0 ld1 ld2
              simp only [Act.put, List.setIfInBounds_toArray, List.set_cons_zero, List.set_cons_succ]
              apply wpR_run 11 (some 94)
              · simp only [List.getElem?_toArray, List.getElem?_cons_succ, List.getElem?_cons_zero]; exact rfl
              · rfl
              · kernel_rfl
              · rfl
              intro w' hw'
              obtain ⟨A7, c7, w7, hrun, ho7, hg7⟩ := app8 43 (Ow.up HOb.out hw') (HSb.out.bl hw') (by omega)
              refine ⟨_, w7, exec_append (by rfl) (by rfl) (by rfl) hrun, kept_own hg7 (fun i e => .inl e), ?_⟩
              have HX7 := Lib.hid ((HXb.out.bl hw').grown hg7 (own_ne (own_up HOb.out.own hw') (HXb.out.bl hw') (by decide)))
              have HM7 : RowKit.Hid (EndsM w7 bm m (plM Es m)) := Lib.hid (MapF.grown (HMb.out.bl hw') hg7 (own_ne_map (own_up HOb.out.own hw') (HMb.out.bl hw')))
              have HO7 := Lib.hid ho7
              clear hrun ho7 hg7 hw' HXb HMb HOb HSb
              simp only [Act.put, List.setIfInBounds_toArray, List.set_cons_zero, List.set_cons_succ]
              apply wpR_next 12 (some 5)
              · simp only [List.getElem?_toArray, List.getElem?_cons_succ, List.getElem?_cons_zero]; exact rfl
              · rfl
              · kernel_rfl
              · kernel_rfl
              · kernel_rfl
              · exact fun _ _ _ _ h => h
              apply Exists.intro
              apply And.intro
              · apply yr_run; rfl; intro w' hw'; go_simp; (try with_reducible rfl)
              simp only [Act.put, List.setIfInBounds_toArray, List.set_cons_zero, List.set_cons_succ]
              refine wpR_done (by kernel_rfl) ?_ _
              intro w9 hw9
              have HX9 := Lib.hid (HX7.out.bl hw9)
              have HM9 := Lib.hid (HM7.out.bl hw9)
              have HO9 := Lib.hid (Ow.up HO7.out hw9)
              clear hw9 HX7 HM7 HO7
              go_wp2
              go_roundw
              case rel => exact ⟨t + 1, N + 1, A7, c7, X ++ [db], by omega, by go_num, rfl, HX9, HM9, HO9, Lib.hid ⟨by rw [List.length_append, hXl]; rfl, Hrs.out⟩⟩
              case measure => simp [intOf] <;> omega
            · obtain rfl : rn = t := by omega
              have hrs := HXX.out.2
              rw [List.drop_eq_nil_of_le (by have := Hrl.out; omega), List.map_nil, List.nil_append, ← HR9.out] at hrs
              go_wp2
              go_roundw
              case rel => exact ⟨j + 1, N, A2, c2, X, by omega, by go_num, rfl, HX, HM, HO, Lib.hid ⟨HXX.out.1, hrs⟩⟩
              case measure => simp [intOf] <;> omega
        · obtain rfl : n = j := by omega
          have hrs := HXX.out.2
          unfold restV at hrs
          rw [List.drop_eq_nil_of_le (by have := HUl.out; omega), List.flatMap_nil, List.append_nil] at hrs
          obtain rfl := hrs
          obtain rfl : X.length = N := HXX.out.1
          go_wp2
          exact bodyPost_ret (v := .tuple #[.slice A2 X.length c2, .int .i64 0]) (by simp [results, Try.results25, go_sem]) rfl ⟨A2, c2, rfl, HO.out.own, HO.out.below⟩
end Go.Proofs.Ytahbfdhjgnlmdaa

/- The laws' types of layer 8: bytes. -/
namespace Go.Proofs.Ytahbfdhjgnlmdaa
open Go.ChangeShapes Go.WideShapes Go.ChangeAt Go.RowKit

theorem row1_byte (H : Type) : Row1 H Try.prog 5 f8 (fun _ b => b < 256) := by
  intro enc w held fuel cs x h
  obtain ⟨n, rfl, _, hw⟩ := DataW.trod_int Try.underlying5 h
  have hb := bounds_u8 hw
  refine ⟨n.toNat, ?_, by omega⟩
  have e : ((n.toNat : Nat) : Int) = n := by omega
  simp [f8, e]
theorem in64_of {x : Int} (h : (Lit.int .i64 x).wf = true) : In64 x := by
  have := bounds_i64 h
  unfold In64
  omega
end Go.Proofs.Ytahbfdhjgnlmdaa

/- few of stage 8: the same as stage 7's. -/
namespace Go.Proofs.Ytahbfdhjgnlmdaa
open Go.RowKit
set_option linter.unusedSimpArgs false
set_option linter.unusedVariables false

set_option maxRecDepth 100000 in
set_option maxHeartbeats 4000000 in
theorem few8_any (A : Option Addr) (n c : Nat) (Vs : List VC) (B : Option Addr) (m k : Nat) (Es : List EC) (w : World) (h : DgIn w A n c Vs B m k Es) (hn : n ≤ maxLen) (hm : m ≤ maxLen) :
    Calls Try.prog 24 #[.agg #[.slice A n c, .slice B m k]] w fun e w' => ∃ A' c' B' k', e = .returned (.agg #[.slice A' (Vs.take 26).length c', .slice B' (Es.take 42).length k']) ∧
      DgIn w' A' (Vs.take 26).length c' ((Vs.take 26).map few7V) B' (Es.take 42).length k' (Es.take 42) ∧ Below w.heap.size w w' ∧ FwNew w A' (Vs.take 26).length c' B' (Es.take 42).length k' := by
  have HV := Lib.hid h.v
  have HE := Lib.hid h.e
  have HRg := Lib.hid h.r
  have Hlv := Lib.hid (h.v.rlen vC_len (by decide))
  have Hle := Lib.hid (h.e.rlen eC_len (by decide))
  obtain ⟨i0, hi, hz0, hz1, hz2⟩ := info_partsD info_vertex
  obtain ⟨i1, hi1, hz01, hz11, hz21⟩ := info_partsD info_edge
  unfold maxLen at hn hm
  clear h
  go_enter Try.func24, Try.ntmps24
  go_wp2
  have hx0 := ((Whole.new_ w 25 [.slice A n c, .slice B m k]).alloc (.cells #[.slice none 0 0, .slice none 0 0] 25)).alloc (.cells #[.slice none 0 0, .slice none 0 0] 25)
  have hx1 : Whole _ (w.heap.size + 1) 25 [.slice none 0 0, .slice none 0 0] := (Whole.new2 (w := w.alloc (.cells #[.slice A n c, .slice B m k] 25)) (by simp)).alloc (.cells #[.slice none 0 0, .slice none 0 0] 25)
  have hx2 : Whole _ (w.heap.size + 1 + 1) 25 [.slice none 0 0, .slice none 0 0] := Whole.new2 (w := (w.alloc (.cells #[.slice A n c, .slice B m k] 25)).alloc (.cells #[.slice none 0 0, .slice none 0 0] 25)) (by simp)
  have hbl := bel_al (bel_al (below1 w (.cells #[.slice A n c, .slice B m k] 25)) (.cells #[.slice none 0 0, .slice none 0 0] 25)) (.cells #[.slice none 0 0, .slice none 0 0] 25)
  obtain ⟨W0, gW0⟩ : ∃ z, ((w.alloc (.cells #[.slice A n c, .slice B m k] 25)).alloc (.cells #[.slice none 0 0, .slice none 0 0] 25)).alloc (.cells #[.slice none 0 0, .slice none 0 0] 25) = z := ⟨_, rfl⟩
  have hsz : w.heap.size + 1 + 1 + 1 ≤ W0.heap.size := by rw [← gW0]; simp
  have hx0' : Whole W0 w.heap.size 25 [.slice A n c, .slice B m k] := by rw [← gW0]; exact hx0
  have hx1' : Whole W0 (w.heap.size + 1) 25 [.slice none 0 0, .slice none 0 0] := by rw [← gW0]; exact hx1
  have hx2' : Whole W0 (w.heap.size + 1 + 1) 25 [.slice none 0 0, .slice none 0 0] := by rw [← gW0]; exact hx2
  have hbl' : Below w.heap.size w W0 := by rw [← gW0]; exact hbl
  have HF0 : RowKit.Hid (Few7A w Vs A B n c m k w.heap.size (w.heap.size + 1) (w.heap.size + 1 + 1) 0 (.slice none 0 0) W0) := Lib.hid ⟨Ow.nil_ hbl' (by omega) hsz, hx0', hx1', hx2'⟩
  rw [gW0]
  obtain ⟨b2, gb2⟩ : ∃ z, w.heap.size + 1 + 1 = z := ⟨_, rfl⟩
  obtain ⟨b1, gb1⟩ : ∃ z, w.heap.size + 1 = z := ⟨_, rfl⟩
  obtain ⟨b0, gb0⟩ : ∃ z, w.heap.size = z := ⟨_, rfl⟩
  rw [gb2, gb1, gb0] at HF0
  rw [gb2, gb1, gb0]
  have Gb0 := Lib.hid gb0
  have h02 : b0 ≠ b2 := by omega
  have h12 : b1 ≠ b2 := by omega
  have h01 : b0 < b2 := by omega
  have h11 : b1 < b2 := by omega
  have hl2 : w.heap.size ≤ b2 := by omega
  have hl1 : w.heap.size ≤ b1 := by omega
  have Hl2 := Lib.hid hl2
  have Hl1 := Lib.hid hl1
  clear hx0 hx1 hx2 hbl hsz hx0' hx1' hx2' hbl' gW0 gb2 gb1 gb0 hl2 hl1
  go_loopw [4] (fun si wr => ∃ (j : Nat) (v : Value), j ≤ n ∧ j ≤ 26 ∧ si = .int .i64 j ∧ RowKit.Hid (Few7A w Vs A B n c m k b0 b1 b2 j v wr)) (fun si _ => n - (intOf si).toNat)
  case atStart => exact ⟨0, _, by omega, by omega, rfl, HF0⟩
  case round =>
    clear HF0
    obtain ⟨j, v, hj, hj30, rfl, HF⟩ := hrel
    obtain ⟨wo, gwo⟩ : ∃ z, wr = z := ⟨_, rfl⟩
    rw [gwo] at HF ⊢
    clear gwo
    have c0 := HF.out.x0.cell (i := 0) rfl
    by_cases hgo : j < n ∧ j < 26
    · obtain ⟨hjn, hj3⟩ := hgo
      obtain ⟨x, hx⟩ : ∃ x, Vs[j]? = some x := ⟨_, List.getElem?_eq_getElem (by have := Hlv.out; omega)⟩
      have Hx := Lib.hid hx
      have hxo := HRg.out x (List.mem_of_getElem? hx)
      obtain ⟨bb, off, rfl, hbB, hpl⟩ := HV.out.place vC_len (by decide) (by omega)
      have q0 := hpl j _ hx 0 _ rfl
      have q1 := hpl j _ hx 1 _ rfl
      have q2 := hpl j _ hx 2 _ rfl
      have q3 := hpl j _ hx 3 _ rfl
      have q4 := hpl j _ hx 4 _ rfl
      simp only [Addr.add_lit, Nat.add_zero] at q0 q1 q2 q3 q4
      have l0 := (HF.out.ow.below.cell (p := ⟨bb, off + j * 5, none⟩) hbB).trans q0
      have l1 := (HF.out.ow.below.cell (p := ⟨bb, off + j * 5 + 1, none⟩) hbB).trans q1
      have l2 := (HF.out.ow.below.cell (p := ⟨bb, off + j * 5 + 2, none⟩) hbB).trans q2
      have l3 := (HF.out.ow.below.cell (p := ⟨bb, off + j * 5 + 3, none⟩) hbB).trans q3
      have l4 := (HF.out.ow.below.cell (p := ⟨bb, off + j * 5 + 4, none⟩) hbB).trans q4
      obtain ⟨⟨i1, i2⟩, ⟨rA, rn, rc, rL⟩, lb, at_⟩ := x
      have hxo2 : RdS w w.heap.size 3 rA rn rc (dartsV rL) := hxo.2
      have hrc : rn ≤ rc := hxo2.le
      have hrn : rc ≤ 9223372036854775807 := hxo.1
      clear hx hpl q0 q1 q2 q3 q4 hbB
      have hgw : wo.heap.size ≠ b2 := by have := HF.out.x2.lt; omega
      have hgw0 : b0 ≠ wo.heap.size := by have := HF.out.x0.lt; omega
      have hgw1 : b1 ≠ wo.heap.size := by have := HF.out.x1.lt; omega
      by_cases h30 : 82 < rn
      · obtain ⟨ra, rfl⟩ : ∃ ra, rA = some ra := by
          cases rA with
          | none => have := (hxo2.none_ rfl).1; omega
          | some ra => exact ⟨ra, rfl⟩
        have hfv : few7V ((i1, i2), (some ra, rn, rc, rL), lb, at_) = ((i1, i2), (some ra, 82, rc, rL.take 82), lb, at_) := by unfold few7V; rw [if_pos h30]
        clear hxo hxo2
        go_upto_region 8 with fail
        clear l0 l1 l2 l3 l4
        obtain ⟨Wt, gWt⟩ : ∃ x, wo.alloc (.cells #[.int .i64 i1, .int .i64 i2, .slice (some ra) 82 rc, .string lb, .int .i64 at_] 38) = x := ⟨_, rfl⟩
        obtain ⟨g3, gg3⟩ : ∃ x, wo.heap.size = x := ⟨_, rfl⟩
        have HO : RowKit.Hid (Ow w (b2 + 1) 38 5 v j (rowsV vC ((Vs.take j).map few7V)) Wt) := Lib.hid (by rw [← gWt]; exact HF.out.ow.up (below1 _ _))
        have HX0 : RowKit.Hid (Whole Wt b0 25 [.slice (some ⟨bb, off, none⟩) n c, .slice B m k]) := Lib.hid (by rw [← gWt]; exact HF.out.x0.alloc _)
        have HX1 : RowKit.Hid (Whole Wt b1 25 [.slice none 0 0, .slice none 0 0]) := Lib.hid (by rw [← gWt]; exact HF.out.x1.alloc _)
        have HX2 : RowKit.Hid (Whole Wt b2 25 [v, .slice none 0 0]) := Lib.hid (by rw [← gWt]; exact HF.out.x2.alloc _)
        have HX3 : RowKit.Hid (Whole Wt g3 38 [.int .i64 i1, .int .i64 i2, .slice (some ra) 82 rc, .string lb, .int .i64 at_]) := Lib.hid (by rw [← gWt, ← gg3]; exact Whole.new_ wo 38 [_, _, _, _, _])
        rw [gWt, gg3]
        clear gWt gg3 HF c0
        have c0 := HX2.out.cell (i := 0) rfl
        have c1 := HX2.out.cell (i := 1) rfl
        have f0 := HX2.out.free 0
        have z0 := HX3.out.cell (i := 0) rfl
        have z1 := HX3.out.cell (i := 1) rfl
        have z2 := HX3.out.cell (i := 2) rfl
        have z3 := HX3.out.cell (i := 3) rfl
        have z4 := HX3.out.cell (i := 4) rfl
        refine wp_region_lit ?_
        refine wl_read (v := ?_) (some 32) rfl (by rfl) ?_ ?_
        rotate_left
        · go_simp; (try with_reducible rfl)
        simp only [Act.put, List.setIfInBounds_toArray, List.set_cons_zero, List.set_cons_succ]
        refine wl_read (v := ?_) (some 33) rfl (by rfl) ?_ ?_
        rotate_left
        · go_simp; (try with_reducible rfl)
        simp only [Act.put, List.setIfInBounds_toArray, List.set_cons_zero, List.set_cons_succ]
        refine wl_load (some 34) rfl (by rfl) 38 (.tmp 5) rfl g3 rfl 38 [.int .i64 i1, .int .i64 i2, .slice (some ra) 82 rc, .string lb, .int .i64 at_] _ HX3.out Try.underlying38 rfl (by kernel_rfl) ?_
        simp only [Act.put, List.setIfInBounds_toArray, List.set_cons_zero, List.set_cons_succ]
        refine wl_buildSlice (some 35) rfl (by rfl) 22 38 1 #[(0, .tmp 34)] rfl Try.underlying22 #[.int .i64 i1, .int .i64 i2, .slice (some ra) 82 rc, .string lb, .int .i64 at_] (by kernel_rfl) ?_
        simp only [Act.put, List.setIfInBounds_toArray, List.set_cons_zero, List.set_cons_succ]
        refine wpList_push2 rfl (.tmp 33) (.tmp 35) _ rfl _ 38 i0 _ 5 64 Try.underlying22 hi hz0 hz1 hz2 rfl (by decide) _ _ _ rfl (by exact HO.out.up (below1 _ _)) _ (some ⟨Wt.heap.size, 0, none⟩) 1 1 [.int .i64 i1, .int .i64 i2, .slice (some ra) 82 rc, .string lb, .int .i64 at_] rfl (by exact RdS.of_whole (Whole.new_ _ _ _) rfl) (by simp [Value.oneCell']) (by unfold maxLen; omega) (by omega) ?_
        intro v1 w1 how1 hb1 hgr
        obtain ⟨Aq, cq, rfl, -⟩ := how1.rds
        have hne2 := HO.out.low_ne (Nat.lt_succ_self b2)
        have HXa := Lib.hid ((HX0.out.alloc (.cells #[.int .i64 i1, .int .i64 i2, .slice (some ra) 82 rc, .string lb, .int .i64 at_] 38)).grown hgr (HO.out.low_ne (by omega)))
        have HXb := Lib.hid ((HX1.out.alloc (.cells #[.int .i64 i1, .int .i64 i2, .slice (some ra) 82 rc, .string lb, .int .i64 at_] 38)).grown hgr (HO.out.low_ne (by omega)))
        have hx2 := (HX2.out.alloc (.cells #[.int .i64 i1, .int .i64 i2, .slice (some ra) 82 rc, .string lb, .int .i64 at_] 38)).grown hgr hne2
        have m0 := hx2.free 0
        have m1 := hx2.cell (i := 0) rfl
        have HFn : RowKit.Hid (Few7A w Vs (some ⟨bb, off, none⟩) B n c m k b0 b1 b2 (j + 1) (.slice Aq (j + 1) cq) (w1.setCell ⟨b2, 0, none⟩ (.slice Aq (j + 1) cq))) := Lib.hid ⟨by
           have := how1.set_far (i := 0) (how1.low_ne (Nat.lt_succ_self b2)) Hl2.out (.slice Aq (j + 1) cq)
           rw [← few7V_next Vs j _ Hx.out, hfv]
           exact this, HXa.out.set_far' h02 _, HXb.out.set_far' h12 _, hx2.set_ 0 _⟩
        clear how1 hb1 hgr hne2 hx2 c0 c1 f0 z0 z1 z2 z3 z4
        go_wp2
        go_roundw
        case rel => exact ⟨j + 1, _, by omega, by omega, by go_num, HFn⟩
        case measure => simp [intOf]; omega
      · have hfv : few7V ((i1, i2), (rA, rn, rc, rL), lb, at_) = ((i1, i2), (rA, rn, rc, rL), lb, at_) := by unfold few7V; rw [if_neg h30]
        clear hxo hxo2
        go_upto_region 8 with fail
        clear l0 l1 l2 l3 l4
        obtain ⟨Wt, gWt⟩ : ∃ x, wo.alloc (.cells #[.int .i64 i1, .int .i64 i2, .slice rA rn rc, .string lb, .int .i64 at_] 38) = x := ⟨_, rfl⟩
        obtain ⟨g3, gg3⟩ : ∃ x, wo.heap.size = x := ⟨_, rfl⟩
        have HO : RowKit.Hid (Ow w (b2 + 1) 38 5 v j (rowsV vC ((Vs.take j).map few7V)) Wt) := Lib.hid (by rw [← gWt]; exact HF.out.ow.up (below1 _ _))
        have HX0 : RowKit.Hid (Whole Wt b0 25 [.slice (some ⟨bb, off, none⟩) n c, .slice B m k]) := Lib.hid (by rw [← gWt]; exact HF.out.x0.alloc _)
        have HX1 : RowKit.Hid (Whole Wt b1 25 [.slice none 0 0, .slice none 0 0]) := Lib.hid (by rw [← gWt]; exact HF.out.x1.alloc _)
        have HX2 : RowKit.Hid (Whole Wt b2 25 [v, .slice none 0 0]) := Lib.hid (by rw [← gWt]; exact HF.out.x2.alloc _)
        have HX3 : RowKit.Hid (Whole Wt g3 38 [.int .i64 i1, .int .i64 i2, .slice rA rn rc, .string lb, .int .i64 at_]) := Lib.hid (by rw [← gWt, ← gg3]; exact Whole.new_ wo 38 [_, _, _, _, _])
        rw [gWt, gg3]
        clear gWt gg3 HF c0
        have c0 := HX2.out.cell (i := 0) rfl
        have c1 := HX2.out.cell (i := 1) rfl
        have f0 := HX2.out.free 0
        have z0 := HX3.out.cell (i := 0) rfl
        have z1 := HX3.out.cell (i := 1) rfl
        have z2 := HX3.out.cell (i := 2) rfl
        have z3 := HX3.out.cell (i := 3) rfl
        have z4 := HX3.out.cell (i := 4) rfl
        refine wp_region_lit ?_
        refine wl_read (v := ?_) (some 32) rfl (by rfl) ?_ ?_
        rotate_left
        · go_simp; (try with_reducible rfl)
        simp only [Act.put, List.setIfInBounds_toArray, List.set_cons_zero, List.set_cons_succ]
        refine wl_read (v := ?_) (some 33) rfl (by rfl) ?_ ?_
        rotate_left
        · go_simp; (try with_reducible rfl)
        simp only [Act.put, List.setIfInBounds_toArray, List.set_cons_zero, List.set_cons_succ]
        refine wl_load (some 34) rfl (by rfl) 38 (.tmp 5) rfl g3 rfl 38 [.int .i64 i1, .int .i64 i2, .slice rA rn rc, .string lb, .int .i64 at_] _ HX3.out Try.underlying38 rfl (by kernel_rfl) ?_
        simp only [Act.put, List.setIfInBounds_toArray, List.set_cons_zero, List.set_cons_succ]
        refine wl_buildSlice (some 35) rfl (by rfl) 22 38 1 #[(0, .tmp 34)] rfl Try.underlying22 #[.int .i64 i1, .int .i64 i2, .slice rA rn rc, .string lb, .int .i64 at_] (by kernel_rfl) ?_
        simp only [Act.put, List.setIfInBounds_toArray, List.set_cons_zero, List.set_cons_succ]
        refine wpList_push2 rfl (.tmp 33) (.tmp 35) _ rfl _ 38 i0 _ 5 64 Try.underlying22 hi hz0 hz1 hz2 rfl (by decide) _ _ _ rfl (by exact HO.out.up (below1 _ _)) _ (some ⟨Wt.heap.size, 0, none⟩) 1 1 [.int .i64 i1, .int .i64 i2, .slice rA rn rc, .string lb, .int .i64 at_] rfl (by exact RdS.of_whole (Whole.new_ _ _ _) rfl) (by simp [Value.oneCell']) (by unfold maxLen; omega) (by omega) ?_
        intro v1 w1 how1 hb1 hgr
        obtain ⟨Aq, cq, rfl, -⟩ := how1.rds
        have hne2 := HO.out.low_ne (Nat.lt_succ_self b2)
        have HXa := Lib.hid ((HX0.out.alloc (.cells #[.int .i64 i1, .int .i64 i2, .slice rA rn rc, .string lb, .int .i64 at_] 38)).grown hgr (HO.out.low_ne (by omega)))
        have HXb := Lib.hid ((HX1.out.alloc (.cells #[.int .i64 i1, .int .i64 i2, .slice rA rn rc, .string lb, .int .i64 at_] 38)).grown hgr (HO.out.low_ne (by omega)))
        have hx2 := (HX2.out.alloc (.cells #[.int .i64 i1, .int .i64 i2, .slice rA rn rc, .string lb, .int .i64 at_] 38)).grown hgr hne2
        have m0 := hx2.free 0
        have m1 := hx2.cell (i := 0) rfl
        have HFn : RowKit.Hid (Few7A w Vs (some ⟨bb, off, none⟩) B n c m k b0 b1 b2 (j + 1) (.slice Aq (j + 1) cq) (w1.setCell ⟨b2, 0, none⟩ (.slice Aq (j + 1) cq))) := Lib.hid ⟨by
           have := how1.set_far (i := 0) (how1.low_ne (Nat.lt_succ_self b2)) Hl2.out (.slice Aq (j + 1) cq)
           rw [← few7V_next Vs j _ Hx.out, hfv]
           exact this, HXa.out.set_far' h02 _, HXb.out.set_far' h12 _, hx2.set_ 0 _⟩
        clear how1 hb1 hgr hne2 hx2 c0 c1 f0 z0 z1 z2 z3 z4
        go_wp2
        go_roundw
        case rel => exact ⟨j + 1, _, by omega, by omega, by go_num, HFn⟩
        case measure => simp [intOf]; omega
    · by_cases hjn : j < n
      · have hj3 : ¬ j < 26 := by omega
        have hjl : (Vs.take 26).length = j := by have := Hlv.out; rw [List.length_take]; omega
        have htk : Vs.take j = Vs.take 26 := by
          rw [← hjl, List.length_take]
          rcases Nat.le_total 26 Vs.length with h | h
          · rw [Nat.min_eq_left h]
          · rw [Nat.min_eq_right h, List.take_length, List.take_of_length_le h]
        obtain ⟨A1, c1, rfl, hr1⟩ := HF.out.ow.rds
        have Hcap1 : RowKit.Hid (c1 ≤ maxLen) := Lib.hid (own_cap HF.out.ow.own)
        rw [htk] at hr1
        have hne : ∀ a, A1 = some a → 0 < j → a.block ≠ b2 ∧ a.block ≠ b1 ∧ w.heap.size ≤ a.block := fun a ha _ => by
          subst ha
          have h9 := (HF.out.ow.own.lt a.block rfl).1
          have h8 := Hl2.out
          omega
        have hB2 : b2 < wo.heap.size := HF.out.x2.lt
        obtain ⟨B2, gB2⟩ : ∃ z, wo.heap.size = z := ⟨_, rfl⟩
        have hB3 : B2 ≤ wo.heap.size := by omega
        rw [gB2] at hr1 hB2
        have HG0 : RowKit.Hid (Few7B w Vs Es A B n c m k b0 b1 b2 B2 j A1 c1 0 (.slice none 0 0) (.slice none 0 0) wo) := Lib.hid ⟨Ow.nil_ HF.out.ow.below (by have := HF.out.ow.below.size; omega) hB3, HF.out.x0, HF.out.x1, HF.out.x2, hr1⟩
        have Hne := Lib.hid hne
        have Hjl := Lib.hid hjl
        have HlB : RowKit.Hid (w.heap.size ≤ B2) := Lib.hid (by have := HF.out.ow.below.size; omega)
        clear hr1 hne htk gB2 HF hB3 hjl
        go_wp2
        clear c0
        go_loopw [6] (fun si wr => ∃ (q : Nat) (v2 : Value), q ≤ m ∧ q ≤ 42 ∧ si = .int .i64 q ∧ RowKit.Hid (Few7B w Vs Es A B n c m k b0 b1 b2 B2 j A1 c1 q v2 v2 wr)) (fun si _ => m - (intOf si).toNat)
        case atStart => exact ⟨0, _, by omega, by omega, rfl, HG0⟩
        case round =>
          clear HG0
          obtain ⟨q, v2, hq, hq50, rfl, HG⟩ := hrel
          obtain ⟨wi, gwi⟩ : ∃ z, wr = z := ⟨_, rfl⟩
          rw [gwi] at HG ⊢
          clear gwi
          have d0 := HG.out.x0.cell (i := 1) rfl
          by_cases hgo2 : q < m ∧ q < 42
          · obtain ⟨hqm, hq5⟩ := hgo2
            obtain ⟨x, hx⟩ : ∃ x, Es[q]? = some x := ⟨_, List.getElem?_eq_getElem (by have := Hle.out; omega)⟩
            have Hx := Lib.hid hx
            obtain ⟨bb, off, rfl, hbB, hpl⟩ := HE.out.place eC_len (by decide) (by omega)
            have HPl := Lib.hid (hpl q _ hx)
            have HbB := Lib.hid hbB
            clear hx hpl hbB
            go_upto_region 12 with fail
            clear d0
            have HGd := Lib.hid (HG.out.below ((Below.refl _ _).drew))
            have HP : RowKit.Hid (∀ w', Kept (From_ B2) wi.drew w' → ∀ i u, (eC x)[i]? = some u → w'.cell? ((⟨bb, off + q * 4, none⟩ : Addr).add i) = some u) := Lib.hid (fun w' hk i u hu => hk.from_cell (by rw [add_block]; exact Nat.lt_of_lt_of_le HbB.out HlB.out) ((HGd.out.ow.below.cell (by rw [add_block]; exact HbB.out)).trans (HPl.out i u hu)))
            have ld1 : ∀ w', Kept (From_ B2) wi.drew w' → w'.cell? ⟨b2, 1, none⟩ = some v2 := fun w' hk => hk.from_cell hB2 (HGd.out.x2.cell (i := 1) rfl)
            have ld0 : ∀ w', Kept (From_ B2) wi.drew w' → w'.cell? ⟨b0, 1, none⟩ = some (.slice (some ⟨bb, off, none⟩) m k) := fun w' hk => hk.from_cell (show b0 < B2 by omega) (HGd.out.x0.cell (i := 1) rfl)
            clear HG
            refine wp_region_tail (From_ B2) [10] (by kernel_rfl) ?_
            apply wpT_next 0 (some 49) (by kernel_rfl)
            · simp only [List.getElem?_toArray, List.getElem?_cons_succ, List.getElem?_cons_zero]; exact rfl
            · rfl
            · kernel_rfl
            · kernel_rfl
            · kernel_rfl
            · exact fun _ _ _ _ h => h
            apply Exists.intro
            apply And.intro
            · apply yr_run; rfl; intro w' hw'; go_simp; (try with_reducible rfl)
            simp only [Act.put, List.setIfInBounds_toArray, List.set_cons_zero, List.set_cons_succ]
            apply wpT_next 1 (some 50) (by kernel_rfl)
            · simp only [List.getElem?_toArray, List.getElem?_cons_succ, List.getElem?_cons_zero]; exact rfl
            · rfl
            · kernel_rfl
            · kernel_rfl
            · kernel_rfl
            · exact fun _ _ _ _ h => h
            apply Exists.intro
            apply And.intro
            · apply yr_run; rfl; intro w' hw'; go_simp; (try with_reducible rfl)
            simp only [Act.put, List.setIfInBounds_toArray, List.set_cons_zero, List.set_cons_succ]
            apply wpT_next 2 (some 51) (by kernel_rfl)
            · simp only [List.getElem?_toArray, List.getElem?_cons_succ, List.getElem?_cons_zero]; exact rfl
            · rfl
            · kernel_rfl
            · kernel_rfl
            · kernel_rfl
            · exact fun _ _ _ _ h => h
            apply Exists.intro
            apply And.intro
            · apply yr_run; rfl; intro w' hw'; go_simp; (try with_reducible rfl)
            simp only [Act.put, List.setIfInBounds_toArray, List.set_cons_zero, List.set_cons_succ]
            apply wpT_next 3 (some 52) (by kernel_rfl)
            · simp only [List.getElem?_toArray, List.getElem?_cons_succ, List.getElem?_cons_zero]; exact rfl
            · rfl
            · kernel_rfl
            · kernel_rfl
            · kernel_rfl
            · exact fun _ _ _ _ h => h
            apply Exists.intro
            apply And.intro
            · apply yr_run; rfl; intro w' hw'; go_simp; (try with_reducible rfl)
            simp only [Act.put, List.setIfInBounds_toArray, List.set_cons_zero, List.set_cons_succ]
            apply wpT_next 4 (some 53) (by kernel_rfl)
            · simp only [List.getElem?_toArray, List.getElem?_cons_succ, List.getElem?_cons_zero]; exact rfl
            · rfl
            · kernel_rfl
            · kernel_rfl
            · kernel_rfl
            · exact fun _ _ _ _ h => h
            apply Exists.intro
            apply And.intro
            · apply yr_run; rfl; intro w' hw'; go_simp; (try with_reducible rfl)
            simp only [Act.put, List.setIfInBounds_toArray, List.set_cons_zero, List.set_cons_succ]
            apply wpT_next 5 (some 54) (by kernel_rfl)
            · simp only [List.getElem?_toArray, List.getElem?_cons_succ, List.getElem?_cons_zero]; exact rfl
            · rfl
            · kernel_rfl
            · kernel_rfl
            · kernel_rfl
            · exact fun _ _ _ _ h => h
            apply Exists.intro
            apply And.intro
            · apply yr_run; rfl; intro w' hw'; go_simp; (try with_reducible rfl)
            simp only [Act.put, List.setIfInBounds_toArray, List.set_cons_zero, List.set_cons_succ]
            apply wpT_next 6 (some 55) (by kernel_rfl)
            · simp only [List.getElem?_toArray, List.getElem?_cons_succ, List.getElem?_cons_zero]; exact rfl
            · rfl
            · kernel_rfl
            · kernel_rfl
            · kernel_rfl
            · exact fun _ _ _ _ h => h
            apply Exists.intro
            apply And.intro
            · exact yr_load_at (by rfl) 33 (.tmp 54) rfl ⟨bb, off + q * 4, none⟩ rfl (eC x) _ HP.out Try.underlying33 rfl (by kernel_rfl)
            simp only [Act.put, List.setIfInBounds_toArray, List.set_cons_zero, List.set_cons_succ]
            apply wpT_run 7 (some 56)
            · simp only [List.getElem?_toArray, List.getElem?_cons_succ, List.getElem?_cons_zero]; exact rfl
            · rfl
            · kernel_rfl
            · rfl
            intro w' hw'
            refine ⟨.slice (some ⟨w'.heap.size, 0, none⟩) 1 1, w'.alloc (.cells (eC x).toArray 33), exec_buildSlice 23 33 1 #[(0, .tmp 55)] (by rfl) Try.underlying23 _ (by kernel_rfl), Kept.of_below (below1 _ _), ?_⟩
            have HXd : RowKit.Hid (Ext wi.drew (w'.alloc (.cells (eC x).toArray 33))) := Lib.hid (Ext.trans hw' (below1 _ _))
            have HL : RowKit.Hid (RdS (w'.alloc (.cells (eC x).toArray 33)) (w'.alloc (.cells (eC x).toArray 33)).heap.size 4 (some ⟨w'.heap.size, 0, none⟩) 1 1 (eC x)) := Lib.hid (RdS.of_whole (Whole.new_ _ _ _) rfl)
            obtain ⟨W3, gW3⟩ : ∃ z, w'.alloc (.cells (eC x).toArray 33) = z := ⟨_, rfl⟩
            obtain ⟨g3, gg3⟩ : ∃ z, w'.heap.size = z := ⟨_, rfl⟩
            rw [gW3] at HXd HL ⊢
            rw [gg3] at HL ⊢
            clear hw' gW3 gg3
            simp only [Act.put, List.setIfInBounds_toArray, List.set_cons_zero, List.set_cons_succ]
            apply wpT_run 8 (some 57)
            · simp only [List.getElem?_toArray, List.getElem?_cons_succ, List.getElem?_cons_zero]; exact rfl
            · rfl
            · kernel_rfl
            · rfl
            intro w' hw'
            have HG8 := HGd.out.below (Ext.trans HXd.out hw')
            obtain ⟨v8, w'', hrun, ho, hb8⟩ := Ow.app (P := Try.prog) 23 23 33 i1 _ 4 40 B2 Try.underlying23 hi1 hz01 hz11 hz21 rfl (by decide) _ _ _ HG8.ow _ _ 1 1 _ (HL.out.bl hw') (eC_one x) (by unfold maxLen; omega) (by omega)
            obtain ⟨A8, c8, rfl, -⟩ := ho.rds
            refine ⟨_, w'', exec_append (by rfl) (by rfl) (by rfl) hrun, Kept.of_from hb8, ?_⟩
            have HG9 := Lib.hid (HG8.grow Hx.out ho hb8 (by omega) (by omega) hB2)
            obtain ⟨W4, gW4⟩ : ∃ z, w'' = z := ⟨_, rfl⟩
            rw [gW4] at HG9 ⊢
            clear hw' HG8 hrun ho hb8 gW4 HXd HL HGd
            simp only [Act.put, List.setIfInBounds_toArray, List.set_cons_zero, List.set_cons_succ]
            apply wpT_next 9 (some 58) (by kernel_rfl)
            · simp only [List.getElem?_toArray, List.getElem?_cons_succ, List.getElem?_cons_zero]; exact rfl
            · rfl
            · kernel_rfl
            · kernel_rfl
            · kernel_rfl
            · exact fun _ _ _ _ h => h
            apply Exists.intro
            apply And.intro
            · apply yr_run; rfl; intro w' hw'; go_simp; (try with_reducible rfl)
            simp only [Act.put, List.setIfInBounds_toArray, List.set_cons_zero, List.set_cons_succ]
            apply wpT_last 10
            · simp only [List.getElem?_toArray, List.getElem?_cons_succ, List.getElem?_cons_zero]; exact rfl
            · rfl
            · kernel_rfl
            · rfl
            · decide
            intro w' hw'
            have hx2 := HG9.out.x2.below hw'
            have hcl := hx2.cell (i := 1) rfl
            have hfr := hx2.free 1
            refine ⟨w'.setCell ⟨b2, 1, none⟩ (.slice A8 (q + 1) c8), ?_, ?_⟩
            · go_simp; first | done | exact rfl
            have HG10 := Lib.hid ((HG9.out.below hw').store h02 h12 hB2 Hl2.out (fun a ha h0 => (Hne.out a ha h0).1))
            obtain ⟨W5, gW5⟩ : ∃ z, w'.setCell ⟨b2, 1, none⟩ (.slice A8 (q + 1) c8) = z := ⟨_, rfl⟩
            rw [gW5] at HG10 ⊢
            clear hw' hx2 hcl hfr gW5 HG9
            try simp only [Act.put, List.setIfInBounds_toArray, List.set_cons_zero, List.set_cons_succ]
            refine wpT_done (by kernel_rfl) ?_ _
            intro W6 hw6
            have HG6 := Lib.hid (HG10.out.below hw6)
            clear hw6 ld0 ld1 HP HG10
            go_wp2
            go_roundw
            case rel => exact ⟨q + 1, _, by omega, by omega, by go_num, HG6⟩
            case measure => simp [intOf]; omega
          · have hql : (Es.take 42).length = q := by have := Hle.out; rw [List.length_take]; omega
            have htk2 : Es.take q = Es.take 42 := by
              rw [← hql, List.length_take]
              rcases Nat.le_total 42 Es.length with h | h
              · rw [Nat.min_eq_left h]
              · rw [Nat.min_eq_right h, List.take_length, List.take_of_length_le h]
            obtain ⟨A2, c2, rfl, hr2⟩ := HG.out.ow.rds
            have hcap2 : c2 ≤ maxLen := own_cap HG.out.ow.own
            have hfr2 : ∀ a, A2 = some a → 0 < q → w.heap.size ≤ a.block := fun a ha _ => by
              subst ha
              have h9 := (HG.out.ow.own.lt a.block rfl).1
              have h8 := HlB.out
              omega
            rw [htk2] at hr2
            have hne2 : ∀ a, A2 = some a → 0 < q → a.block ≠ b1 := fun a ha _ => by
              subst ha
              have h9 := (HG.out.ow.own.lt a.block rfl).1
              omega
            have hpost : ∃ A' c' B' k', Ending.returned (.agg #[.slice A1 j c1, .slice A2 q c2]) = .returned (.agg #[.slice A' (Vs.take 26).length c', .slice B' (Es.take 42).length k']) ∧
              DgIn ((wi.setCell ⟨b1, 0, none⟩ (.slice A1 j c1)).setCell ⟨b1, 1, none⟩ (.slice A2 q c2)) A' (Vs.take 26).length c' ((Vs.take 26).map few7V) B' (Es.take 42).length k' (Es.take 42) ∧ Below w.heap.size w ((wi.setCell ⟨b1, 0, none⟩ (.slice A1 j c1)).setCell ⟨b1, 1, none⟩ (.slice A2 q c2)) ∧ FwNew w A' (Vs.take 26).length c' B' (Es.take 42).length k' := by
              have hbel := (HG.out.ow.below.setCell (p := ⟨b1, 0, none⟩) Hl1.out (.slice A1 j c1)).setCell (p := ⟨b1, 1, none⟩) Hl1.out (.slice A2 q c2)
              refine ⟨A1, c1, A2, c2, by rw [Hjl.out, hql], ?_, hbel, ?_⟩
              rotate_left
              · rw [Hjl.out, hql]
                exact ⟨Hcap1.out, hcap2, fun a ha h0 => (Hne.out a ha h0).2.2, hfr2⟩
              rw [Hjl.out, hql]
              refine ⟨((HG.out.rv.far_ (fun a ha h0 => (Hne.out a ha h0).2.1) _).far_ (fun a ha h0 => (Hne.out a ha h0).2.1) _).up (Below.refl _ _) (by simpa [World.setCell] using HG.out.ow.hi), ((hr2.far_ hne2 _).far_ hne2 _).up (Below.refl _ _) (by simp [World.setCell]), fun y hy => ?_⟩
              obtain ⟨x, hx, rfl⟩ := List.mem_map.1 hy
              exact (RgOk.few7 (HRg.out x (List.mem_of_mem_take hx))).below hbel
            have hx1 := (HG.out.x1.set_ 0 (.slice A1 j c1)).set_ 1 (.slice A2 q c2)
            have e0 := HG.out.x2.cell (i := 0) rfl
            have e1 := HG.out.x2.cell (i := 1) rfl
            have f0 := HG.out.x1.free 0
            have f1 := HG.out.x1.free 1
            have k0 := HG.out.x1.cell (i := 0) rfl
            have k1 := HG.out.x1.cell (i := 1) rfl
            have Hpost := Lib.hid hpost
            have Hx1 := Lib.hid hx1
            clear hpost hx1 hr2 hne2 HG htk2 hql hcap2 hfr2
            by_cases hqm : q < m
            · have hq5 : ¬ q < 42 := by omega
              go_wp2
              exact ret_whole rfl b1 rfl Hx1.out Try.underlying25 rfl (by kernel_rfl) rfl Hpost.out
            · go_wp2
              exact ret_whole rfl b1 rfl Hx1.out Try.underlying25 rfl (by kernel_rfl) rfl Hpost.out
      · have hjl : (Vs.take 26).length = j := by have := Hlv.out; rw [List.length_take]; omega
        have htk : Vs.take j = Vs.take 26 := by
          rw [← hjl, List.length_take]
          rcases Nat.le_total 26 Vs.length with h | h
          · rw [Nat.min_eq_left h]
          · rw [Nat.min_eq_right h, List.take_length, List.take_of_length_le h]
        obtain ⟨A1, c1, rfl, hr1⟩ := HF.out.ow.rds
        have Hcap1 : RowKit.Hid (c1 ≤ maxLen) := Lib.hid (own_cap HF.out.ow.own)
        rw [htk] at hr1
        have hne : ∀ a, A1 = some a → 0 < j → a.block ≠ b2 ∧ a.block ≠ b1 ∧ w.heap.size ≤ a.block := fun a ha _ => by
          subst ha
          have h9 := (HF.out.ow.own.lt a.block rfl).1
          have h8 := Hl2.out
          omega
        have hB2 : b2 < wo.heap.size := HF.out.x2.lt
        obtain ⟨B2, gB2⟩ : ∃ z, wo.heap.size = z := ⟨_, rfl⟩
        have hB3 : B2 ≤ wo.heap.size := by omega
        rw [gB2] at hr1 hB2
        have HG0 : RowKit.Hid (Few7B w Vs Es A B n c m k b0 b1 b2 B2 j A1 c1 0 (.slice none 0 0) (.slice none 0 0) wo) := Lib.hid ⟨Ow.nil_ HF.out.ow.below (by have := HF.out.ow.below.size; omega) hB3, HF.out.x0, HF.out.x1, HF.out.x2, hr1⟩
        have Hne := Lib.hid hne
        have Hjl := Lib.hid hjl
        have HlB : RowKit.Hid (w.heap.size ≤ B2) := Lib.hid (by have := HF.out.ow.below.size; omega)
        clear hr1 hne htk gB2 HF hB3 hjl
        go_wp2
        clear c0
        go_loopw [6] (fun si wr => ∃ (q : Nat) (v2 : Value), q ≤ m ∧ q ≤ 42 ∧ si = .int .i64 q ∧ RowKit.Hid (Few7B w Vs Es A B n c m k b0 b1 b2 B2 j A1 c1 q v2 v2 wr)) (fun si _ => m - (intOf si).toNat)
        case atStart => exact ⟨0, _, by omega, by omega, rfl, HG0⟩
        case round =>
          clear HG0
          obtain ⟨q, v2, hq, hq50, rfl, HG⟩ := hrel
          obtain ⟨wi, gwi⟩ : ∃ z, wr = z := ⟨_, rfl⟩
          rw [gwi] at HG ⊢
          clear gwi
          have d0 := HG.out.x0.cell (i := 1) rfl
          by_cases hgo2 : q < m ∧ q < 42
          · obtain ⟨hqm, hq5⟩ := hgo2
            obtain ⟨x, hx⟩ : ∃ x, Es[q]? = some x := ⟨_, List.getElem?_eq_getElem (by have := Hle.out; omega)⟩
            have Hx := Lib.hid hx
            obtain ⟨bb, off, rfl, hbB, hpl⟩ := HE.out.place eC_len (by decide) (by omega)
            have HPl := Lib.hid (hpl q _ hx)
            have HbB := Lib.hid hbB
            clear hx hpl hbB
            go_upto_region 12 with fail
            clear d0
            have HGd := Lib.hid (HG.out.below ((Below.refl _ _).drew))
            have HP : RowKit.Hid (∀ w', Kept (From_ B2) wi.drew w' → ∀ i u, (eC x)[i]? = some u → w'.cell? ((⟨bb, off + q * 4, none⟩ : Addr).add i) = some u) := Lib.hid (fun w' hk i u hu => hk.from_cell (by rw [add_block]; exact Nat.lt_of_lt_of_le HbB.out HlB.out) ((HGd.out.ow.below.cell (by rw [add_block]; exact HbB.out)).trans (HPl.out i u hu)))
            have ld1 : ∀ w', Kept (From_ B2) wi.drew w' → w'.cell? ⟨b2, 1, none⟩ = some v2 := fun w' hk => hk.from_cell hB2 (HGd.out.x2.cell (i := 1) rfl)
            have ld0 : ∀ w', Kept (From_ B2) wi.drew w' → w'.cell? ⟨b0, 1, none⟩ = some (.slice (some ⟨bb, off, none⟩) m k) := fun w' hk => hk.from_cell (show b0 < B2 by omega) (HGd.out.x0.cell (i := 1) rfl)
            clear HG
            refine wp_region_tail (From_ B2) [10] (by kernel_rfl) ?_
            apply wpT_next 0 (some 49) (by kernel_rfl)
            · simp only [List.getElem?_toArray, List.getElem?_cons_succ, List.getElem?_cons_zero]; exact rfl
            · rfl
            · kernel_rfl
            · kernel_rfl
            · kernel_rfl
            · exact fun _ _ _ _ h => h
            apply Exists.intro
            apply And.intro
            · apply yr_run; rfl; intro w' hw'; go_simp; (try with_reducible rfl)
            simp only [Act.put, List.setIfInBounds_toArray, List.set_cons_zero, List.set_cons_succ]
            apply wpT_next 1 (some 50) (by kernel_rfl)
            · simp only [List.getElem?_toArray, List.getElem?_cons_succ, List.getElem?_cons_zero]; exact rfl
            · rfl
            · kernel_rfl
            · kernel_rfl
            · kernel_rfl
            · exact fun _ _ _ _ h => h
            apply Exists.intro
            apply And.intro
            · apply yr_run; rfl; intro w' hw'; go_simp; (try with_reducible rfl)
            simp only [Act.put, List.setIfInBounds_toArray, List.set_cons_zero, List.set_cons_succ]
            apply wpT_next 2 (some 51) (by kernel_rfl)
            · simp only [List.getElem?_toArray, List.getElem?_cons_succ, List.getElem?_cons_zero]; exact rfl
            · rfl
            · kernel_rfl
            · kernel_rfl
            · kernel_rfl
            · exact fun _ _ _ _ h => h
            apply Exists.intro
            apply And.intro
            · apply yr_run; rfl; intro w' hw'; go_simp; (try with_reducible rfl)
            simp only [Act.put, List.setIfInBounds_toArray, List.set_cons_zero, List.set_cons_succ]
            apply wpT_next 3 (some 52) (by kernel_rfl)
            · simp only [List.getElem?_toArray, List.getElem?_cons_succ, List.getElem?_cons_zero]; exact rfl
            · rfl
            · kernel_rfl
            · kernel_rfl
            · kernel_rfl
            · exact fun _ _ _ _ h => h
            apply Exists.intro
            apply And.intro
            · apply yr_run; rfl; intro w' hw'; go_simp; (try with_reducible rfl)
            simp only [Act.put, List.setIfInBounds_toArray, List.set_cons_zero, List.set_cons_succ]
            apply wpT_next 4 (some 53) (by kernel_rfl)
            · simp only [List.getElem?_toArray, List.getElem?_cons_succ, List.getElem?_cons_zero]; exact rfl
            · rfl
            · kernel_rfl
            · kernel_rfl
            · kernel_rfl
            · exact fun _ _ _ _ h => h
            apply Exists.intro
            apply And.intro
            · apply yr_run; rfl; intro w' hw'; go_simp; (try with_reducible rfl)
            simp only [Act.put, List.setIfInBounds_toArray, List.set_cons_zero, List.set_cons_succ]
            apply wpT_next 5 (some 54) (by kernel_rfl)
            · simp only [List.getElem?_toArray, List.getElem?_cons_succ, List.getElem?_cons_zero]; exact rfl
            · rfl
            · kernel_rfl
            · kernel_rfl
            · kernel_rfl
            · exact fun _ _ _ _ h => h
            apply Exists.intro
            apply And.intro
            · apply yr_run; rfl; intro w' hw'; go_simp; (try with_reducible rfl)
            simp only [Act.put, List.setIfInBounds_toArray, List.set_cons_zero, List.set_cons_succ]
            apply wpT_next 6 (some 55) (by kernel_rfl)
            · simp only [List.getElem?_toArray, List.getElem?_cons_succ, List.getElem?_cons_zero]; exact rfl
            · rfl
            · kernel_rfl
            · kernel_rfl
            · kernel_rfl
            · exact fun _ _ _ _ h => h
            apply Exists.intro
            apply And.intro
            · exact yr_load_at (by rfl) 33 (.tmp 54) rfl ⟨bb, off + q * 4, none⟩ rfl (eC x) _ HP.out Try.underlying33 rfl (by kernel_rfl)
            simp only [Act.put, List.setIfInBounds_toArray, List.set_cons_zero, List.set_cons_succ]
            apply wpT_run 7 (some 56)
            · simp only [List.getElem?_toArray, List.getElem?_cons_succ, List.getElem?_cons_zero]; exact rfl
            · rfl
            · kernel_rfl
            · rfl
            intro w' hw'
            refine ⟨.slice (some ⟨w'.heap.size, 0, none⟩) 1 1, w'.alloc (.cells (eC x).toArray 33), exec_buildSlice 23 33 1 #[(0, .tmp 55)] (by rfl) Try.underlying23 _ (by kernel_rfl), Kept.of_below (below1 _ _), ?_⟩
            have HXd : RowKit.Hid (Ext wi.drew (w'.alloc (.cells (eC x).toArray 33))) := Lib.hid (Ext.trans hw' (below1 _ _))
            have HL : RowKit.Hid (RdS (w'.alloc (.cells (eC x).toArray 33)) (w'.alloc (.cells (eC x).toArray 33)).heap.size 4 (some ⟨w'.heap.size, 0, none⟩) 1 1 (eC x)) := Lib.hid (RdS.of_whole (Whole.new_ _ _ _) rfl)
            obtain ⟨W3, gW3⟩ : ∃ z, w'.alloc (.cells (eC x).toArray 33) = z := ⟨_, rfl⟩
            obtain ⟨g3, gg3⟩ : ∃ z, w'.heap.size = z := ⟨_, rfl⟩
            rw [gW3] at HXd HL ⊢
            rw [gg3] at HL ⊢
            clear hw' gW3 gg3
            simp only [Act.put, List.setIfInBounds_toArray, List.set_cons_zero, List.set_cons_succ]
            apply wpT_run 8 (some 57)
            · simp only [List.getElem?_toArray, List.getElem?_cons_succ, List.getElem?_cons_zero]; exact rfl
            · rfl
            · kernel_rfl
            · rfl
            intro w' hw'
            have HG8 := HGd.out.below (Ext.trans HXd.out hw')
            obtain ⟨v8, w'', hrun, ho, hb8⟩ := Ow.app (P := Try.prog) 23 23 33 i1 _ 4 40 B2 Try.underlying23 hi1 hz01 hz11 hz21 rfl (by decide) _ _ _ HG8.ow _ _ 1 1 _ (HL.out.bl hw') (eC_one x) (by unfold maxLen; omega) (by omega)
            obtain ⟨A8, c8, rfl, -⟩ := ho.rds
            refine ⟨_, w'', exec_append (by rfl) (by rfl) (by rfl) hrun, Kept.of_from hb8, ?_⟩
            have HG9 := Lib.hid (HG8.grow Hx.out ho hb8 (by omega) (by omega) hB2)
            obtain ⟨W4, gW4⟩ : ∃ z, w'' = z := ⟨_, rfl⟩
            rw [gW4] at HG9 ⊢
            clear hw' HG8 hrun ho hb8 gW4 HXd HL HGd
            simp only [Act.put, List.setIfInBounds_toArray, List.set_cons_zero, List.set_cons_succ]
            apply wpT_next 9 (some 58) (by kernel_rfl)
            · simp only [List.getElem?_toArray, List.getElem?_cons_succ, List.getElem?_cons_zero]; exact rfl
            · rfl
            · kernel_rfl
            · kernel_rfl
            · kernel_rfl
            · exact fun _ _ _ _ h => h
            apply Exists.intro
            apply And.intro
            · apply yr_run; rfl; intro w' hw'; go_simp; (try with_reducible rfl)
            simp only [Act.put, List.setIfInBounds_toArray, List.set_cons_zero, List.set_cons_succ]
            apply wpT_last 10
            · simp only [List.getElem?_toArray, List.getElem?_cons_succ, List.getElem?_cons_zero]; exact rfl
            · rfl
            · kernel_rfl
            · rfl
            · decide
            intro w' hw'
            have hx2 := HG9.out.x2.below hw'
            have hcl := hx2.cell (i := 1) rfl
            have hfr := hx2.free 1
            refine ⟨w'.setCell ⟨b2, 1, none⟩ (.slice A8 (q + 1) c8), ?_, ?_⟩
            · go_simp; first | done | exact rfl
            have HG10 := Lib.hid ((HG9.out.below hw').store h02 h12 hB2 Hl2.out (fun a ha h0 => (Hne.out a ha h0).1))
            obtain ⟨W5, gW5⟩ : ∃ z, w'.setCell ⟨b2, 1, none⟩ (.slice A8 (q + 1) c8) = z := ⟨_, rfl⟩
            rw [gW5] at HG10 ⊢
            clear hw' hx2 hcl hfr gW5 HG9
            try simp only [Act.put, List.setIfInBounds_toArray, List.set_cons_zero, List.set_cons_succ]
            refine wpT_done (by kernel_rfl) ?_ _
            intro W6 hw6
            have HG6 := Lib.hid (HG10.out.below hw6)
            clear hw6 ld0 ld1 HP HG10
            go_wp2
            go_roundw
            case rel => exact ⟨q + 1, _, by omega, by omega, by go_num, HG6⟩
            case measure => simp [intOf]; omega
          · have hql : (Es.take 42).length = q := by have := Hle.out; rw [List.length_take]; omega
            have htk2 : Es.take q = Es.take 42 := by
              rw [← hql, List.length_take]
              rcases Nat.le_total 42 Es.length with h | h
              · rw [Nat.min_eq_left h]
              · rw [Nat.min_eq_right h, List.take_length, List.take_of_length_le h]
            obtain ⟨A2, c2, rfl, hr2⟩ := HG.out.ow.rds
            have hcap2 : c2 ≤ maxLen := own_cap HG.out.ow.own
            have hfr2 : ∀ a, A2 = some a → 0 < q → w.heap.size ≤ a.block := fun a ha _ => by
              subst ha
              have h9 := (HG.out.ow.own.lt a.block rfl).1
              have h8 := HlB.out
              omega
            rw [htk2] at hr2
            have hne2 : ∀ a, A2 = some a → 0 < q → a.block ≠ b1 := fun a ha _ => by
              subst ha
              have h9 := (HG.out.ow.own.lt a.block rfl).1
              omega
            have hpost : ∃ A' c' B' k', Ending.returned (.agg #[.slice A1 j c1, .slice A2 q c2]) = .returned (.agg #[.slice A' (Vs.take 26).length c', .slice B' (Es.take 42).length k']) ∧
              DgIn ((wi.setCell ⟨b1, 0, none⟩ (.slice A1 j c1)).setCell ⟨b1, 1, none⟩ (.slice A2 q c2)) A' (Vs.take 26).length c' ((Vs.take 26).map few7V) B' (Es.take 42).length k' (Es.take 42) ∧ Below w.heap.size w ((wi.setCell ⟨b1, 0, none⟩ (.slice A1 j c1)).setCell ⟨b1, 1, none⟩ (.slice A2 q c2)) ∧ FwNew w A' (Vs.take 26).length c' B' (Es.take 42).length k' := by
              have hbel := (HG.out.ow.below.setCell (p := ⟨b1, 0, none⟩) Hl1.out (.slice A1 j c1)).setCell (p := ⟨b1, 1, none⟩) Hl1.out (.slice A2 q c2)
              refine ⟨A1, c1, A2, c2, by rw [Hjl.out, hql], ?_, hbel, ?_⟩
              rotate_left
              · rw [Hjl.out, hql]
                exact ⟨Hcap1.out, hcap2, fun a ha h0 => (Hne.out a ha h0).2.2, hfr2⟩
              rw [Hjl.out, hql]
              refine ⟨((HG.out.rv.far_ (fun a ha h0 => (Hne.out a ha h0).2.1) _).far_ (fun a ha h0 => (Hne.out a ha h0).2.1) _).up (Below.refl _ _) (by simpa [World.setCell] using HG.out.ow.hi), ((hr2.far_ hne2 _).far_ hne2 _).up (Below.refl _ _) (by simp [World.setCell]), fun y hy => ?_⟩
              obtain ⟨x, hx, rfl⟩ := List.mem_map.1 hy
              exact (RgOk.few7 (HRg.out x (List.mem_of_mem_take hx))).below hbel
            have hx1 := (HG.out.x1.set_ 0 (.slice A1 j c1)).set_ 1 (.slice A2 q c2)
            have e0 := HG.out.x2.cell (i := 0) rfl
            have e1 := HG.out.x2.cell (i := 1) rfl
            have f0 := HG.out.x1.free 0
            have f1 := HG.out.x1.free 1
            have k0 := HG.out.x1.cell (i := 0) rfl
            have k1 := HG.out.x1.cell (i := 1) rfl
            have Hpost := Lib.hid hpost
            have Hx1 := Lib.hid hx1
            clear hpost hx1 hr2 hne2 HG htk2 hql hcap2 hfr2
            by_cases hqm : q < m
            · have hq5 : ¬ q < 42 := by omega
              go_wp2
              exact ret_whole rfl b1 rfl Hx1.out Try.underlying25 rfl (by kernel_rfl) rfl Hpost.out
            · go_wp2
              exact ret_whole rfl b1 rfl Hx1.out Try.underlying25 rfl (by kernel_rfl) rfl Hpost.out
theorem few8_step {w0 : World} {A B : Option Addr} {n c m k : Nat} {Vs : List VC} {Es : List EC} (h : DgIn w0 A n c Vs B m k Es) (hg : GoodD Vs Es) (hn : n ≤ maxLen) (hm : m ≤ maxLen) (W : World) (hb : Below w0.heap.size w0 W) :
    Calls Try.prog 24 #[.agg #[.slice A n c, .slice B m k]] W fun e W' => ∃ A' n' c' B' m' k', e = .returned (.agg #[.slice A' n' c', .slice B' m' k']) ∧
      Few7D w0 W W' A' n' c' ((Vs.take 26).map few7V) B' m' k' (Es.take 42) ∧ Below W.heap.size W W' := by
  refine (few8_any A n c Vs B m k Es W (h.below hb) hn hm).mono ?_
  rintro e W' ⟨A', c', B', k', rfl, hd, hbl, hf⟩
  refine ⟨A', _, c', B', _, k', rfl, ⟨hd, hg.few7, by rw [List.length_take]; omega, by rw [List.length_take]; omega, fun x hx => ?_, fun x hx a ha h0 => ?_, hf, by rw [List.length_map], rfl⟩, hbl⟩
  · obtain ⟨y, hy, rfl⟩ := List.mem_map.1 hx
    exact (few7V_ring y).2.1
  · obtain ⟨y, hy, rfl⟩ := List.mem_map.1 hx
    rw [(few7V_ring y).1] at ha
    exact (h.r y (List.mem_of_mem_take hy)).2.low a ha (Nat.lt_of_lt_of_le h0 (few7V_ring y).2.2.1)
end Go.Proofs.Ytahbfdhjgnlmdaa

/- A dart that stands at another vertex, or at two: what a caller needs; a diagram whose rings are replaced one by one. -/
namespace Go.Proofs.Ytahbfdhjgnlmdaa
open Go.RowKit
set_option linter.unusedSimpArgs false
set_option linter.unusedVariables false


theorem vS_remV {x : D} {u v : VC} (h : vS u = vS v) : vS (remV x u) = vS (remV x v) := by
  obtain ⟨⟨u1, u2⟩, ⟨_, _, _, uL⟩, ul, ua⟩ := u
  obtain ⟨⟨v1, v2⟩, ⟨_, _, _, vL⟩, vl, va⟩ := v
  simp only [vS, Prod.mk.injEq] at h
  obtain ⟨⟨rfl, rfl⟩, rfl, rfl, rfl⟩ := h
  rfl
theorem rings_same {Us Ws : List VC} (h : Us.map vS = Ws.map vS) : ringsOf Us = ringsOf Ws := by
  have e : ∀ L : List VC, ringsOf L = ((L.map vS).map (fun s => s.2.1)).flatten := fun L => by
    rw [List.map_map]
    exact List.flatMap_def ..
  rw [e, e, h]
theorem at_some {Vs : List VC} {x : D} {p : Int × Int} (h : atV Vs x = (p, true)) : ∃ v ∈ Vs, x ∈ v.2.1.2.2.2 ∧ v.1 = p := by
  unfold atV at h
  split at h
  · rename_i v hv
    injection h with h1
    exact ⟨v, List.mem_of_find?_eq_some hv, by simpa using List.find?_some hv, h1⟩
  · simp at h
theorem vS_get {Us Ws : List VC} (h : Us.map vS = Ws.map vS) {k : Nat} {v : VC} (hv : Ws[k]? = some v) : ∃ u, Us[k]? = some u ∧ vS u = vS v := by
  have h1 : (Us.map vS)[k]? = some (vS v) := by rw [h, List.getElem?_map, hv]; rfl
  rw [List.getElem?_map] at h1
  cases hu : Us[k]? with
  | none => rw [hu] at h1; cases h1
  | some u =>
    rw [hu] at h1
    exact ⟨u, rfl, Option.some.inj h1⟩
theorem moves_num {Va Us Ws : List VC} {Ea : List EC} {x : D} {p : Int × Int} {k : Nat} {v : VC} (h : Formed Va Ea) (hx : atV Va x = (p, true)) (hv : Va[k]? = some v) (hne : v.1 ≠ p)
    (hu : Us.map vS = ((Va.map (remV x)).set k (insV x (remV x v))).map vS) (hw : Ws.map vS = (Va.set k (insV x v)).map vS) :
    formD Us Ea = 0 ∧ formD Ws Ea = 10 ∧ atV Us x = (v.1, true) ∧ ¬ (Us.map vS = Va.map vS) ∧ (∀ d ∈ ringsOf Us, d ∈ ringsOf Va) ∧ (∀ d ∈ ringsOf Ws, d ∈ ringsOf Va) ∧ (ringsOf Us).length ≤ 100 ∧ (ringsOf Ws).length ≤ 101 := by
  obtain ⟨q, hq, hxq, rfl⟩ := at_some hx
  have hvm := List.mem_of_getElem? hv
  have hno := h.else_ hq hxq hvm hne
  have hxr : x ∈ ringsOf Va := List.mem_flatMap.2 ⟨q, hq, hxq⟩
  have hM := h.moved hxr hv
  have hU : Formed Us Ea := hM.same hu
  have hk := (List.getElem?_eq_some_iff.1 hv).1
  have hlen := h.len
  have h40 := h.e40
  obtain ⟨u, hu1, hu2⟩ := vS_get hu (k := k) (v := insV x (remV x v)) (by rw [List.getElem?_set, if_pos rfl, if_pos (by simpa using hk)])
  have hxu : x ∈ u.2.1.2.2.2 := by
    have e : u.2.1.2.2.2 = turnD (insR (turnD (filD v.2.1.2.2.2 x)) (0, 0, 0) x) := congrArg (fun s : (Int × Int) × List D × ByteArray × Int => s.2.1) hu2
    rw [e]
    have hn : ¬ x ∈ turnD (filD v.2.1.2.2.2 x) := fun q => fil_not _ x ((turn_perm _).mem_iff.1 q)
    exact (turn_perm _).mem_iff.2 ((insR_perm hn).mem_iff.2 (List.mem_cons_self ..))
  have eR := rings_same hu
  have pR := hU.pm.trans h.pm.symm
  have eW := rings_same hw
  have pW := rings_set hv (x := x) (u' := insV x v) ((turn_perm _).trans (insR_perm hno))
  refine ⟨(form0 Us Ea).2 hU, (formD_same hw).trans (h.two hxr hv hno), ?_, ?_, fun d hd => pR.mem_iff.1 hd, fun d hd => ?_, ?_, ?_⟩
  · rw [hU.at (List.mem_of_getElem? hu1) hxu]
    exact congrArg (fun i => (i, true)) (congrArg (fun s : (Int × Int) × List D × ByteArray × Int => s.1) hu2)
  · intro e
    obtain ⟨u', hu', e'⟩ := vS_get e hv
    rw [hu1] at hu'
    obtain rfl := Option.some.inj hu'
    have e2 : u.2.1.2.2.2 = v.2.1.2.2.2 := congrArg (fun s : (Int × Int) × List D × ByteArray × Int => s.2.1) e'
    exact hno (e2 ▸ hxu)
  · rw [eW] at hd
    rcases List.mem_cons.1 (pW.mem_iff.1 hd) with rfl | hd
    · exact hxr
    · exact hd
  · rw [pR.length_eq]; omega
  · rw [eW, pW.length_eq, List.length_cons]; omega
theorem ring_len {Us : List VC} {u : VC} (h : u ∈ Us) : u.2.1.2.2.2.length ≤ (ringsOf Us).length := by
  obtain ⟨a, b, rfl⟩ := List.append_of_mem h
  rw [ringsOf_app, ringsOf_one]
  simp only [List.length_append]
  omega

/-- A cell that holds what a row does not hold is none of the row's. -/
theorem rds_poke {w : World} {B s n c : Nat} {A : Option Addr} {xs : List Value} (h : RdS w B s A n c xs) {p : Addr} {v : Value} (hp : w.cell? p = some v) (hv : ¬ v ∈ xs) (u : Value) : RdS (w.setCell p u) B s A n c xs :=
  ⟨h.len, h.none_, h.le, h.low, fun a ha j z hz => by
    have h1 := h.cell a ha j z hz
    by_cases e : p = a.add j
    · rw [← e, hp] at h1
      obtain rfl := Option.some.inj h1
      exact absurd (List.mem_of_getElem? hz) hv
    · rw [World.cell?_setCell_other _ _ _ _ e]
      exact h1⟩
theorem size_setCell (w : World) (p : Addr) (u : Value) : (w.setCell p u).heap.size = w.heap.size := by simp
theorem rowsV_mem {α : Type} {f : α → List Value} : ∀ {L : List α} {v : Value}, v ∈ rowsV f L → ∃ x ∈ L, v ∈ f x := by
  intro L
  induction L with
  | nil => intro v h; cases h
  | cons a r ih =>
    intro v h
    rcases List.mem_append.1 (show v ∈ f a ++ rowsV f r from h) with h | h
    · exact ⟨a, List.mem_cons_self .., h⟩
    · obtain ⟨x, hx, h2⟩ := ih h
      exact ⟨x, List.mem_cons_of_mem _ hx, h2⟩
theorem no_slice_e {Es : List EC} {A : Option Addr} {n c : Nat} : ¬ Value.slice A n c ∈ rowsV eC Es := fun h => by
  obtain ⟨x, _, hx⟩ := rowsV_mem h
  simp [eC] at hx
theorem no_slice_d {L : List D} {A : Option Addr} {n c : Nat} : ¬ Value.slice A n c ∈ dartsV L := fun h => by
  rw [dartsV_rows] at h
  obtain ⟨x, _, hx⟩ := rowsV_mem h
  simp [dC] at hx
/-- A diagram whose vertices are of one's own. -/
structure Wr (W : World) (lo : Nat) (A : Option Addr) (n c : Nat) (Us : List VC) (B : Option Addr) (m k : Nat) (Es : List EC) : Prop where
  v : W.ownsRow lo 38 5 (.slice A n c) n (rowsV vC Us)
  e : RdS W W.heap.size 4 B m k (rowsV eC Es)
  r : ∀ x ∈ Us, RgOk W x.2.1
section
variable {W W' : World} {lo : Nat} {A : Option Addr} {n c : Nat} {Us : List VC} {B : Option Addr} {m k : Nat} {Es : List EC}
theorem Cl.wr (h : Cl W lo A n c Us B m k Es) : Wr W lo A n c Us B m k Es := ⟨h.v, h.dg.e, h.dg.r⟩
theorem Wr.dg (h : Wr W lo A n c Us B m k Es) : DgIn W A n c Us B m k Es := ⟨own_rds h.v, h.e, h.r⟩
theorem Wr.bl (h : Wr W lo A n c Us B m k Es) (hb : Below W.heap.size W W') : Wr W' lo A n c Us B m k Es := ⟨own_up h.v hb, h.e.bl hb, fun x hx => (h.r x hx).bl hb⟩
theorem Wr.al (h : Wr W lo A n c Us B m k Es) (o : Obj) : Wr (W.alloc o) lo A n c Us B m k Es := h.bl (below1 W o)
theorem Wr.dr (h : Wr W lo A n c Us B m k Es) : Wr W.drew lo A n c Us B m k Es := h.bl ((Below.refl _ _).drew)
theorem rg_poke {g i : Nat} {R : Rg} (h : RgOk W R) {A1 : Option Addr} {n1 c1 : Nat} (hp : W.cell? ⟨g, i, none⟩ = some (.slice A1 n1 c1)) (u : Value) : RgOk (W.setCell ⟨g, i, none⟩ u) R :=
  ⟨h.1, by rw [size_setCell]; exact rds_poke h.2 hp no_slice_d u⟩
theorem Wr.far (h : Wr W lo A n c Us B m k Es) {g i : Nat} {A1 : Option Addr} {n1 c1 : Nat} (hp : W.cell? ⟨g, i, none⟩ = some (.slice A1 n1 c1)) (hg : ∀ a, A = some a → g ≠ a.block) (u : Value) : Wr (W.setCell ⟨g, i, none⟩ u) lo A n c Us B m k Es :=
  ⟨own_cell_far h.v (fun e => by
    cases A with
    | none => cases e
    | some a =>
      exact hg a rfl (Option.some.inj e)) u, by rw [size_setCell]; exact rds_poke h.e hp no_slice_e u, fun x hx => rg_poke (h.r x hx) hp u⟩
theorem Wr.put (h : Wr W lo A n c Us B m k Es) {j : Nat} {x : VC} (hx : Us[j]? = some x) (hj : j < n) (R : Rg) (hR : RgOk W R) :
    ∃ g, A = some ⟨g, 0, none⟩ ∧ lo ≤ g ∧ (∃ cs, Whole W g 38 cs) ∧ W.cell? ⟨g, j * 5 + 2, none⟩ = some (.slice x.2.1.1 x.2.1.2.1 x.2.1.2.2.1) ∧ W.frozen? ⟨g, j * 5 + 2, none⟩ = false ∧
      Wr (W.setCell ⟨g, j * 5 + 2, none⟩ (.slice R.1 R.2.1 R.2.2.1)) lo A n c (Us.set j (x.1, R, x.2.2)) B m k Es := by
  obtain ⟨g, junk, e, hlo, hw, hc, hf, ho⟩ := own_poke (i := 2) (y := (x.1, R, x.2.2)) (u := .slice R.1 R.2.1 R.2.2.1) vC_len h.v hx hj (by omega) rfl
  have hc2 : W.cell? ⟨g, j * 5 + 2, none⟩ = some (.slice x.2.1.1 x.2.1.2.1 x.2.1.2.2.1) := hc.trans rfl
  refine ⟨g, e, hlo, ⟨_, hw⟩, hc2, hf, ho, by rw [size_setCell]; exact rds_poke h.e hc2 no_slice_e _, fun y hy => rg_poke ?_ hc2 _⟩
  rcases List.mem_or_eq_of_mem_set hy with hy | rfl
  · exact h.r y hy
  · exact hR
end
end Go.Proofs.Ytahbfdhjgnlmdaa
