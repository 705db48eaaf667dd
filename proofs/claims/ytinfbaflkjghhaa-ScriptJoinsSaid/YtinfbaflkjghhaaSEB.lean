/- Several texts in one. -/
import Derived.Test.YtinfbaflkjghhaaSEA
import Derived.LoopTactic
import Derived.Lib.AppendStr
import Derived.Laws.BitsAllLaws
import Derived.Deep.WholeRow
import Derived.Great.Walk
import Derived.Laws.IdiomStrings
import Derived.Laws.ShiftsVarLaws
/- pack.Num. -/
set_option linter.unusedSimpArgs false
set_option linter.unusedVariables false
namespace Go.Proofs.Ytinfbaflkjghhaa
open Go.RowKit
theorem beN_cons : ∀ (k u : Nat), beN (k + 1) u = (u / 256 ^ k % 256) :: beN k u
  | 0, u => by simp [beN]
  | k + 1, u => by
    rw [beN, beN_cons k (u / 256), List.cons_append, Nat.div_div_eq_div_mul, ← Nat.pow_succ']
    rfl
/-- What stands in the row when k of the eight bytes are laid. -/
def btm (L : List Nat) (U k : Nat) : List Nat := L ++ (List.replicate (8 - k) 0 ++ beN k U)
theorem btm_len (L : List Nat) (U k : Nat) (hk : k ≤ 8) : (btm L U k).length = L.length + 8 := by simp [btm, beN_len]; omega
theorem btm_set (L : List Nat) (U k : Nat) (hk : k < 8) : (btm L U k).set (L.length + (7 - k)) (U / 256 ^ k % 256) = btm L U (k + 1) := by
  unfold btm
  rw [beN_cons, List.set_append, if_neg (by omega), Nat.add_sub_cancel_left]
  congr 1
  have e1 : 8 - k = (8 - (k + 1)) + 1 := by omega
  have e2 : 7 - k = 8 - (k + 1) := by omega
  rw [e1, e2, List.replicate_succ', List.append_assoc, List.set_append, if_neg (by rw [List.length_replicate]; omega), List.length_replicate, Nat.sub_self]
  rfl
theorem wrap_u64_ (x : Int) : IntKind.u64.wrap x = (u64 x : Int) := by
  rw [IntKind.wrap_u64]
  unfold u64
  omega
set_option maxRecDepth 100000 in
set_option maxHeartbeats 1000000 in
theorem num_any (A : Option Addr) (c : Nat) (L : List Nat) (x : Int) (w : World) (h : RdS w w.heap.size 1 A L.length c (rowsV f8 L)) (hn : L.length ≤ 900000) :
    Calls Try.prog 25 #[.slice A L.length c, .int .i64 x] w (Gives8 w (L ++ be8 x)) := by
  have HC := Lib.hid (room_any A c L 8 w h (by omega) (by omega))
  have hx := wrap_u64_ x
  obtain ⟨U, gU⟩ : ∃ U, u64 x = U := ⟨_, rfl⟩
  have e0 : L ++ List.replicate 8 0 = btm L U 0 := by simp [btm, beN]
  have e8 : L ++ be8 x = btm L U 8 := by unfold be8; rw [gU]; simp [btm]
  rw [e0] at HC
  rw [e8]
  rw [gU] at hx
  have Hlen := Lib.hid (btm_len L U)
  have Hset := Lib.hid (btm_set L U)
  have HU : RowKit.Hid (U < 18446744073709551616) := Lib.hid (by rw [← gU]; exact u64_lt x)
  have Hl8 : RowKit.Hid ((btm L U 8).length = L.length + 8) := Lib.hid (btm_len L U 8 (by omega))
  clear h e0 e8 gU
  obtain ⟨F, gF⟩ : ∃ F, btm L U = F := ⟨_, rfl⟩
  rw [gF] at HC Hlen Hset Hl8 ⊢
  obtain ⟨n, gn⟩ : ∃ n, L.length = n := ⟨_, rfl⟩
  rw [gn] at HC Hlen Hset hn Hl8 ⊢
  obtain ⟨N, gN⟩ : ∃ N, n + 8 = N := ⟨_, rfl⟩
  rw [gN] at HC Hlen Hl8
  have HN := Lib.hid gN
  have hsub : IntKind.i64.wrap ((N : Int) - 1) = ((n + 7 : Nat) : Int) := by rw [IntWalk.i64_in _ (by omega)]; omega
  obtain ⟨n7, gn7⟩ : ∃ n7, n + 7 = n7 := ⟨_, rfl⟩
  rw [gn7] at hsub
  have H7 := Lib.hid gn7
  clear gF gn gN gn7
  go_enter Try.func25, Try.ntmps25
  go_wp2_with (first | (go_at_call 40; refine HC.out.mono ?_; rintro e w2 ⟨g, rfl, hg, hw, hb⟩; have HG := Lib.hid hg; have HW := Lib.hid hw; have HB := Lib.hid hb; clear hg hw hb))
  clear hsub hx
  go_loopw [6, 7] (fun u i wr => ∃ k : Nat, k ≤ 8 ∧ u = .int .u64 ((U / 256 ^ k : Nat) : Int) ∧ i = .int .i64 ((n7 : Int) - (k : Int)) ∧ RowKit.Hid (Whole wr g 5 (rowsV f8 (F k))) ∧ RowKit.Hid (Below w.heap.size w wr)) (fun _ i _ => (intOf i + 1).toNat)
  case atStart => exact ⟨0, by omega, by simp, by simp, HW, HB⟩
  case round =>
    clear HW HB
    obtain ⟨k, hk, rfl, rfl, HW, HB⟩ := hrel
    by_cases hlt : k < 8
    · obtain ⟨j, gj⟩ : ∃ j : Nat, (n7 : Int) - (k : Int) = (j : Int) := ⟨n7 - k, by have := H7.out; omega⟩
      have Hj : RowKit.Hid (j = n + (7 - k)) := Lib.hid (by have := H7.out; omega)
      rw [gj]
      have hs := Hset.out k hlt
      obtain ⟨q, gq⟩ : ∃ q, U / 256 ^ k = q := ⟨_, rfl⟩
      have hq1 : U / 256 ^ (k + 1) = q / 256 := by rw [← gq, Nat.div_div_eq_div_mul, ← Nat.pow_succ]
      have Hq1 := Lib.hid hq1
      have hqU : q ≤ U := by rw [← gq]; exact Nat.div_le_self _ _
      rw [gq] at hs
      have Hs := Lib.hid hs
      rw [gq]
      have hw8 : IntKind.u8.wrap (q : Int) = ((q % 256 : Nat) : Int) := by rw [IntKind.wrap_u8]; omega
      have d1 : decide ((n : Int) ≤ (j : Int)) = true := decide_eq_true (by have := Hj.out; omega)
      have d2 : decide (n ≤ j) = true := decide_eq_true (by have := Hj.out; omega)
      have hjl : j < (F k).length := by rw [Hlen.out k hk]; have := Hj.out; have := HN.out; omega
      obtain ⟨b0, hb0⟩ : ∃ b, (F k)[j]? = some b := ⟨_, List.getElem?_eq_getElem hjl⟩
      have hjN : j < N := by have := Hj.out; have := HN.out; omega
      have hcell := HW.out.cell (i := j) (v := .int .u8 (b0 : Int)) (by rw [rows_get, hb0]; rfl)
      have hfree := HW.out.free j
      have hsb : IntKind.i64.wrap ((j : Int) - 1) = (j : Int) - 1 := IntWalk.i64_in _ (by have := Hj.out; omega)
      have hq64 : IntKind.u64.wrap ((q / 256 : Nat) : Int) = ((q / 256 : Nat) : Int) := by rw [IntKind.wrap_u64]; have := HU.out; omega
      clear gq hs hq1 hb0 hjl
      go_wp2
      go_roundw
      case rel => exact ⟨k + 1, by omega, by rw [Hq1.out, Int.natCast_ediv]; rfl, by go_num, Lib.hid (by have := HW.out.set_ j (.int .u8 ((q % 256 : Nat) : Int)); rw [rows8_set, Hj.out, Hs.out] at this; rw [Hj.out]; exact this), Lib.hid (HB.out.setCell (p := ⟨g, j, none⟩) HG.out _)⟩
      case measure => first | (simp [intOf]; done) | (simp [intOf]; omega)
    · obtain rfl : k = 8 := by omega
      have d1 : decide ((n : Int) ≤ (n7 : Int) - 8) = false := decide_eq_false (by have := H7.out; omega)
      go_wp2
      go_ret
      exact gives8_whole Hl8.out (by have := HN.out; omega) HG.out HW.out HB.out
end Go.Proofs.Ytinfbaflkjghhaa
/- pack.Text. -/
namespace Go.Proofs.Ytinfbaflkjghhaa
open Go.RowKit
theorem tB_data (s : ByteArray) : tB s = s.data.toList.map UInt8.toNat := by rw [tB, ByteArray.toList_eq]
theorem str_rows (s : ByteArray) : Lib.strCells s = rowsV f8 (tB s) := by
  rw [rowsV_map8, tB_data, Lib.strCells, List.map_map]
  rfl
theorem exec_copy {P : Program} {ev : Operand → Value} {o : Oper} {w w' : World} (d s : Operand) (dT sT : TypeId) (ho : o.op = .call { callee := .builtin .copy, args := #[d, s], argTypes := #[dT, sT] }) {x y v : Value} (hd : ev d = x) (hs : ev s = y)
    (hrun : (Builtin.copy_ #[dT, sT] o.type #[x, y]).run P w = .ok v w') : (execOp ev o).run P w = .ok (.value v) w' := by
  unfold execOp
  simp [ho, resolve, invoke, builtin, hd, hs, hrun, Result.andThen]
/-- A text copied to the end of a row. -/
theorem copy_str (ty : TypeId) {w : World} {g N p : Nat} {M : List Nat} {A : Option Addr} {c : Nat} (s : ByteArray) (hw : Whole w g 5 (rowsV f8 M)) (hM : M.length = N) (hp : p + s.size = N) (hA : (if N = p then some (⟨g, 0, none⟩ : Addr) else (some (⟨g, 0, none⟩ : Addr)).map (·.add (p * 1))) = A) {w0 : World} {B : Nat} (hb : Below B w0 w) (hB : B ≤ g) :
    ∃ w', (Builtin.copy_ #[23, 9] ty #[.slice A s.size c, .string s]).run Try.prog w = .ok (goInt s.size) w' ∧ Whole w' g 5 (rowsV f8 (M.take p ++ tB s)) ∧ Below B w0 w' := by
  obtain ⟨i0, hi, hz0, hz1, hz2⟩ := info_parts_ info_u8
  by_cases h0 : N = p
  · rw [if_pos h0] at hA
    obtain rfl := hA
    have hs : s.size = 0 := by omega
    have ht : tB s = [] := List.eq_nil_of_length_eq_zero (by rw [tB_len, hs])
    refine ⟨w, ?_, by rw [ht, List.append_nil, List.take_of_length_le (by omega)]; exact hw, hb⟩
    simp [Builtin.copy_, run_underlying (Try.underlying23), Builtin.lenOf, Builtin.firstCells, sizeOf, typeInfo, hi, hz1, hs, storeCells]
  · rw [if_neg h0] at hA
    have e : (some (⟨g, 0, none⟩ : Addr)).map (·.add (p * 1)) = some (⟨g, p, none⟩ : Addr) := by simp only [Option.map_some, Addr.add_lit, Nat.mul_one, Nat.zero_add]
    rw [e] at hA
    obtain rfl := hA
    have hst := run_storeCells_at Try.prog g p 5 (Lib.strCells s) 0 (rowsV f8 M).toArray w hw (by simp [rows8_len, Lib.strCells_length]; omega) (Lib.strCells_oneCell s)
    have hf := Lib.run_firstCells_string (P := Try.prog) w 1 s
    simp only [Nat.add_zero, Lib.strCells_length] at hst
    have hd : (rowsV f8 M).toArray.toList.drop (p + s.size) = [] := List.drop_eq_nil_of_le (by simp [rows8_len]; omega)
    rw [hd, List.append_nil, str_rows, show ((rowsV f8 M).toArray.toList.take p ++ rowsV f8 (tB s)).toArray = (rowsV f8 (M.take p ++ tB s)).toArray from by rw [rows8_app, rowsV_map8 M, rowsV_map8 (M.take p), List.map_take]] at hst
    refine ⟨_, ?_, Whole.row hw (rowsV f8 (M.take p ++ tB s)), below_setRow hb hB _⟩
    simp only [str_rows] at hf
    simp [Builtin.copy_, run_underlying (Try.underlying23), Builtin.lenOf, sizeOf, typeInfo, hi, hz1, hf, hst]
set_option maxRecDepth 100000 in
set_option maxHeartbeats 1000000 in
theorem text_any (A : Option Addr) (c : Nat) (L : List Nat) (s : ByteArray) (w : World) (h : RdS w w.heap.size 1 A L.length c (rowsV f8 L)) (hn : L.length ≤ 900000) (hs : s.size ≤ 900000) :
    Calls Try.prog 65 #[.slice A L.length c, .string s] w (Gives8 w (L ++ textB s)) := by
  obtain ⟨S, gS⟩ : ∃ S, s.size = S := ⟨_, rfl⟩
  have HC := Lib.hid (room_any A c L (1 + S) w h (by omega) (by omega))
  have hw1 : IntKind.i64.wrap (1 + (S : Int)) = ((1 + S : Nat) : Int) := by rw [IntWalk.i64_in _ (by omega)]; omega
  have hw8 : IntKind.u8.wrap (S : Int) = ((S % 256 : Nat) : Int) := by rw [IntKind.wrap_u8]; omega
  have HE : RowKit.Hid (((L ++ List.replicate (1 + S) 0).set L.length (S % 256)).take (L.length + 1) ++ tB s = L ++ textB s) := Lib.hid (by
    rw [List.set_append, if_neg (by omega), Nat.sub_self, Nat.add_comm 1 S, List.replicate_succ, List.set_cons_zero, textB, gS]
    rw [List.take_append, List.take_of_length_le (by omega), Nat.add_sub_cancel_left, List.take_succ_cons, List.take_zero, List.append_assoc])
  have Hl : RowKit.Hid ((L ++ textB s).length = L.length + (1 + S)) := Lib.hid (by simp [textB, tB_len, gS]; omega)
  have Hs : RowKit.Hid (s.size = S) := Lib.hid gS
  have hsz : (s.size : Int) = (S : Int) := by rw [gS]
  obtain ⟨E, gE⟩ : ∃ E, L ++ textB s = E := ⟨_, rfl⟩
  rw [gE] at HE Hl ⊢
  obtain ⟨M0, gM0⟩ : ∃ M0, L ++ List.replicate (1 + S) 0 = M0 := ⟨_, rfl⟩
  have HM0 : RowKit.Hid (M0.length = L.length + (1 + S)) := Lib.hid (by rw [← gM0]; simp)
  rw [gM0] at HC HE
  obtain ⟨n, gn⟩ : ∃ n, L.length = n := ⟨_, rfl⟩
  rw [gn] at HC HE Hl HM0 hn ⊢
  obtain ⟨m, gm⟩ : ∃ m, 1 + S = m := ⟨_, rfl⟩
  rw [gm] at HC Hl HM0 hw1
  have Hm := Lib.hid gm
  obtain ⟨N, gN⟩ : ∃ N, n + m = N := ⟨_, rfl⟩
  rw [gN] at HC Hl HM0
  have HN := Lib.hid gN
  have hw2 : IntKind.i64.wrap ((n : Int) + 1) = ((n + 1 : Nat) : Int) := by rw [IntWalk.i64_in _ (by omega)]; omega
  have hnN : n < N := by omega
  have hnN2 : (n : Int) < (N : Int) := by omega
  have hNb : N ≤ 100000000 := by omega
  obtain ⟨S8, gS8⟩ : ∃ z, S % 256 = z := ⟨_, rfl⟩
  rw [gS8] at HE hw8
  clear h gE gM0 gn gm gN gS hs gS8
  go_enter Try.func65, Try.ntmps65
  go_upto_region 2 with (first | (go_at_call 40; refine HC.out.mono ?_; rintro e w2 ⟨g, rfl, hg, hw, hb⟩; have HG := Lib.hid hg; have HW := Lib.hid hw; have HB := Lib.hid hb; clear hg hw hb))
  clear hw1
  obtain ⟨b0, hb0⟩ : ∃ b, M0[n]? = some b := ⟨_, List.getElem?_eq_getElem (by rw [HM0.out]; exact hnN)⟩
  have hcell := HW.out.cell (i := n) (v := .int .u8 (b0 : Int)) (by rw [rows_get, hb0]; rfl)
  have hfree := HW.out.free n
  clear hb0
  go_upto_region 3 with fail
  have HW2 : RowKit.Hid (Whole (w2.setCell ⟨g, n, none⟩ (.int .u8 (S8 : Int))) g 5 (rowsV f8 (M0.set n S8))) := Lib.hid (by have := HW.out.set_ n (.int .u8 (S8 : Int)); rwa [rows8_set] at this)
  have HB2 := Lib.hid (HB.out.setCell (p := ⟨g, n, none⟩) HG.out (.int .u8 (S8 : Int)))
  obtain ⟨w3, gw3⟩ : ∃ z, w2.setCell ⟨g, n, none⟩ (.int .u8 (S8 : Int)) = z := ⟨_, rfl⟩
  rw [gw3] at HW2 HB2 ⊢
  clear gw3 HW HB hcell hfree
  obtain ⟨A1, hA1⟩ : ∃ A1, (if N = n + 1 then some (⟨g, 0, none⟩ : Addr) else (some (⟨g, 0, none⟩ : Addr)).map (·.add ((n + 1) * 1))) = A1 := ⟨_, rfl⟩
  have hNS : n + 1 + s.size = N := by have := Hm.out; have := HN.out; have := Hs.out; omega
  have hNS2 : N - (n + 1) = s.size := by omega
  obtain ⟨w4, hrun, hw4, hb4⟩ := copy_str (c := N - (n + 1)) 3 s HW2.out (by rw [List.length_set]; exact HM0.out) hNS hA1 HB2.out HG.out
  have HW4 := Lib.hid hw4
  have HB4 := Lib.hid hb4
  rw [HE.out] at HW4
  refine wp_region_lit ?_
  refine wl_read (v := ?_) (some 18) rfl (by rfl) ?_ ?_
  rotate_left
  · go_simp; (try with_reducible rfl)
  simp only [Act.put, stA_, st0_, st1_]
  refine wl_read (v := ?_) (some 19) rfl (by rfl) ?_ ?_
  rotate_left
  · go_simp; (try with_reducible rfl)
  simp only [Act.put, stA_, st0_, st1_]
  refine wl_read (v := ?_) (some 20) rfl (by rfl) ?_ ?_
  rotate_left
  · go_simp; (try with_reducible rfl)
  simp only [Act.put, stA_, st0_, st1_]
  refine wl_read (v := ?_) (some 21) rfl (by rfl) ?_ ?_
  rotate_left
  · go_simp; (try with_reducible rfl)
  simp only [Act.put, stA_, st0_, st1_]
  refine wl_run (some 22) rfl (by rfl) (exec_slice_low_as 23 5 (.tmp 18) (.tmp 21) rfl Try.underlying23 (s := 1) (by kernel_rfl) rfl (by rfl) (by omega) hA1 hNS2 rfl) ?_
  simp only [Act.put, stA_, st0_, st1_]
  refine wl_read (v := ?_) (some 23) rfl (by rfl) ?_ ?_
  rotate_left
  · go_simp; (try with_reducible rfl)
  simp only [Act.put, stA_, st0_, st1_]
  refine wl_run (some 24) rfl (by rfl) (exec_copy (.tmp 22) (.tmp 23) 23 9 rfl rfl rfl hrun) ?_
  clear hrun hw4 hb4
  go_wp2
  go_ret
  exact gives8_whole Hl.out hNb HG.out HW4.out HB4.out
end Go.Proofs.Ytinfbaflkjghhaa
/- Out of XPkD, XPk29 -/
namespace Go.Proofs.Ytinfbaflkjghhaa
open Go.RowKit
/-- The next n bytes: behind the end noughts. -/
def nx (n : Nat) (L : List Nat) : List Nat := (L ++ List.replicate n 0).take n
/-- The name in four bytes. -/
def nm4 (L : List Nat) : Int × Int := ((L.getD 0 0 : Int), 65536 * (L.getD 1 0 : Int) + 256 * (L.getD 2 0 : Int) + (L.getD 3 0 : Int))
def tk4 (L : List Nat) : Int × Int := if mayI (nm4 L).1 (nm4 L).2 = true then nm4 L else (0, 0)
theorem drop_app {A R : List Nat} {n : Nat} (h : A.length = n) : (A ++ R).drop n = R := by
  rw [List.drop_append_of_le_length (by omega), List.drop_eq_nil_of_le (by omega), List.nil_append]
theorem tk4_idB {x : Int × Int} (h : mayI x.1 x.2 = true) : tk4 (idB x) = x := by
  have hm : 1 ≤ x.1 ∧ x.1 ≤ 8 ∧ 1 ≤ x.2 ∧ x.2 ≤ 1048576 := of_decide_eq_true h
  have e : nm4 (idB x) = x := by
    refine Prod.ext ?_ ?_
    · simp only [nm4, idB, List.getD_cons_zero]; omega
    · simp only [nm4, idB, List.getD_cons_zero, List.getD_cons_succ]; omega
  unfold tk4
  rw [e, if_pos h]
def idT (L : List Nat) : Bool := decide (4 ≤ L.length ∧ mayI (nm4 L).1 (nm4 L).2 = true)
end Go.Proofs.Ytinfbaflkjghhaa
/- Out of XPk7 -/
namespace Go.Proofs.Ytinfbaflkjghhaa
open Go.RowKit
theorem exec_makeSlice {P : Program} {ev : Operand → Value} {o : Oper} {w w' : World} (t : TypeId) (l c : Operand) (ho : o.op = .makeSlice t l c) {x y v : Value} (hl : ev l = x) (hc : ev c = y)
    (hrun : (Instr.makeSlice t x y).run P w = .ok v w') : (execOp ev o).run P w = .ok (.value v) w' := by
  unfold execOp
  simp only [ho, hl, hc, Sem.run_bind, Sem.run_pure, Result.andThen_ok, hrun]
/-- A row of one's own is what a call gives. -/
theorem gives8_ow {w w' : World} {L : List Nat} {N : Nat} {v : Value} (hN : L.length = N) (h : Ow w w.heap.size 5 1 v N (rowsV f8 L) w') : ∃ A c, v = .slice A N c ∧ Gives8 w L (.returned (.slice A N c)) w' := by
  subst hN
  obtain ⟨A, c, rfl, hr⟩ := h.rds
  exact ⟨A, c, rfl, A, c, rfl, hr, fun a ha _ => by subst ha; exact (h.own.lt a.block rfl).1, h.own, h.below⟩
set_option maxRecDepth 100000 in
set_option maxHeartbeats 1000000 in
theorem idput_any (A : Option Addr) (c : Nat) (L : List Nat) (x1 x2 : Int) (w : World) (h : RdS w w.heap.size 1 A L.length c (rowsV f8 L)) (hn : L.length ≤ 900000) :
    Calls Try.prog 63 #[.slice A L.length c, .agg #[.int .i64 x1, .int .i64 x2]] w (Gives8 w (L ++ idB (x1, x2))) := by
  obtain ⟨i0, hi, hz0, hz1, hz2⟩ := info_parts_ info_u8
  have HR := Lib.hid h
  obtain ⟨n, gn⟩ : ∃ n, L.length = n := ⟨_, rfl⟩
  have Gn := Lib.hid gn
  rw [gn] at HR hn ⊢
  have hw4 : IntKind.i64.wrap ((n : Int) + 4) = ((n + 4 : Nat) : Int) := by rw [IntWalk.i64_in _ (by omega)]; omega
  obtain ⟨n4, gn4⟩ : ∃ z, n + 4 = z := ⟨_, rfl⟩
  rw [gn4] at hw4
  have HX1 : RowKit.Hid (Whole (w.alloc (.cells #[.int .i64 x1, .int .i64 x2] 47)) w.heap.size 47 [.int .i64 x1, .int .i64 x2]) := Lib.hid (Whole.new_ _ _ [_, _])
  have HR1 := Lib.hid (HR.out.al (.cells #[.int .i64 x1, .int .i64 x2] 47))
  have HB1 := Lib.hid (below1 w (.cells #[.int .i64 x1, .int .i64 x2] 47))
  have Hone := Lib.hid (f8_all L)
  clear h gn
  go_enter Try.func63, Try.ntmps63
  go_upto_region 1 with fail
  obtain ⟨w1, gw1⟩ : ∃ z, w.alloc (.cells #[.int .i64 x1, .int .i64 x2] 47) = z := ⟨_, rfl⟩
  rw [gw1] at HX1 HR1 HB1 ⊢
  clear gw1
  refine wp_region_lit ?_
  refine wl_read (v := ?_) (some 6) rfl (by rfl) ?_ ?_
  rotate_left
  · go_simp; (try with_reducible rfl)
  simp only [Act.put, stA_, st0_, st1_]
  refine wl_read (v := ?_) (some 7) rfl (by rfl) ?_ ?_
  rotate_left
  · go_simp; (try with_reducible rfl)
  simp only [Act.put, stA_, st0_, st1_]
  refine wl_read (v := ?_) (some 8) rfl (by rfl) ?_ ?_
  rotate_left
  · go_simp; (try with_reducible rfl)
  simp only [Act.put, stA_, st0_, st1_]
  obtain ⟨w2, hrun, hown, hgr⟩ := run_make_own (P := Try.prog) w1 w1.heap.size 23 5 i0 _ 1 Try.underlying23 hi hz0 hz1 .i64 .i64 n4 (by rw [hz2]; omega) (by unfold maxLen; omega) (Nat.le_refl _)
  refine wl_run (some 9) rfl (by rfl) (exec_makeSlice 23 _ _ rfl (by rfl) (by rfl) hrun) ?_
  simp only [Act.put, stA_, st0_, st1_]
  have HP0 : RowKit.Hid (Ow w1 w1.heap.size 5 1 (.slice (some ⟨w1.heap.size, 0, none⟩) 0 n4) 0 [] w2) := Lib.hid ⟨hown, (Below.refl _ _).grown hgr (Nat.le_refl _) (fun k e => by cases e), Nat.le_refl _, hgr.size⟩
  have HR2 := Lib.hid (HR1.out.bl HP0.out.below)
  have HX2 := Lib.hid (HX1.out.bl HP0.out.below)
  obtain ⟨b0, gb0⟩ : ∃ z, w.heap.size = z := ⟨_, rfl⟩
  rw [gb0] at HX1 HX2 ⊢
  have Gb0 := Lib.hid gb0
  clear hrun hown hgr hw4 gn4 gb0
  go_upto_region 3 with (first
    | (at_builtin
       refine wpList_push2 rfl (.tmp 10) (.tmp 11) _ rfl _ 5 i0 _ 1 1 Try.underlying23 hi hz0 hz1 hz2 rfl (by decide) _ _ _ rfl HP0.out _ _ _ _ _ rfl HR2.out Hone.out (by unfold maxLen; omega) (by omega) ?_
       intro v1 w3 how1 hb1 hgr1
       rw [Nat.zero_add, List.nil_append] at how1
       have HP1 := Lib.hid how1
       have HX3 := Lib.hid (HX1.out.bl HP1.out.below)
       clear how1 hb1 hgr1))
  have c0 := HX3.out.cell (i := 0) rfl
  have c1 := HX3.out.cell (i := 1) rfl
  have u1 : IntKind.u8.wrap x1 = (((x1 % 256).toNat : Nat) : Int) := by rw [IntKind.wrap_u8]; omega
  have u2 : IntKind.u8.wrap (x2 / 65536) = (((x2 / 65536 % 256).toNat : Nat) : Int) := by rw [IntKind.wrap_u8]; omega
  have u3 : IntKind.u8.wrap (x2 / 256) = (((x2 / 256 % 256).toNat : Nat) : Int) := by rw [IntKind.wrap_u8]; omega
  have u4 : IntKind.u8.wrap x2 = (((x2 % 256).toNat : Nat) : Int) := by rw [IntKind.wrap_u8]; omega
  have hl : (L ++ idB (x1, x2)).length = n + 4 := by rw [List.length_append, Gn.out]; rfl
  have hrows : rowsV f8 L ++ [.int .u8 (((x1 % 256).toNat : Nat) : Int), .int .u8 (((x2 / 65536 % 256).toNat : Nat) : Int), .int .u8 (((x2 / 256 % 256).toNat : Nat) : Int), .int .u8 (((x2 % 256).toNat : Nat) : Int)] = rowsV f8 (L ++ idB (x1, x2)) := by rw [rows8_app]; rfl
  obtain ⟨q1, g1⟩ : ∃ z, (x1 % 256).toNat = z := ⟨_, rfl⟩
  obtain ⟨q2, g2⟩ : ∃ z, (x2 / 65536 % 256).toNat = z := ⟨_, rfl⟩
  obtain ⟨q3, g3⟩ : ∃ z, (x2 / 256 % 256).toNat = z := ⟨_, rfl⟩
  obtain ⟨q4, g4⟩ : ∃ z, (x2 % 256).toNat = z := ⟨_, rfl⟩
  rw [g1] at u1 hrows
  rw [g2] at u2 hrows
  rw [g3] at u3 hrows
  rw [g4] at u4 hrows
  have Hrows := Lib.hid hrows
  have Hl := Lib.hid hl
  clear hrows hl g1 g2 g3 g4 HX1 HX2
  go_wp2_with (first
    | (at_builtin
       refine wpList_push2 rfl (.tmp 13) (.tmp 28) _ rfl _ 5 i0 _ 1 1 Try.underlying23 hi hz0 hz1 hz2 rfl (by decide) _ _ _ rfl (by exact Ow.up HP1.out (below1 _ _)) _ (some ⟨w3.heap.size, 0, none⟩) 4 4 ([.int .u8 (q1 : Int), .int .u8 (q2 : Int), .int .u8 (q3 : Int), .int .u8 (q4 : Int)]) rfl (by exact RdS.new_ rfl (Nat.lt_succ_self _) rfl rfl) (by simp [Value.oneCell']) (by unfold maxLen; omega) (by omega) ?_
       intro v1 w5 how1 hb1 hgr1
       rw [Hrows.out] at how1
       have HP2 := Lib.hid how1
       clear how1 hb1 hgr1))
  obtain ⟨A9, c9, rfl, hG⟩ := gives8_ow Hl.out ⟨own_lo8 HP2.out.own (by have := HB1.out.size; omega), HB1.out.trans (HP2.out.below.mono HB1.out.size), Nat.le_refl _, (HB1.out.trans (HP2.out.below.mono HB1.out.size)).size⟩
  go_ret
  exact hG
end Go.Proofs.Ytinfbaflkjghhaa
/- pack.number, TakeNum. -/
namespace Go.Proofs.Ytinfbaflkjghhaa
open Go.RowKit
theorem ofInt_64 (a : Nat) (ha : a < 18446744073709551616) : (BitVec.ofInt 64 (a : Int)).toNat = a := by
  rw [BitVec.ofInt_natCast, BitVec.toNat_ofNat]; exact Nat.mod_eq_of_lt (by omega)
theorem u64_or_byte (x b : Nat) (hx : x < 72057594037927936) (hb : b < 256) : bits .or .u64 ((x : Int) * 256) (b : Int) = ((x * 256 + b : Nat) : Int) := by
  have e : ((x : Int) * 256) = ((2 ^ 8 * x : Nat) : Int) := by omega
  rw [e]
  show IntKind.u64.wrap ((BitVec.ofInt 64 ((2 ^ 8 * x : Nat) : Int) ||| BitVec.ofInt 64 (b : Int)).toNat : Int) = _
  rw [BitVec.toNat_or, ofInt_64 _ (by omega), ofInt_64 b (by omega), ← Nat.two_pow_add_eq_or_of_lt (by omega) x, IntKind.wrap_u64]
  omega
/-- The byte at a place. -/
theorem byte_at {W : World} {B n c : Nat} {A : Option Addr} {L : List Nat} (h : RdS W B 1 A n c (rowsV f8 L)) (hn : 0 < n) : ∃ bb off, A = some ⟨bb, off, none⟩ ∧ bb < B ∧ ∀ (j b : Nat), L[j]? = some b → W.cell? ⟨bb, off + j, none⟩ = some (.int .u8 (b : Int)) := by
  obtain ⟨bb, off, rfl, hb, hp⟩ := h.place f8_len (by decide) hn
  refine ⟨bb, off, rfl, hb, fun j b hj => ?_⟩
  have := hp j b hj 0 _ rfl
  rw [Addr.add_lit] at this
  simpa using this
set_option maxRecDepth 100000 in
set_option maxHeartbeats 1000000 in
theorem number_any (A : Option Addr) (n c : Nat) (L : List Nat) (w : World) (h : RdS w w.heap.size 1 A n c (rowsV f8 L)) (hn : 8 ≤ n) (hb : ∀ b ∈ L, b < 256) :
    Calls Try.prog 37 #[.slice A n c] w fun e w' => e = .returned (.int .i64 (num8 (L.take 8))) ∧ w = w' := by
  obtain ⟨bb, off, rfl, -, hp⟩ := byte_at h (by omega)
  have hl := h.rlen f8_len (by decide)
  have hc := h.le
  have Hp := Lib.hid hp
  have Hb := Lib.hid hb
  have Hlt := Lib.hid (fun k hk => deN_lt hb k hk)
  unfold num8
  obtain ⟨x, gx⟩ : ∃ x, IntKind.i64.wrap ((deN (L.take 8) : Nat) : Int) = x := ⟨_, rfl⟩
  rw [gx]
  have Gx := Lib.hid gx
  clear h hp hb gx
  go_enter Try.func37, Try.ntmps37
  go_wp2
  go_loop [3, 9] (fun u i => ∃ k : Nat, k ≤ 8 ∧ u = .int .u64 ((deN (L.take k) : Nat) : Int) ∧ i = .int .i64 (k : Int)) (fun _ i => 8 - (intOf i).toNat)
  case atStart => exact ⟨0, by omega, by simp [deN], by simp⟩
  case round =>
    obtain ⟨k, hk, rfl, rfl⟩ := hrel
    by_cases hlt : k < 8
    · obtain ⟨b, hbk⟩ : ∃ b, L[k]? = some b := ⟨_, List.getElem?_eq_getElem (by omega)⟩
      have l0 := Hp.out k b hbk
      have hb6 : b < 256 := Hb.out b (List.mem_of_getElem? hbk)
      have hd : deN (L.take (k + 1)) = deN (L.take k) * 256 + b := by rw [take_snoc_ L k b hbk, deN_snoc]
      have hdl : deN (L.take k) < 72057594037927936 := by
        have h1 := Hlt.out k (by omega)
        have h2 : 256 ^ k ≤ 256 ^ 7 := Nat.pow_le_pow_right (by omega) (by omega)
        omega
      obtain ⟨X, gX⟩ : ∃ X, deN (L.take k) = X := ⟨_, rfl⟩
      rw [gX] at hd hdl ⊢
      have Hd := Lib.hid hd
      have ho := u64_or_byte X b hdl hb6
      have hw1 : IntKind.u64.wrap ((X : Int) * 256) = (X : Int) * 256 := by rw [IntKind.wrap_u64]; omega
      have hw2 : IntKind.u64.wrap (b : Int) = (b : Int) := by rw [IntKind.wrap_u64]; omega
      have hk8 : (k : Int) < 8 := by omega
      clear gX hd hbk
      go_wp2
      refine ⟨⟨k + 1, by omega, ?_, by go_num⟩, by simp [intOf]; omega⟩
      rw [Hd.out]
      exact congrArg (Value.int .u64) (by omega)
    · obtain rfl : k = 8 := by omega
      have hwx := Gx.out
      obtain ⟨X, gX⟩ : ∃ X, deN (L.take 8) = X := ⟨_, rfl⟩
      rw [gX] at hwx ⊢
      clear gX
      go_wp2
      go_ret
      exact ⟨rfl, rfl⟩
end Go.Proofs.Ytinfbaflkjghhaa
/- pack.TakeNum. -/
namespace Go.Proofs.Ytinfbaflkjghhaa
open Go.RowKit
/-- What TakeNum tells. -/
def GivesTN (w : World) (L : List Nat) (e : Ending) (w' : World) : Prop :=
  ∃ A n c, e = .returned (.tuple #[.int .i64 (if 8 ≤ L.length then num8 (L.take 8) else 0), .slice A n c, .bool (decide (8 ≤ L.length))]) ∧ n = (if 8 ≤ L.length then L.drop 8 else L).length ∧ w'.ownsRow w.heap.size 5 1 (.slice A n c) n (rowsV f8 (if 8 ≤ L.length then L.drop 8 else L)) ∧ Below w.heap.size w w'
set_option maxRecDepth 100000 in
set_option maxHeartbeats 1000000 in
theorem takenum_any (A : Option Addr) (c : Nat) (L : List Nat) (w : World) (h : RdS w w.heap.size 1 A L.length c (rowsV f8 L)) (hn : L.length ≤ 100000) (hb : ∀ b ∈ L, b < 256) :
    Calls Try.prog 20 #[.slice A L.length c] w (GivesTN w L) := by
  unfold GivesTN
  by_cases h8 : 8 ≤ L.length
  · rw [if_pos h8, if_pos h8, decide_eq_true h8]
    have HN := Lib.hid (fun W (hW : Ext w W) => number_any A L.length c L W (h.up hW hW.size) h8 hb)
    have hlow := h.low_ (k := 8) h8
    have hdl : (L.drop 8).length = L.length - 8 := List.length_drop
    rw [show (rowsV f8 L).drop (8 * 1) = rowsV f8 (L.drop 8) from by rw [rowsV_map8, rowsV_map8, List.map_drop], ← hdl] at hlow
    obtain ⟨A1, hA1⟩ : ∃ A1, (if c = 8 then A else A.map (·.add (8 * 1))) = A1 := ⟨_, rfl⟩
    rw [hA1] at hlow
    have HC := Lib.hid (fun W (hW : Ext w W) => clone8 A1 (c - 8) (L.drop 8) W (hlow.up hW hW.size) (by rw [hdl]; omega))
    obtain ⟨M, gM⟩ : ∃ M, L.drop 8 = M := ⟨_, rfl⟩
    rw [gM] at HC hdl ⊢
    obtain ⟨x, gx⟩ : ∃ x, num8 (L.take 8) = x := ⟨_, rfl⟩
    rw [gx] at HN ⊢
    obtain ⟨n, gn⟩ : ∃ n, L.length = n := ⟨_, rfl⟩
    rw [gn] at HN hdl h8 hn ⊢
    obtain ⟨m, gm⟩ : ∃ m, M.length = m := ⟨_, rfl⟩
    have Gm := Lib.hid gm
    rw [gm] at HC hdl ⊢
    have hd1 : decide ((n : Int) < 8) = false := decide_eq_false (by omega)
    have hd2 : decide (n < 8) = false := decide_eq_false (by omega)
    have HAr := Lib.hid hA1
    have Hml := Lib.hid hdl.symm
    have H8 := Lib.hid h8
    clear h hb hlow gM gx gn gm hA1 hdl
    go_enter Try.func20, Try.ntmps20
    go_upto_region 3 with fail
    have HD : RowKit.Hid (Ext w w.drew) := Lib.hid (below_drewN w.heap.size w 1)
    refine wp_region_reg (Nil_) (by kernel_rfl) ?_
    refine opR_ 0 10 (v := ?_) ?_ ?_; rotate_left
    · intro w' hw'; go_simp; (try with_reducible rfl)
    simp only [st0_, st1_]
    refine opR_ 2 12 (v := ?_) ?_ ?_; rotate_left
    · intro w' hw'; go_simp; (try with_reducible rfl)
    simp only [st0_, st1_]
    refine opX_ 3 13 ?_
    apply Exists.intro
    apply And.intro
    · apply yr_run; rfl; intro w' hw'; exact exec_slice_low_as 23 5 (.tmp 12) (.const (.int .i64 8)) rfl Try.underlying23 (s := 1) (by kernel_rfl) rfl rfl H8.out HAr.out Hml.out rfl
    simp only [st0_, st1_]
    apply wpR_call 1 (some 11)
    · rfl
    · rfl
    · kernel_rfl
    · rfl
    · intro w'; go_simp; first | done | exact ⟨rfl, rfl⟩ | with_reducible rfl
    intro w' hw'
    refine (HN.out w' (HD.out.trans hw')).mono ?_
    rintro e w1 ⟨rfl, rfl⟩
    refine ⟨_, rfl, Kept.refl _ _, ?_⟩
    have H1 := Lib.hid (HD.out.trans hw')
    clear hw' 
    simp only [Act.put, stA_, st0_, st1_]
    apply wpR_call 4 (some 14)
    · rfl
    · rfl
    · kernel_rfl
    · rfl
    · intro w'; go_simp; first | done | exact ⟨rfl, rfl⟩ | with_reducible rfl
    intro w' hw'
    refine (HC.out w' (H1.out.trans hw')).mono ?_
    rintro e w3 ⟨A2, c2, rfl, -, -, ho, hb⟩
    have HO := Lib.hid (own_lo8 ho (H1.out.trans hw').size)
    have HB := Lib.hid ((H1.out.trans hw').trans hb)
    refine ⟨_, rfl, Kept.of_below hb, ?_⟩
    rw [Gm.out] at HO ⊢
    clear hw' ho hb
    simp only [Act.put, stA_, st0_, st1_]
    refine opR_ 5 2 (v := ?_) ?_ ?_; rotate_left
    · intro w' hw'; go_simp; (try with_reducible rfl)
    simp only [st0_, st1_]
    refine opR_ 6 3 (v := ?_) ?_ ?_; rotate_left
    · intro w' hw'; go_simp; (try with_reducible rfl)
    simp only [st0_, st1_]
    refine opR_ 7 4 (v := ?_) ?_ ?_; rotate_left
    · intro w' hw'; go_simp; (try with_reducible rfl)
    simp only [st0_, st1_]
    refine wpR_done (by kernel_rfl) ?_ _
    intro w9 hw9
    have HO9 := Lib.hid (own_up HO.out hw9)
    have HB9 := Lib.hid (HB.out.trans hw9)
    clear hw9 HO HB
    go_wp2
    refine bodyPost_ret (v := .tuple #[.int .i64 x, .slice A2 m c2, .bool true]) (by simp [results, Try.results20, go_sem]) rfl ?_
    exact ⟨A2, m, c2, rfl, rfl, HO9.out, HB9.out⟩
  · rw [if_neg h8, if_neg h8, decide_eq_false h8]
    have HC := Lib.hid (clone8 A c L w h hn)
    obtain ⟨n, gn⟩ : ∃ n, L.length = n := ⟨_, rfl⟩
    have Gn := Lib.hid gn
    rw [gn] at h8 HC ⊢
    have hd1 : decide ((n : Int) < 8) = true := decide_eq_true (by omega)
    have hd2 : decide (n < 8) = true := decide_eq_true (by omega)
    clear h gn hb hn
    go_enter Try.func20, Try.ntmps20
    go_wp2_with (first | (go_at_call 36; refine HC.out.mono ?_; rintro e w2 ⟨A2, c2, rfl, -, -, ho, hb⟩; have HO := Lib.hid ho; have HB := Lib.hid hb; clear ho hb))
    refine bodyPost_ret (v := .tuple #[.int .i64 0, .slice A2 n c2, .bool false]) (by simp [results, Try.results20, go_sem, Gn.out]) rfl ?_
    have ho := HO.out
    rw [Gn.out] at ho
    exact ⟨A2, n, c2, rfl, rfl, ho, HB.out⟩
end Go.Proofs.Ytinfbaflkjghhaa
/- pack.TakeText. -/
namespace Go.Proofs.Ytinfbaflkjghhaa
open Go.RowKit
theorem Kept.ext_nil {w w' : World} (h : Kept Nil_ w w') : Ext w w' := ⟨h.os, h.tape, h.output, h.size, fun i hi => h.block i hi (fun e => e)⟩
/-- Whether bytes begin with a text. -/
def isT (L : List Nat) : Bool := decide (1 ≤ L.length ∧ 1 + c1 L ≤ L.length)
def txT (L : List Nat) : ByteArray := if isT L = true then txt ((L.drop 1).take (c1 L)) else { data := #[] }
def leT (L : List Nat) : List Nat := if isT L = true then L.drop (1 + c1 L) else L
/-- What TakeText tells. -/
def GivesTT (w : World) (L : List Nat) (e : Ending) (w' : World) : Prop :=
  ∃ A n c, e = .returned (.tuple #[.string (txT L), .slice A n c, .bool (isT L)]) ∧ n = (leT L).length ∧ w'.ownsRow w.heap.size 5 1 (.slice A n c) n (rowsV f8 (leT L)) ∧ Below w.heap.size w w'
set_option maxRecDepth 100000 in
set_option maxHeartbeats 1000000 in
theorem taketext_any (A : Option Addr) (c : Nat) (L : List Nat) (w : World) (h : RdS w w.heap.size 1 A L.length c (rowsV f8 L)) (hn : L.length ≤ 100000) (hb : ∀ b ∈ L, b < 256) :
    Calls Try.prog 106 #[.slice A L.length c] w (GivesTT w L) := by
  unfold GivesTT
  by_cases hT : isT L = true
  · obtain ⟨h1, h2⟩ := of_decide_eq_true hT
    obtain ⟨b, hb0⟩ : ∃ b, L[0]? = some b := ⟨_, List.getElem?_eq_getElem (by omega)⟩
    have hc1 : c1 L = b := by unfold c1; cases L with | nil => cases hb0 | cons x L => simpa using hb0
    have hb6 : b < 256 := hb b (List.mem_of_getElem? hb0)
    unfold txT leT
    rw [if_pos hT, if_pos hT, hT]
    rw [hc1] at h2 ⊢
    have hlow := h.low_ (k := 1 + b) h2
    have hdl : (L.drop (1 + b)).length = L.length - (1 + b) := List.length_drop
    rw [show (rowsV f8 L).drop ((1 + b) * 1) = rowsV f8 (L.drop (1 + b)) from by rw [rowsV_map8, rowsV_map8, List.map_drop, Nat.mul_one], ← hdl] at hlow
    obtain ⟨A1, hA1⟩ : ∃ A1, (if c = 1 + b then A else A.map (·.add ((1 + b) * 1))) = A1 := ⟨_, rfl⟩
    rw [hA1] at hlow
    have HC := Lib.hid (fun W (hW : Ext w W) => clone8 A1 (c - (1 + b)) (L.drop (1 + b)) W (hlow.up hW hW.size) (by rw [hdl]; omega))
    -- the text
    have hmid := h.low_ (k := 1) h1
    rw [show (rowsV f8 L).drop (1 * 1) = rowsV f8 (L.drop 1) from by rw [rowsV_map8, rowsV_map8, List.map_drop]] at hmid
    obtain ⟨A3, hA3⟩ : ∃ A3, (if c = 1 then A else A.map (·.add (1 * 1))) = A3 := ⟨_, rfl⟩
    rw [hA3] at hmid
    have htk := hmid.take_ b (by omega)
    rw [show (rowsV f8 (L.drop 1)).take (b * 1) = rowsV f8 ((L.drop 1).take b) from by rw [rowsV_map8, rowsV_map8, List.map_take, Nat.mul_one]] at htk
    have HV := Lib.hid (fun W (hW : Ext w W) => conv_txt (htk.up hW hW.size))
    obtain ⟨s, gs⟩ : ∃ s, txt ((L.drop 1).take b) = s := ⟨_, rfl⟩
    rw [gs] at HV ⊢
    obtain ⟨M, gM⟩ : ∃ M, L.drop (1 + b) = M := ⟨_, rfl⟩
    rw [gM] at HC hdl ⊢
    obtain ⟨bb, off, rfl, -, hp⟩ := byte_at h (by omega)
    have l0 := hp 0 b hb0
    rw [Nat.add_zero] at l0
    obtain ⟨n, gn⟩ : ∃ n, L.length = n := ⟨_, rfl⟩
    have hle := h.le
    rw [gn] at hdl h1 h2 hn hle ⊢
    obtain ⟨m, gm⟩ : ∃ m, M.length = m := ⟨_, rfl⟩
    have Gm := Lib.hid gm
    rw [gm] at HC hdl ⊢
    have hw1 : IntKind.i64.wrap (1 + (b : Int)) = ((1 + b : Nat) : Int) := by rw [IntWalk.i64_in _ (by omega)]; omega
    have hw2 : IntKind.i64.wrap (b : Int) = (b : Int) := IntWalk.i64_in _ (by omega)
    obtain ⟨e, ge⟩ : ∃ e, 1 + b = e := ⟨_, rfl⟩
    rw [ge] at hw1 hA1 hdl HC h2
    have heb : RowKit.Hid (e - 1 = b) := Lib.hid (by omega)
    have He1 : RowKit.Hid (1 ≤ e ∧ e ≤ c ∧ e ≤ n) := Lib.hid (by omega)
    have d1 : decide (n ≤ b) = false := decide_eq_false (by omega)
    have d2 : decide ((n : Int) ≤ (b : Int)) = false := decide_eq_false (by omega)
    have d3 : ((n : Int) == 0) = false := beq_eq_false_iff_ne.2 (by omega)
    have d4 : (n == 0) = false := beq_eq_false_iff_ne.2 (by omega)
    have d5 : (0 : Int) < (n : Int) := by omega
    have HAr := Lib.hid hA1
    have HAs := Lib.hid hA3
    have Hml := Lib.hid hdl.symm
    clear h hb hlow hmid htk gs gM gn gm ge hA1 hA3 hdl hb0 hc1 hp hT hle
    go_enter Try.func106, Try.ntmps106
    go_upto_region 4 with fail
    have HD : RowKit.Hid (Ext w w.drew) := Lib.hid (below_drewN w.heap.size w 1)
    refine wp_region_reg (Nil_) (by kernel_rfl) ?_
    refine opR_ 0 25 (v := ?_) ?_ ?_; rotate_left
    · intro w' hw'; go_simp; (try with_reducible rfl)
    simp only [st0_, st1_]
    refine opR_ 1 26 (v := ?_) ?_ ?_; rotate_left
    · intro w' hw'; go_simp; (try with_reducible rfl)
    simp only [st0_, st1_]
    refine opX_ 2 27 ?_
    apply Exists.intro
    apply And.intro
    · apply yr_run; rfl; intro w' hw'; exact exec_slice_as 23 5 (.tmp 25) (.const (.int .i64 1)) (.tmp 26) rfl Try.underlying23 (s := 1) (by kernel_rfl) rfl rfl rfl He1.out.1 He1.out.2.1 HAs.out heb.out rfl
    simp only [st0_, st1_]
    refine opX_ 3 28 ?_
    apply Exists.intro
    apply And.intro
    · apply yr_run; rfl; intro w' hw'; exact exec_convert 23 9 (.tmp 27) rfl rfl (HV.out w' (HD.out.trans hw'.ext_nil))
    simp only [st0_, st1_]
    refine opR_ 4 29 (v := ?_) ?_ ?_; rotate_left
    · intro w' hw'; go_simp; (try with_reducible rfl)
    simp only [st0_, st1_]
    refine opR_ 5 30 (v := ?_) ?_ ?_; rotate_left
    · intro w' hw'; go_simp; (try with_reducible rfl)
    simp only [st0_, st1_]
    refine opX_ 6 31 ?_
    apply Exists.intro
    apply And.intro
    · apply yr_run; rfl; intro w' hw'; exact exec_slice_low_as 23 5 (.tmp 29) (.tmp 30) rfl Try.underlying23 (s := 1) (by kernel_rfl) rfl rfl He1.out.2.2 HAr.out Hml.out rfl
    simp only [st0_, st1_]
    apply wpR_call 7 (some 32)
    · rfl
    · rfl
    · kernel_rfl
    · rfl
    · intro w'; go_simp; first | done | exact ⟨rfl, rfl⟩ | with_reducible rfl
    intro w' hw'
    refine (HC.out w' (HD.out.trans hw')).mono ?_
    rintro e w3 ⟨A2, c2, rfl, -, -, ho, hb⟩
    have HO := Lib.hid (own_lo8 ho (HD.out.trans hw').size)
    have HB := Lib.hid ((HD.out.trans hw').trans hb)
    refine ⟨_, rfl, Kept.of_below hb, ?_⟩
    rw [Gm.out] at HO ⊢
    clear hw' ho hb
    simp only [Act.put, stA_, st0_, st1_]
    refine opR_ 8 2 (v := ?_) ?_ ?_; rotate_left
    · intro w' hw'; go_simp; (try with_reducible rfl)
    simp only [st0_, st1_]
    refine opR_ 9 3 (v := ?_) ?_ ?_; rotate_left
    · intro w' hw'; go_simp; (try with_reducible rfl)
    simp only [st0_, st1_]
    refine opR_ 10 4 (v := ?_) ?_ ?_; rotate_left
    · intro w' hw'; go_simp; (try with_reducible rfl)
    simp only [st0_, st1_]
    refine wpR_done (by kernel_rfl) ?_ _
    intro w9 hw9
    have HO9 := Lib.hid (own_up HO.out hw9)
    have HB9 := Lib.hid (HB.out.trans hw9)
    clear hw9 HO HB
    go_wp2
    refine bodyPost_ret (v := .tuple #[.string s, .slice A2 m c2, .bool true]) (by simp [results, Try.results106, go_sem]) rfl ?_
    exact ⟨A2, m, c2, rfl, rfl, HO9.out, HB9.out⟩
  · have hf : isT L = false := by simpa using hT
    unfold txT leT
    rw [if_neg hT, if_neg hT, hf]
    have HC := Lib.hid (clone8 A c L w h hn)
    by_cases h1 : 1 ≤ L.length
    · obtain ⟨b, hb0⟩ : ∃ b, L[0]? = some b := ⟨_, List.getElem?_eq_getElem (by omega)⟩
      have hc1 : c1 L = b := by unfold c1; cases L with | nil => cases hb0 | cons x L => simpa using hb0
      have hb6 : b < 256 := hb b (List.mem_of_getElem? hb0)
      have hlt : ¬ (1 + b ≤ L.length) := fun q => by rw [← hc1] at q; exact hT (decide_eq_true ⟨h1, q⟩)
      obtain ⟨bb, off, rfl, -, hp⟩ := byte_at h (by omega)
      have l0 := hp 0 b hb0
      rw [Nat.add_zero] at l0
      obtain ⟨n, gn⟩ : ∃ n, L.length = n := ⟨_, rfl⟩
      have Gn := Lib.hid gn
      have hle := h.le
      rw [gn] at hlt h1 HC hle ⊢
      have hw2 : IntKind.i64.wrap (b : Int) = (b : Int) := IntWalk.i64_in _ (by omega)
      have d1 : decide (n ≤ b) = true := decide_eq_true (by omega)
      have d2 : decide ((n : Int) ≤ (b : Int)) = true := decide_eq_true (by omega)
      have d3 : ((n : Int) == 0) = false := beq_eq_false_iff_ne.2 (by omega)
      have d4 : (n == 0) = false := beq_eq_false_iff_ne.2 (by omega)
      have d5 : (0 : Int) < (n : Int) := by omega
      clear h hb gn hn hb0 hc1 hp hT hlt hf
      go_enter Try.func106, Try.ntmps106
      go_wp2_with (first | (go_at_call 36; refine HC.out.mono ?_; rintro e w2 ⟨A2, c2, rfl, -, -, ho, hb⟩; have HO := Lib.hid ho; have HB := Lib.hid hb; clear ho hb))
      refine bodyPost_ret (v := .tuple #[.string { data := #[] }, .slice A2 n c2, .bool false]) (by simp [results, Try.results106, go_sem, Gn.out]) rfl ?_
      have ho := HO.out
      rw [Gn.out] at ho
      exact ⟨A2, n, c2, rfl, rfl, ho, HB.out⟩
    · obtain ⟨n, gn⟩ : ∃ n, L.length = n := ⟨_, rfl⟩
      have Gn := Lib.hid gn
      rw [gn] at h1 HC ⊢
      obtain rfl : n = 0 := by omega
      clear h hb gn hn hT hf
      go_enter Try.func106, Try.ntmps106
      go_wp2_with (first | (go_at_call 36; refine HC.out.mono ?_; rintro e w2 ⟨A2, c2, rfl, -, -, ho, hb⟩; have HO := Lib.hid ho; have HB := Lib.hid hb; clear ho hb))
      refine bodyPost_ret (v := .tuple #[.string { data := #[] }, .slice A2 0 c2, .bool false]) (by simp [results, Try.results106, go_sem, Gn.out]) rfl ?_
      have ho := HO.out
      rw [Gn.out] at ho
      exact ⟨A2, 0, c2, rfl, rfl, ho, HB.out⟩
end Go.Proofs.Ytinfbaflkjghhaa
/- Out of XCm11, XPk9 -/
namespace Go.Proofs.Ytinfbaflkjghhaa
open Go.RowKit
/-- Bytes appended onto a row of one's own. -/
theorem app8 {w W : World} {A A' : Option Addr} {n c m c' : Nat} {X L : List Nat} (ty : TypeId) (ho : Ow w w.heap.size 5 1 (.slice A n c) n (rowsV f8 X) W) (hr : RdS W W.heap.size 1 A' m c' (rowsV f8 L)) (hn : n + m ≤ 1000000) :
    ∃ A2 c2 W', (Builtin.append_ #[23, 23] ty #[.slice A n c, .slice A' m c']).run Try.prog W = .ok (.slice A2 (n + m) c2) W' ∧ Ow w w.heap.size 5 1 (.slice A2 (n + m) c2) (n + m) (rowsV f8 (X ++ L)) W' ∧ W.grownBy W' (Value.slice A n c).ownBlock := by
  obtain ⟨i0, hi, hz0, hz1, hz2⟩ := info_parts_ info_u8
  obtain ⟨v', W', h1, h2, h3, h4, h5⟩ := Ow.app2 (P := Try.prog) 23 ty 5 i0 _ 1 1 _ Try.underlying23 hi hz0 hz1 hz2 rfl (by decide) _ _ _ ho _ A' m c' _ hr (f8_all L) (by unfold maxLen; omega) (by omega)
  rw [← rows8_app] at h2
  obtain ⟨A2, c2, rfl, -⟩ := h2.rds
  exact ⟨A2, c2, W', h1, h2, h4⟩
/-- A literal of one byte. -/
theorem one8 (W : World) (b : Nat) : RdS (W.alloc (.cells #[.int .u8 (b : Int)] 5)) (W.alloc (.cells #[.int .u8 (b : Int)] 5)).heap.size 1 (some ⟨W.heap.size, 0, none⟩) 1 1 (rowsV f8 [b]) := RdS.of_whole8 (Whole.new_ _ _ [_]) rfl
end Go.Proofs.Ytinfbaflkjghhaa
/- Operations: what they are in memory; the contracts of op.mayCorner and op.fits. -/
namespace Go.Proofs.Ytinfbaflkjghhaa
open Go.RowKit
/-- An operation's fields, one behind the other. -/
structure OpT where
  (k s n s1 n1 s2 n2 a0 a1 a2 a3 a4 b0 b1 b2 b3 b4 : Int)
  e : Bool
  t : ByteArray
  m : Int
deriving DecidableEq
def opCells (o : OpT) : List Value := [.int .i64 o.k, .int .i64 o.s, .int .i64 o.n, .int .i64 o.s1, .int .i64 o.n1, .int .i64 o.s2, .int .i64 o.n2, .int .i64 o.a0, .int .i64 o.a1, .int .i64 o.a2, .int .i64 o.a3, .int .i64 o.a4, .int .i64 o.b0, .int .i64 o.b1, .int .i64 o.b2, .int .i64 o.b3, .int .i64 o.b4, .bool o.e, .string o.t, .int .i64 o.m]
def mayAt (n : Int) : Bool := decide (-1099511627776 ≤ n ∧ n ≤ 1099511627776)
def mayC (a0 a1 a2 a3 a4 : Int) : Bool := mayI a0 a1 && (decide (a2 = 0 ∧ a3 = 0 ∧ a4 = 0) || mayD a2 a3 a4)
theorem mayattr_any (n : Int) : Pure 100 #[.int .i64 n] (.bool (mayAt n)) := fun w => by
  unfold mayAt
  by_cases h1 : -1099511627776 ≤ n
  · by_cases h2 : n ≤ 1099511627776
    · rw [decide_eq_true ⟨h1, h2⟩]
      go_enter Try.func100, Try.ntmps100
      go_wp2
      go_ret
      exact ⟨rfl, Below.refl _ _⟩
    · rw [decide_eq_false (fun h => h2 h.2)]
      go_enter Try.func100, Try.ntmps100
      go_wp2
      go_ret
      exact ⟨rfl, Below.refl _ _⟩
  · rw [decide_eq_false (fun h => h1 h.1)]
    go_enter Try.func100, Try.ntmps100
    go_wp2
    go_ret
    exact ⟨rfl, Below.refl _ _⟩
theorem eq_dartz_run (a b c : Int) (W : World) : (binOp .eql 49 (.agg #[.int .i64 a, .int .i64 b, .int .i64 c]) (.agg #[.int .i64 0, .int .i64 0, .int .i64 0])).run Try.prog W = .ok (.bool (decide (a = 0 ∧ b = 0 ∧ c = 0))) W := by
  by_cases h1 : a = 0 <;> by_cases h2 : b = 0 <;> by_cases h3 : c = 0 <;> simp [go_sem, h1, h2, h3]
theorem maycorner_any (a0 a1 a2 a3 a4 : Int) : Pure 99 #[.agg #[.int .i64 a0, .int .i64 a1, .int .i64 a2, .int .i64 a3, .int .i64 a4]] (.bool (mayC a0 a1 a2 a3 a4)) := fun w => by
  unfold mayC
  have hm := may_any a0 a1
  have hd := maydart_any a2 a3 a4
  have hq := eq_dartz_run a2 a3 a4
  cases h : mayI a0 a1
  · rw [h] at hm
    have H := Lib.hid hm
    clear hm hd hq h
    go_enter Try.func99, Try.ntmps99
    go_wp2_with (first | (go_at_call 78; refine (H.out _).mono ?_; rintro e w' ⟨rfl, hb⟩; obtain ⟨hc, hf⟩ := bcell hb))
    go_ret
    exact ⟨rfl, below_after1 hb⟩
  · rw [h] at hm
    have H := Lib.hid hm
    by_cases hz : a2 = 0 ∧ a3 = 0 ∧ a4 = 0
    · rw [decide_eq_true hz] at hq ⊢
      clear hm hd h hz
      go_enter Try.func99, Try.ntmps99
      go_wp2_with (first | (go_at_call 78; refine (H.out _).mono ?_; rintro e w' ⟨rfl, hb⟩; obtain ⟨hc, hf⟩ := bcell hb))
      go_ret
      exact ⟨rfl, below_after1 hb⟩
    · rw [decide_eq_false hz] at hq ⊢
      have HD := Lib.hid hd
      clear hm hd h hz
      go_enter Try.func99, Try.ntmps99
      go_wp2_with (first
        | (go_at_call 78; refine (H.out _).mono ?_; rintro e w' ⟨rfl, hb⟩; obtain ⟨hc, hf⟩ := bcell hb)
        | (go_at_call 107; refine (HD.out _).mono ?_; rintro e w'' ⟨rfl, hb2⟩))
      go_ret
      exact ⟨by simp, (below_after1 hb).trans (hb2.mono (below_after1 hb).size)⟩
def fitsO (o : OpT) : Bool :=
  if o.k = 1 ∨ o.k = 2 ∨ o.k = 4 ∨ o.k = 7 then true
  else if o.k = 3 then mayC o.a0 o.a1 o.a2 o.a3 o.a4 && mayC o.b0 o.b1 o.b2 o.b3 o.b4
  else if o.k = 5 then mayI o.s1 o.n1 && mayI o.s2 o.n2 && decide (0 ≤ o.m ∧ o.m ≤ 3)
  else if o.k = 6 then mayI o.s2 o.n2
  else if o.k = 8 then mayAt o.m
  else false
end Go.Proofs.Ytinfbaflkjghhaa
/- The contract of op.fits. -/
namespace Go.Proofs.Ytinfbaflkjghhaa
open Go.RowKit
set_option maxRecDepth 100000 in
set_option maxHeartbeats 2000000 in
theorem fits_at (k s n s1 n1 s2 n2 a0 a1 a2 a3 a4 b0 b1 b2 b3 b4 : Int) (e : Bool) (t : ByteArray) (m : Int) : Pure 79 #[.agg #[.int .i64 k, .int .i64 s, .int .i64 n, .int .i64 s1, .int .i64 n1, .int .i64 s2, .int .i64 n2, .int .i64 a0, .int .i64 a1, .int .i64 a2, .int .i64 a3, .int .i64 a4, .int .i64 b0, .int .i64 b1, .int .i64 b2, .int .i64 b3, .int .i64 b4, .bool e, .string t, .int .i64 m]] (.bool (fitsO ⟨k, s, n, s1, n1, s2, n2, a0, a1, a2, a3, a4, b0, b1, b2, b3, b4, e, t, m⟩)) := fun w => by
  unfold fitsO
  simp only
  by_cases k1 : k = 1
  · subst k1
    rw [if_pos (by decide)]
    go_enter Try.func79, Try.ntmps79
    go_wp2
    go_ret
    exact ⟨rfl, below1 _ _⟩
  have q1 : (k == 1) = false := by simpa using k1
  by_cases k2 : k = 2
  · subst k2
    rw [if_pos (by decide)]
    go_enter Try.func79, Try.ntmps79
    go_wp2
    go_ret
    exact ⟨rfl, below1 _ _⟩
  have q2 : (k == 2) = false := by simpa using k2
  by_cases k4 : k = 4
  · subst k4
    rw [if_pos (by decide)]
    go_enter Try.func79, Try.ntmps79
    go_wp2
    go_ret
    exact ⟨rfl, below1 _ _⟩
  have q4 : (k == 4) = false := by simpa using k4
  by_cases k7 : k = 7
  · subst k7
    rw [if_pos (by decide)]
    go_enter Try.func79, Try.ntmps79
    go_wp2
    go_ret
    exact ⟨rfl, below1 _ _⟩
  have q7 : (k == 7) = false := by simpa using k7
  rw [if_neg (by omega)]
  by_cases k3 : k = 3
  · subst k3
    rw [if_pos rfl]
    have ha := maycorner_any a0 a1 a2 a3 a4
    have hb' := maycorner_any b0 b1 b2 b3 b4
    obtain ⟨A, gA⟩ : ∃ x, mayC a0 a1 a2 a3 a4 = x := ⟨_, rfl⟩
    obtain ⟨B, gB⟩ : ∃ x, mayC b0 b1 b2 b3 b4 = x := ⟨_, rfl⟩
    rw [gA] at ha ⊢
    rw [gB] at hb' ⊢
    have HA := Lib.hid ha
    have HB := Lib.hid hb'
    clear ha hb' gA gB k1 k2 k4 k7 q1 q2 q4 q7
    have tok : True := trivial
    cases A
    · go_enter Try.func79, Try.ntmps79
      go_wp2_with (first
        | (go_at_call 99; refine (HA.out _).mono ?_; rintro e w1 ⟨rfl, hb1⟩; obtain ⟨hc1, hf1⟩ := bcell hb1))
      go_ret
      exact ⟨rfl, below_after1 hb1⟩
    · go_enter Try.func79, Try.ntmps79
      go_wp2_with (first
        | (go_at_call 99; have _t := tok; refine (HA.out _).mono ?_; rintro e w1 ⟨rfl, hb1⟩; obtain ⟨hc1, hf1⟩ := bcell hb1; clear tok)
        | (go_at_call 99; refine (HB.out _).mono ?_; rintro e w2 ⟨rfl, hb2⟩; obtain ⟨hc2, hf2⟩ := bcell hb2))
      go_ret
      exact ⟨by first | (simp; done) | (simp; omega), (below_after1 hb1).trans (hb2.mono (below_after1 hb1).size)⟩
  rw [if_neg k3]
  have q3 : (k == 3) = false := by simpa using k3
  by_cases k5 : k = 5
  · subst k5
    rw [if_pos rfl]
    have ha := may_any s1 n1
    have hb' := may_any s2 n2
    obtain ⟨A, gA⟩ : ∃ x, mayI s1 n1 = x := ⟨_, rfl⟩
    obtain ⟨B, gB⟩ : ∃ x, mayI s2 n2 = x := ⟨_, rfl⟩
    rw [gA] at ha ⊢
    rw [gB] at hb' ⊢
    have HA := Lib.hid ha
    have HB := Lib.hid hb'
    clear ha hb' gA gB k1 k2 k4 k7 q1 q2 q4 q7 k3 q3
    have tok : True := trivial
    cases A
    · go_enter Try.func79, Try.ntmps79
      go_wp2_with (first
        | (go_at_call 78; refine (HA.out _).mono ?_; rintro e w1 ⟨rfl, hb1⟩; obtain ⟨hc1, hf1⟩ := bcell hb1))
      go_ret
      exact ⟨rfl, below_after1 hb1⟩
    · cases B
      · go_enter Try.func79, Try.ntmps79
        go_wp2_with (first
          | (go_at_call 78; have _t := tok; refine (HA.out _).mono ?_; rintro e w1 ⟨rfl, hb1⟩; obtain ⟨hc1, hf1⟩ := bcell hb1; have hs1 : w.heap.size < w1.heap.size := Nat.lt_of_lt_of_le (by simp) hb1.size; clear tok)
          | (go_at_call 78; refine (HB.out _).mono ?_; rintro e w2 ⟨rfl, hb2⟩; obtain ⟨hc2, hf2⟩ := bcell hb2))
        go_ret
        exact ⟨by first | (simp; done) | (simp; omega), (below_after1 hb1).trans (hb2.mono (below_after1 hb1).size)⟩
      · by_cases m0 : 0 ≤ m
        · by_cases m3 : m ≤ 3
          · have hd : decide (0 ≤ m ∧ m ≤ 3) = true := decide_eq_true ⟨m0, m3⟩
            rw [hd]
            clear hd
            go_enter Try.func79, Try.ntmps79
            go_wp2_with (first
              | (go_at_call 78; have _t := tok; refine (HA.out _).mono ?_; rintro e w1 ⟨rfl, hb1⟩; obtain ⟨hc1, hf1⟩ := bcell hb1; have hs1 : w.heap.size < w1.heap.size := Nat.lt_of_lt_of_le (by simp) hb1.size; clear tok)
              | (go_at_call 78; refine (HB.out _).mono ?_; rintro e w2 ⟨rfl, hb2⟩; obtain ⟨hc2, hf2⟩ := bcell hb2))
            go_ret
            exact ⟨by first | (simp; done) | (simp; omega), (below_after1 hb1).trans (hb2.mono (below_after1 hb1).size)⟩
          · have hd : decide (0 ≤ m ∧ m ≤ 3) = false := decide_eq_false (fun h => m3 h.2)
            rw [hd]
            clear hd
            go_enter Try.func79, Try.ntmps79
            go_wp2_with (first
              | (go_at_call 78; have _t := tok; refine (HA.out _).mono ?_; rintro e w1 ⟨rfl, hb1⟩; obtain ⟨hc1, hf1⟩ := bcell hb1; have hs1 : w.heap.size < w1.heap.size := Nat.lt_of_lt_of_le (by simp) hb1.size; clear tok)
              | (go_at_call 78; refine (HB.out _).mono ?_; rintro e w2 ⟨rfl, hb2⟩; obtain ⟨hc2, hf2⟩ := bcell hb2))
            go_ret
            exact ⟨by first | (simp; done) | (simp; omega), (below_after1 hb1).trans (hb2.mono (below_after1 hb1).size)⟩
        · have hd : decide (0 ≤ m ∧ m ≤ 3) = false := decide_eq_false (fun h => m0 h.1)
          rw [hd]
          clear hd
          go_enter Try.func79, Try.ntmps79
          go_wp2_with (first
            | (go_at_call 78; have _t := tok; refine (HA.out _).mono ?_; rintro e w1 ⟨rfl, hb1⟩; obtain ⟨hc1, hf1⟩ := bcell hb1; have hs1 : w.heap.size < w1.heap.size := Nat.lt_of_lt_of_le (by simp) hb1.size; clear tok)
            | (go_at_call 78; refine (HB.out _).mono ?_; rintro e w2 ⟨rfl, hb2⟩; obtain ⟨hc2, hf2⟩ := bcell hb2))
          go_ret
          exact ⟨by first | (simp; done) | (simp; omega), (below_after1 hb1).trans (hb2.mono (below_after1 hb1).size)⟩
  rw [if_neg k5]
  have q5 : (k == 5) = false := by simpa using k5
  by_cases k6 : k = 6
  · subst k6
    rw [if_pos rfl]
    have H := Lib.hid (may_any s2 n2)
    obtain ⟨A, gA⟩ : ∃ x, mayI s2 n2 = x := ⟨_, rfl⟩
    rw [gA] at H ⊢
    clear gA k1 k2 k4 k7 q1 q2 q4 q7 k3 q3 k5 q5
    go_enter Try.func79, Try.ntmps79
    go_wp2_with (first
      | (go_at_call 78; refine (H.out _).mono ?_; rintro e w1 ⟨rfl, hb1⟩; obtain ⟨hc1, hf1⟩ := bcell hb1))
    go_ret
    exact ⟨rfl, below_after1 hb1⟩
  rw [if_neg k6]
  have q6 : (k == 6) = false := by simpa using k6
  by_cases k8 : k = 8
  · subst k8
    rw [if_pos rfl]
    have H := Lib.hid (mayattr_any m)
    obtain ⟨A, gA⟩ : ∃ x, mayAt m = x := ⟨_, rfl⟩
    rw [gA] at H ⊢
    clear gA k1 k2 k4 k7 q1 q2 q4 q7 k3 q3 k5 q5 k6 q6
    go_enter Try.func79, Try.ntmps79
    go_wp2_with (first
      | (go_at_call 100; refine (H.out _).mono ?_; rintro e w1 ⟨rfl, hb1⟩; obtain ⟨hc1, hf1⟩ := bcell hb1))
    go_ret
    exact ⟨rfl, below_after1 hb1⟩
  · have q8 : (k == 8) = false := by simpa using k8
    rw [if_neg k8]
    clear k1 k2 k4 k7 k3 k5 k6 k8
    go_enter Try.func79, Try.ntmps79
    go_wp2
    go_ret
    exact ⟨rfl, below1 _ _⟩
end Go.Proofs.Ytinfbaflkjghhaa
/- The contract of op.only. -/
namespace Go.Proofs.Ytinfbaflkjghhaa
open Go.RowKit Go.Great
def onlyO (o : OpT) : OpT :=
  if o.k = 3 then ⟨o.k, o.s, o.n, 0, 0, 0, 0, o.a0, o.a1, o.a2, o.a3, o.a4, o.b0, o.b1, o.b2, o.b3, o.b4, false, ⟨#[]⟩, 0⟩
  else if o.k = 5 then ⟨o.k, o.s, o.n, o.s1, o.n1, o.s2, o.n2, 0, 0, 0, 0, 0, 0, 0, 0, 0, 0, false, ⟨#[]⟩, o.m⟩
  else if o.k = 6 then ⟨o.k, o.s, o.n, 0, 0, o.s2, o.n2, 0, 0, 0, 0, 0, 0, 0, 0, 0, 0, false, ⟨#[]⟩, 0⟩
  else if o.k = 7 then ⟨o.k, o.s, o.n, 0, 0, 0, 0, 0, 0, 0, 0, 0, 0, 0, 0, 0, 0, o.e, o.t, 0⟩
  else if o.k = 8 then ⟨o.k, o.s, o.n, 0, 0, 0, 0, 0, 0, 0, 0, 0, 0, 0, 0, 0, 0, o.e, ⟨#[]⟩, o.m⟩
  else ⟨o.k, o.s, o.n, 0, 0, 0, 0, 0, 0, 0, 0, 0, 0, 0, 0, 0, 0, false, ⟨#[]⟩, 0⟩
set_option maxRecDepth 100000 in
set_option maxHeartbeats 2000000 in
theorem only_0 (k s n s1 n1 s2 n2 a0 a1 a2 a3 a4 b0 b1 b2 b3 b4 : Int) (e : Bool) (t : ByteArray) (m : Int) (q3 : (k == 3) = false) (q5 : (k == 5) = false) (q6 : (k == 6) = false) (q7 : (k == 7) = false) (q8 : (k == 8) = false) : Pure 80 #[.agg #[.int .i64 k, .int .i64 s, .int .i64 n, .int .i64 s1, .int .i64 n1, .int .i64 s2, .int .i64 n2, .int .i64 a0, .int .i64 a1, .int .i64 a2, .int .i64 a3, .int .i64 a4, .int .i64 b0, .int .i64 b1, .int .i64 b2, .int .i64 b3, .int .i64 b4, .bool e, .string t, .int .i64 m]] (.agg #[.int .i64 k, .int .i64 s, .int .i64 n, .int .i64 0, .int .i64 0, .int .i64 0, .int .i64 0, .int .i64 0, .int .i64 0, .int .i64 0, .int .i64 0, .int .i64 0, .int .i64 0, .int .i64 0, .int .i64 0, .int .i64 0, .int .i64 0, .bool false, .string ⟨#[]⟩, .int .i64 0]) := fun w => by
  go_enter Try.func80, Try.ntmps80
  go_upto_region 1 with fail
  obtain ⟨W1, gW1⟩ : ∃ x, (w.alloc (.cells #[.int .i64 k, .int .i64 s, .int .i64 n, .int .i64 s1, .int .i64 n1, .int .i64 s2, .int .i64 n2, .int .i64 a0, .int .i64 a1, .int .i64 a2, .int .i64 a3, .int .i64 a4, .int .i64 b0, .int .i64 b1, .int .i64 b2, .int .i64 b3, .int .i64 b4, .bool e, .string t, .int .i64 m] 53)).alloc (.cells #[.int .i64 0, .int .i64 0, .int .i64 0, .int .i64 0, .int .i64 0, .int .i64 0, .int .i64 0, .int .i64 0, .int .i64 0, .int .i64 0, .int .i64 0, .int .i64 0, .int .i64 0, .int .i64 0, .int .i64 0, .int .i64 0, .int .i64 0, .bool false, .string ⟨#[]⟩, .int .i64 0] 53) = x := ⟨_, rfl⟩
  have hO : Whole W1 w.heap.size 53 [.int .i64 k, .int .i64 s, .int .i64 n, .int .i64 s1, .int .i64 n1, .int .i64 s2, .int .i64 n2, .int .i64 a0, .int .i64 a1, .int .i64 a2, .int .i64 a3, .int .i64 a4, .int .i64 b0, .int .i64 b1, .int .i64 b2, .int .i64 b3, .int .i64 b4, .bool e, .string t, .int .i64 m] := by rw [← gW1]; exact (Whole.new_ w _ [.int .i64 k, .int .i64 s, .int .i64 n, .int .i64 s1, .int .i64 n1, .int .i64 s2, .int .i64 n2, .int .i64 a0, .int .i64 a1, .int .i64 a2, .int .i64 a3, .int .i64 a4, .int .i64 b0, .int .i64 b1, .int .i64 b2, .int .i64 b3, .int .i64 b4, .bool e, .string t, .int .i64 m]).alloc _
  have hR : Whole W1 (w.heap.size + 1) 53 [.int .i64 0, .int .i64 0, .int .i64 0, .int .i64 0, .int .i64 0, .int .i64 0, .int .i64 0, .int .i64 0, .int .i64 0, .int .i64 0, .int .i64 0, .int .i64 0, .int .i64 0, .int .i64 0, .int .i64 0, .int .i64 0, .int .i64 0, .bool false, .string ⟨#[]⟩, .int .i64 0] := by rw [← gW1]; exact Whole.new2 (cs := [.int .i64 0, .int .i64 0, .int .i64 0, .int .i64 0, .int .i64 0, .int .i64 0, .int .i64 0, .int .i64 0, .int .i64 0, .int .i64 0, .int .i64 0, .int .i64 0, .int .i64 0, .int .i64 0, .int .i64 0, .int .i64 0, .int .i64 0, .bool false, .string ⟨#[]⟩, .int .i64 0]) (by simp)
  have hB : Below w.heap.size w W1 := by rw [← gW1]; exact below2 _ _ _
  rw [gW1]
  clear gW1
  have HO := Lib.hid hO
  have HR := Lib.hid hR
  have HB := Lib.hid hB
  have l0 := hO.cell (i := 0) rfl
  have l1 := hO.cell (i := 1) rfl
  have l2 := hO.cell (i := 2) rfl
  clear hO hR hB
  obtain ⟨g0, gg0⟩ : ∃ x, w.heap.size = x := ⟨_, rfl⟩
  rw [gg0] at HO HR l0 l1 l2 ⊢
  have HG0 : RowKit.Hid (w.heap.size ≤ g0) := Lib.hid (by omega)
  clear gg0
  refine wp_region_lit ?_
  refine wpList_readTo rfl (some 4) rfl ?_ ?_ ?_
  rotate_left
  · go_simp; exact rfl
  simp only [Act.put, stA_, st0_, st1_]
  refine wpList_readTo rfl (some 5) rfl ?_ ?_ ?_
  rotate_left
  · go_simp; exact rfl
  simp only [Act.put, stA_, st0_, st1_]
  refine wpList_readTo rfl (some 6) rfl ?_ ?_ ?_
  rotate_left
  · go_simp; exact rfl
  simp only [Act.put, stA_, st0_, st1_]
  refine wpList_readTo rfl (some 7) rfl ?_ ?_ ?_
  rotate_left
  · go_simp; exact rfl
  simp only [Act.put, stA_, st0_, st1_]
  refine wpList_readTo rfl (some 8) rfl ?_ ?_ ?_
  rotate_left
  · go_simp; exact rfl
  simp only [Act.put, stA_, st0_, st1_]
  refine wpList_allocTo rfl (some 3) rfl ?_ (.cells #[.int .i64 0, .int .i64 0, .int .i64 0, .int .i64 0, .int .i64 0, .int .i64 0, .int .i64 0, .int .i64 0, .int .i64 0, .int .i64 0, .int .i64 0, .int .i64 0, .int .i64 0, .int .i64 0, .int .i64 0, .int .i64 0, .int .i64 0, .bool false, .string ⟨#[]⟩, .int .i64 0] 53) ?_ ?_
  rotate_left
  · go_simp; exact rfl
  simp only [Act.put, stA_, st0_, st1_]
  refine wpList_store_row rfl 53 (.tmp 3) (.tmp 8) rfl W1.heap.size #[.int .i64 k, .int .i64 s, .int .i64 n, .int .i64 0, .int .i64 0, .int .i64 0, .int .i64 0, .int .i64 0, .int .i64 0, .int .i64 0, .int .i64 0, .int .i64 0, .int .i64 0, .int .i64 0, .int .i64 0, .int .i64 0, .int .i64 0, .bool false, .string ⟨#[]⟩, .int .i64 0] rfl rfl 53 #[.int .i64 0, .int .i64 0, .int .i64 0, .int .i64 0, .int .i64 0, .int .i64 0, .int .i64 0, .int .i64 0, .int .i64 0, .int .i64 0, .int .i64 0, .int .i64 0, .int .i64 0, .int .i64 0, .int .i64 0, .int .i64 0, .int .i64 0, .bool false, .string ⟨#[]⟩, .int .i64 0] (heap_alloc_last _ _) (by kernel_rfl) rfl (by simp [Value.oneCell']) ?_
  rw [World.setRow_alloc_new]
  obtain ⟨W2, gW2⟩ : ∃ x, W1.alloc (.cells #[.int .i64 k, .int .i64 s, .int .i64 n, .int .i64 0, .int .i64 0, .int .i64 0, .int .i64 0, .int .i64 0, .int .i64 0, .int .i64 0, .int .i64 0, .int .i64 0, .int .i64 0, .int .i64 0, .int .i64 0, .int .i64 0, .int .i64 0, .bool false, .string ⟨#[]⟩, .int .i64 0] 53) = x := ⟨_, rfl⟩
  obtain ⟨g2, gg2⟩ : ∃ x, W1.heap.size = x := ⟨_, rfl⟩
  have HN : RowKit.Hid (Whole W2 g2 53 [.int .i64 k, .int .i64 s, .int .i64 n, .int .i64 0, .int .i64 0, .int .i64 0, .int .i64 0, .int .i64 0, .int .i64 0, .int .i64 0, .int .i64 0, .int .i64 0, .int .i64 0, .int .i64 0, .int .i64 0, .int .i64 0, .int .i64 0, .bool false, .string ⟨#[]⟩, .int .i64 0]) := Lib.hid (by rw [← gW2, ← gg2]; exact Whole.new_ W1 _ [.int .i64 k, .int .i64 s, .int .i64 n, .int .i64 0, .int .i64 0, .int .i64 0, .int .i64 0, .int .i64 0, .int .i64 0, .int .i64 0, .int .i64 0, .int .i64 0, .int .i64 0, .int .i64 0, .int .i64 0, .int .i64 0, .int .i64 0, .bool false, .string ⟨#[]⟩, .int .i64 0])
  have HO2 := Lib.hid (show Whole W2 g0 _ _ from gW2 ▸ HO.out.alloc _)
  have HR2 := Lib.hid (show Whole W2 (g0 + 1) _ _ from gW2 ▸ HR.out.alloc _)
  have HB2 := Lib.hid (show Below w.heap.size w W2 from gW2 ▸ HB.out.alloc HB.out.size _)
  have l0 := HO2.out.cell (i := 0) rfl
  rw [gW2, gg2]
  clear gW2 gg2
  go_upto_region 13 with fail
  refine wp_region_lit ?_
  refine wpList_load_row rfl 53 (.tmp 3) rfl g2 rfl 53 #[.int .i64 k, .int .i64 s, .int .i64 n, .int .i64 0, .int .i64 0, .int .i64 0, .int .i64 0, .int .i64 0, .int .i64 0, .int .i64 0, .int .i64 0, .int .i64 0, .int .i64 0, .int .i64 0, .int .i64 0, .int .i64 0, .int .i64 0, .bool false, .string ⟨#[]⟩, .int .i64 0] (0, 0) _ HN.out Try.underlying53 rfl (by kernel_rfl) ?_
  simp only [Act.put, stA_, st0_, st1_]
  refine wpList_store_row rfl 53 (.tmp 2) (.tmp 51) rfl (g0 + 1) #[.int .i64 k, .int .i64 s, .int .i64 n, .int .i64 0, .int .i64 0, .int .i64 0, .int .i64 0, .int .i64 0, .int .i64 0, .int .i64 0, .int .i64 0, .int .i64 0, .int .i64 0, .int .i64 0, .int .i64 0, .int .i64 0, .int .i64 0, .bool false, .string ⟨#[]⟩, .int .i64 0] rfl rfl 53 #[.int .i64 0, .int .i64 0, .int .i64 0, .int .i64 0, .int .i64 0, .int .i64 0, .int .i64 0, .int .i64 0, .int .i64 0, .int .i64 0, .int .i64 0, .int .i64 0, .int .i64 0, .int .i64 0, .int .i64 0, .int .i64 0, .int .i64 0, .bool false, .string ⟨#[]⟩, .int .i64 0] HR2.out (by kernel_rfl) rfl (by simp [Value.oneCell']) ?_
  have HR3 : RowKit.Hid (Whole (W2.setRow (g0 + 1) #[.int .i64 k, .int .i64 s, .int .i64 n, .int .i64 0, .int .i64 0, .int .i64 0, .int .i64 0, .int .i64 0, .int .i64 0, .int .i64 0, .int .i64 0, .int .i64 0, .int .i64 0, .int .i64 0, .int .i64 0, .int .i64 0, .int .i64 0, .bool false, .string ⟨#[]⟩, .int .i64 0]) (g0 + 1) 53 [.int .i64 k, .int .i64 s, .int .i64 n, .int .i64 0, .int .i64 0, .int .i64 0, .int .i64 0, .int .i64 0, .int .i64 0, .int .i64 0, .int .i64 0, .int .i64 0, .int .i64 0, .int .i64 0, .int .i64 0, .int .i64 0, .int .i64 0, .bool false, .string ⟨#[]⟩, .int .i64 0]) := Lib.hid (setRow_heap W2 (g0 + 1) _ _ _ _ HR2.out)
  have HB3 : RowKit.Hid (Below w.heap.size w (W2.setRow (g0 + 1) #[.int .i64 k, .int .i64 s, .int .i64 n, .int .i64 0, .int .i64 0, .int .i64 0, .int .i64 0, .int .i64 0, .int .i64 0, .int .i64 0, .int .i64 0, .int .i64 0, .int .i64 0, .int .i64 0, .int .i64 0, .int .i64 0, .int .i64 0, .bool false, .string ⟨#[]⟩, .int .i64 0])) := Lib.hid ⟨HB2.out.os, HB2.out.tape, HB2.out.output, (by have := HB2.out.size; simpa [World.setRow] using this), fun i hi => (setRow_other W2 (g0 + 1) i _ (by have := HG0.out; omega)).trans (HB2.out.block i hi)⟩
  obtain ⟨W3, gW3⟩ : ∃ x, W2.setRow (g0 + 1) #[.int .i64 k, .int .i64 s, .int .i64 n, .int .i64 0, .int .i64 0, .int .i64 0, .int .i64 0, .int .i64 0, .int .i64 0, .int .i64 0, .int .i64 0, .int .i64 0, .int .i64 0, .int .i64 0, .int .i64 0, .int .i64 0, .int .i64 0, .bool false, .string ⟨#[]⟩, .int .i64 0] = x := ⟨_, rfl⟩
  rw [gW3] at HR3 HB3 ⊢
  clear gW3
  go_wp2
  exact bodyPost_ret (v := .agg #[.int .i64 k, .int .i64 s, .int .i64 n, .int .i64 0, .int .i64 0, .int .i64 0, .int .i64 0, .int .i64 0, .int .i64 0, .int .i64 0, .int .i64 0, .int .i64 0, .int .i64 0, .int .i64 0, .int .i64 0, .int .i64 0, .int .i64 0, .bool false, .string ⟨#[]⟩, .int .i64 0]) (results_cell_row Try.results80 _ W3 (g0 + 1) 53 #[.int .i64 k, .int .i64 s, .int .i64 n, .int .i64 0, .int .i64 0, .int .i64 0, .int .i64 0, .int .i64 0, .int .i64 0, .int .i64 0, .int .i64 0, .int .i64 0, .int .i64 0, .int .i64 0, .int .i64 0, .int .i64 0, .int .i64 0, .bool false, .string ⟨#[]⟩, .int .i64 0] (0, 0) _ (by rfl) HR3.out Try.underlying53 rfl (by kernel_rfl)) rfl ⟨rfl, HB3.out⟩
set_option maxRecDepth 100000 in
set_option maxHeartbeats 2000000 in
theorem only_6 (s n s1 n1 s2 n2 a0 a1 a2 a3 a4 b0 b1 b2 b3 b4 : Int) (e : Bool) (t : ByteArray) (m : Int) : Pure 80 #[.agg #[.int .i64 6, .int .i64 s, .int .i64 n, .int .i64 s1, .int .i64 n1, .int .i64 s2, .int .i64 n2, .int .i64 a0, .int .i64 a1, .int .i64 a2, .int .i64 a3, .int .i64 a4, .int .i64 b0, .int .i64 b1, .int .i64 b2, .int .i64 b3, .int .i64 b4, .bool e, .string t, .int .i64 m]] (.agg #[.int .i64 6, .int .i64 s, .int .i64 n, .int .i64 0, .int .i64 0, .int .i64 s2, .int .i64 n2, .int .i64 0, .int .i64 0, .int .i64 0, .int .i64 0, .int .i64 0, .int .i64 0, .int .i64 0, .int .i64 0, .int .i64 0, .int .i64 0, .bool false, .string ⟨#[]⟩, .int .i64 0]) := fun w => by
  go_enter Try.func80, Try.ntmps80
  go_upto_region 1 with fail
  obtain ⟨W1, gW1⟩ : ∃ x, (w.alloc (.cells #[.int .i64 6, .int .i64 s, .int .i64 n, .int .i64 s1, .int .i64 n1, .int .i64 s2, .int .i64 n2, .int .i64 a0, .int .i64 a1, .int .i64 a2, .int .i64 a3, .int .i64 a4, .int .i64 b0, .int .i64 b1, .int .i64 b2, .int .i64 b3, .int .i64 b4, .bool e, .string t, .int .i64 m] 53)).alloc (.cells #[.int .i64 0, .int .i64 0, .int .i64 0, .int .i64 0, .int .i64 0, .int .i64 0, .int .i64 0, .int .i64 0, .int .i64 0, .int .i64 0, .int .i64 0, .int .i64 0, .int .i64 0, .int .i64 0, .int .i64 0, .int .i64 0, .int .i64 0, .bool false, .string ⟨#[]⟩, .int .i64 0] 53) = x := ⟨_, rfl⟩
  have hO : Whole W1 w.heap.size 53 [.int .i64 6, .int .i64 s, .int .i64 n, .int .i64 s1, .int .i64 n1, .int .i64 s2, .int .i64 n2, .int .i64 a0, .int .i64 a1, .int .i64 a2, .int .i64 a3, .int .i64 a4, .int .i64 b0, .int .i64 b1, .int .i64 b2, .int .i64 b3, .int .i64 b4, .bool e, .string t, .int .i64 m] := by rw [← gW1]; exact (Whole.new_ w _ [.int .i64 6, .int .i64 s, .int .i64 n, .int .i64 s1, .int .i64 n1, .int .i64 s2, .int .i64 n2, .int .i64 a0, .int .i64 a1, .int .i64 a2, .int .i64 a3, .int .i64 a4, .int .i64 b0, .int .i64 b1, .int .i64 b2, .int .i64 b3, .int .i64 b4, .bool e, .string t, .int .i64 m]).alloc _
  have hR : Whole W1 (w.heap.size + 1) 53 [.int .i64 0, .int .i64 0, .int .i64 0, .int .i64 0, .int .i64 0, .int .i64 0, .int .i64 0, .int .i64 0, .int .i64 0, .int .i64 0, .int .i64 0, .int .i64 0, .int .i64 0, .int .i64 0, .int .i64 0, .int .i64 0, .int .i64 0, .bool false, .string ⟨#[]⟩, .int .i64 0] := by rw [← gW1]; exact Whole.new2 (cs := [.int .i64 0, .int .i64 0, .int .i64 0, .int .i64 0, .int .i64 0, .int .i64 0, .int .i64 0, .int .i64 0, .int .i64 0, .int .i64 0, .int .i64 0, .int .i64 0, .int .i64 0, .int .i64 0, .int .i64 0, .int .i64 0, .int .i64 0, .bool false, .string ⟨#[]⟩, .int .i64 0]) (by simp)
  have hB : Below w.heap.size w W1 := by rw [← gW1]; exact below2 _ _ _
  rw [gW1]
  clear gW1
  have HO := Lib.hid hO
  have HR := Lib.hid hR
  have HB := Lib.hid hB
  have l0 := hO.cell (i := 0) rfl
  have l1 := hO.cell (i := 1) rfl
  have l2 := hO.cell (i := 2) rfl
  clear hO hR hB
  obtain ⟨g0, gg0⟩ : ∃ x, w.heap.size = x := ⟨_, rfl⟩
  rw [gg0] at HO HR l0 l1 l2 ⊢
  have HG0 : RowKit.Hid (w.heap.size ≤ g0) := Lib.hid (by omega)
  clear gg0
  refine wp_region_lit ?_
  refine wpList_readTo rfl (some 4) rfl ?_ ?_ ?_
  rotate_left
  · go_simp; exact rfl
  simp only [Act.put, stA_, st0_, st1_]
  refine wpList_readTo rfl (some 5) rfl ?_ ?_ ?_
  rotate_left
  · go_simp; exact rfl
  simp only [Act.put, stA_, st0_, st1_]
  refine wpList_readTo rfl (some 6) rfl ?_ ?_ ?_
  rotate_left
  · go_simp; exact rfl
  simp only [Act.put, stA_, st0_, st1_]
  refine wpList_readTo rfl (some 7) rfl ?_ ?_ ?_
  rotate_left
  · go_simp; exact rfl
  simp only [Act.put, stA_, st0_, st1_]
  refine wpList_readTo rfl (some 8) rfl ?_ ?_ ?_
  rotate_left
  · go_simp; exact rfl
  simp only [Act.put, stA_, st0_, st1_]
  refine wpList_allocTo rfl (some 3) rfl ?_ (.cells #[.int .i64 0, .int .i64 0, .int .i64 0, .int .i64 0, .int .i64 0, .int .i64 0, .int .i64 0, .int .i64 0, .int .i64 0, .int .i64 0, .int .i64 0, .int .i64 0, .int .i64 0, .int .i64 0, .int .i64 0, .int .i64 0, .int .i64 0, .bool false, .string ⟨#[]⟩, .int .i64 0] 53) ?_ ?_
  rotate_left
  · go_simp; exact rfl
  simp only [Act.put, stA_, st0_, st1_]
  refine wpList_store_row rfl 53 (.tmp 3) (.tmp 8) rfl W1.heap.size #[.int .i64 6, .int .i64 s, .int .i64 n, .int .i64 0, .int .i64 0, .int .i64 0, .int .i64 0, .int .i64 0, .int .i64 0, .int .i64 0, .int .i64 0, .int .i64 0, .int .i64 0, .int .i64 0, .int .i64 0, .int .i64 0, .int .i64 0, .bool false, .string ⟨#[]⟩, .int .i64 0] rfl rfl 53 #[.int .i64 0, .int .i64 0, .int .i64 0, .int .i64 0, .int .i64 0, .int .i64 0, .int .i64 0, .int .i64 0, .int .i64 0, .int .i64 0, .int .i64 0, .int .i64 0, .int .i64 0, .int .i64 0, .int .i64 0, .int .i64 0, .int .i64 0, .bool false, .string ⟨#[]⟩, .int .i64 0] (heap_alloc_last _ _) (by kernel_rfl) rfl (by simp [Value.oneCell']) ?_
  rw [World.setRow_alloc_new]
  obtain ⟨W2, gW2⟩ : ∃ x, W1.alloc (.cells #[.int .i64 6, .int .i64 s, .int .i64 n, .int .i64 0, .int .i64 0, .int .i64 0, .int .i64 0, .int .i64 0, .int .i64 0, .int .i64 0, .int .i64 0, .int .i64 0, .int .i64 0, .int .i64 0, .int .i64 0, .int .i64 0, .int .i64 0, .bool false, .string ⟨#[]⟩, .int .i64 0] 53) = x := ⟨_, rfl⟩
  obtain ⟨g2, gg2⟩ : ∃ x, W1.heap.size = x := ⟨_, rfl⟩
  have HN : RowKit.Hid (Whole W2 g2 53 [.int .i64 6, .int .i64 s, .int .i64 n, .int .i64 0, .int .i64 0, .int .i64 0, .int .i64 0, .int .i64 0, .int .i64 0, .int .i64 0, .int .i64 0, .int .i64 0, .int .i64 0, .int .i64 0, .int .i64 0, .int .i64 0, .int .i64 0, .bool false, .string ⟨#[]⟩, .int .i64 0]) := Lib.hid (by rw [← gW2, ← gg2]; exact Whole.new_ W1 _ [.int .i64 6, .int .i64 s, .int .i64 n, .int .i64 0, .int .i64 0, .int .i64 0, .int .i64 0, .int .i64 0, .int .i64 0, .int .i64 0, .int .i64 0, .int .i64 0, .int .i64 0, .int .i64 0, .int .i64 0, .int .i64 0, .int .i64 0, .bool false, .string ⟨#[]⟩, .int .i64 0])
  have HO2 := Lib.hid (show Whole W2 g0 _ _ from gW2 ▸ HO.out.alloc _)
  have HR2 := Lib.hid (show Whole W2 (g0 + 1) _ _ from gW2 ▸ HR.out.alloc _)
  have HB2 := Lib.hid (show Below w.heap.size w W2 from gW2 ▸ HB.out.alloc HB.out.size _)
  have l0 := HO2.out.cell (i := 0) rfl
  have HNE : RowKit.Hid (g0 + 1 ≠ g2) := Lib.hid (by have := HR.out.lt; omega)
  have HG2 : RowKit.Hid (w.heap.size ≤ g2) := Lib.hid (by have := HB.out.size; omega)
  rw [gW2, gg2]
  clear gW2 gg2
  have m5 := HO2.out.cell (i := 5) rfl
  have y5 := HN.out.cell (i := 5) rfl
  have z5 := HN.out.free 5
  have m6 := HO2.out.cell (i := 6) rfl
  have y6 := HN.out.cell (i := 6) rfl
  have z6 := HN.out.free 6
  go_upto_region 13 with fail
  clear m5 m6 y5 y6 z5 z6
  obtain ⟨W2', gW2'⟩ : ∃ x, (W2.setCell ⟨g2, 5, none⟩ (.int .i64 s2)).setCell ⟨g2, 6, none⟩ (.int .i64 n2) = x := ⟨_, rfl⟩
  have HN' : RowKit.Hid (Whole W2' g2 53 [.int .i64 6, .int .i64 s, .int .i64 n, .int .i64 0, .int .i64 0, .int .i64 s2, .int .i64 n2, .int .i64 0, .int .i64 0, .int .i64 0, .int .i64 0, .int .i64 0, .int .i64 0, .int .i64 0, .int .i64 0, .int .i64 0, .int .i64 0, .bool false, .string ⟨#[]⟩, .int .i64 0]) := Lib.hid (gW2' ▸ (HN.out.set_ 5 _).set_ 6 _)
  have HR2' : RowKit.Hid (Whole W2' (g0 + 1) 53 [.int .i64 0, .int .i64 0, .int .i64 0, .int .i64 0, .int .i64 0, .int .i64 0, .int .i64 0, .int .i64 0, .int .i64 0, .int .i64 0, .int .i64 0, .int .i64 0, .int .i64 0, .int .i64 0, .int .i64 0, .int .i64 0, .int .i64 0, .bool false, .string ⟨#[]⟩, .int .i64 0]) := Lib.hid (gW2' ▸ (HR2.out.far (by show g0 + 1 ≠ g2; exact HNE.out) _).far (by show g0 + 1 ≠ g2; exact HNE.out) _)
  have HB2' : RowKit.Hid (Below w.heap.size w W2') := Lib.hid (gW2' ▸ (HB2.out.setCell (by show w.heap.size ≤ g2; exact HG2.out) _).setCell (by show w.heap.size ≤ g2; exact HG2.out) _)
  rw [gW2']
  clear gW2'
  refine wp_region_lit ?_
  refine wpList_load_row rfl 53 (.tmp 3) rfl g2 rfl 53 #[.int .i64 6, .int .i64 s, .int .i64 n, .int .i64 0, .int .i64 0, .int .i64 s2, .int .i64 n2, .int .i64 0, .int .i64 0, .int .i64 0, .int .i64 0, .int .i64 0, .int .i64 0, .int .i64 0, .int .i64 0, .int .i64 0, .int .i64 0, .bool false, .string ⟨#[]⟩, .int .i64 0] (0, 0) _ HN'.out Try.underlying53 rfl (by kernel_rfl) ?_
  simp only [Act.put, stA_, st0_, st1_]
  refine wpList_store_row rfl 53 (.tmp 2) (.tmp 51) rfl (g0 + 1) #[.int .i64 6, .int .i64 s, .int .i64 n, .int .i64 0, .int .i64 0, .int .i64 s2, .int .i64 n2, .int .i64 0, .int .i64 0, .int .i64 0, .int .i64 0, .int .i64 0, .int .i64 0, .int .i64 0, .int .i64 0, .int .i64 0, .int .i64 0, .bool false, .string ⟨#[]⟩, .int .i64 0] rfl rfl 53 #[.int .i64 0, .int .i64 0, .int .i64 0, .int .i64 0, .int .i64 0, .int .i64 0, .int .i64 0, .int .i64 0, .int .i64 0, .int .i64 0, .int .i64 0, .int .i64 0, .int .i64 0, .int .i64 0, .int .i64 0, .int .i64 0, .int .i64 0, .bool false, .string ⟨#[]⟩, .int .i64 0] HR2'.out (by kernel_rfl) rfl (by simp [Value.oneCell']) ?_
  have HR3 : RowKit.Hid (Whole (W2'.setRow (g0 + 1) #[.int .i64 6, .int .i64 s, .int .i64 n, .int .i64 0, .int .i64 0, .int .i64 s2, .int .i64 n2, .int .i64 0, .int .i64 0, .int .i64 0, .int .i64 0, .int .i64 0, .int .i64 0, .int .i64 0, .int .i64 0, .int .i64 0, .int .i64 0, .bool false, .string ⟨#[]⟩, .int .i64 0]) (g0 + 1) 53 [.int .i64 6, .int .i64 s, .int .i64 n, .int .i64 0, .int .i64 0, .int .i64 s2, .int .i64 n2, .int .i64 0, .int .i64 0, .int .i64 0, .int .i64 0, .int .i64 0, .int .i64 0, .int .i64 0, .int .i64 0, .int .i64 0, .int .i64 0, .bool false, .string ⟨#[]⟩, .int .i64 0]) := Lib.hid (setRow_heap W2' (g0 + 1) _ _ _ _ HR2'.out)
  have HB3 : RowKit.Hid (Below w.heap.size w (W2'.setRow (g0 + 1) #[.int .i64 6, .int .i64 s, .int .i64 n, .int .i64 0, .int .i64 0, .int .i64 s2, .int .i64 n2, .int .i64 0, .int .i64 0, .int .i64 0, .int .i64 0, .int .i64 0, .int .i64 0, .int .i64 0, .int .i64 0, .int .i64 0, .int .i64 0, .bool false, .string ⟨#[]⟩, .int .i64 0])) := Lib.hid ⟨HB2'.out.os, HB2'.out.tape, HB2'.out.output, (by have := HB2'.out.size; simpa [World.setRow] using this), fun i hi => (setRow_other W2' (g0 + 1) i _ (by have := HG0.out; omega)).trans (HB2'.out.block i hi)⟩
  obtain ⟨W3, gW3⟩ : ∃ x, W2'.setRow (g0 + 1) #[.int .i64 6, .int .i64 s, .int .i64 n, .int .i64 0, .int .i64 0, .int .i64 s2, .int .i64 n2, .int .i64 0, .int .i64 0, .int .i64 0, .int .i64 0, .int .i64 0, .int .i64 0, .int .i64 0, .int .i64 0, .int .i64 0, .int .i64 0, .bool false, .string ⟨#[]⟩, .int .i64 0] = x := ⟨_, rfl⟩
  rw [gW3] at HR3 HB3 ⊢
  clear gW3
  go_wp2
  exact bodyPost_ret (v := .agg #[.int .i64 6, .int .i64 s, .int .i64 n, .int .i64 0, .int .i64 0, .int .i64 s2, .int .i64 n2, .int .i64 0, .int .i64 0, .int .i64 0, .int .i64 0, .int .i64 0, .int .i64 0, .int .i64 0, .int .i64 0, .int .i64 0, .int .i64 0, .bool false, .string ⟨#[]⟩, .int .i64 0]) (results_cell_row Try.results80 _ W3 (g0 + 1) 53 #[.int .i64 6, .int .i64 s, .int .i64 n, .int .i64 0, .int .i64 0, .int .i64 s2, .int .i64 n2, .int .i64 0, .int .i64 0, .int .i64 0, .int .i64 0, .int .i64 0, .int .i64 0, .int .i64 0, .int .i64 0, .int .i64 0, .int .i64 0, .bool false, .string ⟨#[]⟩, .int .i64 0] (0, 0) _ (by rfl) HR3.out Try.underlying53 rfl (by kernel_rfl)) rfl ⟨rfl, HB3.out⟩
set_option maxRecDepth 100000 in
set_option maxHeartbeats 2000000 in
theorem only_3 (s n s1 n1 s2 n2 a0 a1 a2 a3 a4 b0 b1 b2 b3 b4 : Int) (e : Bool) (t : ByteArray) (m : Int) : Pure 80 #[.agg #[.int .i64 3, .int .i64 s, .int .i64 n, .int .i64 s1, .int .i64 n1, .int .i64 s2, .int .i64 n2, .int .i64 a0, .int .i64 a1, .int .i64 a2, .int .i64 a3, .int .i64 a4, .int .i64 b0, .int .i64 b1, .int .i64 b2, .int .i64 b3, .int .i64 b4, .bool e, .string t, .int .i64 m]] (.agg #[.int .i64 3, .int .i64 s, .int .i64 n, .int .i64 0, .int .i64 0, .int .i64 0, .int .i64 0, .int .i64 a0, .int .i64 a1, .int .i64 a2, .int .i64 a3, .int .i64 a4, .int .i64 b0, .int .i64 b1, .int .i64 b2, .int .i64 b3, .int .i64 b4, .bool false, .string ⟨#[]⟩, .int .i64 0]) := fun w => by
  go_enter Try.func80, Try.ntmps80
  go_upto_region 1 with fail
  obtain ⟨W1, gW1⟩ : ∃ x, (w.alloc (.cells #[.int .i64 3, .int .i64 s, .int .i64 n, .int .i64 s1, .int .i64 n1, .int .i64 s2, .int .i64 n2, .int .i64 a0, .int .i64 a1, .int .i64 a2, .int .i64 a3, .int .i64 a4, .int .i64 b0, .int .i64 b1, .int .i64 b2, .int .i64 b3, .int .i64 b4, .bool e, .string t, .int .i64 m] 53)).alloc (.cells #[.int .i64 0, .int .i64 0, .int .i64 0, .int .i64 0, .int .i64 0, .int .i64 0, .int .i64 0, .int .i64 0, .int .i64 0, .int .i64 0, .int .i64 0, .int .i64 0, .int .i64 0, .int .i64 0, .int .i64 0, .int .i64 0, .int .i64 0, .bool false, .string ⟨#[]⟩, .int .i64 0] 53) = x := ⟨_, rfl⟩
  have hO : Whole W1 w.heap.size 53 [.int .i64 3, .int .i64 s, .int .i64 n, .int .i64 s1, .int .i64 n1, .int .i64 s2, .int .i64 n2, .int .i64 a0, .int .i64 a1, .int .i64 a2, .int .i64 a3, .int .i64 a4, .int .i64 b0, .int .i64 b1, .int .i64 b2, .int .i64 b3, .int .i64 b4, .bool e, .string t, .int .i64 m] := by rw [← gW1]; exact (Whole.new_ w _ [.int .i64 3, .int .i64 s, .int .i64 n, .int .i64 s1, .int .i64 n1, .int .i64 s2, .int .i64 n2, .int .i64 a0, .int .i64 a1, .int .i64 a2, .int .i64 a3, .int .i64 a4, .int .i64 b0, .int .i64 b1, .int .i64 b2, .int .i64 b3, .int .i64 b4, .bool e, .string t, .int .i64 m]).alloc _
  have hR : Whole W1 (w.heap.size + 1) 53 [.int .i64 0, .int .i64 0, .int .i64 0, .int .i64 0, .int .i64 0, .int .i64 0, .int .i64 0, .int .i64 0, .int .i64 0, .int .i64 0, .int .i64 0, .int .i64 0, .int .i64 0, .int .i64 0, .int .i64 0, .int .i64 0, .int .i64 0, .bool false, .string ⟨#[]⟩, .int .i64 0] := by rw [← gW1]; exact Whole.new2 (cs := [.int .i64 0, .int .i64 0, .int .i64 0, .int .i64 0, .int .i64 0, .int .i64 0, .int .i64 0, .int .i64 0, .int .i64 0, .int .i64 0, .int .i64 0, .int .i64 0, .int .i64 0, .int .i64 0, .int .i64 0, .int .i64 0, .int .i64 0, .bool false, .string ⟨#[]⟩, .int .i64 0]) (by simp)
  have hB : Below w.heap.size w W1 := by rw [← gW1]; exact below2 _ _ _
  rw [gW1]
  clear gW1
  have HO := Lib.hid hO
  have HR := Lib.hid hR
  have HB := Lib.hid hB
  have l0 := hO.cell (i := 0) rfl
  have l1 := hO.cell (i := 1) rfl
  have l2 := hO.cell (i := 2) rfl
  clear hO hR hB
  obtain ⟨g0, gg0⟩ : ∃ x, w.heap.size = x := ⟨_, rfl⟩
  rw [gg0] at HO HR l0 l1 l2 ⊢
  have HG0 : RowKit.Hid (w.heap.size ≤ g0) := Lib.hid (by omega)
  clear gg0
  refine wp_region_lit ?_
  refine wpList_readTo rfl (some 4) rfl ?_ ?_ ?_
  rotate_left
  · go_simp; exact rfl
  simp only [Act.put, stA_, st0_, st1_]
  refine wpList_readTo rfl (some 5) rfl ?_ ?_ ?_
  rotate_left
  · go_simp; exact rfl
  simp only [Act.put, stA_, st0_, st1_]
  refine wpList_readTo rfl (some 6) rfl ?_ ?_ ?_
  rotate_left
  · go_simp; exact rfl
  simp only [Act.put, stA_, st0_, st1_]
  refine wpList_readTo rfl (some 7) rfl ?_ ?_ ?_
  rotate_left
  · go_simp; exact rfl
  simp only [Act.put, stA_, st0_, st1_]
  refine wpList_readTo rfl (some 8) rfl ?_ ?_ ?_
  rotate_left
  · go_simp; exact rfl
  simp only [Act.put, stA_, st0_, st1_]
  refine wpList_allocTo rfl (some 3) rfl ?_ (.cells #[.int .i64 0, .int .i64 0, .int .i64 0, .int .i64 0, .int .i64 0, .int .i64 0, .int .i64 0, .int .i64 0, .int .i64 0, .int .i64 0, .int .i64 0, .int .i64 0, .int .i64 0, .int .i64 0, .int .i64 0, .int .i64 0, .int .i64 0, .bool false, .string ⟨#[]⟩, .int .i64 0] 53) ?_ ?_
  rotate_left
  · go_simp; exact rfl
  simp only [Act.put, stA_, st0_, st1_]
  refine wpList_store_row rfl 53 (.tmp 3) (.tmp 8) rfl W1.heap.size #[.int .i64 3, .int .i64 s, .int .i64 n, .int .i64 0, .int .i64 0, .int .i64 0, .int .i64 0, .int .i64 0, .int .i64 0, .int .i64 0, .int .i64 0, .int .i64 0, .int .i64 0, .int .i64 0, .int .i64 0, .int .i64 0, .int .i64 0, .bool false, .string ⟨#[]⟩, .int .i64 0] rfl rfl 53 #[.int .i64 0, .int .i64 0, .int .i64 0, .int .i64 0, .int .i64 0, .int .i64 0, .int .i64 0, .int .i64 0, .int .i64 0, .int .i64 0, .int .i64 0, .int .i64 0, .int .i64 0, .int .i64 0, .int .i64 0, .int .i64 0, .int .i64 0, .bool false, .string ⟨#[]⟩, .int .i64 0] (heap_alloc_last _ _) (by kernel_rfl) rfl (by simp [Value.oneCell']) ?_
  rw [World.setRow_alloc_new]
  obtain ⟨W2, gW2⟩ : ∃ x, W1.alloc (.cells #[.int .i64 3, .int .i64 s, .int .i64 n, .int .i64 0, .int .i64 0, .int .i64 0, .int .i64 0, .int .i64 0, .int .i64 0, .int .i64 0, .int .i64 0, .int .i64 0, .int .i64 0, .int .i64 0, .int .i64 0, .int .i64 0, .int .i64 0, .bool false, .string ⟨#[]⟩, .int .i64 0] 53) = x := ⟨_, rfl⟩
  obtain ⟨g2, gg2⟩ : ∃ x, W1.heap.size = x := ⟨_, rfl⟩
  have HN : RowKit.Hid (Whole W2 g2 53 [.int .i64 3, .int .i64 s, .int .i64 n, .int .i64 0, .int .i64 0, .int .i64 0, .int .i64 0, .int .i64 0, .int .i64 0, .int .i64 0, .int .i64 0, .int .i64 0, .int .i64 0, .int .i64 0, .int .i64 0, .int .i64 0, .int .i64 0, .bool false, .string ⟨#[]⟩, .int .i64 0]) := Lib.hid (by rw [← gW2, ← gg2]; exact Whole.new_ W1 _ [.int .i64 3, .int .i64 s, .int .i64 n, .int .i64 0, .int .i64 0, .int .i64 0, .int .i64 0, .int .i64 0, .int .i64 0, .int .i64 0, .int .i64 0, .int .i64 0, .int .i64 0, .int .i64 0, .int .i64 0, .int .i64 0, .int .i64 0, .bool false, .string ⟨#[]⟩, .int .i64 0])
  have HO2 := Lib.hid (show Whole W2 g0 _ _ from gW2 ▸ HO.out.alloc _)
  have HR2 := Lib.hid (show Whole W2 (g0 + 1) _ _ from gW2 ▸ HR.out.alloc _)
  have HB2 := Lib.hid (show Below w.heap.size w W2 from gW2 ▸ HB.out.alloc HB.out.size _)
  have l0 := HO2.out.cell (i := 0) rfl
  have HNE : RowKit.Hid (g0 + 1 ≠ g2) := Lib.hid (by have := HR.out.lt; omega)
  have HOE : RowKit.Hid (¬ g0 = g2) := Lib.hid (by have := HR.out.lt; omega)
  have HG2 : RowKit.Hid (w.heap.size ≤ g2) := Lib.hid (by have := HB.out.size; omega)
  rw [gW2, gg2]
  clear gW2 gg2
  go_upto_region 4 with fail
  have f7 : ∀ w', Kept (fun i => i = g2) W2.drew w' → w'.cell? ⟨g0, 7, none⟩ = some (.int .i64 a0) := fun w' h => h.cell (HO2.out.drew.cell (i := 7) rfl) (fun e => absurd (show g0 = g2 from e) HOE.out)
  have f8 : ∀ w', Kept (fun i => i = g2) W2.drew w' → w'.cell? ⟨g0, 8, none⟩ = some (.int .i64 a1) := fun w' h => h.cell (HO2.out.drew.cell (i := 8) rfl) (fun e => absurd (show g0 = g2 from e) HOE.out)
  have f9 : ∀ w', Kept (fun i => i = g2) W2.drew w' → w'.cell? ⟨g0, 9, none⟩ = some (.int .i64 a2) := fun w' h => h.cell (HO2.out.drew.cell (i := 9) rfl) (fun e => absurd (show g0 = g2 from e) HOE.out)
  have f10 : ∀ w', Kept (fun i => i = g2) W2.drew w' → w'.cell? ⟨g0, 10, none⟩ = some (.int .i64 a3) := fun w' h => h.cell (HO2.out.drew.cell (i := 10) rfl) (fun e => absurd (show g0 = g2 from e) HOE.out)
  have f11 : ∀ w', Kept (fun i => i = g2) W2.drew w' → w'.cell? ⟨g0, 11, none⟩ = some (.int .i64 a4) := fun w' h => h.cell (HO2.out.drew.cell (i := 11) rfl) (fun e => absurd (show g0 = g2 from e) HOE.out)
  have f12 : ∀ w', Kept (fun i => i = g2) W2.drew w' → w'.cell? ⟨g0, 12, none⟩ = some (.int .i64 b0) := fun w' h => h.cell (HO2.out.drew.cell (i := 12) rfl) (fun e => absurd (show g0 = g2 from e) HOE.out)
  have f13 : ∀ w', Kept (fun i => i = g2) W2.drew w' → w'.cell? ⟨g0, 13, none⟩ = some (.int .i64 b1) := fun w' h => h.cell (HO2.out.drew.cell (i := 13) rfl) (fun e => absurd (show g0 = g2 from e) HOE.out)
  have f14 : ∀ w', Kept (fun i => i = g2) W2.drew w' → w'.cell? ⟨g0, 14, none⟩ = some (.int .i64 b2) := fun w' h => h.cell (HO2.out.drew.cell (i := 14) rfl) (fun e => absurd (show g0 = g2 from e) HOE.out)
  have f15 : ∀ w', Kept (fun i => i = g2) W2.drew w' → w'.cell? ⟨g0, 15, none⟩ = some (.int .i64 b3) := fun w' h => h.cell (HO2.out.drew.cell (i := 15) rfl) (fun e => absurd (show g0 = g2 from e) HOE.out)
  have f16 : ∀ w', Kept (fun i => i = g2) W2.drew w' → w'.cell? ⟨g0, 16, none⟩ = some (.int .i64 b4) := fun w' h => h.cell (HO2.out.drew.cell (i := 16) rfl) (fun e => absurd (show g0 = g2 from e) HOE.out)
  have HNs : RowKit.Hid (Whole W2.drew g2 _ _) := Lib.hid HN.out.drew
  have HRs : RowKit.Hid (Whole W2.drew (g0 + 1) _ _) := Lib.hid HR2.out.drew
  have HBs : RowKit.Hid (Below w.heap.size w W2.drew) := Lib.hid HB2.out.drew
  refine wp_region_reg (fun i => i = g2) (by kernel_rfl) ?_
  refine opR_ 0 13 (v := ?_) ?_ ?_; rotate_left
  · intro w' hw'; go_simp; (try with_reducible rfl)
  try simp only [st0_, st1_]
  refine opR_ 1 14 (v := ?_) ?_ ?_; rotate_left
  · intro w' hw'; go_simp; (try with_reducible rfl)
  try simp only [st0_, st1_]
  refine opR_ 2 15 (v := ?_) ?_ ?_; rotate_left
  · intro w' hw'; go_simp; (try with_reducible rfl)
  try simp only [st0_, st1_]
  refine opR_ 3 16 (v := ?_) ?_ ?_; rotate_left
  · intro w' hw'; go_simp; (try with_reducible rfl)
  try simp only [st0_, st1_]
  refine opR_ 4 17 (v := ?_) ?_ ?_; rotate_left
  · intro w' hw'; go_simp; (try with_reducible rfl)
  try simp only [st0_, st1_]
  apply wpR_store 5
  · rfl
  · rfl
  · kernel_rfl
  · rfl
  intro w' hw'
  have HNx := Lib.hid (HNs.out.below hw')
  have HRx := Lib.hid (HRs.out.below hw')
  have HBx := Lib.hid (HBs.out.trans (hw'.mono HBs.out.size))
  have y7 := HNx.out.cell (i := 7) rfl
  have z7 := HNx.out.free 7
  have y8 := HNx.out.cell (i := 8) rfl
  have z8 := HNx.out.free 8
  have y9 := HNx.out.cell (i := 9) rfl
  have z9 := HNx.out.free 9
  have y10 := HNx.out.cell (i := 10) rfl
  have z10 := HNx.out.free 10
  have y11 := HNx.out.cell (i := 11) rfl
  have z11 := HNx.out.free 11
  apply Exists.intro
  apply And.intro
  · go_simp; exact rfl
  apply And.intro
  · exact ((((((Kept.refl (fun i => i = g2) _).setCell (.inl (show g2 = g2 from rfl)) _).setCell (.inl (show g2 = g2 from rfl)) _).setCell (.inl (show g2 = g2 from rfl)) _).setCell (.inl (show g2 = g2 from rfl)) _).setCell (.inl (show g2 = g2 from rfl)) _)
  obtain ⟨V0, gV0⟩ : ∃ x, (((((w').setCell ⟨g2, 7, none⟩ (.int .i64 a0)).setCell ⟨g2, 8, none⟩ (.int .i64 a1)).setCell ⟨g2, 9, none⟩ (.int .i64 a2)).setCell ⟨g2, 10, none⟩ (.int .i64 a3)).setCell ⟨g2, 11, none⟩ (.int .i64 a4) = x := ⟨_, rfl⟩
  have HN0 := Lib.hid (show Whole V0 g2 _ _ from gV0 ▸ (((((HNx.out.set_ 7 _).set_ 8 _).set_ 9 _).set_ 10 _).set_ 11 _))
  have HR0 := Lib.hid (show Whole V0 (g0 + 1) _ _ from gV0 ▸ (((((HRx.out.far (by show g0 + 1 ≠ g2; exact HNE.out) _).far (by show g0 + 1 ≠ g2; exact HNE.out) _).far (by show g0 + 1 ≠ g2; exact HNE.out) _).far (by show g0 + 1 ≠ g2; exact HNE.out) _).far (by show g0 + 1 ≠ g2; exact HNE.out) _))
  have HB0 := Lib.hid (show Below w.heap.size w V0 from gV0 ▸ (((((HBx.out.setCell (by show w.heap.size ≤ g2; exact HG2.out) _).setCell (by show w.heap.size ≤ g2; exact HG2.out) _).setCell (by show w.heap.size ≤ g2; exact HG2.out) _).setCell (by show w.heap.size ≤ g2; exact HG2.out) _).setCell (by show w.heap.size ≤ g2; exact HG2.out) _))
  rw [gV0]
  clear gV0 hw' HNx HRx HBx y7 z7 y8 z8 y9 z9 y10 z10 y11 z11
  try simp only [Act.put, stA_, st0_, st1_]
  refine opR_ 6 18 (v := ?_) ?_ ?_; rotate_left
  · intro w' hw'; go_simp; (try with_reducible rfl)
  try simp only [st0_, st1_]
  apply wpR_store 7
  · rfl
  · rfl
  · kernel_rfl
  · rfl
  intro w' hw'
  have HNx := Lib.hid (HN0.out.below hw')
  have HRx := Lib.hid (HR0.out.below hw')
  have HBx := Lib.hid (HB0.out.trans (hw'.mono HB0.out.size))
  have y12 := HNx.out.cell (i := 12) rfl
  have z12 := HNx.out.free 12
  have y13 := HNx.out.cell (i := 13) rfl
  have z13 := HNx.out.free 13
  have y14 := HNx.out.cell (i := 14) rfl
  have z14 := HNx.out.free 14
  have y15 := HNx.out.cell (i := 15) rfl
  have z15 := HNx.out.free 15
  have y16 := HNx.out.cell (i := 16) rfl
  have z16 := HNx.out.free 16
  apply Exists.intro
  apply And.intro
  · go_simp; exact rfl
  apply And.intro
  · exact ((((((Kept.refl (fun i => i = g2) _).setCell (.inl (show g2 = g2 from rfl)) _).setCell (.inl (show g2 = g2 from rfl)) _).setCell (.inl (show g2 = g2 from rfl)) _).setCell (.inl (show g2 = g2 from rfl)) _).setCell (.inl (show g2 = g2 from rfl)) _)
  obtain ⟨V1, gV1⟩ : ∃ x, (((((w').setCell ⟨g2, 12, none⟩ (.int .i64 b0)).setCell ⟨g2, 13, none⟩ (.int .i64 b1)).setCell ⟨g2, 14, none⟩ (.int .i64 b2)).setCell ⟨g2, 15, none⟩ (.int .i64 b3)).setCell ⟨g2, 16, none⟩ (.int .i64 b4) = x := ⟨_, rfl⟩
  have HN1 := Lib.hid (show Whole V1 g2 _ _ from gV1 ▸ (((((HNx.out.set_ 12 _).set_ 13 _).set_ 14 _).set_ 15 _).set_ 16 _))
  have HR1 := Lib.hid (show Whole V1 (g0 + 1) _ _ from gV1 ▸ (((((HRx.out.far (by show g0 + 1 ≠ g2; exact HNE.out) _).far (by show g0 + 1 ≠ g2; exact HNE.out) _).far (by show g0 + 1 ≠ g2; exact HNE.out) _).far (by show g0 + 1 ≠ g2; exact HNE.out) _).far (by show g0 + 1 ≠ g2; exact HNE.out) _))
  have HB1 := Lib.hid (show Below w.heap.size w V1 from gV1 ▸ (((((HBx.out.setCell (by show w.heap.size ≤ g2; exact HG2.out) _).setCell (by show w.heap.size ≤ g2; exact HG2.out) _).setCell (by show w.heap.size ≤ g2; exact HG2.out) _).setCell (by show w.heap.size ≤ g2; exact HG2.out) _).setCell (by show w.heap.size ≤ g2; exact HG2.out) _))
  rw [gV1]
  clear gV1 hw' HNx HRx HBx y12 z12 y13 z13 y14 z14 y15 z15 y16 z16
  try simp only [Act.put, stA_, st0_, st1_]
  refine wpR_done (by kernel_rfl) ?_ _
  intro W2' hw'
  have HN' := Lib.hid (HN1.out.below hw')
  have HR2' := Lib.hid (HR1.out.below hw')
  have HB2' := Lib.hid (HB1.out.trans (hw'.mono HB1.out.size))
  clear hw'
  go_upto_region 13 with fail
  refine wp_region_lit ?_
  refine wpList_load_row rfl 53 (.tmp 3) rfl g2 rfl 53 #[.int .i64 3, .int .i64 s, .int .i64 n, .int .i64 0, .int .i64 0, .int .i64 0, .int .i64 0, .int .i64 a0, .int .i64 a1, .int .i64 a2, .int .i64 a3, .int .i64 a4, .int .i64 b0, .int .i64 b1, .int .i64 b2, .int .i64 b3, .int .i64 b4, .bool false, .string ⟨#[]⟩, .int .i64 0] (0, 0) _ HN'.out Try.underlying53 rfl (by kernel_rfl) ?_
  simp only [Act.put, stA_, st0_, st1_]
  refine wpList_store_row rfl 53 (.tmp 2) (.tmp 51) rfl (g0 + 1) #[.int .i64 3, .int .i64 s, .int .i64 n, .int .i64 0, .int .i64 0, .int .i64 0, .int .i64 0, .int .i64 a0, .int .i64 a1, .int .i64 a2, .int .i64 a3, .int .i64 a4, .int .i64 b0, .int .i64 b1, .int .i64 b2, .int .i64 b3, .int .i64 b4, .bool false, .string ⟨#[]⟩, .int .i64 0] rfl rfl 53 #[.int .i64 0, .int .i64 0, .int .i64 0, .int .i64 0, .int .i64 0, .int .i64 0, .int .i64 0, .int .i64 0, .int .i64 0, .int .i64 0, .int .i64 0, .int .i64 0, .int .i64 0, .int .i64 0, .int .i64 0, .int .i64 0, .int .i64 0, .bool false, .string ⟨#[]⟩, .int .i64 0] HR2'.out (by kernel_rfl) rfl (by simp [Value.oneCell']) ?_
  have HR3 : RowKit.Hid (Whole (W2'.setRow (g0 + 1) #[.int .i64 3, .int .i64 s, .int .i64 n, .int .i64 0, .int .i64 0, .int .i64 0, .int .i64 0, .int .i64 a0, .int .i64 a1, .int .i64 a2, .int .i64 a3, .int .i64 a4, .int .i64 b0, .int .i64 b1, .int .i64 b2, .int .i64 b3, .int .i64 b4, .bool false, .string ⟨#[]⟩, .int .i64 0]) (g0 + 1) 53 [.int .i64 3, .int .i64 s, .int .i64 n, .int .i64 0, .int .i64 0, .int .i64 0, .int .i64 0, .int .i64 a0, .int .i64 a1, .int .i64 a2, .int .i64 a3, .int .i64 a4, .int .i64 b0, .int .i64 b1, .int .i64 b2, .int .i64 b3, .int .i64 b4, .bool false, .string ⟨#[]⟩, .int .i64 0]) := Lib.hid (setRow_heap W2' (g0 + 1) _ _ _ _ HR2'.out)
  have HB3 : RowKit.Hid (Below w.heap.size w (W2'.setRow (g0 + 1) #[.int .i64 3, .int .i64 s, .int .i64 n, .int .i64 0, .int .i64 0, .int .i64 0, .int .i64 0, .int .i64 a0, .int .i64 a1, .int .i64 a2, .int .i64 a3, .int .i64 a4, .int .i64 b0, .int .i64 b1, .int .i64 b2, .int .i64 b3, .int .i64 b4, .bool false, .string ⟨#[]⟩, .int .i64 0])) := Lib.hid ⟨HB2'.out.os, HB2'.out.tape, HB2'.out.output, (by have := HB2'.out.size; simpa [World.setRow] using this), fun i hi => (setRow_other W2' (g0 + 1) i _ (by have := HG0.out; omega)).trans (HB2'.out.block i hi)⟩
  obtain ⟨W3, gW3⟩ : ∃ x, W2'.setRow (g0 + 1) #[.int .i64 3, .int .i64 s, .int .i64 n, .int .i64 0, .int .i64 0, .int .i64 0, .int .i64 0, .int .i64 a0, .int .i64 a1, .int .i64 a2, .int .i64 a3, .int .i64 a4, .int .i64 b0, .int .i64 b1, .int .i64 b2, .int .i64 b3, .int .i64 b4, .bool false, .string ⟨#[]⟩, .int .i64 0] = x := ⟨_, rfl⟩
  rw [gW3] at HR3 HB3 ⊢
  clear gW3
  go_wp2
  exact bodyPost_ret (v := .agg #[.int .i64 3, .int .i64 s, .int .i64 n, .int .i64 0, .int .i64 0, .int .i64 0, .int .i64 0, .int .i64 a0, .int .i64 a1, .int .i64 a2, .int .i64 a3, .int .i64 a4, .int .i64 b0, .int .i64 b1, .int .i64 b2, .int .i64 b3, .int .i64 b4, .bool false, .string ⟨#[]⟩, .int .i64 0]) (results_cell_row Try.results80 _ W3 (g0 + 1) 53 #[.int .i64 3, .int .i64 s, .int .i64 n, .int .i64 0, .int .i64 0, .int .i64 0, .int .i64 0, .int .i64 a0, .int .i64 a1, .int .i64 a2, .int .i64 a3, .int .i64 a4, .int .i64 b0, .int .i64 b1, .int .i64 b2, .int .i64 b3, .int .i64 b4, .bool false, .string ⟨#[]⟩, .int .i64 0] (0, 0) _ (by rfl) HR3.out Try.underlying53 rfl (by kernel_rfl)) rfl ⟨rfl, HB3.out⟩
set_option maxRecDepth 100000 in
set_option maxHeartbeats 2000000 in
theorem only_5 (s n s1 n1 s2 n2 a0 a1 a2 a3 a4 b0 b1 b2 b3 b4 : Int) (e : Bool) (t : ByteArray) (m : Int) : Pure 80 #[.agg #[.int .i64 5, .int .i64 s, .int .i64 n, .int .i64 s1, .int .i64 n1, .int .i64 s2, .int .i64 n2, .int .i64 a0, .int .i64 a1, .int .i64 a2, .int .i64 a3, .int .i64 a4, .int .i64 b0, .int .i64 b1, .int .i64 b2, .int .i64 b3, .int .i64 b4, .bool e, .string t, .int .i64 m]] (.agg #[.int .i64 5, .int .i64 s, .int .i64 n, .int .i64 s1, .int .i64 n1, .int .i64 s2, .int .i64 n2, .int .i64 0, .int .i64 0, .int .i64 0, .int .i64 0, .int .i64 0, .int .i64 0, .int .i64 0, .int .i64 0, .int .i64 0, .int .i64 0, .bool false, .string ⟨#[]⟩, .int .i64 m]) := fun w => by
  go_enter Try.func80, Try.ntmps80
  go_upto_region 1 with fail
  obtain ⟨W1, gW1⟩ : ∃ x, (w.alloc (.cells #[.int .i64 5, .int .i64 s, .int .i64 n, .int .i64 s1, .int .i64 n1, .int .i64 s2, .int .i64 n2, .int .i64 a0, .int .i64 a1, .int .i64 a2, .int .i64 a3, .int .i64 a4, .int .i64 b0, .int .i64 b1, .int .i64 b2, .int .i64 b3, .int .i64 b4, .bool e, .string t, .int .i64 m] 53)).alloc (.cells #[.int .i64 0, .int .i64 0, .int .i64 0, .int .i64 0, .int .i64 0, .int .i64 0, .int .i64 0, .int .i64 0, .int .i64 0, .int .i64 0, .int .i64 0, .int .i64 0, .int .i64 0, .int .i64 0, .int .i64 0, .int .i64 0, .int .i64 0, .bool false, .string ⟨#[]⟩, .int .i64 0] 53) = x := ⟨_, rfl⟩
  have hO : Whole W1 w.heap.size 53 [.int .i64 5, .int .i64 s, .int .i64 n, .int .i64 s1, .int .i64 n1, .int .i64 s2, .int .i64 n2, .int .i64 a0, .int .i64 a1, .int .i64 a2, .int .i64 a3, .int .i64 a4, .int .i64 b0, .int .i64 b1, .int .i64 b2, .int .i64 b3, .int .i64 b4, .bool e, .string t, .int .i64 m] := by rw [← gW1]; exact (Whole.new_ w _ [.int .i64 5, .int .i64 s, .int .i64 n, .int .i64 s1, .int .i64 n1, .int .i64 s2, .int .i64 n2, .int .i64 a0, .int .i64 a1, .int .i64 a2, .int .i64 a3, .int .i64 a4, .int .i64 b0, .int .i64 b1, .int .i64 b2, .int .i64 b3, .int .i64 b4, .bool e, .string t, .int .i64 m]).alloc _
  have hR : Whole W1 (w.heap.size + 1) 53 [.int .i64 0, .int .i64 0, .int .i64 0, .int .i64 0, .int .i64 0, .int .i64 0, .int .i64 0, .int .i64 0, .int .i64 0, .int .i64 0, .int .i64 0, .int .i64 0, .int .i64 0, .int .i64 0, .int .i64 0, .int .i64 0, .int .i64 0, .bool false, .string ⟨#[]⟩, .int .i64 0] := by rw [← gW1]; exact Whole.new2 (cs := [.int .i64 0, .int .i64 0, .int .i64 0, .int .i64 0, .int .i64 0, .int .i64 0, .int .i64 0, .int .i64 0, .int .i64 0, .int .i64 0, .int .i64 0, .int .i64 0, .int .i64 0, .int .i64 0, .int .i64 0, .int .i64 0, .int .i64 0, .bool false, .string ⟨#[]⟩, .int .i64 0]) (by simp)
  have hB : Below w.heap.size w W1 := by rw [← gW1]; exact below2 _ _ _
  rw [gW1]
  clear gW1
  have HO := Lib.hid hO
  have HR := Lib.hid hR
  have HB := Lib.hid hB
  have l0 := hO.cell (i := 0) rfl
  have l1 := hO.cell (i := 1) rfl
  have l2 := hO.cell (i := 2) rfl
  clear hO hR hB
  obtain ⟨g0, gg0⟩ : ∃ x, w.heap.size = x := ⟨_, rfl⟩
  rw [gg0] at HO HR l0 l1 l2 ⊢
  have HG0 : RowKit.Hid (w.heap.size ≤ g0) := Lib.hid (by omega)
  clear gg0
  refine wp_region_lit ?_
  refine wpList_readTo rfl (some 4) rfl ?_ ?_ ?_
  rotate_left
  · go_simp; exact rfl
  simp only [Act.put, stA_, st0_, st1_]
  refine wpList_readTo rfl (some 5) rfl ?_ ?_ ?_
  rotate_left
  · go_simp; exact rfl
  simp only [Act.put, stA_, st0_, st1_]
  refine wpList_readTo rfl (some 6) rfl ?_ ?_ ?_
  rotate_left
  · go_simp; exact rfl
  simp only [Act.put, stA_, st0_, st1_]
  refine wpList_readTo rfl (some 7) rfl ?_ ?_ ?_
  rotate_left
  · go_simp; exact rfl
  simp only [Act.put, stA_, st0_, st1_]
  refine wpList_readTo rfl (some 8) rfl ?_ ?_ ?_
  rotate_left
  · go_simp; exact rfl
  simp only [Act.put, stA_, st0_, st1_]
  refine wpList_allocTo rfl (some 3) rfl ?_ (.cells #[.int .i64 0, .int .i64 0, .int .i64 0, .int .i64 0, .int .i64 0, .int .i64 0, .int .i64 0, .int .i64 0, .int .i64 0, .int .i64 0, .int .i64 0, .int .i64 0, .int .i64 0, .int .i64 0, .int .i64 0, .int .i64 0, .int .i64 0, .bool false, .string ⟨#[]⟩, .int .i64 0] 53) ?_ ?_
  rotate_left
  · go_simp; exact rfl
  simp only [Act.put, stA_, st0_, st1_]
  refine wpList_store_row rfl 53 (.tmp 3) (.tmp 8) rfl W1.heap.size #[.int .i64 5, .int .i64 s, .int .i64 n, .int .i64 0, .int .i64 0, .int .i64 0, .int .i64 0, .int .i64 0, .int .i64 0, .int .i64 0, .int .i64 0, .int .i64 0, .int .i64 0, .int .i64 0, .int .i64 0, .int .i64 0, .int .i64 0, .bool false, .string ⟨#[]⟩, .int .i64 0] rfl rfl 53 #[.int .i64 0, .int .i64 0, .int .i64 0, .int .i64 0, .int .i64 0, .int .i64 0, .int .i64 0, .int .i64 0, .int .i64 0, .int .i64 0, .int .i64 0, .int .i64 0, .int .i64 0, .int .i64 0, .int .i64 0, .int .i64 0, .int .i64 0, .bool false, .string ⟨#[]⟩, .int .i64 0] (heap_alloc_last _ _) (by kernel_rfl) rfl (by simp [Value.oneCell']) ?_
  rw [World.setRow_alloc_new]
  obtain ⟨W2, gW2⟩ : ∃ x, W1.alloc (.cells #[.int .i64 5, .int .i64 s, .int .i64 n, .int .i64 0, .int .i64 0, .int .i64 0, .int .i64 0, .int .i64 0, .int .i64 0, .int .i64 0, .int .i64 0, .int .i64 0, .int .i64 0, .int .i64 0, .int .i64 0, .int .i64 0, .int .i64 0, .bool false, .string ⟨#[]⟩, .int .i64 0] 53) = x := ⟨_, rfl⟩
  obtain ⟨g2, gg2⟩ : ∃ x, W1.heap.size = x := ⟨_, rfl⟩
  have HN : RowKit.Hid (Whole W2 g2 53 [.int .i64 5, .int .i64 s, .int .i64 n, .int .i64 0, .int .i64 0, .int .i64 0, .int .i64 0, .int .i64 0, .int .i64 0, .int .i64 0, .int .i64 0, .int .i64 0, .int .i64 0, .int .i64 0, .int .i64 0, .int .i64 0, .int .i64 0, .bool false, .string ⟨#[]⟩, .int .i64 0]) := Lib.hid (by rw [← gW2, ← gg2]; exact Whole.new_ W1 _ [.int .i64 5, .int .i64 s, .int .i64 n, .int .i64 0, .int .i64 0, .int .i64 0, .int .i64 0, .int .i64 0, .int .i64 0, .int .i64 0, .int .i64 0, .int .i64 0, .int .i64 0, .int .i64 0, .int .i64 0, .int .i64 0, .int .i64 0, .bool false, .string ⟨#[]⟩, .int .i64 0])
  have HO2 := Lib.hid (show Whole W2 g0 _ _ from gW2 ▸ HO.out.alloc _)
  have HR2 := Lib.hid (show Whole W2 (g0 + 1) _ _ from gW2 ▸ HR.out.alloc _)
  have HB2 := Lib.hid (show Below w.heap.size w W2 from gW2 ▸ HB.out.alloc HB.out.size _)
  have l0 := HO2.out.cell (i := 0) rfl
  have HNE : RowKit.Hid (g0 + 1 ≠ g2) := Lib.hid (by have := HR.out.lt; omega)
  have HOE : RowKit.Hid (¬ g0 = g2) := Lib.hid (by have := HR.out.lt; omega)
  have HG2 : RowKit.Hid (w.heap.size ≤ g2) := Lib.hid (by have := HB.out.size; omega)
  rw [gW2, gg2]
  clear gW2 gg2
  go_upto_region 6 with fail
  have f3 : ∀ w', Kept (fun i => i = g2) W2.drew w' → w'.cell? ⟨g0, 3, none⟩ = some (.int .i64 s1) := fun w' h => h.cell (HO2.out.drew.cell (i := 3) rfl) (fun e => absurd (show g0 = g2 from e) HOE.out)
  have f4 : ∀ w', Kept (fun i => i = g2) W2.drew w' → w'.cell? ⟨g0, 4, none⟩ = some (.int .i64 n1) := fun w' h => h.cell (HO2.out.drew.cell (i := 4) rfl) (fun e => absurd (show g0 = g2 from e) HOE.out)
  have f5 : ∀ w', Kept (fun i => i = g2) W2.drew w' → w'.cell? ⟨g0, 5, none⟩ = some (.int .i64 s2) := fun w' h => h.cell (HO2.out.drew.cell (i := 5) rfl) (fun e => absurd (show g0 = g2 from e) HOE.out)
  have f6 : ∀ w', Kept (fun i => i = g2) W2.drew w' → w'.cell? ⟨g0, 6, none⟩ = some (.int .i64 n2) := fun w' h => h.cell (HO2.out.drew.cell (i := 6) rfl) (fun e => absurd (show g0 = g2 from e) HOE.out)
  have f19 : ∀ w', Kept (fun i => i = g2) W2.drew w' → w'.cell? ⟨g0, 19, none⟩ = some (.int .i64 m) := fun w' h => h.cell (HO2.out.drew.cell (i := 19) rfl) (fun e => absurd (show g0 = g2 from e) HOE.out)
  have HNs : RowKit.Hid (Whole W2.drew g2 _ _) := Lib.hid HN.out.drew
  have HRs : RowKit.Hid (Whole W2.drew (g0 + 1) _ _) := Lib.hid HR2.out.drew
  have HBs : RowKit.Hid (Below w.heap.size w W2.drew) := Lib.hid HB2.out.drew
  refine wp_region_reg (fun i => i = g2) (by kernel_rfl) ?_
  refine opR_ 0 21 (v := ?_) ?_ ?_; rotate_left
  · intro w' hw'; go_simp; (try with_reducible rfl)
  try simp only [st0_, st1_]
  refine opR_ 1 22 (v := ?_) ?_ ?_; rotate_left
  · intro w' hw'; go_simp; (try with_reducible rfl)
  try simp only [st0_, st1_]
  refine opR_ 2 23 (v := ?_) ?_ ?_; rotate_left
  · intro w' hw'; go_simp; (try with_reducible rfl)
  try simp only [st0_, st1_]
  refine opR_ 3 24 (v := ?_) ?_ ?_; rotate_left
  · intro w' hw'; go_simp; (try with_reducible rfl)
  try simp only [st0_, st1_]
  refine opR_ 4 25 (v := ?_) ?_ ?_; rotate_left
  · intro w' hw'; go_simp; (try with_reducible rfl)
  try simp only [st0_, st1_]
  refine opR_ 5 26 (v := ?_) ?_ ?_; rotate_left
  · intro w' hw'; go_simp; (try with_reducible rfl)
  try simp only [st0_, st1_]
  refine opR_ 6 27 (v := ?_) ?_ ?_; rotate_left
  · intro w' hw'; go_simp; (try with_reducible rfl)
  try simp only [st0_, st1_]
  apply wpR_store 7
  · rfl
  · rfl
  · kernel_rfl
  · rfl
  intro w' hw'
  have HNx := Lib.hid (HNs.out.below hw')
  have HRx := Lib.hid (HRs.out.below hw')
  have HBx := Lib.hid (HBs.out.trans (hw'.mono HBs.out.size))
  have y3 := HNx.out.cell (i := 3) rfl
  have z3 := HNx.out.free 3
  have y4 := HNx.out.cell (i := 4) rfl
  have z4 := HNx.out.free 4
  apply Exists.intro
  apply And.intro
  · go_simp; exact rfl
  apply And.intro
  · exact (((Kept.refl (fun i => i = g2) _).setCell (.inl (show g2 = g2 from rfl)) _).setCell (.inl (show g2 = g2 from rfl)) _)
  obtain ⟨V0, gV0⟩ : ∃ x, ((w').setCell ⟨g2, 3, none⟩ (.int .i64 s1)).setCell ⟨g2, 4, none⟩ (.int .i64 n1) = x := ⟨_, rfl⟩
  have HN0 := Lib.hid (show Whole V0 g2 _ _ from gV0 ▸ ((HNx.out.set_ 3 _).set_ 4 _))
  have HR0 := Lib.hid (show Whole V0 (g0 + 1) _ _ from gV0 ▸ ((HRx.out.far (by show g0 + 1 ≠ g2; exact HNE.out) _).far (by show g0 + 1 ≠ g2; exact HNE.out) _))
  have HB0 := Lib.hid (show Below w.heap.size w V0 from gV0 ▸ ((HBx.out.setCell (by show w.heap.size ≤ g2; exact HG2.out) _).setCell (by show w.heap.size ≤ g2; exact HG2.out) _))
  rw [gV0]
  clear gV0 hw' HNx HRx HBx y3 z3 y4 z4
  try simp only [Act.put, stA_, st0_, st1_]
  refine opR_ 8 28 (v := ?_) ?_ ?_; rotate_left
  · intro w' hw'; go_simp; (try with_reducible rfl)
  try simp only [st0_, st1_]
  apply wpR_store 9
  · rfl
  · rfl
  · kernel_rfl
  · rfl
  intro w' hw'
  have HNx := Lib.hid (HN0.out.below hw')
  have HRx := Lib.hid (HR0.out.below hw')
  have HBx := Lib.hid (HB0.out.trans (hw'.mono HB0.out.size))
  have y5 := HNx.out.cell (i := 5) rfl
  have z5 := HNx.out.free 5
  have y6 := HNx.out.cell (i := 6) rfl
  have z6 := HNx.out.free 6
  apply Exists.intro
  apply And.intro
  · go_simp; exact rfl
  apply And.intro
  · exact (((Kept.refl (fun i => i = g2) _).setCell (.inl (show g2 = g2 from rfl)) _).setCell (.inl (show g2 = g2 from rfl)) _)
  obtain ⟨V1, gV1⟩ : ∃ x, ((w').setCell ⟨g2, 5, none⟩ (.int .i64 s2)).setCell ⟨g2, 6, none⟩ (.int .i64 n2) = x := ⟨_, rfl⟩
  have HN1 := Lib.hid (show Whole V1 g2 _ _ from gV1 ▸ ((HNx.out.set_ 5 _).set_ 6 _))
  have HR1 := Lib.hid (show Whole V1 (g0 + 1) _ _ from gV1 ▸ ((HRx.out.far (by show g0 + 1 ≠ g2; exact HNE.out) _).far (by show g0 + 1 ≠ g2; exact HNE.out) _))
  have HB1 := Lib.hid (show Below w.heap.size w V1 from gV1 ▸ ((HBx.out.setCell (by show w.heap.size ≤ g2; exact HG2.out) _).setCell (by show w.heap.size ≤ g2; exact HG2.out) _))
  rw [gV1]
  clear gV1 hw' HNx HRx HBx y5 z5 y6 z6
  try simp only [Act.put, stA_, st0_, st1_]
  refine opR_ 10 29 (v := ?_) ?_ ?_; rotate_left
  · intro w' hw'; go_simp; (try with_reducible rfl)
  try simp only [st0_, st1_]
  apply wpR_store 11
  · rfl
  · rfl
  · kernel_rfl
  · rfl
  intro w' hw'
  have HNx := Lib.hid (HN1.out.below hw')
  have HRx := Lib.hid (HR1.out.below hw')
  have HBx := Lib.hid (HB1.out.trans (hw'.mono HB1.out.size))
  have y19 := HNx.out.cell (i := 19) rfl
  have z19 := HNx.out.free 19
  apply Exists.intro
  apply And.intro
  · go_simp; exact rfl
  apply And.intro
  · exact ((Kept.refl (fun i => i = g2) _).setCell (.inl (show g2 = g2 from rfl)) _)
  obtain ⟨V2, gV2⟩ : ∃ x, (w').setCell ⟨g2, 19, none⟩ (.int .i64 m) = x := ⟨_, rfl⟩
  have HN2 := Lib.hid (show Whole V2 g2 _ _ from gV2 ▸ (HNx.out.set_ 19 _))
  have HR2 := Lib.hid (show Whole V2 (g0 + 1) _ _ from gV2 ▸ (HRx.out.far (by show g0 + 1 ≠ g2; exact HNE.out) _))
  have HB2 := Lib.hid (show Below w.heap.size w V2 from gV2 ▸ (HBx.out.setCell (by show w.heap.size ≤ g2; exact HG2.out) _))
  rw [gV2]
  clear gV2 hw' HNx HRx HBx y19 z19
  try simp only [Act.put, stA_, st0_, st1_]
  refine wpR_done (by kernel_rfl) ?_ _
  intro W2' hw'
  have HN' := Lib.hid (HN2.out.below hw')
  have HR2' := Lib.hid (HR2.out.below hw')
  have HB2' := Lib.hid (HB2.out.trans (hw'.mono HB2.out.size))
  clear hw'
  go_upto_region 13 with fail
  refine wp_region_lit ?_
  refine wpList_load_row rfl 53 (.tmp 3) rfl g2 rfl 53 #[.int .i64 5, .int .i64 s, .int .i64 n, .int .i64 s1, .int .i64 n1, .int .i64 s2, .int .i64 n2, .int .i64 0, .int .i64 0, .int .i64 0, .int .i64 0, .int .i64 0, .int .i64 0, .int .i64 0, .int .i64 0, .int .i64 0, .int .i64 0, .bool false, .string ⟨#[]⟩, .int .i64 m] (0, 0) _ HN'.out Try.underlying53 rfl (by kernel_rfl) ?_
  simp only [Act.put, stA_, st0_, st1_]
  refine wpList_store_row rfl 53 (.tmp 2) (.tmp 51) rfl (g0 + 1) #[.int .i64 5, .int .i64 s, .int .i64 n, .int .i64 s1, .int .i64 n1, .int .i64 s2, .int .i64 n2, .int .i64 0, .int .i64 0, .int .i64 0, .int .i64 0, .int .i64 0, .int .i64 0, .int .i64 0, .int .i64 0, .int .i64 0, .int .i64 0, .bool false, .string ⟨#[]⟩, .int .i64 m] rfl rfl 53 #[.int .i64 0, .int .i64 0, .int .i64 0, .int .i64 0, .int .i64 0, .int .i64 0, .int .i64 0, .int .i64 0, .int .i64 0, .int .i64 0, .int .i64 0, .int .i64 0, .int .i64 0, .int .i64 0, .int .i64 0, .int .i64 0, .int .i64 0, .bool false, .string ⟨#[]⟩, .int .i64 0] HR2'.out (by kernel_rfl) rfl (by simp [Value.oneCell']) ?_
  have HR3 : RowKit.Hid (Whole (W2'.setRow (g0 + 1) #[.int .i64 5, .int .i64 s, .int .i64 n, .int .i64 s1, .int .i64 n1, .int .i64 s2, .int .i64 n2, .int .i64 0, .int .i64 0, .int .i64 0, .int .i64 0, .int .i64 0, .int .i64 0, .int .i64 0, .int .i64 0, .int .i64 0, .int .i64 0, .bool false, .string ⟨#[]⟩, .int .i64 m]) (g0 + 1) 53 [.int .i64 5, .int .i64 s, .int .i64 n, .int .i64 s1, .int .i64 n1, .int .i64 s2, .int .i64 n2, .int .i64 0, .int .i64 0, .int .i64 0, .int .i64 0, .int .i64 0, .int .i64 0, .int .i64 0, .int .i64 0, .int .i64 0, .int .i64 0, .bool false, .string ⟨#[]⟩, .int .i64 m]) := Lib.hid (setRow_heap W2' (g0 + 1) _ _ _ _ HR2'.out)
  have HB3 : RowKit.Hid (Below w.heap.size w (W2'.setRow (g0 + 1) #[.int .i64 5, .int .i64 s, .int .i64 n, .int .i64 s1, .int .i64 n1, .int .i64 s2, .int .i64 n2, .int .i64 0, .int .i64 0, .int .i64 0, .int .i64 0, .int .i64 0, .int .i64 0, .int .i64 0, .int .i64 0, .int .i64 0, .int .i64 0, .bool false, .string ⟨#[]⟩, .int .i64 m])) := Lib.hid ⟨HB2'.out.os, HB2'.out.tape, HB2'.out.output, (by have := HB2'.out.size; simpa [World.setRow] using this), fun i hi => (setRow_other W2' (g0 + 1) i _ (by have := HG0.out; omega)).trans (HB2'.out.block i hi)⟩
  obtain ⟨W3, gW3⟩ : ∃ x, W2'.setRow (g0 + 1) #[.int .i64 5, .int .i64 s, .int .i64 n, .int .i64 s1, .int .i64 n1, .int .i64 s2, .int .i64 n2, .int .i64 0, .int .i64 0, .int .i64 0, .int .i64 0, .int .i64 0, .int .i64 0, .int .i64 0, .int .i64 0, .int .i64 0, .int .i64 0, .bool false, .string ⟨#[]⟩, .int .i64 m] = x := ⟨_, rfl⟩
  rw [gW3] at HR3 HB3 ⊢
  clear gW3
  go_wp2
  exact bodyPost_ret (v := .agg #[.int .i64 5, .int .i64 s, .int .i64 n, .int .i64 s1, .int .i64 n1, .int .i64 s2, .int .i64 n2, .int .i64 0, .int .i64 0, .int .i64 0, .int .i64 0, .int .i64 0, .int .i64 0, .int .i64 0, .int .i64 0, .int .i64 0, .int .i64 0, .bool false, .string ⟨#[]⟩, .int .i64 m]) (results_cell_row Try.results80 _ W3 (g0 + 1) 53 #[.int .i64 5, .int .i64 s, .int .i64 n, .int .i64 s1, .int .i64 n1, .int .i64 s2, .int .i64 n2, .int .i64 0, .int .i64 0, .int .i64 0, .int .i64 0, .int .i64 0, .int .i64 0, .int .i64 0, .int .i64 0, .int .i64 0, .int .i64 0, .bool false, .string ⟨#[]⟩, .int .i64 m] (0, 0) _ (by rfl) HR3.out Try.underlying53 rfl (by kernel_rfl)) rfl ⟨rfl, HB3.out⟩
set_option maxRecDepth 100000 in
set_option maxHeartbeats 2000000 in
theorem only_7 (s n s1 n1 s2 n2 a0 a1 a2 a3 a4 b0 b1 b2 b3 b4 : Int) (e : Bool) (t : ByteArray) (m : Int) : Pure 80 #[.agg #[.int .i64 7, .int .i64 s, .int .i64 n, .int .i64 s1, .int .i64 n1, .int .i64 s2, .int .i64 n2, .int .i64 a0, .int .i64 a1, .int .i64 a2, .int .i64 a3, .int .i64 a4, .int .i64 b0, .int .i64 b1, .int .i64 b2, .int .i64 b3, .int .i64 b4, .bool e, .string t, .int .i64 m]] (.agg #[.int .i64 7, .int .i64 s, .int .i64 n, .int .i64 0, .int .i64 0, .int .i64 0, .int .i64 0, .int .i64 0, .int .i64 0, .int .i64 0, .int .i64 0, .int .i64 0, .int .i64 0, .int .i64 0, .int .i64 0, .int .i64 0, .int .i64 0, .bool e, .string t, .int .i64 0]) := fun w => by
  go_enter Try.func80, Try.ntmps80
  go_upto_region 1 with fail
  obtain ⟨W1, gW1⟩ : ∃ x, (w.alloc (.cells #[.int .i64 7, .int .i64 s, .int .i64 n, .int .i64 s1, .int .i64 n1, .int .i64 s2, .int .i64 n2, .int .i64 a0, .int .i64 a1, .int .i64 a2, .int .i64 a3, .int .i64 a4, .int .i64 b0, .int .i64 b1, .int .i64 b2, .int .i64 b3, .int .i64 b4, .bool e, .string t, .int .i64 m] 53)).alloc (.cells #[.int .i64 0, .int .i64 0, .int .i64 0, .int .i64 0, .int .i64 0, .int .i64 0, .int .i64 0, .int .i64 0, .int .i64 0, .int .i64 0, .int .i64 0, .int .i64 0, .int .i64 0, .int .i64 0, .int .i64 0, .int .i64 0, .int .i64 0, .bool false, .string ⟨#[]⟩, .int .i64 0] 53) = x := ⟨_, rfl⟩
  have hO : Whole W1 w.heap.size 53 [.int .i64 7, .int .i64 s, .int .i64 n, .int .i64 s1, .int .i64 n1, .int .i64 s2, .int .i64 n2, .int .i64 a0, .int .i64 a1, .int .i64 a2, .int .i64 a3, .int .i64 a4, .int .i64 b0, .int .i64 b1, .int .i64 b2, .int .i64 b3, .int .i64 b4, .bool e, .string t, .int .i64 m] := by rw [← gW1]; exact (Whole.new_ w _ [.int .i64 7, .int .i64 s, .int .i64 n, .int .i64 s1, .int .i64 n1, .int .i64 s2, .int .i64 n2, .int .i64 a0, .int .i64 a1, .int .i64 a2, .int .i64 a3, .int .i64 a4, .int .i64 b0, .int .i64 b1, .int .i64 b2, .int .i64 b3, .int .i64 b4, .bool e, .string t, .int .i64 m]).alloc _
  have hR : Whole W1 (w.heap.size + 1) 53 [.int .i64 0, .int .i64 0, .int .i64 0, .int .i64 0, .int .i64 0, .int .i64 0, .int .i64 0, .int .i64 0, .int .i64 0, .int .i64 0, .int .i64 0, .int .i64 0, .int .i64 0, .int .i64 0, .int .i64 0, .int .i64 0, .int .i64 0, .bool false, .string ⟨#[]⟩, .int .i64 0] := by rw [← gW1]; exact Whole.new2 (cs := [.int .i64 0, .int .i64 0, .int .i64 0, .int .i64 0, .int .i64 0, .int .i64 0, .int .i64 0, .int .i64 0, .int .i64 0, .int .i64 0, .int .i64 0, .int .i64 0, .int .i64 0, .int .i64 0, .int .i64 0, .int .i64 0, .int .i64 0, .bool false, .string ⟨#[]⟩, .int .i64 0]) (by simp)
  have hB : Below w.heap.size w W1 := by rw [← gW1]; exact below2 _ _ _
  rw [gW1]
  clear gW1
  have HO := Lib.hid hO
  have HR := Lib.hid hR
  have HB := Lib.hid hB
  have l0 := hO.cell (i := 0) rfl
  have l1 := hO.cell (i := 1) rfl
  have l2 := hO.cell (i := 2) rfl
  clear hO hR hB
  obtain ⟨g0, gg0⟩ : ∃ x, w.heap.size = x := ⟨_, rfl⟩
  rw [gg0] at HO HR l0 l1 l2 ⊢
  have HG0 : RowKit.Hid (w.heap.size ≤ g0) := Lib.hid (by omega)
  clear gg0
  refine wp_region_lit ?_
  refine wpList_readTo rfl (some 4) rfl ?_ ?_ ?_
  rotate_left
  · go_simp; exact rfl
  simp only [Act.put, stA_, st0_, st1_]
  refine wpList_readTo rfl (some 5) rfl ?_ ?_ ?_
  rotate_left
  · go_simp; exact rfl
  simp only [Act.put, stA_, st0_, st1_]
  refine wpList_readTo rfl (some 6) rfl ?_ ?_ ?_
  rotate_left
  · go_simp; exact rfl
  simp only [Act.put, stA_, st0_, st1_]
  refine wpList_readTo rfl (some 7) rfl ?_ ?_ ?_
  rotate_left
  · go_simp; exact rfl
  simp only [Act.put, stA_, st0_, st1_]
  refine wpList_readTo rfl (some 8) rfl ?_ ?_ ?_
  rotate_left
  · go_simp; exact rfl
  simp only [Act.put, stA_, st0_, st1_]
  refine wpList_allocTo rfl (some 3) rfl ?_ (.cells #[.int .i64 0, .int .i64 0, .int .i64 0, .int .i64 0, .int .i64 0, .int .i64 0, .int .i64 0, .int .i64 0, .int .i64 0, .int .i64 0, .int .i64 0, .int .i64 0, .int .i64 0, .int .i64 0, .int .i64 0, .int .i64 0, .int .i64 0, .bool false, .string ⟨#[]⟩, .int .i64 0] 53) ?_ ?_
  rotate_left
  · go_simp; exact rfl
  simp only [Act.put, stA_, st0_, st1_]
  refine wpList_store_row rfl 53 (.tmp 3) (.tmp 8) rfl W1.heap.size #[.int .i64 7, .int .i64 s, .int .i64 n, .int .i64 0, .int .i64 0, .int .i64 0, .int .i64 0, .int .i64 0, .int .i64 0, .int .i64 0, .int .i64 0, .int .i64 0, .int .i64 0, .int .i64 0, .int .i64 0, .int .i64 0, .int .i64 0, .bool false, .string ⟨#[]⟩, .int .i64 0] rfl rfl 53 #[.int .i64 0, .int .i64 0, .int .i64 0, .int .i64 0, .int .i64 0, .int .i64 0, .int .i64 0, .int .i64 0, .int .i64 0, .int .i64 0, .int .i64 0, .int .i64 0, .int .i64 0, .int .i64 0, .int .i64 0, .int .i64 0, .int .i64 0, .bool false, .string ⟨#[]⟩, .int .i64 0] (heap_alloc_last _ _) (by kernel_rfl) rfl (by simp [Value.oneCell']) ?_
  rw [World.setRow_alloc_new]
  obtain ⟨W2, gW2⟩ : ∃ x, W1.alloc (.cells #[.int .i64 7, .int .i64 s, .int .i64 n, .int .i64 0, .int .i64 0, .int .i64 0, .int .i64 0, .int .i64 0, .int .i64 0, .int .i64 0, .int .i64 0, .int .i64 0, .int .i64 0, .int .i64 0, .int .i64 0, .int .i64 0, .int .i64 0, .bool false, .string ⟨#[]⟩, .int .i64 0] 53) = x := ⟨_, rfl⟩
  obtain ⟨g2, gg2⟩ : ∃ x, W1.heap.size = x := ⟨_, rfl⟩
  have HN : RowKit.Hid (Whole W2 g2 53 [.int .i64 7, .int .i64 s, .int .i64 n, .int .i64 0, .int .i64 0, .int .i64 0, .int .i64 0, .int .i64 0, .int .i64 0, .int .i64 0, .int .i64 0, .int .i64 0, .int .i64 0, .int .i64 0, .int .i64 0, .int .i64 0, .int .i64 0, .bool false, .string ⟨#[]⟩, .int .i64 0]) := Lib.hid (by rw [← gW2, ← gg2]; exact Whole.new_ W1 _ [.int .i64 7, .int .i64 s, .int .i64 n, .int .i64 0, .int .i64 0, .int .i64 0, .int .i64 0, .int .i64 0, .int .i64 0, .int .i64 0, .int .i64 0, .int .i64 0, .int .i64 0, .int .i64 0, .int .i64 0, .int .i64 0, .int .i64 0, .bool false, .string ⟨#[]⟩, .int .i64 0])
  have HO2 := Lib.hid (show Whole W2 g0 _ _ from gW2 ▸ HO.out.alloc _)
  have HR2 := Lib.hid (show Whole W2 (g0 + 1) _ _ from gW2 ▸ HR.out.alloc _)
  have HB2 := Lib.hid (show Below w.heap.size w W2 from gW2 ▸ HB.out.alloc HB.out.size _)
  have l0 := HO2.out.cell (i := 0) rfl
  have HNE : RowKit.Hid (g0 + 1 ≠ g2) := Lib.hid (by have := HR.out.lt; omega)
  have HOE : RowKit.Hid (¬ g0 = g2) := Lib.hid (by have := HR.out.lt; omega)
  have HG2 : RowKit.Hid (w.heap.size ≤ g2) := Lib.hid (by have := HB.out.size; omega)
  rw [gW2, gg2]
  clear gW2 gg2
  go_upto_region 10 with fail
  have f17 : ∀ w', Kept (fun i => i = g2) W2.drew w' → w'.cell? ⟨g0, 17, none⟩ = some (.bool e) := fun w' h => h.cell (HO2.out.drew.cell (i := 17) rfl) (fun e => absurd (show g0 = g2 from e) HOE.out)
  have f18 : ∀ w', Kept (fun i => i = g2) W2.drew w' → w'.cell? ⟨g0, 18, none⟩ = some (.string t) := fun w' h => h.cell (HO2.out.drew.cell (i := 18) rfl) (fun e => absurd (show g0 = g2 from e) HOE.out)
  have HNs : RowKit.Hid (Whole W2.drew g2 _ _) := Lib.hid HN.out.drew
  have HRs : RowKit.Hid (Whole W2.drew (g0 + 1) _ _) := Lib.hid HR2.out.drew
  have HBs : RowKit.Hid (Below w.heap.size w W2.drew) := Lib.hid HB2.out.drew
  refine wp_region_reg (fun i => i = g2) (by kernel_rfl) ?_
  refine opR_ 0 37 (v := ?_) ?_ ?_; rotate_left
  · intro w' hw'; go_simp; (try with_reducible rfl)
  try simp only [st0_, st1_]
  refine opR_ 1 38 (v := ?_) ?_ ?_; rotate_left
  · intro w' hw'; go_simp; (try with_reducible rfl)
  try simp only [st0_, st1_]
  refine opR_ 2 39 (v := ?_) ?_ ?_; rotate_left
  · intro w' hw'; go_simp; (try with_reducible rfl)
  try simp only [st0_, st1_]
  refine opR_ 3 40 (v := ?_) ?_ ?_; rotate_left
  · intro w' hw'; go_simp; (try with_reducible rfl)
  try simp only [st0_, st1_]
  refine opR_ 4 41 (v := ?_) ?_ ?_; rotate_left
  · intro w' hw'; go_simp; (try with_reducible rfl)
  try simp only [st0_, st1_]
  apply wpR_store 5
  · rfl
  · rfl
  · kernel_rfl
  · rfl
  intro w' hw'
  have HNx := Lib.hid (HNs.out.below hw')
  have HRx := Lib.hid (HRs.out.below hw')
  have HBx := Lib.hid (HBs.out.trans (hw'.mono HBs.out.size))
  have y17 := HNx.out.cell (i := 17) rfl
  have z17 := HNx.out.free 17
  apply Exists.intro
  apply And.intro
  · go_simp; exact rfl
  apply And.intro
  · exact ((Kept.refl (fun i => i = g2) _).setCell (.inl (show g2 = g2 from rfl)) _)
  obtain ⟨V0, gV0⟩ : ∃ x, (w').setCell ⟨g2, 17, none⟩ (.bool e) = x := ⟨_, rfl⟩
  have HN0 := Lib.hid (show Whole V0 g2 _ _ from gV0 ▸ (HNx.out.set_ 17 _))
  have HR0 := Lib.hid (show Whole V0 (g0 + 1) _ _ from gV0 ▸ (HRx.out.far (by show g0 + 1 ≠ g2; exact HNE.out) _))
  have HB0 := Lib.hid (show Below w.heap.size w V0 from gV0 ▸ (HBx.out.setCell (by show w.heap.size ≤ g2; exact HG2.out) _))
  rw [gV0]
  clear gV0 hw' HNx HRx HBx y17 z17
  try simp only [Act.put, stA_, st0_, st1_]
  refine opR_ 6 42 (v := ?_) ?_ ?_; rotate_left
  · intro w' hw'; go_simp; (try with_reducible rfl)
  try simp only [st0_, st1_]
  apply wpR_store 7
  · rfl
  · rfl
  · kernel_rfl
  · rfl
  intro w' hw'
  have HNx := Lib.hid (HN0.out.below hw')
  have HRx := Lib.hid (HR0.out.below hw')
  have HBx := Lib.hid (HB0.out.trans (hw'.mono HB0.out.size))
  have y18 := HNx.out.cell (i := 18) rfl
  have z18 := HNx.out.free 18
  apply Exists.intro
  apply And.intro
  · go_simp; exact rfl
  apply And.intro
  · exact ((Kept.refl (fun i => i = g2) _).setCell (.inl (show g2 = g2 from rfl)) _)
  obtain ⟨V1, gV1⟩ : ∃ x, (w').setCell ⟨g2, 18, none⟩ (.string t) = x := ⟨_, rfl⟩
  have HN1 := Lib.hid (show Whole V1 g2 _ _ from gV1 ▸ (HNx.out.set_ 18 _))
  have HR1 := Lib.hid (show Whole V1 (g0 + 1) _ _ from gV1 ▸ (HRx.out.far (by show g0 + 1 ≠ g2; exact HNE.out) _))
  have HB1 := Lib.hid (show Below w.heap.size w V1 from gV1 ▸ (HBx.out.setCell (by show w.heap.size ≤ g2; exact HG2.out) _))
  rw [gV1]
  clear gV1 hw' HNx HRx HBx y18 z18
  try simp only [Act.put, stA_, st0_, st1_]
  refine wpR_done (by kernel_rfl) ?_ _
  intro W2' hw'
  have HN' := Lib.hid (HN1.out.below hw')
  have HR2' := Lib.hid (HR1.out.below hw')
  have HB2' := Lib.hid (HB1.out.trans (hw'.mono HB1.out.size))
  clear hw'
  go_upto_region 13 with fail
  refine wp_region_lit ?_
  refine wpList_load_row rfl 53 (.tmp 3) rfl g2 rfl 53 #[.int .i64 7, .int .i64 s, .int .i64 n, .int .i64 0, .int .i64 0, .int .i64 0, .int .i64 0, .int .i64 0, .int .i64 0, .int .i64 0, .int .i64 0, .int .i64 0, .int .i64 0, .int .i64 0, .int .i64 0, .int .i64 0, .int .i64 0, .bool e, .string t, .int .i64 0] (0, 0) _ HN'.out Try.underlying53 rfl (by kernel_rfl) ?_
  simp only [Act.put, stA_, st0_, st1_]
  refine wpList_store_row rfl 53 (.tmp 2) (.tmp 51) rfl (g0 + 1) #[.int .i64 7, .int .i64 s, .int .i64 n, .int .i64 0, .int .i64 0, .int .i64 0, .int .i64 0, .int .i64 0, .int .i64 0, .int .i64 0, .int .i64 0, .int .i64 0, .int .i64 0, .int .i64 0, .int .i64 0, .int .i64 0, .int .i64 0, .bool e, .string t, .int .i64 0] rfl rfl 53 #[.int .i64 0, .int .i64 0, .int .i64 0, .int .i64 0, .int .i64 0, .int .i64 0, .int .i64 0, .int .i64 0, .int .i64 0, .int .i64 0, .int .i64 0, .int .i64 0, .int .i64 0, .int .i64 0, .int .i64 0, .int .i64 0, .int .i64 0, .bool false, .string ⟨#[]⟩, .int .i64 0] HR2'.out (by kernel_rfl) rfl (by simp [Value.oneCell']) ?_
  have HR3 : RowKit.Hid (Whole (W2'.setRow (g0 + 1) #[.int .i64 7, .int .i64 s, .int .i64 n, .int .i64 0, .int .i64 0, .int .i64 0, .int .i64 0, .int .i64 0, .int .i64 0, .int .i64 0, .int .i64 0, .int .i64 0, .int .i64 0, .int .i64 0, .int .i64 0, .int .i64 0, .int .i64 0, .bool e, .string t, .int .i64 0]) (g0 + 1) 53 [.int .i64 7, .int .i64 s, .int .i64 n, .int .i64 0, .int .i64 0, .int .i64 0, .int .i64 0, .int .i64 0, .int .i64 0, .int .i64 0, .int .i64 0, .int .i64 0, .int .i64 0, .int .i64 0, .int .i64 0, .int .i64 0, .int .i64 0, .bool e, .string t, .int .i64 0]) := Lib.hid (setRow_heap W2' (g0 + 1) _ _ _ _ HR2'.out)
  have HB3 : RowKit.Hid (Below w.heap.size w (W2'.setRow (g0 + 1) #[.int .i64 7, .int .i64 s, .int .i64 n, .int .i64 0, .int .i64 0, .int .i64 0, .int .i64 0, .int .i64 0, .int .i64 0, .int .i64 0, .int .i64 0, .int .i64 0, .int .i64 0, .int .i64 0, .int .i64 0, .int .i64 0, .int .i64 0, .bool e, .string t, .int .i64 0])) := Lib.hid ⟨HB2'.out.os, HB2'.out.tape, HB2'.out.output, (by have := HB2'.out.size; simpa [World.setRow] using this), fun i hi => (setRow_other W2' (g0 + 1) i _ (by have := HG0.out; omega)).trans (HB2'.out.block i hi)⟩
  obtain ⟨W3, gW3⟩ : ∃ x, W2'.setRow (g0 + 1) #[.int .i64 7, .int .i64 s, .int .i64 n, .int .i64 0, .int .i64 0, .int .i64 0, .int .i64 0, .int .i64 0, .int .i64 0, .int .i64 0, .int .i64 0, .int .i64 0, .int .i64 0, .int .i64 0, .int .i64 0, .int .i64 0, .int .i64 0, .bool e, .string t, .int .i64 0] = x := ⟨_, rfl⟩
  rw [gW3] at HR3 HB3 ⊢
  clear gW3
  go_wp2
  exact bodyPost_ret (v := .agg #[.int .i64 7, .int .i64 s, .int .i64 n, .int .i64 0, .int .i64 0, .int .i64 0, .int .i64 0, .int .i64 0, .int .i64 0, .int .i64 0, .int .i64 0, .int .i64 0, .int .i64 0, .int .i64 0, .int .i64 0, .int .i64 0, .int .i64 0, .bool e, .string t, .int .i64 0]) (results_cell_row Try.results80 _ W3 (g0 + 1) 53 #[.int .i64 7, .int .i64 s, .int .i64 n, .int .i64 0, .int .i64 0, .int .i64 0, .int .i64 0, .int .i64 0, .int .i64 0, .int .i64 0, .int .i64 0, .int .i64 0, .int .i64 0, .int .i64 0, .int .i64 0, .int .i64 0, .int .i64 0, .bool e, .string t, .int .i64 0] (0, 0) _ (by rfl) HR3.out Try.underlying53 rfl (by kernel_rfl)) rfl ⟨rfl, HB3.out⟩
set_option maxRecDepth 100000 in
set_option maxHeartbeats 2000000 in
theorem only_8 (s n s1 n1 s2 n2 a0 a1 a2 a3 a4 b0 b1 b2 b3 b4 : Int) (e : Bool) (t : ByteArray) (m : Int) : Pure 80 #[.agg #[.int .i64 8, .int .i64 s, .int .i64 n, .int .i64 s1, .int .i64 n1, .int .i64 s2, .int .i64 n2, .int .i64 a0, .int .i64 a1, .int .i64 a2, .int .i64 a3, .int .i64 a4, .int .i64 b0, .int .i64 b1, .int .i64 b2, .int .i64 b3, .int .i64 b4, .bool e, .string t, .int .i64 m]] (.agg #[.int .i64 8, .int .i64 s, .int .i64 n, .int .i64 0, .int .i64 0, .int .i64 0, .int .i64 0, .int .i64 0, .int .i64 0, .int .i64 0, .int .i64 0, .int .i64 0, .int .i64 0, .int .i64 0, .int .i64 0, .int .i64 0, .int .i64 0, .bool e, .string ⟨#[]⟩, .int .i64 m]) := fun w => by
  go_enter Try.func80, Try.ntmps80
  go_upto_region 1 with fail
  obtain ⟨W1, gW1⟩ : ∃ x, (w.alloc (.cells #[.int .i64 8, .int .i64 s, .int .i64 n, .int .i64 s1, .int .i64 n1, .int .i64 s2, .int .i64 n2, .int .i64 a0, .int .i64 a1, .int .i64 a2, .int .i64 a3, .int .i64 a4, .int .i64 b0, .int .i64 b1, .int .i64 b2, .int .i64 b3, .int .i64 b4, .bool e, .string t, .int .i64 m] 53)).alloc (.cells #[.int .i64 0, .int .i64 0, .int .i64 0, .int .i64 0, .int .i64 0, .int .i64 0, .int .i64 0, .int .i64 0, .int .i64 0, .int .i64 0, .int .i64 0, .int .i64 0, .int .i64 0, .int .i64 0, .int .i64 0, .int .i64 0, .int .i64 0, .bool false, .string ⟨#[]⟩, .int .i64 0] 53) = x := ⟨_, rfl⟩
  have hO : Whole W1 w.heap.size 53 [.int .i64 8, .int .i64 s, .int .i64 n, .int .i64 s1, .int .i64 n1, .int .i64 s2, .int .i64 n2, .int .i64 a0, .int .i64 a1, .int .i64 a2, .int .i64 a3, .int .i64 a4, .int .i64 b0, .int .i64 b1, .int .i64 b2, .int .i64 b3, .int .i64 b4, .bool e, .string t, .int .i64 m] := by rw [← gW1]; exact (Whole.new_ w _ [.int .i64 8, .int .i64 s, .int .i64 n, .int .i64 s1, .int .i64 n1, .int .i64 s2, .int .i64 n2, .int .i64 a0, .int .i64 a1, .int .i64 a2, .int .i64 a3, .int .i64 a4, .int .i64 b0, .int .i64 b1, .int .i64 b2, .int .i64 b3, .int .i64 b4, .bool e, .string t, .int .i64 m]).alloc _
  have hR : Whole W1 (w.heap.size + 1) 53 [.int .i64 0, .int .i64 0, .int .i64 0, .int .i64 0, .int .i64 0, .int .i64 0, .int .i64 0, .int .i64 0, .int .i64 0, .int .i64 0, .int .i64 0, .int .i64 0, .int .i64 0, .int .i64 0, .int .i64 0, .int .i64 0, .int .i64 0, .bool false, .string ⟨#[]⟩, .int .i64 0] := by rw [← gW1]; exact Whole.new2 (cs := [.int .i64 0, .int .i64 0, .int .i64 0, .int .i64 0, .int .i64 0, .int .i64 0, .int .i64 0, .int .i64 0, .int .i64 0, .int .i64 0, .int .i64 0, .int .i64 0, .int .i64 0, .int .i64 0, .int .i64 0, .int .i64 0, .int .i64 0, .bool false, .string ⟨#[]⟩, .int .i64 0]) (by simp)
  have hB : Below w.heap.size w W1 := by rw [← gW1]; exact below2 _ _ _
  rw [gW1]
  clear gW1
  have HO := Lib.hid hO
  have HR := Lib.hid hR
  have HB := Lib.hid hB
  have l0 := hO.cell (i := 0) rfl
  have l1 := hO.cell (i := 1) rfl
  have l2 := hO.cell (i := 2) rfl
  clear hO hR hB
  obtain ⟨g0, gg0⟩ : ∃ x, w.heap.size = x := ⟨_, rfl⟩
  rw [gg0] at HO HR l0 l1 l2 ⊢
  have HG0 : RowKit.Hid (w.heap.size ≤ g0) := Lib.hid (by omega)
  clear gg0
  refine wp_region_lit ?_
  refine wpList_readTo rfl (some 4) rfl ?_ ?_ ?_
  rotate_left
  · go_simp; exact rfl
  simp only [Act.put, stA_, st0_, st1_]
  refine wpList_readTo rfl (some 5) rfl ?_ ?_ ?_
  rotate_left
  · go_simp; exact rfl
  simp only [Act.put, stA_, st0_, st1_]
  refine wpList_readTo rfl (some 6) rfl ?_ ?_ ?_
  rotate_left
  · go_simp; exact rfl
  simp only [Act.put, stA_, st0_, st1_]
  refine wpList_readTo rfl (some 7) rfl ?_ ?_ ?_
  rotate_left
  · go_simp; exact rfl
  simp only [Act.put, stA_, st0_, st1_]
  refine wpList_readTo rfl (some 8) rfl ?_ ?_ ?_
  rotate_left
  · go_simp; exact rfl
  simp only [Act.put, stA_, st0_, st1_]
  refine wpList_allocTo rfl (some 3) rfl ?_ (.cells #[.int .i64 0, .int .i64 0, .int .i64 0, .int .i64 0, .int .i64 0, .int .i64 0, .int .i64 0, .int .i64 0, .int .i64 0, .int .i64 0, .int .i64 0, .int .i64 0, .int .i64 0, .int .i64 0, .int .i64 0, .int .i64 0, .int .i64 0, .bool false, .string ⟨#[]⟩, .int .i64 0] 53) ?_ ?_
  rotate_left
  · go_simp; exact rfl
  simp only [Act.put, stA_, st0_, st1_]
  refine wpList_store_row rfl 53 (.tmp 3) (.tmp 8) rfl W1.heap.size #[.int .i64 8, .int .i64 s, .int .i64 n, .int .i64 0, .int .i64 0, .int .i64 0, .int .i64 0, .int .i64 0, .int .i64 0, .int .i64 0, .int .i64 0, .int .i64 0, .int .i64 0, .int .i64 0, .int .i64 0, .int .i64 0, .int .i64 0, .bool false, .string ⟨#[]⟩, .int .i64 0] rfl rfl 53 #[.int .i64 0, .int .i64 0, .int .i64 0, .int .i64 0, .int .i64 0, .int .i64 0, .int .i64 0, .int .i64 0, .int .i64 0, .int .i64 0, .int .i64 0, .int .i64 0, .int .i64 0, .int .i64 0, .int .i64 0, .int .i64 0, .int .i64 0, .bool false, .string ⟨#[]⟩, .int .i64 0] (heap_alloc_last _ _) (by kernel_rfl) rfl (by simp [Value.oneCell']) ?_
  rw [World.setRow_alloc_new]
  obtain ⟨W2, gW2⟩ : ∃ x, W1.alloc (.cells #[.int .i64 8, .int .i64 s, .int .i64 n, .int .i64 0, .int .i64 0, .int .i64 0, .int .i64 0, .int .i64 0, .int .i64 0, .int .i64 0, .int .i64 0, .int .i64 0, .int .i64 0, .int .i64 0, .int .i64 0, .int .i64 0, .int .i64 0, .bool false, .string ⟨#[]⟩, .int .i64 0] 53) = x := ⟨_, rfl⟩
  obtain ⟨g2, gg2⟩ : ∃ x, W1.heap.size = x := ⟨_, rfl⟩
  have HN : RowKit.Hid (Whole W2 g2 53 [.int .i64 8, .int .i64 s, .int .i64 n, .int .i64 0, .int .i64 0, .int .i64 0, .int .i64 0, .int .i64 0, .int .i64 0, .int .i64 0, .int .i64 0, .int .i64 0, .int .i64 0, .int .i64 0, .int .i64 0, .int .i64 0, .int .i64 0, .bool false, .string ⟨#[]⟩, .int .i64 0]) := Lib.hid (by rw [← gW2, ← gg2]; exact Whole.new_ W1 _ [.int .i64 8, .int .i64 s, .int .i64 n, .int .i64 0, .int .i64 0, .int .i64 0, .int .i64 0, .int .i64 0, .int .i64 0, .int .i64 0, .int .i64 0, .int .i64 0, .int .i64 0, .int .i64 0, .int .i64 0, .int .i64 0, .int .i64 0, .bool false, .string ⟨#[]⟩, .int .i64 0])
  have HO2 := Lib.hid (show Whole W2 g0 _ _ from gW2 ▸ HO.out.alloc _)
  have HR2 := Lib.hid (show Whole W2 (g0 + 1) _ _ from gW2 ▸ HR.out.alloc _)
  have HB2 := Lib.hid (show Below w.heap.size w W2 from gW2 ▸ HB.out.alloc HB.out.size _)
  have l0 := HO2.out.cell (i := 0) rfl
  have HNE : RowKit.Hid (g0 + 1 ≠ g2) := Lib.hid (by have := HR.out.lt; omega)
  have HOE : RowKit.Hid (¬ g0 = g2) := Lib.hid (by have := HR.out.lt; omega)
  have HG2 : RowKit.Hid (w.heap.size ≤ g2) := Lib.hid (by have := HB.out.size; omega)
  rw [gW2, gg2]
  clear gW2 gg2
  go_upto_region 12 with fail
  have f17 : ∀ w', Kept (fun i => i = g2) W2.drew w' → w'.cell? ⟨g0, 17, none⟩ = some (.bool e) := fun w' h => h.cell (HO2.out.drew.cell (i := 17) rfl) (fun e => absurd (show g0 = g2 from e) HOE.out)
  have f19 : ∀ w', Kept (fun i => i = g2) W2.drew w' → w'.cell? ⟨g0, 19, none⟩ = some (.int .i64 m) := fun w' h => h.cell (HO2.out.drew.cell (i := 19) rfl) (fun e => absurd (show g0 = g2 from e) HOE.out)
  have HNs : RowKit.Hid (Whole W2.drew g2 _ _) := Lib.hid HN.out.drew
  have HRs : RowKit.Hid (Whole W2.drew (g0 + 1) _ _) := Lib.hid HR2.out.drew
  have HBs : RowKit.Hid (Below w.heap.size w W2.drew) := Lib.hid HB2.out.drew
  refine wp_region_reg (fun i => i = g2) (by kernel_rfl) ?_
  refine opR_ 0 45 (v := ?_) ?_ ?_; rotate_left
  · intro w' hw'; go_simp; (try with_reducible rfl)
  try simp only [st0_, st1_]
  refine opR_ 1 46 (v := ?_) ?_ ?_; rotate_left
  · intro w' hw'; go_simp; (try with_reducible rfl)
  try simp only [st0_, st1_]
  refine opR_ 2 47 (v := ?_) ?_ ?_; rotate_left
  · intro w' hw'; go_simp; (try with_reducible rfl)
  try simp only [st0_, st1_]
  refine opR_ 3 48 (v := ?_) ?_ ?_; rotate_left
  · intro w' hw'; go_simp; (try with_reducible rfl)
  try simp only [st0_, st1_]
  refine opR_ 4 49 (v := ?_) ?_ ?_; rotate_left
  · intro w' hw'; go_simp; (try with_reducible rfl)
  try simp only [st0_, st1_]
  apply wpR_store 5
  · rfl
  · rfl
  · kernel_rfl
  · rfl
  intro w' hw'
  have HNx := Lib.hid (HNs.out.below hw')
  have HRx := Lib.hid (HRs.out.below hw')
  have HBx := Lib.hid (HBs.out.trans (hw'.mono HBs.out.size))
  have y17 := HNx.out.cell (i := 17) rfl
  have z17 := HNx.out.free 17
  apply Exists.intro
  apply And.intro
  · go_simp; exact rfl
  apply And.intro
  · exact ((Kept.refl (fun i => i = g2) _).setCell (.inl (show g2 = g2 from rfl)) _)
  obtain ⟨V0, gV0⟩ : ∃ x, (w').setCell ⟨g2, 17, none⟩ (.bool e) = x := ⟨_, rfl⟩
  have HN0 := Lib.hid (show Whole V0 g2 _ _ from gV0 ▸ (HNx.out.set_ 17 _))
  have HR0 := Lib.hid (show Whole V0 (g0 + 1) _ _ from gV0 ▸ (HRx.out.far (by show g0 + 1 ≠ g2; exact HNE.out) _))
  have HB0 := Lib.hid (show Below w.heap.size w V0 from gV0 ▸ (HBx.out.setCell (by show w.heap.size ≤ g2; exact HG2.out) _))
  rw [gV0]
  clear gV0 hw' HNx HRx HBx y17 z17
  try simp only [Act.put, stA_, st0_, st1_]
  refine opR_ 6 50 (v := ?_) ?_ ?_; rotate_left
  · intro w' hw'; go_simp; (try with_reducible rfl)
  try simp only [st0_, st1_]
  apply wpR_store 7
  · rfl
  · rfl
  · kernel_rfl
  · rfl
  intro w' hw'
  have HNx := Lib.hid (HN0.out.below hw')
  have HRx := Lib.hid (HR0.out.below hw')
  have HBx := Lib.hid (HB0.out.trans (hw'.mono HB0.out.size))
  have y19 := HNx.out.cell (i := 19) rfl
  have z19 := HNx.out.free 19
  apply Exists.intro
  apply And.intro
  · go_simp; exact rfl
  apply And.intro
  · exact ((Kept.refl (fun i => i = g2) _).setCell (.inl (show g2 = g2 from rfl)) _)
  obtain ⟨V1, gV1⟩ : ∃ x, (w').setCell ⟨g2, 19, none⟩ (.int .i64 m) = x := ⟨_, rfl⟩
  have HN1 := Lib.hid (show Whole V1 g2 _ _ from gV1 ▸ (HNx.out.set_ 19 _))
  have HR1 := Lib.hid (show Whole V1 (g0 + 1) _ _ from gV1 ▸ (HRx.out.far (by show g0 + 1 ≠ g2; exact HNE.out) _))
  have HB1 := Lib.hid (show Below w.heap.size w V1 from gV1 ▸ (HBx.out.setCell (by show w.heap.size ≤ g2; exact HG2.out) _))
  rw [gV1]
  clear gV1 hw' HNx HRx HBx y19 z19
  try simp only [Act.put, stA_, st0_, st1_]
  refine wpR_done (by kernel_rfl) ?_ _
  intro W2' hw'
  have HN' := Lib.hid (HN1.out.below hw')
  have HR2' := Lib.hid (HR1.out.below hw')
  have HB2' := Lib.hid (HB1.out.trans (hw'.mono HB1.out.size))
  clear hw'
  go_upto_region 13 with fail
  refine wp_region_lit ?_
  refine wpList_load_row rfl 53 (.tmp 3) rfl g2 rfl 53 #[.int .i64 8, .int .i64 s, .int .i64 n, .int .i64 0, .int .i64 0, .int .i64 0, .int .i64 0, .int .i64 0, .int .i64 0, .int .i64 0, .int .i64 0, .int .i64 0, .int .i64 0, .int .i64 0, .int .i64 0, .int .i64 0, .int .i64 0, .bool e, .string ⟨#[]⟩, .int .i64 m] (0, 0) _ HN'.out Try.underlying53 rfl (by kernel_rfl) ?_
  simp only [Act.put, stA_, st0_, st1_]
  refine wpList_store_row rfl 53 (.tmp 2) (.tmp 51) rfl (g0 + 1) #[.int .i64 8, .int .i64 s, .int .i64 n, .int .i64 0, .int .i64 0, .int .i64 0, .int .i64 0, .int .i64 0, .int .i64 0, .int .i64 0, .int .i64 0, .int .i64 0, .int .i64 0, .int .i64 0, .int .i64 0, .int .i64 0, .int .i64 0, .bool e, .string ⟨#[]⟩, .int .i64 m] rfl rfl 53 #[.int .i64 0, .int .i64 0, .int .i64 0, .int .i64 0, .int .i64 0, .int .i64 0, .int .i64 0, .int .i64 0, .int .i64 0, .int .i64 0, .int .i64 0, .int .i64 0, .int .i64 0, .int .i64 0, .int .i64 0, .int .i64 0, .int .i64 0, .bool false, .string ⟨#[]⟩, .int .i64 0] HR2'.out (by kernel_rfl) rfl (by simp [Value.oneCell']) ?_
  have HR3 : RowKit.Hid (Whole (W2'.setRow (g0 + 1) #[.int .i64 8, .int .i64 s, .int .i64 n, .int .i64 0, .int .i64 0, .int .i64 0, .int .i64 0, .int .i64 0, .int .i64 0, .int .i64 0, .int .i64 0, .int .i64 0, .int .i64 0, .int .i64 0, .int .i64 0, .int .i64 0, .int .i64 0, .bool e, .string ⟨#[]⟩, .int .i64 m]) (g0 + 1) 53 [.int .i64 8, .int .i64 s, .int .i64 n, .int .i64 0, .int .i64 0, .int .i64 0, .int .i64 0, .int .i64 0, .int .i64 0, .int .i64 0, .int .i64 0, .int .i64 0, .int .i64 0, .int .i64 0, .int .i64 0, .int .i64 0, .int .i64 0, .bool e, .string ⟨#[]⟩, .int .i64 m]) := Lib.hid (setRow_heap W2' (g0 + 1) _ _ _ _ HR2'.out)
  have HB3 : RowKit.Hid (Below w.heap.size w (W2'.setRow (g0 + 1) #[.int .i64 8, .int .i64 s, .int .i64 n, .int .i64 0, .int .i64 0, .int .i64 0, .int .i64 0, .int .i64 0, .int .i64 0, .int .i64 0, .int .i64 0, .int .i64 0, .int .i64 0, .int .i64 0, .int .i64 0, .int .i64 0, .int .i64 0, .bool e, .string ⟨#[]⟩, .int .i64 m])) := Lib.hid ⟨HB2'.out.os, HB2'.out.tape, HB2'.out.output, (by have := HB2'.out.size; simpa [World.setRow] using this), fun i hi => (setRow_other W2' (g0 + 1) i _ (by have := HG0.out; omega)).trans (HB2'.out.block i hi)⟩
  obtain ⟨W3, gW3⟩ : ∃ x, W2'.setRow (g0 + 1) #[.int .i64 8, .int .i64 s, .int .i64 n, .int .i64 0, .int .i64 0, .int .i64 0, .int .i64 0, .int .i64 0, .int .i64 0, .int .i64 0, .int .i64 0, .int .i64 0, .int .i64 0, .int .i64 0, .int .i64 0, .int .i64 0, .int .i64 0, .bool e, .string ⟨#[]⟩, .int .i64 m] = x := ⟨_, rfl⟩
  rw [gW3] at HR3 HB3 ⊢
  clear gW3
  go_wp2
  exact bodyPost_ret (v := .agg #[.int .i64 8, .int .i64 s, .int .i64 n, .int .i64 0, .int .i64 0, .int .i64 0, .int .i64 0, .int .i64 0, .int .i64 0, .int .i64 0, .int .i64 0, .int .i64 0, .int .i64 0, .int .i64 0, .int .i64 0, .int .i64 0, .int .i64 0, .bool e, .string ⟨#[]⟩, .int .i64 m]) (results_cell_row Try.results80 _ W3 (g0 + 1) 53 #[.int .i64 8, .int .i64 s, .int .i64 n, .int .i64 0, .int .i64 0, .int .i64 0, .int .i64 0, .int .i64 0, .int .i64 0, .int .i64 0, .int .i64 0, .int .i64 0, .int .i64 0, .int .i64 0, .int .i64 0, .int .i64 0, .int .i64 0, .bool e, .string ⟨#[]⟩, .int .i64 m] (0, 0) _ (by rfl) HR3.out Try.underlying53 rfl (by kernel_rfl)) rfl ⟨rfl, HB3.out⟩
end Go.Proofs.Ytinfbaflkjghhaa
/- The contract of op.only, for any operation. -/
namespace Go.Proofs.Ytinfbaflkjghhaa
open Go.RowKit
theorem only_at (k s n s1 n1 s2 n2 a0 a1 a2 a3 a4 b0 b1 b2 b3 b4 : Int) (e : Bool) (t : ByteArray) (m : Int) : Pure 80 #[.agg #[.int .i64 k, .int .i64 s, .int .i64 n, .int .i64 s1, .int .i64 n1, .int .i64 s2, .int .i64 n2, .int .i64 a0, .int .i64 a1, .int .i64 a2, .int .i64 a3, .int .i64 a4, .int .i64 b0, .int .i64 b1, .int .i64 b2, .int .i64 b3, .int .i64 b4, .bool e, .string t, .int .i64 m]] (.agg (opCells (onlyO ⟨k, s, n, s1, n1, s2, n2, a0, a1, a2, a3, a4, b0, b1, b2, b3, b4, e, t, m⟩)).toArray) := by
  unfold onlyO
  simp only
  by_cases k3 : k = 3
  · subst k3
    rw [if_pos rfl]
    exact only_3 s n s1 n1 s2 n2 a0 a1 a2 a3 a4 b0 b1 b2 b3 b4 e t m
  have q3 : (k == 3) = false := by simpa using k3
  rw [if_neg k3]
  by_cases k5 : k = 5
  · subst k5
    rw [if_pos rfl]
    exact only_5 s n s1 n1 s2 n2 a0 a1 a2 a3 a4 b0 b1 b2 b3 b4 e t m
  have q5 : (k == 5) = false := by simpa using k5
  rw [if_neg k5]
  by_cases k6 : k = 6
  · subst k6
    rw [if_pos rfl]
    exact only_6 s n s1 n1 s2 n2 a0 a1 a2 a3 a4 b0 b1 b2 b3 b4 e t m
  have q6 : (k == 6) = false := by simpa using k6
  rw [if_neg k6]
  by_cases k7 : k = 7
  · subst k7
    rw [if_pos rfl]
    exact only_7 s n s1 n1 s2 n2 a0 a1 a2 a3 a4 b0 b1 b2 b3 b4 e t m
  have q7 : (k == 7) = false := by simpa using k7
  rw [if_neg k7]
  by_cases k8 : k = 8
  · subst k8
    rw [if_pos rfl]
    exact only_8 s n s1 n1 s2 n2 a0 a1 a2 a3 a4 b0 b1 b2 b3 b4 e t m
  have q8 : (k == 8) = false := by simpa using k8
  rw [if_neg k8]
  exact only_0 k s n s1 n1 s2 n2 a0 a1 a2 a3 a4 b0 b1 b2 b3 b4 e t m q3 q5 q6 q7 q8
end Go.Proofs.Ytinfbaflkjghhaa
/- Two operations compared. -/
namespace Go.Proofs.Ytinfbaflkjghhaa
open Go.RowKit
theorem bytes_inj {t t' : ByteArray} (h : t.toList = t'.toList) : t = t' := by
  rw [ByteArray.toList_eq, ByteArray.toList_eq] at h
  exact ByteArray.ext (Array.toList_inj.1 h)
theorem neq_op_run (o o' : OpT) (W : World) : (binOp .neq 53 (.agg (opCells o).toArray) (.agg (opCells o').toArray)).run Try.prog W = .ok (.bool (!decide (o = o'))) W := by
  obtain ⟨k, s, n, s1, n1, s2, n2, a0, a1, a2, a3, a4, b0, b1, b2, b3, b4, e, t, m⟩ := o
  obtain ⟨k', s', n', s1', n1', s2', n2', a0', a1', a2', a3', a4', b0', b1', b2', b3', b4', e', t', m'⟩ := o'
  simp only [opCells, OpT.mk.injEq]
  simp [go_sem]
  by_cases hk : k = k'
  case neg => simp [hk]
  rw [if_pos hk]
  by_cases hs : s = s'
  case neg => simp [hs]
  rw [if_pos hs]
  by_cases hn : n = n'
  case neg => simp [hn]
  rw [if_pos hn]
  by_cases hs1 : s1 = s1'
  case neg => simp [hs1]
  rw [if_pos hs1]
  by_cases hn1 : n1 = n1'
  case neg => simp [hn1]
  rw [if_pos hn1]
  by_cases hs2 : s2 = s2'
  case neg => simp [hs2]
  rw [if_pos hs2]
  by_cases hn2 : n2 = n2'
  case neg => simp [hn2]
  rw [if_pos hn2]
  by_cases ha0 : a0 = a0'
  case neg => simp [ha0]
  rw [if_pos ha0]
  by_cases ha1 : a1 = a1'
  case neg => simp [ha1]
  rw [if_pos ha1]
  by_cases ha2 : a2 = a2'
  case neg => simp [ha2]
  rw [if_pos ha2]
  by_cases ha3 : a3 = a3'
  case neg => simp [ha3]
  rw [if_pos ha3]
  by_cases ha4 : a4 = a4'
  case neg => simp [ha4]
  rw [if_pos ha4]
  by_cases hb0 : b0 = b0'
  case neg => simp [hb0]
  rw [if_pos hb0]
  by_cases hb1 : b1 = b1'
  case neg => simp [hb1]
  rw [if_pos hb1]
  by_cases hb2 : b2 = b2'
  case neg => simp [hb2]
  rw [if_pos hb2]
  by_cases hb3 : b3 = b3'
  case neg => simp [hb3]
  rw [if_pos hb3]
  by_cases hb4 : b4 = b4'
  case neg => simp [hb4]
  rw [if_pos hb4]
  by_cases he : e = e'
  case neg => simp [he]
  rw [if_pos he]
  by_cases ht : t = t'
  · subst ht
    by_cases hm : m = m' <;> simp_all
  · have ht' : ¬ t.toList = t'.toList := fun q => ht (bytes_inj q)
    rw [if_neg ht']
    simp [ht]
end Go.Proofs.Ytinfbaflkjghhaa
/- Out of XPk22 -/
namespace Go.Proofs.Ytinfbaflkjghhaa
open Go.RowKit
theorem bequal_any (A A' : Option Addr) (n c n' c' : Nat) (P Q : List Nat) (w : World) (h : RdS w w.heap.size 1 A n c (rowsV f8 P)) (h' : RdS w w.heap.size 1 A' n' c' (rowsV f8 Q)) :
    Calls Try.prog 59 #[.slice A n c, .slice A' n' c'] w fun e w' => e = .returned (.bool ((txt P).toList == (txt Q).toList)) ∧ w = w' := by
  have hc1 := conv_txt h
  have hc2 := conv_txt h'
  clear h h'
  go_enter Try.func59, Try.ntmps59
  go_wp2
  go_ret
  exact ⟨rfl, rfl⟩
theorem txt_size (L : List Nat) : (txt L).size = L.length := by
  have h : (txt L).toList.length = L.length := by rw [txt_list, List.length_map]
  rw [ByteArray.toList_eq] at h
  simpa using h
end Go.Proofs.Ytinfbaflkjghhaa
/- Out of XPk13a -/
namespace Go.Proofs.Ytinfbaflkjghhaa
open Go.RowKit
end Go.Proofs.Ytinfbaflkjghhaa
/- Out of XPk26 -/
namespace Go.Proofs.Ytinfbaflkjghhaa
open Go.RowKit
end Go.Proofs.Ytinfbaflkjghhaa
