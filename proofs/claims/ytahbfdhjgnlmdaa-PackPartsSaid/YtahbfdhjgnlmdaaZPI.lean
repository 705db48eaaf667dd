/- Several texts in one. -/
import Derived.Test.YtahbfdhjgnlmdaaZPH
import Derived.Lib.AppendStr
import Derived.Test.YtahbfdhjgnlmdaaZPB
import Derived.Laws.BitsAllLaws
import Derived.Test.YtahbfdhjgnlmdaaZPA
import Derived.Test.YtahbfdhjgnlmdaaZPE
import Derived.Test.YtahbfdhjgnlmdaaZPF

/- pack.Text. -/
namespace Go.Proofs.Ytahbfdhjgnlmdaa
open Go.RowKit
set_option linter.unusedSimpArgs false
set_option linter.unusedVariables false

theorem tB_data (s : ByteArray) : tB s = s.data.toList.map UInt8.toNat := by rw [tB, ByteArray.toList_eq]
theorem str_rows (s : ByteArray) : Lib.strCells s = rowsV f8 (tB s) := by
  rw [rowsV_map8, tB_data, Lib.strCells, List.map_map]
  rfl
theorem exec_copy {P : Program} {ev : Operand → Value} {o : Oper} {w w' : World} (d s : Operand) (dT sT : TypeId) (ho : o.op = .call { callee := .builtin .copy, args := #[d, s], argTypes := #[dT, sT] }) {x y v : Value} (hd : ev d = x) (hs : ev s = y)
    (hrun : (Builtin.copy_ #[dT, sT] o.type #[x, y]).run P w = .ok v w') : (execOp ev o).run P w = .ok (.value v) w' := by
  unfold execOp
  simp [ho, resolve, invoke, builtin, hd, hs, hrun, Result.andThen]
/-- A text copied to the end of a row. -/
theorem copy_str (ty : TypeId) {w : World} {g N p : Nat} {M : List Nat} {A : Option Addr} {c : Nat} (s : ByteArray) (hw : Whole w g 5 (rowsV f8 M)) (hM : M.length = N) (hp : p + s.size = N) (hA : (if N = p then some (⟨g, 0, none⟩ : Addr) else (some (⟨g, 0, none⟩ : Addr)).map (·.add (p * 1))) = A) {w0 : World} {B : Nat} (hb : Below B w0 w) (hB : B ≤ g) :
    ∃ w', (Builtin.copy_ #[43, 9] ty #[.slice A s.size c, .string s]).run Try.prog w = .ok (goInt s.size) w' ∧ Whole w' g 5 (rowsV f8 (M.take p ++ tB s)) ∧ Below B w0 w' := by
  obtain ⟨i0, hi, hz0, hz1, hz2⟩ := info_parts_ info_u8
  by_cases h0 : N = p
  · rw [if_pos h0] at hA
    obtain rfl := hA
    have hs : s.size = 0 := by omega
    have ht : tB s = [] := List.eq_nil_of_length_eq_zero (by rw [tB_len, hs])
    refine ⟨w, ?_, by rw [ht, List.append_nil, List.take_of_length_le (by omega)]; exact hw, hb⟩
    simp [Builtin.copy_, run_underlying (Try.underlying43), Builtin.lenOf, Builtin.firstCells, sizeOf, typeInfo, hi, hz1, hs, storeCells]
  · rw [if_neg h0] at hA
    have e : (some (⟨g, 0, none⟩ : Addr)).map (·.add (p * 1)) = some (⟨g, p, none⟩ : Addr) := by simp only [Option.map_some, Addr.add_lit, Nat.mul_one, Nat.zero_add]
    rw [e] at hA
    obtain rfl := hA
    have hst := run_storeCells_at Try.prog g p 5 (Lib.strCells s) 0 (rowsV f8 M).toArray w hw (by simp [rows8_len, Lib.strCells_length]; omega) (Lib.strCells_oneCell s)
    have hf := Lib.run_firstCells_string (P := Try.prog) w 1 s
    simp only [Nat.add_zero, Lib.strCells_length] at hst
    have hd : (rowsV f8 M).toArray.toList.drop (p + s.size) = [] := List.drop_eq_nil_of_le (by simp [rows8_len]; omega)
    rw [hd, List.append_nil, str_rows, show ((rowsV f8 M).toArray.toList.take p ++ rowsV f8 (tB s)).toArray = (rowsV f8 (M.take p ++ tB s)).toArray from by rw [rows8_app, rowsV_map8 M, rowsV_map8 (M.take p), List.map_take]] at hst
    refine ⟨_, ?_, Whole.row hw (rowsV f8 (M.take p ++ tB s)), below_setRow hb hB _⟩
    simp only [str_rows] at hf
    simp [Builtin.copy_, run_underlying (Try.underlying43), Builtin.lenOf, sizeOf, typeInfo, hi, hz1, hf, hst]
set_option maxRecDepth 100000 in
set_option maxHeartbeats 1000000 in
theorem text_any (A : Option Addr) (c : Nat) (L : List Nat) (s : ByteArray) (w : World) (h : RdS w w.heap.size 1 A L.length c (rowsV f8 L)) (hn : L.length ≤ 900000) (hs : s.size ≤ 900000) :
    Calls Try.prog 22 #[.slice A L.length c, .string s] w (Gives8 w (L ++ textB s)) := by
  obtain ⟨S, gS⟩ : ∃ S, s.size = S := ⟨_, rfl⟩
  have HC := Lib.hid (room_any A c L (1 + S) w h (by omega) (by omega))
  have hw1 : IntKind.i64.wrap (1 + (S : Int)) = ((1 + S : Nat) : Int) := by rw [IntWalk.i64_in _ (by omega)]; omega
  have hw8 : IntKind.u8.wrap (S : Int) = ((S % 256 : Nat) : Int) := by rw [IntKind.wrap_u8]; omega
  have HE : RowKit.Hid (((L ++ List.replicate (1 + S) 0).set L.length (S % 256)).take (L.length + 1) ++ tB s = L ++ textB s) := Lib.hid (by
    rw [List.set_append, if_neg (by omega), Nat.sub_self, Nat.add_comm 1 S, List.replicate_succ, List.set_cons_zero, textB, gS]
    rw [List.take_append, List.take_of_length_le (by omega), Nat.add_sub_cancel_left, List.take_succ_cons, List.take_zero, List.append_assoc])
  have Hl : RowKit.Hid ((L ++ textB s).length = L.length + (1 + S)) := Lib.hid (by simp [textB, tB_len, gS]; omega)
  have Hs : RowKit.Hid (s.size = S) := Lib.hid gS
  have hsz : (s.size : Int) = (S : Int) := by rw [gS]
  obtain ⟨E, gE⟩ : ∃ E, L ++ textB s = E := ⟨_, rfl⟩
  rw [gE] at HE Hl ⊢
  obtain ⟨M0, gM0⟩ : ∃ M0, L ++ List.replicate (1 + S) 0 = M0 := ⟨_, rfl⟩
  have HM0 : RowKit.Hid (M0.length = L.length + (1 + S)) := Lib.hid (by rw [← gM0]; simp)
  rw [gM0] at HC HE
  obtain ⟨n, gn⟩ : ∃ n, L.length = n := ⟨_, rfl⟩
  rw [gn] at HC HE Hl HM0 hn ⊢
  obtain ⟨m, gm⟩ : ∃ m, 1 + S = m := ⟨_, rfl⟩
  rw [gm] at HC Hl HM0 hw1
  have Hm := Lib.hid gm
  obtain ⟨N, gN⟩ : ∃ N, n + m = N := ⟨_, rfl⟩
  rw [gN] at HC Hl HM0
  have HN := Lib.hid gN
  have hw2 : IntKind.i64.wrap ((n : Int) + 1) = ((n + 1 : Nat) : Int) := by rw [IntWalk.i64_in _ (by omega)]; omega
  have hnN : n < N := by omega
  have hnN2 : (n : Int) < (N : Int) := by omega
  have hNb : N ≤ 100000000 := by omega
  obtain ⟨S8, gS8⟩ : ∃ z, S % 256 = z := ⟨_, rfl⟩
  rw [gS8] at HE hw8
  clear h gE gM0 gn gm gN gS hs gS8
  go_enter Try.func22, Try.ntmps22
  go_upto_region 2 with (first | (go_at_call 40; refine HC.out.mono ?_; rintro e w2 ⟨g, rfl, hg, hw, hb⟩; have HG := Lib.hid hg; have HW := Lib.hid hw; have HB := Lib.hid hb; clear hg hw hb))
  clear hw1
  obtain ⟨b0, hb0⟩ : ∃ b, M0[n]? = some b := ⟨_, List.getElem?_eq_getElem (by rw [HM0.out]; exact hnN)⟩
  have hcell := HW.out.cell (i := n) (v := .int .u8 (b0 : Int)) (by rw [rows_get, hb0]; rfl)
  have hfree := HW.out.free n
  clear hb0
  go_upto_region 3 with fail
  have HW2 : RowKit.Hid (Whole (w2.setCell ⟨g, n, none⟩ (.int .u8 (S8 : Int))) g 5 (rowsV f8 (M0.set n S8))) := Lib.hid (by have := HW.out.set_ n (.int .u8 (S8 : Int)); rwa [rows8_set] at this)
  have HB2 := Lib.hid (HB.out.setCell (p := ⟨g, n, none⟩) HG.out (.int .u8 (S8 : Int)))
  obtain ⟨w3, gw3⟩ : ∃ z, w2.setCell ⟨g, n, none⟩ (.int .u8 (S8 : Int)) = z := ⟨_, rfl⟩
  rw [gw3] at HW2 HB2 ⊢
  clear gw3 HW HB hcell hfree
  obtain ⟨A1, hA1⟩ : ∃ A1, (if N = n + 1 then some (⟨g, 0, none⟩ : Addr) else (some (⟨g, 0, none⟩ : Addr)).map (·.add ((n + 1) * 1))) = A1 := ⟨_, rfl⟩
  have hNS : n + 1 + s.size = N := by have := Hm.out; have := HN.out; have := Hs.out; omega
  have hNS2 : N - (n + 1) = s.size := by omega
  obtain ⟨w4, hrun, hw4, hb4⟩ := copy_str (c := N - (n + 1)) 3 s HW2.out (by rw [List.length_set]; exact HM0.out) hNS hA1 HB2.out HG.out
  have HW4 := Lib.hid hw4
  have HB4 := Lib.hid hb4
  rw [HE.out] at HW4
  refine wp_region_lit ?_
  refine wl_read (v := ?_) (some 18) rfl (by rfl) ?_ ?_
  rotate_left
  · go_simp; (try with_reducible rfl)
  simp only [Act.put, List.setIfInBounds_toArray, List.set_cons_zero, List.set_cons_succ]
  refine wl_read (v := ?_) (some 19) rfl (by rfl) ?_ ?_
  rotate_left
  · go_simp; (try with_reducible rfl)
  simp only [Act.put, List.setIfInBounds_toArray, List.set_cons_zero, List.set_cons_succ]
  refine wl_read (v := ?_) (some 20) rfl (by rfl) ?_ ?_
  rotate_left
  · go_simp; (try with_reducible rfl)
  simp only [Act.put, List.setIfInBounds_toArray, List.set_cons_zero, List.set_cons_succ]
  refine wl_read (v := ?_) (some 21) rfl (by rfl) ?_ ?_
  rotate_left
  · go_simp; (try with_reducible rfl)
  simp only [Act.put, List.setIfInBounds_toArray, List.set_cons_zero, List.set_cons_succ]
  refine wl_run (some 22) rfl (by rfl) (exec_slice_low_as 43 5 (.tmp 18) (.tmp 21) rfl Try.underlying43 (s := 1) (by kernel_rfl) rfl (by rfl) (by omega) hA1 hNS2 rfl) ?_
  simp only [Act.put, List.setIfInBounds_toArray, List.set_cons_zero, List.set_cons_succ]
  refine wl_read (v := ?_) (some 23) rfl (by rfl) ?_ ?_
  rotate_left
  · go_simp; (try with_reducible rfl)
  simp only [Act.put, List.setIfInBounds_toArray, List.set_cons_zero, List.set_cons_succ]
  refine wl_run (some 24) rfl (by rfl) (exec_copy (.tmp 22) (.tmp 23) 43 9 rfl rfl rfl hrun) ?_
  clear hrun hw4 hb4
  go_wp2
  go_ret
  exact gives8_whole Hl.out hNb HG.out HW4.out HB4.out

end Go.Proofs.Ytahbfdhjgnlmdaa

/- pack.number, TakeNum. -/
namespace Go.Proofs.Ytahbfdhjgnlmdaa
open Go.RowKit
set_option linter.unusedSimpArgs false
set_option linter.unusedVariables false

theorem ofInt_64 (a : Nat) (ha : a < 18446744073709551616) : (BitVec.ofInt 64 (a : Int)).toNat = a := by
  rw [BitVec.ofInt_natCast, BitVec.toNat_ofNat]; exact Nat.mod_eq_of_lt (by omega)
theorem u64_or_byte (x b : Nat) (hx : x < 72057594037927936) (hb : b < 256) : bits .or .u64 ((x : Int) * 256) (b : Int) = ((x * 256 + b : Nat) : Int) := by
  have e : ((x : Int) * 256) = ((2 ^ 8 * x : Nat) : Int) := by omega
  rw [e]
  show IntKind.u64.wrap ((BitVec.ofInt 64 ((2 ^ 8 * x : Nat) : Int) ||| BitVec.ofInt 64 (b : Int)).toNat : Int) = _
  rw [BitVec.toNat_or, ofInt_64 _ (by omega), ofInt_64 b (by omega), ← Nat.two_pow_add_eq_or_of_lt (by omega) x, IntKind.wrap_u64]
  omega
/-- The byte at a place. -/
theorem byte_at {W : World} {B n c : Nat} {A : Option Addr} {L : List Nat} (h : RdS W B 1 A n c (rowsV f8 L)) (hn : 0 < n) : ∃ bb off, A = some ⟨bb, off, none⟩ ∧ bb < B ∧ ∀ (j b : Nat), L[j]? = some b → W.cell? ⟨bb, off + j, none⟩ = some (.int .u8 (b : Int)) := by
  obtain ⟨bb, off, rfl, hb, hp⟩ := h.place f8_len (by decide) hn
  refine ⟨bb, off, rfl, hb, fun j b hj => ?_⟩
  have := hp j b hj 0 _ rfl
  rw [Addr.add_lit] at this
  simpa using this
set_option maxRecDepth 100000 in
set_option maxHeartbeats 1000000 in
theorem number_any (A : Option Addr) (n c : Nat) (L : List Nat) (w : World) (h : RdS w w.heap.size 1 A n c (rowsV f8 L)) (hn : 8 ≤ n) (hb : ∀ b ∈ L, b < 256) :
    Calls Try.prog 39 #[.slice A n c] w fun e w' => e = .returned (.int .i64 (num8 (L.take 8))) ∧ w = w' := by
  obtain ⟨bb, off, rfl, -, hp⟩ := byte_at h (by omega)
  have hl := h.rlen f8_len (by decide)
  have hc := h.le
  have Hp := Lib.hid hp
  have Hb := Lib.hid hb
  have Hlt := Lib.hid (fun k hk => deN_lt hb k hk)
  unfold num8
  obtain ⟨x, gx⟩ : ∃ x, IntKind.i64.wrap ((deN (L.take 8) : Nat) : Int) = x := ⟨_, rfl⟩
  rw [gx]
  have Gx := Lib.hid gx
  clear h hp hb gx
  go_enter Try.func39, Try.ntmps39
  go_wp2
  go_loop [3, 9] (fun u i => ∃ k : Nat, k ≤ 8 ∧ u = .int .u64 ((deN (L.take k) : Nat) : Int) ∧ i = .int .i64 (k : Int)) (fun _ i => 8 - (intOf i).toNat)
  case atStart => exact ⟨0, by omega, by simp [deN], by simp⟩
  case round =>
    obtain ⟨k, hk, rfl, rfl⟩ := hrel
    by_cases hlt : k < 8
    · obtain ⟨b, hbk⟩ : ∃ b, L[k]? = some b := ⟨_, List.getElem?_eq_getElem (by omega)⟩
      have l0 := Hp.out k b hbk
      have hb6 : b < 256 := Hb.out b (List.mem_of_getElem? hbk)
      have hd : deN (L.take (k + 1)) = deN (L.take k) * 256 + b := by rw [take_snoc_ L k b hbk, deN_snoc]
      have hdl : deN (L.take k) < 72057594037927936 := by
        have h1 := Hlt.out k (by omega)
        have h2 : 256 ^ k ≤ 256 ^ 7 := Nat.pow_le_pow_right (by omega) (by omega)
        omega
      obtain ⟨X, gX⟩ : ∃ X, deN (L.take k) = X := ⟨_, rfl⟩
      rw [gX] at hd hdl ⊢
      have Hd := Lib.hid hd
      have ho := u64_or_byte X b hdl hb6
      have hw1 : IntKind.u64.wrap ((X : Int) * 256) = (X : Int) * 256 := by rw [IntKind.wrap_u64]; omega
      have hw2 : IntKind.u64.wrap (b : Int) = (b : Int) := by rw [IntKind.wrap_u64]; omega
      have hk8 : (k : Int) < 8 := by omega
      clear gX hd hbk
      go_wp2
      refine ⟨⟨k + 1, by omega, ?_, by go_num⟩, by simp [intOf]; omega⟩
      rw [Hd.out]
      exact congrArg (Value.int .u64) (by omega)
    · obtain rfl : k = 8 := by omega
      have hwx := Gx.out
      obtain ⟨X, gX⟩ : ∃ X, deN (L.take 8) = X := ⟨_, rfl⟩
      rw [gX] at hwx ⊢
      clear gX
      go_wp2
      go_ret
      exact ⟨rfl, rfl⟩

end Go.Proofs.Ytahbfdhjgnlmdaa

/- pack.TakeNum. -/
namespace Go.Proofs.Ytahbfdhjgnlmdaa
open Go.RowKit
set_option linter.unusedSimpArgs false
set_option linter.unusedVariables false

/-- What TakeNum tells. -/
def GivesTN (w : World) (L : List Nat) (e : Ending) (w' : World) : Prop :=
  ∃ A n c, e = .returned (.tuple #[.int .i64 (if 8 ≤ L.length then num8 (L.take 8) else 0), .slice A n c, .bool (decide (8 ≤ L.length))]) ∧ n = (if 8 ≤ L.length then L.drop 8 else L).length ∧ w'.ownsRow w.heap.size 5 1 (.slice A n c) n (rowsV f8 (if 8 ≤ L.length then L.drop 8 else L)) ∧ Below w.heap.size w w'
set_option maxRecDepth 100000 in
set_option maxHeartbeats 1000000 in
theorem takenum_any (A : Option Addr) (c : Nat) (L : List Nat) (w : World) (h : RdS w w.heap.size 1 A L.length c (rowsV f8 L)) (hn : L.length ≤ 100000) (hb : ∀ b ∈ L, b < 256) :
    Calls Try.prog 16 #[.slice A L.length c] w (GivesTN w L) := by
  unfold GivesTN
  by_cases h8 : 8 ≤ L.length
  · rw [if_pos h8, if_pos h8, decide_eq_true h8]
    have HN := Lib.hid (fun W (hW : Ext w W) => number_any A L.length c L W (h.up hW hW.size) h8 hb)
    have hlow := h.low_ (k := 8) h8
    have hdl : (L.drop 8).length = L.length - 8 := List.length_drop
    rw [show (rowsV f8 L).drop (8 * 1) = rowsV f8 (L.drop 8) from by rw [rowsV_map8, rowsV_map8, List.map_drop], ← hdl] at hlow
    obtain ⟨A1, hA1⟩ : ∃ A1, (if c = 8 then A else A.map (·.add (8 * 1))) = A1 := ⟨_, rfl⟩
    rw [hA1] at hlow
    have HC := Lib.hid (fun W (hW : Ext w W) => clone8 A1 (c - 8) (L.drop 8) W (hlow.up hW hW.size) (by rw [hdl]; omega))
    obtain ⟨M, gM⟩ : ∃ M, L.drop 8 = M := ⟨_, rfl⟩
    rw [gM] at HC hdl ⊢
    obtain ⟨x, gx⟩ : ∃ x, num8 (L.take 8) = x := ⟨_, rfl⟩
    rw [gx] at HN ⊢
    obtain ⟨n, gn⟩ : ∃ n, L.length = n := ⟨_, rfl⟩
    rw [gn] at HN hdl h8 hn ⊢
    obtain ⟨m, gm⟩ : ∃ m, M.length = m := ⟨_, rfl⟩
    have Gm := Lib.hid gm
    rw [gm] at HC hdl ⊢
    have hd1 : decide ((n : Int) < 8) = false := decide_eq_false (by omega)
    have hd2 : decide (n < 8) = false := decide_eq_false (by omega)
    have HAr := Lib.hid hA1
    have Hml := Lib.hid hdl.symm
    have H8 := Lib.hid h8
    clear h hb hlow gM gx gn gm hA1 hdl
    go_enter Try.func16, Try.ntmps16
    go_upto_region 3 with fail
    have HD : RowKit.Hid (Ext w w.drew) := Lib.hid (below_drewN w.heap.size w 1)
    refine wp_region_reg (Nil_) (by kernel_rfl) ?_
    apply wpR_next 0 (some 10)
    · simp only [List.getElem?_toArray, List.getElem?_cons_succ, List.getElem?_cons_zero]; exact rfl
    · rfl
    · kernel_rfl
    · kernel_rfl
    · kernel_rfl
    · exact fun _ _ _ _ h => h
    apply Exists.intro
    apply And.intro
    · apply yr_run; rfl; intro w' hw'; go_simp; (try with_reducible rfl)
    simp only [Act.put, List.setIfInBounds_toArray, List.set_cons_zero, List.set_cons_succ]
    apply wpR_next 2 (some 12)
    · simp only [List.getElem?_toArray, List.getElem?_cons_succ, List.getElem?_cons_zero]; exact rfl
    · rfl
    · kernel_rfl
    · kernel_rfl
    · kernel_rfl
    · exact fun _ _ _ _ h => h
    apply Exists.intro
    apply And.intro
    · apply yr_run; rfl; intro w' hw'; go_simp; (try with_reducible rfl)
    simp only [Act.put, List.setIfInBounds_toArray, List.set_cons_zero, List.set_cons_succ]
    apply wpR_next 3 (some 13)
    · simp only [List.getElem?_toArray, List.getElem?_cons_succ, List.getElem?_cons_zero]; exact rfl
    · rfl
    · kernel_rfl
    · kernel_rfl
    · kernel_rfl
    · exact fun _ _ _ _ h => h
    apply Exists.intro
    apply And.intro
    · apply yr_run; rfl; intro w' hw'; exact exec_slice_low_as 43 5 (.tmp 12) (.const (.int .i64 8)) rfl Try.underlying43 (s := 1) (by kernel_rfl) rfl rfl H8.out HAr.out Hml.out rfl
    simp only [Act.put, List.setIfInBounds_toArray, List.set_cons_zero, List.set_cons_succ]
    apply wpR_call 1 (some 11)
    · simp only [List.getElem?_toArray, List.getElem?_cons_succ, List.getElem?_cons_zero]; exact rfl
    · rfl
    · kernel_rfl
    · rfl
    · intro w'; go_simp; first | done | exact ⟨rfl, rfl⟩ | with_reducible rfl
    intro w' hw'
    refine (HN.out w' (HD.out.trans hw')).mono ?_
    rintro e w1 ⟨rfl, rfl⟩
    refine ⟨_, rfl, Kept.refl _ _, ?_⟩
    have H1 := Lib.hid (HD.out.trans hw')
    clear hw' 
    simp only [Act.put, List.setIfInBounds_toArray, List.set_cons_zero, List.set_cons_succ]
    apply wpR_call 4 (some 14)
    · simp only [List.getElem?_toArray, List.getElem?_cons_succ, List.getElem?_cons_zero]; exact rfl
    · rfl
    · kernel_rfl
    · rfl
    · intro w'; go_simp; first | done | exact ⟨rfl, rfl⟩ | with_reducible rfl
    intro w' hw'
    refine (HC.out w' (H1.out.trans hw')).mono ?_
    rintro e w3 ⟨A2, c2, rfl, -, -, ho, hb⟩
    have HO := Lib.hid (own_lo8 ho (H1.out.trans hw').size)
    have HB := Lib.hid ((H1.out.trans hw').trans hb)
    refine ⟨_, rfl, Kept.of_below hb, ?_⟩
    rw [Gm.out] at HO ⊢
    clear hw' ho hb
    simp only [Act.put, List.setIfInBounds_toArray, List.set_cons_zero, List.set_cons_succ]
    apply wpR_next 5 (some 2)
    · simp only [List.getElem?_toArray, List.getElem?_cons_succ, List.getElem?_cons_zero]; exact rfl
    · rfl
    · kernel_rfl
    · kernel_rfl
    · kernel_rfl
    · exact fun _ _ _ _ h => h
    apply Exists.intro
    apply And.intro
    · apply yr_run; rfl; intro w' hw'; go_simp; (try with_reducible rfl)
    simp only [Act.put, List.setIfInBounds_toArray, List.set_cons_zero, List.set_cons_succ]
    apply wpR_next 6 (some 3)
    · simp only [List.getElem?_toArray, List.getElem?_cons_succ, List.getElem?_cons_zero]; exact rfl
    · rfl
    · kernel_rfl
    · kernel_rfl
    · kernel_rfl
    · exact fun _ _ _ _ h => h
    apply Exists.intro
    apply And.intro
    · apply yr_run; rfl; intro w' hw'; go_simp; (try with_reducible rfl)
    simp only [Act.put, List.setIfInBounds_toArray, List.set_cons_zero, List.set_cons_succ]
    apply wpR_next 7 (some 4)
    · simp only [List.getElem?_toArray, List.getElem?_cons_succ, List.getElem?_cons_zero]; exact rfl
    · rfl
    · kernel_rfl
    · kernel_rfl
    · kernel_rfl
    · exact fun _ _ _ _ h => h
    apply Exists.intro
    apply And.intro
    · apply yr_run; rfl; intro w' hw'; go_simp; (try with_reducible rfl)
    simp only [Act.put, List.setIfInBounds_toArray, List.set_cons_zero, List.set_cons_succ]
    refine wpR_done (by kernel_rfl) ?_ _
    intro w9 hw9
    have HO9 := Lib.hid (own_up HO.out hw9)
    have HB9 := Lib.hid (HB.out.trans hw9)
    clear hw9 HO HB
    go_wp2
    refine bodyPost_ret (v := .tuple #[.int .i64 x, .slice A2 m c2, .bool true]) (by simp [results, Try.results16, go_sem]) rfl ?_
    exact ⟨A2, m, c2, rfl, rfl, HO9.out, HB9.out⟩
  · rw [if_neg h8, if_neg h8, decide_eq_false h8]
    have HC := Lib.hid (clone8 A c L w h hn)
    obtain ⟨n, gn⟩ : ∃ n, L.length = n := ⟨_, rfl⟩
    have Gn := Lib.hid gn
    rw [gn] at h8 HC ⊢
    have hd1 : decide ((n : Int) < 8) = true := decide_eq_true (by omega)
    have hd2 : decide (n < 8) = true := decide_eq_true (by omega)
    clear h gn hb hn
    go_enter Try.func16, Try.ntmps16
    go_wp2_with (first | (go_at_call 38; refine HC.out.mono ?_; rintro e w2 ⟨A2, c2, rfl, -, -, ho, hb⟩; have HO := Lib.hid ho; have HB := Lib.hid hb; clear ho hb))
    refine bodyPost_ret (v := .tuple #[.int .i64 0, .slice A2 n c2, .bool false]) (by simp [results, Try.results16, go_sem, Gn.out]) rfl ?_
    have ho := HO.out
    rw [Gn.out] at ho
    exact ⟨A2, n, c2, rfl, rfl, ho, HB.out⟩

end Go.Proofs.Ytahbfdhjgnlmdaa

/- pack.TakeText. -/
namespace Go.Proofs.Ytahbfdhjgnlmdaa
open Go.RowKit
set_option linter.unusedSimpArgs false
set_option linter.unusedVariables false

theorem Kept.ext_nil {w w' : World} (h : Kept Nil_ w w') : Ext w w' := ⟨h.os, h.tape, h.output, h.size, fun i hi => h.block i hi (fun e => e)⟩
/-- Whether bytes begin with a text. -/
def isT (L : List Nat) : Bool := decide (1 ≤ L.length ∧ 1 + c1 L ≤ L.length)
def txT (L : List Nat) : ByteArray := if isT L = true then txt ((L.drop 1).take (c1 L)) else { data := #[] }
def leT (L : List Nat) : List Nat := if isT L = true then L.drop (1 + c1 L) else L
/-- What TakeText tells. -/
def GivesTT (w : World) (L : List Nat) (e : Ending) (w' : World) : Prop :=
  ∃ A n c, e = .returned (.tuple #[.string (txT L), .slice A n c, .bool (isT L)]) ∧ n = (leT L).length ∧ w'.ownsRow w.heap.size 5 1 (.slice A n c) n (rowsV f8 (leT L)) ∧ Below w.heap.size w w'
set_option maxRecDepth 100000 in
set_option maxHeartbeats 1000000 in
theorem taketext_any (A : Option Addr) (c : Nat) (L : List Nat) (w : World) (h : RdS w w.heap.size 1 A L.length c (rowsV f8 L)) (hn : L.length ≤ 100000) (hb : ∀ b ∈ L, b < 256) :
    Calls Try.prog 18 #[.slice A L.length c] w (GivesTT w L) := by
  unfold GivesTT
  by_cases hT : isT L = true
  · obtain ⟨h1, h2⟩ := of_decide_eq_true hT
    obtain ⟨b, hb0⟩ : ∃ b, L[0]? = some b := ⟨_, List.getElem?_eq_getElem (by omega)⟩
    have hc1 : c1 L = b := by unfold c1; cases L with | nil => cases hb0 | cons x L => simpa using hb0
    have hb6 : b < 256 := hb b (List.mem_of_getElem? hb0)
    unfold txT leT
    rw [if_pos hT, if_pos hT, hT]
    rw [hc1] at h2 ⊢
    have hlow := h.low_ (k := 1 + b) h2
    have hdl : (L.drop (1 + b)).length = L.length - (1 + b) := List.length_drop
    rw [show (rowsV f8 L).drop ((1 + b) * 1) = rowsV f8 (L.drop (1 + b)) from by rw [rowsV_map8, rowsV_map8, List.map_drop, Nat.mul_one], ← hdl] at hlow
    obtain ⟨A1, hA1⟩ : ∃ A1, (if c = 1 + b then A else A.map (·.add ((1 + b) * 1))) = A1 := ⟨_, rfl⟩
    rw [hA1] at hlow
    have HC := Lib.hid (fun W (hW : Ext w W) => clone8 A1 (c - (1 + b)) (L.drop (1 + b)) W (hlow.up hW hW.size) (by rw [hdl]; omega))
    -- the text
    have hmid := h.low_ (k := 1) h1
    rw [show (rowsV f8 L).drop (1 * 1) = rowsV f8 (L.drop 1) from by rw [rowsV_map8, rowsV_map8, List.map_drop]] at hmid
    obtain ⟨A3, hA3⟩ : ∃ A3, (if c = 1 then A else A.map (·.add (1 * 1))) = A3 := ⟨_, rfl⟩
    rw [hA3] at hmid
    have htk := hmid.take_ b (by omega)
    rw [show (rowsV f8 (L.drop 1)).take (b * 1) = rowsV f8 ((L.drop 1).take b) from by rw [rowsV_map8, rowsV_map8, List.map_take, Nat.mul_one]] at htk
    have HV := Lib.hid (fun W (hW : Ext w W) => conv_txt (htk.up hW hW.size))
    obtain ⟨s, gs⟩ : ∃ s, txt ((L.drop 1).take b) = s := ⟨_, rfl⟩
    rw [gs] at HV ⊢
    obtain ⟨M, gM⟩ : ∃ M, L.drop (1 + b) = M := ⟨_, rfl⟩
    rw [gM] at HC hdl ⊢
    obtain ⟨bb, off, rfl, -, hp⟩ := byte_at h (by omega)
    have l0 := hp 0 b hb0
    rw [Nat.add_zero] at l0
    obtain ⟨n, gn⟩ : ∃ n, L.length = n := ⟨_, rfl⟩
    have hle := h.le
    rw [gn] at hdl h1 h2 hn hle ⊢
    obtain ⟨m, gm⟩ : ∃ m, M.length = m := ⟨_, rfl⟩
    have Gm := Lib.hid gm
    rw [gm] at HC hdl ⊢
    have hw1 : IntKind.i64.wrap (1 + (b : Int)) = ((1 + b : Nat) : Int) := by rw [IntWalk.i64_in _ (by omega)]; omega
    have hw2 : IntKind.i64.wrap (b : Int) = (b : Int) := IntWalk.i64_in _ (by omega)
    obtain ⟨e, ge⟩ : ∃ e, 1 + b = e := ⟨_, rfl⟩
    rw [ge] at hw1 hA1 hdl HC h2
    have heb : RowKit.Hid (e - 1 = b) := Lib.hid (by omega)
    have He1 : RowKit.Hid (1 ≤ e ∧ e ≤ c ∧ e ≤ n) := Lib.hid (by omega)
    have d1 : decide (n ≤ b) = false := decide_eq_false (by omega)
    have d2 : decide ((n : Int) ≤ (b : Int)) = false := decide_eq_false (by omega)
    have d3 : ((n : Int) == 0) = false := beq_eq_false_iff_ne.2 (by omega)
    have d4 : (n == 0) = false := beq_eq_false_iff_ne.2 (by omega)
    have d5 : (0 : Int) < (n : Int) := by omega
    have HAr := Lib.hid hA1
    have HAs := Lib.hid hA3
    have Hml := Lib.hid hdl.symm
    clear h hb hlow hmid htk gs gM gn gm ge hA1 hA3 hdl hb0 hc1 hp hT hle
    go_enter Try.func18, Try.ntmps18
    go_upto_region 4 with fail
    have HD : RowKit.Hid (Ext w w.drew) := Lib.hid (below_drewN w.heap.size w 1)
    refine wp_region_reg (Nil_) (by kernel_rfl) ?_
    apply wpR_next 0 (some 25)
    · simp only [List.getElem?_toArray, List.getElem?_cons_succ, List.getElem?_cons_zero]; exact rfl
    · rfl
    · kernel_rfl
    · kernel_rfl
    · kernel_rfl
    · exact fun _ _ _ _ h => h
    apply Exists.intro
    apply And.intro
    · apply yr_run; rfl; intro w' hw'; go_simp; (try with_reducible rfl)
    simp only [Act.put, List.setIfInBounds_toArray, List.set_cons_zero, List.set_cons_succ]
    apply wpR_next 1 (some 26)
    · simp only [List.getElem?_toArray, List.getElem?_cons_succ, List.getElem?_cons_zero]; exact rfl
    · rfl
    · kernel_rfl
    · kernel_rfl
    · kernel_rfl
    · exact fun _ _ _ _ h => h
    apply Exists.intro
    apply And.intro
    · apply yr_run; rfl; intro w' hw'; go_simp; (try with_reducible rfl)
    simp only [Act.put, List.setIfInBounds_toArray, List.set_cons_zero, List.set_cons_succ]
    apply wpR_next 2 (some 27)
    · simp only [List.getElem?_toArray, List.getElem?_cons_succ, List.getElem?_cons_zero]; exact rfl
    · rfl
    · kernel_rfl
    · kernel_rfl
    · kernel_rfl
    · exact fun _ _ _ _ h => h
    apply Exists.intro
    apply And.intro
    · apply yr_run; rfl; intro w' hw'; exact exec_slice_as 43 5 (.tmp 25) (.const (.int .i64 1)) (.tmp 26) rfl Try.underlying43 (s := 1) (by kernel_rfl) rfl rfl rfl He1.out.1 He1.out.2.1 HAs.out heb.out rfl
    simp only [Act.put, List.setIfInBounds_toArray, List.set_cons_zero, List.set_cons_succ]
    apply wpR_next 3 (some 28)
    · simp only [List.getElem?_toArray, List.getElem?_cons_succ, List.getElem?_cons_zero]; exact rfl
    · rfl
    · kernel_rfl
    · kernel_rfl
    · kernel_rfl
    · exact fun _ _ _ _ h => h
    apply Exists.intro
    apply And.intro
    · apply yr_run; rfl; intro w' hw'; exact exec_convert 43 9 (.tmp 27) rfl rfl (HV.out w' (HD.out.trans hw'.ext_nil))
    simp only [Act.put, List.setIfInBounds_toArray, List.set_cons_zero, List.set_cons_succ]
    apply wpR_next 4 (some 29)
    · simp only [List.getElem?_toArray, List.getElem?_cons_succ, List.getElem?_cons_zero]; exact rfl
    · rfl
    · kernel_rfl
    · kernel_rfl
    · kernel_rfl
    · exact fun _ _ _ _ h => h
    apply Exists.intro
    apply And.intro
    · apply yr_run; rfl; intro w' hw'; go_simp; (try with_reducible rfl)
    simp only [Act.put, List.setIfInBounds_toArray, List.set_cons_zero, List.set_cons_succ]
    apply wpR_next 5 (some 30)
    · simp only [List.getElem?_toArray, List.getElem?_cons_succ, List.getElem?_cons_zero]; exact rfl
    · rfl
    · kernel_rfl
    · kernel_rfl
    · kernel_rfl
    · exact fun _ _ _ _ h => h
    apply Exists.intro
    apply And.intro
    · apply yr_run; rfl; intro w' hw'; go_simp; (try with_reducible rfl)
    simp only [Act.put, List.setIfInBounds_toArray, List.set_cons_zero, List.set_cons_succ]
    apply wpR_next 6 (some 31)
    · simp only [List.getElem?_toArray, List.getElem?_cons_succ, List.getElem?_cons_zero]; exact rfl
    · rfl
    · kernel_rfl
    · kernel_rfl
    · kernel_rfl
    · exact fun _ _ _ _ h => h
    apply Exists.intro
    apply And.intro
    · apply yr_run; rfl; intro w' hw'; exact exec_slice_low_as 43 5 (.tmp 29) (.tmp 30) rfl Try.underlying43 (s := 1) (by kernel_rfl) rfl rfl He1.out.2.2 HAr.out Hml.out rfl
    simp only [Act.put, List.setIfInBounds_toArray, List.set_cons_zero, List.set_cons_succ]
    apply wpR_call 7 (some 32)
    · simp only [List.getElem?_toArray, List.getElem?_cons_succ, List.getElem?_cons_zero]; exact rfl
    · rfl
    · kernel_rfl
    · rfl
    · intro w'; go_simp; first | done | exact ⟨rfl, rfl⟩ | with_reducible rfl
    intro w' hw'
    refine (HC.out w' (HD.out.trans hw')).mono ?_
    rintro e w3 ⟨A2, c2, rfl, -, -, ho, hb⟩
    have HO := Lib.hid (own_lo8 ho (HD.out.trans hw').size)
    have HB := Lib.hid ((HD.out.trans hw').trans hb)
    refine ⟨_, rfl, Kept.of_below hb, ?_⟩
    rw [Gm.out] at HO ⊢
    clear hw' ho hb
    simp only [Act.put, List.setIfInBounds_toArray, List.set_cons_zero, List.set_cons_succ]
    apply wpR_next 8 (some 2)
    · simp only [List.getElem?_toArray, List.getElem?_cons_succ, List.getElem?_cons_zero]; exact rfl
    · rfl
    · kernel_rfl
    · kernel_rfl
    · kernel_rfl
    · exact fun _ _ _ _ h => h
    apply Exists.intro
    apply And.intro
    · apply yr_run; rfl; intro w' hw'; go_simp; (try with_reducible rfl)
    simp only [Act.put, List.setIfInBounds_toArray, List.set_cons_zero, List.set_cons_succ]
    apply wpR_next 9 (some 3)
    · simp only [List.getElem?_toArray, List.getElem?_cons_succ, List.getElem?_cons_zero]; exact rfl
    · rfl
    · kernel_rfl
    · kernel_rfl
    · kernel_rfl
    · exact fun _ _ _ _ h => h
    apply Exists.intro
    apply And.intro
    · apply yr_run; rfl; intro w' hw'; go_simp; (try with_reducible rfl)
    simp only [Act.put, List.setIfInBounds_toArray, List.set_cons_zero, List.set_cons_succ]
    apply wpR_next 10 (some 4)
    · simp only [List.getElem?_toArray, List.getElem?_cons_succ, List.getElem?_cons_zero]; exact rfl
    · rfl
    · kernel_rfl
    · kernel_rfl
    · kernel_rfl
    · exact fun _ _ _ _ h => h
    apply Exists.intro
    apply And.intro
    · apply yr_run; rfl; intro w' hw'; go_simp; (try with_reducible rfl)
    simp only [Act.put, List.setIfInBounds_toArray, List.set_cons_zero, List.set_cons_succ]
    refine wpR_done (by kernel_rfl) ?_ _
    intro w9 hw9
    have HO9 := Lib.hid (own_up HO.out hw9)
    have HB9 := Lib.hid (HB.out.trans hw9)
    clear hw9 HO HB
    go_wp2
    refine bodyPost_ret (v := .tuple #[.string s, .slice A2 m c2, .bool true]) (by simp [results, Try.results18, go_sem]) rfl ?_
    exact ⟨A2, m, c2, rfl, rfl, HO9.out, HB9.out⟩
  · have hf : isT L = false := by simpa using hT
    unfold txT leT
    rw [if_neg hT, if_neg hT, hf]
    have HC := Lib.hid (clone8 A c L w h hn)
    by_cases h1 : 1 ≤ L.length
    · obtain ⟨b, hb0⟩ : ∃ b, L[0]? = some b := ⟨_, List.getElem?_eq_getElem (by omega)⟩
      have hc1 : c1 L = b := by unfold c1; cases L with | nil => cases hb0 | cons x L => simpa using hb0
      have hb6 : b < 256 := hb b (List.mem_of_getElem? hb0)
      have hlt : ¬ (1 + b ≤ L.length) := fun q => by rw [← hc1] at q; exact hT (decide_eq_true ⟨h1, q⟩)
      obtain ⟨bb, off, rfl, -, hp⟩ := byte_at h (by omega)
      have l0 := hp 0 b hb0
      rw [Nat.add_zero] at l0
      obtain ⟨n, gn⟩ : ∃ n, L.length = n := ⟨_, rfl⟩
      have Gn := Lib.hid gn
      have hle := h.le
      rw [gn] at hlt h1 HC hle ⊢
      have hw2 : IntKind.i64.wrap (b : Int) = (b : Int) := IntWalk.i64_in _ (by omega)
      have d1 : decide (n ≤ b) = true := decide_eq_true (by omega)
      have d2 : decide ((n : Int) ≤ (b : Int)) = true := decide_eq_true (by omega)
      have d3 : ((n : Int) == 0) = false := beq_eq_false_iff_ne.2 (by omega)
      have d4 : (n == 0) = false := beq_eq_false_iff_ne.2 (by omega)
      have d5 : (0 : Int) < (n : Int) := by omega
      clear h hb gn hn hb0 hc1 hp hT hlt hf
      go_enter Try.func18, Try.ntmps18
      go_wp2_with (first | (go_at_call 38; refine HC.out.mono ?_; rintro e w2 ⟨A2, c2, rfl, -, -, ho, hb⟩; have HO := Lib.hid ho; have HB := Lib.hid hb; clear ho hb))
      refine bodyPost_ret (v := .tuple #[.string { data := #[] }, .slice A2 n c2, .bool false]) (by simp [results, Try.results18, go_sem, Gn.out]) rfl ?_
      have ho := HO.out
      rw [Gn.out] at ho
      exact ⟨A2, n, c2, rfl, rfl, ho, HB.out⟩
    · obtain ⟨n, gn⟩ : ∃ n, L.length = n := ⟨_, rfl⟩
      have Gn := Lib.hid gn
      rw [gn] at h1 HC ⊢
      obtain rfl : n = 0 := by omega
      clear h hb gn hn hT hf
      go_enter Try.func18, Try.ntmps18
      go_wp2_with (first | (go_at_call 38; refine HC.out.mono ?_; rintro e w2 ⟨A2, c2, rfl, -, -, ho, hb⟩; have HO := Lib.hid ho; have HB := Lib.hid hb; clear ho hb))
      refine bodyPost_ret (v := .tuple #[.string { data := #[] }, .slice A2 0 c2, .bool false]) (by simp [results, Try.results18, go_sem, Gn.out]) rfl ?_
      have ho := HO.out
      rw [Gn.out] at ho
      exact ⟨A2, 0, c2, rfl, rfl, ho, HB.out⟩

end Go.Proofs.Ytahbfdhjgnlmdaa

/- ident.Put; pack.head. -/
namespace Go.Proofs.Ytahbfdhjgnlmdaa
open Go.RowKit
set_option linter.unusedSimpArgs false
set_option linter.unusedVariables false

theorem exec_makeSlice {P : Program} {ev : Operand → Value} {o : Oper} {w w' : World} (t : TypeId) (l c : Operand) (ho : o.op = .makeSlice t l c) {x y v : Value} (hl : ev l = x) (hc : ev c = y)
    (hrun : (Instr.makeSlice t x y).run P w = .ok v w') : (execOp ev o).run P w = .ok (.value v) w' := by
  unfold execOp
  simp only [ho, hl, hc, Sem.run_bind, Sem.run_pure, Result.andThen_ok, hrun]
/-- A row of one's own is what a call gives. -/
theorem gives8_ow {w w' : World} {L : List Nat} {N : Nat} {v : Value} (hN : L.length = N) (h : Ow w w.heap.size 5 1 v N (rowsV f8 L) w') : ∃ A c, v = .slice A N c ∧ Gives8 w L (.returned (.slice A N c)) w' := by
  subst hN
  obtain ⟨A, c, rfl, hr⟩ := h.rds
  exact ⟨A, c, rfl, A, c, rfl, hr, fun a ha _ => by subst ha; exact (h.own.lt a.block rfl).1, h.own, h.below⟩
set_option maxRecDepth 100000 in
set_option maxHeartbeats 1000000 in
theorem idput_any (A : Option Addr) (c : Nat) (L : List Nat) (x1 x2 : Int) (w : World) (h : RdS w w.heap.size 1 A L.length c (rowsV f8 L)) (hn : L.length ≤ 900000) :
    Calls Try.prog 56 #[.slice A L.length c, .agg #[.int .i64 x1, .int .i64 x2]] w (Gives8 w (L ++ idB (x1, x2))) := by
  obtain ⟨i0, hi, hz0, hz1, hz2⟩ := info_parts_ info_u8
  have HR := Lib.hid h
  obtain ⟨n, gn⟩ : ∃ n, L.length = n := ⟨_, rfl⟩
  have Gn := Lib.hid gn
  rw [gn] at HR hn ⊢
  have hw4 : IntKind.i64.wrap ((n : Int) + 4) = ((n + 4 : Nat) : Int) := by rw [IntWalk.i64_in _ (by omega)]; omega
  obtain ⟨n4, gn4⟩ : ∃ z, n + 4 = z := ⟨_, rfl⟩
  rw [gn4] at hw4
  have HX1 : RowKit.Hid (Whole (w.alloc (.cells #[.int .i64 x1, .int .i64 x2] 31)) w.heap.size 31 [.int .i64 x1, .int .i64 x2]) := Lib.hid (Whole.new_ _ _ [_, _])
  have HR1 := Lib.hid (HR.out.al (.cells #[.int .i64 x1, .int .i64 x2] 31))
  have HB1 := Lib.hid (below1 w (.cells #[.int .i64 x1, .int .i64 x2] 31))
  have Hone := Lib.hid (f8_all L)
  clear h gn
  go_enter Try.func56, Try.ntmps56
  go_upto_region 1 with fail
  obtain ⟨w1, gw1⟩ : ∃ z, w.alloc (.cells #[.int .i64 x1, .int .i64 x2] 31) = z := ⟨_, rfl⟩
  rw [gw1] at HX1 HR1 HB1 ⊢
  clear gw1
  refine wp_region_lit ?_
  refine wl_read (v := ?_) (some 6) rfl (by rfl) ?_ ?_
  rotate_left
  · go_simp; (try with_reducible rfl)
  simp only [Act.put, List.setIfInBounds_toArray, List.set_cons_zero, List.set_cons_succ]
  refine wl_read (v := ?_) (some 7) rfl (by rfl) ?_ ?_
  rotate_left
  · go_simp; (try with_reducible rfl)
  simp only [Act.put, List.setIfInBounds_toArray, List.set_cons_zero, List.set_cons_succ]
  refine wl_read (v := ?_) (some 8) rfl (by rfl) ?_ ?_
  rotate_left
  · go_simp; (try with_reducible rfl)
  simp only [Act.put, List.setIfInBounds_toArray, List.set_cons_zero, List.set_cons_succ]
  obtain ⟨w2, hrun, hown, hgr⟩ := run_make_own (P := Try.prog) w1 w1.heap.size 43 5 i0 _ 1 Try.underlying43 hi hz0 hz1 .i64 .i64 n4 (by rw [hz2]; omega) (by unfold maxLen; omega) (Nat.le_refl _)
  refine wl_run (some 9) rfl (by rfl) (exec_makeSlice 43 _ _ rfl (by rfl) (by rfl) hrun) ?_
  simp only [Act.put, List.setIfInBounds_toArray, List.set_cons_zero, List.set_cons_succ]
  have HP0 : RowKit.Hid (Ow w1 w1.heap.size 5 1 (.slice (some ⟨w1.heap.size, 0, none⟩) 0 n4) 0 [] w2) := Lib.hid ⟨hown, (Below.refl _ _).grown hgr (Nat.le_refl _) (fun k e => by cases e), Nat.le_refl _, hgr.size⟩
  have HR2 := Lib.hid (HR1.out.bl HP0.out.below)
  have HX2 := Lib.hid (HX1.out.bl HP0.out.below)
  obtain ⟨b0, gb0⟩ : ∃ z, w.heap.size = z := ⟨_, rfl⟩
  rw [gb0] at HX1 HX2 ⊢
  have Gb0 := Lib.hid gb0
  clear hrun hown hgr hw4 gn4 gb0
  go_upto_region 3 with (first
    | (at_builtin
       refine wpList_push2 rfl (.tmp 10) (.tmp 11) _ rfl _ 5 i0 _ 1 1 Try.underlying43 hi hz0 hz1 hz2 rfl (by decide) _ _ _ rfl HP0.out _ _ _ _ _ rfl HR2.out Hone.out (by unfold maxLen; omega) (by omega) ?_
       intro v1 w3 how1 hb1 hgr1
       rw [Nat.zero_add, List.nil_append] at how1
       have HP1 := Lib.hid how1
       have HX3 := Lib.hid (HX1.out.bl HP1.out.below)
       clear how1 hb1 hgr1))
  have c0 := HX3.out.cell (i := 0) rfl
  have c1 := HX3.out.cell (i := 1) rfl
  have u1 : IntKind.u8.wrap x1 = (((x1 % 256).toNat : Nat) : Int) := by rw [IntKind.wrap_u8]; omega
  have u2 : IntKind.u8.wrap (x2 / 65536) = (((x2 / 65536 % 256).toNat : Nat) : Int) := by rw [IntKind.wrap_u8]; omega
  have u3 : IntKind.u8.wrap (x2 / 256) = (((x2 / 256 % 256).toNat : Nat) : Int) := by rw [IntKind.wrap_u8]; omega
  have u4 : IntKind.u8.wrap x2 = (((x2 % 256).toNat : Nat) : Int) := by rw [IntKind.wrap_u8]; omega
  have hl : (L ++ idB (x1, x2)).length = n + 4 := by rw [List.length_append, Gn.out]; rfl
  have hrows : rowsV f8 L ++ [.int .u8 (((x1 % 256).toNat : Nat) : Int), .int .u8 (((x2 / 65536 % 256).toNat : Nat) : Int), .int .u8 (((x2 / 256 % 256).toNat : Nat) : Int), .int .u8 (((x2 % 256).toNat : Nat) : Int)] = rowsV f8 (L ++ idB (x1, x2)) := by rw [rows8_app]; rfl
  obtain ⟨q1, g1⟩ : ∃ z, (x1 % 256).toNat = z := ⟨_, rfl⟩
  obtain ⟨q2, g2⟩ : ∃ z, (x2 / 65536 % 256).toNat = z := ⟨_, rfl⟩
  obtain ⟨q3, g3⟩ : ∃ z, (x2 / 256 % 256).toNat = z := ⟨_, rfl⟩
  obtain ⟨q4, g4⟩ : ∃ z, (x2 % 256).toNat = z := ⟨_, rfl⟩
  rw [g1] at u1 hrows
  rw [g2] at u2 hrows
  rw [g3] at u3 hrows
  rw [g4] at u4 hrows
  have Hrows := Lib.hid hrows
  have Hl := Lib.hid hl
  clear hrows hl g1 g2 g3 g4 HX1 HX2
  go_wp2_with (first
    | (at_builtin
       refine wpList_push2 rfl (.tmp 13) (.tmp 28) _ rfl _ 5 i0 _ 1 1 Try.underlying43 hi hz0 hz1 hz2 rfl (by decide) _ _ _ rfl (by exact Ow.up HP1.out (below1 _ _)) _ (some ⟨w3.heap.size, 0, none⟩) 4 4 ([.int .u8 (q1 : Int), .int .u8 (q2 : Int), .int .u8 (q3 : Int), .int .u8 (q4 : Int)]) rfl (by exact RdS.new_ rfl (Nat.lt_succ_self _) rfl rfl) (by simp [Value.oneCell']) (by unfold maxLen; omega) (by omega) ?_
       intro v1 w5 how1 hb1 hgr1
       rw [Hrows.out] at how1
       have HP2 := Lib.hid how1
       clear how1 hb1 hgr1))
  obtain ⟨A9, c9, rfl, hG⟩ := gives8_ow Hl.out ⟨own_lo8 HP2.out.own (by have := HB1.out.size; omega), HB1.out.trans (HP2.out.below.mono HB1.out.size), Nat.le_refl _, (HB1.out.trans (HP2.out.below.mono HB1.out.size)).size⟩
  go_ret
  exact hG

end Go.Proofs.Ytahbfdhjgnlmdaa

/- pack.head. -/
namespace Go.Proofs.Ytahbfdhjgnlmdaa
open Go.RowKit
set_option linter.unusedSimpArgs false
set_option linter.unusedVariables false

set_option maxRecDepth 100000 in
set_option maxHeartbeats 1000000 in
theorem head_any (x1 x2 : Int) (s : ByteArray) (a : Int) (w : World) (hs : s.size ≤ 100000) :
    Calls Try.prog 42 #[.agg #[.int .i64 x1, .int .i64 x2], .string s, .int .i64 a] w (Gives8 w (headB (x1, x2) s a)) := by
  have HX1 : RowKit.Hid (Whole (w.alloc (.cells #[.int .i64 x1, .int .i64 x2] 31)) w.heap.size 31 [.int .i64 x1, .int .i64 x2]) := Lib.hid (Whole.new_ _ _ [_, _])
  have HB1 := Lib.hid (below1 w (.cells #[.int .i64 x1, .int .i64 x2] 31))
  have HA := Lib.hid (fun W => idput_any none 0 [] x1 x2 W (rds_nil W W.heap.size 1) (by simp))
  have hl1 : ([] ++ idB (x1, x2)).length = 4 := rfl
  have HT := Lib.hid (fun (A : Option Addr) (c : Nat) W h => text_any A c ([] ++ idB (x1, x2)) s W h (by rw [hl1]; omega) (by omega))
  obtain ⟨L2, gL2⟩ : ∃ z, [] ++ idB (x1, x2) ++ textB s = z := ⟨_, rfl⟩
  have hl2 : L2.length ≤ 900000 := by rw [← gL2]; simp [idB, textB, tB_len]; omega
  have HN := Lib.hid (fun (A : Option Addr) (c : Nat) W h => num_any A c L2 a W h hl2)
  have e3 : L2 ++ be8 a = headB (x1, x2) s a := by rw [← gL2, headB, List.nil_append, List.append_assoc]
  rw [e3] at HN
  rw [gL2] at HT
  rw [hl1] at HT
  obtain ⟨L1, gL1⟩ : ∃ z, [] ++ idB (x1, x2) = z := ⟨_, rfl⟩
  rw [gL1] at HA HT hl1
  have Hl1 := Lib.hid hl1
  obtain ⟨L3, gL3⟩ : ∃ z, headB (x1, x2) s a = z := ⟨_, rfl⟩
  rw [gL3] at HN ⊢
  clear gL1 gL2 gL3 e3 hl1 hl2 hs
  go_enter Try.func42, Try.ntmps42
  go_upto_region 1 with fail
  have c0 := HX1.out.cell (i := 0) rfl
  have c1 := HX1.out.cell (i := 1) rfl
  go_wp2_with (first
    | (go_at_call 56
       refine (HA.out _).mono ?_
       rintro e w2 ⟨A2, c2, rfl, hr2, -, -, hb2⟩
       have HR2 := Lib.hid hr2
       have HB2 : RowKit.Hid (Below w.heap.size w w2) := Lib.hid (Ext.trans HB1.out hb2)
       rw [Hl1.out] at HR2 ⊢
       clear hr2 hb2 c0 c1)
    | (go_at_call 22
       refine (HT.out A2 c2 _ HR2.out).mono ?_
       rintro e w3 ⟨A3, c3, rfl, hr3, -, -, hb3⟩
       have HR3 := Lib.hid hr3
       have HB3 : RowKit.Hid (Below w.heap.size w w3) := Lib.hid (Ext.trans HB2.out hb3)
       clear hr3 hb3)
    | (go_at_call 20
       refine (HN.out A3 c3 _ HR3.out).mono ?_
       rintro e w4 ⟨A4, c4, rfl, hr4, hn4, ho4, hb4⟩
       have HG : RowKit.Hid (Gives8 w L3 (.returned (.slice A4 L3.length c4)) w4) := Lib.hid ⟨A4, c4, rfl, hr4, fun a ha h0 => Nat.le_trans HB3.out.size (hn4 a ha h0), own_lo8 ho4 HB3.out.size, Ext.trans HB3.out hb4⟩
       clear hr4 hn4 ho4 hb4))
  go_ret
  exact HG.out

end Go.Proofs.Ytahbfdhjgnlmdaa

/- pack.Put. -/
namespace Go.Proofs.Ytahbfdhjgnlmdaa
open Go.RowKit
set_option linter.unusedSimpArgs false
set_option linter.unusedVariables false

theorem own_ne_map {W : World} {lo kk n c b q : Nat} {T : TypeId} {A : Option Addr} {xs : List Value} {e : I2 → Option Nat} (h : W.ownsRow lo T kk (.slice A n c) n xs) (hm : EndsM W b q e) : some b ≠ (Value.slice A n c).ownBlock := by
  intro e0
  obtain ⟨D, h0, h2⟩ := hm
  obtain ⟨es, clock, h1, F, hs, hD⟩ := h0
  rcases h.2 with ⟨h3, h4⟩ | ⟨g, cap, cur, h3, hb, hg, hnc, hcm, hcs, ht⟩
  · rw [h3] at e0
    cases e0
  · rw [h3] at e0
    obtain rfl : b = g := Option.some.inj e0
    rw [h1] at hg
    cases hg
/-- Bytes appended onto a row of one's own. -/
theorem app8 {w W : World} {A A' : Option Addr} {n c m c' : Nat} {X L : List Nat} (ty : TypeId) (ho : Ow w w.heap.size 5 1 (.slice A n c) n (rowsV f8 X) W) (hr : RdS W W.heap.size 1 A' m c' (rowsV f8 L)) (hn : n + m ≤ 1000000) :
    ∃ A2 c2 W', (Builtin.append_ #[43, 43] ty #[.slice A n c, .slice A' m c']).run Try.prog W = .ok (.slice A2 (n + m) c2) W' ∧ Ow w w.heap.size 5 1 (.slice A2 (n + m) c2) (n + m) (rowsV f8 (X ++ L)) W' ∧ W.grownBy W' (Value.slice A n c).ownBlock := by
  obtain ⟨i0, hi, hz0, hz1, hz2⟩ := info_parts_ info_u8
  obtain ⟨v', W', h1, h2, h3, h4, h5⟩ := Ow.app2 (P := Try.prog) 43 ty 5 i0 _ 1 1 _ Try.underlying43 hi hz0 hz1 hz2 rfl (by decide) _ _ _ ho _ A' m c' _ hr (f8_all L) (by unfold maxLen; omega) (by omega)
  rw [← rows8_app] at h2
  obtain ⟨A2, c2, rfl, -⟩ := h2.rds
  exact ⟨A2, c2, W', h1, h2, h4⟩
/-- A literal of one byte. -/
theorem one8 (W : World) (b : Nat) : RdS (W.alloc (.cells #[.int .u8 (b : Int)] 5)) (W.alloc (.cells #[.int .u8 (b : Int)] 5)).heap.size 1 (some ⟨W.heap.size, 0, none⟩) 1 1 (rowsV f8 [b]) := RdS.of_whole8 (Whole.new_ _ _ [_]) rfl
theorem put_not (A : Option Addr) (n c : Nat) (Vs : List VC) (B : Option Addr) (m k : Nat) (Es : List EC) (w : World) (h : DgIn w A n c Vs B m k Es) (hg : GoodD Vs Es) (hr : ∀ x ∈ Vs, x.2.1.2.1 ≤ 1000000) (hm : mayF7 Vs Es ≠ 0) :
    Calls Try.prog 25 #[.agg #[.slice A n c, .slice B m k]] w fun e w' => e = .returned (.tuple #[.slice none 0 0, .int .i64 (mayF7 Vs Es)]) ∧ Below w.heap.size w w' := by
  have HM := Lib.hid (may7_any (A := A) (n := n) (c := c) (B := B) (m := m) (k := k) hr hg)
  have HD := Lib.hid h
  obtain ⟨x, gx⟩ : ∃ z, mayF7 Vs Es = z := ⟨_, rfl⟩
  rw [gx] at HM hm ⊢
  have hne : (x != 0) = true := bne_iff_ne.2 hm
  clear h hg hr hm gx
  go_enter Try.func25, Try.ntmps25
  go_upto_region 1 with fail
  have hx0 : Whole (w.alloc (.cells #[.slice A n c, .slice B m k] 25)) (w.heap.size) 25 [.slice A n c, .slice B m k] := (Whole.new_ w 25 [.slice A n c, .slice B m k])
  have hbl : Below w.heap.size w (w.alloc (.cells #[.slice A n c, .slice B m k] 25)) := (below1 w (.cells #[.slice A n c, .slice B m k] 25))
  have hsz : w.heap.size + 1 ≤ ((w.alloc (.cells #[.slice A n c, .slice B m k] 25))).heap.size := by simp
  obtain ⟨W0, gW0⟩ : ∃ z, (w.alloc (.cells #[.slice A n c, .slice B m k] 25)) = z := ⟨_, rfl⟩
  rw [gW0] at hx0 hbl hsz
  obtain ⟨b0, gb0⟩ : ∃ z, w.heap.size = z := ⟨_, rfl⟩
  rw [gb0] at hx0
  have HX0 := Lib.hid hx0
  have HB0 := Lib.hid hbl
  have HS0 := Lib.hid hsz
  have Gb0 := Lib.hid gb0
  have Lb0 : RowKit.Hid (w.heap.size ≤ b0) := Lib.hid (by omega)
  rw [gW0, gb0]
  clear gW0 hbl hsz hx0 gb0
  have c0 := HX0.out.cell (i := 0) rfl
  have c1 := HX0.out.cell (i := 1) rfl
  have HD0 := Lib.hid (HD.out.bl HB0.out)
  go_wp2_with (first | (go_at_call 41; refine (HM.out _ HD0.out).mono ?_; rintro e w2 ⟨rfl, hb2⟩; have HB2 := Lib.hid (Ext.trans HB0.out hb2); clear hb2 c0 c1))
  exact bodyPost_ret (v := .tuple #[.slice none 0 0, .int .i64 x]) (by simp [results, Try.results25, go_sem]) rfl ⟨rfl, HB2.out⟩

end Go.Proofs.Ytahbfdhjgnlmdaa

/- pack.Put of a diagram that may be. -/
namespace Go.Proofs.Ytahbfdhjgnlmdaa
open Go.RowKit
set_option linter.unusedSimpArgs false
set_option linter.unusedVariables false

theorem ends_get {W : World} {b q : Nat} {e : I2 → Option Nat} (h : EndsM W b q e) {x : I2} (hx : wfI x) {j : Nat} (he : e x = some j) : (Instr.lookup 72 (.map (some b)) (.agg #[.int .i64 x.1, .int .i64 x.2]) false).run Try.prog W = .ok (.int .i64 (j : Int)) W := by
  have h1 := MapF.get (x := x) h Try.underlying72 (zero_intK W) hx
  rw [he] at h1
  exact h1
theorem kept_own {S : Nat → Prop} {w w' : World} {r : Option Nat} (hg : w.grownBy w' r) (hS : ∀ i, some i = r → S i) : Kept S w w' := ⟨hg.os, hg.tape, hg.output, hg.size, fun i hi hn => hg.block i hi (fun e => hn (hS i e))⟩
def restV (Es : List EC) (Us : List VS) (j : Nat) : List Nat := (Us.drop j).flatMap (vtB Es)
def restE (Es : List EC) (Us : List VS) (i : Nat) : List Nat := (Es.drop i).flatMap edB ++ (Us.length % 256 :: restV Es Us 0)
theorem restE_next {Es : List EC} {Us : List VS} {i : Nat} {e : EC} (h : Es[i]? = some e) : restE Es Us i = headB e.1 e.2.1 e.2.2 ++ restE Es Us (i + 1) := by
  obtain ⟨hi, q⟩ := List.getElem?_eq_some_iff.1 h
  unfold restE
  rw [List.drop_eq_getElem_cons hi, q, List.flatMap_cons, List.append_assoc]
  rfl
theorem restV_next {Es : List EC} {Us : List VS} {i : Nat} {v : VS} (h : Us[i]? = some v) : restV Es Us i = headB v.1 v.2.2.1 v.2.2.2 ++ ([v.2.1.length % 256] ++ ((v.2.1.drop 0).map (dB Es) ++ restV Es Us (i + 1))) := by
  obtain ⟨hi, q⟩ := List.getElem?_eq_some_iff.1 h
  unfold restV
  rw [List.drop_eq_getElem_cons hi, q, List.flatMap_cons, vtB, List.append_assoc]
  rfl
theorem rest_all (Es : List EC) (Us : List VS) : [Es.length % 256] ++ restE Es Us 0 = putD Us Es := rfl
theorem rest_len {X R P : List Nat} (h : X ++ R = P) (hP : P.length ≤ 4000) : X.length + R.length ≤ 4000 := by
  have := congrArg List.length h
  rw [List.length_append] at this
  omega
set_option maxRecDepth 100000 in
set_option maxHeartbeats 4000000 in
theorem put_yes (A : Option Addr) (n c : Nat) (Vs : List VC) (B : Option Addr) (m k : Nat) (Es : List EC) (w : World) (h : DgIn w A n c Vs B m k Es) (hg : GoodD Vs Es) (hr : ∀ x ∈ Vs, x.2.1.2.1 ≤ 1000000) (hm : mayF7 Vs Es = 0) :
    Calls Try.prog 25 #[.agg #[.slice A n c, .slice B m k]] w fun e w' => ∃ A' c', e = .returned (.tuple #[.slice A' (putD (Vs.map vS) Es).length c', .int .i64 0]) ∧ w'.ownsRow w.heap.size 5 1 (.slice A' (putD (Vs.map vS) Es).length c') (putD (Vs.map vS) Es).length (rowsV f8 (putD (Vs.map vS) Es)) ∧ Below w.heap.size w w' := by
  have HMy := Lib.hid (may7_any (A := A) (n := n) (c := c) (B := B) (m := m) (k := k) hr hg)
  rw [hm] at HMy
  have HD := Lib.hid h
  have HE := Lib.hid h.e
  have HV := Lib.hid h.v
  have HR := Lib.hid h.r
  have hf := may7_formed hm
  have HF := Lib.hid hf
  have Hle : RowKit.Hid (Es.length = m) := Lib.hid (h.e.rlen eC_len (by decide))
  have Hlv : RowKit.Hid (Vs.length = n) := Lib.hid (h.v.rlen vC_len (by decide))
  have hm40 : m ≤ 40 := by have := hf.e40; have := Hle.out; omega
  have hn24 : n ≤ 24 := by have := hf.v24; have := Hlv.out; omega
  have hP4 := putD_max hf
  have HGd := Lib.hid hg
  have Hnd : RowKit.Hid ((Es.map (·.1)).Nodup) := Lib.hid (rise_nodup hf.re)
  obtain ⟨Us, gUs⟩ : ∃ z, Vs.map vS = z := ⟨_, rfl⟩
  have HUs := Lib.hid gUs
  rw [gUs] at hP4 ⊢
  have hall := rest_all Es Us
  obtain ⟨P, gP⟩ : ∃ z, putD Us Es = z := ⟨_, rfl⟩
  rw [gP] at hP4 hall ⊢
  have HP4 := Lib.hid hP4
  rw [Hle.out] at hall
  have HUl : RowKit.Hid (Us.length = n) := Lib.hid (by rw [← gUs, List.length_map]; exact Hlv.out)
  obtain ⟨m8, gm8⟩ : ∃ z, m % 256 = z := ⟨_, rfl⟩
  rw [gm8] at hall
  have Hall := Lib.hid hall
  have hw8 : IntKind.u8.wrap (m : Int) = (m8 : Int) := by rw [IntKind.wrap_u8]; omega
  clear h hg hr hm hf gUs gP gm8 hall hP4
  have hmm := @run_makeMap Try.prog
  go_enter Try.func25, Try.ntmps25
  go_upto_region 1 with fail
  have hx0 : Whole (w.alloc (.cells #[.slice A n c, .slice B m k] 25)) (w.heap.size) 25 [.slice A n c, .slice B m k] := (Whole.new_ w 25 [.slice A n c, .slice B m k])
  have hbl : Below w.heap.size w (w.alloc (.cells #[.slice A n c, .slice B m k] 25)) := (below1 w (.cells #[.slice A n c, .slice B m k] 25))
  have hsz : w.heap.size + 1 ≤ ((w.alloc (.cells #[.slice A n c, .slice B m k] 25))).heap.size := by simp
  obtain ⟨W0, gW0⟩ : ∃ z, (w.alloc (.cells #[.slice A n c, .slice B m k] 25)) = z := ⟨_, rfl⟩
  rw [gW0] at hx0 hbl hsz
  obtain ⟨b0, gb0⟩ : ∃ z, w.heap.size = z := ⟨_, rfl⟩
  rw [gb0] at hx0
  have HX0 := Lib.hid hx0
  have HB0 := Lib.hid hbl
  have HS0 := Lib.hid hsz
  have Gb0 := Lib.hid gb0
  have Lb0 : RowKit.Hid (w.heap.size ≤ b0) := Lib.hid (by omega)
  rw [gW0, gb0]
  clear gW0 hbl hsz hx0 gb0
  have c0 := HX0.out.cell (i := 0) rfl
  have c1 := HX0.out.cell (i := 1) rfl
  have HD0 := Lib.hid (HD.out.bl HB0.out)
  go_upto_region 4 with (first | (go_at_call 41; refine (HMy.out _ HD0.out).mono ?_; rintro e w2 ⟨rfl, hb2⟩; have HB2 : RowKit.Hid (Below w.heap.size w w2) := Lib.hid (Ext.trans HB0.out hb2); have HX2 := Lib.hid (HX0.out.bl hb2); clear hb2 c0 c1))
  have c1 := HX2.out.cell (i := 1) rfl
  go_upto_region 5 with fail
  clear c1 HX0 HB0 HS0 HD0 HMy hw8
  have HO3 : RowKit.Hid (Ow w w.heap.size 5 1 (.slice (some ⟨w2.heap.size, 0, none⟩) 1 1) 1 (rowsV f8 [m8]) (w2.alloc (.cells #[.int .u8 (m8 : Int)] 5))) := Lib.hid (Ow.new_ (cs := #[.int .u8 (m8 : Int)]) HB2.out (Nat.le_refl _) HB2.out.size (by unfold maxLen; omega) rfl)
  have HX3 := Lib.hid (HX2.out.al (.cells #[.int .u8 (m8 : Int)] 5))
  have HB3 := Lib.hid (bel_al HB2.out (.cells #[.int .u8 (m8 : Int)] 5))
  have Hb03 : RowKit.Hid (b0 < w2.heap.size) := Lib.hid HX2.out.lt
  obtain ⟨w3, gw3⟩ : ∃ z, w2.alloc (.cells #[.int .u8 (m8 : Int)] 5) = z := ⟨_, rfl⟩
  rw [gw3] at HO3 HX3 HB3 ⊢
  have Hb04 : RowKit.Hid (b0 < w3.heap.size) := Lib.hid HX3.out.lt
  clear gw3 HX2 HB2 Hb03
  go_upto_region 6 with fail
  clear hmm
  have HO4 := Lib.hid (Ow.up HO3.out (below1 w3 (.map #[] 0)))
  have HX4 := Lib.hid (HX3.out.al (.map #[] 0))
  have HB4 := Lib.hid (bel_al HB3.out (.map #[] 0))
  have HM4 : RowKit.Hid (EndsM (w3.alloc (.map #[] 0)) w3.heap.size 0 (plM Es 0)) := Lib.hid (by rw [plM_zero]; exact show MapF _ keyID _ _ _ from MapF.made)
  obtain ⟨w4, gw4⟩ : ∃ z, w3.alloc (.map #[] 0) = z := ⟨_, rfl⟩
  have Hlo : RowKit.Hid (w.heap.size ≤ w3.heap.size) := Lib.hid HB3.out.size
  obtain ⟨bm, gbm⟩ : ∃ z, w3.heap.size = z := ⟨_, rfl⟩
  rw [gw4] at HO4 HX4 HB4 HM4 ⊢
  rw [gbm] at HM4 Hlo Hb04 ⊢
  obtain ⟨a1, ga1⟩ : ∃ z, (some (⟨w2.heap.size, 0, none⟩ : Addr)) = z := ⟨_, rfl⟩
  rw [ga1] at HO4 ⊢
  clear gw4 gbm HO3 HX3 HB3 ga1
  have c1 := HX4.out.cell (i := 1) rfl
  go_wp2
  clear c1
  go_loopw [5, 27] (fun v si wr => ∃ (i N : Nat) (A2 : Option Addr) (c2 : Nat) (X : List Nat), i ≤ m ∧ si = .int .i64 i ∧ v = .slice A2 N c2 ∧ RowKit.Hid (Below w.heap.size w wr) ∧ RowKit.Hid (Whole wr b0 25 [.slice A n c, .slice B m k]) ∧ RowKit.Hid (EndsM wr bm i (plM Es i)) ∧ RowKit.Hid (Ow w w.heap.size 5 1 (.slice A2 N c2) N (rowsV f8 X) wr) ∧ RowKit.Hid (X.length = N ∧ X ++ restE Es Us i = P)) (fun _ si _ => m - (intOf si).toNat)
  case atStart => exact ⟨0, 1, _, 1, [m8], by omega, rfl, rfl, HB4, HX4, HM4, HO4, Lib.hid ⟨rfl, Hall.out⟩⟩
  case round =>
    clear HB4 HX4 HM4 HO4
    obtain ⟨i, N, A2, c2, X, hi_, rfl, rfl, HB, HX, HM, HO, HXX⟩ := hrel
    obtain ⟨wo, gwo⟩ : ∃ z, wr = z := ⟨_, rfl⟩
    rw [gwo] at HB HX HM HO ⊢
    clear gwo
    by_cases him : i < m
    · obtain ⟨e, hx⟩ : ∃ e, Es[i]? = some e := ⟨_, List.getElem?_eq_getElem (by have := Hle.out; omega)⟩
      have hsz := HF.out.size.1 e (List.mem_of_getElem? hx)
      have hwe := (HGd.out.e e (List.mem_of_getElem? hx)).1
      have hnx := plM_next Hnd.out hx
      have hrs := HXX.out.2
      rw [restE_next hx, ← List.append_assoc] at hrs
      obtain ⟨eb, eo, gB, -, -⟩ := HE.out.place eC_len (by decide) (by omega)
      subst gB
      have hel := (HE.out.up HB.out HB.out.size).elem eC_len hx
      have l0 := hel 0 _ rfl
      have l1 := hel 1 _ rfl
      have l2 := hel 2 _ rfl
      have l3 := hel 3 _ rfl
      simp only [Addr.add_lit, Nat.add_zero] at l0 l1 l2 l3
      obtain ⟨⟨e1, e2⟩, el, et⟩ := e
      have Hsz : RowKit.Hid (el.size ≤ 16) := Lib.hid hsz
      have Hwe : RowKit.Hid (wfI (e1, e2)) := Lib.hid ⟨hwe.1, hwe.2.1⟩
      have Hnx := Lib.hid hnx
      have Hrs := Lib.hid hrs
      clear hel hsz hwe hnx hrs hx
      go_upto_region 9 with fail
      clear l0 l1 l2 l3
      have HOa := Lib.hid (Ow.up HO.out (below1 wo (.cells #[.int .i64 e1, .int .i64 e2, .string el, .int .i64 et] 33)))
      have HXa := Lib.hid (HX.out.al (.cells #[.int .i64 e1, .int .i64 e2, .string el, .int .i64 et] 33))
      have HMa := Lib.hid (HM.out.al (.cells #[.int .i64 e1, .int .i64 e2, .string el, .int .i64 et] 33))
      have HBa := Lib.hid (bel_al HB.out (.cells #[.int .i64 e1, .int .i64 e2, .string el, .int .i64 et] 33))
      have HEa := Lib.hid (Whole.new2 (w := wo) (t := 33) (cs := [.int .i64 e1, .int .i64 e2, .string el, .int .i64 et]) rfl)
      have Hnb : RowKit.Hid (wo.heap.size ≠ bm) := Lib.hid (by have := HM.out.lt; omega)
      obtain ⟨wa, gwa⟩ : ∃ z, wo.alloc (.cells #[.int .i64 e1, .int .i64 e2, .string el, .int .i64 et] 33) = z := ⟨_, rfl⟩
      obtain ⟨b8, gb8⟩ : ∃ z, wo.heap.size = z := ⟨_, rfl⟩
      rw [gwa] at HOa HXa HMa HBa HEa ⊢
      rw [gb8] at HEa Hnb ⊢
      clear gwa gb8 HO HX HM HB
      have d0 := HEa.out.cell (i := 0) rfl
      have d1 := HEa.out.cell (i := 1) rfl
      refine wp_region_lit ?_
      refine wl_read (v := ?_) (some 32) rfl (by rfl) ?_ ?_
      rotate_left
      · go_simp; (try with_reducible rfl)
      simp only [Act.put, List.setIfInBounds_toArray, List.set_cons_zero, List.set_cons_succ]
      refine wl_read (v := ?_) (some 33) rfl (by rfl) ?_ ?_
      rotate_left
      · go_simp; (try with_reducible rfl)
      simp only [Act.put, List.setIfInBounds_toArray, List.set_cons_zero, List.set_cons_succ]
      refine wl_read (v := ?_) (some 34) rfl (by rfl) ?_ ?_
      rotate_left
      · go_simp; (try with_reducible rfl)
      simp only [Act.put, List.setIfInBounds_toArray, List.set_cons_zero, List.set_cons_succ]
      refine wl_read (v := ?_) (some 35) rfl (by rfl) ?_ ?_
      rotate_left
      · go_simp; (try with_reducible rfl)
      simp only [Act.put, List.setIfInBounds_toArray, List.set_cons_zero, List.set_cons_succ]
      refine wl_mapPut rfl (.tmp 32) (.tmp 34) (.tmp 35) rfl rfl HMa.out Try.underlying72 (by unfold maxLen; omega) (x := ((e1, e2) : I2)) Hwe.out rfl rfl ?_
      intro w5 hm5 hg5
      clear d0 d1
      have HM5 : RowKit.Hid (EndsM w5 bm (i + 1) (plM Es (i + 1))) := Lib.hid (by rw [← Hnx.out]; exact ends_put hm5)
      have HX5 := Lib.hid (HXa.out.grown hg5 (fun e => by have := Option.some.inj e; have := Hb04.out; omega))
      have HE5 := Lib.hid (HEa.out.grown hg5 (fun e => Hnb.out (Option.some.inj e)))
      have HO5 : RowKit.Hid (Ow w w.heap.size 5 1 (.slice A2 N c2) N (rowsV f8 X) w5) := Lib.hid ⟨HOa.out.own.kept hg5 (.inr (Ne.symm (own_ne_map HOa.out.own HMa.out))), HBa.out.grown hg5 HBa.out.size (fun kk e => by obtain rfl := Option.some.inj e; exact Hlo.out), Nat.le_refl _, Nat.le_trans HBa.out.size hg5.size⟩
      clear hm5 hg5 HMa HXa HEa HOa HBa
      have d0 := HE5.out.cell (i := 0) rfl
      have d1 := HE5.out.cell (i := 1) rfl
      have d2 := HE5.out.cell (i := 2) rfl
      have d3 := HE5.out.cell (i := 3) rfl
      have hbd := rest_len Hrs.out HP4.out
      rw [List.length_append, HXX.out.1] at hbd
      have hXl := HXX.out.1
      obtain ⟨LH, gLH⟩ : ∃ z, headB (e1, e2) el et = z := ⟨_, rfl⟩
      have HC := Lib.hid (fun W => gLH ▸ head_any e1 e2 el et W (by have := Hsz.out; omega))
      replace Hrs : RowKit.Hid (X ++ LH ++ restE Es Us (i + 1) = P) := Lib.hid (by rw [← gLH]; exact Hrs.out)
      replace hbd : N + LH.length ≤ 4000 := by
        have h9 : N + (headB (e1, e2) el et).length + (restE Es Us (i + 1)).length ≤ 4000 := hbd
        rw [← gLH]
        omega
      clear gLH
      go_wp2_with (first
        | (go_at_call 42
           refine (HC.out _).mono ?_
           rintro e w6 ⟨A6, c6, rfl, hr6, -, -, hb6⟩
           have HX6 := Lib.hid (HX5.out.bl hb6)
           have HM6 := Lib.hid (HM5.out.bl hb6)
           have HO6 := Lib.hid (Ow.up HO5.out hb6)
           obtain ⟨A7, c7, w7, hrun, ho7, hg7⟩ := app8 43 HO6.out hr6 (by omega)
           have HX7 := Lib.hid (HX6.out.grown hg7 (own_ne HO6.out.own HX6.out (by decide)))
           have HM7 : RowKit.Hid (EndsM w7 bm (i + 1) (plM Es (i + 1))) := Lib.hid (MapF.grown HM6.out hg7 (own_ne_map HO6.out.own HM6.out))
           have HO7 := Lib.hid ho7
           clear hr6 hb6 ho7 hg7 d0 d1 d2 d3)
        | (at_builtin
           refine wl_run (some 44) rfl (by rfl) (exec_append (by rfl) (by rfl) (by rfl) hrun) ?_))
      go_roundw
      case rel => exact ⟨i + 1, N + LH.length, A7, c7, X ++ LH, by omega, by go_num, rfl, Lib.hid HO7.out.below, HX7, HM7, HO7, Lib.hid ⟨by rw [List.length_append, hXl], Hrs.out⟩⟩
      case measure => simp [intOf] <;> omega
    · obtain rfl : m = i := by omega
      have hrs := HXX.out.2
      unfold restE at hrs
      rw [List.drop_eq_nil_of_le (by have := Hle.out; omega), List.flatMap_nil, List.nil_append, HUl.out, show n % 256 :: restV Es Us 0 = [n % 256] ++ restV Es Us 0 from rfl, ← List.append_assoc] at hrs
      obtain ⟨n8, gn8⟩ : ∃ z, n % 256 = z := ⟨_, rfl⟩
      have hw8 : IntKind.u8.wrap (n : Int) = (n8 : Int) := by rw [IntKind.wrap_u8]; omega
      rw [gn8] at hrs
      have hXl := HXX.out.1
      have hbd := rest_len hrs HP4.out
      rw [List.length_append, hXl, List.length_singleton] at hbd
      have c0 := HX.out.cell (i := 0) rfl
      have HXa := Lib.hid (HX.out.al (.cells #[.int .u8 (n8 : Int)] 5))
      have HMa := Lib.hid (HM.out.al (.cells #[.int .u8 (n8 : Int)] 5))
      have HOa := Lib.hid (Ow.up HO.out (below1 wo (.cells #[.int .u8 (n8 : Int)] 5)))
      obtain ⟨A7, c7, w7, hrun, ho7, hg7⟩ := app8 43 HOa.out (one8 wo n8) (by omega)
      have HX7 := Lib.hid (HXa.out.grown hg7 (own_ne HOa.out.own HXa.out (by decide)))
      have HM7 : RowKit.Hid (EndsM w7 bm m (plM Es m)) := Lib.hid (MapF.grown HMa.out hg7 (own_ne_map HOa.out.own HMa.out))
      have HO7 := Lib.hid ho7
      have HX8 : RowKit.Hid ((X ++ [n8]).length = N + 1 ∧ X ++ [n8] ++ restV Es Us 0 = P) := Lib.hid ⟨by rw [List.length_append, hXl]; rfl, hrs⟩
      clear ho7 hg7 gn8 hrs hXl
      go_upto_region 13 with (first
        | (at_builtin
           refine wl_run (some 52) rfl (by rfl) (exec_append (by rfl) (by rfl) (by rfl) hrun) ?_))
      clear hrun c0 hw8 HXa HMa HOa HX HM HO HB HXX hbd
      obtain ⟨N1, gN1⟩ : ∃ z, N + 1 = z := ⟨_, rfl⟩
      rw [gN1] at HO7 HX8 ⊢
      clear gN1
      obtain ⟨X7, gX7⟩ : ∃ z, X ++ [n8] = z := ⟨_, rfl⟩
      rw [gX7] at HO7 HX8
      clear gX7
      have c0 := HX7.out.cell (i := 0) rfl
      go_wp2
      clear c0
      go_loopw [5, 56] (fun v si wr => ∃ (j N : Nat) (A2 : Option Addr) (c2 : Nat) (X : List Nat), j ≤ n ∧ si = .int .i64 j ∧ v = .slice A2 N c2 ∧ RowKit.Hid (Whole wr b0 25 [.slice A n c, .slice B m k]) ∧ RowKit.Hid (EndsM wr bm m (plM Es m)) ∧ RowKit.Hid (Ow w w.heap.size 5 1 (.slice A2 N c2) N (rowsV f8 X) wr) ∧ RowKit.Hid (X.length = N ∧ X ++ restV Es Us j = P)) (fun _ si _ => n - (intOf si).toNat)
      case atStart => exact ⟨0, N1, A7, c7, X7, by omega, rfl, rfl, HX7, HM7, HO7, HX8⟩
      case round =>
        clear HX7 HM7 HO7 HX8
        obtain ⟨j, N, A2, c2, X, hj_, rfl, rfl, HX, HM, HO, HXX⟩ := hrel
        obtain ⟨wo, gwo⟩ : ∃ z, wr = z := ⟨_, rfl⟩
        rw [gwo] at HX HM HO ⊢
        clear gwo
        by_cases hjn : j < n
        · obtain ⟨v, hx⟩ : ∃ v, Vs[j]? = some v := ⟨_, List.getElem?_eq_getElem (by have := Hlv.out; omega)⟩
          have hvm := List.mem_of_getElem? hx
          have hsz := HF.out.size.2 v hvm
          have hrg := HR.out v hvm
          have hr8 := HF.out.ring v hvm
          have hwd := HGd.out.v v hvm
          have hpl : ∀ d ∈ v.2.1.2.2.2, plM Es m (d.1, d.2.1) = some (plE Es (d.1, d.2.1)) ∧ plE Es (d.1, d.2.1) < m ∧ (d.2.2 = 0 ∨ d.2.2 = 1) := fun d hd => by
            obtain ⟨e, he, q1, q2⟩ := HF.out.of_dart hvm hd
            have h1 := plM_all HF.out hvm hd
            have h2 := plE_lt HF.out hvm hd
            rw [Hle.out] at h1 h2
            exact ⟨h1, h2, q2⟩
          have hrs := HXX.out.2
          rw [restV_next (v := vS v) (by rw [← HUs.out, List.getElem?_map, hx]; rfl), ← List.append_assoc, ← List.append_assoc] at hrs
          obtain ⟨eb, eo, gA, -, -⟩ := HV.out.place vC_len (by decide) (by omega)
          subst gA
          have hel := (HV.out.up HO.out.below HO.out.below.size).elem vC_len hx
          have l0 := hel 0 _ rfl
          have l1 := hel 1 _ rfl
          have l2 := hel 2 _ rfl
          have l3 := hel 3 _ rfl
          have l4 := hel 4 _ rfl
          simp only [Addr.add_lit, Nat.add_zero] at l0 l1 l2 l3 l4
          obtain ⟨⟨i1, i2⟩, ⟨rA, rn, rc, rL⟩, lb, at_⟩ := v
          have Hsz : RowKit.Hid (lb.size ≤ 16) := Lib.hid hsz
          have HRr : RowKit.Hid (RdS w w.heap.size 3 rA rn rc (dartsV rL)) := Lib.hid hrg.2
          have Hwd : RowKit.Hid (∀ d ∈ rL, wfD d) := Lib.hid hwd
          have Hpl : RowKit.Hid (∀ d ∈ rL, plM Es m (d.1, d.2.1) = some (plE Es (d.1, d.2.1)) ∧ plE Es (d.1, d.2.1) < m ∧ (d.2.2 = 0 ∨ d.2.2 = 1)) := Lib.hid hpl
          have hrl : rL.length = rn := HRr.out.dlen
          have Hrl := Lib.hid hrl
          have hr9 : rn ≤ 80 := by rw [← hrl]; exact hr8
          replace hrs : X ++ headB (i1, i2) lb at_ ++ [rL.length % 256] ++ ((rL.drop 0).map (dB Es) ++ restV Es Us (j + 1)) = P := hrs
          rw [hrl] at hrs
          obtain ⟨LH, gLH⟩ : ∃ z, headB (i1, i2) lb at_ = z := ⟨_, rfl⟩
          have HC := Lib.hid (fun W => gLH ▸ head_any i1 i2 lb at_ W (by have := Hsz.out; omega))
          obtain ⟨r8, gr8⟩ : ∃ z, rn % 256 = z := ⟨_, rfl⟩
          have hw8 : IntKind.u8.wrap (rn : Int) = (r8 : Int) := by rw [IntKind.wrap_u8]; omega
          rw [gLH, gr8] at hrs
          have hXl := HXX.out.1
          have hbd := rest_len hrs HP4.out
          rw [List.length_append, List.length_append, hXl, List.length_singleton] at hbd
          have hb1 : N + LH.length ≤ 4000 := by omega
          have hb2 : N + LH.length + 1 ≤ 4000 := by omega
          have Hrs := Lib.hid hrs
          clear hel hsz hwd hrs hx hvm hrg hr8 hpl hrl gLH gr8 hbd
          go_upto_region 16 with fail
          clear l0 l1 l2 l3 l4
          have HOa := Lib.hid (Ow.up HO.out (below1 wo (.cells #[.int .i64 i1, .int .i64 i2, .slice rA rn rc, .string lb, .int .i64 at_] 38)))
          have HXa := Lib.hid (HX.out.al (.cells #[.int .i64 i1, .int .i64 i2, .slice rA rn rc, .string lb, .int .i64 at_] 38))
          have HMa := Lib.hid (HM.out.al (.cells #[.int .i64 i1, .int .i64 i2, .slice rA rn rc, .string lb, .int .i64 at_] 38))
          have HVa := Lib.hid (Whole.new2 (w := wo) (t := 38) (cs := [.int .i64 i1, .int .i64 i2, .slice rA rn rc, .string lb, .int .i64 at_]) rfl)
          obtain ⟨wa, gwa⟩ : ∃ z, wo.alloc (.cells #[.int .i64 i1, .int .i64 i2, .slice rA rn rc, .string lb, .int .i64 at_] 38) = z := ⟨_, rfl⟩
          obtain ⟨b10, gb10⟩ : ∃ z, wo.heap.size = z := ⟨_, rfl⟩
          rw [gwa] at HOa HXa HMa HVa ⊢
          rw [gb10] at HVa ⊢
          clear gwa gb10 HO HX HM
          have d0 := HVa.out.cell (i := 0) rfl
          have d1 := HVa.out.cell (i := 1) rfl
          have d3 := HVa.out.cell (i := 3) rfl
          have d4 := HVa.out.cell (i := 4) rfl
          go_upto_region 17 with (first
            | (go_at_call 42
               refine (HC.out _).mono ?_
               rintro e w6 ⟨A6, c6, rfl, hr6, -, -, hb6⟩
               have HX6 := Lib.hid (HXa.out.bl hb6)
               have HM6 := Lib.hid (HMa.out.bl hb6)
               have HV6 := Lib.hid (HVa.out.bl hb6)
               have HO6 := Lib.hid (Ow.up HOa.out hb6)
               obtain ⟨A7, c7, w7, hrun, ho7, hg7⟩ := app8 43 HO6.out hr6 (by omega)
               have HX7 := Lib.hid (HX6.out.grown hg7 (own_ne HO6.out.own HX6.out (by decide)))
               have HV7 := Lib.hid (HV6.out.grown hg7 (own_ne HO6.out.own HV6.out (by decide)))
               have HM7 : RowKit.Hid (EndsM w7 bm m (plM Es m)) := Lib.hid (MapF.grown HM6.out hg7 (own_ne_map HO6.out.own HM6.out))
               have HO7 := Lib.hid ho7
               clear hr6 hb6 ho7 hg7 d0 d1 d3 d4)
            | (at_builtin
               refine wl_run (some 68) rfl (by rfl) (exec_append (by rfl) (by rfl) (by rfl) hrun) ?_))
          clear hrun HX6 HM6 HV6 HO6 HXa HMa HVa HOa
          have d2 := HV7.out.cell (i := 2) rfl
          have HXb := Lib.hid (HX7.out.al (.cells #[.int .u8 (r8 : Int)] 5))
          have HMb := Lib.hid (HM7.out.al (.cells #[.int .u8 (r8 : Int)] 5))
          have HVb := Lib.hid (HV7.out.al (.cells #[.int .u8 (r8 : Int)] 5))
          have HOb := Lib.hid (Ow.up HO7.out (below1 w7 (.cells #[.int .u8 (r8 : Int)] 5)))
          obtain ⟨A8, c8, w8, hrun, ho8, hg8⟩ := app8 43 HOb.out (one8 w7 r8) (by omega)
          have HX8 := Lib.hid (HXb.out.grown hg8 (own_ne HOb.out.own HXb.out (by decide)))
          have HV8 := Lib.hid (HVb.out.grown hg8 (own_ne HOb.out.own HVb.out (by decide)))
          have HM8 : RowKit.Hid (EndsM w8 bm m (plM Es m)) := Lib.hid (MapF.grown HMb.out hg8 (own_ne_map HOb.out.own HMb.out))
          have HO8 := Lib.hid ho8
          have HX9 : RowKit.Hid ((X ++ LH ++ [r8]).length = N + LH.length + 1 ∧ X ++ LH ++ [r8] ++ ((rL.drop 0).map (dB Es) ++ restV Es Us (j + 1)) = P) := Lib.hid ⟨by rw [List.length_append, List.length_append, hXl]; rfl, Hrs.out⟩
          clear ho8 hg8
          go_upto_region 18 with (first
            | (at_builtin
               refine wl_run (some 75) rfl (by rfl) (exec_append (by rfl) (by rfl) (by rfl) hrun) ?_))
          clear hrun d2 hw8 HXb HMb HVb HOb HX7 HM7 HV7 HO7 hXl HXX hb1 hb2 Hrs HC
          obtain ⟨N8, gN8⟩ : ∃ z, N + LH.length + 1 = z := ⟨_, rfl⟩
          rw [gN8] at HO8 HX9 ⊢
          clear gN8
          obtain ⟨X8, gX8⟩ : ∃ z, X ++ LH ++ [r8] = z := ⟨_, rfl⟩
          rw [gX8] at HO8 HX9
          clear gX8
          obtain ⟨R9, gR9⟩ : ∃ z, restV Es Us (j + 1) = z := ⟨_, rfl⟩
          rw [gR9] at HX9
          have HR9 := Lib.hid gR9
          clear gR9
          have d2 := HV8.out.cell (i := 2) rfl
          go_wp2
          clear d2 HV8
          go_loopw [5, 79] (fun v si wr => ∃ (t N : Nat) (A2 : Option Addr) (c2 : Nat) (X : List Nat), t ≤ rn ∧ si = .int .i64 t ∧ v = .slice A2 N c2 ∧ RowKit.Hid (Whole wr b0 25 [.slice (some ⟨eb, eo, none⟩) n c, .slice B m k]) ∧ RowKit.Hid (EndsM wr bm m (plM Es m)) ∧ RowKit.Hid (Ow w w.heap.size 5 1 (.slice A2 N c2) N (rowsV f8 X) wr) ∧ RowKit.Hid (X.length = N ∧ X ++ ((rL.drop t).map (dB Es) ++ R9) = P)) (fun _ si _ => rn - (intOf si).toNat)
          case atStart => exact ⟨0, N8, A8, c8, X8, by omega, rfl, rfl, HX8, HM8, HO8, HX9⟩
          case round =>
            clear HX8 HM8 HO8 HX9
            obtain ⟨t, N, A2, c2, X, ht_, rfl, rfl, HX, HM, HO, HXX⟩ := hrel
            obtain ⟨wi, gwi⟩ : ∃ z, wr = z := ⟨_, rfl⟩
            rw [gwi] at HX HM HO ⊢
            clear gwi
            by_cases htn : t < rn
            · obtain ⟨d, hx⟩ : ∃ d, rL[t]? = some d := ⟨_, List.getElem?_eq_getElem (by have := Hrl.out; omega)⟩
              obtain ⟨hp1, hp2, hp3⟩ := Hpl.out d (List.mem_of_getElem? hx)
              have hwd := Hwd.out d (List.mem_of_getElem? hx)
              have hrs := HXX.out.2
              have hdr : rL.drop t = d :: rL.drop (t + 1) := by
                rw [List.drop_eq_getElem_cons (List.getElem?_eq_some_iff.1 hx).1, (List.getElem?_eq_some_iff.1 hx).2]
              rw [hdr, List.map_cons, List.cons_append, show ∀ (a : Nat) (l : List Nat), a :: l = [a] ++ l from fun _ _ => rfl, ← List.append_assoc] at hrs
              obtain ⟨rb, ro, gr, -, hcd⟩ := (HRr.out.up HO.out.below HO.out.below.size).darts (by omega)
              subst gr
              have hjl : t < rL.length := by have := Hrl.out; omega
              obtain ⟨l0, l1, l2⟩ := hcd t hjl
              have hgd : rL.getD t (0, 0, 0) = d := by rw [List.getD_eq_getElem?_getD, hx]; rfl
              rw [hgd] at l0 l1 l2
              obtain ⟨d1, d2, d3⟩ := d
              simp only at hp1 hp2 hp3 l0 l1 l2
              obtain ⟨p, gp⟩ : ∃ z, plE Es (d1, d2) = z := ⟨_, rfl⟩
              have hdb : dB Es (d1, d2, d3) = (p + 128 * d3.toNat) % 256 := by unfold dB; rw [gp]
              rw [gp] at hp1 hp2
              obtain ⟨db, gdb⟩ : ∃ z, dB Es (d1, d2, d3) = z := ⟨_, rfl⟩
              rw [gdb] at hrs hdb
              obtain ⟨x1, hw1⟩ : ∃ z, IntKind.i64.wrap (128 * d3) = z := ⟨_, rfl⟩
              have hx1 : x1 = 128 * d3 := by rw [← hw1]; exact IntWalk.i64_in _ (by omega)
              obtain ⟨x2, hw2⟩ : ∃ z, IntKind.i64.wrap ((p : Int) + x1) = z := ⟨_, rfl⟩
              have hx2 : x2 = (p : Int) + 128 * d3 := by rw [← hw2, hx1]; exact IntWalk.i64_in _ (by omega)
              have hw3 : IntKind.u8.wrap x2 = (db : Int) := by rw [hx2, hdb, IntKind.wrap_u8]; omega
              have hXl := HXX.out.1
              have hbd := rest_len hrs HP4.out
              rw [List.length_append, hXl, List.length_singleton] at hbd
              have hb1 : N + 1 ≤ 4000 := by omega
              have Hrs := Lib.hid hrs
              have Hp1 := Lib.hid hp1
              have Hwf : RowKit.Hid (wfI (d1, d2)) := Lib.hid ⟨hwd.1, hwd.2.1⟩
              clear hx hp1 hp3 hwd hrs hdr hcd hjl hgd gp hdb gdb hx1 hx2 hbd
              go_upto_region 21 with fail
              clear l0 l1 l2
              have HOa := Lib.hid (Ow.up HO.out (below1 wi (.cells #[.int .i64 d1, .int .i64 d2, .int .i64 d3] 35)))
              have HXa := Lib.hid (HX.out.al (.cells #[.int .i64 d1, .int .i64 d2, .int .i64 d3] 35))
              have HMa := Lib.hid (HM.out.al (.cells #[.int .i64 d1, .int .i64 d2, .int .i64 d3] 35))
              have HDa := Lib.hid (Whole.new2 (w := wi) (t := 35) (cs := [.int .i64 d1, .int .i64 d2, .int .i64 d3]) rfl)
              obtain ⟨wa, gwa⟩ : ∃ z, wi.alloc (.cells #[.int .i64 d1, .int .i64 d2, .int .i64 d3] 35) = z := ⟨_, rfl⟩
              obtain ⟨b12, gb12⟩ : ∃ z, wi.heap.size = z := ⟨_, rfl⟩
              rw [gwa] at HOa HXa HMa HDa ⊢
              rw [gb12] at HDa ⊢
              clear gwa gb12 HO HX HM
              have Hs1 : RowKit.Hid (¬ (some b12 = (Value.slice A2 N c2).ownBlock ∨ wa.heap.size ≤ b12)) := Lib.hid (fun e => by rcases e with e | e; exact own_ne HOa.out.own HDa.out (by decide) e; exact absurd HDa.out.lt (by omega))
              have Hs2 : RowKit.Hid (¬ (some bm = (Value.slice A2 N c2).ownBlock ∨ wa.heap.size ≤ bm)) := Lib.hid (fun e => by rcases e with e | e; exact own_ne_map HOa.out.own HMa.out e; exact absurd HMa.out.lt (by omega))
              have ld0 : ∀ w', Kept (fun i => some i = (Value.slice A2 N c2).ownBlock ∨ wa.heap.size ≤ i) wa.drew w' → w'.cell? ⟨b12, 0, none⟩ = some (.int .i64 d1) := fun w' h => h.cell (HDa.out.dr.cell (i := 0) rfl) Hs1.out
              have ld1 : ∀ w', Kept (fun i => some i = (Value.slice A2 N c2).ownBlock ∨ wa.heap.size ≤ i) wa.drew w' → w'.cell? ⟨b12, 1, none⟩ = some (.int .i64 d2) := fun w' h => h.cell (HDa.out.dr.cell (i := 1) rfl) Hs1.out
              have ld2 : ∀ w', Kept (fun i => some i = (Value.slice A2 N c2).ownBlock ∨ wa.heap.size ≤ i) wa.drew w' → w'.cell? ⟨b12, 2, none⟩ = some (.int .i64 d3) := fun w' h => h.cell (HDa.out.dr.cell (i := 2) rfl) Hs1.out
              have HDr : RowKit.Hid (Ext wa wa.drew) := Lib.hid (below_drewN wa.heap.size wa 1)
              refine wp_region_reg (fun i => some i = (Value.slice A2 N c2).ownBlock ∨ wa.heap.size ≤ i) (by kernel_rfl) ?_
              apply wpR_next 0 (some 83)
              · simp only [List.getElem?_toArray, List.getElem?_cons_succ, List.getElem?_cons_zero]; exact rfl
              · rfl
              · kernel_rfl
              · kernel_rfl
              · kernel_rfl
              · exact fun _ _ _ _ h => h
              apply Exists.intro
              apply And.intro
              · apply yr_run; rfl; intro w' hw'; go_simp; (try with_reducible rfl)
              simp only [Act.put, List.setIfInBounds_toArray, List.set_cons_zero, List.set_cons_succ]
              apply wpR_next 1 (some 84)
              · simp only [List.getElem?_toArray, List.getElem?_cons_succ, List.getElem?_cons_zero]; exact rfl
              · rfl
              · kernel_rfl
              · kernel_rfl
              · kernel_rfl
              · exact fun _ _ _ _ h => h
              apply Exists.intro
              apply And.intro
              · apply yr_run; rfl; intro w' hw'; go_simp; (try with_reducible rfl)
              simp only [Act.put, List.setIfInBounds_toArray, List.set_cons_zero, List.set_cons_succ]
              apply wpR_next 2 (some 85)
              · simp only [List.getElem?_toArray, List.getElem?_cons_succ, List.getElem?_cons_zero]; exact rfl
              · rfl
              · kernel_rfl
              · kernel_rfl
              · kernel_rfl
              · exact fun _ _ _ _ h => h
              apply Exists.intro
              apply And.intro
              · apply yr_run; rfl; intro w' hw'; go_simp; (try with_reducible rfl)
              simp only [Act.put, List.setIfInBounds_toArray, List.set_cons_zero, List.set_cons_succ]
              apply wpR_next 3 (some 86)
              · simp only [List.getElem?_toArray, List.getElem?_cons_succ, List.getElem?_cons_zero]; exact rfl
              · rfl
              · kernel_rfl
              · kernel_rfl
              · kernel_rfl
              · exact fun _ _ _ _ h => h
              apply Exists.intro
              apply And.intro
              · apply yr_run; rfl; intro w' hw'; go_simp; (try with_reducible rfl)
              simp only [Act.put, List.setIfInBounds_toArray, List.set_cons_zero, List.set_cons_succ]
              apply wpR_next 4 (some 87)
              · simp only [List.getElem?_toArray, List.getElem?_cons_succ, List.getElem?_cons_zero]; exact rfl
              · rfl
              · kernel_rfl
              · kernel_rfl
              · kernel_rfl
              · exact fun _ _ _ _ h => h
              apply Exists.intro
              apply And.intro
              · apply yr_run; rfl; intro w' hw'; exact exec_mapGet rfl rfl rfl (ends_get (EndsM.kept HMa.out.dr hw' Hs2.out) Hwf.out Hp1.out)
              simp only [Act.put, List.setIfInBounds_toArray, List.set_cons_zero, List.set_cons_succ]
              apply wpR_next 5 (some 88)
              · simp only [List.getElem?_toArray, List.getElem?_cons_succ, List.getElem?_cons_zero]; exact rfl
              · rfl
              · kernel_rfl
              · kernel_rfl
              · kernel_rfl
              · exact fun _ _ _ _ h => h
              apply Exists.intro
              apply And.intro
              · apply yr_run; rfl; intro w' hw'; go_simp; (try with_reducible rfl)
              simp only [Act.put, List.setIfInBounds_toArray, List.set_cons_zero, List.set_cons_succ]
              apply wpR_next 6 (some 89)
              · simp only [List.getElem?_toArray, List.getElem?_cons_succ, List.getElem?_cons_zero]; exact rfl
              · rfl
              · kernel_rfl
              · kernel_rfl
              · kernel_rfl
              · exact fun _ _ _ _ h => h
              apply Exists.intro
              apply And.intro
              · apply yr_run; rfl; intro w' hw'; go_simp; (try with_reducible rfl)
              simp only [Act.put, List.setIfInBounds_toArray, List.set_cons_zero, List.set_cons_succ]
              apply wpR_next 7 (some 90)
              · simp only [List.getElem?_toArray, List.getElem?_cons_succ, List.getElem?_cons_zero]; exact rfl
              · rfl
              · kernel_rfl
              · kernel_rfl
              · kernel_rfl
              · exact fun _ _ _ _ h => h
              apply Exists.intro
              apply And.intro
              · apply yr_run; rfl; intro w' hw'; go_simp; (try with_reducible rfl)
              simp only [Act.put, List.setIfInBounds_toArray, List.set_cons_zero, List.set_cons_succ]
              apply wpR_next 8 (some 91)
              · simp only [List.getElem?_toArray, List.getElem?_cons_succ, List.getElem?_cons_zero]; exact rfl
              · rfl
              · kernel_rfl
              · kernel_rfl
              · kernel_rfl
              · exact fun _ _ _ _ h => h
              apply Exists.intro
              apply And.intro
              · apply yr_run; rfl; intro w' hw'; go_simp; (try with_reducible rfl)
              simp only [Act.put, List.setIfInBounds_toArray, List.set_cons_zero, List.set_cons_succ]
              apply wpR_next 9 (some 92)
              · simp only [List.getElem?_toArray, List.getElem?_cons_succ, List.getElem?_cons_zero]; exact rfl
              · rfl
              · kernel_rfl
              · kernel_rfl
              · kernel_rfl
              · exact fun _ _ _ _ h => h
              apply Exists.intro
              apply And.intro
              · apply yr_run; rfl; intro w' hw'; go_simp; (try with_reducible rfl)
              simp only [Act.put, List.setIfInBounds_toArray, List.set_cons_zero, List.set_cons_succ]
              apply wpR_run 10 (some 93)
              · simp only [List.getElem?_toArray, List.getElem?_cons_succ, List.getElem?_cons_zero]; exact rfl
              · rfl
              · kernel_rfl
              · rfl
              intro w' hw'
              refine ⟨.slice (some ⟨w'.heap.size, 0, none⟩) 1 1, w'.alloc (.cells #[.int .u8 (db : Int)] 5), by (go_simp; first | done | exact rfl | exact ⟨rfl, rfl⟩), Kept.of_below (below1 _ _), ?_⟩
              have hE0 := Ext.trans HDr.out hw'
              have HXb := Lib.hid ((HXa.out.bl hE0).al (.cells #[.int .u8 (db : Int)] 5))
              have HMb := Lib.hid ((HMa.out.bl hE0).al (.cells #[.int .u8 (db : Int)] 5))
              have HOb := Lib.hid (Ow.up (Ow.up HOa.out hE0) (below1 w' (.cells #[.int .u8 (db : Int)] 5)))
              have HSb := Lib.hid (one8 w' db)
              obtain ⟨wb, gwb⟩ : ∃ z, w'.alloc (.cells #[.int .u8 (db : Int)] 5) = z := ⟨_, rfl⟩
              obtain ⟨ab, gab⟩ : ∃ z, w'.heap.size = z := ⟨_, rfl⟩
              rw [gwb] at HXb HMb HOb HSb ⊢
              rw [gab] at HSb ⊢
              clear gwb gab hE0 hw' HXa HMa HOa ld0 ld1 ld2
              simp only [Act.put, List.setIfInBounds_toArray, List.set_cons_zero, List.set_cons_succ]
              apply wpR_run 11 (some 94)
              · simp only [List.getElem?_toArray, List.getElem?_cons_succ, List.getElem?_cons_zero]; exact rfl
              · rfl
              · kernel_rfl
              · rfl
              intro w' hw'
              obtain ⟨A7, c7, w7, hrun, ho7, hg7⟩ := app8 43 (Ow.up HOb.out hw') (HSb.out.bl hw') (by omega)
              refine ⟨_, w7, exec_append (by rfl) (by rfl) (by rfl) hrun, kept_own hg7 (fun i e => .inl e), ?_⟩
              have HX7 := Lib.hid ((HXb.out.bl hw').grown hg7 (own_ne (own_up HOb.out.own hw') (HXb.out.bl hw') (by decide)))
              have HM7 : RowKit.Hid (EndsM w7 bm m (plM Es m)) := Lib.hid (MapF.grown (HMb.out.bl hw') hg7 (own_ne_map (own_up HOb.out.own hw') (HMb.out.bl hw')))
              have HO7 := Lib.hid ho7
              clear hrun ho7 hg7 hw' HXb HMb HOb HSb
              simp only [Act.put, List.setIfInBounds_toArray, List.set_cons_zero, List.set_cons_succ]
              apply wpR_next 12 (some 5)
              · simp only [List.getElem?_toArray, List.getElem?_cons_succ, List.getElem?_cons_zero]; exact rfl
              · rfl
              · kernel_rfl
              · kernel_rfl
              · kernel_rfl
              · exact fun _ _ _ _ h => h
              apply Exists.intro
              apply And.intro
              · apply yr_run; rfl; intro w' hw'; go_simp; (try with_reducible rfl)
              simp only [Act.put, List.setIfInBounds_toArray, List.set_cons_zero, List.set_cons_succ]
              refine wpR_done (by kernel_rfl) ?_ _
              intro w9 hw9
              have HX9 := Lib.hid (HX7.out.bl hw9)
              have HM9 := Lib.hid (HM7.out.bl hw9)
              have HO9 := Lib.hid (Ow.up HO7.out hw9)
              clear hw9 HX7 HM7 HO7
              go_wp2
              go_roundw
              case rel => exact ⟨t + 1, N + 1, A7, c7, X ++ [db], by omega, by go_num, rfl, HX9, HM9, HO9, Lib.hid ⟨by rw [List.length_append, hXl]; rfl, Hrs.out⟩⟩
              case measure => simp [intOf] <;> omega
            · obtain rfl : rn = t := by omega
              have hrs := HXX.out.2
              rw [List.drop_eq_nil_of_le (by have := Hrl.out; omega), List.map_nil, List.nil_append, ← HR9.out] at hrs
              go_wp2
              go_roundw
              case rel => exact ⟨j + 1, N, A2, c2, X, by omega, by go_num, rfl, HX, HM, HO, Lib.hid ⟨HXX.out.1, hrs⟩⟩
              case measure => simp [intOf] <;> omega
        · obtain rfl : n = j := by omega
          have hrs := HXX.out.2
          unfold restV at hrs
          rw [List.drop_eq_nil_of_le (by have := HUl.out; omega), List.flatMap_nil, List.append_nil] at hrs
          obtain rfl := hrs
          obtain rfl : X.length = N := HXX.out.1
          go_wp2
          exact bodyPost_ret (v := .tuple #[.slice A2 X.length c2, .int .i64 0]) (by simp [results, Try.results25, go_sem]) rfl ⟨A2, c2, rfl, HO.out.own, HO.out.below⟩
end Go.Proofs.Ytahbfdhjgnlmdaa

/- The laws' types of layer 8: bytes. -/
namespace Go.Proofs.Ytahbfdhjgnlmdaa
open Go.ChangeShapes Go.WideShapes Go.ChangeAt Go.RowKit

theorem row1_byte (H : Type) : Row1 H Try.prog 5 f8 (fun _ b => b < 256) := by
  intro enc w held fuel cs x h
  obtain ⟨n, rfl, _, hw⟩ := DataW.trod_int Try.underlying5 h
  have hb := bounds_u8 hw
  refine ⟨n.toNat, ?_, by omega⟩
  have e : ((n.toNat : Nat) : Int) = n := by omega
  simp [f8, e]
theorem in64_of {x : Int} (h : (Lit.int .i64 x).wf = true) : In64 x := by
  have := bounds_i64 h
  unfold In64
  omega
end Go.Proofs.Ytahbfdhjgnlmdaa
