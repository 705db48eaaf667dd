/- The contract of frame.sumBytes. -/
import Derived.Test.YtgmjehejaailpaaFr2
import Derived.Laws.MakeOwn
namespace Go.Proofs.Ytgmjehejaailpaa
open Go.RowKit
set_option linter.unusedSimpArgs false
set_option linter.unusedVariables false

/-- A number's four bytes, the lowest first. -/
def le4 (s : Nat) : List Nat := [s % 256, s / 256 % 256, s / 65536 % 256, s / 16777216 % 256]
/-- The first j of them, and noughts. -/
def le4z (s j : Nat) : List Nat := (le4 s).take j ++ List.replicate (4 - j) 0

theorem Whole.conv {w : World} {g : Nat} {t : TypeId} {cs cs' : List Value} (h : Whole w g t cs) (e : cs = cs') : Whole w g t cs' := e ▸ h
theorem info_u8 : (Try.prog.info? 5).map (fun i => (i.zero, i.size, i.bytes)) = some (some (.int .u8 0), 1, 1) := by kernel_rfl
theorem info_parts_ {o : Option TypeInfo} {z : Value} {s b : Nat} (h : o.map (fun i => (i.zero, i.size, i.bytes)) = some (some z, s, b)) : ∃ i, o = some i ∧ i.zero = some z ∧ i.size = s ∧ i.bytes = b := by
  cases o with
  | none => simp at h
  | some i => simp at h; exact ⟨i, rfl, h⟩
theorem make4 (W : World) : (Instr.makeSlice 22 (.int .i64 4) (.int .i64 4)).run Try.prog W = .ok (.slice (some ⟨W.heap.size, 0, none⟩) 4 4) (W.alloc (.cells #[.int .u8 0, .int .u8 0, .int .u8 0, .int .u8 0] 5)) := by
  obtain ⟨i0, hi, hz0, hz1, hz2⟩ := info_parts_ info_u8
  have := run_make (P := Try.prog) W 22 5 i0 _ Try.underlying22 hi hz0 .i64 .i64 4 4 (by omega) (by omega) (by rw [hz2]; omega) (by omega)
  rw [hz1, show madeCells (Value.int .u8 0).cells (Int.toNat 4 * 1) = #[.int .u8 0, .int .u8 0, .int .u8 0, .int .u8 0] from by simp [madeCells, Array.range, Value.cells]; first | done | rfl | kernel_rfl] at this
  exact this

set_option maxRecDepth 100000 in
set_option maxHeartbeats 1000000 in
theorem sumbytes_any (A : Option Addr) (n c : Nat) (L : List Nat) (w : World) (h : RdS w w.heap.size 1 A n c (rowsV f8 L)) (hb : ∀ b ∈ L, b < 256) (hn : n ≤ maxLen) :
    Calls Try.prog 20 #[.slice A n c] w fun e w' => ∃ g, e = .returned (.slice (some ⟨g, 0, none⟩) 4 4) ∧ w.heap.size ≤ g ∧ Whole w' g 5 (rowsV f8 (le4 (crc L))) ∧ Below w.heap.size w w' := by
  have HS := Lib.hid (sum_any A n c L w h hb hn)
  obtain ⟨s, gs⟩ : ∃ s, crc L = s := ⟨_, rfl⟩
  have hs : s < 4294967296 := by rw [← gs]; exact crc_lt hb
  rw [gs] at HS ⊢
  clear h hb hn gs
  go_enter Try.func20, Try.ntmps20
  have hmk := make4
  go_wp2_with (first | (go_at_call 15; refine HS.out.mono ?_; rintro e w' ⟨rfl, rfl⟩))
  clear hmk
  have HW0 : RowKit.Hid (Whole (w.alloc (.cells #[.int .u8 0, .int .u8 0, .int .u8 0, .int .u8 0] 5)) w.heap.size 5 (rowsV f8 (le4z s 0)) ∧ Below w.heap.size w (w.alloc (.cells #[.int .u8 0, .int .u8 0, .int .u8 0, .int .u8 0] 5))) := Lib.hid ⟨Whole.new_ _ _ [_, _, _, _], below1 _ _⟩
  obtain ⟨W1, gW1⟩ : ∃ x, w.alloc (.cells #[.int .u8 0, .int .u8 0, .int .u8 0, .int .u8 0] 5) = x := ⟨_, rfl⟩
  obtain ⟨g, gg⟩ : ∃ x, w.heap.size = x := ⟨_, rfl⟩
  have HG : RowKit.Hid (w.heap.size ≤ g) := Lib.hid (by omega)
  rw [gW1] at HW0 ⊢
  have HW1 : RowKit.Hid (Whole W1 g 5 (rowsV f8 (le4z s 0)) ∧ Below w.heap.size w W1) := Lib.hid ⟨gg ▸ HW0.out.1, HW0.out.2⟩
  rw [gg]
  clear gW1 gg HW0
  go_loopw [11] (fun i wr => ∃ j : Nat, j ≤ 4 ∧ i = .int .i64 j ∧ RowKit.Hid (Whole wr g 5 (rowsV f8 (le4z s j)) ∧ Below w.heap.size w wr)) (fun i _ => 4 - (intOf i).toNat)
  case atStart => exact ⟨0, by omega, rfl, HW1⟩
  case round =>
    rename_i wr _
    clear HW1
    obtain ⟨j, hj, rfl, HW⟩ := hrel
    by_cases hlt : j < 4
    · have hcs : j = 0 ∨ j = 1 ∨ j = 2 ∨ j = 3 := by omega
      rcases hcs with h0 | h0 | h0 | h0
      · clear hlt hj
        obtain rfl : j = 0 := h0
        have c0 := HW.out.1.cell (i := 0) (v := .int .u8 0) rfl
        have z0 := HW.out.1.free 0
        go_wp2
        go_roundw
        case rel => exact ⟨1, by omega, by go_num, Lib.hid ⟨(HW.out.1.set_ 0 _).conv (by simp [le4z, le4, rowsV, f8, List.replicate]; try omega), HW.out.2.setCell (by show w.heap.size ≤ g; exact HG.out) _⟩⟩
        case measure => simp [intOf]
      · clear hlt hj
        obtain rfl : j = 1 := h0
        have c1 := HW.out.1.cell (i := 1) (v := .int .u8 0) rfl
        have z1 := HW.out.1.free 1
        go_wp2
        go_roundw
        case rel => exact ⟨2, by omega, by go_num, Lib.hid ⟨(HW.out.1.set_ 1 _).conv (by simp [le4z, le4, rowsV, f8, List.replicate]; try omega), HW.out.2.setCell (by show w.heap.size ≤ g; exact HG.out) _⟩⟩
        case measure => simp [intOf]
      · clear hlt hj
        obtain rfl : j = 2 := h0
        have c2 := HW.out.1.cell (i := 2) (v := .int .u8 0) rfl
        have z2 := HW.out.1.free 2
        go_wp2
        go_roundw
        case rel => exact ⟨3, by omega, by go_num, Lib.hid ⟨(HW.out.1.set_ 2 _).conv (by simp [le4z, le4, rowsV, f8, List.replicate]; try omega), HW.out.2.setCell (by show w.heap.size ≤ g; exact HG.out) _⟩⟩
        case measure => simp [intOf]
      · clear hlt hj
        obtain rfl : j = 3 := h0
        have c3 := HW.out.1.cell (i := 3) (v := .int .u8 0) rfl
        have z3 := HW.out.1.free 3
        go_wp2
        go_roundw
        case rel => exact ⟨4, by omega, by go_num, Lib.hid ⟨(HW.out.1.set_ 3 _).conv (by simp [le4z, le4, rowsV, f8, List.replicate]; try omega), HW.out.2.setCell (by show w.heap.size ≤ g; exact HG.out) _⟩⟩
        case measure => simp [intOf]
    · obtain rfl : j = 4 := by omega
      go_wp2
      go_ret
      exact ⟨g, rfl, HG.out, HW.out.1, HW.out.2⟩
end Go.Proofs.Ytgmjehejaailpaa
