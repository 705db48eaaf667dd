/- The contract of the document's own four: four bytes behind a row of the caller's own. -/
import Derived.Test.YtgmjehejaailpaaFr4
namespace Go.Proofs.Ytgmjehejaailpaa
open Go.RowKit
set_option linter.unusedSimpArgs false
set_option linter.unusedVariables false

/-- What four tells: the row, four bytes longer. -/
def GivesFour (w : World) (B : Nat) (n : Nat) (L : List Nat) (W : World) (e : Ending) (W' : World) : Prop :=
  ∃ v', e = .returned v' ∧ Ow w B 5 1 v' (n + 4) (rowsV f8 L) W' ∧ Below B W W'
set_option maxRecDepth 100000 in
theorem four_any (w : World) (B n : Nat) (v : Value) (L : List Nat) (x : Int) (W : World) (h : Ow w B 5 1 v n (rowsV f8 L) W) (hn : n ≤ 100000) (h0 : 0 ≤ x) (h1 : x ≤ 1073741824) :
    Calls Try.prog 21 #[v, .int .i64 x] W (GivesFour w B n (L ++ be4 x) W) := by
  obtain ⟨i0, hi, hz0, hz1, hz2⟩ := info_parts_ info_u8
  obtain ⟨A, c, rfl, -⟩ := h.rds
  have HO := Lib.hid h
  have u1 : IntKind.u8.wrap (x / 16777216) = x / 16777216 % 256 := by rw [IntKind.wrap_u8]
  have u2 : IntKind.u8.wrap (x / 65536 % 256) = x / 65536 % 256 := by rw [IntKind.wrap_u8]; omega
  have u3 : IntKind.u8.wrap (x / 256 % 256) = x / 256 % 256 := by rw [IntKind.wrap_u8]; omega
  have u4 : IntKind.u8.wrap (x % 256) = x % 256 := by rw [IntKind.wrap_u8]; omega
  clear h
  go_enter Try.func21, Try.ntmps21
  go_wp2_with (first
    | (at_builtin
       refine wpList_push2 rfl (.tmp 5) (.tmp 20) _ rfl _ 5 i0 _ 1 1 Try.underlying22 hi hz0 hz1 hz2 rfl (by decide) _ _ _ rfl (by exact HO.out.up (below1 _ _)) _ (some ⟨W.heap.size, 0, none⟩) 4 4 ([.int .u8 (x / 16777216 % 256), .int .u8 (x / 65536 % 256), .int .u8 (x / 256 % 256), .int .u8 (x % 256)]) rfl (by exact RdS.new_ rfl (Nat.lt_succ_self _) rfl rfl) (by simp [Value.oneCell']) (by unfold maxLen; omega) (by omega) ?_
       intro v1 W4 how1 hb1 hgr1
       have HO1 := Lib.hid how1
       have HB1 := Lib.hid hb1
       clear how1 hb1 hgr1))
  go_ret
  refine ⟨_, rfl, ?_, (((Below.refl _ _).alloc HO.out.hi _).trans HB1.out)⟩
  have e1 : (((x / 16777216 % 256).toNat : Nat) : Int) = x / 16777216 % 256 := by omega
  have e2 : (((x / 65536 % 256).toNat : Nat) : Int) = x / 65536 % 256 := by omega
  have e3 : (((x / 256 % 256).toNat : Nat) : Int) = x / 256 % 256 := by omega
  have e4 : (((x % 256).toNat : Nat) : Int) = x % 256 := by omega
  rw [rowsV_app]
  have := HO1.out
  simpa [be4, rowsV, f8, e1, e2, e3, e4] using this
end Go.Proofs.Ytgmjehejaailpaa
