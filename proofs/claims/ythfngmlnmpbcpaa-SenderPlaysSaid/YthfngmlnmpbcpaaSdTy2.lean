/- The laws' calls of a sender. -/
import Derived.Test.YthfngmlnmpbcpaaSdTy
namespace Go.Proofs.Ythfngmlnmpbcpaa
open Go.ChangeShapes Go.WideShapes Go.ChangeAt Go.RowKit

/-- A call: its kind, its number; and where its bytes are. -/
abbrev OpS := (Int × Int) × (Option Addr × Nat × Nat × List Nat)
def opCells (a : OpS) : List Value := [.int .i64 a.1.1, .int .i64 a.1.2, .slice a.2.1 a.2.2.1 a.2.2.2.1]
theorem row1_op (H : Type) : Row1 H Try.prog 38 opCells (fun W a => SlOk 1 f8 (fun _ b => b < 256) W a.2) :=
  (row1_struct Try.underlying38 (by kernel_rfl) (fields_cons (k := 1) (row1_int Try.underlying3) rfl (by kernel_rfl) (fields_cons (k := 1) (row1_int Try.underlying3) rfl (by kernel_rfl) (fields_cons (k := 1) (row1_slice (row1_byte H) Try.underlying32 (by kernel_rfl) f8_len (by decide)) rfl (by kernel_rfl) (fields_nil _))))).map
    (fun a => (⟨a.1, a.2.1⟩, a.2.2.1)) (fun _ => rfl) (fun _ _ h => h.2.2.1)
end Go.Proofs.Ythfngmlnmpbcpaa
