/- The law's calls of a receiver. -/
import Derived.Test.YthfngmlnmpbcpaaSdTy
import Derived.Test.YthfngmlnmpbcpaaRw3
namespace Go.Proofs.Ythfngmlnmpbcpaa
open Go.ChangeShapes Go.WideShapes Go.ChangeAt Go.RowKit

theorem row1_op17 (H : Type) : Row1 H Try.prog 59 op17Cells (fun W a => In64 a.1 ∧ SlOk 1 f8 (fun _ b => b < 256) W a.2) :=
  (row1_struct Try.underlying59 (by kernel_rfl) (fields_cons (k := 1) (row1_int Try.underlying3) rfl (by kernel_rfl) (fields_cons (k := 1) (row1_slice (row1_byte H) Try.underlying32 (by kernel_rfl) f8_len (by decide)) rfl (by kernel_rfl) (fields_nil _)))).map
    (fun a => (a.1, a.2.1)) (fun _ => rfl) (fun _ _ h => ⟨h.1, h.2.1⟩)
end Go.Proofs.Ythfngmlnmpbcpaa
