/- The laws' types of layer 16: bytes, rows of bytes. -/
import Derived.Test.YthfngmlnmpbcpaaOpenG
import Derived.Test.YthfngmlnmpbcpaaTypes
import Derived.Test.YthfngmlnmpbcpaaBy
namespace Go.Proofs.Ythfngmlnmpbcpaa
open Go.ChangeShapes Go.WideShapes Go.ChangeAt Go.RowKit

theorem row1_byte (H : Type) : Row1 H Try.prog 5 f8 (fun _ b => b < 256) := by
  intro enc w held fuel cs x h
  obtain ⟨n, rfl, _, hw⟩ := DataW.trod_int Try.underlying5 h
  have hb := bounds_u8 hw
  refine ⟨n.toNat, ?_, by omega⟩
  have e : ((n.toNat : Nat) : Int) = n := by omega
  simp [f8, e]
theorem row1_bytes (H : Type) : Row1 H Try.prog 32 (slCells (α := Nat)) (SlOk 1 f8 (fun _ b => b < 256)) := row1_slice (row1_byte H) Try.underlying32 (by kernel_rfl) f8_len (by decide)
end Go.Proofs.Ythfngmlnmpbcpaa
