/- The laws' types as rows of int; what the row's shutting asks of the program. -/
import Derived.Test.YthfngmlnmpbcpaaProg
import Derived.Test.YthfngmlnmpbcpaaOpen
import Derived.KernelRfl
namespace Go.Proofs.Ythfngmlnmpbcpaa
open Go.ChangeShapes Go.WideShapes Go.ChangeAt Go.RowKit

theorem Try.own : ownKnob Try.prog.godebug = none := by kernel_rfl
theorem Try.laidOut : laidOutB Try.prog = true := by kernel_rfl

theorem ints_i (H : Type) : Ints H Try.prog 3 1 := ints_int Try.underlying3
end Go.Proofs.Ythfngmlnmpbcpaa
