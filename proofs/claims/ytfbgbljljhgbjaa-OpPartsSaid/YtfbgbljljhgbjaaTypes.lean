/- The laws' types as rows of int; what the row's shutting asks of the program. -/
import Derived.Test.YtfbgbljljhgbjaaProg
import Derived.Test.YtfbgbljljhgbjaaOpen
import Derived.KernelRfl
namespace Go.Proofs.Ytfbgbljljhgbjaa
open Go.ChangeShapes Go.WideShapes Go.ChangeAt Go.RowKit

theorem Try.own : ownKnob Try.prog.godebug = none := by kernel_rfl
theorem Try.laidOut : laidOutB Try.prog = true := by kernel_rfl

theorem ints_i (H : Type) : Ints H Try.prog 3 1 := ints_int Try.underlying3
theorem ints_id (H : Type) : Ints H Try.prog 23 2 := ints_struct2 Try.underlying23 (ints_i H) (ints_i H) rfl rfl (by kernel_rfl) (by kernel_rfl) (by kernel_rfl) rfl
theorem ints_dart (H : Type) : Ints H Try.prog 25 3 := ints_struct2 Try.underlying25 (ints_id H) (ints_i H) rfl rfl (by kernel_rfl) (by kernel_rfl) (by kernel_rfl) rfl
end Go.Proofs.Ytfbgbljljhgbjaa
