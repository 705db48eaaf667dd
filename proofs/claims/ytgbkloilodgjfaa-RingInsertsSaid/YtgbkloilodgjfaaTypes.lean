/- The laws' types as rows of int; what the row's shutting asks of the program. -/
import Derived.Test.YtgbkloilodgjfaaProg
import Derived.Test.YtgbkloilodgjfaaOpen
import Derived.KernelRfl
namespace Go.Proofs.Ytgbkloilodgjfaa
open Go.ChangeShapes Go.WideShapes Go.ChangeAt Go.RowKit

theorem Try.own : ownKnob Try.prog.godebug = none := by kernel_rfl
theorem Try.laidOut : laidOutB Try.prog = true := by kernel_rfl

theorem ints_i (H : Type) : Ints H Try.prog 3 1 := ints_int Try.underlying3
theorem ints_id (H : Type) : Ints H Try.prog 44 2 := ints_struct2 Try.underlying44 (ints_i H) (ints_i H) rfl rfl (by kernel_rfl) (by kernel_rfl) (by kernel_rfl) rfl
theorem ints_dart (H : Type) : Ints H Try.prog 46 3 := ints_struct2 Try.underlying46 (ints_id H) (ints_i H) rfl rfl (by kernel_rfl) (by kernel_rfl) (by kernel_rfl) rfl
theorem ints_dart2 (H : Type) : Ints H Try.prog 53 6 := ints_array Try.underlying53 (ints_dart H) (by kernel_rfl) (by kernel_rfl) rfl
theorem ints_i2 (H : Type) : Ints H Try.prog 31 2 := ints_array Try.underlying31 (ints_i H) (by kernel_rfl) (by kernel_rfl) rfl
end Go.Proofs.Ytgbkloilodgjfaa
