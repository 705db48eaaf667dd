/- The types of ident's laws as rows of int; what the row's shutting asks of the program. -/
import Derived.Test.YtedihfggijcciaaProg
import Derived.Test.YtedihfggijcciaaOpen
import Derived.KernelRfl
namespace Go.Proofs.Ytedihfggijcciaa
open Go.ChangeShapes Go.WideShapes Go.ChangeAt Go.RowKit

theorem Try.own : ownKnob Try.prog.godebug = none := by kernel_rfl
theorem Try.laidOut : laidOutB Try.prog = true := by kernel_rfl

theorem ints_i (H : Type) : Ints H Try.prog 3 1 := ints_int Try.underlying3
theorem ints_id (H : Type) : Ints H Try.prog 23 2 := ints_struct2 Try.underlying23 (ints_i H) (ints_i H) rfl rfl (by kernel_rfl) (by kernel_rfl) (by kernel_rfl) rfl
theorem ints_dart (H : Type) : Ints H Try.prog 25 3 := ints_struct2 Try.underlying25 (ints_id H) (ints_i H) rfl rfl (by kernel_rfl) (by kernel_rfl) (by kernel_rfl) rfl
theorem ints_dart2 (H : Type) : Ints H Try.prog 26 6 := ints_array Try.underlying26 (ints_dart H) (by kernel_rfl) (by kernel_rfl) rfl
theorem ints_id2 (H : Type) : Ints H Try.prog 43 4 := ints_array Try.underlying43 (ints_id H) (by kernel_rfl) (by kernel_rfl) rfl
theorem ints_id3 (H : Type) : Ints H Try.prog 45 6 := ints_array Try.underlying45 (ints_id H) (by kernel_rfl) (by kernel_rfl) rfl
theorem ints_dart3 (H : Type) : Ints H Try.prog 46 9 := ints_array Try.underlying46 (ints_dart H) (by kernel_rfl) (by kernel_rfl) rfl
end Go.Proofs.Ytedihfggijcciaa
