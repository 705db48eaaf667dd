/- The laws' types of layer 17. -/
import Derived.Test.YthfngmlnmpbcpaaOpenG
import Derived.Test.YthfngmlnmpbcpaaTypes
import Derived.Test.YthfngmlnmpbcpaaSw
namespace Go.Proofs.Ythfngmlnmpbcpaa
open Go.ChangeShapes Go.WideShapes Go.ChangeAt Go.RowKit

theorem row1_intC (H : Type) : Row1 H Try.prog 3 intC (fun _ n => In64 n) := row1_int Try.underlying3
end Go.Proofs.Ythfngmlnmpbcpaa
