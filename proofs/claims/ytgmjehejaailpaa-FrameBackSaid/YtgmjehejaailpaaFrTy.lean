/- The laws' types of layer 15: bytes. -/
import Derived.Test.YtgmjehejaailpaaOpenG
import Derived.Test.YtgmjehejaailpaaTypes
import Derived.Test.YtgmjehejaailpaaFr1
namespace Go.Proofs.Ytgmjehejaailpaa
open Go.ChangeShapes Go.WideShapes Go.ChangeAt Go.RowKit

theorem row1_byte (H : Type) : Row1 H Try.prog 5 f8 (fun _ b => b < 256) := by
  intro enc w held fuel cs x h
  obtain ⟨n, rfl, _, hw⟩ := DataW.trod_int Try.underlying5 h
  have hb := bounds_u8 hw
  refine ⟨n.toNat, ?_, by omega⟩
  have e : ((n.toNat : Nat) : Int) = n := by omega
  simp [f8, e]
end Go.Proofs.Ytgmjehejaailpaa
