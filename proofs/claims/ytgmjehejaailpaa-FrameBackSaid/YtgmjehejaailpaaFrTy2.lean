/- A frame, read. -/
import Derived.Test.YtgmjehejaailpaaFrTy
import Derived.Test.YtgmjehejaailpaaFr2
namespace Go.Proofs.Ytgmjehejaailpaa
open Go.ChangeShapes Go.WideShapes Go.ChangeAt Go.RowKit

def frmCells (a : FrT × (Option Addr × Nat × Nat × List Nat)) : List Value := frCells a.1 a.2.1 a.2.2.1 a.2.2.2.1
theorem row1_frame (H : Type) : Row1 H Try.prog 24 frmCells (fun W a => SlOk 1 f8 (fun _ b => b < 256) W a.2) :=
  (row1_struct Try.underlying24 (by kernel_rfl) (fields_cons (k := 1) (row1_int Try.underlying3) rfl (by kernel_rfl) (fields_cons (k := 1) (row1_int Try.underlying3) rfl (by kernel_rfl) (fields_cons (k := 1) (row1_int Try.underlying3) rfl (by kernel_rfl) (fields_cons (k := 1) (row1_int Try.underlying3) rfl (by kernel_rfl) (fields_cons (k := 1) (row1_int Try.underlying3) rfl (by kernel_rfl) (fields_cons (k := 1) (row1_int Try.underlying3) rfl (by kernel_rfl) (fields_cons (k := 1) (row1_slice (row1_byte H) Try.underlying22 (by kernel_rfl) f8_len (by decide)) rfl (by kernel_rfl) (fields_nil _))))))))).map
    (fun a => (⟨a.1, a.2.1, a.2.2.1, a.2.2.2.1, a.2.2.2.2.1, a.2.2.2.2.2.1⟩, a.2.2.2.2.2.2.1)) (fun _ => rfl) (fun _ _ h => h.2.2.2.2.2.2.1)
end Go.Proofs.Ytgmjehejaailpaa
