/- The laws' types of layer 9: names, darts, corners, operations, edits. -/
import Derived.Test.YtfbgbljljhgbjaaOpenG
import Derived.Test.YtfbgbljljhgbjaaTypes
import Derived.Test.YtfbgbljljhgbjaaOp13
namespace Go.Proofs.Ytfbgbljljhgbjaa
open Go.ChangeShapes Go.WideShapes Go.ChangeAt Go.RowKit

theorem row1_id (H : Type) : Row1 H Try.prog 23 idCells (fun _ _ => True) :=
  (row1_struct Try.underlying23 (by kernel_rfl) (fields_cons (k := 1) (row1_int Try.underlying3) rfl (by kernel_rfl) (fields_cons (k := 1) (row1_int Try.underlying3) rfl (by kernel_rfl) (fields_nil _)))).map
    (fun a => (a.1, a.2.1)) (fun _ => rfl) (fun _ _ _ => trivial)
def dCells (d : Int × Int × Int) : List Value := [.int .i64 d.1, .int .i64 d.2.1, .int .i64 d.2.2]
theorem row1_dart (H : Type) : Row1 H Try.prog 25 dCells (fun _ _ => True) :=
  (row1_struct Try.underlying25 (by kernel_rfl) (fields_cons (k := 2) (row1_id H) rfl (by kernel_rfl) (fields_cons (k := 1) (row1_int Try.underlying3) rfl (by kernel_rfl) (fields_nil _)))).map
    (fun a => (a.1.1, a.1.2, a.2.1)) (fun _ => rfl) (fun _ _ _ => trivial)
def cnCells (d : Int × Int × Int × Int × Int) : List Value := [.int .i64 d.1, .int .i64 d.2.1, .int .i64 d.2.2.1, .int .i64 d.2.2.2.1, .int .i64 d.2.2.2.2]
theorem row1_corner (H : Type) : Row1 H Try.prog 27 cnCells (fun _ _ => True) :=
  (row1_struct Try.underlying27 (by kernel_rfl) (fields_cons (k := 2) (row1_id H) rfl (by kernel_rfl) (fields_cons (k := 3) (row1_dart H) rfl (by kernel_rfl) (fields_nil _)))).map
    (fun a => (a.1.1, a.1.2, a.2.1.1, a.2.1.2.1, a.2.1.2.2)) (fun _ => rfl) (fun _ _ _ => trivial)
theorem row1_op (H : Type) : Row1 H Try.prog 29 opCells (fun _ o => o.t.size ≤ maxLen) :=
  (row1_struct Try.underlying29 (by kernel_rfl) (fields_cons (k := 1) (row1_int Try.underlying3) rfl (by kernel_rfl) (fields_cons (k := 2) (row1_id H) rfl (by kernel_rfl) (fields_cons (k := 2) (row1_id H) rfl (by kernel_rfl) (fields_cons (k := 2) (row1_id H) rfl (by kernel_rfl)
    (fields_cons (k := 5) (row1_corner H) rfl (by kernel_rfl) (fields_cons (k := 5) (row1_corner H) rfl (by kernel_rfl) (fields_cons (k := 1) (row1_bool Try.underlying4) rfl (by kernel_rfl) (fields_cons (k := 1) (row1_string Try.underlying9) rfl (by kernel_rfl)
    (fields_cons (k := 1) (row1_int Try.underlying3) rfl (by kernel_rfl) (fields_nil _))))))))))).map
    (fun a => ⟨a.1, a.2.1.1, a.2.1.2, a.2.2.1.1, a.2.2.1.2, a.2.2.2.1.1, a.2.2.2.1.2, a.2.2.2.2.1.1, a.2.2.2.2.1.2.1, a.2.2.2.2.1.2.2.1, a.2.2.2.2.1.2.2.2.1, a.2.2.2.2.1.2.2.2.2,
      a.2.2.2.2.2.1.1, a.2.2.2.2.2.1.2.1, a.2.2.2.2.2.1.2.2.1, a.2.2.2.2.2.1.2.2.2.1, a.2.2.2.2.2.1.2.2.2.2, a.2.2.2.2.2.2.1, a.2.2.2.2.2.2.2.1, a.2.2.2.2.2.2.2.2.1⟩) (fun _ => rfl) (fun _ _ h => h.2.2.2.2.2.2.2.1)
theorem row1_edit (H : Type) : Row1 H Try.prog 32 (slCells (α := OpT)) (SlOk 20 opCells (fun _ o => o.t.size ≤ maxLen)) :=
  (row1_struct Try.underlying32 (by kernel_rfl) (fields_cons (k := 1) (row1_slice (row1_op H) Try.underlying30 (by kernel_rfl) opCells_len' (by decide)) rfl (by kernel_rfl) (fields_nil _))).map
    (fun a => a.1) (fun _ => by simp) (fun _ _ h => h.1)
end Go.Proofs.Ytfbgbljljhgbjaa
