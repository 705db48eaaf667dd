/- Answers as data. -/
import Derived.Test.YtinhenmafjoaoaaGreatDoorLawB
import Derived.Test.YtinhenmafjoaoaaGreatDoorDk6
namespace Go.Proofs.YtinhenmafjoaoaaGreatDoor
open Go.ChangeShapes Go.WideShapes Go.ChangeAt Go.RowKit

theorem row1_byte (H : Type) : Row1 H Tryz.prog 5 f8 (fun _ b => b < 256) := by
  intro enc w held fuel cs x h
  obtain ⟨n, rfl, _, hw⟩ := DataW.trod_int Tryz.underlying5 h
  have hb := bounds_u8 hw
  refine ⟨n.toNat, ?_, by omega⟩
  have e : ((n.toNat : Nat) : Int) = n := by omega
  simp [f8, e]
def AnR (W : World) (x : AnT) : Prop := In64 x.k ∧ In64 x.n ∧ In64 x.m ∧ SlOk 1 f8 (fun _ b => b < 256) W (x.a, x.l, x.c, x.b)
theorem AnR.ok {W : World} {x : AnT} (h : AnR W x) : AnOk W x := ⟨h.2.2.2.2.1, fun y hy => h.2.2.2.2.2 y hy, h.1, h.2.1, h.2.2.1, Nat.le_trans h.2.2.2.2.1.le h.2.2.2.1⟩
theorem row1_ans (H : Type) : Row1 H Tryz.prog 27 anC AnR :=
  (row1_struct Tryz.underlying27 (by kernel_rfl) (fields_cons (k := 1) (row1_int Tryz.underlying24) rfl (by kernel_rfl) (fields_cons (k := 1) (row1_int Tryz.underlying3) rfl (by kernel_rfl) (fields_cons (k := 1) (row1_int Tryz.underlying3) rfl (by kernel_rfl) (fields_cons (k := 1) (row1_slice (row1_byte H) Tryz.underlying25 (by kernel_rfl) f8_len (by decide)) rfl (by kernel_rfl) (fields_nil _)))))).map
    (fun a => ⟨a.1, a.2.1, a.2.2.1, a.2.2.2.1.1, a.2.2.2.1.2.1, a.2.2.2.1.2.2.1, a.2.2.2.1.2.2.2⟩) (fun _ => rfl) (fun _ _ h => ⟨h.1, h.2.1, h.2.2.1, h.2.2.2.1⟩)
end Go.Proofs.YtinhenmafjoaoaaGreatDoor
