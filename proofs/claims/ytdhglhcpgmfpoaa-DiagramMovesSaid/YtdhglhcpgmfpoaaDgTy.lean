/- The laws' types of the diagram layers: names, darts, vertices, edges, diagrams. -/
import Derived.Test.YtdhglhcpgmfpoaaLawB
import Derived.Test.YtdhglhcpgmfpoaaDgL
namespace Go.Proofs.Ytdhglhcpgmfpoaa
open Go.ChangeShapes Go.WideShapes Go.ChangeAt Go.RowKit

theorem wf64 {n : Int} (h : In64 n) : (Lit.int .i64 n).wf = true := by
  unfold In64 at h
  have e1 : IntKind.i64.min = -9223372036854775808 := rfl
  have e2 : IntKind.i64.max = 9223372036854775807 := rfl
  simp only [Lit.wf, e1, e2, Bool.and_eq_true]
  exact ⟨decide_eq_true h.1, decide_eq_true h.2⟩
theorem row1_id (H : Type) : Row1 H Try.prog 34 idC (fun _ x => In64 x.1 ∧ In64 x.2) :=
  (row1_struct Try.underlying34 (by kernel_rfl) (fields_cons (k := 1) (row1_int Try.underlying3) rfl (by kernel_rfl) (fields_cons (k := 1) (row1_int Try.underlying3) rfl (by kernel_rfl) (fields_nil _)))).map
    (fun a => (a.1, a.2.1)) (fun _ => rfl) (fun _ _ h => ⟨h.1, h.2.1⟩)
theorem row1_dart (H : Type) : Row1 H Try.prog 36 dC (fun _ x => In64 x.1 ∧ In64 x.2.1 ∧ In64 x.2.2) :=
  (row1_struct Try.underlying36 (by kernel_rfl) (fields_cons (k := 2) (row1_id H) rfl (by kernel_rfl) (fields_cons (k := 1) (row1_int Try.underlying3) rfl (by kernel_rfl) (fields_nil _)))).map
    (fun a => (a.1.1, a.1.2, a.2.1)) (fun _ => rfl) (fun _ _ h => ⟨h.1.1, h.1.2, h.2.1⟩)
def VOk (W : World) (v : VC) : Prop := SlOk 3 dC (fun _ x => In64 x.1 ∧ In64 x.2.1 ∧ In64 x.2.2) W v.2.1 ∧ v.2.2.1.size ≤ maxLen
theorem row1_vertex (H : Type) : Row1 H Try.prog 39 vC VOk :=
  (row1_struct Try.underlying39 (by kernel_rfl) (fields_cons (k := 2) (row1_id H) rfl (by kernel_rfl) (fields_cons (k := 1) (row1_slice (row1_dart H) Try.underlying37 (by kernel_rfl) dC_len (by decide)) rfl (by kernel_rfl)
    (fields_cons (k := 1) (row1_string Try.underlying9) rfl (by kernel_rfl) (fields_cons (k := 1) (row1_int Try.underlying3) rfl (by kernel_rfl) (fields_nil _)))))).map
    (fun a => (a.1, a.2.1, a.2.2.1, a.2.2.2.1)) (fun _ => rfl) (fun _ _ h => ⟨h.2.1, h.2.2.1⟩)
def EOk (_ : World) (e : EC) : Prop := In64 e.1.1 ∧ In64 e.1.2 ∧ e.2.1.size ≤ maxLen
theorem row1_edge (H : Type) : Row1 H Try.prog 43 eC EOk :=
  (row1_struct Try.underlying43 (by kernel_rfl) (fields_cons (k := 2) (row1_id H) rfl (by kernel_rfl)
    (fields_cons (k := 1) (row1_string Try.underlying9) rfl (by kernel_rfl) (fields_cons (k := 1) (row1_int Try.underlying3) rfl (by kernel_rfl) (fields_nil _))))).map
    (fun a => (a.1, a.2.1, a.2.2.1)) (fun _ => rfl) (fun _ _ h => ⟨h.1.1, h.1.2, h.2.1⟩)
abbrev DgT := (Option Addr × Nat × Nat × List VC) × (Option Addr × Nat × Nat × List EC)
def dgC (d : DgT) : List Value := [.slice d.1.1 d.1.2.1 d.1.2.2.1, .slice d.2.1 d.2.2.1 d.2.2.2.1]
def DgOk (W : World) (d : DgT) : Prop := SlOk 5 vC VOk W d.1 ∧ SlOk 4 eC EOk W d.2
theorem row1_diagram (H : Type) : Row1 H Try.prog 25 dgC DgOk :=
  (row1_struct Try.underlying25 (by kernel_rfl) (fields_cons (k := 1) (row1_slice (row1_vertex H) Try.underlying22 (by kernel_rfl) vC_len (by decide)) rfl (by kernel_rfl)
    (fields_cons (k := 1) (row1_slice (row1_edge H) Try.underlying23 (by kernel_rfl) eC_len (by decide)) rfl (by kernel_rfl) (fields_nil _)))).map
    (fun a => (a.1, a.2.1)) (fun _ => rfl) (fun _ _ h => ⟨h.1, h.2.1⟩)
theorem DgOk.dg {W : World} {d : DgT} (h : DgOk W d) : DgIn W d.1.1 d.1.2.1 d.1.2.2.1 d.1.2.2.2 d.2.1 d.2.2.1 d.2.2.2.1 d.2.2.2.2 :=
  ⟨h.1.2.1, h.2.2.1, fun x hx => ⟨(h.1.2.2 x hx).1.1, by rw [dartsV_rows]; exact (h.1.2.2 x hx).1.2.1⟩⟩
theorem zero64 : In64 0 ∧ In64 1 := by unfold In64; omega
theorem DgOk.good {W : World} {d : DgT} (h : DgOk W d) : GoodD d.1.2.2.2 d.2.2.2.2 :=
  ⟨fun x hx y hy => by
    have h1 := (h.1.2.2 x hx).1.2.2 y hy
    exact ⟨wf64 h1.1, wf64 h1.2.1, wf64 h1.2.2⟩, fun e he => by
    have h1 := h.2.2.2 e he
    exact ⟨⟨wf64 h1.1, wf64 h1.2.1, wf64 zero64.1⟩, ⟨wf64 h1.1, wf64 h1.2.1, wf64 zero64.2⟩⟩, fun x hx => (h.1.2.2 x hx).2, fun e he => (h.2.2.2 e he).2.2⟩
theorem DgOk.max {W : World} {d : DgT} (h : DgOk W d) : d.1.2.1 ≤ maxLen ∧ d.2.2.1 ≤ maxLen := ⟨Nat.le_trans h.1.2.1.le h.1.1, Nat.le_trans h.2.2.1.le h.2.1⟩
end Go.Proofs.Ytdhglhcpgmfpoaa
