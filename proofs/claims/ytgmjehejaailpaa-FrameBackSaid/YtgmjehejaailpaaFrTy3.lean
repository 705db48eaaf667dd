/- A law's arguments opened: arrays; how four bytes are turned. -/
import Derived.Test.YtgmjehejaailpaaFrTy2
import Derived.Test.YtgmjehejaailpaaFr23
namespace Go.Proofs.Ytgmjehejaailpaa
open Go.ChangeShapes Go.WideShapes Go.ChangeAt Go.RowKit

section
variable {H : Type} {P : Program} {α : Type}
theorem rows_of_cells {k : Nat} {f : α → List Value} {p : α → Prop} : ∀ (n : Nat) (cs : List Value), cs.length = n * k → (∀ i, i < n → ∃ a, (cs.drop (i * k)).take k = f a ∧ p a) → ∃ l : List α, l.length = n ∧ cs = rowsV f l ∧ ∀ x ∈ l, p x
  | 0, cs, hl, _ => ⟨[], rfl, List.eq_nil_of_length_eq_zero (by omega), by simp⟩
  | n + 1, cs, hl, h => by
    obtain ⟨a, ha, pa⟩ := h 0 (by omega)
    rw [Nat.zero_mul, List.drop_zero] at ha
    obtain ⟨l, h1, h2, h3⟩ := rows_of_cells (k := k) (f := f) (p := p) n (cs.drop k) (by rw [List.length_drop, hl, Nat.succ_mul]; omega) (fun i hi => by
      obtain ⟨b, hb, pb⟩ := h (i + 1) (by omega)
      rw [Nat.succ_mul, Nat.add_comm, ← List.drop_drop] at hb
      exact ⟨b, hb, pb⟩)
    refine ⟨a :: l, by simp [h1], ?_, fun x hx => ?_⟩
    · show cs = f a ++ rowsV f l
      rw [← ha, ← h2, List.take_append_drop]
    · rcases List.mem_cons.1 hx with rfl | hx
      · exact pa
      · exact h3 x hx
theorem row1_array {t e : TypeId} {n k : Nat} {f : α → List Value} {p : World → α → Prop} (hi : Row1 H P e f p) (ht : P.underlying t = some (.array n e)) (ce : P.cellsOf e = k) (ct : P.cellsOf t = n * k) :
    Row1 H P t (fun l : List α => rowsV f l) (fun w l => l.length = n ∧ ∀ x ∈ l, p w x) := by
  intro enc w held fuel cs x h
  obtain ⟨xs, q, _, _, hl, hlen, hg⟩ := DataW.trod_array ht h
  obtain ⟨l, h1, h2, h3⟩ := rows_of_cells (f := f) (k := k) (p := p w) n cs (by rw [hl, ct]) (fun i him => by
    have h1 := hg i him
    rw [List.getElem?_eq_getElem (by omega), ce] at h1
    exact hi _ _ _ _ _ _ h1)
  exact ⟨l, h2, h1, h3⟩
end
def turnCells (a : Int × List Nat) : List Value := .int .i64 a.1 :: rowsV f8 a.2
theorem row1_turn (H : Type) : Row1 H Try.prog 41 turnCells (fun _ a => a.2.length = 4 ∧ ∀ b ∈ a.2, b < 256) :=
  (row1_struct Try.underlying41 (by kernel_rfl) (fields_cons (k := 1) (row1_int Try.underlying3) rfl (by kernel_rfl) (fields_cons (k := 4) (row1_array (k := 1) (row1_byte H) Try.underlying39 (by kernel_rfl) (by kernel_rfl)) rfl (by kernel_rfl) (fields_nil _)))).map
    (fun a => (a.1, a.2.1)) (fun a => by simp [turnCells]) (fun _ _ h => h.2.1)
end Go.Proofs.Ytgmjehejaailpaa
