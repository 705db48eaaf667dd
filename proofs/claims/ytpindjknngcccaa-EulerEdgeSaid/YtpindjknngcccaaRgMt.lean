/- Rings that are turned: what is only turned is the same. -/
import Derived.Test.YtpindjknngcccaaRfC
namespace Go.Proofs.Ytpindjknngcccaa
open Go.RowKit
set_option linter.unusedSimpArgs false
set_option linter.unusedVariables false

def Rot (A B : List D) : Prop := ∃ X Y, A = X ++ Y ∧ B = Y ++ X

theorem Rot.symm {A B : List D} (h : Rot A B) : Rot B A := by
  obtain ⟨X, Y, rfl, rfl⟩ := h
  exact ⟨Y, X, rfl, rfl⟩
theorem Rot.trans {A B C : List D} (h : Rot A B) (k : Rot B C) : Rot A C := by
  obtain ⟨X, Y, rfl, rfl⟩ := h
  obtain ⟨U, V, e, rfl⟩ := k
  rcases List.append_eq_append_iff.1 e with ⟨Z, h1, h2⟩ | ⟨Z, h1, h2⟩
  · exact ⟨Z, V ++ Y, by rw [h2]; simp, by rw [h1]; simp⟩
  · exact ⟨X ++ U, Z, by rw [h1]; simp, by rw [h2]; simp⟩
theorem Rot.len {A B : List D} (h : Rot A B) : A.length = B.length := by
  obtain ⟨X, Y, rfl, rfl⟩ := h
  simp only [List.length_append]; omega
theorem Rot.mem {A B : List D} (h : Rot A B) (d : D) : d ∈ A ↔ d ∈ B := by
  obtain ⟨X, Y, rfl, rfl⟩ := h
  simp only [List.mem_append]; exact Or.comm
theorem Rot.nodup {A B : List D} (h : Rot A B) (n : A.Nodup) : B.Nodup := by
  obtain ⟨X, Y, rfl, rfl⟩ := h
  rw [List.nodup_append] at n ⊢
  exact ⟨n.2.1, n.1, fun a ha b hb e => n.2.2 b hb a ha e.symm⟩
theorem Rot.filter {A B : List D} (h : Rot A B) (p : D → Bool) : Rot (A.filter p) (B.filter p) := by
  obtain ⟨X, Y, rfl, rfl⟩ := h
  exact ⟨X.filter p, Y.filter p, by simp, by simp⟩
theorem Rot.map {A B : List D} (h : Rot A B) (f : D → D) : Rot (A.map f) (B.map f) := by
  obtain ⟨X, Y, rfl, rfl⟩ := h
  exact ⟨X.map f, Y.map f, by simp, by simp⟩
theorem rot_at (L : List D) (k : Nat) : Rot L (L.drop k ++ L.take k) := ⟨L.take k, L.drop k, by simp, rfl⟩
theorem rot_turn (L : List D) : Rot L (turnD L) := rot_at L _

end Go.Proofs.Ytpindjknngcccaa
