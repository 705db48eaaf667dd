/- Rings that are turned: what is only turned is the same. -/
import Derived.Test.YtpindjknngcccaaRfC
namespace Go.Proofs.Ytpindjknngcccaa
open Go.RowKit
set_option linter.unusedSimpArgs false
set_option linter.unusedVariables false

theorem getD_lt {L : List D} {i : Nat} (h : i < L.length) : L.getD i (0, 0, 0) = L[i] := by
  rw [List.getD_eq_getElem?_getD, List.getElem?_eq_getElem h]
  rfl

def Rot (A B : List D) : Prop := ∃ X Y, A = X ++ Y ∧ B = Y ++ X

theorem Rot.rfl_ (A : List D) : Rot A A := ⟨A, [], by simp, by simp⟩
theorem Rot.symm {A B : List D} (h : Rot A B) : Rot B A := by
  obtain ⟨X, Y, rfl, rfl⟩ := h
  exact ⟨Y, X, rfl, rfl⟩
theorem Rot.trans {A B C : List D} (h : Rot A B) (k : Rot B C) : Rot A C := by
  obtain ⟨X, Y, rfl, rfl⟩ := h
  obtain ⟨U, V, e, rfl⟩ := k
  rcases List.append_eq_append_iff.1 e with ⟨Z, h1, h2⟩ | ⟨Z, h1, h2⟩
  · exact ⟨Z, V ++ Y, by rw [h2]; simp, by rw [h1]; simp⟩
  · exact ⟨X ++ U, Z, by rw [h1]; simp, by rw [h2]; simp⟩
theorem Rot.len {A B : List D} (h : Rot A B) : A.length = B.length := by
  obtain ⟨X, Y, rfl, rfl⟩ := h
  simp only [List.length_append]; omega
theorem Rot.mem {A B : List D} (h : Rot A B) (d : D) : d ∈ A ↔ d ∈ B := by
  obtain ⟨X, Y, rfl, rfl⟩ := h
  simp only [List.mem_append]; exact Or.comm
theorem Rot.nodup {A B : List D} (h : Rot A B) (n : A.Nodup) : B.Nodup := by
  obtain ⟨X, Y, rfl, rfl⟩ := h
  rw [List.nodup_append] at n ⊢
  exact ⟨n.2.1, n.1, fun a ha b hb e => n.2.2 b hb a ha e.symm⟩
theorem Rot.filter {A B : List D} (h : Rot A B) (p : D → Bool) : Rot (A.filter p) (B.filter p) := by
  obtain ⟨X, Y, rfl, rfl⟩ := h
  exact ⟨X.filter p, Y.filter p, by simp, by simp⟩
theorem Rot.map {A B : List D} (h : Rot A B) (f : D → D) : Rot (A.map f) (B.map f) := by
  obtain ⟨X, Y, rfl, rfl⟩ := h
  exact ⟨X.map f, Y.map f, by simp, by simp⟩
theorem Rot.flat {A B : List D} (h : Rot A B) (f : D → List D) : Rot (A.flatMap f) (B.flatMap f) := by
  obtain ⟨X, Y, rfl, rfl⟩ := h
  exact ⟨X.flatMap f, Y.flatMap f, by simp, by simp⟩
theorem rot_at (L : List D) (k : Nat) : Rot L (L.drop k ++ L.take k) := ⟨L.take k, L.drop k, by simp, rfl⟩
theorem rot_turn (L : List D) : Rot L (turnD L) := rot_at L _

/-- The least dart, told by the place. -/
theorem leastI_min (L : List D) : ∀ k, ∀ j, j < k → ordT (L.getD (leastI L k) (0, 0, 0)) (L.getD j (0, 0, 0)) ≤ 0
  | 0, j, h => by omega
  | k + 1, j, h => by
    simp only [leastI]
    split
    · rename_i hlt
      by_cases hj : j = k
      · subst hj
        rw [ordT_self]; omega
      · have := leastI_min L k j (by omega)
        exact ordT_trans _ _ _ (by omega) this
    · rename_i hge
      by_cases hj : j = k
      · subst hj
        rw [ordT_neg]; omega
      · exact leastI_min L k j (by omega)
theorem turnD_head (L : List D) (h : 0 < L.length) : (turnD L).getD 0 (0, 0, 0) = L.getD (leastI L L.length) (0, 0, 0) := by
  have hl := leastI_lt L L.length h
  unfold turnD
  rw [List.getD_eq_getElem?_getD, List.getElem?_append_left (by simp; omega), List.getElem?_drop, Nat.add_zero, List.getD_eq_getElem?_getD]
theorem turnD_min (L : List D) (h : 0 < L.length) (d : D) (hd : d ∈ L) : ordT ((turnD L).getD 0 (0, 0, 0)) d ≤ 0 := by
  rw [turnD_head L h]
  obtain ⟨i, hi, he⟩ := List.getElem_of_mem hd
  have := leastI_min L L.length i hi
  rw [getD_lt hi, he] at this
  exact this
theorem rot_eq {A B : List D} (h : Rot A B) (n : A.Nodup) (hd : 0 < A.length → A.getD 0 (0, 0, 0) = B.getD 0 (0, 0, 0)) : A = B := by
  obtain ⟨X, Y, rfl, rfl⟩ := h
  cases X with
  | nil => simp
  | cons a X =>
    cases Y with
    | nil => simp
    | cons b Y =>
      have : a = b := by simpa using hd (by simp)
      subst this
      simp at n
theorem turn_rot {A B : List D} (h : Rot A B) (n : A.Nodup) : turnD A = turnD B := by
  have h1 : Rot (turnD A) (turnD B) := (rot_turn A).symm.trans (h.trans (rot_turn B))
  refine rot_eq h1 ((rot_turn A).nodup n) fun hl => ?_
  rw [turnD_length] at hl
  have hl' : 0 < B.length := by rw [← h.len]; exact hl
  have m1 : (turnD A).getD 0 (0, 0, 0) ∈ A := by
    rw [(rot_turn A).mem, getD_lt (by rw [turnD_length]; exact hl)]
    exact List.getElem_mem _
  have m2 : (turnD B).getD 0 (0, 0, 0) ∈ B := by
    rw [(rot_turn B).mem, getD_lt (by rw [turnD_length]; exact hl')]
    exact List.getElem_mem _
  have a1 := turnD_min A hl _ ((h.mem _).2 m2)
  have a2 := turnD_min B hl' _ ((h.mem _).1 m1)
  rw [ordT_neg] at a2
  exact (ordT_zero _ _).1 (by omega)
theorem turn_turn {A : List D} (n : A.Nodup) : turnD (turnD A) = turnD A := (turn_rot (rot_turn A) n).symm
end Go.Proofs.Ytpindjknngcccaa
