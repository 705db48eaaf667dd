/- The darts of edges. -/
import Derived.Test.YtpindjknngcccaaFcS
namespace Go.Proofs.Ytpindjknngcccaa
open Go.RowKit
set_option linter.unusedSimpArgs false
set_option linter.unusedVariables false

/-- The darts of edges, edge by edge. -/
def dsE (L : List EC) : List D := L.flatMap fun e => [(e.1.1, e.1.2, 0), (e.1.1, e.1.2, 1)]
theorem dsE_cons (e : EC) (L : List EC) : dsE (e :: L) = (e.1.1, e.1.2, 0) :: (e.1.1, e.1.2, 1) :: dsE L := rfl
theorem dsE_app (L M : List EC) : dsE (L ++ M) = dsE L ++ dsE M := by simp [dsE, List.flatMap_append]
theorem dsE_next (L : List EC) (j : Nat) (x : EC) (h : L[j]? = some x) : dsE (L.take (j + 1)) = dsE (L.take j) ++ [(x.1.1, x.1.2, 0), (x.1.1, x.1.2, 1)] := by
  rw [List.take_add_one, h, dsE_app]
  rfl
theorem dsE_len : ∀ L : List EC, (dsE L).length = 2 * L.length
  | [] => rfl
  | e :: r => by
    rw [dsE_cons, List.length_cons, List.length_cons, dsE_len r, List.length_cons]
    omega
theorem dsE_mem (L : List EC) (d : D) : d ∈ dsE L ↔ ∃ e ∈ L, e.1 = (d.1, d.2.1) ∧ (d.2.2 = 0 ∨ d.2.2 = 1) := by
  obtain ⟨a, b, c⟩ := d
  unfold dsE
  rw [List.mem_flatMap]
  constructor
  · rintro ⟨e, he, h⟩
    refine ⟨e, he, ?_⟩
    simp only [List.mem_cons, Prod.mk.injEq, List.mem_nil_iff, or_false] at h
    rcases h with ⟨rfl, rfl, rfl⟩ | ⟨rfl, rfl, rfl⟩
    · exact ⟨rfl, .inl rfl⟩
    · exact ⟨rfl, .inr rfl⟩
  · rintro ⟨e, he, h1, h2⟩
    refine ⟨e, he, ?_⟩
    simp only [List.mem_cons, Prod.mk.injEq, List.mem_nil_iff, or_false]
    simp only at h1 h2
    rw [h1]
    rcases h2 with rfl | rfl
    · exact .inl ⟨rfl, rfl, rfl⟩
    · exact .inr ⟨rfl, rfl, rfl⟩
theorem Formed.ds {Vs : List VC} {Es : List EC} (h : Formed Vs Es) (d : D) : d ∈ dsE Es ↔ d ∈ ringsOf Vs := by rw [dsE_mem, h.mem]
end Go.Proofs.Ytpindjknngcccaa
