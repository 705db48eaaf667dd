/- Rings as lists of darts: turned to their least, searched, changed. No program stands in this text but the cells. -/
import Derived.Test.YtpindjknngcccaaDart
import Derived.Test.YtpindjknngcccaaBase
namespace Go.Proofs.Ytpindjknngcccaa
open Go.RowKit

abbrev D := Int × Int × Int
def ordT (a b : D) : Int := ordD a.1 a.2.1 a.2.2 b.1 b.2.1 b.2.2
/-- The cells of a list of darts. -/
def dartsV : List D → List Value
  | [] => []
  | d :: l => .int .i64 d.1 :: .int .i64 d.2.1 :: .int .i64 d.2.2 :: dartsV l
theorem dartsV_length (l : List D) : (dartsV l).length = l.length * 3 := by
  induction l with
  | nil => rfl
  | cons p l ih => simp [dartsV, ih]; omega
theorem dartsV_app (l m : List D) : dartsV (l ++ m) = dartsV l ++ dartsV m := by
  induction l with
  | nil => rfl
  | cons p l ih => simp [dartsV, ih]
theorem dartsV_get (l : List D) (k : Nat) (h : k < l.length) : (dartsV l)[k * 3]? = some (.int .i64 (l.getD k (0, 0, 0)).1) ∧ (dartsV l)[k * 3 + 1]? = some (.int .i64 (l.getD k (0, 0, 0)).2.1) ∧ (dartsV l)[k * 3 + 2]? = some (.int .i64 (l.getD k (0, 0, 0)).2.2) := by
  induction l generalizing k with
  | nil => simp at h
  | cons p l ih =>
    cases k with
    | zero => simp [dartsV]
    | succ k =>
      have := ih k (by simpa using h)
      have e1 : (k + 1) * 3 = k * 3 + 3 := by omega
      have e2 : (k + 1) * 3 + 1 = k * 3 + 1 + 3 := by omega
      have e3 : (k + 1) * 3 + 2 = k * 3 + 2 + 3 := by omega
      rw [e2, e3, e1]
      simpa [dartsV] using this
theorem dartsV_one (l : List D) : ∀ u ∈ dartsV l, u.oneCell' = true := by
  induction l with
  | nil => simp [dartsV]
  | cons p l ih =>
    intro u hu
    simp only [dartsV, List.mem_cons] at hu
    rcases hu with rfl | rfl | rfl | hu
    · rfl
    · rfl
    · rfl
    · exact ih u hu

/-- The cells of a slice of darts, as the walk spells them. -/
theorem RdS.darts {w : World} {B n c : Nat} {A : Option Addr} {l : List D} (h : RdS w B 3 A n c (dartsV l)) (hn : 0 < n) :
    ∃ b off, A = some ⟨b, off, none⟩ ∧ b < B ∧ ∀ k, k < l.length → w.cell? ⟨b, off + k * 3, none⟩ = some (.int .i64 (l.getD k (0, 0, 0)).1) ∧ w.cell? ⟨b, off + k * 3 + 1, none⟩ = some (.int .i64 (l.getD k (0, 0, 0)).2.1) ∧ w.cell? ⟨b, off + k * 3 + 2, none⟩ = some (.int .i64 (l.getD k (0, 0, 0)).2.2) := by
  have hl : l.length = n := by
    have := h.len
    rw [dartsV_length] at this
    omega
  cases A with
  | none => exact absurd (h.none_ rfl).1 (by omega)
  | some a =>
    have h0 := h.cell a rfl 0 _ (dartsV_get l 0 (by omega)).1
    have ha : ∃ b off, a = ⟨b, off, none⟩ := by
      obtain ⟨b, off, f⟩ := a
      cases f with
      | none => exact ⟨b, off, rfl⟩
      | some f =>
        simp [Addr.add, World.cell?] at h0
        split at h0 <;> cases h0
    obtain ⟨b, off, rfl⟩ := ha
    refine ⟨b, off, rfl, h.low _ rfl hn, fun k hk => ?_⟩
    obtain ⟨g1, g2, g3⟩ := dartsV_get l k hk
    have e1 := h.cell _ rfl _ _ g1
    have e2 := h.cell _ rfl _ _ g2
    have e3 := h.cell _ rfl _ _ g3
    rw [Addr.add_lit] at e1 e2 e3
    exact ⟨e1, e2, e3⟩
theorem RdS.dlen {w : World} {B n c : Nat} {A : Option Addr} {l : List D} (h : RdS w B 3 A n c (dartsV l)) : l.length = n := by
  have := h.len
  rw [dartsV_length] at this
  omega

/-- The place of the least of the first k darts, the first one of these. -/
def leastI (L : List D) : Nat → Nat
  | 0 => 0
  | k + 1 => if ordT (L.getD k (0, 0, 0)) (L.getD (leastI L k) (0, 0, 0)) < 0 then k else leastI L k
theorem leastI_lt (L : List D) (k : Nat) (h : 0 < k) : leastI L k < k := by
  induction k with
  | zero => omega
  | succ k ih =>
    simp only [leastI]
    split
    · omega
    · rcases Nat.eq_zero_or_pos k with h0 | h0
      · subst h0
        simp [leastI]
      · have := ih h0
        omega
theorem leastI_le (L : List D) (k : Nat) : leastI L k ≤ k := by
  rcases Nat.eq_zero_or_pos k with h | h
  · subst h
    simp [leastI]
  · exact Nat.le_of_lt (leastI_lt L k h)
def turnD (L : List D) : List D := L.drop (leastI L L.length) ++ L.take (leastI L L.length)

/-- The place of a dart, -1 if it is not there. -/
def idxD (L : List D) (d : D) : Int := if d ∈ L then (L.idxOf d : Int) else -1
end Go.Proofs.Ytpindjknngcccaa
