/- A dart that stands at another vertex, or at two: the numbers. -/
import Derived.Test.YtpindjknngcccaaGC
import Derived.Test.YtpindjknngcccaaRgMt
namespace Go.Proofs.Ytpindjknngcccaa
open Go.RowKit
set_option linter.unusedSimpArgs false
set_option linter.unusedVariables false

theorem turn_perm (L : List D) : (turnD L).Perm L := by
  unfold turnD
  exact List.perm_append_comm.trans (by rw [List.take_append_drop])
theorem insR_perm {L : List D} {a d : D} (h : ¬ d ∈ L) : (insR L a d).Perm (d :: L) := by
  rw [insR, if_neg h]
  refine List.perm_middle.trans ?_
  rw [List.take_append_drop]
theorem insR_len (L : List D) (a d : D) : (insR L a d).length ≤ L.length + 1 := by
  by_cases h : d ∈ L
  · rw [insR, if_pos h]; omega
  · rw [(insR_perm (a := a) h).length_eq]; simp
theorem turnD_len (L : List D) : (turnD L).length = L.length := (turn_perm L).length_eq
/-- A vertex with another ring. -/
def rgV (v : VC) (L : List D) : VC := (v.1, (none, L.length, 0, L), v.2.2)
def insV (x : D) (v : VC) : VC := rgV v (turnD (insR v.2.1.2.2.2 (0, 0, 0) x))
theorem ringsOf_app (A B : List VC) : ringsOf (A ++ B) = ringsOf A ++ ringsOf B := List.flatMap_append ..
theorem ringsOf_one (v : VC) (B : List VC) : ringsOf (v :: B) = v.2.1.2.2.2 ++ ringsOf B := List.flatMap_cons ..
theorem rings_set {Vs : List VC} {k : Nat} {u u' : VC} {x : D} (hu : Vs[k]? = some u) (hp : u'.2.1.2.2.2.Perm (x :: u.2.1.2.2.2)) : (ringsOf (Vs.set k u')).Perm (x :: ringsOf Vs) := by
  obtain ⟨hk, e⟩ := List.getElem?_eq_some_iff.1 hu
  have e1 : Vs = Vs.take k ++ u :: Vs.drop (k + 1) := by
    rw [← e, ← List.drop_eq_getElem_cons hk, List.take_append_drop]
  have e2 : Vs.set k u' = Vs.take k ++ u' :: Vs.drop (k + 1) := by
    rw [List.set_eq_take_append_cons_drop, if_pos hk]
  rw [e2]
  conv => rhs; rw [e1]
  rw [ringsOf_app, ringsOf_app, ringsOf_one, ringsOf_one]
  refine ((List.Perm.append_right _ hp).append_left _).trans ?_
  simp only [List.cons_append]
  exact List.perm_middle
theorem ring_nodup {Vs : List VC} (h : (ringsOf Vs).Nodup) {v : VC} (hv : v ∈ Vs) : v.2.1.2.2.2.Nodup := by
  obtain ⟨a, b, rfl⟩ := List.append_of_mem hv
  rw [ringsOf_app, ringsOf_one] at h
  exact (List.nodup_append.1 (List.nodup_append.1 h).2.1).1

section
variable {Vs : List VC} {Es : List EC}
theorem Formed.two (h : Formed Vs Es) {x : D} (hx : x ∈ ringsOf Vs) {k : Nat} {y : VC} (hy : Vs[k]? = some y) (hnx : ¬ x ∈ y.2.1.2.2.2) : formD (Vs.set k (insV x y)) Es = 10 := by
  have hym := List.mem_of_getElem? hy
  have hno := h.once
  have e0 : decide (24 < (Vs.set k (insV x y)).length ∨ 40 < Es.length) = false := decide_eq_false (by have := h.v24; have := h.e40; rw [List.length_set]; omega)
  have e1 := map_setSame (fun v : VC => v.1) Vs k y (insV x y) hy rfl
  have e2 : onceF (edS Es []) (ringsOf (Vs.set k (insV x y))) = false := by
    cases hb : onceF (edS Es []) (ringsOf (Vs.set k (insV x y))) with
    | false => rfl
    | true =>
      have h1 := (onceF_perm _ _).1 hb
      have h2 := (rings_set hy (x := x) (u' := insV x y) ((turn_perm _).trans (insR_perm hnx))).symm.trans h1
      have h3 := h2.nodup_iff.2 (edS_nodup Es [] List.nodup_nil)
      exact absurd hx (List.nodup_cons.1 h3).1
  unfold formD formB
  rw [e0, e1, e2, h.rv, h.re]
  simp
end
/-- The rounds: so many vertices have other rings. -/
theorem half_set {α β : Type} (f g : α → β) {L : List α} {j : Nat} {v : α} (h : L[j]? = some v) : ((L.take j).map f ++ (L.drop j).map g).set j (f v) = (L.take (j + 1)).map f ++ (L.drop (j + 1)).map g := by
  obtain ⟨hj, e⟩ := List.getElem?_eq_some_iff.1 h
  have hl : ((L.take j).map f).length = j := by simp; omega
  rw [List.set_append_right _ _ (by omega), hl, Nat.sub_self, List.drop_eq_getElem_cons hj, e, List.map_cons, List.set_cons_zero, List.take_succ_eq_append_getElem hj, e, List.map_append]
  simp
end Go.Proofs.Ytpindjknngcccaa
