/- What a diagram that is well formed is, in numbers: names rise, so each is there once; each dart stands in one ring; what one edge less makes of it. -/
import Derived.Test.YtdhglhcpgmfpoaaDgL
namespace Go.Proofs.Ytdhglhcpgmfpoaa
open Go.RowKit
set_option linter.unusedSimpArgs false
set_option linter.unusedVariables false

def ordP (a b : Int × Int) : Int := ordI a.1 a.2 b.1 b.2
theorem ordP_lt_trans {a b c : Int × Int} (h : ordP a b < 0) (k : ordP b c < 0) : ordP a c < 0 := by
  unfold ordP at *
  have h1 := ordI_trans a.1 a.2 b.1 b.2 c.1 c.2 (by omega) (by omega)
  have h2 := ordI_zero a.1 a.2 c.1 c.2
  have h3 := ordI_neg a.1 a.2 b.1 b.2
  rcases Int.lt_or_eq_of_le h1 with h4 | h4
  · exact h4
  · obtain ⟨e1, e2⟩ := h2.1 h4
    rw [← e1, ← e2] at k
    omega
theorem ordP_ne {a b : Int × Int} (h : ordP a b < 0) : a ≠ b := by
  rintro rfl
  have := (ordI_zero a.1 a.2 a.1 a.2).2 ⟨rfl, rfl⟩
  unfold ordP at h
  omega
theorem ordP_neg (a b : Int × Int) : ordP b a = - ordP a b := ordI_neg _ _ _ _
theorem ordP_zero {a b : Int × Int} : ordP a b = 0 ↔ a = b := by
  unfold ordP
  rw [ordI_zero]
  exact ⟨fun h => Prod.ext h.1 h.2, fun h => by rw [h]; exact ⟨rfl, rfl⟩⟩
/-- Names that rise, told at once. -/
theorem riseF_iff : ∀ (L : List (Int × Int)) (o : Option (Int × Int)), riseF o L = true ↔ (∀ x ∈ L, mayI x.1 x.2 = true) ∧ (∀ y, o = some y → ∀ x ∈ L, ordP y x < 0) ∧ L.Pairwise (fun a b => ordP a b < 0)
  | [], o => by simp [riseF]
  | x :: r, o => by
    have e : riseF o (x :: r) = (mayI x.1 x.2 && (match o with | none => true | some y => decide (ordI y.1 y.2 x.1 x.2 < 0)) && riseF (some x) r) := by cases o <;> rfl
    rw [e, Bool.and_eq_true, Bool.and_eq_true, riseF_iff r (some x), List.pairwise_cons]
    constructor
    · rintro ⟨⟨h1, h2⟩, h3, h4, h5⟩
      refine ⟨fun y hy => ?_, fun y hy z hz => ?_, h4 x rfl, h5⟩
      · rcases List.mem_cons.1 hy with rfl | hy
        · exact h1
        · exact h3 y hy
      · subst hy
        have h6 : ordP y x < 0 := of_decide_eq_true h2
        rcases List.mem_cons.1 hz with rfl | hz
        · exact h6
        · exact ordP_lt_trans h6 (h4 x rfl z hz)
    · rintro ⟨h1, h2, h3, h4⟩
      refine ⟨⟨h1 x (List.mem_cons_self ..), ?_⟩, fun y hy => h1 y (List.mem_cons_of_mem _ hy), fun y hy z hz => ?_, h4⟩
      · cases o with
        | none => rfl
        | some y => exact decide_eq_true (h2 y rfl x (List.mem_cons_self ..))
      · cases hy
        exact h3 z hz
theorem rise_nodup {L : List (Int × Int)} (h : riseF none L = true) : L.Nodup :=
  List.Pairwise.imp (fun h => ordP_ne h) ((riseF_iff L none).1 h).2.2
theorem edS_len : ∀ (Es : List EC) (S : List D), (Es.map (·.1)).Nodup → (∀ e ∈ Es, (e.1.1, e.1.2, (0 : Int)) ∉ S ∧ (e.1.1, e.1.2, (1 : Int)) ∉ S) → (edS Es S).length = S.length + 2 * Es.length
  | [], S, _, _ => by simp [edS]
  | e :: r, S, hn, hS => by
    rw [List.map_cons, List.nodup_cons] at hn
    have h0 := hS e (List.mem_cons_self ..)
    have e1 : insD (e.1.1, e.1.2, 0) S = (e.1.1, e.1.2, 0) :: S := by rw [insD, if_neg h0.1]
    have e2 : insD (e.1.1, e.1.2, 1) ((e.1.1, e.1.2, 0) :: S) = (e.1.1, e.1.2, 1) :: (e.1.1, e.1.2, 0) :: S := by
      rw [insD, if_neg]
      rw [List.mem_cons]
      rintro (h | h)
      · simp at h
      · exact h0.2 h
    rw [edS, e1, e2, edS_len r _ hn.2 (fun x hx => ?_)]
    · simp only [List.length_cons]; omega
    · have hne : x.1 ≠ e.1 := fun q => hn.1 (q ▸ List.mem_map.2 ⟨x, hx, rfl⟩)
      have hx' := hS x (List.mem_cons_of_mem _ hx)
      have key : ∀ a b : Int, (x.1.1, x.1.2, a) ≠ (e.1.1, e.1.2, b) := fun a b q => by
        simp only [Prod.mk.injEq] at q
        exact hne (Prod.ext q.1 q.2.1)
      refine ⟨fun q => ?_, fun q => ?_⟩ <;> · rcases List.mem_cons.1 q with q | q; exact key _ _ q; rcases List.mem_cons.1 q with q | q; exact key _ _ q; first | exact hx'.1 q | exact hx'.2 q
/-- A diagram that is well formed. -/
structure Formed (Vs : List VC) (Es : List EC) : Prop where
  v24 : Vs.length ≤ 24
  e40 : Es.length ≤ 40
  rv : riseF none (Vs.map (·.1)) = true
  re : riseF none (Es.map (·.1)) = true
  tu : Vs.all turnOk = true
  pm : (ringsOf Vs).Perm (edS Es [])
  lv : Vs.all (fun v => mayL v.2.2.1) = true
  le : Es.all (fun v => mayL v.2.1) = true
  av : Vs.all (fun v => mayA v.2.2.2) = true
  ae : Es.all (fun v => mayA v.2.2) = true
theorem form0 (Vs : List VC) (Es : List EC) : formD Vs Es = 0 ↔ Formed Vs Es := by
  unfold formD formB
  constructor
  · intro h
    split at h
    · cases h
    · rename_i h0
      split at h
      · cases h
      · rename_i h1
        split at h
        · cases h
        · rename_i h2
          split at h
          · cases h
          · rename_i h3
            simp only [decide_eq_true_eq, not_or, Bool.not_eq_true', Bool.not_eq_false, Bool.and_eq_true] at h0 h1 h2 h3
            exact ⟨by omega, by omega, h1.1.1.1, h1.1.1.2, h1.1.2, (onceF_perm _ _).1 h1.2, h2.1, h2.2, h3.1, h3.2⟩
  · intro h
    have e0 : decide (24 < Vs.length ∨ 40 < Es.length) = false := decide_eq_false (by have := h.v24; have := h.e40; omega)
    rw [e0, h.rv, h.re, h.tu, (onceF_perm _ _).2 h.pm, h.lv, h.le, h.av, h.ae]
    rfl
section
variable {Vs : List VC} {Es : List EC}
theorem Formed.once (h : Formed Vs Es) : (ringsOf Vs).Nodup := h.pm.nodup_iff.2 (edS_nodup Es [] List.nodup_nil)
theorem Formed.len (h : Formed Vs Es) : (ringsOf Vs).length = 2 * Es.length := by
  rw [h.pm.length_eq, edS_len Es [] (rise_nodup h.re) (fun e _ => ⟨by simp, by simp⟩)]
  simp
theorem at_of (hn : (ringsOf Vs).Nodup) {v : VC} (hv : v ∈ Vs) {d : D} (hd : d ∈ v.2.1.2.2.2) : atV Vs d = (v.1, true) := by
  induction Vs with
  | nil => cases hv
  | cons u r ih =>
    rw [ringsOf_cons] at hn
    rw [List.nodup_append] at hn
    by_cases hu : d ∈ u.2.1.2.2.2
    · rw [atV_yes _ _ _ hu]
      rcases List.mem_cons.1 hv with rfl | hv
      · rfl
      · exact absurd rfl (hn.2.2 d hu d (List.mem_flatMap.2 ⟨v, hv, hd⟩))
    · rw [atV_no _ _ _ hu]
      rcases List.mem_cons.1 hv with rfl | hv
      · exact absurd hd hu
      · exact ih hn.2.1 hv
theorem Formed.at (h : Formed Vs Es) {v : VC} (hv : v ∈ Vs) {d : D} (hd : d ∈ v.2.1.2.2.2) : atV Vs d = (v.1, true) := at_of h.once hv hd
theorem Formed.edge (h : Formed Vs Es) {v : VC} (hv : v ∈ Vs) {d : D} (hd : d ∈ v.2.1.2.2.2) : (fndE Es (d.1, d.2.1)).2 = true := by
  have h1 := (dartOk_mem Es d).2 (h.pm.mem_iff.1 (List.mem_flatMap.2 ⟨v, hv, hd⟩))
  unfold dartOk at h1
  rw [Bool.and_eq_true] at h1
  exact h1.1
/-- Without one of its edges it is not well formed. -/
theorem Formed.less (h : Formed Vs Es) {k : Nat} (hk : k < Es.length) : formD Vs (Es.take k ++ Es.drop (k + 1)) = 10 := by
  have hl : (Es.take k ++ Es.drop (k + 1)).length = Es.length - 1 := by
    rw [List.length_append, List.length_take, List.length_drop]; omega
  have hsub : (Es.take k ++ Es.drop (k + 1)).Sublist Es := by
    rw [← List.eraseIdx_eq_take_drop_succ]
    exact List.eraseIdx_sublist ..
  have hnd : ((Es.take k ++ Es.drop (k + 1)).map (·.1)).Nodup := (hsub.map _).nodup (rise_nodup h.re)
  have ho : onceF (edS (Es.take k ++ Es.drop (k + 1)) []) (ringsOf Vs) = false := by
    rw [Bool.eq_false_iff]
    intro q
    have := ((onceF_perm _ _).1 q).length_eq
    rw [h.len, edS_len _ [] hnd (fun e _ => ⟨by simp, by simp⟩), hl] at this
    simp at this
    omega
  unfold formD formB
  have e0 : decide (24 < Vs.length ∨ 40 < (Es.take k ++ Es.drop (k + 1)).length) = false := decide_eq_false (by have := h.v24; have := h.e40; omega)
  rw [e0, ho]
  simp
theorem less_ne {k : Nat} (hk : k < Es.length) : Es.take k ++ Es.drop (k + 1) ≠ Es := fun q => by
  have := congrArg List.length q
  rw [List.length_append, List.length_take, List.length_drop] at this
  omega
end
theorem rings_take (Vs : List VC) (j : Nat) (v : VC) (h : Vs[j]? = some v) : (ringsOf (Vs.take (j + 1))).length = (ringsOf (Vs.take j)).length + v.2.1.2.2.2.length := by
  have : Vs.take (j + 1) = Vs.take j ++ [v] := by rw [List.take_add_one, h]; rfl
  rw [this, ringsOf, List.flatMap_append, List.length_append]
  simp [ringsOf]
end Go.Proofs.Ytdhglhcpgmfpoaa
