/- What the document asks of rings is what the program asks: each dart of an edge once, and no other. -/
import Derived.Test.YtdhglhcpgmfpoaaDg21
namespace Go.Proofs.Ytdhglhcpgmfpoaa
open Go.RowKit
set_option linter.unusedSimpArgs false
set_option linter.unusedVariables false

theorem insD_nodup {d : D} {S : List D} (h : S.Nodup) : (insD d S).Nodup := by
  unfold insD
  split
  · exact h
  · rename_i hn; exact List.nodup_cons.2 ⟨hn, h⟩
theorem insD_mem {d x : D} {S : List D} : x ∈ insD d S ↔ x = d ∨ x ∈ S := by
  unfold insD
  split
  · rename_i hm
    constructor
    · exact .inr
    · rintro (rfl | h)
      · exact hm
      · exact h
  · exact List.mem_cons
theorem edS_nodup : ∀ (Es : List EC) (S : List D), S.Nodup → (edS Es S).Nodup
  | [], S, h => h
  | e :: r, S, h => edS_nodup r _ (insD_nodup (insD_nodup h))
theorem edS_mem : ∀ (Es : List EC) (S : List D) (x : D), x ∈ edS Es S ↔ x ∈ S ∨ ∃ e ∈ Es, x = (e.1.1, e.1.2, 0) ∨ x = (e.1.1, e.1.2, 1)
  | [], S, x => by simp [edS]
  | e :: r, S, x => by
    rw [edS, edS_mem r, insD_mem, insD_mem]
    simp only [List.mem_cons, exists_eq_or_imp]
    constructor
    · rintro ((h | h | h) | h)
      · exact .inr (.inl (.inr h))
      · exact .inr (.inl (.inl h))
      · exact .inl h
      · exact .inr (.inr h)
    · rintro (h | (h | h) | h)
      · exact .inl (.inr (.inr h))
      · exact .inl (.inr (.inl h))
      · exact .inl (.inl h)
      · exact .inr h
theorem onceF_perm : ∀ (rs S : List D), onceF S rs = true ↔ rs.Perm S
  | [], S => by
    simp only [onceF, decide_eq_true_eq]
    constructor
    · intro h
      rw [List.eq_nil_of_length_eq_zero h]
    · intro h
      rw [← h.length_eq]; rfl
  | x :: r, S => by
    rw [onceF]
    by_cases h : x ∈ S
    · rw [if_pos h, onceF_perm r (S.erase x), List.cons_perm_iff_perm_erase]
      exact ⟨fun k => ⟨h, k⟩, fun k => k.2⟩
    · rw [if_neg h]
      constructor
      · intro k; cases k
      · intro k; exact absurd (k.mem_iff.1 (List.mem_cons_self ..)) h
theorem fndE_some (Es : List EC) (x : Int × Int) : (fndE Es x).2 = true ↔ ∃ e ∈ Es, e.1 = x := by
  unfold fndE fnd
  split
  · rename_i v h
    have h1 := List.find?_some h
    have h2 := List.mem_of_find?_eq_some h
    exact ⟨fun _ => ⟨v, h2, by simpa using h1⟩, fun _ => rfl⟩
  · rename_i h
    rw [List.find?_eq_none] at h
    constructor
    · intro k; cases k
    · rintro ⟨e, he, rfl⟩
      exact absurd (by simp) (h e he)
theorem dartOk_mem (Es : List EC) (d : D) : dartOk Es d = true ↔ d ∈ edS Es [] := by
  obtain ⟨a, b, c⟩ := d
  rw [edS_mem, dartOk, Bool.and_eq_true, fndE_some]
  unfold sideOk
  simp only [Bool.and_eq_true, decide_eq_true_eq, List.not_mem_nil, false_or, Prod.mk.injEq]
  constructor
  · rintro ⟨⟨e, he, h1⟩, h2, h3⟩
    have e1 : e.1.1 = a := by rw [h1]
    have e2 : e.1.2 = b := by rw [h1]
    refine ⟨e, he, ?_⟩
    rcases (by omega : c = 0 ∨ c = 1) with h | h
    · exact .inl ⟨e1.symm, e2.symm, h⟩
    · exact .inr ⟨e1.symm, e2.symm, h⟩
  · rintro ⟨e, he, h | h⟩
    · exact ⟨⟨e, he, by rw [h.1, h.2.1]⟩, by omega, by omega⟩
    · exact ⟨⟨e, he, by rw [h.1, h.2.1]⟩, by omega, by omega⟩
theorem count_one {S : List D} (h : S.Nodup) {d : D} (hd : d ∈ S) : S.count d = 1 := by
  induction S with
  | nil => cases hd
  | cons x r ih =>
    rw [List.nodup_cons] at h
    rw [List.count_cons]
    by_cases e : x = d
    · subst e
      rw [List.count_eq_zero.2 h.1]
      simp
    · rcases List.mem_cons.1 hd with rfl | h1
      · exact absurd rfl e
      · rw [ih h.2 h1]
        simp [e]
theorem rings_once (Vs : List VC) (Es : List EC) : ringsF Vs Es = (Vs.all turnOk && onceF (edS Es []) (ringsOf Vs)) := by
  have hS := edS_nodup Es [] List.nodup_nil
  rw [Bool.eq_iff_iff]
  unfold ringsF vertOk
  rw [Bool.and_eq_true, Bool.and_eq_true, onceF_perm, List.all_eq_true, List.all_eq_true, List.all_eq_true]
  constructor
  · rintro ⟨h1, h2⟩
    refine ⟨fun v hv => (Bool.and_eq_true _ _ ▸ h1 v hv).1, ?_⟩
    rw [List.perm_iff_count]
    intro d
    by_cases hd : d ∈ edS Es []
    · rw [count_one hS hd]
      obtain ⟨e, he, h⟩ := (edS_mem Es [] d).1 hd |>.resolve_left (by simp)
      have h3 := h2 e he
      simp only [edgeAt, Bool.and_eq_true, decide_eq_true_eq, timesV] at h3
      rcases h with rfl | rfl
      · exact of_decide_eq_true h3.1
      · exact of_decide_eq_true h3.2
    · rw [List.count_eq_zero.2 hd, List.count_eq_zero]
      intro hm
      obtain ⟨v, hv, hr⟩ := List.mem_flatMap.1 hm
      have h3 := (Bool.and_eq_true _ _ ▸ h1 v hv).2
      exact hd ((dartOk_mem Es d).1 (List.all_eq_true.1 h3 d hr))
  · rintro ⟨h1, h2⟩
    refine ⟨fun v hv => ?_, fun e he => ?_⟩
    · rw [Bool.and_eq_true]
      refine ⟨h1 v hv, List.all_eq_true.2 fun d hd => (dartOk_mem Es d).2 (h2.mem_iff.1 (List.mem_flatMap.2 ⟨v, hv, hd⟩))⟩
    · have hc : ∀ d, d ∈ edS Es [] → (ringsOf Vs).count d = 1 := fun d hd => by
        rw [List.perm_iff_count.1 h2 d]
        exact count_one hS hd
      simp only [edgeAt, Bool.and_eq_true, decide_eq_true_eq, timesV]
      exact ⟨decide_eq_true (hc _ ((edS_mem Es [] _).2 (.inr ⟨e, he, .inl rfl⟩))), decide_eq_true (hc _ ((edS_mem Es [] _).2 (.inr ⟨e, he, .inr rfl⟩)))⟩
theorem formR_eq (Vs : List VC) (Es : List EC) : formR Vs Es = formD Vs Es := by
  unfold formR formD formB
  rw [rings_once]
  simp only [Bool.and_assoc]
end Go.Proofs.Ytdhglhcpgmfpoaa
