/- Rotations of rings. -/
import Derived.Test.YtgbkloilodgjfaaRgL2
namespace Go.Proofs.Ytgbkloilodgjfaa
open Go.RowKit
set_option linter.unusedSimpArgs false
set_option linter.unusedVariables false

theorem getD_lt {L : List D} {i : Nat} (h : i < L.length) : L.getD i (0, 0, 0) = L[i] := by
  rw [List.getD_eq_getElem?_getD, List.getElem?_eq_getElem h]
  rfl

def Rot (A B : List D) : Prop := ∃ X Y, A = X ++ Y ∧ B = Y ++ X

theorem Rot.rfl_ (A : List D) : Rot A A := ⟨A, [], by simp, by simp⟩
theorem Rot.symm {A B : List D} (h : Rot A B) : Rot B A := by
  obtain ⟨X, Y, rfl, rfl⟩ := h
  exact ⟨Y, X, rfl, rfl⟩
theorem Rot.trans {A B C : List D} (h : Rot A B) (k : Rot B C) : Rot A C := by
  obtain ⟨X, Y, rfl, rfl⟩ := h
  obtain ⟨U, V, e, rfl⟩ := k
  rcases List.append_eq_append_iff.1 e with ⟨Z, h1, h2⟩ | ⟨Z, h1, h2⟩
  · exact ⟨Z, V ++ Y, by rw [h2]; simp, by rw [h1]; simp⟩
  · exact ⟨X ++ U, Z, by rw [h1]; simp, by rw [h2]; simp⟩
theorem Rot.len {A B : List D} (h : Rot A B) : A.length = B.length := by
  obtain ⟨X, Y, rfl, rfl⟩ := h
  simp only [List.length_append]; omega
theorem Rot.mem {A B : List D} (h : Rot A B) (d : D) : d ∈ A ↔ d ∈ B := by
  obtain ⟨X, Y, rfl, rfl⟩ := h
  simp only [List.mem_append]; exact Or.comm
theorem Rot.nodup {A B : List D} (h : Rot A B) (n : A.Nodup) : B.Nodup := by
  obtain ⟨X, Y, rfl, rfl⟩ := h
  rw [List.nodup_append] at n ⊢
  exact ⟨n.2.1, n.1, fun a ha b hb e => n.2.2 b hb a ha e.symm⟩
theorem Rot.filter {A B : List D} (h : Rot A B) (p : D → Bool) : Rot (A.filter p) (B.filter p) := by
  obtain ⟨X, Y, rfl, rfl⟩ := h
  exact ⟨X.filter p, Y.filter p, by simp, by simp⟩
theorem Rot.map {A B : List D} (h : Rot A B) (f : D → D) : Rot (A.map f) (B.map f) := by
  obtain ⟨X, Y, rfl, rfl⟩ := h
  exact ⟨X.map f, Y.map f, by simp, by simp⟩
theorem Rot.flat {A B : List D} (h : Rot A B) (f : D → List D) : Rot (A.flatMap f) (B.flatMap f) := by
  obtain ⟨X, Y, rfl, rfl⟩ := h
  exact ⟨X.flatMap f, Y.flatMap f, by simp, by simp⟩
theorem rot_at (L : List D) (k : Nat) : Rot L (L.drop k ++ L.take k) := ⟨L.take k, L.drop k, by simp, rfl⟩
theorem rot_turn (L : List D) : Rot L (turnD L) := rot_at L _

/-- The least dart, told by the place. -/
theorem leastI_min (L : List D) : ∀ k, ∀ j, j < k → ordT (L.getD (leastI L k) (0, 0, 0)) (L.getD j (0, 0, 0)) ≤ 0
  | 0, j, h => by omega
  | k + 1, j, h => by
    simp only [leastI]
    split
    · rename_i hlt
      by_cases hj : j = k
      · subst hj
        rw [ordT_self]; omega
      · have := leastI_min L k j (by omega)
        exact ordT_trans _ _ _ (by omega) this
    · rename_i hge
      by_cases hj : j = k
      · subst hj
        rw [ordT_neg]; omega
      · exact leastI_min L k j (by omega)
theorem turnD_head (L : List D) (h : 0 < L.length) : (turnD L).getD 0 (0, 0, 0) = L.getD (leastI L L.length) (0, 0, 0) := by
  have hl := leastI_lt L L.length h
  unfold turnD
  rw [List.getD_eq_getElem?_getD, List.getElem?_append_left (by simp; omega), List.getElem?_drop, Nat.add_zero, List.getD_eq_getElem?_getD]
theorem turnD_min (L : List D) (h : 0 < L.length) (d : D) (hd : d ∈ L) : ordT ((turnD L).getD 0 (0, 0, 0)) d ≤ 0 := by
  rw [turnD_head L h]
  obtain ⟨i, hi, he⟩ := List.getElem_of_mem hd
  have := leastI_min L L.length i hi
  rw [getD_lt hi, he] at this
  exact this
theorem rot_eq {A B : List D} (h : Rot A B) (n : A.Nodup) (hd : 0 < A.length → A.getD 0 (0, 0, 0) = B.getD 0 (0, 0, 0)) : A = B := by
  obtain ⟨X, Y, rfl, rfl⟩ := h
  cases X with
  | nil => simp
  | cons a X =>
    cases Y with
    | nil => simp
    | cons b Y =>
      have : a = b := by simpa using hd (by simp)
      subst this
      simp at n
theorem turn_rot {A B : List D} (h : Rot A B) (n : A.Nodup) : turnD A = turnD B := by
  have h1 : Rot (turnD A) (turnD B) := (rot_turn A).symm.trans (h.trans (rot_turn B))
  refine rot_eq h1 ((rot_turn A).nodup n) fun hl => ?_
  rw [turnD_length] at hl
  have hl' : 0 < B.length := by rw [← h.len]; exact hl
  have m1 : (turnD A).getD 0 (0, 0, 0) ∈ A := by
    rw [(rot_turn A).mem, getD_lt (by rw [turnD_length]; exact hl)]
    exact List.getElem_mem _
  have m2 : (turnD B).getD 0 (0, 0, 0) ∈ B := by
    rw [(rot_turn B).mem, getD_lt (by rw [turnD_length]; exact hl')]
    exact List.getElem_mem _
  have a1 := turnD_min A hl _ ((h.mem _).2 m2)
  have a2 := turnD_min B hl' _ ((h.mem _).1 m1)
  rw [ordT_neg] at a2
  exact (ordT_zero _ _).1 (by omega)
theorem turn_turn {A : List D} (n : A.Nodup) : turnD (turnD A) = turnD A := (turn_rot (rot_turn A) n).symm
theorem turn_rot_at {L : List D} (n : L.Nodup) (k : Nat) : turnD (L.drop k ++ L.take k) = turnD L := (turn_rot (rot_at L k) n).symm

/-- The place of a dart of a ring without doubles. -/
theorem idx_of_get {L : List D} (n : L.Nodup) {i : Nat} (h : i < L.length) : L.idxOf (L.getD i (0, 0, 0)) = i := by
  rw [getD_lt h]
  exact n.idxOf_getElem i h
theorem get_of_idx {L : List D} {d : D} (h : d ∈ L) : L.getD (L.idxOf d) (0, 0, 0) = d := by
  have := List.idxOf_lt_length_of_mem h
  rw [getD_lt this]
  exact List.getElem_idxOf this
theorem getD_mem {L : List D} {i : Nat} (h : i < L.length) : L.getD i (0, 0, 0) ∈ L := by
  rw [getD_lt h]
  exact List.getElem_mem _

theorem rot_get (X Y : List D) (i : Nat) (h : i < (X ++ Y).length) : (Y ++ X).getD ((i + Y.length) % (X ++ Y).length) (0, 0, 0) = (X ++ Y).getD i (0, 0, 0) := by
  rw [List.length_append] at h ⊢
  simp only [List.getD_eq_getElem?_getD]
  by_cases hx : i < X.length
  · rw [Nat.mod_eq_of_lt (by omega), List.getElem?_append_right (by omega), List.getElem?_append_left hx, Nat.add_sub_cancel]
  · have e : (i + Y.length) % (X.length + Y.length) = i - X.length := by
      rw [show i + Y.length = (i - X.length) + (X.length + Y.length) by omega, Nat.add_mod_right, Nat.mod_eq_of_lt (by omega)]
    rw [e, List.getElem?_append_left (by omega), List.getElem?_append_right (by omega)]
theorem step_rot {A B : List D} (h : Rot A B) (n : A.Nodup) (d : D) (p : Nat) : stepD A d p = stepD B d p := by
  unfold stepD
  by_cases hd : d ∈ A
  · have hd' := (h.mem d).1 hd
    have hn' := h.nodup n
    rw [if_pos hd, if_pos hd']
    have hi := List.idxOf_lt_length_of_mem hd
    have hg := get_of_idx hd
    obtain ⟨i, gi⟩ : ∃ v, A.idxOf d = v := ⟨_, rfl⟩
    rw [gi] at hi hg ⊢
    have hl := h.len
    obtain ⟨X, Y, rfl, rfl⟩ := h
    have e1 := rot_get X Y i hi
    have hm : (i + Y.length) % (X ++ Y).length < (Y ++ X).length := by rw [← hl]; exact Nat.mod_lt _ (by omega)
    have e2 := idx_of_get hn' hm
    rw [e1, hg] at e2
    rw [e2, ← hl, Nat.mod_add_mod]
    have e3 := rot_get X Y ((i + p) % (X ++ Y).length) (Nat.mod_lt _ (by omega))
    rw [← e3, Nat.mod_add_mod]
    congr 2
    omega
  · rw [if_neg hd, if_neg fun x => hd ((h.mem d).2 x)]
theorem turn_step {A : List D} (n : A.Nodup) (d : D) (p : Nat) : stepD (turnD A) d p = stepD A d p := (step_rot (rot_turn A) n d p).symm
theorem step_at {L : List D} (n : L.Nodup) {i : Nat} (h : i < L.length) (p : Nat) : stepD L (L.getD i (0, 0, 0)) p = L.getD ((i + p) % L.length) (0, 0, 0) := by
  unfold stepD
  rw [if_pos (getD_mem h), idx_of_get n h]

/-- Insert, remove and swap go with rotations. -/
theorem remR_fil {L : List D} (n : L.Nodup) (d : D) : remR L d = L.filter fun x => decide (x ≠ d) := (filD_remR n d).symm
theorem rem_rot {A B : List D} (h : Rot A B) (n : A.Nodup) (d : D) : Rot (remR A d) (remR B d) := by
  rw [remR_fil n, remR_fil (h.nodup n)]
  exact h.filter _
theorem rem_nodup {A : List D} (n : A.Nodup) (d : D) : (remR A d).Nodup := by
  rw [remR_fil n]
  exact n.filter _
theorem rem_not {A : List D} (n : A.Nodup) (d : D) : ¬ d ∈ remR A d := by
  rw [remR_fil n]
  simp
theorem rem_same {A : List D} {d : D} (h : ¬ d ∈ A) : remR A d = A := by
  unfold remR
  rw [if_neg h]
theorem rem_len {A : List D} {d : D} (h : d ∈ A) : (remR A d).length + 1 = A.length := by
  unfold remR
  rw [if_pos h]
  have := List.idxOf_lt_length_of_mem h
  simp only [List.length_append, List.length_take, List.length_drop]; omega

theorem map_not {X : List D} {o d : D} (h : ¬ o ∈ X) : X.map (fun x => if x = o then d else x) = X := by
  conv => rhs; rw [← List.map_id X]
  refine List.map_congr_left fun x hx => ?_
  have hxo : x ≠ o := fun e => h (e ▸ hx)
  simp only [if_neg hxo, id]
theorem flat_not {X : List D} {o d : D} (h : ¬ o ∈ X) : X.flatMap (fun x => if x = o then [x, d] else [x]) = X := by
  induction X with
  | nil => rfl
  | cons a X ih =>
    rw [List.flatMap_cons, ih fun hx => h (List.mem_cons_of_mem _ hx), if_neg fun e => h (by rw [← e]; exact List.mem_cons_self)]
    rfl
theorem split_at {L : List D} (n : L.Nodup) {d : D} (h : d ∈ L) : ∃ X Y, L = X ++ d :: Y ∧ ¬ d ∈ X ∧ ¬ d ∈ Y ∧ L.take (L.idxOf d) = X ∧ L.drop (L.idxOf d + 1) = Y := by
  have hi := List.idxOf_lt_length_of_mem h
  have hg := get_of_idx h
  rw [getD_lt hi] at hg
  have e : L = L.take (L.idxOf d) ++ d :: L.drop (L.idxOf d + 1) := by
    have := List.drop_eq_getElem_cons hi
    rw [hg] at this
    rw [← this, List.take_append_drop]
  refine ⟨_, _, e, ?_, ?_, rfl, rfl⟩
  · rw [e, List.nodup_append] at n
    exact fun hx => n.2.2 d hx d List.mem_cons_self rfl
  · rw [e, List.nodup_append, List.nodup_cons] at n
    exact n.2.1.1
theorem swpR_map {L : List D} (n : L.Nodup) {o d : D} (ho : o ∈ L) (hd : ¬ d ∈ L) : swpR L o d = L.map (fun x => if x = o then d else x) := by
  unfold swpR
  rw [if_pos ⟨ho, hd⟩]
  obtain ⟨X, Y, e, h1, h2, h3, h4⟩ := split_at n ho
  rw [h3, h4]
  conv => rhs; rw [e]
  rw [List.map_append, List.map_cons, map_not h1, map_not h2, if_pos rfl]
theorem swp_rot {A B : List D} (h : Rot A B) (n : A.Nodup) {o d : D} (ho : o ∈ A) (hd : ¬ d ∈ A) : Rot (swpR A o d) (swpR B o d) := by
  rw [swpR_map n ho hd, swpR_map (h.nodup n) ((h.mem _).1 ho) fun x => hd ((h.mem _).2 x)]
  exact h.map _
theorem swp_nodup {A : List D} (n : A.Nodup) {o d : D} (ho : o ∈ A) (hd : ¬ d ∈ A) : (swpR A o d).Nodup := by
  unfold swpR
  rw [if_pos ⟨ho, hd⟩]
  obtain ⟨X, Y, e, h1, h2, h3, h4⟩ := split_at n ho
  rw [h3, h4]
  rw [e, List.nodup_append, List.nodup_cons] at n
  have hX : ¬ d ∈ X := fun x => hd (by rw [e]; exact List.mem_append_left _ x)
  have hY : ¬ d ∈ Y := fun x => hd (by rw [e]; exact List.mem_append_right _ (List.mem_cons_of_mem _ x))
  rw [List.nodup_append, List.nodup_cons]
  refine ⟨n.1, ⟨hY, n.2.1.2⟩, fun a ha b hb => ?_⟩
  rcases List.mem_cons.1 hb with rfl | hb
  · exact fun e => hX (e ▸ ha)
  · exact n.2.2 a ha b (List.mem_cons_of_mem _ hb)
theorem swp_back {L : List D} (n : L.Nodup) {o d : D} (ho : o ∈ L) (hd : ¬ d ∈ L) : turnD (swpR (turnD (swpR L o d)) d o) = turnD L ∧ ¬ o ∈ turnD (swpR L o d) := by
  have hne : o ≠ d := fun e => hd (e ▸ ho)
  have n1 := swp_nodup n ho hd
  have hm := swpR_map n ho hd
  have h1 : ¬ o ∈ swpR L o d := by
    rw [hm, List.mem_map]
    rintro ⟨x, hx, e⟩
    split at e
    · exact hne e.symm
    · rename_i q; exact q e
  have h2 : d ∈ swpR L o d := by
    rw [hm, List.mem_map]
    exact ⟨o, ho, if_pos rfl⟩
  have r1 := rot_turn (swpR L o d)
  refine ⟨?_, fun x => h1 ((r1.mem _).2 x)⟩
  have r2 := swp_rot r1 n1 h2 h1
  rw [← turn_rot r2 (swp_nodup n1 h2 h1)]
  congr 1
  rw [swpR_map n1 h2 h1, hm, List.map_map]
  conv => rhs; rw [← List.map_id L]
  refine List.map_congr_left fun x hx => ?_
  by_cases e : x = o
  · simp [e]
  · simp [e, show x ≠ d from fun q => hd (q ▸ hx)]

theorem insR_flat {L : List D} (n : L.Nodup) {a d : D} (ha : a ∈ L) (hd : ¬ d ∈ L) : insR L a d = L.flatMap (fun x => if x = a then [x, d] else [x]) := by
  unfold insR
  rw [if_neg hd]
  obtain ⟨X, Y, e, h1, h2, h3, h4⟩ := split_at n ha
  have hi := (idxD_mem ha).2
  rw [(idxD_mem ha).1]
  rw [show (max ((L.idxOf a : Nat) : Int) 0).toNat + 1 = L.idxOf a + 1 by omega, h4]
  have e5 : L.take (L.idxOf a + 1) = X ++ [a] := by
    rw [List.take_succ_eq_append_getElem hi, h3, List.getElem_idxOf hi]
  rw [e5]
  conv => rhs; rw [e]
  rw [List.flatMap_append, List.flatMap_cons, flat_not h1, flat_not h2, if_pos rfl]
  simp
theorem ins_rot {A B : List D} (h : Rot A B) (n : A.Nodup) {a d : D} (ha : a ∈ A) (hd : ¬ d ∈ A) : Rot (insR A a d) (insR B a d) := by
  rw [insR_flat n ha hd, insR_flat (h.nodup n) ((h.mem _).1 ha) fun x => hd ((h.mem _).2 x)]
  exact h.flat _
/-- Where a dart goes in. -/
theorem insR_form {L : List D} (a : D) {d : D} (hl : 0 < L.length) (hd : ¬ d ∈ L) : ∃ X Y, L = X ++ Y ∧ insR L a d = X ++ d :: Y ∧ 0 < X.length ∧ (a ∈ L → X.getD (X.length - 1) (0, 0, 0) = a) := by
  unfold insR
  rw [if_neg hd]
  obtain ⟨b1, b2, b3, b4⟩ := idxD_bd L a
  have b4 := b4 hl
  obtain ⟨j, gj⟩ : ∃ j, (max (idxD L a) 0).toNat = j := ⟨_, rfl⟩
  rw [gj]
  refine ⟨_, _, (List.take_append_drop (j + 1) L).symm, rfl, by simp; omega, fun ha => ?_⟩
  have e := (idxD_mem ha).1
  have hi := (idxD_mem ha).2
  have ej : j = L.idxOf a := by omega
  rw [ej, List.length_take, Nat.min_eq_left (by omega), Nat.add_sub_cancel, List.getD_eq_getElem?_getD, List.getElem?_take_of_lt (by omega), ← List.getD_eq_getElem?_getD, get_of_idx ha]
theorem ins_nodup {L : List D} (n : L.Nodup) (a : D) {d : D} (hl : 0 < L.length) (hd : ¬ d ∈ L) : (insR L a d).Nodup := by
  obtain ⟨X, Y, e, h1, _, _⟩ := insR_form a hl hd
  rw [h1]
  rw [e] at n hd
  rw [List.nodup_append] at n
  rw [List.mem_append, not_or] at hd
  rw [List.nodup_append, List.nodup_cons]
  refine ⟨n.1, ⟨hd.2, n.2.1⟩, fun a ha b hb => ?_⟩
  rcases List.mem_cons.1 hb with rfl | hb
  · exact fun e => hd.1 (e ▸ ha)
  · exact n.2.2 a ha b hb
theorem ins_facts {L : List D} (n : L.Nodup) (a : D) {d : D} (hl : 0 < L.length) (hd : ¬ d ∈ L) :
    turnD (turnD (remR (turnD (insR L a d)) d)) = turnD L ∧ (turnD (insR L a d)).length = L.length + 1 ∧ (a ∈ L → prevD (turnD (insR L a d)) d = a) := by
  have n1 := ins_nodup n a hl hd
  obtain ⟨X, Y, e, h1, h2, h3⟩ := insR_form a hl hd
  have r1 := rot_turn (insR L a d)
  have hl1 : (insR L a d).length = L.length + 1 := by rw [h1, e]; simp; omega
  have hdX : ¬ d ∈ X := fun x => hd (by rw [e]; exact List.mem_append_left _ x)
  have hdY : ¬ d ∈ Y := fun x => hd (by rw [e]; exact List.mem_append_right _ x)
  have hgd : (insR L a d).getD X.length (0, 0, 0) = d := by
    rw [h1, List.getD_eq_getElem?_getD, List.getElem?_append_right (Nat.le_refl _), Nat.sub_self]
    rfl
  refine ⟨?_, by rw [turnD_length, hl1], fun ha => ?_⟩
  · have r2 := rem_rot r1 n1 d
    have n2 := rem_nodup n1 d
    rw [turn_turn (r2.nodup n2), ← turn_rot r2 n2]
    congr 1
    rw [remR_fil n1, h1, List.filter_append, List.filter_cons_of_neg (by simp)]
    conv => rhs; rw [e]
    congr 1
    · exact List.filter_eq_self.2 fun x hx => by
        simp only [ne_eq, decide_not, Bool.not_eq_true', decide_eq_false_iff_not]
        exact fun q => hdX (q ▸ hx)
    · exact List.filter_eq_self.2 fun x hx => by
        simp only [ne_eq, decide_not, Bool.not_eq_true', decide_eq_false_iff_not]
        exact fun q => hdY (q ▸ hx)
  · unfold prevD
    have hX : X.length < (insR L a d).length := by rw [hl1, e, List.length_append]; omega
    rw [turnD_length, turn_step n1]
    have := step_at n1 hX ((insR L a d).length - 1)
    rw [hgd] at this
    rw [this, show X.length + ((insR L a d).length - 1) = (X.length - 1) + (insR L a d).length by omega, Nat.add_mod_right, Nat.mod_eq_of_lt (by omega), h1, List.getD_eq_getElem?_getD, List.getElem?_append_left (by omega), ← List.getD_eq_getElem?_getD]
    exact h3 ha
theorem rem_facts {L : List D} (n : L.Nodup) (d : D) : decide (turnD (turnD (remR L d)) = turnD L) = decide (¬ d ∈ L) := by
  by_cases h : d ∈ L
  · rw [decide_eq_false (fun e => ?_), decide_eq_false (fun q => q h)]
    have := congrArg List.length e
    rw [turnD_length, turnD_length, turnD_length] at this
    have := rem_len h
    omega
  · rw [decide_eq_true h, decide_eq_true ?_]
    rw [rem_same h, turn_turn n]
theorem next_prev {L : List D} (n : L.Nodup) {k : Nat} (h : k < L.length) : prevD L (nextD L (L.getD k (0, 0, 0))) = L.getD k (0, 0, 0) := by
  unfold prevD nextD
  rw [step_at n h, step_at n (Nat.mod_lt _ (by omega)), Nat.mod_add_mod, show k + 1 + (L.length - 1) = k + L.length by omega, Nat.add_mod_right, Nat.mod_eq_of_lt h]
theorem joined_facts {L : List D} (n : L.Nodup) {d : D} (h : d ∈ L) (h2 : 2 ≤ L.length) : nextD (turnD (remR L d)) (prevD L d) = nextD L d := by
  obtain ⟨X, Y, e, h1, h2', h3, h4⟩ := split_at n h
  have r : Rot L (d :: (Y ++ X)) := ⟨X, d :: Y, e, by simp⟩
  have nr := r.nodup n
  have hrl := r.len
  have nq : (Y ++ X).Nodup := (List.nodup_cons.1 nr).2
  have hq : Rot (remR L d) (Y ++ X) := by
    have := rem_rot r n d
    rw [show remR (d :: (Y ++ X)) d = Y ++ X by
      unfold remR
      rw [if_pos List.mem_cons_self, List.idxOf_cons_self]
      rfl] at this
    exact this
  have hql : (Y ++ X).length = L.length - 1 := by rw [hrl]; simp
  obtain ⟨Q, gQ⟩ : ∃ Q, Y ++ X = Q := ⟨_, rfl⟩
  rw [gQ] at nr nq hq hql r
  have hd0 : (d :: Q).getD 0 (0, 0, 0) = d := rfl
  have hl0 : (d :: Q).length = L.length := r.len.symm
  unfold nextD prevD
  rw [turn_step (hq.symm.nodup nq), step_rot hq (hq.symm.nodup nq), step_rot r n d, step_rot r n d]
  have s1 := step_at nr (i := 0) (by simp) (L.length - 1)
  have s2 := step_at nr (i := 0) (by simp) 1
  rw [hd0] at s1 s2
  rw [s1, s2, hl0, Nat.zero_add, Nat.zero_add, Nat.mod_eq_of_lt (by omega), Nat.mod_eq_of_lt (by omega)]
  have e1 : (d :: Q).getD (L.length - 1) (0, 0, 0) = Q.getD (L.length - 2) (0, 0, 0) := by
    rw [show L.length - 1 = (L.length - 2) + 1 by omega]
    rfl
  have e2 : (d :: Q).getD 1 (0, 0, 0) = Q.getD 0 (0, 0, 0) := rfl
  rw [e1, e2, step_at nq (by omega), show L.length - 2 + 1 = Q.length by omega, Nat.mod_self]

theorem RdS.dat {w : World} {B n c b off k : Nat} {L : List D} {z : D} (h : RdS w B 3 (some ⟨b, off, none⟩) n c (dartsV L)) (hk : k < n) (gz : L.getD k (0, 0, 0) = z) :
    w.cell? ⟨b, off + k * 3, none⟩ = some (.int .i64 z.1) ∧ w.cell? ⟨b, off + k * 3 + 1, none⟩ = some (.int .i64 z.2.1) ∧ w.cell? ⟨b, off + k * 3 + 2, none⟩ = some (.int .i64 z.2.2) := by
  obtain ⟨b', off', e, _, hc⟩ := h.darts (by omega)
  injection e with e
  injection e with e1 e2
  subst e1
  subst e2
  subst gz
  exact hc k (by rw [h.dlen]; exact hk)
theorem RdS.lo {w : World} {B n c b off : Nat} {L : List D} (h : RdS w B 3 (some ⟨b, off, none⟩) n c (dartsV L)) (hn : 0 < n) : b < B := h.low _ rfl hn

/-- A row told, of a length by its own name. -/
def GivesN (w : World) (n : Nat) (L : List D) (e : Ending) (w' : World) : Prop := ∃ A c, e = .returned (.slice A n c) ∧ RdS w' w'.heap.size 3 A n c (dartsV L) ∧ Below w.heap.size w w'
theorem givesN {f : FuncId} {args : Array Value} {w : World} {L : List D} {n : Nat} (h : Calls Try.prog f args w (GivesR w L)) (hn : L.length = n) : Calls Try.prog f args w (GivesN w n L) := by
  subst hn
  exact h
end Go.Proofs.Ytgbkloilodgjfaa
