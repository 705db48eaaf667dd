/- What RingInserts needs of rings. -/
import Derived.Test.YtgbkloilodgjfaaRgM
import Derived.Test.YtgbkloilodgjfaaRgN
namespace Go.Proofs.Ytgbkloilodgjfaa
open Go.RowKit
set_option linter.unusedSimpArgs false
set_option linter.unusedVariables false

theorem take_nodup {L : List D} (n : L.Nodup) (j : Nat) : (L.take j).Nodup := n.sublist (List.take_sublist j L)
theorem not_take {L : List D} (n : L.Nodup) {j : Nat} (h : j < L.length) : ¬ L.getD j (0, 0, 0) ∈ L.take j := by
  have := take_nodup n (j + 1)
  rw [take_snocD L j h, List.nodup_append] at this
  exact fun x => this.2.2 _ x _ (List.mem_singleton_self _) rfl
theorem ins_take {L : List D} (n : L.Nodup) {j : Nat} (h : j < L.length) (a : D) (ha : j = 0 ∨ ∃ j1, j = j1 + 1 ∧ a = L.getD j1 (0, 0, 0)) :
    turnD (insR (turnD (L.take j)) a (L.getD j (0, 0, 0))) = turnD (L.take (j + 1)) := by
  rw [take_snocD L j h]
  rcases ha with rfl | ⟨j1, rfl, rfl⟩
  · rw [List.take_zero]
    rfl
  · have hd := not_take n h
    have nT := take_nodup n (j1 + 1)
    have hl : (L.take (j1 + 1)).length = j1 + 1 := by simp; omega
    have hg : (L.take (j1 + 1)).getD j1 (0, 0, 0) = L.getD j1 (0, 0, 0) := by
      simp only [List.getD_eq_getElem?_getD]
      rw [List.getElem?_take_of_lt (by omega)]
    have ha : L.getD j1 (0, 0, 0) ∈ L.take (j1 + 1) := hg ▸ getD_mem (by omega)
    have r := ins_rot (rot_turn (L.take (j1 + 1))) nT ha hd
    have e : insR (L.take (j1 + 1)) (L.getD j1 (0, 0, 0)) (L.getD (j1 + 1) (0, 0, 0)) = L.take (j1 + 1) ++ [L.getD (j1 + 1) (0, 0, 0)] := by
      have hi : (L.take (j1 + 1)).idxOf (L.getD j1 (0, 0, 0)) = j1 := by
        rw [← hg]
        exact idx_of_get nT (by omega)
      unfold insR
      rw [if_neg hd, (idxD_mem ha).1, hi, show (max ((j1 : Nat) : Int) 0).toNat + 1 = j1 + 1 by omega, List.take_of_length_le (by omega), List.drop_of_length_le (by omega)]
    rw [e] at r
    refine (turn_rot r ?_).symm
    rw [← take_snocD L _ h]
    exact take_nodup n _

def othD (L M : List D) (j : Nat) : List D := (M.take j).filter fun x => decide (¬ x ∈ L)
theorem oth_step (L M : List D) {j : Nat} (h : j < M.length) : othD L M (j + 1) = if M.getD j (0, 0, 0) ∈ L then othD L M j else othD L M j ++ [M.getD j (0, 0, 0)] := by
  unfold othD
  rw [take_snocD M j h, List.filter_append]
  split
  · rename_i hx
    rw [List.filter_cons_of_neg (by simpa using hx)]
    simp
  · rename_i hx
    rw [List.filter_cons_of_pos (by simpa using hx)]
    simp
theorem oth_len (L M : List D) (j : Nat) : (othD L M j).length ≤ M.length := by
  unfold othD
  exact Nat.le_trans (List.length_filter_le _ _) (List.length_take_le' _ _)
theorem oth_facts {L M : List D} (n : M.Nodup) : (othD L M M.length).Nodup ∧ ∀ x ∈ othD L M M.length, ¬ x ∈ L := by
  unfold othD
  rw [List.take_length]
  exact ⟨n.filter _, fun x hx => by simpa using (List.mem_filter.1 hx).2⟩

def wanD (L O : List D) (j : Nat) : List D := O.take j ++ L.drop j
theorem wan_len {L O : List D} {j : Nat} (h1 : j ≤ L.length) (h2 : j ≤ O.length) : (wanD L O j).length = L.length := by
  unfold wanD
  simp; omega
theorem wan_nodup {L O : List D} (nL : L.Nodup) (nO : O.Nodup) (hd : ∀ x ∈ O, ¬ x ∈ L) (j : Nat) : (wanD L O j).Nodup := by
  unfold wanD
  rw [List.nodup_append]
  exact ⟨take_nodup nO j, nL.sublist (List.drop_sublist j L), fun a ha b hb e => hd a (List.mem_of_mem_take ha) (e ▸ List.mem_of_mem_drop hb)⟩
theorem wan_zero (L O : List D) : wanD L O 0 = L := by simp [wanD]
theorem wan_facts {L O : List D} (nL : L.Nodup) (nO : O.Nodup) (hd : ∀ x ∈ O, ¬ x ∈ L) {j : Nat} (h1 : j < L.length) (h2 : j < O.length) :
    L.getD j (0, 0, 0) ∈ wanD L O j ∧ ¬ O.getD j (0, 0, 0) ∈ wanD L O j ∧ swpR (wanD L O j) (L.getD j (0, 0, 0)) (O.getD j (0, 0, 0)) = wanD L O (j + 1) ∧ (wanD L O j).set j (O.getD j (0, 0, 0)) = wanD L O (j + 1) := by
  have nW := wan_nodup nL nO hd j
  have hlen := wan_len (Nat.le_of_lt h1) (Nat.le_of_lt h2)
  have hdr : L.drop j = L.getD j (0, 0, 0) :: L.drop (j + 1) := by
    rw [List.drop_eq_getElem_cons h1, getD_lt h1]
  have hlt : (O.take j).length = j := by simp; omega
  have hg : (wanD L O j).getD j (0, 0, 0) = L.getD j (0, 0, 0) := by
    unfold wanD
    rw [hdr, List.getD_eq_getElem?_getD, List.getElem?_append_right (by omega), hlt, Nat.sub_self]
    rfl
  have hm : L.getD j (0, 0, 0) ∈ wanD L O j := hg ▸ getD_mem (by omega)
  have hn : ¬ O.getD j (0, 0, 0) ∈ wanD L O j := by
    unfold wanD
    rw [List.mem_append, not_or]
    exact ⟨not_take nO h2, fun x => hd _ (getD_mem h2) (List.mem_of_mem_drop x)⟩
  have e1 : (wanD L O j).take j = O.take j := by
    unfold wanD
    rw [List.take_append_of_le_length (by omega), List.take_of_length_le (by omega)]
  have e2 : (wanD L O j).drop (j + 1) = L.drop (j + 1) := by
    unfold wanD
    rw [hdr, show O.take j ++ L.getD j (0, 0, 0) :: L.drop (j + 1) = (O.take j ++ [L.getD j (0, 0, 0)]) ++ L.drop (j + 1) by simp]
    exact List.drop_left' (by simp; omega)
  have e3 : O.take j ++ O.getD j (0, 0, 0) :: L.drop (j + 1) = wanD L O (j + 1) := by
    unfold wanD
    rw [take_snocD O j h2]
    simp
  have hi : (wanD L O j).idxOf (L.getD j (0, 0, 0)) = j := by
    rw [← hg]
    exact idx_of_get nW (by omega)
  refine ⟨hm, hn, ?_, ?_⟩
  · unfold swpR
    rw [if_pos ⟨hm, hn⟩, hi, e1, e2, e3]
  · rw [set_mid _ _ _ (by omega), e1, e2, e3]

/-- A new row told, of a length by its own name. -/
theorem givesFN {f : FuncId} {args : Array Value} {w : World} {L : List D} {n : Nat} (h : Calls Try.prog f args w (GivesF w L)) (hn : L.length = n) :
    Calls Try.prog f args w (fun e w' => (∃ A c, e = .returned (.slice A n c) ∧ RdS w' w'.heap.size 3 A n c (dartsV L) ∧ ∀ a, A = some a → w.heap.size ≤ a.block) ∧ Below w.heap.size w w') := by
  subst hn
  exact h.mono fun e w' ⟨A, c, h1, h2, h3, h4⟩ => ⟨⟨A, c, h1, h2, h4⟩, h3⟩
end Go.Proofs.Ytgbkloilodgjfaa
