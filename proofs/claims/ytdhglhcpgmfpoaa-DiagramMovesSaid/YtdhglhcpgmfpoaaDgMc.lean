/- A name that is brought in among names that rise; labels cut and joined; a vertex's cell that is set. -/
import Derived.Test.YtdhglhcpgmfpoaaDgMb
namespace Go.Proofs.Ytdhglhcpgmfpoaa
open Go.RowKit
set_option linter.unusedSimpArgs false
set_option linter.unusedVariables false

theorem ins_rise {L : List (Int × Int)} (hL : riseF none L = true) (k : Nat) (x : Int × Int) :
    riseF none (L.take k ++ x :: L.drop k) = true ↔ mayI x.1 x.2 = true ∧ (∀ y ∈ L.take k, ordP y x < 0) ∧ (∀ y ∈ L.drop k, ordP x y < 0) := by
  have h0 := (riseF_iff L none).1 hL
  rw [riseF_iff, List.pairwise_append, List.pairwise_cons]
  constructor
  · rintro ⟨h1, -, h2, ⟨h3, h4⟩, h5⟩
    exact ⟨h1 x (List.mem_append.2 (.inr (List.mem_cons_self ..))), fun y hy => h5 y hy x (List.mem_cons_self ..), h3⟩
  · rintro ⟨h1, h2, h3⟩
    refine ⟨fun y hy => ?_, fun y h => (by cases h), h0.2.2.sublist (List.take_sublist ..), ⟨h3, h0.2.2.sublist (List.drop_sublist ..)⟩, fun a ha b hb => ?_⟩
    · rcases List.mem_append.1 hy with hy | hy
      · exact h0.1 y (List.mem_of_mem_take hy)
      · rcases List.mem_cons.1 hy with rfl | hy
        · exact h1
        · exact h0.1 y (List.mem_of_mem_drop hy)
    · rcases List.mem_cons.1 hb with rfl | hb
      · exact h2 a ha
      · exact ordP_lt_trans (h2 a ha) (h3 b hb)
theorem ins_uniq {L : List (Int × Int)} {x : Int × Int} {k k' : Nat} (hk : k < k') (hk' : k' ≤ L.length) (h1 : ∀ y ∈ L.drop k, ordP x y < 0) (h2 : ∀ y ∈ L.take k', ordP y x < 0) : False := by
  have hl : k < L.length := by omega
  have e1 : L[k] ∈ L.drop k := by rw [List.drop_eq_getElem_cons hl]; exact List.mem_cons_self ..
  have e2 : L[k] ∈ L.take k' := List.mem_of_getElem? (i := k) (by rw [List.getElem?_take, if_pos hk]; exact List.getElem?_eq_getElem hl)
  have a := h1 _ e1
  have b := h2 _ e2
  have := ordP_neg x L[k]
  omega
theorem ins_some : ∀ (L : List (Int × Int)) (x : Int × Int), L.Pairwise (fun a b => ordP a b < 0) → x ∉ L → ∃ k, k ≤ L.length ∧ (∀ y ∈ L.take k, ordP y x < 0) ∧ (∀ y ∈ L.drop k, ordP x y < 0)
  | [], x, _, _ => ⟨0, by simp, by simp, by simp⟩
  | a :: r, x, h, hx => by
    rw [List.pairwise_cons] at h
    rw [List.mem_cons, not_or] at hx
    by_cases hax : ordP a x < 0
    · obtain ⟨k, h1, h2, h3⟩ := ins_some r x h.2 hx.2
      refine ⟨k + 1, by simpa using h1, fun y hy => ?_, by simpa using h3⟩
      rw [List.take_succ_cons] at hy
      rcases List.mem_cons.1 hy with rfl | hy
      · exact hax
      · exact h2 y hy
    · have hxa : ordP x a < 0 := by
        have h1 := ordP_neg a x
        have h2 : ordP a x ≠ 0 := fun e => hx.1 (ordP_zero.1 e).symm
        omega
      refine ⟨0, by simp, by simp, fun y hy => ?_⟩
      rw [List.drop_zero] at hy
      rcases List.mem_cons.1 hy with rfl | hy
      · exact hxa
      · exact ordP_lt_trans hxa (h.1 y hy)
/-- At which place a name may be brought in. -/
def insB (L : List (Int × Int)) (x : Int × Int) (k : Nat) : Bool := riseF none (L.take k ++ x :: L.drop k)
theorem ins_once {L : List (Int × Int)} (hL : riseF none L = true) (x : Int × Int) (j : Nat) (hj : j ≤ L.length) (h : insB L x j = true) : (List.range j).any (insB L x) = false := by
  rw [Bool.eq_false_iff]
  intro q
  obtain ⟨k, hk, hi⟩ := List.any_eq_true.1 q
  have hk := List.mem_range.1 hk
  have a := (ins_rise hL k x).1 hi
  have b := (ins_rise hL j x).1 h
  exact ins_uniq hk hj a.2.2 b.2.1
theorem ins_any {L : List (Int × Int)} (hL : riseF none L = true) (x : Int × Int) : (List.range (L.length + 1)).any (insB L x) = (mayI x.1 x.2 && !decide (x ∈ L)) := by
  have h0 := (riseF_iff L none).1 hL
  rw [Bool.eq_iff_iff]
  rw [List.any_eq_true, Bool.and_eq_true]
  simp only [Bool.not_eq_true', decide_eq_false_iff_not]
  constructor
  · rintro ⟨k, hk, hi⟩
    have a := (ins_rise hL k x).1 hi
    refine ⟨a.1, fun hm => ?_⟩
    rw [← List.take_append_drop k L, List.mem_append] at hm
    rcases hm with hm | hm
    · exact ordP_ne (a.2.1 x hm) rfl
    · exact ordP_ne (a.2.2 x hm) rfl
  · rintro ⟨h1, h2⟩
    obtain ⟨k, hk, h3, h4⟩ := ins_some L x h0.2.2 h2
    exact ⟨k, List.mem_range.2 (by omega), (ins_rise hL k x).2 ⟨h1, h3, h4⟩⟩
theorem range_any (f : Nat → Bool) (j : Nat) : (List.range (j + 1)).any f = ((List.range j).any f || f j) := by
  rw [List.range_succ, List.any_append]
  simp
def newV (x : Int × Int) : VC := (x, (none, 0, 0, []), ⟨#[]⟩, 0)
section
variable {Vs : List VC} {Es : List EC}
theorem Formed.insert (h : Formed Vs Es) (hl : Vs.length < 24) (x : Int × Int) (k : Nat) :
    formD (Vs.take k ++ newV x :: Vs.drop k) Es = if insB (Vs.map (·.1)) x k then 0 else 10 := by
  have e0 : decide (24 < (Vs.take k ++ newV x :: Vs.drop k).length ∨ 40 < Es.length) = false := decide_eq_false (by
    have := h.e40
    rw [List.length_append, List.length_cons, List.length_take, List.length_drop]
    omega)
  have e1 : (Vs.take k ++ newV x :: Vs.drop k).map (·.1) = (Vs.map (·.1)).take k ++ x :: (Vs.map (·.1)).drop k := by
    rw [List.map_append, List.map_cons, List.map_take, List.map_drop]
    rfl
  have e2 : ringsOf (Vs.take k ++ newV x :: Vs.drop k) = ringsOf Vs := by
    conv => rhs; rw [← List.take_append_drop k Vs]
    rw [ringsOf, ringsOf, List.flatMap_append, List.flatMap_append, List.flatMap_cons]
    simp [newV]
  have all_ : ∀ (p : VC → Bool), p (newV x) = true → Vs.all p = true → (Vs.take k ++ newV x :: Vs.drop k).all p = true := fun p hp ha => by
    rw [List.all_eq_true] at ha ⊢
    intro y hy
    rcases List.mem_append.1 hy with hy | hy
    · exact ha y (List.mem_of_mem_take hy)
    · rcases List.mem_cons.1 hy with rfl | hy
      · exact hp
      · exact ha y (List.mem_of_mem_drop hy)
  unfold formD formB insB
  rw [e0, e1, e2, h.re, (onceF_perm _ _).2 h.pm, all_ _ (show turnOk (newV x) = true from rfl) h.tu, all_ _ (show mayL ⟨#[]⟩ = true from rfl) h.lv, h.le, all_ _ (show mayA 0 = true from rfl) h.av, h.ae]
  cases riseF none ((Vs.map (·.1)).take k ++ x :: (Vs.map (·.1)).drop k) <;> rfl
theorem fndV_some (Vs : List VC) (x : Int × Int) : (fndV Vs x).2 = decide (x ∈ Vs.map (·.1)) := by
  rw [Bool.eq_iff_iff, decide_eq_true_eq]
  unfold fndV fnd
  split
  · rename_i v h
    have h1 := List.find?_some h
    have h2 := List.mem_of_find?_eq_some h
    exact ⟨fun _ => List.mem_map.2 ⟨v, h2, by simpa using h1⟩, fun _ => rfl⟩
  · rename_i h
    rw [List.find?_eq_none] at h
    constructor
    · intro k; cases k
    · intro hm
      obtain ⟨e, he, rfl⟩ := List.mem_map.1 hm
      exact absurd (by simp) (h e he)
end
/-- One label is another. -/
def setLab (v : VC) (s : ByteArray) : VC := (v.1, v.2.1, s, v.2.2.2)
theorem map_setSame {α β : Type} (f : α → β) (L : List α) (j : Nat) (x y : α) (hx : L[j]? = some x) (h : f y = f x) : (L.set j y).map f = L.map f := by
  rw [List.map_set, h]
  apply List.ext_getElem?
  intro i
  rw [List.getElem?_set]
  split
  · rename_i e
    subst e
    have hj := (List.getElem?_eq_some_iff.1 hx).1
    rw [List.length_map, if_pos hj, List.getElem?_map, hx]
    rfl
  · rfl
theorem all_map {α β : Type} (f : α → β) (p : β → Bool) (L : List α) : L.all (fun x => p (f x)) = (L.map f).all p := by rw [List.all_map]; rfl
theorem formD_same {Vs Ws : List VC} {Es : List EC} (h : Ws.map vS = Vs.map vS) : formD Ws Es = formD Vs Es := by
  have hl : Ws.length = Vs.length := by simpa using congrArg List.length h
  have e1 : Ws.map (·.1) = Vs.map (·.1) := by
    have := congrArg (List.map (fun s : (Int × Int) × List D × ByteArray × Int => s.1)) h
    simpa [List.map_map, Function.comp_def, vS] using this
  have e2 : Ws.map (·.2.1.2.2.2) = Vs.map (·.2.1.2.2.2) := by
    have := congrArg (List.map (fun s : (Int × Int) × List D × ByteArray × Int => s.2.1)) h
    simpa [List.map_map, Function.comp_def, vS] using this
  have e3 : Ws.map (·.2.2.1) = Vs.map (·.2.2.1) := by
    have := congrArg (List.map (fun s : (Int × Int) × List D × ByteArray × Int => s.2.2.1)) h
    simpa [List.map_map, Function.comp_def, vS] using this
  have e4 : Ws.map (·.2.2.2) = Vs.map (·.2.2.2) := by
    have := congrArg (List.map (fun s : (Int × Int) × List D × ByteArray × Int => s.2.2.2)) h
    simpa [List.map_map, Function.comp_def, vS] using this
  have r : ∀ Us : List VC, ringsOf Us = (Us.map (·.2.1.2.2.2)).flatten := fun Us => by rw [ringsOf, List.flatMap_def]
  have t : ∀ Us : List VC, Us.all turnOk = (Us.map (·.2.1.2.2.2)).all (fun L => decide (L = turnD L)) := fun Us => by rw [List.all_map]; rfl
  have l : ∀ Us : List VC, Us.all (fun v => mayL v.2.2.1) = (Us.map (·.2.2.1)).all mayL := fun Us => by rw [List.all_map]; rfl
  have a : ∀ Us : List VC, Us.all (fun v => mayA v.2.2.2) = (Us.map (·.2.2.2)).all mayA := fun Us => by rw [List.all_map]; rfl
  unfold formD
  rw [hl, e1, r Ws, r Vs, e2, t Ws, t Vs, e2, l Ws, l Vs, e3, a Ws, a Vs, e4]
theorem Formed.same {Vs Ws : List VC} {Es : List EC} (hf : Formed Vs Es) (h : Ws.map vS = Vs.map vS) : Formed Ws Es := (form0 Ws Es).1 ((formD_same h).trans ((form0 Vs Es).2 hf))
/-- A diagram that is well formed, with another label at one of its vertices. -/
theorem Formed.label {Vs : List VC} {Es : List EC} (h : Formed Vs Es) {j : Nat} {x : VC} (hx : Vs[j]? = some x) (s : ByteArray) : formD (Vs.set j (setLab x s)) Es = if mayL s then 0 else 4 := by
  have hj := (List.getElem?_eq_some_iff.1 hx).1
  have e0 : decide (24 < (Vs.set j (setLab x s)).length ∨ 40 < Es.length) = false := decide_eq_false (by have := h.v24; have := h.e40; rw [List.length_set]; omega)
  have e1 := map_setSame (fun v : VC => v.1) Vs j x (setLab x s) hx rfl
  have e2 : ringsOf (Vs.set j (setLab x s)) = ringsOf Vs := by
    rw [ringsOf, ringsOf, List.flatMap_def, List.flatMap_def, map_setSame (fun v : VC => v.2.1.2.2.2) Vs j x (setLab x s) hx rfl]
  have t : ∀ Us : List VC, Us.all turnOk = (Us.map (fun v : VC => v.2.1.2.2.2)).all (fun L => decide (L = turnD L)) := fun Us => by rw [List.all_map]; rfl
  have a : ∀ Us : List VC, Us.all (fun v => mayA v.2.2.2) = (Us.map (fun v : VC => v.2.2.2)).all mayA := fun Us => by rw [List.all_map]; rfl
  have e3 : (Vs.set j (setLab x s)).all turnOk = Vs.all turnOk := by
    rw [t, t, map_setSame (fun v : VC => v.2.1.2.2.2) Vs j x (setLab x s) hx rfl]
  have e4 : (Vs.set j (setLab x s)).all (fun v => mayA v.2.2.2) = Vs.all (fun v => mayA v.2.2.2) := by
    rw [a, a, map_setSame (fun v : VC => v.2.2.2) Vs j x (setLab x s) hx rfl]
  have e5 : (Vs.set j (setLab x s)).all (fun v => mayL v.2.2.1) = mayL s := by
    rw [Bool.eq_iff_iff, List.all_eq_true]
    constructor
    · intro ha
      exact ha (setLab x s) (List.mem_of_getElem? (i := j) (by rw [List.getElem?_set, if_pos rfl, if_pos hj]))
    · intro hs v hv
      rcases List.mem_or_eq_of_mem_set hv with hv | rfl
      · exact List.all_eq_true.1 h.lv v hv
      · exact hs
  unfold formD formB
  rw [e0, e1, e2, e3, e4, e5, h.rv, h.re, h.tu, (onceF_perm _ _).2 h.pm, h.le, h.av, h.ae]
  cases mayL s <;> rfl
theorem mayL_join (s t : ByteArray) : mayL (s ++ t) = (decide (s.size + t.size ≤ 16) && s.data.toList.all okB && t.data.toList.all okB) := by
  unfold mayL
  have e1 : (s ++ t).data.toList = s.data.toList ++ t.data.toList := by simp
  have e2 : (s ++ t).size = s.size + t.size := by simp
  rw [e1, e2, List.all_append, Bool.and_assoc]
/-- One cell of a range is set. -/
theorem putR_set {cs vs : List Value} {o i : Nat} {u : Value} (hc : ∀ j v, vs[j]? = some v → cs[o + j]? = some v) (hi : i < vs.length) (hl : o + vs.length ≤ cs.length) : putR cs o (vs.set i u) = cs.set (o + i) u := by
  unfold putR
  rw [List.length_set]
  apply List.ext_getElem?
  intro p
  rw [List.getElem?_set]
  have ht : (cs.take o).length = o := by rw [List.length_take]; omega
  rcases Nat.lt_or_ge p o with h1 | h1
  · rw [List.getElem?_append_left (by omega), List.getElem?_take, if_pos h1, if_neg (by omega)]
  · rw [List.getElem?_append_right (by omega), ht]
    rcases Nat.lt_or_ge (p - o) vs.length with h2 | h2
    · rw [List.getElem?_append_left (by rw [List.length_set]; exact h2), List.getElem?_set]
      by_cases h3 : i = p - o
      · subst h3
        rw [if_pos rfl, if_pos h2, if_pos (by omega), if_pos (by omega)]
      · rw [if_neg h3, if_neg (by omega)]
        have := hc (p - o) _ (List.getElem?_eq_getElem h2)
        rw [show o + (p - o) = p by omega] at this
        rw [this, List.getElem?_eq_getElem h2]
    · rw [List.getElem?_append_right (by rw [List.length_set]; exact h2), List.length_set, List.getElem?_drop, if_neg (by omega)]
      congr 1
      omega
/-- One cell of an element of a row of the call's own is set. -/
theorem own_poke {α : Type} {f : α → List Value} {s : Nat} (hs : ∀ x, (f x).length = s) {W : World} {lo n c : Nat} {T : TypeId} {A : Option Addr} {L : List α} (h : W.ownsRow lo T s (.slice A n c) n (rowsV f L)) {j i : Nat} {x y : α} {u : Value}
    (hx : L[j]? = some x) (hn : j < n) (hi : i < s) (hy : f y = (f x).set i u) :
    ∃ g junk, A = some ⟨g, 0, none⟩ ∧ lo ≤ g ∧ Whole W g T (rowsV f L ++ junk) ∧ W.cell? ⟨g, j * s + i, none⟩ = (f x)[i]? ∧ W.frozen? ⟨g, j * s + i, none⟩ = false ∧
      (W.setCell ⟨g, j * s + i, none⟩ u).ownsRow lo T s (.slice A n c) n (rowsV f (L.set j y)) := by
  obtain ⟨g, junk, rfl, hlo, hw, hl, hnc, hcm, hxl⟩ := own_place h (by omega)
  have hlen := rowsV_length f hs L
  have hj := (List.getElem?_eq_some_iff.1 hx).1
  have hjl : (j + 1) * s ≤ L.length * s := Nat.mul_le_mul_right _ hj
  rw [Nat.succ_mul] at hjl
  have hg : ∀ p v, (f x)[p]? = some v → (rowsV f L ++ junk)[j * s + p]? = some v := fun p v hv => by
    have h1 := rowsV_get f hs L j x hx p v hv
    rw [List.getElem?_append_left (List.getElem?_eq_some_iff.1 h1).1]
    exact h1
  have hi' : i < (f x).length := by rw [hs]; exact hi
  have hput : putR (rowsV f L ++ junk) (j * s) (f y) = (rowsV f L ++ junk).set (j * s + i) u := by
    rw [hy]
    exact putR_set hg hi' (by rw [List.length_append, hs]; omega)
  rw [rowsV_put hs L junk j y hj] at hput
  have hw2 := hw.set_ (j * s + i) u
  rw [← hput] at hw2
  refine ⟨g, junk, rfl, hlo, hw, ?_, hw.free _, own_mk hw2 hlo ?_ hnc hcm ?_⟩
  · rw [List.getElem?_eq_getElem hi']
    exact hw.cell (hg i _ (List.getElem?_eq_getElem hi'))
  · rw [hput, List.length_set]
    exact hl
  · rw [rowsV_length f hs, List.length_set, ← hlen]
    exact hxl
end Go.Proofs.Ytdhglhcpgmfpoaa
