/- One to one on a finite list: orbits, periods, how many orbits there are. -/
import Derived.Test.YtjkbcpikdkidhaaRing
namespace Go.Proofs.Ytjkbcpikdkidhaa
open Go.RowKit
set_option linter.unusedSimpArgs false
set_option linter.unusedVariables false

/-- f, k times. -/
def itN {α : Type} (f : α → α) : Nat → α → α
  | 0, x => x
  | k + 1, x => itN f k (f x)
/-- What is one to one on a list. -/
structure Pm {α : Type} (f : α → α) (L : List α) : Prop where
  nd : L.Nodup
  cl : ∀ x ∈ L, f x ∈ L
  inj : ∀ x ∈ L, ∀ y ∈ L, f x = f y → x = y
def Rl {α : Type} (f : α → α) (x y : α) : Prop := ∃ i, itN f i x = y
structure IsPer {α : Type} (f : α → α) (x : α) (p : Nat) : Prop where
  pos : 0 < p
  back : itN f p x = x
  ne : ∀ i, 0 < i → i < p → itN f i x ≠ x
def orbN {α : Type} (f : α → α) (x : α) (p : Nat) : List α := (List.range p).map fun i => itN f i x
/-- Round, from y on, k at most. -/
def orbT {α : Type} [DecidableEq α] (f : α → α) (x : α) : Nat → α → List α
  | 0, _ => []
  | k + 1, y => y :: (if f y = x then [] else orbT f x k (f y))
/-- One of each orbit. -/
structure Reps {α : Type} (f : α → α) (L P : List α) : Prop where
  nd : P.Nodup
  sub : ∀ p ∈ P, p ∈ L
  all : ∀ x ∈ L, ∃ p ∈ P, Rl f p x
  one : ∀ p ∈ P, ∀ q ∈ P, Rl f p q → p = q
/-- As many, at most: each has one of its own. -/
theorem inj_le {α β : Type} [DecidableEq β] (r : α → β → Prop) : ∀ (A : List α) (B : List β), A.Nodup → (∀ a ∈ A, ∃ b ∈ B, r a b) → (∀ a ∈ A, ∀ a' ∈ A, ∀ b ∈ B, r a b → r a' b → a = a') → A.length ≤ B.length
  | [], _, _, _, _ => Nat.zero_le _
  | a :: A, B, hn, he, hi => by
    rw [List.nodup_cons] at hn
    obtain ⟨b, hb, hr⟩ := he a (List.mem_cons_self ..)
    have h1 := inj_le r A (B.erase b) hn.2 (fun a' ha' => by
      obtain ⟨b', hb', hr'⟩ := he a' (List.mem_cons_of_mem _ ha')
      refine ⟨b', (List.mem_erase_of_ne (fun e => ?_)).2 hb', hr'⟩
      subst e
      exact hn.1 (hi a (List.mem_cons_self ..) a' (List.mem_cons_of_mem _ ha') b' hb' hr hr' ▸ ha')) (fun x hx y hy z hz => hi x (List.mem_cons_of_mem _ hx) y (List.mem_cons_of_mem _ hy) z (List.mem_of_mem_erase hz))
    rw [List.length_erase_of_mem hb] at h1
    have := List.length_pos_of_mem hb
    simp only [List.length_cons]
    omega
theorem nd_le {α : Type} [DecidableEq α] {A B : List α} (h : A.Nodup) (hs : ∀ x ∈ A, x ∈ B) : A.length ≤ B.length :=
  inj_le (fun a b => a = b) A B h (fun a ha => ⟨a, hs a ha, rfl⟩) (fun _ _ _ _ _ _ e e' => e.trans e'.symm)
theorem least {p : Nat → Prop} (h : ∃ n, p n) : ∃ n, p n ∧ ∀ m, m < n → ¬ p m := by
  obtain ⟨n, hn⟩ := h
  induction n using Nat.strongRecOn with
  | _ n ih =>
    by_cases q : ∃ m, m < n ∧ p m
    · obtain ⟨m, h1, h2⟩ := q
      exact ih m h1 h2
    · exact ⟨n, hn, fun m h1 h2 => q ⟨m, h1, h2⟩⟩
section
variable {α : Type} {f : α → α} {L P Q : List α}
theorem it_add (i j : Nat) (x : α) : itN f (i + j) x = itN f j (itN f i x) := by
  induction i generalizing x with
  | zero => rw [Nat.zero_add]; rfl
  | succ i ih => rw [Nat.succ_add]; exact ih (f x)
theorem it_succ (k : Nat) (x : α) : itN f (k + 1) x = f (itN f k x) := it_add k 1 x
theorem Pm.it (h : Pm f L) {x : α} (hx : x ∈ L) : ∀ k, itN f k x ∈ L
  | 0 => hx
  | k + 1 => by rw [it_succ]; exact h.cl _ (h.it hx k)
theorem Pm.it_inj (h : Pm f L) {x y : α} (hx : x ∈ L) (hy : y ∈ L) : ∀ k, itN f k x = itN f k y → x = y
  | 0, e => e
  | k + 1, e => by
    rw [it_succ, it_succ] at e
    exact h.it_inj hx hy k (h.inj _ (h.it hx k) _ (h.it hy k) e)
theorem Pm.per [DecidableEq α] (h : Pm f L) {x : α} (hx : x ∈ L) : ∃ p, IsPer f x p ∧ p ≤ L.length := by
  have h0 : ∃ n, 0 < n ∧ itN f n x = x ∧ n ≤ L.length := by
    refine Classical.byContradiction fun hno => ?_
    have hnd : ((List.range (L.length + 1)).map fun i => itN f i x).Nodup := by
      rw [List.Nodup, List.pairwise_map]
      refine List.Pairwise.imp_of_mem ?_ (List.pairwise_lt_range (n := L.length + 1))
      intro i j hi hj hlt e
      rw [List.mem_range] at hi hj
      refine hno ⟨j - i, by omega, ?_, by omega⟩
      have e1 : itN f i (itN f (j - i) x) = itN f i x := by
        rw [← it_add, Nat.sub_add_cancel (by omega)]
        exact e.symm
      exact h.it_inj (h.it hx _) hx i e1
    have := nd_le hnd (B := L) (fun y hy => by
      obtain ⟨i, _, rfl⟩ := List.mem_map.1 hy
      exact h.it hx i)
    rw [List.length_map, List.length_range] at this
    omega
  obtain ⟨n, ⟨h1, h2, h3⟩, h4⟩ := least h0
  exact ⟨n, ⟨h1, h2, fun i hi hlt e => h4 i hlt ⟨hi, e, by omega⟩⟩, h3⟩
theorem IsPer.mul {x : α} {p : Nat} (h : IsPer f x p) (k : Nat) : itN f (p * k) x = x := by
  induction k with
  | zero => rfl
  | succ k ih => rw [Nat.mul_succ, it_add, ih, h.back]
theorem IsPer.mod {x : α} {p : Nat} (h : IsPer f x p) (k : Nat) : itN f k x = itN f (k % p) x := by
  have := it_add (f := f) (p * (k / p)) (k % p) x
  rw [Nat.div_add_mod, h.mul] at this
  exact this
theorem IsPer.inj (h : Pm f L) {x : α} (hx : x ∈ L) {p : Nat} (hp : IsPer f x p) {i j : Nat} (hi : i < p) (hj : j < p) (e : itN f i x = itN f j x) : i = j := by
  have key : ∀ {i j : Nat}, i < j → j < p → itN f i x = itN f j x → False := fun {i j} hlt hj e => by
    have e1 : itN f i (itN f (j - i) x) = itN f i x := by
      rw [← it_add, Nat.sub_add_cancel (by omega)]
      exact e.symm
    exact hp.ne (j - i) (by omega) (by omega) (h.it_inj (h.it hx _) hx i e1)
  rcases Nat.lt_trichotomy i j with q | q | q
  · exact (key q hj e).elim
  · exact q
  · exact (key q hi e.symm).elim
theorem IsPer.uniq {x : α} {p q : Nat} (h : IsPer f x p) (k : IsPer f x q) : p = q := by
  rcases Nat.lt_trichotomy p q with e | e | e
  · exact (k.ne p h.pos e h.back).elim
  · exact e
  · exact (h.ne q k.pos e k.back).elim
theorem Rl.refl (x : α) : Rl f x x := ⟨0, rfl⟩
theorem Rl.trans {x y z : α} (h : Rl f x y) (k : Rl f y z) : Rl f x z := by
  obtain ⟨i, rfl⟩ := h
  obtain ⟨j, rfl⟩ := k
  exact ⟨i + j, it_add i j x⟩
theorem Rl.one (x : α) : Rl f x (f x) := ⟨1, rfl⟩
theorem Rl.mem (h : Pm f L) {x y : α} (hx : x ∈ L) (r : Rl f x y) : y ∈ L := by
  obtain ⟨i, rfl⟩ := r
  exact h.it hx i
theorem Rl.symm [DecidableEq α] (h : Pm f L) {x y : α} (hx : x ∈ L) (r : Rl f x y) : Rl f y x := by
  obtain ⟨i, rfl⟩ := r
  obtain ⟨p, hp, _⟩ := h.per hx
  refine ⟨p * i - i, ?_⟩
  rw [← it_add]
  have : i ≤ p * i := Nat.le_mul_of_pos_left i hp.pos
  rw [show i + (p * i - i) = p * i by omega, hp.mul]
theorem IsPer.shift (h : Pm f L) {x : α} (hx : x ∈ L) {p : Nat} (hp : IsPer f x p) (k : Nat) : IsPer f (itN f k x) p := by
  refine ⟨hp.pos, by rw [← it_add, Nat.add_comm, it_add, hp.back], fun i h1 h2 e => hp.ne i h1 h2 ?_⟩
  rw [← it_add, Nat.add_comm, it_add] at e
  exact h.it_inj (h.it hx i) hx k e
theorem orb_len (x : α) (p : Nat) : (orbN f x p).length = p := by simp [orbN]
theorem orb_get {x : α} {p i : Nat} (hi : i < p) (d : α) : (orbN f x p).getD i d = itN f i x := by
  simp [orbN, List.getD_eq_getElem?_getD, hi]
theorem orb_mem {x y : α} {p : Nat} (hp : IsPer f x p) : y ∈ orbN f x p ↔ Rl f x y := by
  unfold orbN
  rw [List.mem_map]
  constructor
  · rintro ⟨i, _, rfl⟩
    exact ⟨i, rfl⟩
  · rintro ⟨i, rfl⟩
    exact ⟨i % p, List.mem_range.2 (Nat.mod_lt _ hp.pos), (hp.mod i).symm⟩
theorem orb_nodup (h : Pm f L) {x : α} (hx : x ∈ L) {p : Nat} (hp : IsPer f x p) : (orbN f x p).Nodup := by
  rw [orbN, List.Nodup, List.pairwise_map]
  refine List.Pairwise.imp_of_mem ?_ (List.pairwise_lt_range (n := p))
  intro i j hi hj hlt e
  rw [List.mem_range] at hi hj
  have := hp.inj h hx hi hj e
  omega
theorem orb_rot {x : α} {p : Nat} (hp : IsPer f x p) {k : Nat} (hk : k ≤ p) : orbN f (itN f k x) p = (orbN f x p).drop k ++ (orbN f x p).take k := by
  refine List.ext_getElem (by simp [orbN]; omega) fun i h1 h2 => ?_
  have hi : i < p := by simpa [orbN] using h1
  rw [List.getElem_append]
  split
  · simp [orbN, ← it_add]
  · rename_i hge
    have hge : p - k ≤ i := by simpa [orbN] using hge
    simp only [orbN, List.getElem_map, List.getElem_range, List.getElem_take, List.length_drop, List.length_map, List.length_range]
    rw [← it_add, show k + i = p + (i - (p - k)) by omega, it_add, hp.back]
theorem orbT_eq [DecidableEq α] {x : α} {p : Nat} (hp : IsPer f x p) : ∀ (k j : Nat), j < p → p - j ≤ k → orbT f x k (itN f j x) = (orbN f x p).drop j
  | 0, j, hj, hk => by omega
  | k + 1, j, hj, hk => by
    have e1 : (orbN f x p).drop j = itN f j x :: (orbN f x p).drop (j + 1) := by
      rw [List.drop_eq_getElem_cons (by simp [orbN]; omega)]
      simp [orbN]
    rw [orbT, e1, ← it_succ (f := f) j x]
    by_cases q : j + 1 = p
    · rw [q, if_pos hp.back, List.drop_eq_nil_of_le (by simp [orbN])]
    · rw [if_neg (hp.ne (j + 1) (by omega) (by omega)), orbT_eq hp k (j + 1) (by omega) (by omega)]
theorem orbT_all [DecidableEq α] {x : α} {p k : Nat} (hp : IsPer f x p) (hk : p ≤ k) : orbT f x k x = orbN f x p := orbT_eq hp k 0 hp.pos (by omega)
theorem Reps.le [DecidableEq α] (h : Pm f L) (h1 : Reps f L P) (h2 : Reps f L Q) : P.length ≤ Q.length :=
  inj_le (fun p q => Rl f q p) P Q h1.nd (fun p hp => h2.all p (h1.sub p hp)) (fun p hp p' hp' q hq r r' => h1.one p hp p' hp' ((r.symm h (h2.sub q hq)).trans r'))
theorem Reps.len [DecidableEq α] (h : Pm f L) (h1 : Reps f L P) (h2 : Reps f L Q) : P.length = Q.length := Nat.le_antisymm (h1.le h h2) (h2.le h h1)
/-- All orbits, of those that are still to come, T being told. -/
def orbsF [DecidableEq α] (f : α → α) (N : Nat) : List α → List α → List (List α)
  | [], _ => []
  | x :: r, T => if x ∈ T then orbsF f N r T else orbT f x N x :: orbsF f N r (T ++ orbT f x N x)
theorem orbs_heads [DecidableEq α] (h : Pm f L) {N : Nat} (hN : L.length ≤ N) : ∀ (l T : List α), (∀ x ∈ l, x ∈ L) → (∀ x ∈ T, x ∈ L) → (∀ x ∈ T, ∀ y, Rl f x y → y ∈ T) →
    ∃ P : List α, P.Sublist l ∧ orbsF f N l T = P.map (fun x => orbT f x N x) ∧ (∀ p ∈ P, p ∉ T) ∧ (∀ x ∈ l, x ∈ T ∨ ∃ p ∈ P, Rl f p x) ∧ (∀ p ∈ P, ∀ q ∈ P, Rl f p q → p = q) ∧ P.Nodup
  | [], T, _, _, _ => ⟨[], List.Sublist.refl _, rfl, by simp, by simp, by simp, List.nodup_nil⟩
  | x :: r, T, hl, hT, hc => by
    have hxL := hl x (List.mem_cons_self ..)
    have hr := fun y hy => hl y (List.mem_cons_of_mem _ hy)
    by_cases hx : x ∈ T
    · obtain ⟨P, h1, h2, h3, h4, h5, h6⟩ := orbs_heads h hN r T hr hT hc
      refine ⟨P, h1.cons _, by rw [orbsF, if_pos hx, h2], h3, fun y hy => ?_, h5, h6⟩
      rcases List.mem_cons.1 hy with rfl | hy
      · exact .inl hx
      · exact h4 y hy
    · obtain ⟨p, hp, hpl⟩ := h.per hxL
      have eo : orbT f x N x = orbN f x p := orbT_all hp (by omega)
      have hmem : ∀ y, y ∈ T ++ orbN f x p ↔ y ∈ T ∨ Rl f x y := fun y => by rw [List.mem_append, orb_mem hp]
      obtain ⟨P, h1, h2, h3, h4, h5, h6⟩ := orbs_heads h hN r (T ++ orbT f x N x) hr (fun y hy => by
        rw [eo, hmem] at hy
        exact hy.elim (hT y) (fun q => q.mem h hxL)) (fun y hy z hz => by
        rw [eo, hmem] at hy ⊢
        exact hy.elim (fun q => .inl (hc y q z hz)) (fun q => .inr (q.trans hz)))
      rw [eo] at h3 h4
      have hxP : ∀ q ∈ P, ¬ Rl f x q := fun q hq r => h3 q hq ((hmem q).2 (.inr r))
      refine ⟨x :: P, h1.cons_cons _, by rw [orbsF, if_neg hx, h2]; rfl, fun q hq => ?_, fun y hy => ?_, fun a ha b hb r => ?_, ?_⟩
      · rcases List.mem_cons.1 hq with rfl | hq
        · exact hx
        · exact fun m => h3 q hq ((hmem q).2 (.inl m))
      · rcases List.mem_cons.1 hy with rfl | hy
        · exact .inr ⟨y, List.mem_cons_self .., Rl.refl _⟩
        · rcases h4 y hy with q | ⟨p', hp', r⟩
          · rcases (hmem y).1 q with q | q
            · exact .inl q
            · exact .inr ⟨x, List.mem_cons_self .., q⟩
          · exact .inr ⟨p', List.mem_cons_of_mem _ hp', r⟩
      · rcases List.mem_cons.1 ha with ea | ha2
        · rcases List.mem_cons.1 hb with eb | hb2
          · rw [ea, eb]
          · exact (hxP b hb2 (ea ▸ r)).elim
        · rcases List.mem_cons.1 hb with eb | hb2
          · exact (hxP a ha2 (eb ▸ r.symm h (hr a (h1.subset ha2)))).elim
          · exact h5 a ha2 b hb2 r
      · exact List.nodup_cons.2 ⟨fun hq => hxP x hq (Rl.refl x), h6⟩
/-- All orbits of a list are those of one of each. -/
theorem orbs_reps [DecidableEq α] (h : Pm f L) {N : Nat} (hN : L.length ≤ N) (l : List α) (hl : ∀ x, x ∈ l ↔ x ∈ L) : ∃ P, Reps f L P ∧ orbsF f N l [] = P.map (fun x => orbT f x N x) := by
  obtain ⟨P, h1, h2, h3, h4, h5, h6⟩ := orbs_heads h hN l [] (fun x hx => (hl x).1 hx) (by simp) (by simp)
  refine ⟨P, ⟨h6, fun p hp => (hl p).1 (h1.subset hp), fun x hx => ?_, h5⟩, h2⟩
  rcases h4 x ((hl x).2 hx) with q | q
  · cases q
  · exact q
theorem Reps.flat_mem [DecidableEq α] (h : Pm f L) {N : Nat} (hN : L.length ≤ N) (hr : Reps f L P) (x : α) : x ∈ (P.map (fun x => orbT f x N x)).flatten ↔ x ∈ L := by
  rw [List.mem_flatten]
  constructor
  · rintro ⟨l, hl, hx⟩
    obtain ⟨q, hq, rfl⟩ := List.mem_map.1 hl
    obtain ⟨p, hp, hpl⟩ := h.per (hr.sub q hq)
    rw [orbT_all hp (by omega), orb_mem hp] at hx
    exact hx.mem h (hr.sub q hq)
  · intro hx
    obtain ⟨q, hq, r⟩ := hr.all x hx
    obtain ⟨p, hp, hpl⟩ := h.per (hr.sub q hq)
    refine ⟨_, List.mem_map.2 ⟨q, hq, rfl⟩, ?_⟩
    rw [orbT_all hp (by omega), orb_mem hp]
    exact r
theorem Reps.flat_nodup [DecidableEq α] (h : Pm f L) {N : Nat} (hN : L.length ≤ N) (hr : Reps f L P) : (P.map (fun x => orbT f x N x)).flatten.Nodup := by
  rw [List.Nodup, List.pairwise_flatten]
  constructor
  · intro l hl
    obtain ⟨q, hq, rfl⟩ := List.mem_map.1 hl
    obtain ⟨p, hp, hpl⟩ := h.per (hr.sub q hq)
    rw [orbT_all hp (by omega)]
    exact orb_nodup h (hr.sub q hq) hp
  · rw [List.pairwise_map]
    refine List.Pairwise.imp_of_mem ?_ hr.nd
    intro a b ha hb hne x hx y hy e
    subst e
    obtain ⟨p, hp, hpl⟩ := h.per (hr.sub a ha)
    obtain ⟨q, hq, hql⟩ := h.per (hr.sub b hb)
    rw [orbT_all hp (by omega), orb_mem hp] at hx
    rw [orbT_all hq (by omega), orb_mem hq] at hy
    exact hne (hr.one a ha b hb (hx.trans (hy.symm h (hr.sub b hb))))
theorem Reps.flat_len [DecidableEq α] (h : Pm f L) {N : Nat} (hN : L.length ≤ N) (hr : Reps f L P) : (P.map (fun x => orbT f x N x)).flatten.length = L.length :=
  Nat.le_antisymm (nd_le (hr.flat_nodup h hN) (fun x hx => (hr.flat_mem h hN x).1 hx)) (nd_le h.nd (fun x hx => (hr.flat_mem h hN x).2 hx))
end
end Go.Proofs.Ytjkbcpikdkidhaa
