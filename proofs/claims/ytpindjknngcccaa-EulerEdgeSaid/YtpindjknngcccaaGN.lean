/- Words for all layers, in one text. -/
import Derived.Test.YtpindjknngcccaaRing

/- One to one on a finite list: orbits, periods, how many orbits there are. -/
namespace Go.Proofs.Ytpindjknngcccaa
open Go.RowKit
set_option linter.unusedSimpArgs false
set_option linter.unusedVariables false

/-- f, k times. -/
def itN {α : Type} (f : α → α) : Nat → α → α
  | 0, x => x
  | k + 1, x => itN f k (f x)
/-- What is one to one on a list. -/
structure Pm {α : Type} (f : α → α) (L : List α) : Prop where
  nd : L.Nodup
  cl : ∀ x ∈ L, f x ∈ L
  inj : ∀ x ∈ L, ∀ y ∈ L, f x = f y → x = y
def Rl {α : Type} (f : α → α) (x y : α) : Prop := ∃ i, itN f i x = y
structure IsPer {α : Type} (f : α → α) (x : α) (p : Nat) : Prop where
  pos : 0 < p
  back : itN f p x = x
  ne : ∀ i, 0 < i → i < p → itN f i x ≠ x
def orbN {α : Type} (f : α → α) (x : α) (p : Nat) : List α := (List.range p).map fun i => itN f i x
/-- Round, from y on, k at most. -/
def orbT {α : Type} [DecidableEq α] (f : α → α) (x : α) : Nat → α → List α
  | 0, _ => []
  | k + 1, y => y :: (if f y = x then [] else orbT f x k (f y))
/-- One of each orbit. -/
structure Reps {α : Type} (f : α → α) (L P : List α) : Prop where
  nd : P.Nodup
  sub : ∀ p ∈ P, p ∈ L
  all : ∀ x ∈ L, ∃ p ∈ P, Rl f p x
  one : ∀ p ∈ P, ∀ q ∈ P, Rl f p q → p = q
/-- As many, at most: each has one of its own. -/
theorem inj_le {α β : Type} [DecidableEq β] (r : α → β → Prop) : ∀ (A : List α) (B : List β), A.Nodup → (∀ a ∈ A, ∃ b ∈ B, r a b) → (∀ a ∈ A, ∀ a' ∈ A, ∀ b ∈ B, r a b → r a' b → a = a') → A.length ≤ B.length
  | [], _, _, _, _ => Nat.zero_le _
  | a :: A, B, hn, he, hi => by
    rw [List.nodup_cons] at hn
    obtain ⟨b, hb, hr⟩ := he a (List.mem_cons_self ..)
    have h1 := inj_le r A (B.erase b) hn.2 (fun a' ha' => by
      obtain ⟨b', hb', hr'⟩ := he a' (List.mem_cons_of_mem _ ha')
      refine ⟨b', (List.mem_erase_of_ne (fun e => ?_)).2 hb', hr'⟩
      subst e
      exact hn.1 (hi a (List.mem_cons_self ..) a' (List.mem_cons_of_mem _ ha') b' hb' hr hr' ▸ ha')) (fun x hx y hy z hz => hi x (List.mem_cons_of_mem _ hx) y (List.mem_cons_of_mem _ hy) z (List.mem_of_mem_erase hz))
    rw [List.length_erase_of_mem hb] at h1
    have := List.length_pos_of_mem hb
    simp only [List.length_cons]
    omega
theorem nd_le {α : Type} [DecidableEq α] {A B : List α} (h : A.Nodup) (hs : ∀ x ∈ A, x ∈ B) : A.length ≤ B.length :=
  inj_le (fun a b => a = b) A B h (fun a ha => ⟨a, hs a ha, rfl⟩) (fun _ _ _ _ _ _ e e' => e.trans e'.symm)
theorem least {p : Nat → Prop} (h : ∃ n, p n) : ∃ n, p n ∧ ∀ m, m < n → ¬ p m := by
  obtain ⟨n, hn⟩ := h
  induction n using Nat.strongRecOn with
  | _ n ih =>
    by_cases q : ∃ m, m < n ∧ p m
    · obtain ⟨m, h1, h2⟩ := q
      exact ih m h1 h2
    · exact ⟨n, hn, fun m h1 h2 => q ⟨m, h1, h2⟩⟩
section
variable {α : Type} {f : α → α} {L P Q : List α}
theorem it_add (i j : Nat) (x : α) : itN f (i + j) x = itN f j (itN f i x) := by
  induction i generalizing x with
  | zero => rw [Nat.zero_add]; rfl
  | succ i ih => rw [Nat.succ_add]; exact ih (f x)
theorem it_succ (k : Nat) (x : α) : itN f (k + 1) x = f (itN f k x) := it_add k 1 x
theorem Pm.it (h : Pm f L) {x : α} (hx : x ∈ L) : ∀ k, itN f k x ∈ L
  | 0 => hx
  | k + 1 => by rw [it_succ]; exact h.cl _ (h.it hx k)
theorem Pm.it_inj (h : Pm f L) {x y : α} (hx : x ∈ L) (hy : y ∈ L) : ∀ k, itN f k x = itN f k y → x = y
  | 0, e => e
  | k + 1, e => by
    rw [it_succ, it_succ] at e
    exact h.it_inj hx hy k (h.inj _ (h.it hx k) _ (h.it hy k) e)
theorem Pm.per [DecidableEq α] (h : Pm f L) {x : α} (hx : x ∈ L) : ∃ p, IsPer f x p ∧ p ≤ L.length := by
  have h0 : ∃ n, 0 < n ∧ itN f n x = x ∧ n ≤ L.length := by
    refine Classical.byContradiction fun hno => ?_
    have hnd : ((List.range (L.length + 1)).map fun i => itN f i x).Nodup := by
      rw [List.Nodup, List.pairwise_map]
      refine List.Pairwise.imp_of_mem ?_ (List.pairwise_lt_range (n := L.length + 1))
      intro i j hi hj hlt e
      rw [List.mem_range] at hi hj
      refine hno ⟨j - i, by omega, ?_, by omega⟩
      have e1 : itN f i (itN f (j - i) x) = itN f i x := by
        rw [← it_add, Nat.sub_add_cancel (by omega)]
        exact e.symm
      exact h.it_inj (h.it hx _) hx i e1
    have := nd_le hnd (B := L) (fun y hy => by
      obtain ⟨i, _, rfl⟩ := List.mem_map.1 hy
      exact h.it hx i)
    rw [List.length_map, List.length_range] at this
    omega
  obtain ⟨n, ⟨h1, h2, h3⟩, h4⟩ := least h0
  exact ⟨n, ⟨h1, h2, fun i hi hlt e => h4 i hlt ⟨hi, e, by omega⟩⟩, h3⟩
theorem IsPer.mul {x : α} {p : Nat} (h : IsPer f x p) (k : Nat) : itN f (p * k) x = x := by
  induction k with
  | zero => rfl
  | succ k ih => rw [Nat.mul_succ, it_add, ih, h.back]
theorem IsPer.mod {x : α} {p : Nat} (h : IsPer f x p) (k : Nat) : itN f k x = itN f (k % p) x := by
  have := it_add (f := f) (p * (k / p)) (k % p) x
  rw [Nat.div_add_mod, h.mul] at this
  exact this
theorem IsPer.inj (h : Pm f L) {x : α} (hx : x ∈ L) {p : Nat} (hp : IsPer f x p) {i j : Nat} (hi : i < p) (hj : j < p) (e : itN f i x = itN f j x) : i = j := by
  have key : ∀ {i j : Nat}, i < j → j < p → itN f i x = itN f j x → False := fun {i j} hlt hj e => by
    have e1 : itN f i (itN f (j - i) x) = itN f i x := by
      rw [← it_add, Nat.sub_add_cancel (by omega)]
      exact e.symm
    exact hp.ne (j - i) (by omega) (by omega) (h.it_inj (h.it hx _) hx i e1)
  rcases Nat.lt_trichotomy i j with q | q | q
  · exact (key q hj e).elim
  · exact q
  · exact (key q hi e.symm).elim
theorem IsPer.uniq {x : α} {p q : Nat} (h : IsPer f x p) (k : IsPer f x q) : p = q := by
  rcases Nat.lt_trichotomy p q with e | e | e
  · exact (k.ne p h.pos e h.back).elim
  · exact e
  · exact (h.ne q k.pos e k.back).elim
theorem Rl.refl (x : α) : Rl f x x := ⟨0, rfl⟩
theorem Rl.trans {x y z : α} (h : Rl f x y) (k : Rl f y z) : Rl f x z := by
  obtain ⟨i, rfl⟩ := h
  obtain ⟨j, rfl⟩ := k
  exact ⟨i + j, it_add i j x⟩
theorem Rl.one (x : α) : Rl f x (f x) := ⟨1, rfl⟩
theorem Rl.mem (h : Pm f L) {x y : α} (hx : x ∈ L) (r : Rl f x y) : y ∈ L := by
  obtain ⟨i, rfl⟩ := r
  exact h.it hx i
theorem Rl.symm [DecidableEq α] (h : Pm f L) {x y : α} (hx : x ∈ L) (r : Rl f x y) : Rl f y x := by
  obtain ⟨i, rfl⟩ := r
  obtain ⟨p, hp, _⟩ := h.per hx
  refine ⟨p * i - i, ?_⟩
  rw [← it_add]
  have : i ≤ p * i := Nat.le_mul_of_pos_left i hp.pos
  rw [show i + (p * i - i) = p * i by omega, hp.mul]
theorem IsPer.shift (h : Pm f L) {x : α} (hx : x ∈ L) {p : Nat} (hp : IsPer f x p) (k : Nat) : IsPer f (itN f k x) p := by
  refine ⟨hp.pos, by rw [← it_add, Nat.add_comm, it_add, hp.back], fun i h1 h2 e => hp.ne i h1 h2 ?_⟩
  rw [← it_add, Nat.add_comm, it_add] at e
  exact h.it_inj (h.it hx i) hx k e
theorem orb_len (x : α) (p : Nat) : (orbN f x p).length = p := by simp [orbN]
theorem orb_mem {x y : α} {p : Nat} (hp : IsPer f x p) : y ∈ orbN f x p ↔ Rl f x y := by
  unfold orbN
  rw [List.mem_map]
  constructor
  · rintro ⟨i, _, rfl⟩
    exact ⟨i, rfl⟩
  · rintro ⟨i, rfl⟩
    exact ⟨i % p, List.mem_range.2 (Nat.mod_lt _ hp.pos), (hp.mod i).symm⟩
theorem orbT_eq [DecidableEq α] {x : α} {p : Nat} (hp : IsPer f x p) : ∀ (k j : Nat), j < p → p - j ≤ k → orbT f x k (itN f j x) = (orbN f x p).drop j
  | 0, j, hj, hk => by omega
  | k + 1, j, hj, hk => by
    have e1 : (orbN f x p).drop j = itN f j x :: (orbN f x p).drop (j + 1) := by
      rw [List.drop_eq_getElem_cons (by simp [orbN]; omega)]
      simp [orbN]
    rw [orbT, e1, ← it_succ (f := f) j x]
    by_cases q : j + 1 = p
    · rw [q, if_pos hp.back, List.drop_eq_nil_of_le (by simp [orbN])]
    · rw [if_neg (hp.ne (j + 1) (by omega) (by omega)), orbT_eq hp k (j + 1) (by omega) (by omega)]
theorem orbT_all [DecidableEq α] {x : α} {p k : Nat} (hp : IsPer f x p) (hk : p ≤ k) : orbT f x k x = orbN f x p := orbT_eq hp k 0 hp.pos (by omega)
theorem Reps.le [DecidableEq α] (h : Pm f L) (h1 : Reps f L P) (h2 : Reps f L Q) : P.length ≤ Q.length :=
  inj_le (fun p q => Rl f q p) P Q h1.nd (fun p hp => h2.all p (h1.sub p hp)) (fun p hp p' hp' q hq r r' => h1.one p hp p' hp' ((r.symm h (h2.sub q hq)).trans r'))
theorem Reps.len [DecidableEq α] (h : Pm f L) (h1 : Reps f L P) (h2 : Reps f L Q) : P.length = Q.length := Nat.le_antisymm (h1.le h h2) (h2.le h h1)
/-- All orbits, of those that are still to come, T being told. -/
def orbsF [DecidableEq α] (f : α → α) (N : Nat) : List α → List α → List (List α)
  | [], _ => []
  | x :: r, T => if x ∈ T then orbsF f N r T else orbT f x N x :: orbsF f N r (T ++ orbT f x N x)
theorem orbs_heads [DecidableEq α] (h : Pm f L) {N : Nat} (hN : L.length ≤ N) : ∀ (l T : List α), (∀ x ∈ l, x ∈ L) → (∀ x ∈ T, x ∈ L) → (∀ x ∈ T, ∀ y, Rl f x y → y ∈ T) →
    ∃ P : List α, P.Sublist l ∧ orbsF f N l T = P.map (fun x => orbT f x N x) ∧ (∀ p ∈ P, p ∉ T) ∧ (∀ x ∈ l, x ∈ T ∨ ∃ p ∈ P, Rl f p x) ∧ (∀ p ∈ P, ∀ q ∈ P, Rl f p q → p = q) ∧ P.Nodup
  | [], T, _, _, _ => ⟨[], List.Sublist.refl _, rfl, by simp, by simp, by simp, List.nodup_nil⟩
  | x :: r, T, hl, hT, hc => by
    have hxL := hl x (List.mem_cons_self ..)
    have hr := fun y hy => hl y (List.mem_cons_of_mem _ hy)
    by_cases hx : x ∈ T
    · obtain ⟨P, h1, h2, h3, h4, h5, h6⟩ := orbs_heads h hN r T hr hT hc
      refine ⟨P, h1.cons _, by rw [orbsF, if_pos hx, h2], h3, fun y hy => ?_, h5, h6⟩
      rcases List.mem_cons.1 hy with rfl | hy
      · exact .inl hx
      · exact h4 y hy
    · obtain ⟨p, hp, hpl⟩ := h.per hxL
      have eo : orbT f x N x = orbN f x p := orbT_all hp (by omega)
      have hmem : ∀ y, y ∈ T ++ orbN f x p ↔ y ∈ T ∨ Rl f x y := fun y => by rw [List.mem_append, orb_mem hp]
      obtain ⟨P, h1, h2, h3, h4, h5, h6⟩ := orbs_heads h hN r (T ++ orbT f x N x) hr (fun y hy => by
        rw [eo, hmem] at hy
        exact hy.elim (hT y) (fun q => q.mem h hxL)) (fun y hy z hz => by
        rw [eo, hmem] at hy ⊢
        exact hy.elim (fun q => .inl (hc y q z hz)) (fun q => .inr (q.trans hz)))
      rw [eo] at h3 h4
      have hxP : ∀ q ∈ P, ¬ Rl f x q := fun q hq r => h3 q hq ((hmem q).2 (.inr r))
      refine ⟨x :: P, h1.cons_cons _, by rw [orbsF, if_neg hx, h2]; rfl, fun q hq => ?_, fun y hy => ?_, fun a ha b hb r => ?_, ?_⟩
      · rcases List.mem_cons.1 hq with rfl | hq
        · exact hx
        · exact fun m => h3 q hq ((hmem q).2 (.inl m))
      · rcases List.mem_cons.1 hy with rfl | hy
        · exact .inr ⟨y, List.mem_cons_self .., Rl.refl _⟩
        · rcases h4 y hy with q | ⟨p', hp', r⟩
          · rcases (hmem y).1 q with q | q
            · exact .inl q
            · exact .inr ⟨x, List.mem_cons_self .., q⟩
          · exact .inr ⟨p', List.mem_cons_of_mem _ hp', r⟩
      · rcases List.mem_cons.1 ha with ea | ha2
        · rcases List.mem_cons.1 hb with eb | hb2
          · rw [ea, eb]
          · exact (hxP b hb2 (ea ▸ r)).elim
        · rcases List.mem_cons.1 hb with eb | hb2
          · exact (hxP a ha2 (eb ▸ r.symm h (hr a (h1.subset ha2)))).elim
          · exact h5 a ha2 b hb2 r
      · exact List.nodup_cons.2 ⟨fun hq => hxP x hq (Rl.refl x), h6⟩
/-- All orbits of a list are those of one of each. -/
theorem orbs_reps [DecidableEq α] (h : Pm f L) {N : Nat} (hN : L.length ≤ N) (l : List α) (hl : ∀ x, x ∈ l ↔ x ∈ L) : ∃ P, Reps f L P ∧ orbsF f N l [] = P.map (fun x => orbT f x N x) := by
  obtain ⟨P, h1, h2, h3, h4, h5, h6⟩ := orbs_heads h hN l [] (fun x hx => (hl x).1 hx) (by simp) (by simp)
  refine ⟨P, ⟨h6, fun p hp => (hl p).1 (h1.subset hp), fun x hx => ?_, h5⟩, h2⟩
  rcases h4 x ((hl x).2 hx) with q | q
  · cases q
  · exact q
end
end Go.Proofs.Ytpindjknngcccaa

/- An edge more: one orbit becomes two, or two become one. -/
namespace Go.Proofs.Ytpindjknngcccaa
open Go.RowKit
set_option linter.unusedSimpArgs false
set_option linter.unusedVariables false
set_option linter.unusedSectionVars false
section
variable {α : Type} [DecidableEq α] {f f' : α → α} {L L' P : List α}
theorem it_same (h : Pm f L) {a b x : α} (fz : ∀ z ∈ L, z ≠ a → z ≠ b → f' z = f z) (hx : x ∈ L) (ha : ¬ Rl f x a) (hb : ¬ Rl f x b) : ∀ k, itN f' k x = itN f k x
  | 0 => rfl
  | k + 1 => by
    rw [it_succ, it_succ, it_same h fz hx ha hb k]
    exact fz _ (h.it hx k) (fun e => ha ⟨k, e⟩) (fun e => hb ⟨k, e⟩)
theorem rl_same (h : Pm f L) {a b x : α} (fz : ∀ z ∈ L, z ≠ a → z ≠ b → f' z = f z) (hx : x ∈ L) (ha : ¬ Rl f x a) (hb : ¬ Rl f x b) (y : α) : Rl f' x y ↔ Rl f x y := by
  constructor
  · rintro ⟨k, e⟩
    exact ⟨k, (it_same h fz hx ha hb k).symm.trans e⟩
  · rintro ⟨k, e⟩
    exact ⟨k, (it_same h fz hx ha hb k).trans e⟩
/-- What the new dart reaches. -/
theorem reach (h : Pm f L) {a b n x : α} (fz : ∀ z ∈ L, z ≠ a → z ≠ b → f' z = f z) (fn : f' n = f x) (hx : x ∈ L) : ∀ i, (∀ j, 0 < j → j < i → itN f j x ≠ a ∧ itN f j x ≠ b) → 0 < i → Rl f' n (itN f i x)
  | 0, _, h0 => absurd h0 (by omega)
  | 1, _, _ => ⟨1, fn⟩
  | i + 2, hj, _ => by
    have h1 := reach h fz fn hx (i + 1) (fun j h1 h2 => hj j h1 (by omega)) (by omega)
    have h2 := hj (i + 1) (by omega) (by omega)
    refine h1.trans ⟨1, ?_⟩
    show f' (itN f (i + 1) x) = itN f (i + 2) x
    rw [it_succ (i + 1) x, fz _ (h.it hx _) h2.1 h2.2]
theorem IsPer.up {x : α} {p : Nat} (hp : IsPer f x p) {y : α} (r : Rl f x y) : ∃ i, 0 < i ∧ i ≤ p ∧ itN f i x = y := by
  obtain ⟨i, rfl⟩ := r
  by_cases q : i % p = 0
  · exact ⟨p, hp.pos, Nat.le_refl _, by rw [hp.back, hp.mod i, q]; rfl⟩
  · exact ⟨i % p, by omega, Nat.le_of_lt (Nat.mod_lt _ hp.pos), (hp.mod i).symm⟩
theorem sides (h : Pm f L) (h' : Pm f' L') {a b n0 n1 : α} (ha : a ∈ L) (hb : b ∈ L) (hab : a ≠ b) (h0 : n0 ∉ L) (h1 : n1 ∉ L) (h01 : n0 ≠ n1) (hL : ∀ y, y ∈ L' ↔ y ∈ L ∨ y = n0 ∨ y = n1)
    (fa : f' a = n0) (f0 : f' n0 = f b) (fb : f' b = n1) (f1 : f' n1 = f a) (fz : ∀ z ∈ L, z ≠ a → z ≠ b → f' z = f z) (hP : Reps f L P) :
    ∃ P', Reps f' L' P' ∧ (Rl f a b → P'.length = P.length + 1) ∧ (¬ Rl f a b → P'.length + 1 = P.length) := by
  have m0 : n0 ∈ L' := (hL _).2 (.inr (.inl rfl))
  have m1 : n1 ∈ L' := (hL _).2 (.inr (.inr rfl))
  obtain ⟨p, hp, _⟩ := h.per hb
  obtain ⟨q, hq, _⟩ := h.per ha
  obtain ⟨rb, hrb, rrb⟩ := hP.all b hb
  obtain ⟨ra, hra, rra⟩ := hP.all a ha
  have fz' : ∀ z ∈ L, z ≠ b → z ≠ a → f' z = f z := fun z hz h1 h2 => fz z hz h2 h1
  -- what is no representative of a's or of b's orbit is in neither
  have hno : ∀ {x}, x ∈ P → x ≠ ra → ¬ Rl f x a := fun {x} hx hne r => hne (hP.one x hx ra hra (r.trans (rra.symm h (hP.sub ra hra))))
  have hno2 : ∀ {x}, x ∈ P → x ≠ rb → ¬ Rl f x b := fun {x} hx hne r => hne (hP.one x hx rb hrb (r.trans (rrb.symm h (hP.sub rb hrb))))
  have out0 : ∀ {x}, x ∈ L → ¬ Rl f x a → ¬ Rl f x b → ¬ Rl f' x n0 := fun {x} hx h1 h2 r => h0 (((rl_same h fz hx h1 h2 n0).1 r).mem h hx)
  have out1 : ∀ {x}, x ∈ L → ¬ Rl f x a → ¬ Rl f x b → ¬ Rl f' x n1 := fun {x} hx h1' h2 r => h1 (((rl_same h fz hx h1' h2 n1).1 r).mem h hx)
  by_cases hs : Rl f a b
  · -- one orbit becomes two
    have hsb := hs.symm h ha
    have erab : rb = ra := hP.one rb hrb ra hra (rrb.trans (hsb.trans (rra.symm h (hP.sub ra hra))))
    obtain ⟨k, ⟨k1, k2⟩, k3⟩ := least (p := fun i => 0 < i ∧ itN f i b = a) (by
      obtain ⟨i, i1, _, i2⟩ := hp.up hsb
      exact ⟨i, i1, i2⟩)
    have hkp : k < p := by
      obtain ⟨i, i1, i2, i3⟩ := hp.up hsb
      have : ¬ i < k := fun q => k3 i q ⟨i1, i3⟩
      have : i ≠ p := fun e => hab (by rw [← i3, e, hp.back])
      omega
    have hpa : IsPer f a p := k2 ▸ hp.shift h hb k
    -- from n0: as far as a
    have r0 : ∀ i, 0 < i → i ≤ k → Rl f' n0 (itN f i b) := fun i i1 i2 => reach h fz f0 hb i (fun j j1 j2 => ⟨fun e => k3 j (by omega) ⟨j1, e⟩, hp.ne j j1 (by omega)⟩) i1
    have eka : ∀ j, itN f j a = itN f (k + j) b := fun j => by rw [it_add, k2]
    have r1 : ∀ i, 0 < i → i ≤ p - k → Rl f' n1 (itN f i a) := fun i i1 i2 => reach h fz f1 ha i (fun j j1 j2 => ⟨hpa.ne j j1 (by omega), fun e => hp.ne (k + j) (by omega) (by omega) (by rw [← eka, e])⟩) i1
    -- n0's orbit is closed, without n1
    have cl : ∀ j, itN f' j n0 = n0 ∨ ∃ i, 0 < i ∧ i ≤ k ∧ itN f' j n0 = itN f i b := fun j => by
      induction j with
      | zero => exact .inl rfl
      | succ j ih =>
        rw [it_succ]
        rcases ih with e | ⟨i, i1, i2, e⟩
        · rw [e, f0]
          exact .inr ⟨1, by omega, by omega, rfl⟩
        · rw [e]
          by_cases q : i = k
          · rw [q, k2, fa]
            exact .inl rfl
          · refine .inr ⟨i + 1, by omega, by omega, ?_⟩
            rw [it_succ, fz _ (h.it hb i) (fun e => k3 i (by omega) ⟨i1, e⟩) (hp.ne i i1 (by omega))]
    have n01 : ¬ Rl f' n0 n1 := by
      rintro ⟨j, e⟩
      rcases cl j with q | ⟨i, i1, i2, q⟩
      · exact h01 (q.symm.trans e)
      · exact h1 (e ▸ q ▸ h.it hb i)
    have n10 : ¬ Rl f' n1 n0 := fun r => n01 (r.symm h' m1)
    have hme : ∀ x, x ∈ P.erase ra ↔ x ≠ ra ∧ x ∈ P := fun x => hP.nd.mem_erase_iff
    have hnn : ∀ {x}, x ∈ P → x ≠ ra → ¬ Rl f x a ∧ ¬ Rl f x b := fun {x} hx hne => ⟨hno hx hne, hno2 hx (erab ▸ hne)⟩
    have e0 : n0 ∉ P.erase ra := fun m => h0 (hP.sub _ ((hme _).1 m).2)
    have e1 : n1 ∉ P.erase ra := fun m => h1 (hP.sub _ ((hme _).1 m).2)
    refine ⟨n0 :: n1 :: P.erase ra, ⟨?_, ?_, ?_, ?_⟩, fun _ => ?_, fun q => (q hs).elim⟩
    · rw [List.nodup_cons, List.nodup_cons]
      exact ⟨fun m => (List.mem_cons.1 m).elim h01 e0, e1, hP.nd.erase _⟩
    · intro x hx
      rcases List.mem_cons.1 hx with rfl | hx
      · exact m0
      rcases List.mem_cons.1 hx with rfl | hx
      · exact m1
      · exact (hL _).2 (.inl (hP.sub _ ((hme _).1 hx).2))
    · intro x hx
      rcases (hL x).1 hx with hx | rfl | rfl
      · by_cases hxb : Rl f b x
        · obtain ⟨i, i1, i2, rfl⟩ := hp.up hxb
          by_cases q : i ≤ k
          · exact ⟨n0, List.mem_cons_self .., r0 i i1 q⟩
          · refine ⟨n1, List.mem_cons_of_mem _ (List.mem_cons_self ..), ?_⟩
            have := r1 (i - k) (by omega) (by omega)
            rwa [eka, show k + (i - k) = i by omega] at this
        · obtain ⟨y, hy, r⟩ := hP.all x hx
          have hne : y ≠ ra := fun e => hxb (by
            rw [e] at r
            exact (hsb.trans (rra.symm h (hP.sub ra hra))).trans r)
          refine ⟨y, List.mem_cons_of_mem _ (List.mem_cons_of_mem _ ((hme _).2 ⟨hne, hy⟩)), ?_⟩
          exact (rl_same h fz (hP.sub y hy) (hnn hy hne).1 (hnn hy hne).2 x).2 r
      · exact ⟨x, List.mem_cons_self .., Rl.refl _⟩
      · exact ⟨x, List.mem_cons_of_mem _ (List.mem_cons_self ..), Rl.refl _⟩
    · have old : ∀ x ∈ P.erase ra, ∀ y, (y = n0 ∨ y = n1) → ¬ Rl f' x y := fun x hx y hy => by
        obtain ⟨hne, hxP⟩ := (hme x).1 hx
        rcases hy with rfl | rfl
        · exact out0 (hP.sub x hxP) (hnn hxP hne).1 (hnn hxP hne).2
        · exact out1 (hP.sub x hxP) (hnn hxP hne).1 (hnn hxP hne).2
      have old2 : ∀ x ∈ P.erase ra, ∀ y, (y = n0 ∨ y = n1) → ¬ Rl f' y x := fun x hx y hy r =>
        old x hx y hy (r.symm h' (by rcases hy with rfl | rfl <;> assumption))
      intro x hx y hy r
      rcases List.mem_cons.1 hx with ex | hx
      · rcases List.mem_cons.1 hy with ey | hy
        · rw [ex, ey]
        rcases List.mem_cons.1 hy with ey | hy
        · exact (n01 (ex ▸ ey ▸ r)).elim
        · exact (old2 y hy x (.inl ex) r).elim
      rcases List.mem_cons.1 hx with ex | hx
      · rcases List.mem_cons.1 hy with ey | hy
        · exact (n10 (ex ▸ ey ▸ r)).elim
        rcases List.mem_cons.1 hy with ey | hy
        · rw [ex, ey]
        · exact (old2 y hy x (.inr ex) r).elim
      · rcases List.mem_cons.1 hy with ey | hy
        · exact (old x hx y (.inl ey) r).elim
        rcases List.mem_cons.1 hy with ey | hy
        · exact (old x hx y (.inr ey) r).elim
        · obtain ⟨hne, hxP⟩ := (hme x).1 hx
          exact hP.one x hxP y ((hme y).1 hy).2 ((rl_same h fz (hP.sub x hxP) (hnn hxP hne).1 (hnn hxP hne).2 y).1 r)
    · have hl := List.length_erase_of_mem hra
      have := List.length_pos_of_mem hra
      simp only [List.length_cons]
      omega
  · -- two orbits become one
    have hsb : ¬ Rl f b a := fun r => hs (r.symm h hb)
    have hne : rb ≠ ra := fun e => hsb ((rrb.symm h (hP.sub rb hrb)).trans (e ▸ rra))
    have r0 : ∀ i, 0 < i → i ≤ p → Rl f' n0 (itN f i b) := fun i i1 i2 => reach h fz f0 hb i (fun j j1 j2 => ⟨fun e => hsb ⟨j, e⟩, hp.ne j j1 (by omega)⟩) i1
    have r1 : ∀ i, 0 < i → i ≤ q → Rl f' n1 (itN f i a) := fun i i1 i2 => reach h fz f1 ha i (fun j j1 j2 => ⟨hq.ne j j1 (by omega), fun e => hs ⟨j, e⟩⟩) i1
    have r01 : Rl f' n0 n1 := by
      have := r0 p hp.pos (Nat.le_refl _)
      rw [hp.back] at this
      exact this.trans ⟨1, fb⟩
    have hmb : rb ∈ P.erase ra := hP.nd.mem_erase_iff.2 ⟨hne, hrb⟩
    have hme : ∀ x, x ∈ (P.erase ra).erase rb ↔ x ≠ rb ∧ x ≠ ra ∧ x ∈ P := fun x => by
      rw [(hP.nd.erase ra).mem_erase_iff, hP.nd.mem_erase_iff]
    have e0 : n0 ∉ (P.erase ra).erase rb := fun m => h0 (hP.sub _ ((hme _).1 m).2.2)
    refine ⟨n0 :: (P.erase ra).erase rb, ⟨?_, ?_, ?_, ?_⟩, fun q => (hs q).elim, fun _ => ?_⟩
    · rw [List.nodup_cons]
      exact ⟨e0, (hP.nd.erase _).erase _⟩
    · intro x hx
      rcases List.mem_cons.1 hx with rfl | hx
      · exact m0
      · exact (hL _).2 (.inl (hP.sub _ ((hme _).1 hx).2.2))
    · intro x hx
      rcases (hL x).1 hx with hx | rfl | rfl
      · by_cases hxb : Rl f b x
        · obtain ⟨i, i1, i2, rfl⟩ := hp.up hxb
          exact ⟨n0, List.mem_cons_self .., r0 i i1 i2⟩
        by_cases hxa : Rl f a x
        · obtain ⟨i, i1, i2, rfl⟩ := hq.up hxa
          exact ⟨n0, List.mem_cons_self .., r01.trans (r1 i i1 i2)⟩
        · obtain ⟨y, hy, r⟩ := hP.all x hx
          have ne1 : y ≠ ra := fun e => hxa ((rra.symm h (hP.sub ra hra)).trans (e ▸ r))
          have ne2 : y ≠ rb := fun e => hxb ((rrb.symm h (hP.sub rb hrb)).trans (e ▸ r))
          exact ⟨y, List.mem_cons_of_mem _ ((hme _).2 ⟨ne2, ne1, hy⟩), (rl_same h fz (hP.sub y hy) (hno hy ne1) (hno2 hy ne2) x).2 r⟩
      · exact ⟨x, List.mem_cons_self .., Rl.refl _⟩
      · exact ⟨n0, List.mem_cons_self .., r01⟩
    · have old : ∀ x ∈ (P.erase ra).erase rb, ¬ Rl f' x n0 := fun x hx => by
        obtain ⟨ne2, ne1, hxP⟩ := (hme x).1 hx
        exact out0 (hP.sub x hxP) (hno hxP ne1) (hno2 hxP ne2)
      intro x hx y hy r
      rcases List.mem_cons.1 hx with ex | hx
      · rcases List.mem_cons.1 hy with ey | hy
        · rw [ex, ey]
        · exact (old y hy ((ex ▸ r).symm h' m0)).elim
      · rcases List.mem_cons.1 hy with ey | hy
        · exact (old x hx (ey ▸ r)).elim
        · obtain ⟨ne2, ne1, hxP⟩ := (hme x).1 hx
          exact hP.one x hxP y ((hme y).1 hy).2.2 ((rl_same h fz (hP.sub x hxP) (hno hxP ne1) (hno2 hxP ne2) y).1 r)
    · have hl1 := List.length_erase_of_mem hra
      have hl2 := List.length_erase_of_mem hmb
      have := List.length_pos_of_mem hmb
      have := List.length_pos_of_mem hra
      simp only [List.length_cons]
      omega
end
end Go.Proofs.Ytpindjknngcccaa

/- Two places of a permutation are swapped: one orbit becomes two, or two become one. -/
namespace Go.Proofs.Ytpindjknngcccaa
open Go.RowKit
set_option linter.unusedSimpArgs false
set_option linter.unusedVariables false
set_option linter.unusedSectionVars false
section
variable {α : Type} [DecidableEq α] {f f' : α → α} {L P : List α}
theorem swap_orbs (h : Pm f L) (h' : Pm f' L) {a b : α} (ha : a ∈ L) (hb : b ∈ L) (hab : a ≠ b) (fa : f' a = f b) (fb : f' b = f a) (fz : ∀ z ∈ L, z ≠ a → z ≠ b → f' z = f z) (hP : Reps f L P) :
    ∃ P', Reps f' L P' ∧ (Rl f a b → P'.length = P.length + 1) ∧ (¬ Rl f a b → P'.length + 1 = P.length) := by
  obtain ⟨p, hp, _⟩ := h.per hb
  obtain ⟨q, hq, _⟩ := h.per ha
  obtain ⟨rb, hrb, rrb⟩ := hP.all b hb
  obtain ⟨ra, hra, rra⟩ := hP.all a ha
  have hno : ∀ {x}, x ∈ P → x ≠ ra → ¬ Rl f x a := fun {x} hx hne r => hne (hP.one x hx ra hra (r.trans (rra.symm h (hP.sub ra hra))))
  have hno2 : ∀ {x}, x ∈ P → x ≠ rb → ¬ Rl f x b := fun {x} hx hne r => hne (hP.one x hx rb hrb (r.trans (rrb.symm h (hP.sub rb hrb))))
  have out0 : ∀ {x}, x ∈ L → ¬ Rl f x a → ¬ Rl f x b → ¬ Rl f' x a := fun {x} hx h1 h2 r => h1 ((rl_same h fz hx h1 h2 a).1 r)
  have out1 : ∀ {x}, x ∈ L → ¬ Rl f x a → ¬ Rl f x b → ¬ Rl f' x b := fun {x} hx h1 h2 r => h2 ((rl_same h fz hx h1 h2 b).1 r)
  by_cases hs : Rl f a b
  · have hsb := hs.symm h ha
    have erab : rb = ra := hP.one rb hrb ra hra (rrb.trans (hsb.trans (rra.symm h (hP.sub ra hra))))
    obtain ⟨k, ⟨k1, k2⟩, k3⟩ := least (p := fun i => 0 < i ∧ itN f i b = a) (by
      obtain ⟨i, i1, _, i2⟩ := hp.up hsb
      exact ⟨i, i1, i2⟩)
    have hkp : k < p := by
      obtain ⟨i, i1, i2, i3⟩ := hp.up hsb
      have : ¬ i < k := fun q => k3 i q ⟨i1, i3⟩
      have : i ≠ p := fun e => hab (by rw [← i3, e, hp.back])
      omega
    have hpa : IsPer f a p := k2 ▸ hp.shift h hb k
    have r0 : ∀ i, 0 < i → i ≤ k → Rl f' a (itN f i b) := fun i i1 i2 => reach h fz fa hb i (fun j j1 j2 => ⟨fun e => k3 j (by omega) ⟨j1, e⟩, hp.ne j j1 (by omega)⟩) i1
    have eka : ∀ j, itN f j a = itN f (k + j) b := fun j => by rw [it_add, k2]
    have r1 : ∀ i, 0 < i → i ≤ p - k → Rl f' b (itN f i a) := fun i i1 i2 => reach h fz fb ha i (fun j j1 j2 => ⟨hpa.ne j j1 (by omega), fun e => hp.ne (k + j) (by omega) (by omega) (by rw [← eka, e])⟩) i1
    have cl : ∀ j, ∃ i, 0 < i ∧ i ≤ k ∧ itN f' j a = itN f i b := fun j => by
      induction j with
      | zero => exact ⟨k, k1, Nat.le_refl _, k2.symm⟩
      | succ j ih =>
        rw [it_succ]
        obtain ⟨i, i1, i2, e⟩ := ih
        rw [e]
        by_cases q : i = k
        · rw [q, k2, fa]
          exact ⟨1, by omega, by omega, rfl⟩
        · refine ⟨i + 1, by omega, by omega, ?_⟩
          rw [it_succ, fz _ (h.it hb i) (fun e => k3 i (by omega) ⟨i1, e⟩) (hp.ne i i1 (by omega))]
    have n01 : ¬ Rl f' a b := by
      rintro ⟨j, e⟩
      obtain ⟨i, i1, i2, q⟩ := cl j
      exact hp.ne i i1 (by omega) (q.symm.trans e)
    have n10 : ¬ Rl f' b a := fun r => n01 (r.symm h' hb)
    have hme : ∀ x, x ∈ P.erase ra ↔ x ≠ ra ∧ x ∈ P := fun x => hP.nd.mem_erase_iff
    have hnn : ∀ {x}, x ∈ P → x ≠ ra → ¬ Rl f x a ∧ ¬ Rl f x b := fun {x} hx hne => ⟨hno hx hne, hno2 hx (erab ▸ hne)⟩
    have e0 : a ∉ P.erase ra := fun m => (hnn ((hme _).1 m).2 ((hme _).1 m).1).1 (Rl.refl a)
    have e1 : b ∉ P.erase ra := fun m => (hnn ((hme _).1 m).2 ((hme _).1 m).1).2 (Rl.refl b)
    refine ⟨a :: b :: P.erase ra, ⟨?_, ?_, ?_, ?_⟩, fun _ => ?_, fun q => (q hs).elim⟩
    · rw [List.nodup_cons, List.nodup_cons]
      exact ⟨fun m => (List.mem_cons.1 m).elim hab e0, e1, hP.nd.erase _⟩
    · intro x hx
      rcases List.mem_cons.1 hx with rfl | hx
      · exact ha
      rcases List.mem_cons.1 hx with rfl | hx
      · exact hb
      · exact hP.sub _ ((hme _).1 hx).2
    · intro x hx
      by_cases hxb : Rl f b x
      · obtain ⟨i, i1, i2, rfl⟩ := hp.up hxb
        by_cases q : i ≤ k
        · exact ⟨a, List.mem_cons_self .., r0 i i1 q⟩
        · refine ⟨b, List.mem_cons_of_mem _ (List.mem_cons_self ..), ?_⟩
          have := r1 (i - k) (by omega) (by omega)
          rwa [eka, show k + (i - k) = i by omega] at this
      · obtain ⟨y, hy, r⟩ := hP.all x hx
        have hne : y ≠ ra := fun e => hxb (by
          rw [e] at r
          exact (hsb.trans (rra.symm h (hP.sub ra hra))).trans r)
        refine ⟨y, List.mem_cons_of_mem _ (List.mem_cons_of_mem _ ((hme _).2 ⟨hne, hy⟩)), ?_⟩
        exact (rl_same h fz (hP.sub y hy) (hnn hy hne).1 (hnn hy hne).2 x).2 r
    · have old : ∀ x ∈ P.erase ra, ∀ y, (y = a ∨ y = b) → ¬ Rl f' x y := fun x hx y hy => by
        obtain ⟨hne, hxP⟩ := (hme x).1 hx
        rcases hy with rfl | rfl
        · exact out0 (hP.sub x hxP) (hnn hxP hne).1 (hnn hxP hne).2
        · exact out1 (hP.sub x hxP) (hnn hxP hne).1 (hnn hxP hne).2
      have old2 : ∀ x ∈ P.erase ra, ∀ y, (y = a ∨ y = b) → ¬ Rl f' y x := fun x hx y hy r =>
        old x hx y hy (r.symm h' (by rcases hy with rfl | rfl <;> assumption))
      intro x hx y hy r
      rcases List.mem_cons.1 hx with ex | hx
      · rcases List.mem_cons.1 hy with ey | hy
        · rw [ex, ey]
        rcases List.mem_cons.1 hy with ey | hy
        · exact (n01 (ex ▸ ey ▸ r)).elim
        · exact (old2 y hy x (.inl ex) r).elim
      rcases List.mem_cons.1 hx with ex | hx
      · rcases List.mem_cons.1 hy with ey | hy
        · exact (n10 (ex ▸ ey ▸ r)).elim
        rcases List.mem_cons.1 hy with ey | hy
        · rw [ex, ey]
        · exact (old2 y hy x (.inr ex) r).elim
      · rcases List.mem_cons.1 hy with ey | hy
        · exact (old x hx y (.inl ey) r).elim
        rcases List.mem_cons.1 hy with ey | hy
        · exact (old x hx y (.inr ey) r).elim
        · obtain ⟨hne, hxP⟩ := (hme x).1 hx
          exact hP.one x hxP y ((hme y).1 hy).2 ((rl_same h fz (hP.sub x hxP) (hnn hxP hne).1 (hnn hxP hne).2 y).1 r)
    · have hl1 := List.length_erase_of_mem hra
      have := List.length_pos_of_mem hra
      simp only [List.length_cons]
      omega
  · have hsb : ¬ Rl f b a := fun r => hs (r.symm h hb)
    have hne : rb ≠ ra := fun e => hs ((rra.symm h (hP.sub ra hra)).trans (e ▸ rrb))
    have r0 : ∀ i, 0 < i → i ≤ p → Rl f' a (itN f i b) := fun i i1 i2 => reach h fz fa hb i (fun j j1 j2 => ⟨fun e => hsb ⟨j, e⟩, hp.ne j j1 (by omega)⟩) i1
    have r1 : ∀ i, 0 < i → i ≤ q → Rl f' b (itN f i a) := fun i i1 i2 => reach h fz fb ha i (fun j j1 j2 => ⟨hq.ne j j1 (by omega), fun e => hs ⟨j, e⟩⟩) i1
    have r01 : Rl f' a b := by
      have := r0 p hp.pos (Nat.le_refl _)
      rwa [hp.back] at this
    have hmb : rb ∈ P.erase ra := hP.nd.mem_erase_iff.2 ⟨hne, hrb⟩
    have hme : ∀ x, x ∈ (P.erase ra).erase rb ↔ x ≠ rb ∧ x ≠ ra ∧ x ∈ P := fun x => by
      rw [(hP.nd.erase ra).mem_erase_iff, hP.nd.mem_erase_iff]
    have e0 : a ∉ (P.erase ra).erase rb := fun m => hno ((hme _).1 m).2.2 ((hme _).1 m).2.1 (Rl.refl a)
    refine ⟨a :: (P.erase ra).erase rb, ⟨?_, ?_, ?_, ?_⟩, fun q => (hs q).elim, fun _ => ?_⟩
    · rw [List.nodup_cons]
      exact ⟨e0, (hP.nd.erase _).erase _⟩
    · intro x hx
      rcases List.mem_cons.1 hx with rfl | hx
      · exact ha
      · exact hP.sub _ ((hme _).1 hx).2.2
    · intro x hx
      by_cases hxb : Rl f b x
      · obtain ⟨i, i1, i2, rfl⟩ := hp.up hxb
        exact ⟨a, List.mem_cons_self .., r0 i i1 i2⟩
      by_cases hxa : Rl f a x
      · obtain ⟨i, i1, i2, rfl⟩ := hq.up hxa
        exact ⟨a, List.mem_cons_self .., r01.trans (r1 i i1 i2)⟩
      · obtain ⟨y, hy, r⟩ := hP.all x hx
        have ne1 : y ≠ ra := fun e => hxa ((rra.symm h (hP.sub ra hra)).trans (e ▸ r))
        have ne2 : y ≠ rb := fun e => hxb ((rrb.symm h (hP.sub rb hrb)).trans (e ▸ r))
        exact ⟨y, List.mem_cons_of_mem _ ((hme _).2 ⟨ne2, ne1, hy⟩), (rl_same h fz (hP.sub y hy) (hno hy ne1) (hno2 hy ne2) x).2 r⟩
    · have old : ∀ x ∈ (P.erase ra).erase rb, ¬ Rl f' x a := fun x hx => by
        obtain ⟨ne2, ne1, hxP⟩ := (hme x).1 hx
        exact out0 (hP.sub x hxP) (hno hxP ne1) (hno2 hxP ne2)
      intro x hx y hy r
      rcases List.mem_cons.1 hx with ex | hx
      · rcases List.mem_cons.1 hy with ey | hy
        · rw [ex, ey]
        · exact (old y hy ((ex ▸ r).symm h' ha)).elim
      · rcases List.mem_cons.1 hy with ey | hy
        · exact (old x hx (ey ▸ r)).elim
        · obtain ⟨ne2, ne1, hxP⟩ := (hme x).1 hx
          exact hP.one x hxP y ((hme y).1 hy).2.2 ((rl_same h fz (hP.sub x hxP) (hno hxP ne1) (hno2 hxP ne2) y).1 r)
    · have hl1 := List.length_erase_of_mem hra
      have hl2 := List.length_erase_of_mem hmb
      have := List.length_pos_of_mem hmb
      have := List.length_pos_of_mem hra
      simp only [List.length_cons]
      omega
end
end Go.Proofs.Ytpindjknngcccaa
