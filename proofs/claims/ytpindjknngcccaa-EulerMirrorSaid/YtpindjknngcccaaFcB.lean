/- The other way round: as many orbits of each length. -/
import Derived.Test.YtpindjknngcccaaGN
namespace Go.Proofs.Ytpindjknngcccaa
open Go.RowKit
set_option linter.unusedSimpArgs false
set_option linter.unusedVariables false
set_option linter.unusedSectionVars false
section
variable {α : Type} [DecidableEq α] {f f' u : α → α} {L P Q : List α}
theorem turn_it (hu : ∀ x ∈ L, f' (u (f x)) = u x) (h : Pm f L) {x : α} (hx : x ∈ L) : ∀ i, itN f' i (u (itN f i x)) = u x
  | 0 => rfl
  | i + 1 => by
    show itN f' i (f' (u (itN f (i + 1) x))) = _
    rw [it_succ, hu _ (h.it hx i)]
    exact turn_it hu h hx i
theorem turn_per (hu : ∀ x ∈ L, f' (u (f x)) = u x) (h : Pm f L) (h' : Pm f' L) (hl : ∀ x ∈ L, u x ∈ L) (hi : ∀ x ∈ L, ∀ y ∈ L, u x = u y → x = y) {x : α} (hx : x ∈ L) {p : Nat} (hp : IsPer f x p) : IsPer f' (u x) p := by
  refine ⟨hp.pos, ?_, fun i i1 i2 e => ?_⟩
  · have := turn_it hu h hx p
    rwa [hp.back] at this
  · have := turn_it hu h hx i
    exact hp.ne i i1 i2 (hi _ (h.it hx i) _ hx (h'.it_inj (hl _ (h.it hx i)) (hl _ hx) i (this.trans e.symm)))
theorem turn_rl (hu : ∀ x ∈ L, f' (u (f x)) = u x) (h : Pm f L) (h' : Pm f' L) (hl : ∀ x ∈ L, u x ∈ L) {x y : α} (hx : x ∈ L) (r : Rl f x y) : Rl f' (u x) (u y) := by
  obtain ⟨i, rfl⟩ := r
  exact Rl.symm h' (hl _ (h.it hx i)) ⟨i, turn_it hu h hx i⟩
theorem turn_lr (hu : ∀ x ∈ L, f' (u (f x)) = u x) (h : Pm f L) (h' : Pm f' L) (hl : ∀ x ∈ L, u x ∈ L) (hi : ∀ x ∈ L, ∀ y ∈ L, u x = u y → x = y) {x y : α} (hx : x ∈ L) (hy : y ∈ L) (r : Rl f' (u x) (u y)) : Rl f x y := by
  obtain ⟨j, e⟩ := r.symm h' (hl _ hx)
  refine Rl.symm h hy ?_
  obtain ⟨p, hp, _⟩ := h.per hy
  have hq := turn_per hu h h' hl hi hy hp
  -- u x = f'^j (u y); y = f^(p - j mod p) ...
  have hm : j % p < p := Nat.mod_lt _ hp.pos
  rw [hq.mod j] at e
  refine ⟨p - j % p, ?_⟩
  have h1 := turn_it hu h hy (p - j % p)
  have h2 : itN f' (p - j % p) (u x) = u y := by rw [← e, ← it_add, show j % p + (p - j % p) = p by omega, hq.back]
  exact hi _ (h.it hy _) _ hx (h'.it_inj (hl _ (h.it hy _)) (hl _ hx) _ (h1.trans h2.symm))
theorem Reps.turn (hu : ∀ x ∈ L, f' (u (f x)) = u x) (h : Pm f L) (h' : Pm f' L) (hl : ∀ x ∈ L, u x ∈ L) (hi : ∀ x ∈ L, ∀ y ∈ L, u x = u y → x = y) (hs : ∀ x ∈ L, ∃ y ∈ L, u y = x) (hP : Reps f L P) : Reps f' L (P.map u) := by
  refine ⟨?_, fun p hp => ?_, fun x hx => ?_, fun p hp q hq r => ?_⟩
  · rw [List.Nodup, List.pairwise_map]
    refine List.Pairwise.imp_of_mem ?_ hP.nd
    intro a b ha hb hne e
    exact hne (hi a (hP.sub a ha) b (hP.sub b hb) e)
  · obtain ⟨y, hy, rfl⟩ := List.mem_map.1 hp
    exact hl y (hP.sub y hy)
  · obtain ⟨y, hy, rfl⟩ := hs x hx
    obtain ⟨p, hp, r⟩ := hP.all y hy
    exact ⟨u p, List.mem_map.2 ⟨p, hp, rfl⟩, turn_rl hu h h' hl (hP.sub p hp) r⟩
  · obtain ⟨a, ha, rfl⟩ := List.mem_map.1 hp
    obtain ⟨b, hb, rfl⟩ := List.mem_map.1 hq
    rw [hP.one a ha b hb (turn_lr hu h h' hl hi (hP.sub a ha) (hP.sub b hb) r)]
/-- How many orbits there are of a length. -/
def cntO (f : α → α) (N : Nat) (P : List α) (s : Nat) : Nat := (P.filter fun x => decide ((orbT f x N x).length = s)).length
theorem Reps.cle (h : Pm f L) {N : Nat} (hN : L.length ≤ N) (h1 : Reps f L P) (h2 : Reps f L Q) (s : Nat) : cntO f N P s ≤ cntO f N Q s := by
  refine inj_le (fun p q => Rl f q p) _ _ (h1.nd.filter _) (fun p hp => ?_) (fun p hp p' hp' q hq r r' => ?_)
  · obtain ⟨hp1, hp2⟩ := List.mem_filter.1 hp
    obtain ⟨q, hq, r⟩ := h2.all p (h1.sub p hp1)
    refine ⟨q, List.mem_filter.2 ⟨hq, ?_⟩, r⟩
    obtain ⟨k, hk, hkl⟩ := h.per (h2.sub q hq)
    have hk2 : IsPer f p k := by
      obtain ⟨i, rfl⟩ := r
      exact hk.shift h (h2.sub q hq) i
    rw [orbT_all hk2 (by omega), orb_len] at hp2
    rw [orbT_all hk (by omega), orb_len]
    exact hp2
  · exact h1.one p (List.mem_filter.1 hp).1 p' (List.mem_filter.1 hp').1 ((r.symm h (h2.sub q (List.mem_filter.1 hq).1)).trans r')
theorem Reps.cnt (h : Pm f L) {N : Nat} (hN : L.length ≤ N) (h1 : Reps f L P) (h2 : Reps f L Q) (s : Nat) : cntO f N P s = cntO f N Q s := Nat.le_antisymm (h1.cle h hN h2 s) (h2.cle h hN h1 s)
theorem turn_cnt (hu : ∀ x ∈ L, f' (u (f x)) = u x) (h : Pm f L) (h' : Pm f' L) (hl : ∀ x ∈ L, u x ∈ L) (hi : ∀ x ∈ L, ∀ y ∈ L, u x = u y → x = y) (hs : ∀ x ∈ L, ∃ y ∈ L, u y = x) {N : Nat} (hN : L.length ≤ N) (hP : Reps f L P) (hQ : Reps f' L Q) :
    (∀ s, cntO f N P s = cntO f' N Q s) ∧ P.length = Q.length := by
  have ht := hP.turn hu h h' hl hi hs
  refine ⟨fun s => ?_, ?_⟩
  · rw [← ht.cnt h' hN hQ s]
    unfold cntO
    rw [List.filter_map, List.length_map]
    refine congrArg List.length (List.filter_congr fun x hx => ?_)
    have hx := hP.sub x hx
    obtain ⟨k, hk, hkl⟩ := h.per hx
    have hk2 := turn_per hu h h' hl hi hx hk
    show decide ((orbT f x N x).length = s) = decide ((orbT f' (u x) N (u x)).length = s)
    rw [orbT_all hk (by omega), orbT_all hk2 (by omega), orb_len, orb_len]
  · have := ht.len h' hQ
    rwa [List.length_map] at this
end
end Go.Proofs.Ytpindjknngcccaa
