/- Words for tally's laws: a tally beside the document's; the document's example. -/
import Derived.Test.YtgbkloilodgjfaaTaI
import Derived.Test.YtgbkloilodgjfaaReg
namespace Go.Proofs.Ytgbkloilodgjfaa
open Go.RowKit

/-- A block of numbers that is the same, or one from base on. -/
def NxB (base : Nat) (go go' : Option Nat) : Prop := go' = go ∨ ∃ g, go' = some g ∧ base ≤ g
theorem NxB.refl (base : Nat) (go : Option Nat) : NxB base go go := .inl rfl
theorem NxB.trans {base : Nat} {a b c : Option Nat} (h : NxB base a b) (k : NxB base b c) : NxB base a c := by
  rcases k with rfl | k
  · exact h
  · exact .inr k
theorem Stp.nx {w w' : World} {b base : Nat} {go g' : Option Nat} (h : Stp w w' b go g') (hb : base ≤ w.heap.size) : NxB base go g' := by
  rcases h.n with rfl | ⟨_, g, rfl, hg⟩
  · exact .inl rfl
  · exact .inr ⟨g, rfl, Nat.le_trans hb hg⟩
theorem NxB.ge {base B : Nat} {go g' : Option Nat} (h : NxB base go g') (hg : ∀ g, go = some g → B ≤ g) (hB : B ≤ base) : ∀ g, g' = some g → B ≤ g := fun g e => by
  rcases h with rfl | ⟨x, rfl, hx⟩
  · exact hg g e
  · obtain rfl := Option.some.inj e
    omega

theorem Stp.below_of {w0 w w' : World} {B b : Nat} {go g' : Option Nat} (h0 : Below B w0 w) (h : Stp w w' b go g') (hb : B ≤ b) (hg : ∀ g, go = some g → B ≤ g) (hB : B ≤ w.heap.size) : Below B w0 w' :=
  h0.trans (h.k.below hB (fun i hi ho => by
    rcases ho with rfl | e
    · omega
    · have := hg i e.symm
      omega))

/-- A tally beside the document's, both of the law's own. -/
structure Pl (w : World) (b : Nat) (go : Option Nat) (y r : Nat) (L M : List Int) (x : World) : Prop where
  t : Tl x b go L
  f : Rf x y r M
  below : Below w.heap.size w x
  b0 : w.heap.size ≤ b
  g0 : ∀ g, go = some g → w.heap.size ≤ g
  y0 : w.heap.size ≤ y
  r0 : w.heap.size ≤ r

/-- What may turn within a region that began at a heap of size base. -/
def PlS (base b : Nat) (go : Option Nat) (r : Nat) (i : Nat) : Prop := Own b go i ∨ i = r ∨ base ≤ i

section
variable {w x x' : World} {b y r base : Nat} {go g' : Option Nat} {L M L' M' : List Int}
theorem Pl.up (h : Pl w b go y r L M x) (hx : Below x.heap.size x x') : Pl w b go y r L M x' :=
  ⟨h.t.below hx, h.f.below hx, h.below.trans (hx.mono h.below.size), h.b0, h.g0, h.y0, h.r0⟩
theorem Pl.one (h : Pl w b go y r L M x) (ht : Tl x' b g' L') (hs : Stp x x' b go g') : Pl w b g' y r L' M x' :=
  ⟨ht, h.f.keep hs.k (h.t.own h.f.hd (by decide) (by decide)) (h.t.own h.f.row (by decide) (by decide)), hs.below_of h.below h.b0 h.g0 h.below.size, h.b0, (hs.nx h.below.size).ge h.g0 (Nat.le_refl _), h.y0, h.r0⟩
theorem Pl.two (h : Pl w b go y r L M x) (hf : Rf x' y r M') (hk : Kept (· = r) x x') : Pl w b go y r L M' x' := by
  refine ⟨?_, hf, h.below.trans (hk.below h.below.size (fun i hi e => by have := h.r0; omega)), h.b0, h.g0, h.y0, h.r0⟩
  obtain ⟨a1, a2, a3⟩ := h.t
  refine ⟨a1, a2, ?_⟩
  cases go with
  | none => exact ⟨hk.whole a3.1 (a3.1.ne_ h.f.row (by decide)), a3.2⟩
  | some g => exact ⟨hk.whole a3.1 (a3.1.ne_ h.f.row (by decide)), hk.whole a3.2 (a3.2.ne_ h.f.row (by decide))⟩
theorem Own.sub {g1 : Option Nat} (hn : NxB base go g1) {i : Nat} (h : Own b g1 i) : PlS base b go r i := by
  rcases h with h | e
  · exact .inl (.inl h)
  · rcases hn with rfl | ⟨g, rfl, hg⟩
    · exact .inl (.inr e)
    · obtain rfl := Option.some.inj e
      exact .inr (.inr hg)
theorem Pl.far (h : Pl w b go y r L M x) {i : Nat} (hi : i < w.heap.size) (hb : w.heap.size ≤ base) : ¬ PlS base b go r i := by
  rintro ((rfl | e) | rfl | e)
  · have := h.b0
    omega
  · have := h.g0 i e.symm
    omega
  · have := h.r0
    omega
  · omega
end

theorem kn2 : List.replicate (kn 2) (0 : Int) = [0, 0] := by decide

set_option maxHeartbeats 400000 in
theorem ta_shown (w : World) : Calls Try.prog 12 #[] w fun e w' => e = .returned (.bool true) ∧ Below w.heap.size w w' := by
  have HN := Lib.hid (ta_new 2)
  have e1 : addE [0, 0] 1 3 = 0 := by decide
  have e2 : addL [0, 0] 1 3 = [0, 3] := by decide
  have e3 : addE [0, 3] 2 1 = 1 := by decide
  have e4 : addL [0, 3] 2 1 = [0, 3] := by decide
  have e5 : getL [0, 3] 1 = 3 := by decide
  have e6 : [0, 3].sum = (3 : Int) := by decide
  have A1 : ∀ b w, Tl w b none [0, 0] → Calls Try.prog 16 #[.pointer (some ⟨b, 0, none⟩), .int .i64 1, .int .i64 3] w fun e w' => e = .returned (.int .i64 0) ∧ ∃ g, Tl w' b g [0, 3] ∧ Stp w w' b none g := fun b w h => by
    have := ta_add b none [0, 0] 1 3 w h
    unfold TaAdd at this
    rwa [e1, e2] at this
  have A2 : ∀ b g w, Tl w b g [0, 3] → Calls Try.prog 16 #[.pointer (some ⟨b, 0, none⟩), .int .i64 2, .int .i64 1] w fun e w' => e = .returned (.int .i64 1) ∧ ∃ g', Tl w' b g' [0, 3] ∧ Stp w w' b g g' := fun b g w h => by
    have := ta_add b g [0, 3] 2 1 w h
    unfold TaAdd at this
    rwa [e3, e4] at this
  have A3 : ∀ b g w, Tl w b g [0, 3] → Calls Try.prog 22 #[.pointer (some ⟨b, 0, none⟩)] w fun e w' => e = .returned (.int .i64 3) ∧ ∃ g', Tl w' b g' [0, 3] ∧ Stp w w' b g g' := fun b g w h => by
    have := ta_sum b g [0, 3] w h
    unfold TaSum at this
    rwa [e6] at this
  have A4 : ∀ b g w, Tl w b g [0, 3] → Calls Try.prog 18 #[.pointer (some ⟨b, 0, none⟩), .int .i64 1] w fun e w' => e = .returned (.int .i64 3) ∧ ∃ g', Tl w' b g' [0, 3] ∧ Stp w w' b g g' := fun b g w h => by
    have := ta_get b g [0, 3] 1 w h
    unfold TaGet at this
    rwa [e5] at this
  have H1 := Lib.hid A1
  have H2 := Lib.hid A2
  have H3 := Lib.hid A3
  have H4 := Lib.hid A4
  clear A1 A2 A3 A4 e1 e2 e3 e4 e5 e6
  have tok1 : True := trivial
  go_enter Try.func12, Try.ntmps12
  go_wp2_with (first
    | (go_at_call 13; refine (HN.out _).mono ?_; rintro e w1 ⟨b, rfl, hb, ht, hbel⟩; rw [kn2] at ht; have T1 := Lib.hid ht; clear ht)
    | (go_at_call 16; have _t := tok1; refine (H1.out _ _ (by exact T1.out)).mono ?_; rintro e w2 ⟨rfl, g2, ht, hs2⟩; have T2 := Lib.hid ht; clear ht tok1)
    | (go_at_call 16; refine (H2.out _ _ _ (by exact T2.out)).mono ?_; rintro e w3 ⟨rfl, g3, ht, hs3⟩; have T3 := Lib.hid ht; clear ht)
    | (go_at_call 22; refine (H3.out _ _ _ (by exact T3.out)).mono ?_; rintro e w4 ⟨rfl, g4, ht, hs4⟩; have T4 := Lib.hid ht; clear ht)
    | (go_at_call 18; refine (H4.out _ _ _ (by exact T4.out)).mono ?_; rintro e w5 ⟨rfl, g5, ht, hs5⟩; have T5 := Lib.hid ht; clear ht))
  go_ret
  refine ⟨rfl, ?_⟩
  have n1 : ∀ g, none = some g → w.heap.size ≤ g := fun g e => by cases e
  have n2 := (hs2.nx hbel.size).ge n1 (Nat.le_refl _)
  have b2 := hs2.below_of hbel hb n1 hbel.size
  have n3 := (hs3.nx b2.size).ge n2 (Nat.le_refl _)
  have b3 := hs3.below_of b2 hb n2 b2.size
  have n4 := (hs4.nx b3.size).ge n3 (Nat.le_refl _)
  have b4 := hs4.below_of b3 hb n3 b3.size
  exact hs5.below_of b4 hb n4 b4.size

/-- The cells of a list of pairs. -/
def pairsV : List (Int × Int) → List Value
  | [] => []
  | p :: l => .int .i64 p.1 :: .int .i64 p.2 :: pairsV l
theorem pairsV_length (l : List (Int × Int)) : (pairsV l).length = l.length * 2 := by
  induction l with
  | nil => rfl
  | cons p l ih => simp [pairsV, ih]; omega
theorem pairsV_get (l : List (Int × Int)) (k : Nat) (h : k < l.length) : (pairsV l)[k * 2]? = some (.int .i64 (l.getD k (0, 0)).1) ∧ (pairsV l)[k * 2 + 1]? = some (.int .i64 (l.getD k (0, 0)).2) := by
  induction l generalizing k with
  | nil => simp at h
  | cons p l ih =>
    cases k with
    | zero => simp [pairsV]
    | succ k =>
      have := ih k (by simpa using h)
      have e1 : (k + 1) * 2 = k * 2 + 1 + 1 := by omega
      rw [e1]
      simpa [pairsV] using this

theorem pairs_of_ints : ∀ (n : Nat) (ns : List Int), ns.length = n * 2 → ∃ l : List (Int × Int), ns.map (Value.int .i64) = pairsV l
  | 0, ns, h => ⟨[], by rw [List.eq_nil_of_length_eq_zero (l := ns) (by omega)]; rfl⟩
  | n + 1, [], h => by simp at h
  | n + 1, [a], h => by simp at h; omega
  | n + 1, a :: b :: ns, h => by
    obtain ⟨l, hl⟩ := pairs_of_ints n ns (by simp at h; omega)
    exact ⟨(a, b) :: l, by simp [pairsV, hl]⟩

theorem RdS.pairs {w : World} {B n c : Nat} {A : Option Addr} {l : List (Int × Int)} (h : RdS w B 2 A n c (pairsV l)) (hn : 0 < n) :
    ∃ b off, A = some ⟨b, off, none⟩ ∧ b < B ∧ ∀ k, k < l.length → w.cell? ⟨b, off + k * 2, none⟩ = some (.int .i64 (l.getD k (0, 0)).1) ∧ w.cell? ⟨b, off + k * 2 + 1, none⟩ = some (.int .i64 (l.getD k (0, 0)).2) := by
  have hl : l.length = n := by
    have := h.len
    rw [pairsV_length] at this
    omega
  cases A with
  | none => exact absurd (h.none_ rfl).1 (by omega)
  | some a =>
    have h0 := h.cell a rfl 0 _ (pairsV_get l 0 (by omega)).1
    have ha : ∃ b off, a = ⟨b, off, none⟩ := by
      obtain ⟨b, off, f⟩ := a
      cases f with
      | none => exact ⟨b, off, rfl⟩
      | some f =>
        simp [Addr.add, World.cell?] at h0
        split at h0 <;> cases h0
    obtain ⟨b, off, rfl⟩ := ha
    refine ⟨b, off, rfl, h.low _ rfl hn, fun k hk => ?_⟩
    have e1 := h.cell _ rfl _ _ (pairsV_get l k hk).1
    have e2 := h.cell _ rfl _ _ (pairsV_get l k hk).2
    rw [Addr.add_lit] at e1 e2
    exact ⟨e1, e2⟩
end Go.Proofs.Ytgbkloilodgjfaa
