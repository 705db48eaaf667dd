/- Two tallies side by side; sums; what small numbers come to. -/
import Derived.Test.YtgbkloilodgjfaaTaL
namespace Go.Proofs.Ytgbkloilodgjfaa
open Go.RowKit

theorem sum_set (L : List Int) (k : Nat) (x : Int) (hk : k < L.length) : (L.set k x).sum = L.sum - L.getD k 0 + x := by
  induction L generalizing k with
  | nil => simp at hk
  | cons y L ih =>
    cases k with
    | zero => simp; omega
    | succ k =>
      have := ih k (by simpa using hk)
      simp only [List.set_cons_succ, List.sum_cons, this, List.getD_cons_succ]
      omega
theorem addE_in {L : List Int} {k n : Int} (h : addE L k n = 0) : 0 ≤ k ∧ k < L.length ∧ 0 ≤ n ∧ L.getD k.toNat 0 + n ≤ 1099511627776 := by
  by_cases hk : 0 ≤ k ∧ k < L.length
  · by_cases hn : n < 0
    · rw [addE_neg hn] at h
      cases h
    · by_cases hb : 1099511627776 - L.getD k.toNat 0 < n
      · rw [addE_big hk hn hb] at h
        cases h
      · exact ⟨hk.1, hk.2, by omega, by omega⟩
  · rw [addE_no hk] at h
    cases h
theorem add_sum (L : List Int) (k n : Int) : (addL L k n).sum = L.sum + if addE L k n = 0 then n else 0 := by
  by_cases h : addE L k n = 0
  · rw [addL_ok h, if_pos h]
    obtain ⟨h1, h2, _, _⟩ := addE_in h
    rw [sum_set L _ _ (by omega)]
    omega
  · rw [addL_not h, if_neg h]
    omega
theorem add_sum_le (L : List Int) (k n : Int) : L.sum ≤ (addL L k n).sum := by
  rw [add_sum]
  split
  · rename_i h
    have := addE_in h
    omega
  · omega

/-- Two tallies, of the law's own, that share nothing. -/
structure Tw (w : World) (a : Nat) (ga : Option Nat) (b : Nat) (gb : Option Nat) (L M : List Int) (x : World) : Prop where
  ta : Tl x a ga L
  tb : Tl x b gb M
  ne : a ≠ b
  sep : ga = none ∨ ga ≠ gb
  below : Below w.heap.size w x
  a0 : w.heap.size ≤ a
  b0 : w.heap.size ≤ b
  ga0 : ∀ g, ga = some g → w.heap.size ≤ g
  gb0 : ∀ g, gb = some g → w.heap.size ≤ g
def TwS (base a : Nat) (ga : Option Nat) (b : Nat) (gb : Option Nat) (i : Nat) : Prop := Own a ga i ∨ Own b gb i ∨ base ≤ i

section
variable {w x x' : World} {a b base : Nat} {ga gb g' : Option Nat} {L M L' M' : List Int}
theorem Tw.symm (h : Tw w a ga b gb L M x) : Tw w b gb a ga M L x :=
  ⟨h.tb, h.ta, h.ne.symm, by
    rcases h.sep with e | e
    · subst e
      cases gb with
      | none => exact .inl rfl
      | some g => exact .inr (by simp)
    · exact .inr e.symm, h.below, h.b0, h.a0, h.gb0, h.ga0⟩
theorem Tw.up (h : Tw w a ga b gb L M x) (hx : Below x.heap.size x x') : Tw w a ga b gb L M x' :=
  ⟨h.ta.below hx, h.tb.below hx, h.ne, h.sep, h.below.trans (hx.mono h.below.size), h.a0, h.b0, h.ga0, h.gb0⟩
theorem Tw.one (h : Tw w a ga b gb L M x) (ht : Tl x' a g' L') (hs : Stp x x' a ga g') : Tw w a g' b gb L' M x' := by
  refine ⟨ht, h.tb.far h.ta hs.k h.ne.symm h.symm.sep, h.ne, ?_, hs.below_of h.below h.a0 h.ga0 h.below.size, h.a0, h.b0, (hs.nx h.below.size).ge h.ga0 (Nat.le_refl _), h.gb0⟩
  rcases hs.n with rfl | ⟨_, g, rfl, hg⟩
  · exact h.sep
  · refine .inr fun e => ?_
    have := h.tb.lt.2 g e.symm
    omega
theorem Tw.two (h : Tw w a ga b gb L M x) (ht : Tl x' b g' M') (hs : Stp x x' b gb g') : Tw w a ga b g' L M' x' := (h.symm.one ht hs).symm
theorem Tw.far (h : Tw w a ga b gb L M x) {i : Nat} (hi : i < w.heap.size) (hb : w.heap.size ≤ base) : ¬ TwS base a ga b gb i := by
  rintro ((rfl | e) | (rfl | e) | e)
  · have := h.a0
    omega
  · have := h.ga0 i e.symm
    omega
  · have := h.b0
    omega
  · have := h.gb0 i e.symm
    omega
  · omega
theorem Own.tw1 {i : Nat} (h : Own a ga i) : TwS base a ga b gb i := .inl h
theorem Own.tw2 {i : Nat} (h : Own b gb i) : TwS base a ga b gb i := .inr (.inl h)
end

theorem ints_refl (h1 h2 : Nat) (L : List Int) (hn : L.length ≤ 64) (w : World) (r1 : Whole w h1 3 (ints L)) (r2 : Whole w h2 3 (ints L)) :
    Calls Try.prog 20 #[.slice (some ⟨h1, 0, none⟩) L.length L.length, .slice (some ⟨h2, 0, none⟩) L.length L.length] w fun e w' => e = .returned (.bool true) ∧ Below w.heap.size w w' := by
  have h := ints_same (some ⟨h1, 0, none⟩) (some ⟨h2, 0, none⟩) L.length L.length L.length L.length L L w (RdS.whole r1) (RdS.whole r2) (by omega)
  rwa [show decide (L = L) = true from decide_eq_true rfl] at h

/-- What the small numbers of kind j come to. -/
def cntK (j : Nat) (M : List (Int × Int)) : Int := (M.map fun (p : Int × Int) => if p.1 = (j : Int) ∧ 0 ≤ p.2.tmod 1000 then p.2.tmod 1000 else 0).sum
def tl9 (M : List (Int × Int)) : List Int := (List.range 9).map fun j => cntK j M

theorem tmod_bd (x : Int) : -999 ≤ x.tmod 1000 ∧ x.tmod 1000 ≤ 999 := by
  rcases Int.le_total 0 x with h | h
  · have := Int.tmod_nonneg 1000 h
    have := Int.tmod_lt_of_pos x (b := 1000) (by omega)
    omega
  · have h1 : x.tmod 1000 = -((-x).tmod 1000) := by rw [Int.neg_tmod]; omega
    have := Int.tmod_nonneg 1000 (show 0 ≤ -x by omega)
    have := Int.tmod_lt_of_pos (-x) (b := 1000) (by omega)
    omega
theorem cntK_bd (j : Nat) (M : List (Int × Int)) : 0 ≤ cntK j M ∧ cntK j M ≤ 999 * M.length := by
  induction M with
  | nil => simp [cntK]
  | cons p M ih =>
    simp only [cntK, List.map_cons, List.sum_cons, List.length_cons] at ih ⊢
    have := tmod_bd p.2
    split <;> omega
theorem cntK_snoc (j : Nat) (M : List (Int × Int)) (p : Int × Int) : cntK j (M ++ [p]) = cntK j M + if p.1 = j ∧ 0 ≤ p.2.tmod 1000 then p.2.tmod 1000 else 0 := by
  simp [cntK]
theorem cntK_cons (j : Nat) (M : List (Int × Int)) (p : Int × Int) : cntK j (p :: M) = cntK j M + if p.1 = j ∧ 0 ≤ p.2.tmod 1000 then p.2.tmod 1000 else 0 := by
  simp only [cntK, List.map_cons, List.sum_cons]
  omega
theorem add9 (f : Nat → Int) (hf : ∀ j, 0 ≤ f j ∧ f j ≤ 60000) (k v : Int) (hv : v ≤ 999) : addL ((List.range 9).map f) k v = (List.range 9).map fun j => f j + if k = j ∧ 0 ≤ v then v else 0 := by
  have hlen : ((List.range 9).map f).length = 9 := by simp
  by_cases hk : 0 ≤ k ∧ k < 9
  · obtain ⟨m, rfl⟩ := Int.eq_ofNat_of_zero_le hk.1
    have hm : m < 9 := by omega
    have hg : ((List.range 9).map f).getD m 0 = f m := by simp [hm]
    by_cases hn : v < 0
    · rw [addL_not (by rw [addE_neg hn]; decide)]
      apply List.map_congr_left
      intro j _
      rw [if_neg (by omega)]
      omega
    · rw [addL_ok (addE_ok (by rw [hlen]; omega) hn (by rw [Int.toNat_natCast, hg]; have := hf m; omega)), Int.toNat_natCast, hg]
      apply List.ext_getElem
      · simp
      · intro j h1 h2
        simp only [List.getElem_set, List.getElem_map, List.getElem_range]
        by_cases e : m = j
        · subst e
          rw [if_pos rfl, if_pos ⟨rfl, by omega⟩]
        · rw [if_neg e, if_neg (by omega)]
          omega
  · rw [addL_not (by rw [addE_no (by rw [hlen]; omega)]; decide)]
    apply List.map_congr_left
    intro j hj
    have := List.mem_range.1 hj
    rw [if_neg (by omega)]
    omega
theorem add_snoc (M : List (Int × Int)) (p : Int × Int) (hM : M.length ≤ 60) : addL (tl9 M) p.1 (p.2.tmod 1000) = tl9 (M ++ [p]) := by
  rw [tl9, add9 (fun j => cntK j M) (fun j => by have := cntK_bd j M; omega) _ _ (tmod_bd p.2).2, tl9]
  apply List.map_congr_left
  intro j _
  rw [cntK_snoc]
theorem add_cons (M : List (Int × Int)) (p : Int × Int) (hM : M.length ≤ 60) : addL (tl9 M) p.1 (p.2.tmod 1000) = tl9 (p :: M) := by
  rw [tl9, add9 (fun j => cntK j M) (fun j => by have := cntK_bd j M; omega) _ _ (tmod_bd p.2).2, tl9]
  apply List.map_congr_left
  intro j _
  rw [cntK_cons]
theorem tl9_nil : tl9 [] = List.replicate (kn 9) 0 := by decide
theorem take_snocP (l : List (Int × Int)) (k : Nat) (h : k < l.length) : l.take (k + 1) = l.take k ++ [l.getD k (0, 0)] := by
  rw [List.take_succ_eq_append_getElem h]
  simp [h]
theorem drop_consP (l : List (Int × Int)) (k : Nat) (h : k < l.length) : l.drop k = l.getD k (0, 0) :: l.drop (k + 1) := by
  rw [List.drop_eq_getElem_cons h]
  simp [h]
end Go.Proofs.Ytgbkloilodgjfaa
