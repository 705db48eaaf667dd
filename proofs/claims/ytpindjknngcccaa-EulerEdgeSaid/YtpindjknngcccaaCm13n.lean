/- The document's labels, on numbers: lesser places spread along edges come to the same labels. -/
import Derived.Test.YtpindjknngcccaaGE
import Derived.Test.YtpindjknngcccaaDgMd
namespace Go.Proofs.Ytpindjknngcccaa
open Go.RowKit
set_option linter.unusedSimpArgs false
set_option linter.unusedVariables false

/-- The lesser of both labels, for both. -/
def rlx (L : List Int) (e : Nat × Nat) : List Int := (L.set e.1 (min (L.getD e.1 0) (L.getD e.2 0))).set e.2 (min (L.getD e.1 0) (L.getD e.2 0))
def rndN (P : List (Nat × Nat)) (n : Nat) : Nat → List Int
  | 0 => upN n
  | j + 1 => P.foldl rlx (rndN P n j)
theorem rlx_len (L : List Int) (e : Nat × Nat) : (rlx L e).length = L.length := by simp [rlx]
theorem fold_len : ∀ (P : List (Nat × Nat)) (L : List Int), (P.foldl rlx L).length = L.length
  | [], _ => rfl
  | e :: P, L => by rw [List.foldl_cons, fold_len P, rlx_len]
theorem rnd_len (P : List (Nat × Nat)) (n : Nat) : ∀ j, (rndN P n j).length = n
  | 0 => by simp [rndN, upN]
  | j + 1 => by rw [rndN, fold_len, rnd_len P n j]
theorem getD_set (L : List Int) (i k : Nat) (v : Int) (hi : i < L.length) : (L.set i v).getD k 0 = if i = k then v else L.getD k 0 := by
  rw [List.getD_eq_getElem?_getD, List.getElem?_set, List.getD_eq_getElem?_getD]
  by_cases h : i = k
  · subst h
    simp [hi]
  · simp [h]
theorem rlx_get {L : List Int} {a b : Nat} (ha : a < L.length) (hb : b < L.length) (k : Nat) : (rlx L (a, b)).getD k 0 = if k = a ∨ k = b then min (L.getD a 0) (L.getD b 0) else L.getD k 0 := by
  unfold rlx
  rw [getD_set _ _ _ _ (by simpa using hb), getD_set _ _ _ _ ha]
  by_cases h1 : b = k
  · rw [if_pos h1, if_pos (.inr h1.symm)]
  · rw [if_neg h1]
    by_cases h2 : a = k
    · rw [if_pos h2, if_pos (.inl h2.symm)]
    · rw [if_neg h2, if_neg (fun h => h.elim (fun h => h2 h.symm) (fun h => h1 h.symm))]
/-- Between M and what it was. -/
def Down (n : Nat) (M L L' : List Int) : Prop := L'.length = n ∧ ∀ i, i < n → M.getD i 0 ≤ L'.getD i 0 ∧ L'.getD i 0 ≤ L.getD i 0
theorem rlx_down {n : Nat} {M L : List Int} {a b : Nat} (hl : L.length = n) (hM : ∀ i, i < n → M.getD i 0 ≤ L.getD i 0) (ha : a < n) (hb : b < n) (he : M.getD a 0 = M.getD b 0) : Down n M L (rlx L (a, b)) := by
  refine ⟨by rw [rlx_len, hl], fun i hi => ?_⟩
  rw [rlx_get (by omega) (by omega)]
  have h1 := hM a ha
  have h2 := hM b hb
  have h3 := hM i hi
  split
  · rename_i h
    rcases h with rfl | rfl <;> omega
  · omega
theorem fold_down {n : Nat} {M : List Int} : ∀ (P : List (Nat × Nat)) (L : List Int), L.length = n → (∀ i, i < n → M.getD i 0 ≤ L.getD i 0) → (∀ e ∈ P, e.1 < n ∧ e.2 < n ∧ M.getD e.1 0 = M.getD e.2 0) → Down n M L (P.foldl rlx L)
  | [], L, hl, hM, _ => ⟨hl, fun i hi => ⟨hM i hi, Int.le_refl _⟩⟩
  | (a, b) :: P, L, hl, hM, hP => by
    obtain ⟨h1, h2, h3⟩ := hP (a, b) (List.mem_cons_self ..)
    have hd := rlx_down hl hM h1 h2 h3
    obtain ⟨g1, g2⟩ := fold_down P (rlx L (a, b)) hd.1 (fun i hi => (hd.2 i hi).1) (fun e he => hP e (List.mem_cons_of_mem _ he))
    exact ⟨g1, fun i hi => ⟨(g2 i hi).1, Int.le_trans (g2 i hi).2 (hd.2 i hi).2⟩⟩
/-- An edge of which one end has its least label gives it to the other. -/
theorem fold_edge {n : Nat} {M : List Int} {a b : Nat} : ∀ (P : List (Nat × Nat)) (L : List Int), L.length = n → (∀ i, i < n → M.getD i 0 ≤ L.getD i 0) → (∀ e ∈ P, e.1 < n ∧ e.2 < n ∧ M.getD e.1 0 = M.getD e.2 0) → (a, b) ∈ P →
    (L.getD a 0 = M.getD a 0 ∨ L.getD b 0 = M.getD b 0) → (P.foldl rlx L).getD a 0 = M.getD a 0 ∧ (P.foldl rlx L).getD b 0 = M.getD b 0
  | (c, d) :: P, L, hl, hM, hP, hm, ho => by
    obtain ⟨h1, h2, h3⟩ := hP (c, d) (List.mem_cons_self ..)
    obtain ⟨k1, k2, k3⟩ := hP (a, b) hm
    simp only at k1 k2 k3 h1 h2 h3
    have hd := rlx_down hl hM h1 h2 h3
    have hPr := fun e he => hP e (List.mem_cons_of_mem (c, d) he)
    rw [List.foldl_cons]
    by_cases e : (a, b) = (c, d)
    · injection e with e1 e2
      subst e1 e2
      have hdn := fold_down P (rlx L (a, b)) hd.1 (fun i hi => (hd.2 i hi).1) hPr
      have ga := rlx_get (L := L) (a := a) (b := b) (by omega) (by omega) a
      have gb := rlx_get (L := L) (a := a) (b := b) (by omega) (by omega) b
      rw [if_pos (.inl rfl)] at ga
      rw [if_pos (.inr rfl)] at gb
      have ma := hM a k1
      have mb := hM b k2
      obtain ⟨q1, q2⟩ := hdn.2 a k1
      obtain ⟨q3, q4⟩ := hdn.2 b k2
      rw [ga] at q2
      rw [gb] at q4
      have hmin : min (L.getD a 0) (L.getD b 0) = M.getD a 0 := by rcases ho with h | h <;> omega
      constructor <;> omega
    · have hm2 : (a, b) ∈ P := (List.mem_cons.1 hm).resolve_left e
      refine fold_edge P (rlx L (c, d)) hd.1 (fun i hi => (hd.2 i hi).1) hPr hm2 ?_
      rcases ho with h | h
      · have := hd.2 a k1; exact .inl (by omega)
      · have := hd.2 b k2; exact .inr (by omega)
/-- How many have their least label. -/
def hasB (M L : List Int) (i : Nat) : Bool := L.getD i 0 == M.getD i 0
theorem rounds_lab {n : Nat} {P : List (Nat × Nat)} {M : List Int} (h : Lab n (fun i k => (i, k) ∈ P) M) (hP : ∀ e ∈ P, e.1 < n ∧ e.2 < n) : rndN P n n = M := by
  have hP3 : ∀ e ∈ P, e.1 < n ∧ e.2 < n ∧ M.getD e.1 0 = M.getD e.2 0 := fun e he => ⟨(hP e he).1, (hP e he).2, h.co e.1 e.2 (hP e he).1 (hP e he).2 he⟩
  have hok : ∀ i, i < n → 0 ≤ M.getD i 0 ∧ M.getD i 0 ≤ i ∧ M.getD (M.getD i 0).toNat 0 = M.getD i 0 := fun i hi => h.ok i (by rw [h.len]; exact hi)
  -- each stays above M, and below its place
  have hge : ∀ j, ∀ i, i < n → M.getD i 0 ≤ (rndN P n j).getD i 0 ∧ (rndN P n j).getD i 0 ≤ i := fun j => by
    induction j with
    | zero =>
      intro i hi
      show M.getD i 0 ≤ (upN n).getD i 0 ∧ (upN n).getD i 0 ≤ i
      rw [up_get n i hi]
      exact ⟨(hok i hi).2.1, Int.le_refl _⟩
    | succ j ih =>
      intro i hi
      have hd := fold_down P (rndN P n j) (rnd_len P n j) (fun i hi => (ih i hi).1) hP3
      exact ⟨(hd.2 i hi).1, Int.le_trans (hd.2 i hi).2 (ih i hi).2⟩
  have hmono : ∀ j i, i < n → hasB M (rndN P n j) i = true → hasB M (rndN P n (j + 1)) i = true := fun j i hi hb => by
    have hd := fold_down P (rndN P n j) (rnd_len P n j) (fun i hi => (hge j i hi).1) hP3
    have h1 := hd.2 i hi
    have h2 : (rndN P n j).getD i 0 = M.getD i 0 := eq_of_beq hb
    have h3 : (rndN P n (j + 1)).getD i 0 = M.getD i 0 := by
      show (P.foldl rlx (rndN P n j)).getD i 0 = _
      omega
    rw [hasB, h3]
    simp
  -- nothing new in a round: all have it
  have hall : ∀ j, (∀ i, i < n → hasB M (rndN P n (j + 1)) i = hasB M (rndN P n j) i) → ∀ i, i < n → hasB M (rndN P n j) i = true := fun j hs i hi => by
    have hco : Co n (fun i k => (i, k) ∈ P) (fun i => if hasB M (rndN P n j) i = true then 1 else 0) := fun a b ha hb hm => by
      have hedge := fold_edge P (rndN P n j) (rnd_len P n j) (fun i hi => (hge j i hi).1) hP3 hm
      have key : ∀ {x y : Nat}, x < n → y < n → ((rndN P n j).getD x 0 = M.getD x 0 → (rndN P n (j + 1)).getD y 0 = M.getD y 0) → hasB M (rndN P n j) x = true → hasB M (rndN P n j) y = true := fun {x y} hx hy himp hb => by
        rw [← hs y hy, hasB, himp (eq_of_beq hb)]
        simp
      have k1 := key ha hb (fun e => (hedge (.inl e)).2)
      have k2 := key hb ha (fun e => (hedge (.inr e)).1)
      simp only
      by_cases q : hasB M (rndN P n j) a = true
      · rw [if_pos q, if_pos (k1 q)]
      · rw [if_neg q, if_neg (fun h => q (k2 h))]
    obtain ⟨h0, h1, h2⟩ := hok i hi
    obtain ⟨r, hr⟩ : ∃ r : Nat, M.getD i 0 = (r : Int) := ⟨(M.getD i 0).toNat, by omega⟩
    rw [hr, Int.toNat_natCast] at h2
    have hrn : r < n := by omega
    have hroot : hasB M (rndN P n j) r = true := by
      have h3 := hge j r hrn
      rw [h2] at h3
      rw [hasB, h2, beq_iff_eq]
      omega
    have e := h.fin _ hco r i hrn hi (by rw [h2, hr])
    replace e : (if hasB M (rndN P n j) r = true then (1 : Int) else 0) = (if hasB M (rndN P n j) i = true then 1 else 0) := e
    rw [if_pos hroot] at e
    by_cases q : hasB M (rndN P n j) i = true
    · exact q
    · rw [if_neg q] at e
      omega
  -- so many, or all
  have hcnt : ∀ j, (∀ i, i < n → hasB M (rndN P n j) i = true) ∨ j ≤ (List.range n).countP (hasB M (rndN P n j)) := fun j => by
    induction j with
    | zero => exact .inr (Nat.zero_le _)
    | succ j ih =>
      rcases ih with ih | ih
      · exact .inl fun i hi => hmono j i hi (ih i hi)
      · by_cases hs : ∀ i, i < n → hasB M (rndN P n (j + 1)) i = hasB M (rndN P n j) i
        · exact .inl fun i hi => hmono j i hi (hall j hs i hi)
        · refine .inr ?_
          have hex : ∃ i, i < n ∧ hasB M (rndN P n (j + 1)) i = true ∧ hasB M (rndN P n j) i = false := by
            refine Classical.byContradiction fun hno => hs fun i hi => ?_
            cases q1 : hasB M (rndN P n j) i with
            | true => exact hmono j i hi q1
            | false =>
              cases q2 : hasB M (rndN P n (j + 1)) i with
              | false => rfl
              | true => exact absurd ⟨i, hi, q2, q1⟩ hno
          obtain ⟨i0, hi0, q1, q2⟩ := hex
          have h1 : (List.range n).countP (hasB M (rndN P n j)) ≤ (List.range n).countP (fun i => hasB M (rndN P n (j + 1)) i && decide (i ≠ i0)) := by
            refine List.countP_mono_left fun i hi hb => ?_
            have hi := List.mem_range.1 hi
            rw [hmono j i hi hb, Bool.true_and, decide_eq_true_eq]
            rintro rfl
            rw [hb] at q2
            cases q2
          have h2 := countP_one (fun i => hasB M (rndN P n (j + 1)) i && decide (i ≠ i0)) (hasB M (rndN P n (j + 1))) i0 (by simp) q1 (fun i hi => by simp [hi]) n
          rw [if_pos hi0] at h2
          omega
  have hfin : ∀ i, i < n → hasB M (rndN P n n) i = true := by
    rcases hcnt n with h1 | h1
    · exact h1
    · intro i hi
      have h2 : (List.range n).countP (hasB M (rndN P n n)) = (List.range n).length := Nat.le_antisymm List.countP_le_length (by rw [List.length_range]; exact h1)
      exact (List.countP_eq_length.1 h2) i (List.mem_range.2 hi)
  refine List.ext_getElem (by rw [rnd_len, h.len]) fun i h1 h2 => ?_
  have hi : i < n := by rw [rnd_len] at h1; exact h1
  have e : (rndN P n n).getD i 0 = M.getD i 0 := eq_of_beq (hfin i hi)
  rw [List.getD_eq_getElem?_getD, List.getD_eq_getElem?_getD, List.getElem?_eq_getElem h1, List.getElem?_eq_getElem h2] at e
  exact e

/-! The edges' ends, as places. -/
def plcN (Vs : List VC) (d : D) : Nat := (placeF 0 Vs (atV Vs d).1).toNat
def endsF (Vs : List VC) (Es : List EC) : List (Nat × Nat) := Es.map fun e => (plcN Vs (e.1.1, e.1.2, 0), plcN Vs (e.1.1, e.1.2, 1))
section
variable {Vs : List VC} {Es : List EC}
theorem Formed.stands (h : Formed Vs Es) {i : Nat} {v : VC} (hv : Vs[i]? = some v) {d : D} (hd : d ∈ v.2.1.2.2.2) : atV Vs d = (v.1, true) ∧ placeF 0 Vs v.1 = (i : Int) := by
  refine ⟨h.at (List.mem_of_getElem? hv) hd, ?_⟩
  have := place_at Vs 0 i v (rise_nodup h.rv) hv
  simpa using this
theorem Formed.plc (h : Formed Vs Es) {i : Nat} {v : VC} (hv : Vs[i]? = some v) {d : D} (hd : d ∈ v.2.1.2.2.2) : plcN Vs d = i := by
  obtain ⟨h1, h2⟩ := h.stands hv hd
  rw [plcN, h1, h2]
  simp
theorem Formed.dart (h : Formed Vs Es) {e : EC} (he : e ∈ Es) (s : Int) (hs : s = 0 ∨ s = 1) : ∃ i v, Vs[i]? = some v ∧ (e.1.1, e.1.2, s) ∈ v.2.1.2.2.2 ∧ i < Vs.length := by
  have h1 : (e.1.1, e.1.2, s) ∈ ringsOf Vs := h.pm.mem_iff.2 ((edS_mem Es [] _).2 (.inr ⟨e, he, by rcases hs with rfl | rfl; exact .inl rfl; exact .inr rfl⟩))
  obtain ⟨v, hv, hr⟩ := List.mem_flatMap.1 h1
  obtain ⟨i, hi⟩ := List.getElem?_of_mem hv
  exact ⟨i, v, hi, hr, (List.getElem?_eq_some_iff.1 hi).1⟩
theorem Formed.of_dart (h : Formed Vs Es) {v : VC} (hv : v ∈ Vs) {d : D} (hd : d ∈ v.2.1.2.2.2) : ∃ e ∈ Es, e.1 = (d.1, d.2.1) ∧ (d.2.2 = 0 ∨ d.2.2 = 1) := by
  have h1 := h.pm.mem_iff.1 (List.mem_flatMap.2 ⟨v, hv, hd⟩)
  rcases (edS_mem Es [] d).1 h1 with h2 | ⟨e, he, h2 | h2⟩
  · cases h2
  · exact ⟨e, he, by rw [h2], .inl (by rw [h2])⟩
  · exact ⟨e, he, by rw [h2], .inr (by rw [h2])⟩
theorem ends_lt (h : Formed Vs Es) : ∀ e ∈ endsF Vs Es, e.1 < Vs.length ∧ e.2 < Vs.length := fun p hp => by
  obtain ⟨e, he, rfl⟩ := List.mem_map.1 hp
  obtain ⟨i, v, hv, hd, hi⟩ := h.dart he 0 (.inl rfl)
  obtain ⟨k, u, hu, hd2, hk⟩ := h.dart he 1 (.inr rfl)
  rw [h.plc hv hd, h.plc hu hd2]
  exact ⟨hi, hk⟩
theorem co_ends (h : Formed Vs Es) (f : Nat → Int) : Co Vs.length (Sh Vs) f ↔ Co Vs.length (fun i k => (i, k) ∈ endsF Vs Es) f := by
  constructor
  · rintro hf i k hi hk hm
    obtain ⟨e, he, hp⟩ := List.mem_map.1 hm
    obtain ⟨a, v, hv, hd, ha⟩ := h.dart he 0 (.inl rfl)
    obtain ⟨b, u, hu, hd2, hb⟩ := h.dart he 1 (.inr rfl)
    rw [h.plc hv hd, h.plc hu hd2] at hp
    injection hp with e1 e2
    subst e1 e2
    exact hf _ _ ha hb ⟨(e.1.1, e.1.2), ⟨v, hv, _, hd, rfl⟩, ⟨u, hu, _, hd2, rfl⟩⟩
  · rintro hf i k hi hk ⟨y, ⟨v, hv, x, hx, rfl⟩, ⟨u, hu, z, hz, ez⟩⟩
    obtain ⟨e, he, e1, hs⟩ := h.of_dart (List.mem_of_getElem? hv) hx
    obtain ⟨e', he', e1', hs'⟩ := h.of_dart (List.mem_of_getElem? hu) hz
    have hpx := h.plc hv hx
    have hpz := h.plc hu hz
    obtain ⟨x1, x2, x3⟩ := x
    obtain ⟨z1, z2, z3⟩ := z
    simp only [Prod.mk.injEq] at ez
    obtain ⟨rfl, rfl⟩ := ez
    simp only at e1 hs hs'
    have hm : (plcN Vs (x1, x2, 0), plcN Vs (x1, x2, 1)) ∈ endsF Vs Es := List.mem_map.2 ⟨e, he, by rw [e1]⟩
    have hb := ends_lt h _ hm
    have hfe := hf _ _ hb.1 hb.2 hm
    rcases hs with rfl | rfl <;> rcases hs' with rfl | rfl
    · rw [hpx] at hpz; rw [hpz]
    · rw [hpx, hpz] at hfe; exact hfe
    · rw [hpx, hpz] at hfe; exact hfe.symm
    · rw [hpx] at hpz; rw [hpz]
theorem labF_ends (h : Formed Vs Es) : Lab Vs.length (fun i k => (i, k) ∈ endsF Vs Es) (labF Vs) := (labF_lab Vs).of_iff (co_ends h)
/-- What the document's labels come to. -/
theorem rounds_eq (h : Formed Vs Es) : rndN (endsF Vs Es) Vs.length Vs.length = labF Vs := rounds_lab (labF_ends h) (ends_lt h)
theorem cnt_le (Vs : List VC) : cntF (labF Vs) ≤ Vs.length := by
  unfold cntF
  have := List.countP_le_length (p := rootB (labF Vs)) (l := List.range (labF Vs).length)
  rw [List.length_range, labF_len] at this
  rw [labF_len]
  exact this
end
end Go.Proofs.Ytpindjknngcccaa
