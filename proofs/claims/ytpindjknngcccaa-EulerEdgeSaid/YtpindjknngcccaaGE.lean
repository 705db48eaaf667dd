/- Words for all layers, in one text. -/
import Derived.Test.YtpindjknngcccaaGD
import Derived.Test.YtpindjknngcccaaBase
import Derived.Test.YtpindjknngcccaaGC
import Derived.Maps.AppendAt
import Derived.Test.YtpindjknngcccaaLawB
import Derived.SizedLaws

/- Labels, on numbers: they are the finest ones under which vertices that share an edge are labelled alike; so they hang on nothing else. -/
namespace Go.Proofs.Ytpindjknngcccaa
open Go.RowKit
set_option linter.unusedSimpArgs false
set_option linter.unusedVariables false

/-- Alike under f are all that R joins. -/
def Co (n : Nat) (R : Nat → Nat → Prop) (f : Nat → Int) : Prop := ∀ i k, i < n → k < n → R i k → f i = f k
/-- L is the finest labelling of n places under which R holds; and each label is the least place of its part. -/
structure Lab (n : Nat) (R : Nat → Nat → Prop) (L : List Int) : Prop where
  len : L.length = n
  ok : LbOk L
  co : Co n R (fun i => L.getD i 0)
  fin : ∀ f : Nat → Int, Co n R f → ∀ i k, i < n → k < n → L.getD i 0 = L.getD k 0 → f i = f k
theorem Lab.of_iff {n : Nat} {R R' : Nat → Nat → Prop} {L : List Int} (h : Lab n R L) (hR : ∀ f, Co n R f ↔ Co n R' f) : Lab n R' L :=
  ⟨h.len, h.ok, (hR _).1 h.co, fun f hf => h.fin f ((hR f).2 hf)⟩
theorem Lab.up (n : Nat) : Lab n (fun _ _ => False) (upN n) := by
  refine ⟨by simp [upN], LbOk.up n, fun i k _ _ h => h.elim, fun f _ i k hi hk e => ?_⟩
  rw [up_get n i hi, up_get n k hk] at e
  rw [Int.ofNat_inj.1 e]
theorem jf_yes {a b x : Int} (h : x = a ∨ x = b) : jf a b x = min a b := if_pos h
theorem jf_no {a b x : Int} (h : ¬ (x = a ∨ x = b)) : jf a b x = x := if_neg h
theorem min_is (a b : Int) : min a b = a ∨ min a b = b := by omega
theorem Lab.join {n p q : Nat} {R : Nat → Nat → Prop} {L : List Int} (h : Lab n R L) (hp : p < n) (hq : q < n) :
    Lab n (fun i k => R i k ∨ (i = p ∧ k = q)) (joinF L (L.getD p 0) (L.getD q 0)) := by
  have hl := h.len
  have hg : ∀ i, i < n → (joinF L (L.getD p 0) (L.getD q 0)).getD i 0 = jf (L.getD p 0) (L.getD q 0) (L.getD i 0) := fun i hi => joinF_get L _ _ (by omega)
  refine ⟨by rw [joinF_len]; exact hl, h.ok.join (by omega) (by omega), ?_, ?_⟩
  · rintro i k hi hk (hr | ⟨rfl, rfl⟩)
    · show (joinF L _ _).getD i 0 = (joinF L _ _).getD k 0
      rw [hg i hi, hg k hk]
      exact congrArg _ (h.co i k hi hk hr)
    · show (joinF L _ _).getD i 0 = (joinF L _ _).getD k 0
      rw [hg i hi, hg k hk, jf_yes (.inl rfl), jf_yes (.inr rfl)]
  · intro f hf i k hi hk e
    rw [hg i hi, hg k hk] at e
    have hf1 : Co n R f := fun a b ha hb hr => hf a b ha hb (.inl hr)
    have hpq : f p = f q := hf p q hp hq (.inr ⟨rfl, rfl⟩)
    have yes : ∀ j, j < n → (L.getD j 0 = L.getD p 0 ∨ L.getD j 0 = L.getD q 0) → f j = f p := by
      rintro j hj (e | e)
      · exact h.fin f hf1 j p hj hp e
      · exact (h.fin f hf1 j q hj hq e).trans hpq.symm
    by_cases h1 : L.getD i 0 = L.getD p 0 ∨ L.getD i 0 = L.getD q 0
    · by_cases h2 : L.getD k 0 = L.getD p 0 ∨ L.getD k 0 = L.getD q 0
      · rw [yes i hi h1, yes k hk h2]
      · rw [jf_yes h1, jf_no h2] at e
        exact absurd (by rw [← e]; exact min_is _ _) h2
    · by_cases h2 : L.getD k 0 = L.getD p 0 ∨ L.getD k 0 = L.getD q 0
      · rw [jf_yes h2, jf_no h1] at e
        exact absurd (by rw [e]; exact min_is _ _) h1
      · rw [jf_no h1, jf_no h2] at e
        exact h.fin f hf1 i k hi hk e
theorem Lab.le {n : Nat} {R : Nat → Nat → Prop} {L L' : List Int} (h : Lab n R L) (k : Lab n R L') {i : Nat} (hi : i < n) : L'.getD i 0 ≤ L.getD i 0 := by
  obtain ⟨h0, h1, h2⟩ := h.ok i (by rw [h.len]; exact hi)
  obtain ⟨x, hx⟩ : ∃ x : Nat, L.getD i 0 = (x : Int) := ⟨(L.getD i 0).toNat, by omega⟩
  rw [hx] at h1 h2 ⊢
  rw [Int.toNat_natCast] at h2
  have hxn : x < n := by omega
  have e := h.fin _ k.co x i hxn hi (by rw [h2, hx])
  obtain ⟨k0, k1, k2⟩ := k.ok x (by rw [k.len]; exact hxn)
  omega
/-- There is but one. -/
theorem Lab.uniq {n : Nat} {R : Nat → Nat → Prop} {L L' : List Int} (h : Lab n R L) (k : Lab n R L') : L = L' := by
  refine List.ext_getElem (by rw [h.len, k.len]) fun i h1 h2 => ?_
  have hi : i < n := by rw [← h.len]; exact h1
  have e1 := h.le k hi
  have e2 := k.le h hi
  have e : L.getD i 0 = L'.getD i 0 := by omega
  rw [List.getD_eq_getElem?_getD, List.getD_eq_getElem?_getD, List.getElem?_eq_getElem h1, List.getElem?_eq_getElem h2] at e
  exact e
/-- Joined one behind the other. -/
def joins (P : List (Nat × Nat)) (L : List Int) : List Int := P.foldl (fun L e => joinF L (L.getD e.1 0) (L.getD e.2 0)) L
theorem joins_lab {n : Nat} : ∀ (P : List (Nat × Nat)) (R : Nat → Nat → Prop) (L : List Int), (∀ e ∈ P, e.1 < n ∧ e.2 < n) → Lab n R L → Lab n (fun i k => R i k ∨ (i, k) ∈ P) (joins P L)
  | [], R, L, _, h => h.of_iff fun f => by simp [Co]
  | e :: P, R, L, hP, h => by
    have h0 := hP e (List.mem_cons_self ..)
    refine (joins_lab P _ _ (fun x hx => hP x (List.mem_cons_of_mem _ hx)) (h.join h0.1 h0.2)).of_iff fun f => ?_
    constructor
    · rintro hf i k hi hk (hr | hm)
      · exact hf i k hi hk (.inl (.inl hr))
      · rcases List.mem_cons.1 hm with hm | hm
        · exact hf i k hi hk (.inl (.inr ⟨congrArg Prod.fst hm, congrArg Prod.snd hm⟩))
        · exact hf i k hi hk (.inr hm)
    · rintro hf i k hi hk ((hr | ⟨rfl, rfl⟩) | hm)
      · exact hf i k hi hk (.inl hr)
      · exact hf _ _ hi hk (.inr (List.mem_cons_self ..))
      · exact hf i k hi hk (.inr (List.mem_cons_of_mem _ hm))

/-! What the program's labels are. -/
/-- An edge's dart stands at a place. -/
def Ats (Vs : List VC) (i : Nat) (y : I2) : Prop := ∃ v, Vs[i]? = some v ∧ ∃ x ∈ v.2.1.2.2.2, y = (x.1, x.2.1)
/-- Two places share an edge. -/
def Sh (Vs : List VC) (i k : Nat) : Prop := ∃ y, Ats Vs i y ∧ Ats Vs k y
structure Met (n : Nat) (T : Nat → I2 → Prop) (s : St) : Prop where
  lab : Lab n (fun i k => ∃ y, T i y ∧ T k y) s.1
  yes : ∀ y j, s.2 y = some j → T j y
  no : ∀ y, s.2 y = none → ∀ i, ¬ T i y
theorem Met.step {n i : Nat} {T : Nat → I2 → Prop} {s : St} (h : Met n T s) (ok : StOk n s) (hi : i < n) (x : D) : Met n (fun k y => T k y ∨ (k = i ∧ y = (x.1, x.2.1))) (stepD i s x) := by
  unfold stepD
  split
  · rename_i j hj
    have hT := h.yes _ _ hj
    have hjn := ok.lt _ _ hj
    refine ⟨(h.lab.join hi hjn).of_iff fun f => ?_, fun y k hy => .inl (h.yes y k hy), ?_⟩
    · constructor
      · rintro hf a b ha hb ⟨y, h1, h2⟩
        have hij : f i = f j := hf i j hi hjn (.inr ⟨rfl, rfl⟩)
        rcases h1 with h1 | ⟨rfl, rfl⟩ <;> rcases h2 with h2 | ⟨rfl, e2⟩
        · exact hf a b ha hb (.inl ⟨y, h1, h2⟩)
        · subst e2
          rw [hij]
          exact hf a j ha hjn (.inl ⟨_, h1, hT⟩)
        · rw [hij]
          exact (hf b j hb hjn (.inl ⟨_, h2, hT⟩)).symm
        · rfl
      · rintro hf a b ha hb (⟨y, h1, h2⟩ | ⟨rfl, rfl⟩)
        · exact hf a b ha hb ⟨y, .inl h1, .inl h2⟩
        · exact hf _ _ ha hb ⟨_, .inr ⟨rfl, rfl⟩, .inl hT⟩
    · rintro y hy k (h1 | ⟨rfl, rfl⟩)
      · exact h.no y hy k h1
      · simp only at hy
        rw [hj] at hy
        cases hy
  · rename_i hj
    have hT := h.no _ hj
    refine ⟨h.lab.of_iff fun f => ?_, fun y k hy => ?_, fun y hy k hk => ?_⟩
    · constructor
      · rintro hf a b ha hb ⟨y, h1, h2⟩
        rcases h1 with h1 | ⟨rfl, e1⟩ <;> rcases h2 with h2 | ⟨rfl, e2⟩
        · exact hf a b ha hb ⟨y, h1, h2⟩
        · subst e2
          exact absurd h1 (hT a)
        · subst e1
          exact absurd h2 (hT b)
        · rfl
      · rintro hf a b ha hb ⟨y, h1, h2⟩
        exact hf a b ha hb ⟨y, .inl h1, .inl h2⟩
    · simp only at hy
      split at hy
      · rename_i e
        exact .inr ⟨(Option.some.inj hy).symm, e⟩
      · exact .inl (h.yes y k hy)
    · simp only at hy
      split at hy
      · cases hy
      · rename_i e
        rcases hk with hk | ⟨_, hk⟩
        · exact h.no y hy k hk
        · exact e hk
theorem Met.congr {n : Nat} {T T' : Nat → I2 → Prop} {s : St} (h : Met n T s) (e : ∀ k y, T k y ↔ T' k y) : Met n T' s := by
  have : T = T' := by
    funext k y
    exact propext (e k y)
  exact this ▸ h
theorem fold_met {n i : Nat} (hi : i < n) : ∀ (R : List D) (T : Nat → I2 → Prop) (s : St), Met n T s → StOk n s → Met n (fun k y => T k y ∨ (k = i ∧ ∃ x ∈ R, y = (x.1, x.2.1))) (R.foldl (stepD i) s)
  | [], T, s, h, _ => h.congr fun k y => by simp
  | x :: R, T, s, h, ok => (fold_met hi R _ _ (h.step ok hi x) (ok.step hi x)).congr fun k y => by
      simp only [List.mem_cons, exists_eq_or_imp]
      constructor
      · rintro ((h1 | ⟨h1, h2⟩) | ⟨h1, h2⟩)
        · exact .inl h1
        · exact .inr ⟨h1, .inl h2⟩
        · exact .inr ⟨h1, .inr h2⟩
      · rintro (h1 | ⟨h1, h2 | h2⟩)
        · exact .inl (.inl h1)
        · exact .inl (.inr ⟨h1, h2⟩)
        · exact .inr ⟨h1, h2⟩
theorem fold_st {n i : Nat} (hi : i < n) : ∀ (R : List D) (s : St), StOk n s → StOk n (R.foldl (stepD i) s)
  | [], s, hs => hs
  | x :: R, s, hs => fold_st hi R _ (hs.step hi x)
theorem labV_met {n : Nat} : ∀ (Vs : List VC) (i : Nat) (T : Nat → I2 → Prop) (s : St), i + Vs.length ≤ n → Met n T s → StOk n s →
    Met n (fun k y => T k y ∨ ∃ j, k = i + j ∧ Ats Vs j y) (labV i Vs s)
  | [], i, T, s, _, h, _ => h.congr fun k y => by
      constructor
      · exact .inl
      · rintro (h1 | ⟨j, _, v, hv, _⟩)
        · exact h1
        · cases hv
  | v :: r, i, T, s, hn, h, ok => by
    rw [List.length_cons] at hn
    have hi : i < n := by omega
    refine (labV_met r (i + 1) _ _ (by omega) (fold_met hi v.2.1.2.2.2 T s h ok) (fold_st hi _ s ok)).congr fun k y => ?_
    constructor
    · rintro ((h1 | ⟨h1, h2⟩) | ⟨j, h1, v', h2, h3⟩)
      · exact .inl h1
      · exact .inr ⟨0, by omega, v, rfl, h2⟩
      · exact .inr ⟨j + 1, by omega, v', by simpa using h2, h3⟩
    · rintro (h1 | ⟨j, h1, v', h2, h3⟩)
      · exact .inl (.inl h1)
      · cases j with
        | zero =>
          obtain rfl : v = v' := by simpa using h2
          exact .inl (.inr ⟨by omega, h3⟩)
        | succ j => exact .inr ⟨j, by omega, v', by simpa using h2, h3⟩
/-- What the labels are. -/
theorem labF_lab (Vs : List VC) : Lab Vs.length (Sh Vs) (labF Vs) := by
  have h0 : Met Vs.length (fun _ _ => False) ((upN Vs.length, fun _ => none) : St) :=
    ⟨(Lab.up _).of_iff fun f => by simp [Co], fun y j h => (by cases h), fun _ _ _ h => h⟩
  have h1 := (labV_met Vs 0 _ _ (by omega) h0 ⟨by simp [upN], fun y j h => (by cases h)⟩).lab
  refine h1.of_iff fun f => ?_
  constructor
  · rintro hf a b ha hb ⟨y, h1, h2⟩
    exact hf a b ha hb ⟨y, .inr ⟨a, by omega, h1⟩, .inr ⟨b, by omega, h2⟩⟩
  · rintro hf a b ha hb ⟨y, h1 | ⟨j, h1, h3⟩, h2⟩
    · exact h1.elim
    · rcases h2 with h2 | ⟨j2, h2, h4⟩
      · exact h2.elim
      · obtain rfl : a = j := by omega
        obtain rfl : b = j2 := by omega
        exact hf a b ha hb ⟨y, h3, h4⟩
/-- Labels hang on which edges stand at which place, and on no order. -/
theorem labF_same {Vs Ws : List VC} (hl : Ws.length = Vs.length) (h : ∀ i y, Ats Ws i y ↔ Ats Vs i y) : labF Ws = labF Vs := by
  have h1 := labF_lab Ws
  rw [hl] at h1
  refine h1.uniq ((labF_lab Vs).of_iff fun f => ?_)
  have : Sh Vs = Sh Ws := by
    funext i k
    refine propext ⟨?_, ?_⟩ <;> rintro ⟨y, a, b⟩
    · exact ⟨y, (h i y).2 a, (h k y).2 b⟩
    · exact ⟨y, (h i y).1 a, (h k y).1 b⟩
  rw [this]

/-! How many parts there are. -/
def rootB (L : List Int) (i : Nat) : Bool := L.getD i 0 == (i : Int)
def cntF (L : List Int) : Nat := (List.range L.length).countP (rootB L)
theorem cnt_up (n : Nat) : cntF (upN n) = n := by
  have hl : (upN n).length = n := by simp [upN]
  unfold cntF
  rw [hl]
  have : ∀ m, m ≤ n → (List.range m).countP (rootB (upN n)) = m := fun m => by
    induction m with
    | zero => intro _; rfl
    | succ k ih =>
      intro hk
      rw [List.range_succ, List.countP_append, ih (by omega)]
      have : rootB (upN n) k = true := by rw [rootB, up_get n k (by omega)]; simp
      simp [this]
  exact this n (Nat.le_refl _)
theorem cnt_set (p q : Nat → Bool) (m : Nat) (hm : p m = true) (hq : q m = false) (h : ∀ i, i ≠ m → q i = p i) : ∀ n, (List.range n).countP p = (List.range n).countP q + if m < n then 1 else 0 := by
  intro n
  exact countP_one q p m hq hm (fun j hj => (h j hj).symm) n
/-- To join two parts makes one of them; to join one to itself leaves as many. -/
theorem cnt_join {L : List Int} (hL : LbOk L) {p q : Nat} (hp : p < L.length) (hq : q < L.length) :
    cntF (joinF L (L.getD p 0) (L.getD q 0)) + (if L.getD p 0 = L.getD q 0 then 0 else 1) = cntF L := by
  obtain ⟨a0, a1, a2⟩ := hL p hp
  obtain ⟨b0, b1, b2⟩ := hL q hq
  obtain ⟨a, ga⟩ : ∃ a : Nat, L.getD p 0 = (a : Int) := ⟨(L.getD p 0).toNat, by omega⟩
  obtain ⟨b, gb⟩ : ∃ b : Nat, L.getD q 0 = (b : Int) := ⟨(L.getD q 0).toNat, by omega⟩
  rw [ga] at a1 a2 ⊢
  rw [gb] at b1 b2 ⊢
  rw [Int.toNat_natCast] at a2 b2
  unfold cntF
  rw [joinF_len]
  have hr : ∀ i, i < L.length → rootB (joinF L (a : Int) (b : Int)) i = (jf a b (L.getD i 0) == (i : Int)) := fun i hi => by rw [rootB, joinF_get L _ _ hi]
  by_cases e : (a : Int) = b
  · rw [if_pos e, Nat.add_zero]
    refine List.countP_congr fun i hi => ?_
    rw [hr i (List.mem_range.1 hi), rootB]
    rw [← e, show jf (a : Int) a (L.getD i 0) = L.getD i 0 by unfold jf; split <;> omega]
  · rw [if_neg e]
    have key : ∀ m : Nat, m < L.length → (m : Int) = max (a : Int) b → L.getD m 0 = (m : Int) → (List.range L.length).countP (rootB (joinF L (a : Int) (b : Int))) + 1 = (List.range L.length).countP (rootB L) := fun m hm hmx hmm => by
      have hz : rootB L m = true := by rw [rootB, hmm]; simp
      have h1 : (List.range L.length).countP (rootB (joinF L (a : Int) (b : Int))) = (List.range L.length).countP (fun i => rootB L i && decide (i ≠ m)) := by
        refine List.countP_congr fun i hi => ?_
        have hi := List.mem_range.1 hi
        rw [hr i hi]
        obtain ⟨c0, c1, c2⟩ := hL i hi
        simp only [rootB, beq_iff_eq, Bool.and_eq_true, decide_eq_true_eq]
        unfold jf
        split
        · rename_i hc
          constructor
          · intro h1
            have h2 : ((min (a : Int) b)) = i := h1
            rcases (by omega : a = i ∨ b = i) with rfl | rfl
            · exact ⟨a2, by omega⟩
            · exact ⟨b2, by omega⟩
          · rintro ⟨h1, h2⟩
            rw [h1] at hc
            omega
        · rename_i hc
          constructor
          · intro h1
            refine ⟨h1, ?_⟩
            rintro rfl
            rw [hmm] at hc
            omega
          · exact fun h => h.1
      rw [h1]
      have h2 := cnt_set (rootB L) (fun i => rootB L i && decide (i ≠ m)) m hz (by simp) (fun i hi => by simp [hi]) L.length
      rw [if_pos hm] at h2
      exact h2.symm
    by_cases hab : a < b
    · exact key b (by omega) (by omega) b2
    · exact key a (by omega) (by omega) a2
theorem cnt_joins {n : Nat} : ∀ (P : List (Nat × Nat)) (R : Nat → Nat → Prop) (L : List Int), (∀ e ∈ P, e.1 < n ∧ e.2 < n) → Lab n R L → cntF L ≤ cntF (joins P L) + P.length
  | [], R, L, _, h => by simp [joins]
  | e :: P, R, L, hP, h => by
    have h0 := hP e (List.mem_cons_self ..)
    have h1 := cnt_joins P _ _ (fun x hx => hP x (List.mem_cons_of_mem _ hx)) (h.join h0.1 h0.2)
    have h2 := cnt_join h.ok (p := e.1) (q := e.2) (by rw [h.len]; exact h0.1) (by rw [h.len]; exact h0.2)
    have h3 : joins (e :: P) L = joins P (joinF L (L.getD e.1 0) (L.getD e.2 0)) := rfl
    rw [h3, List.length_cons]
    split at h2 <;> omega
end Go.Proofs.Ytpindjknngcccaa

/- Rows of rows of one's own: each inner row in a block of its own, and growing. -/
namespace Go.Proofs.Ytpindjknngcccaa
open Go.RowKit
set_option linter.unusedSimpArgs false
set_option linter.unusedVariables false

section
variable {α : Type}
/-- A row as it lies in memory: where, with how much room, and what it holds. -/
abbrev Rw (α : Type) := Option Addr × Nat × List α
def rwV (x : Rw α) : Value := .slice x.1 x.2.2.length x.2.1
def rwC (x : Rw α) : List Value := [rwV x]
theorem rwC_len (x : Rw α) : (rwC x).length = 1 := rfl
structure RowsIn (W : World) (lo : Nat) (TR TE : TypeId) (s : Nat) (f : α → List Value) (A : Option Addr) (n c : Nat) (X : List (Rw α)) : Prop where
  row : W.ownsRow lo TR 1 (.slice A n c) n (rowsV rwC X)
  len : X.length = n
  one : ∀ x ∈ X, W.ownsRow lo TE s (rwV x) x.2.2.length (rowsV f x.2.2)
  ne : ∀ (i j : Nat) (x y : Rw α) (a b : Addr), i ≠ j → X[i]? = some x → X[j]? = some y → x.1 = some a → y.1 = some b → a.block ≠ b.block
variable {W W' : World} {lo : Nat} {TR TE : TypeId} {s : Nat} {f : α → List Value} {A : Option Addr} {n c : Nat} {X : List (Rw α)}
theorem RowsIn.up (h : RowsIn W lo TR TE s f A n c X) (hb : Below W.heap.size W W') : RowsIn W' lo TR TE s f A n c X :=
  ⟨own_up h.row hb, h.len, fun x hx => own_up (h.one x hx) hb, h.ne⟩
theorem RowsIn.al (h : RowsIn W lo TR TE s f A n c X) (o : Obj) : RowsIn (W.alloc o) lo TR TE s f A n c X := h.up (below1 W o)
theorem RowsIn.dr (h : RowsIn W lo TR TE s f A n c X) : RowsIn W.drew lo TR TE s f A n c X := h.up ((Below.refl _ _).drew)
theorem RowsIn.bl (h : RowsIn W lo TR TE s f A n c X) (hb : Below W.heap.size W W') : RowsIn W' lo TR TE s f A n c X := h.up hb
theorem RowsIn.nil_ (W : World) (lo : Nat) : RowsIn W lo TR TE s f none 0 0 ([] : List (Rw α)) :=
  ⟨World.ownsRow_nil W lo TR 1, rfl, fun x hx => (by cases hx), fun i j x y a b _ h => (by simp at h)⟩
/-- Two rows of two element types have two blocks. -/
theorem own_two {W : World} {l1 l2 k1 k2 n1 n2 g : Nat} {T1 T2 : TypeId} {v1 v2 : Value} {xs ys : List Value} (h : W.ownsRow l1 T1 k1 v1 n1 xs) (k : W.ownsRow l2 T2 k2 v2 n2 ys) (hT : T1 ≠ T2) (e1 : v1.ownBlock = some g) (e2 : v2.ownBlock = some g) : False := by
  rcases h.2 with ⟨rfl, h2⟩ | ⟨g', cap, cur, rfl, hb, hg, -⟩
  · cases e1
  rcases k.2 with ⟨rfl, k2⟩ | ⟨g2, cap2, cur2, rfl, hb2, hg2, -⟩
  · cases e2
  obtain rfl : g' = g := Option.some.inj e1
  obtain rfl : g2 = g' := Option.some.inj e2
  rw [hg] at hg2
  injection hg2 with q
  injection q with q1 q2
  exact hT q2
theorem rw_block (x : Rw α) : (rwV x).ownBlock = x.1.map (·.block) := by cases h : x.1 <;> simp [rwV, h, Value.ownBlock]
theorem RowsIn.far (h : RowsIn W lo TR TE s f A n c X) {r : Option Nat} (hg : W.grownBy W' r) (h1 : ∀ g, r = some g → (Value.slice A n c).ownBlock ≠ some g) (h2 : ∀ x ∈ X, ∀ g, r = some g → (rwV x).ownBlock ≠ some g) : RowsIn W' lo TR TE s f A n c X := by
  refine ⟨h.row.kept hg ?_, h.len, fun x hx => (h.one x hx).kept hg ?_, h.ne⟩
  · cases r with
    | none => cases hh : (Value.slice A n c).ownBlock <;> simp
    | some g => exact .inr (h1 g rfl)
  · cases r with
    | none => cases hh : (rwV x).ownBlock <;> simp
    | some g => exact .inr (h2 x hx g rfl)
/-- An empty row more. -/
theorem RowsIn.push_nil {P : Program} (h : RowsIn W lo TR TE s f A n c X) (t ty : TypeId) (i : TypeInfo) (z : Value) (ht : P.underlying t = some (.slice TR)) (hi : P.info? TR = some i) (hz : i.zero = some z) (hsize : i.size = 1) (hby : i.bytes = 24) (hzs : z.cells.size = 1)
    (hT : TR ≠ TE) (hn : n ≤ 1000000) (hlo : lo ≤ W.heap.size) (BB : Nat) (A1 : Option Addr) (c1 : Nat) (hr : RdS W BB 1 A1 1 c1 [.slice none 0 0]) :
    ∃ A' c' W', (Builtin.append_ #[t, t] ty #[.slice A n c, .slice A1 1 c1]).run P W = .ok (.slice A' (n + 1) c') W' ∧ RowsIn W' lo TR TE s f A' (n + 1) c' (X ++ [(none, 0, [])]) ∧ Below lo W W' ∧ W.grownBy W' (Value.slice A n c).ownBlock := by
  obtain ⟨a1, rfl⟩ : ∃ a1, A1 = some a1 := by
    cases A1 with
    | none => have := (hr.none_ rfl).1; omega
    | some a1 => exact ⟨a1, rfl⟩
  obtain ⟨v', W2, hrun, hown, hg, hn0, hb⟩ := run_append_own_at (P := P) W lo t ty TR i z 1 24 ht hi hz hsize hby hzs (by decide) _ n _ h.row a1 1 c1 _ hr.len (hr.cell a1 rfl) (by simp [Value.oneCell']) (by unfold maxLen; omega) (by omega) hlo
  have hk : ∀ k, (Value.slice A n c).ownBlock = some k → lo ≤ k := fun k hk => (h.row.lt k hk).1
  obtain ⟨A', c', rfl, _⟩ := RdS.of_own hown
  have e : rowsV rwC X ++ [Value.slice none 0 0] = rowsV rwC (X ++ [((none, 0, []) : Rw α)]) := by rw [rowsV_app]; rfl
  rw [e] at hown
  refine ⟨A', c', W2, hrun, ⟨hown, by simp [h.len], fun x hx => ?_, fun i j x y a b hij hx hy hxa hyb => ?_⟩, (Below.refl lo W).grown hg hlo hk, hg⟩
  · rcases List.mem_append.1 hx with hx | hx
    · refine (h.one x hx).kept hg ?_
      cases hv : (rwV x).ownBlock with
      | none => exact .inl rfl
      | some g => exact .inr fun q => own_two h.row (h.one x hx) hT q.symm hv
    · obtain rfl := List.mem_singleton.1 hx
      exact World.ownsRow_nil _ _ _ _
  · have get : ∀ (i : Nat) (x : Rw α) (a : Addr), (X ++ [((none, 0, []) : Rw α)])[i]? = some x → x.1 = some a → X[i]? = some x := fun i x a hx ha => by
      by_cases hi : i < X.length
      · rw [List.getElem?_append_left hi] at hx; exact hx
      · rw [List.getElem?_append_right (by omega)] at hx
        have hm := List.mem_of_getElem? hx
        obtain rfl := List.mem_singleton.1 hm
        cases ha
    exact h.ne i j x y a b hij (get i x a hx hxa) (get j y b hy hyb) hxa hyb
/-- One more in one of the rows: the append; and, in whatever world behind it, that the new row is laid into its place. -/
theorem RowsIn.grow {P : Program} (h : RowsIn W lo TR TE s f A n c X) {p : Nat} {x : Rw α} (hx : X[p]? = some x) (hs : ∀ y, (f y).length = s) (t ty : TypeId) (i : TypeInfo) (z : Value) (bytes : Nat) (ht : P.underlying t = some (.slice TE)) (hi : P.info? TE = some i) (hz : i.zero = some z) (hsize : i.size = s) (hby : i.bytes = bytes) (hzs : z.cells.size = s) (hs0 : 0 < s)
    (hT : TR ≠ TE) (hn : x.2.2.length ≤ 1000000) (hb24 : bytes ≤ 100) (hlo : lo ≤ W.heap.size) (BB : Nat) (A1 : Option Addr) (c1 : Nat) (y : α) (hr : RdS W BB s A1 1 c1 (f y)) (h1 : ∀ u ∈ f y, u.oneCell' = true) :
    ∃ A' c' W', (Builtin.append_ #[t, t] ty #[rwV x, .slice A1 1 c1]).run P W = .ok (rwV (A', c', x.2.2 ++ [y])) W' ∧ Below lo W W' ∧ W.grownBy W' (rwV x).ownBlock ∧
      ∀ W2, Below W'.heap.size W' W2 → ∃ g, A = some ⟨g, 0, none⟩ ∧ lo ≤ g ∧ (∃ cs, Whole W2 g TR cs) ∧ W2.cell? ⟨g, p, none⟩ = some (rwV x) ∧ W2.frozen? ⟨g, p, none⟩ = false ∧ RowsIn (W2.setCell ⟨g, p, none⟩ (rwV (A', c', x.2.2 ++ [y]))) lo TR TE s f A n c (X.set p (A', c', x.2.2 ++ [y])) := by
  obtain ⟨a1, rfl⟩ : ∃ a1, A1 = some a1 := by
    cases A1 with
    | none => have := (hr.none_ rfl).1; omega
    | some a1 => exact ⟨a1, rfl⟩
  have hox := h.one x (List.mem_of_getElem? hx)
  have hp : p < n := by have := (List.getElem?_eq_some_iff.1 hx).1; have := h.len; omega
  have hsum : (x.2.2.length + 1) * bytes ≤ 140737488355328 := Nat.le_trans (Nat.mul_le_mul_left _ hb24) (by omega)
  obtain ⟨v', W1, hrun, hown, hg, hn0, hbk⟩ := run_append_own_at (P := P) W lo t ty TE i z s bytes ht hi hz hsize hby hzs hs0 _ _ _ hox a1 1 c1 _ hr.len (hr.cell a1 rfl) h1 (by unfold maxLen; omega) hsum hlo
  have hk : ∀ k, (rwV x).ownBlock = some k → lo ≤ k := fun k hk => (hox.lt k hk).1
  obtain ⟨A', c', rfl, _⟩ := RdS.of_own hown
  have e : rowsV f x.2.2 ++ f y = rowsV f (x.2.2 ++ [y]) := by
    rw [rowsV_app]
    simp [rowsV]
  rw [e] at hown
  have hrow1 : W1.ownsRow lo TR 1 (.slice A n c) n (rowsV rwC X) := h.row.kept hg (by
    cases hv : (Value.slice A n c).ownBlock with
    | none => exact .inl rfl
    | some g => exact .inr fun q => own_two h.row hox hT hv q.symm)
  have hev : rwV (A', c', x.2.2 ++ [y]) = .slice A' (x.2.2.length + 1) c' := by simp [rwV]
  refine ⟨A', c', W1, by rw [hev]; exact hrun, (Below.refl lo W).grown hg hlo hk, hg, fun W2 hW2 => ?_⟩
  have hrow2 := own_up hrow1 hW2
  obtain ⟨g, junk, rfl, hg0, hw, hc, hf, hset⟩ := own_poke (i := 0) (y := (A', c', x.2.2 ++ [y])) (u := rwV (A', c', x.2.2 ++ [y])) rwC_len hrow2 hx hp (by decide) rfl
  simp only [Nat.mul_one, Nat.add_zero] at hc hf hset
  refine ⟨g, rfl, hg0, ⟨_, hw⟩, hc, hf, ⟨hset, by simp [h.len], fun u hu => ?_, fun i j u v a b hij hu hv hua hvb => ?_⟩⟩
  · have hnew : ∀ v m ys, W1.ownsRow lo TE s v m ys → (W2.setCell ⟨g, p, none⟩ (rwV (A', c', x.2.2 ++ [y]))).ownsRow lo TE s v m ys := fun v m ys hv => by
      have hv2 := own_up hv hW2
      refine own_cell_far hv2 (fun q => ?_) _
      exact own_two hrow2 hv2 hT rfl q.symm
    obtain ⟨q, hq⟩ := List.getElem?_of_mem hu
    rw [List.getElem?_set] at hq
    split at hq
    · split at hq
      · obtain rfl := Option.some.inj hq
        have h5 := hnew _ _ _ hown
        rw [← hev] at h5
        have e6 : (x.2.2 ++ [y]).length = x.2.2.length + 1 := by simp
        show (W2.setCell ⟨g, p, none⟩ (rwV (A', c', x.2.2 ++ [y]))).ownsRow lo TE s (rwV (A', c', x.2.2 ++ [y])) (x.2.2 ++ [y]).length (rowsV f (x.2.2 ++ [y]))
        rw [e6]
        exact h5
      · cases hq
    · rename_i hne
      refine hnew _ _ _ ((h.one u (List.mem_of_getElem? hq)).kept hg ?_)
      cases hv : (rwV u).ownBlock with
      | none => exact .inl rfl
      | some gu =>
        refine .inr fun q2 => ?_
        rw [rw_block] at hv q2
        cases hu1 : u.1 with
        | none => rw [hu1] at hv; cases hv
        | some au =>
          cases hx1 : x.1 with
          | none => rw [hx1] at q2; cases q2
          | some ax =>
            rw [hu1] at hv
            rw [hx1] at q2
            refine h.ne p q x u ax au hne hx hq hx1 hu1 ?_
            have h1 : au.block = gu := Option.some.inj hv
            have h2 := Option.some.inj q2
            first | exact h2.symm.trans h1.symm | exact h2.trans h1.symm | (simp only at h2; omega)
  · -- blocks are each another
    have old : ∀ (q : Nat) (u : Rw α) (a b : Addr), q ≠ p → X[q]? = some u → u.1 = some a → A' = some b → a.block ≠ b.block := fun q u a b hqp hq hua hAb hab => by
      have hbb : (Value.slice A' (x.2.2.length + 1) c').ownBlock = some b.block := by rw [hAb]; rfl
      have hlt := (h.one u (List.mem_of_getElem? hq)).lt a.block (by rw [rw_block, hua]; rfl)
      rcases hbk with hbk | hbk
      · rw [hbb, rw_block] at hbk
        cases hx1 : x.1 with
        | none => rw [hx1] at hbk; cases hbk
        | some ax =>
          rw [hx1] at hbk
          have h2 : b.block = ax.block := Option.some.inj hbk
          exact h.ne q p u x a ax hqp hq hx hua hx1 (by rw [hab, h2])
      · rw [hbb] at hbk
        have := Option.some.inj hbk
        omega
    rw [List.getElem?_set] at hu hv
    split at hu
    · rename_i hpi
      split at hu
      · split at hv
        · rename_i hpj; omega
        · rename_i hpj
          obtain rfl := Option.some.inj hu
          exact fun q => old j v b a (fun e => hpj e.symm) hv hvb hua q.symm
      · cases hu
    · rename_i hpi
      split at hv
      · split at hv
        · obtain rfl := Option.some.inj hv
          exact old i u a b (fun e => hpi e.symm) hu hua hvb
        · cases hv
      · exact h.ne i j u v a b hij hu hv hua hvb
end
end Go.Proofs.Ytpindjknngcccaa

/- Parts, on numbers: the names of each part's vertices, by its first one; and one vertex more. -/
namespace Go.Proofs.Ytpindjknngcccaa
open Go.RowKit
set_option linter.unusedSimpArgs false
set_option linter.unusedVariables false

/-- Which of the parts begins there. -/
def rk (L : List Int) (r : Nat) : Nat := (List.range r).countP (rootB L)
def rootsJ (L : List Int) (j : Nat) : List Nat := (List.range j).filter (rootB L)
def partJ (L : List Int) (N : Nat → I2) (j r : Nat) : List I2 := ((List.range j).filter fun k => L.getD k 0 == (r : Int)).map N
def partsJ (L : List Int) (N : Nat → I2) (j : Nat) : List (List I2) := (rootsJ L j).map (partJ L N j)
def nmV (Vs : List VC) (k : Nat) : I2 := (Vs.map (·.1)).getD k (0, 0)
def partsF (Vs : List VC) : List (List I2) := partsJ (labF Vs) (nmV Vs) Vs.length
theorem rootsJ_len (L : List Int) (j : Nat) : (rootsJ L j).length = rk L j := by rw [rootsJ, rk, List.countP_eq_length_filter]
theorem partsJ_len (L : List Int) (N : Nat → I2) (j : Nat) : (partsJ L N j).length = rk L j := by rw [partsJ, List.length_map, rootsJ_len]
theorem rootsJ_succ (L : List Int) (j : Nat) : rootsJ L (j + 1) = rootsJ L j ++ (if rootB L j then [j] else []) := by
  unfold rootsJ
  rw [List.range_succ, List.filter_append]
  cases h : rootB L j <;> simp [h]
theorem rk_succ (L : List Int) (j : Nat) : rk L (j + 1) = rk L j + (if rootB L j then 1 else 0) := by
  rw [← rootsJ_len, ← rootsJ_len, rootsJ_succ, List.length_append]
  cases rootB L j <;> rfl
theorem rootsJ_at {L : List Int} {l : Nat} (hl : rootB L l = true) : ∀ (j : Nat), l < j → (rootsJ L j)[rk L l]? = some l
  | 0, h => by omega
  | j + 1, h => by
    rw [rootsJ_succ]
    by_cases e : l = j
    · subst e
      rw [hl, ← rootsJ_len, List.getElem?_append_right (Nat.le_refl _), Nat.sub_self]
      rfl
    · have h1 := rootsJ_at hl j (by omega)
      rw [List.getElem?_append_left (List.getElem?_eq_some_iff.1 h1).1, h1]
theorem rootsJ_lt {L : List Int} {j r : Nat} (h : r ∈ rootsJ L j) : r < j ∧ rootB L r = true := by
  rw [rootsJ, List.mem_filter, List.mem_range] at h
  exact h
theorem nodup_idx {α : Type} {l : List α} (h : l.Nodup) {i j : Nat} (hi : i < l.length) (hj : j < l.length) (e : l[i] = l[j]) : i = j := by
  have h1 := List.pairwise_iff_getElem.1 h
  rcases Nat.lt_trichotomy i j with h2 | h2 | h2
  · exact absurd e (h1 i j hi hj h2)
  · exact h2
  · exact absurd e.symm (h1 j i hj hi h2)
theorem rootsJ_nodup (L : List Int) (j : Nat) : (rootsJ L j).Nodup := List.Nodup.sublist List.filter_sublist List.nodup_range
theorem partJ_succ (L : List Int) (N : Nat → I2) (j r : Nat) : partJ L N (j + 1) r = partJ L N j r ++ (if L.getD j 0 = (r : Int) then [N j] else []) := by
  unfold partJ
  rw [List.range_succ, List.filter_append, List.map_append]
  by_cases h : L.getD j 0 = (r : Int)
  · rw [if_pos h]
    simp only [List.filter_cons, h, beq_self_eq_true, if_true, List.filter_nil, List.map_cons, List.map_nil]
  · rw [if_neg h]
    have h1 : (L.getD j 0 == (r : Int)) = false := beq_eq_false_iff_ne.2 h
    simp only [List.filter_cons, h1, Bool.false_eq_true, if_false, List.filter_nil, List.map_nil]
/-- A vertex that begins a part. -/
theorem parts_root {L : List Int} (hL : LbOk L) (N : Nat → I2) {j : Nat} (hj : j < L.length) (hr : L.getD j 0 = (j : Int)) :
    partsJ L N (j + 1) = (partsJ L N j ++ [[]]).set (rk L j) [N j] := by
  have hb : rootB L j = true := by rw [rootB, hr]; simp
  have hl := partsJ_len L N j
  rw [partsJ, rootsJ_succ, hb, if_pos rfl, List.map_append, List.set_append_right _ _ (by omega), hl, Nat.sub_self]
  have e1 : (rootsJ L j).map (partJ L N (j + 1)) = partsJ L N j := by
    refine List.map_congr_left fun r h => ?_
    have := (rootsJ_lt h).1
    rw [partJ_succ, hr, if_neg (by omega), List.append_nil]
  have e2 : partJ L N (j + 1) j = [N j] := by
    rw [partJ_succ, hr, if_pos rfl]
    have : partJ L N j j = [] := by
      unfold partJ
      rw [List.filter_eq_nil_iff.2 fun k hk => ?_]
      · rfl
      · have hk := List.mem_range.1 hk
        have := (hL k (by omega)).2.1
        simp only [beq_iff_eq]
        omega
    rw [this]; rfl
  rw [e1]
  simp [e2]
/-- A vertex of a part that is there. -/
theorem parts_more {L : List Int} (hL : LbOk L) (N : Nat → I2) {j : Nat} (hj : j < L.length) {l : Nat} (hr : L.getD j 0 = (l : Int)) (hlj : l ≠ j) :
    l < j ∧ rootB L l = true ∧ (partsJ L N j)[rk L l]? = some (partJ L N j l) ∧ partsJ L N (j + 1) = (partsJ L N j).set (rk L l) (partJ L N j l ++ [N j]) := by
  obtain ⟨h0, h1, h2⟩ := hL j hj
  rw [hr] at h1 h2
  rw [Int.toNat_natCast] at h2
  have hlt : l < j := by omega
  have hb : rootB L l = true := by rw [rootB, h2]; simp
  have hbj : rootB L j = false := by
    rw [rootB, hr]
    exact beq_eq_false_iff_ne.2 (by omega)
  have hat := rootsJ_at hb j hlt
  have hat2 : (partsJ L N j)[rk L l]? = some (partJ L N j l) := by rw [partsJ, List.getElem?_map, hat]; rfl
  refine ⟨hlt, hb, hat2, ?_⟩
  have er : rootsJ L (j + 1) = rootsJ L j := by rw [rootsJ_succ, hbj]; simp
  refine List.ext_getElem? fun q => ?_
  rw [partsJ, er, List.getElem?_map, List.getElem?_set]
  by_cases hq : rk L l = q
  · subst hq
    rw [if_pos rfl, hat, if_pos (List.getElem?_eq_some_iff.1 hat2).1]
    show some (partJ L N (j + 1) l) = _
    rw [partJ_succ, hr, if_pos rfl]
  · rw [if_neg hq, partsJ, List.getElem?_map]
    cases hg : (rootsJ L j)[q]? with
    | none => rfl
    | some r =>
      show some (partJ L N (j + 1) r) = some (partJ L N j r)
      have hne : l ≠ r := by
        rintro rfl
        refine hq ?_
        have h5 := List.getElem?_eq_some_iff.1 hat
        have h6 := List.getElem?_eq_some_iff.1 hg
        exact nodup_idx (rootsJ_nodup L j) h5.1 h6.1 (h5.2.trans h6.2.symm)
      rw [partJ_succ, hr, if_neg (by omega), List.append_nil]
/-- The places of the parts that began. -/
def plcF (L : List Int) (j : Nat) (x : Int) : Option Nat := if 0 ≤ x ∧ x.toNat < j ∧ rootB L x.toNat = true then some (rk L x.toNat) else none
theorem plcF_more {L : List Int} {j l : Nat} (hl : l < j) (hb : rootB L l = true) : plcF L j (l : Int) = some (rk L l) := by
  unfold plcF
  rw [if_pos ⟨by omega, by simpa using hl, by simpa using hb⟩, Int.toNat_natCast]
theorem plcF_root {L : List Int} {j : Nat} (hb : rootB L j = true) : (fun x => if x = (j : Int) then some (rk L j) else plcF L j x) = plcF L (j + 1) := by
  funext x
  unfold plcF
  by_cases h : x = (j : Int)
  · subst h
    rw [if_pos rfl, if_pos ⟨by omega, by simp, by simpa using hb⟩, Int.toNat_natCast]
  · rw [if_neg h]
    by_cases h0 : 0 ≤ x
    · have : (x.toNat < j) = (x.toNat < j + 1) := by
        have : x.toNat ≠ j := by omega
        simp only [eq_iff_iff]
        omega
      simp only [this]
    · simp [h0]
theorem plcF_no {L : List Int} {j : Nat} (hb : rootB L j = false) : plcF L j = plcF L (j + 1) := by
  funext x
  unfold plcF
  by_cases h : x = (j : Int)
  · subst h
    simp [hb]
  · by_cases h0 : 0 ≤ x
    · have : (x.toNat < j) = (x.toNat < j + 1) := by
        have : x.toNat ≠ j := by omega
        simp only [eq_iff_iff]
        omega
      simp only [this]
    · simp [h0]
/-- The map of places, as it lies in memory. -/
def plcV (L : List Int) (j : Nat) (x : Int) : Option Value := (plcF L j x).map fun p : Nat => Value.int .i64 (p : Int)
end Go.Proofs.Ytpindjknngcccaa

/- comp.Parts, comp.Count. -/
namespace Go.Proofs.Ytpindjknngcccaa
open Go.RowKit Go.Maps
set_option linter.unusedSimpArgs false
set_option linter.unusedVariables false


def keyI : KeyK Try.prog 3 Int where
  enc x := .int .i64 x
  kl x := .int .i64 x
  wf x := (Lit.int .i64 x).wf = true
  keyed := int_keyed Try.underlying3 
  key x hx := keyOf_int_mk Try.underlying3 hx
  inj x y _ _ h := by injection h
  lit x hx := (int_keyed Try.underlying3).key (keyOf_int_mk Try.underlying3 hx)
theorem info_rowI : (Try.prog.info? 58).map (fun i => (i.zero, i.size, i.bytes)) = some (some (.slice none 0 0), 1, 24) := by kernel_rfl
theorem info_idI : (Try.prog.info? 35).map (fun i => (i.zero, i.size, i.bytes)) = some (some (.agg #[.int .i64 0, .int .i64 0]), 2, 16) := by kernel_rfl
abbrev PtIn (W : World) (lo : Nat) (A : Option Addr) (n c : Nat) (X : List (Rw I2)) : Prop := RowsIn W lo 58 35 2 idC A n c X
theorem plcV_nil (L : List Int) : plcV L 0 = fun _ => none := by
  funext x
  unfold plcV plcF
  rw [if_neg (by omega)]
  rfl
theorem plcV_put {W : World} {b n j : Nat} {L : List Int} (hb : rootB L j = true) (h : MapF W keyI b n (fun y => if y = (j : Int) then some (.int .i64 ((rk L j : Nat) : Int)) else plcV L j y)) : MapF W keyI b n (plcV L (j + 1)) := by
  have e : plcV L (j + 1) = (fun y => if y = (j : Int) then some (Value.int .i64 ((rk L j : Nat) : Int)) else plcV L j y) := by
    funext y
    unfold plcV
    rw [← plcF_root hb]
    simp only
    split <;> rfl
  rw [e]
  exact h
theorem plcV_no {j : Nat} {L : List Int} (hb : rootB L j = false) : plcV L (j + 1) = plcV L j := by
  unfold plcV
  rw [plcF_no hb]
theorem wf_nat (n : Nat) (h : n ≤ 1000000) : keyI.wf (n : Int) := by
  have e1 : IntKind.i64.min = -9223372036854775808 := by decide
  have e2 : IntKind.i64.max = 9223372036854775807 := by decide
  show (Lit.int .i64 (n : Int)).wf = true
  simp only [Lit.wf, e1, e2, Bool.and_eq_true, decide_eq_true_eq]
  omega
theorem idC_one (x : I2) : ∀ u ∈ idC x, u.oneCell' = true := by simp [idC, Value.oneCell']
theorem partsJ_up (L : List Int) (N : Nat → I2) (X : List (Rw I2)) (j : Nat) (h : X.map (·.2.2) = partsJ L N j) : X.length = rk L j := by
  have := congrArg List.length h
  rwa [List.length_map, partsJ_len] at this
theorem own_lo {W : World} {B B' n : Nat} {e : TypeId} {size : Nat} {v : Value} {xs : List Value} (h : W.ownsRow B e size v n xs) (hB : B' ≤ B) : W.ownsRow B' e size v n xs := by
  refine ⟨h.1, ?_⟩
  rcases h.2 with hn | ⟨g, cap, cur, h1, hb, rest⟩
  · exact .inl hn
  · exact .inr ⟨g, cap, cur, h1, Nat.le_trans hB hb, rest⟩
theorem map_set_ (X : List (Rw I2)) (p : Nat) (y : Rw I2) : (X.set p y).map (·.2.2) = (X.map (·.2.2)).set p y.2.2 := by rw [List.map_set]
set_option maxRecDepth 100000 in
set_option maxHeartbeats 4000000 in
theorem parts_any (A : Option Addr) (n c : Nat) (Vs : List VC) (B : Option Addr) (m k : Nat) (Es : List EC) (w : World) (h : DgIn w A n c Vs B m k Es) (hn : n ≤ 1000000) (hr : ∀ x ∈ Vs, x.2.1.2.1 ≤ 1000000) (hv : ∀ v ∈ Vs, ∀ d ∈ v.2.1.2.2.2, wfD d) :
    Calls Try.prog 67 #[.agg #[.slice A n c, .slice B m k]] w fun e w' => ∃ A2 c2 X, e = .returned (.slice A2 (cntF (labF Vs)) c2) ∧ PtIn w' w.heap.size A2 (cntF (labF Vs)) c2 X ∧ X.map (·.2.2) = partsF Vs ∧ Below w.heap.size w w' := by
  have HV := Lib.hid h.v
  have Hlv := Lib.hid (h.v.rlen vC_len (by decide))
  have HDa := Lib.hid h
  obtain ⟨i1I, hi1, hz01, hz11, hz21⟩ := info_partsD info_idI
  obtain ⟨i2I, hi2, hz02, hz12, hz22⟩ := info_partsD info_rowI
  obtain ⟨R, gR⟩ : ∃ z, partsF Vs = z := ⟨_, rfl⟩
  have hcn : cntF (labF Vs) = rk (labF Vs) n := by rw [cntF, labF_len, Hlv.out]; rfl
  rw [gR, hcn]
  unfold partsF at gR
  have hLok := labF_ok Vs
  have hll := labF_len Vs
  obtain ⟨L, gL⟩ : ∃ z, labF Vs = z := ⟨_, rfl⟩
  rw [gL] at gR hLok hll ⊢
  rw [Hlv.out] at gR hll
  have HLok := Lib.hid hLok
  have HLl := Lib.hid hll
  have HR0 := Lib.hid gR
  have HLb : RowKit.Hid (∀ W, DgIn W A n c Vs B m k Es → Calls Try.prog 85 #[.agg #[.slice A n c, .slice B m k]] W fun e w' => ∃ g, e = .returned (.slice (some ⟨g, 0, none⟩) n n) ∧ w'.ownsRow W.heap.size 3 1 (.slice (some ⟨g, 0, none⟩) n n) n (rowsV n1 L) ∧ Below W.heap.size W w') := Lib.hid (fun W h => by
    refine (labels_any A n c Vs B m k Es W h hn hr hv).mono ?_
    rintro e w' ⟨g, rfl, ho, hb⟩
    rw [gL] at ho
    exact ⟨g, rfl, ho, hb⟩)
  clear h hr hv gR gL hcn hLok hll
  have hmm := @run_makeMap Try.prog
  go_enter Try.func67, Try.ntmps67
  go_upto_region 1 with fail
  have hx0 : Whole (w.alloc (.cells #[.slice A n c, .slice B m k] 25)) (w.heap.size) 25 [.slice A n c, .slice B m k] := (Whole.new_ w 25 [.slice A n c, .slice B m k])
  have hbl : Below w.heap.size w (w.alloc (.cells #[.slice A n c, .slice B m k] 25)) := (below1 w (.cells #[.slice A n c, .slice B m k] 25))
  have hsz : w.heap.size + 1 ≤ ((w.alloc (.cells #[.slice A n c, .slice B m k] 25))).heap.size := by simp
  obtain ⟨W0, gW0⟩ : ∃ z, (w.alloc (.cells #[.slice A n c, .slice B m k] 25)) = z := ⟨_, rfl⟩
  rw [gW0] at hx0 hbl hsz
  obtain ⟨b0, gb0⟩ : ∃ z, w.heap.size = z := ⟨_, rfl⟩
  rw [gb0] at hx0
  have HX0 := Lib.hid hx0
  have HB0 := Lib.hid hbl
  have HS0 := Lib.hid hsz
  have Gb0 := Lib.hid gb0
  have Lb0 : RowKit.Hid (w.heap.size ≤ b0) := Lib.hid (by omega)
  rw [gW0, gb0]
  clear gW0 hbl hsz hx0 gb0
  have HDb := Lib.hid ((HDa.out.bl HB0.out).al (.map #[] 0))
  have HX1 := Lib.hid (HX0.out.al (.map #[] 0))
  have HB1 := Lib.hid (bel_al HB0.out (.map #[] 0))
  have HM1 : RowKit.Hid (MapF (W0.alloc (.map #[] 0)) keyI W0.heap.size 0 (plcV L 0)) := Lib.hid (by rw [plcV_nil]; exact MapF.made)
  have hbm0 : b0 < W0.heap.size := HX0.out.lt
  have hbm1 : W0.heap.size < (W0.alloc (.map #[] 0)).heap.size := by simp
  have hbm2 : w.heap.size ≤ b0 := Lb0.out
  have c0 := HX1.out.cell (i := 0) rfl
  have c1 := HX1.out.cell (i := 1) rfl
  go_wp2_with fail
  clear hmm c0 c1
  obtain ⟨W1, gW1⟩ : ∃ z, W0.alloc (.map #[] 0) = z := ⟨_, rfl⟩
  obtain ⟨bm, gbm⟩ : ∃ z, W0.heap.size = z := ⟨_, rfl⟩
  rw [gW1] at HDb HX1 HB1 HM1 hbm1 ⊢
  rw [gbm] at HM1 hbm0 hbm1 ⊢
  clear gW1 gbm HX0 HB0 HS0
  refine (HLb.out _ HDb.out).mono ?_
  rintro e w3 ⟨gl, rfl, hol, hb3⟩
  obtain ⟨lo, glo⟩ : ∃ z, w3.heap.size = z := ⟨_, rfl⟩
  have HX3 := Lib.hid (HX1.out.bl hb3)
  have HM3 := Lib.hid (HM1.out.bl hb3)
  have HB3 := Lib.hid (bel_bl HB1.out hb3)
  have Hgl : RowKit.Hid (bm < gl ∧ gl < lo) := Lib.hid (by have h1 := own_lt hol rfl; have h2 : W1.heap.size ≤ gl ∧ gl < w3.heap.size := h1; omega)
  have Hbm : RowKit.Hid (b0 < bm ∧ bm < lo) := Lib.hid (by have := Hgl.out; omega)
  have Hb0 : RowKit.Hid (w.heap.size ≤ b0) := Lib.hid hbm2
  have Hlo : RowKit.Hid (lo = w3.heap.size) := Lib.hid glo.symm
  have HOl : RowKit.Hid (RdS w3 w3.heap.size 1 (some ⟨gl, 0, none⟩) n n (rowsV n1 L)) := Lib.hid (own_rds hol)
  have HK3 : RowKit.Hid (Kept (fun i => i = bm ∨ lo ≤ i) w3 w3) := Lib.hid (Kept.refl _ _)
  have HP3 : RowKit.Hid (PtIn w3 lo none 0 0 []) := Lib.hid (RowsIn.nil_ _ _)
  clear hol hb3 HDb HX1 HB1 HM1 hbm0 hbm1 hbm2 HDa HLb glo
  go_wp2
  go_loopw [3, 12] (fun sl si wr => ∃ (j : Nat) (A2 : Option Addr) (c2 : Nat) (X : List (Rw I2)), j ≤ n ∧ si = .int .i64 j ∧ sl = .slice A2 (rk L j) c2 ∧ RowKit.Hid (Kept (fun i => i = bm ∨ lo ≤ i) w3 wr) ∧ RowKit.Hid (MapF wr keyI bm j (plcV L j)) ∧ RowKit.Hid (PtIn wr lo A2 (rk L j) c2 X) ∧ RowKit.Hid (X.map (·.2.2) = partsJ L (nmV Vs) j)) (fun _ si _ => n - (intOf si).toNat)
  case atStart => exact ⟨0, none, 0, [], by omega, rfl, rfl, HK3, HM3, HP3, Lib.hid rfl⟩
  case round =>
    clear HK3 HM3 HP3
    obtain ⟨j, A2, c2, X, hj, rfl, rfl, HK, HM, HP, HXm⟩ := hrel
    obtain ⟨wo, gwo⟩ : ∃ z, wr = z := ⟨_, rfl⟩
    rw [gwo] at HK HM HP ⊢
    clear gwo
    by_cases hjn : j < n
    · obtain ⟨v, hx⟩ : ∃ v, Vs[j]? = some v := ⟨_, List.getElem?_eq_getElem (by have := Hlv.out; omega)⟩
      have hnm : nmV Vs j = v.1 := by
        unfold nmV
        rw [List.getD_eq_getElem?_getD, List.getElem?_map, hx]
        rfl
      have hjL : j < L.length := by have := HLl.out; omega
      obtain ⟨l, hlj⟩ : ∃ l : Nat, L.getD j 0 = (l : Int) := ⟨(L.getD j 0).toNat, by have := (HLok.out j hjL).1; omega⟩
      have hlle : l ≤ j := by have := (HLok.out j hjL).2.1; omega
      have hcl : wo.cell? ⟨gl, j, none⟩ = some (.int .i64 (l : Int)) := by
        have h1 := rds_n1 HOl.out HLl.out hjn
        rw [hlj] at h1
        exact HK.out.cell h1 (by have := Hbm.out; have := Hgl.out; rintro (h | h) <;> (simp only at h; omega))
      obtain ⟨bb, off, rfl, hbB, hpl⟩ := HV.out.place vC_len (by decide) (by omega)
      have hbw := HB3.out
      have q0 := hpl j _ hx 0 _ rfl
      have q1 := hpl j _ hx 1 _ rfl
      have q2 := hpl j _ hx 2 _ rfl
      have q3 := hpl j _ hx 3 _ rfl
      have q4 := hpl j _ hx 4 _ rfl
      simp only [Addr.add_lit, Nat.add_zero] at q0 q1 q2 q3 q4
      have l0 := (hbw.cell (p := ⟨bb, off + j * 5, none⟩) hbB).trans q0
      have l1 := (hbw.cell (p := ⟨bb, off + j * 5 + 1, none⟩) hbB).trans q1
      have l2 := (hbw.cell (p := ⟨bb, off + j * 5 + 2, none⟩) hbB).trans q2
      have l3 := (hbw.cell (p := ⟨bb, off + j * 5 + 3, none⟩) hbB).trans q3
      have l4 := (hbw.cell (p := ⟨bb, off + j * 5 + 4, none⟩) hbB).trans q4
      clear hbw q0 q1 q2 q3 q4
      obtain ⟨⟨i1, i2⟩, ⟨rA, rn, rc, rL⟩, lb, at_⟩ := v
      replace hnm : nmV Vs j = (i1, i2) := hnm
      have q0 : w3.cell? ⟨bb, off + j * 5, none⟩ = some (.int .i64 i1) := l0
      have q1 : w3.cell? ⟨bb, off + j * 5 + 1, none⟩ = some (.int .i64 i2) := l1
      have Hbb : RowKit.Hid (bb < w.heap.size) := Lib.hid hbB
      clear l0 l1 l2 l3 l4 hx hbB hpl
      have hkj : rk L j ≤ j := by rw [rk]; have := List.countP_le_length (p := rootB L) (l := List.range j); simpa using this
      by_cases hlr : l = j
      · obtain rfl : j = l := hlr.symm
        have hb : rootB L j = true := by rw [rootB, hlj]; simp
        have hXN := parts_root HLok.out (nmV Vs) hjL hlj
        rw [hnm, ← HXm.out] at hXN
        have hlen := partsJ_up L (nmV Vs) X j HXm.out
        have hrs : rk L (j + 1) = rk L j + 1 := by rw [rk_succ, hb]; rfl
        have HrS := Lib.hid hrs
        have ht : ((j : Int) == j) = true := by simp
        obtain ⟨p, gp⟩ : ∃ z, rk L j = z := ⟨_, rfl⟩
        have HGp := Lib.hid gp
        have hwl := wf_nat j (by omega)
        have HMm := HM
        rw [gp] at HP hlen hrs hXN hkj
        rw [gp]
        go_upto_region 7 with fail
        refine wp_region_lit ?_
        refine wl_read (v := ?_) (some 20) rfl (by rfl) ?_ ?_
        rotate_left
        · go_simp; (try with_reducible rfl)
        simp only [Act.put, List.setIfInBounds_toArray, List.set_cons_zero, List.set_cons_succ]
        refine wl_read (v := ?_) (some 21) rfl (by rfl) ?_ ?_
        rotate_left
        · go_simp; (try with_reducible rfl)
        simp only [Act.put, List.setIfInBounds_toArray, List.set_cons_zero, List.set_cons_succ]
        refine wl_read (v := ?_) (some 22) rfl (by rfl) ?_ ?_
        rotate_left
        · go_simp; (try with_reducible rfl)
        simp only [Act.put, List.setIfInBounds_toArray, List.set_cons_zero, List.set_cons_succ]
        refine wl_read (v := ?_) (some 23) rfl (by rfl) ?_ ?_
        rotate_left
        · go_simp; (try with_reducible rfl)
        simp only [Act.put, List.setIfInBounds_toArray, List.set_cons_zero, List.set_cons_succ]
        have hcnt : j < maxLen := by unfold maxLen; omega
        refine wl_mapPut rfl _ _ _ rfl rfl HM.out Try.underlying99 hcnt hwl rfl rfl ?_
        intro w5 hm5 hg5
        have HM5 : RowKit.Hid (MapF w5 keyI bm (j + 1) (plcV L (j + 1))) := Lib.hid (plcV_put hb (by rw [gp]; exact hm5))
        have HK5 : RowKit.Hid (Kept (fun i => i = bm ∨ lo ≤ i) w3 w5) := Lib.hid (HK.out.trans ⟨hg5.os, hg5.tape, hg5.output, hg5.size, fun i hi hne => hg5.block i hi (fun q => hne (.inl (Option.some.inj q)))⟩)
        have HP5 : RowKit.Hid (PtIn w5 lo A2 p c2 X) := Lib.hid (HP.out.far hg5 (fun g q e => by have h1 := (HP.out.row.lt g e).1; have := Option.some.inj q; have := Hbm.out; omega) (fun x hxm g q e => by have h1 := ((HP.out.one x hxm).lt g e).1; have := Option.some.inj q; have := Hbm.out; omega))
        clear hm5 hg5 hcnt hwl HM HMm HK HP hcl
        simp only [Act.put, List.setIfInBounds_toArray, List.set_cons_zero, List.set_cons_succ]
        go_upto_region 8 with fail
        refine wp_region_lit ?_
        refine wl_read (v := ?_) (some 24) rfl (by rfl) ?_ ?_
        rotate_left
        · go_simp; (try with_reducible rfl)
        simp only [Act.put, List.setIfInBounds_toArray, List.set_cons_zero, List.set_cons_succ]
        refine wl_buildSlice (some 25) rfl (by rfl) 92 58 1 #[(0, .const (.slice none 0 0))] (by rfl) Try.underlying92 #[.slice none 0 0] (by kernel_rfl) ?_
        simp only [Act.put, List.setIfInBounds_toArray, List.set_cons_zero, List.set_cons_succ]
        have HL6 : RowKit.Hid (RdS (w5.alloc (.cells #[.slice none 0 0] 58)) (w5.alloc (.cells #[.slice none 0 0] 58)).heap.size 1 (some ⟨w5.heap.size, 0, none⟩) 1 1 [.slice none 0 0]) := Lib.hid (RdS.of_whole (cs := [.slice none 0 0]) (Whole.new_ _ _ _) rfl)
        obtain ⟨A3, c3, w6, hrun, hp6, hb6, hg6⟩ := (HP5.out.al (.cells #[.slice none 0 0] 58)).push_nil (P := Try.prog) 92 92 i2I _ Try.underlying92 hi2 hz02 hz12 hz22 rfl (by decide) (by omega) (by have := Hlo.out; have := HK5.out.size; simp; omega) _ _ _ HL6.out
        refine wl_run (some 26) rfl (by rfl) (exec_append (by rfl) (by rfl) (by rfl) hrun) ?_
        simp only [Act.put, List.setIfInBounds_toArray, List.set_cons_zero, List.set_cons_succ]
        have hlt6 : ∀ g, (Value.slice A2 p c2).ownBlock = some g → lo ≤ g := fun g e => (HP5.out.row.lt g e).1
        have HM6 := Lib.hid ((HM5.out.al (.cells #[.slice none 0 0] 58)).grown hg6 (fun q => by have := hlt6 bm q.symm; have := Hbm.out; omega))
        have HK6 : RowKit.Hid (Kept (fun i => i = bm ∨ lo ≤ i) w3 w6) := Lib.hid ((HK5.out.alloc (.cells #[.slice none 0 0] 58)).trans ⟨hg6.os, hg6.tape, hg6.output, hg6.size, fun i hi hne => hg6.block i hi (fun q => hne (.inr (hlt6 i q.symm)))⟩)
        have HP6 : RowKit.Hid (PtIn w6 lo A3 (p + 1) c3 (X ++ [(none, 0, [])])) := Lib.hid hp6
        clear hrun hp6 hb6 hg6 hlt6 HL6 HP5 HK5 HM5
        go_upto_region 9 with fail
        refine wp_region_lit ?_
        refine wl_read (v := ?_) (some 27) rfl (by rfl) ?_ ?_
        rotate_left
        · go_simp; (try with_reducible rfl)
        simp only [Act.put, List.setIfInBounds_toArray, List.set_cons_zero, List.set_cons_succ]
        refine wl_read (v := ?_) (some 28) rfl (by rfl) ?_ ?_
        rotate_left
        · go_simp; (try with_reducible rfl)
        simp only [Act.put, List.setIfInBounds_toArray, List.set_cons_zero, List.set_cons_succ]
        refine wl_mapGet rfl _ _ rfl rfl HM6.out Try.underlying99 (zero_intK _) (x := (j : Int)) (wf_nat j (by omega)) rfl ?_
        have hpl : (plcV L (j + 1) (j : Int)).getD (.int .i64 0) = .int .i64 (p : Int) := by
          unfold plcV
          rw [plcF_more (Nat.lt_succ_self j) hb, gp]
          rfl
        rw [hpl]
        simp only [Act.put, List.setIfInBounds_toArray, List.set_cons_zero, List.set_cons_succ]
        have hx : (X ++ [((none, 0, []) : Rw I2)])[p]? = some (none, 0, []) := by
          rw [← hlen, List.getElem?_append_right (Nat.le_refl _), Nat.sub_self]
          rfl
        have HXN : RowKit.Hid (∀ A8 c8, ((X ++ [((none, 0, []) : Rw I2)]).set p (A8, c8, [(i1, i2)])).map (·.2.2) = partsJ L (nmV Vs) (j + 1)) := Lib.hid (fun A8 c8 => by rw [map_set_, List.map_append, hXN]; rfl)
        have hpn : p < p + 1 := by omega
        obtain ⟨x, gx⟩ : ∃ z, ((none, 0, []) : Rw I2) = z := ⟨_, rfl⟩
        have hxl : x.2.2.length ≤ 1000000 := by rw [← gx]; simp
        have HGx : RowKit.Hid (x.2.2 = []) := Lib.hid (by rw [← gx])
        rw [gx] at hx HXN HP6
        obtain ⟨X2, gX2⟩ : ∃ z, X ++ [x] = z := ⟨_, rfl⟩
        rw [gX2] at hx HXN HP6
        clear gx gX2 hXN hlen hpl HXm hnm hlj hjL hb gp
        obtain ⟨wo, gwo⟩ : ∃ z, w6 = z := ⟨_, rfl⟩
        rw [gwo] at HM6 HK6 HP6 ⊢
        clear gwo
        have HR := HP6
        have HKo := HK6
        have HMo := HM6
        obtain ⟨n2, gn2⟩ : ∃ z, p + 1 = z := ⟨_, rfl⟩
        have HG2 := Lib.hid gn2
        rw [gn2] at HR hpn ⊢
        clear gn2 HP6 HK6 HM6
        obtain ⟨A2, gA2⟩ : ∃ z, A3 = z := ⟨_, rfl⟩
        obtain ⟨c2, gc2⟩ : ∃ z, c3 = z := ⟨_, rfl⟩
        rw [gA2, gc2] at HR ⊢
        clear gA2 gc2
        obtain ⟨X, gX⟩ : ∃ z, X2 = z := ⟨_, rfl⟩
        rw [gX] at HR HXN hx
        clear gX
        obtain ⟨g2, junk2, eA2, hg2, hw2, hc2, hf2, -⟩ := own_poke (i := 0) (y := x) (u := rwV x) rwC_len HR.out.row hx hpn (by decide) rfl
        subst eA2
        simp only [Nat.mul_one, Nat.add_zero] at hc2
        replace hc2 : wo.cell? ⟨g2, p, none⟩ = some (rwV x) := hc2
        have hxm := List.mem_of_getElem? hx
        have hob : ∀ i, some i = (rwV x).ownBlock → lo ≤ i := fun i hi => ((HR.out.one x hxm).lt i hi.symm).1
        have hg2b : some g2 ≠ (rwV x).ownBlock := fun q => own_two HR.out.row (HR.out.one x hxm) (by decide) rfl q.symm
        have HXo := Lib.hid (HKo.out.whole HX3.out (by have := Hbm.out; have := Hlo.out; rintro (h | h) <;> omega))
        have hDx : ∀ i : Nat, ¬ some b0 = (rwV x).ownBlock := fun i q => by have := hob b0 q; have := Hlo.out; have := HX3.out.lt; omega
        have hVo := HKo.out.cell (p := ⟨bb, off + j * 5, none⟩) q0 (by have := Hbm.out; have := Hlo.out; have := Hb0.out; have := Hbb.out; rintro (h | h) <;> (simp only at h; omega))
        have hVo1 := HKo.out.cell (p := ⟨bb, off + j * 5 + 1, none⟩) q1 (by have := Hbm.out; have := Hlo.out; have := Hb0.out; have := Hbb.out; rintro (h | h) <;> (simp only at h; omega))
        have hVb : ¬ some bb = (rwV x).ownBlock := fun q => by have := hob bb q; have := Hbm.out; have := Hlo.out; have := Hb0.out; have := Hbb.out; omega
        obtain ⟨xv, gxv⟩ : ∃ z, rwV x = z := ⟨_, rfl⟩
        have GX := Lib.hid gxv
        rw [gxv] at hc2 hob hg2b hDx hVb
        have ld0 : ∀ w', Kept (fun i => some i = xv.ownBlock) wo.drew w' → w'.cell? ⟨g2, p, none⟩ = some xv := fun w' h => h.cell (show wo.drew.cell? _ = _ from hc2) hg2b
        have ld1 : ∀ w', Kept (fun i => some i = xv.ownBlock) wo.drew w' → w'.cell? ⟨b0, 0, none⟩ = some (.slice (some ⟨bb, off, none⟩) n c) := fun w' h => h.cell (HXo.out.dr.cell (i := 0) rfl) (hDx 0)
        have ld2 : ∀ w', Kept (fun i => some i = xv.ownBlock) wo.drew w' → w'.cell? ⟨bb, off + j * 5, none⟩ = some (.int .i64 i1) := fun w' h => h.cell (show wo.drew.cell? _ = _ from hVo) hVb
        have ld3 : ∀ w', Kept (fun i => some i = xv.ownBlock) wo.drew w' → w'.cell? ⟨bb, off + j * 5 + 1, none⟩ = some (.int .i64 i2) := fun w' h => h.cell (show wo.drew.cell? _ = _ from hVo1) hVb
        have HXl : RowKit.Hid (x.2.2.length ≤ 1000000) := Lib.hid hxl
        have HPx : RowKit.Hid (X[p]? = some x) := Lib.hid hx
        have HKd := Lib.hid HKo.out.drew
        have HMd := Lib.hid HMo.out.dr
        have HRd := Lib.hid HR.out.dr
        have HOb : RowKit.Hid (∀ i, some i = xv.ownBlock → lo ≤ i) := Lib.hid hob
        clear hc2 hob hg2b hDx hVb hVo hVo1 hxm hw2 hf2 hx hxl HKo HMo HR HXo gxv
        go_upto_region 10 with fail
        refine wp_region_tail ((fun i => some i = xv.ownBlock)) [15] (by kernel_rfl) ?_
        apply wpT_next 0 (some 30) (by kernel_rfl)
        · simp only [List.getElem?_toArray, List.getElem?_cons_succ, List.getElem?_cons_zero]; exact rfl
        · rfl
        · kernel_rfl
        · kernel_rfl
        · kernel_rfl
        · exact fun _ _ _ _ h => h
        apply Exists.intro
        apply And.intro
        · apply yr_run; rfl; intro w' hw'; go_simp; (try with_reducible rfl)
        simp only [Act.put, List.setIfInBounds_toArray, List.set_cons_zero, List.set_cons_succ]
        apply wpT_next 1 (some 31) (by kernel_rfl)
        · simp only [List.getElem?_toArray, List.getElem?_cons_succ, List.getElem?_cons_zero]; exact rfl
        · rfl
        · kernel_rfl
        · kernel_rfl
        · kernel_rfl
        · exact fun _ _ _ _ h => h
        apply Exists.intro
        apply And.intro
        · apply yr_run; rfl; intro w' hw'; go_simp; (try with_reducible rfl)
        simp only [Act.put, List.setIfInBounds_toArray, List.set_cons_zero, List.set_cons_succ]
        apply wpT_next 2 (some 32) (by kernel_rfl)
        · simp only [List.getElem?_toArray, List.getElem?_cons_succ, List.getElem?_cons_zero]; exact rfl
        · rfl
        · kernel_rfl
        · kernel_rfl
        · kernel_rfl
        · exact fun _ _ _ _ h => h
        apply Exists.intro
        apply And.intro
        · apply yr_run; rfl; intro w' hw'; go_simp; (try with_reducible rfl)
        simp only [Act.put, List.setIfInBounds_toArray, List.set_cons_zero, List.set_cons_succ]
        apply wpT_next 3 (some 33) (by kernel_rfl)
        · simp only [List.getElem?_toArray, List.getElem?_cons_succ, List.getElem?_cons_zero]; exact rfl
        · rfl
        · kernel_rfl
        · kernel_rfl
        · kernel_rfl
        · exact fun _ _ _ _ h => h
        apply Exists.intro
        apply And.intro
        · apply yr_run; rfl; intro w' hw'; go_simp; (try with_reducible rfl)
        simp only [Act.put, List.setIfInBounds_toArray, List.set_cons_zero, List.set_cons_succ]
        apply wpT_next 4 (some 34) (by kernel_rfl)
        · simp only [List.getElem?_toArray, List.getElem?_cons_succ, List.getElem?_cons_zero]; exact rfl
        · rfl
        · kernel_rfl
        · kernel_rfl
        · kernel_rfl
        · exact fun _ _ _ _ h => h
        apply Exists.intro
        apply And.intro
        · apply yr_run; rfl; intro w' hw'; go_simp; (try with_reducible rfl)
        simp only [Act.put, List.setIfInBounds_toArray, List.set_cons_zero, List.set_cons_succ]
        apply wpT_next 5 (some 35) (by kernel_rfl)
        · simp only [List.getElem?_toArray, List.getElem?_cons_succ, List.getElem?_cons_zero]; exact rfl
        · rfl
        · kernel_rfl
        · kernel_rfl
        · kernel_rfl
        · exact fun _ _ _ _ h => h
        apply Exists.intro
        apply And.intro
        · apply yr_run; rfl; intro w' hw'; go_simp; (try with_reducible rfl)
        simp only [Act.put, List.setIfInBounds_toArray, List.set_cons_zero, List.set_cons_succ]
        apply wpT_next 6 (some 36) (by kernel_rfl)
        · simp only [List.getElem?_toArray, List.getElem?_cons_succ, List.getElem?_cons_zero]; exact rfl
        · rfl
        · kernel_rfl
        · kernel_rfl
        · kernel_rfl
        · exact fun _ _ _ _ h => h
        apply Exists.intro
        apply And.intro
        · apply yr_run; rfl; intro w' hw'; go_simp; (try with_reducible rfl)
        simp only [Act.put, List.setIfInBounds_toArray, List.set_cons_zero, List.set_cons_succ]
        apply wpT_next 7 (some 37) (by kernel_rfl)
        · simp only [List.getElem?_toArray, List.getElem?_cons_succ, List.getElem?_cons_zero]; exact rfl
        · rfl
        · kernel_rfl
        · kernel_rfl
        · kernel_rfl
        · exact fun _ _ _ _ h => h
        apply Exists.intro
        apply And.intro
        · apply yr_run; rfl; intro w' hw'; go_simp; (try with_reducible rfl)
        simp only [Act.put, List.setIfInBounds_toArray, List.set_cons_zero, List.set_cons_succ]
        apply wpT_next 8 (some 38) (by kernel_rfl)
        · simp only [List.getElem?_toArray, List.getElem?_cons_succ, List.getElem?_cons_zero]; exact rfl
        · rfl
        · kernel_rfl
        · kernel_rfl
        · kernel_rfl
        · exact fun _ _ _ _ h => h
        apply Exists.intro
        apply And.intro
        · apply yr_run; rfl; intro w' hw'; go_simp; (try with_reducible rfl)
        simp only [Act.put, List.setIfInBounds_toArray, List.set_cons_zero, List.set_cons_succ]
        apply wpT_next 9 (some 39) (by kernel_rfl)
        · simp only [List.getElem?_toArray, List.getElem?_cons_succ, List.getElem?_cons_zero]; exact rfl
        · rfl
        · kernel_rfl
        · kernel_rfl
        · kernel_rfl
        · exact fun _ _ _ _ h => h
        apply Exists.intro
        apply And.intro
        · apply yr_run; rfl; intro w' hw'; go_simp; (try with_reducible rfl)
        simp only [Act.put, List.setIfInBounds_toArray, List.set_cons_zero, List.set_cons_succ]
        apply wpT_next 10 (some 40) (by kernel_rfl)
        · simp only [List.getElem?_toArray, List.getElem?_cons_succ, List.getElem?_cons_zero]; exact rfl
        · rfl
        · kernel_rfl
        · kernel_rfl
        · kernel_rfl
        · exact fun _ _ _ _ h => h
        apply Exists.intro
        apply And.intro
        · apply yr_run; rfl; intro w' hw'; go_simp; (try with_reducible rfl)
        simp only [Act.put, List.setIfInBounds_toArray, List.set_cons_zero, List.set_cons_succ]
        apply wpT_next 11 (some 41) (by kernel_rfl)
        · simp only [List.getElem?_toArray, List.getElem?_cons_succ, List.getElem?_cons_zero]; exact rfl
        · rfl
        · kernel_rfl
        · kernel_rfl
        · kernel_rfl
        · exact fun _ _ _ _ h => h
        apply Exists.intro
        apply And.intro
        · apply yr_run; rfl; intro w' hw'; go_simp; (try with_reducible rfl)
        simp only [Act.put, List.setIfInBounds_toArray, List.set_cons_zero, List.set_cons_succ]
        apply wpT_run 12 (some 42)
        · simp only [List.getElem?_toArray, List.getElem?_cons_succ, List.getElem?_cons_zero]; exact rfl
        · rfl
        · kernel_rfl
        · rfl
        intro w' hw'
        refine ⟨.slice (some ⟨w'.heap.size, 0, none⟩) 1 1, w'.alloc (.cells (idC (i1, i2)).toArray 35), exec_buildSlice 58 35 1 #[(0, .tmp 41)] (by rfl) Try.underlying58 _ (by kernel_rfl), Kept.of_below (below1 _ _), ?_⟩
        have HL : RowKit.Hid (RdS (w'.alloc (.cells (idC (i1, i2)).toArray 35)) (w'.alloc (.cells (idC (i1, i2)).toArray 35)).heap.size 2 (some ⟨w'.heap.size, 0, none⟩) 1 1 (idC (i1, i2))) := Lib.hid (RdS.of_whole (Whole.new_ _ _ _) rfl)
        have HKe := Lib.hid (HKd.out.trans (Kept.of_below (bel_al hw' (.cells (idC (i1, i2)).toArray 35))))
        have HMe := Lib.hid ((HMd.out.bl hw').al (.cells (idC (i1, i2)).toArray 35))
        have HRe := Lib.hid ((HRd.out.bl hw').al (.cells (idC (i1, i2)).toArray 35))
        obtain ⟨W3, gW3⟩ : ∃ z, w'.alloc (.cells (idC (i1, i2)).toArray 35) = z := ⟨_, rfl⟩
        obtain ⟨g3, gg3⟩ : ∃ z, w'.heap.size = z := ⟨_, rfl⟩
        rw [gW3] at HL HKe HMe HRe ⊢
        rw [gg3] at HL ⊢
        clear hw' gW3 gg3 HKd HMd HRd
        simp only [Act.put, List.setIfInBounds_toArray, List.set_cons_zero, List.set_cons_succ]
        apply wpT_run 13 (some 43)
        · simp only [List.getElem?_toArray, List.getElem?_cons_succ, List.getElem?_cons_zero]; exact rfl
        · rfl
        · kernel_rfl
        · rfl
        intro w' hw'
        obtain ⟨A8, c8, w'', hrun, hb8, hg8, hk8⟩ := (HRe.out.bl hw').grow (P := Try.prog) HPx.out idC_len 58 58 i1I _ 16 Try.underlying58 hi1 hz01 hz11 hz21 rfl (by decide) (by decide) HXl.out (by decide) (by have := Hlo.out; have := HKe.out.size; have := hw'.size; omega) _ _ 1 (i1, i2) (HL.out.bl hw') (idC_one _)
        refine ⟨_, w'', exec_append (by rfl) (by rfl) (by rfl) (by rw [← GX.out]; exact hrun), ⟨hg8.os, hg8.tape, hg8.output, hg8.size, fun i hi hne => hg8.block i hi (by rw [GX.out]; exact hne)⟩, ?_⟩
        have hmb : some bm ≠ (rwV x).ownBlock := fun q => by have h1 := HOb.out bm (by rw [← GX.out]; exact q); have := Hbm.out; have := Hlo.out; omega
        have HM8 := Lib.hid (MapF.grown (HMe.out.bl hw') hg8 hmb)
        have hkk : Kept (fun i => i = bm ∨ lo ≤ i) w' w'' := ⟨hg8.os, hg8.tape, hg8.output, hg8.size, fun i hi hne => hg8.block i hi (fun q => hne (.inr (HOb.out i (by rw [← GX.out]; exact q))))⟩
        have HK8 := Lib.hid ((HKe.out.trans (Kept.of_below hw')).trans hkk)
        have Hk8 := Lib.hid hk8
        obtain ⟨W4, gW4⟩ : ∃ z, w'' = z := ⟨_, rfl⟩
        rw [gW4] at HM8 HK8 Hk8 ⊢
        obtain ⟨n8, gn8⟩ : ∃ z, (x.2.2 ++ [(i1, i2)]).length = z := ⟨_, rfl⟩
        have e8 : rwV (A8, c8, x.2.2 ++ [(i1, i2)]) = .slice A8 n8 c8 := by rw [← gn8]; rfl
        rw [e8] at Hk8 ⊢
        clear hw' hrun hb8 hg8 hk8 hmb hkk gW4 HL HKe HMe HRe e8 gn8
        simp only [Act.put, List.setIfInBounds_toArray, List.set_cons_zero, List.set_cons_succ]
        apply wpT_next 14 (some 44) (by kernel_rfl)
        · simp only [List.getElem?_toArray, List.getElem?_cons_succ, List.getElem?_cons_zero]; exact rfl
        · rfl
        · kernel_rfl
        · kernel_rfl
        · kernel_rfl
        · exact fun _ _ _ _ h => h
        apply Exists.intro
        apply And.intro
        · apply yr_run; rfl; intro w' hw'; go_simp; (try with_reducible rfl)
        simp only [Act.put, List.setIfInBounds_toArray, List.set_cons_zero, List.set_cons_succ]
        apply wpT_last 15
        · simp only [List.getElem?_toArray, List.getElem?_cons_succ, List.getElem?_cons_zero]; exact rfl
        · rfl
        · kernel_rfl
        · rfl
        · decide
        intro w' hw'
        obtain ⟨gq, eq, hloq, ⟨csq, hwq⟩, hcq, hfq, hMq⟩ := Hk8.out w' hw'
        obtain rfl : g2 = gq := by
          injection eq with eq
          injection eq
        refine ⟨w'.setCell ⟨g2, p, none⟩ (.slice A8 n8 c8), by (rw [← GX.out] at ld0; go_simp; first | done | exact rfl | exact ⟨rfl, rfl⟩), ?_⟩
        have HR9 := Lib.hid hMq
        have hkk : Kept (fun i => i = bm ∨ lo ≤ i) w' (w'.setCell ⟨g2, p, none⟩ (.slice A8 n8 c8)) := (Kept.refl _ w').setCell (.inl (.inr hloq)) (.slice A8 n8 c8)
        have HK9 := Lib.hid ((HK8.out.trans (Kept.of_below hw')).trans hkk)
        have HM9 : RowKit.Hid (MapF (w'.setCell ⟨g2, p, none⟩ (.slice A8 n8 c8)) keyI bm (j + 1) (plcV L (j + 1))) := Lib.hid ((HM8.out.bl hw').kept (S := fun i => i = g2) (Kept.setCell (S := fun i => i = g2) (p := ⟨g2, p, none⟩) (Kept.refl _ w') (.inl rfl) _) (by have := Hbm.out; have := Hlo.out; omega))
        obtain ⟨W7, gW7⟩ : ∃ z, w'.setCell ⟨g2, p, none⟩ (.slice A8 n8 c8) = z := ⟨_, rfl⟩
        rw [gW7] at HR9 HK9 HM9 ⊢
        clear hw' eq hloq hwq hcq hfq hMq hkk gW7 HM8 HK8 Hk8
        try simp only [Act.put, List.setIfInBounds_toArray, List.set_cons_zero, List.set_cons_succ]
        refine wpT_done (by kernel_rfl) ?_ _
        intro W8 hw8
        have HR10 := Lib.hid (HR9.out.bl hw8)
        have HK10 := Lib.hid (HK9.out.trans (Kept.of_below hw8))
        have HM10 := Lib.hid (HM9.out.bl hw8)
        clear hw8 HR9 HK9 HM9
        go_wp2
        go_roundw
        case rel => exact ⟨j + 1, some ⟨g2, 0, none⟩, c2, _, by omega, by go_num, by rw [HrS.out, HGp.out, HG2.out], HK10, HM10.out.mono (by omega) |> Lib.hid, (by rw [HrS.out, HGp.out, HG2.out]; exact HR10), Lib.hid (by rw [HGx.out]; exact HXN.out _ _)⟩
        case measure => simp [intOf]; omega
      · have hlt := parts_more HLok.out (nmV Vs) hjL hlj hlr
        obtain ⟨hl1, hb, hat, hXN⟩ := hlt
        have hbj : rootB L j = false := by
          rw [rootB, hlj]
          exact beq_eq_false_iff_ne.2 (by omega)
        have ht : ((l : Int) == (j : Int)) = false := beq_eq_false_iff_ne.2 (by omega)
        have hrs : rk L (j + 1) = rk L j := by rw [rk_succ, hbj]; rfl
        have HrS := Lib.hid hrs
        have hlen := partsJ_up L (nmV Vs) X j HXm.out
        obtain ⟨x, hx, hxr⟩ : ∃ x, X[rk L l]? = some x ∧ x.2.2 = partJ L (nmV Vs) j l := by
          have h1 := hat
          rw [← HXm.out, List.getElem?_map] at h1
          cases hq : X[rk L l]? with
          | none => rw [hq] at h1; cases h1
          | some x => rw [hq] at h1; exact ⟨x, rfl, Option.some.inj h1⟩
        have hpn : rk L l < rk L j := by have := (List.getElem?_eq_some_iff.1 hx).1; omega
        have hxl : x.2.2.length ≤ 1000000 := by
          rw [hxr, partJ, List.length_map]
          have h8 := List.length_filter_le (fun k => L.getD k 0 == (l : Int)) (List.range j)
          rw [List.length_range] at h8
          omega
        have hplc : (plcV L j (l : Int)).getD (.int .i64 0) = .int .i64 ((rk L l : Nat) : Int) := by
          unfold plcV
          rw [plcF_more hl1 hb]
          rfl
        obtain ⟨p, gp⟩ : ∃ z, rk L l = z := ⟨_, rfl⟩
        rw [gp] at hx hpn hplc hXN
        have HXN : RowKit.Hid (∀ A8 c8, (X.set p (A8, c8, x.2.2 ++ [(i1, i2)])).map (·.2.2) = partsJ L (nmV Vs) (j + 1)) := Lib.hid (fun A8 c8 => by rw [map_set_, hXN, HXm.out, ← hxr, hnm])
        go_upto_region 9 with fail
        refine wp_region_lit ?_
        refine wl_read (v := ?_) (some 27) rfl (by rfl) ?_ ?_
        rotate_left
        · go_simp; (try with_reducible rfl)
        simp only [Act.put, List.setIfInBounds_toArray, List.set_cons_zero, List.set_cons_succ]
        refine wl_read (v := ?_) (some 28) rfl (by rfl) ?_ ?_
        rotate_left
        · go_simp; (try with_reducible rfl)
        simp only [Act.put, List.setIfInBounds_toArray, List.set_cons_zero, List.set_cons_succ]
        refine wl_mapGet rfl _ _ rfl rfl HM.out Try.underlying99 (zero_intK _) (x := (l : Int)) (wf_nat l (by omega)) rfl ?_
        rw [hplc]
        simp only [Act.put, List.setIfInBounds_toArray, List.set_cons_zero, List.set_cons_succ]
        have HM6 : RowKit.Hid (MapF wo keyI bm j (plcV L (j + 1))) := Lib.hid (by rw [plcV_no hbj]; exact HM.out)
        have HR := HP
        have HKo := HK
        have HMo := HM6
        clear HM HM6 HP HK hplc gp hxr hat hXN hl1 hb hbj hrs hlen HXm hnm hlj hlr hlle hjL hcl ht
        obtain ⟨n2, gn2⟩ : ∃ z, rk L j = z := ⟨_, rfl⟩
        have HG2 := Lib.hid gn2
        rw [gn2] at HR hpn hkj ⊢
        clear gn2
        obtain ⟨g2, junk2, eA2, hg2, hw2, hc2, hf2, -⟩ := own_poke (i := 0) (y := x) (u := rwV x) rwC_len HR.out.row hx hpn (by decide) rfl
        subst eA2
        simp only [Nat.mul_one, Nat.add_zero] at hc2
        replace hc2 : wo.cell? ⟨g2, p, none⟩ = some (rwV x) := hc2
        have hxm := List.mem_of_getElem? hx
        have hob : ∀ i, some i = (rwV x).ownBlock → lo ≤ i := fun i hi => ((HR.out.one x hxm).lt i hi.symm).1
        have hg2b : some g2 ≠ (rwV x).ownBlock := fun q => own_two HR.out.row (HR.out.one x hxm) (by decide) rfl q.symm
        have HXo := Lib.hid (HKo.out.whole HX3.out (by have := Hbm.out; have := Hlo.out; rintro (h | h) <;> omega))
        have hDx : ∀ i : Nat, ¬ some b0 = (rwV x).ownBlock := fun i q => by have := hob b0 q; have := Hlo.out; have := HX3.out.lt; omega
        have hVo := HKo.out.cell (p := ⟨bb, off + j * 5, none⟩) q0 (by have := Hbm.out; have := Hlo.out; have := Hb0.out; have := Hbb.out; rintro (h | h) <;> (simp only at h; omega))
        have hVo1 := HKo.out.cell (p := ⟨bb, off + j * 5 + 1, none⟩) q1 (by have := Hbm.out; have := Hlo.out; have := Hb0.out; have := Hbb.out; rintro (h | h) <;> (simp only at h; omega))
        have hVb : ¬ some bb = (rwV x).ownBlock := fun q => by have := hob bb q; have := Hbm.out; have := Hlo.out; have := Hb0.out; have := Hbb.out; omega
        obtain ⟨xv, gxv⟩ : ∃ z, rwV x = z := ⟨_, rfl⟩
        have GX := Lib.hid gxv
        rw [gxv] at hc2 hob hg2b hDx hVb
        have ld0 : ∀ w', Kept (fun i => some i = xv.ownBlock) wo.drew w' → w'.cell? ⟨g2, p, none⟩ = some xv := fun w' h => h.cell (show wo.drew.cell? _ = _ from hc2) hg2b
        have ld1 : ∀ w', Kept (fun i => some i = xv.ownBlock) wo.drew w' → w'.cell? ⟨b0, 0, none⟩ = some (.slice (some ⟨bb, off, none⟩) n c) := fun w' h => h.cell (HXo.out.dr.cell (i := 0) rfl) (hDx 0)
        have ld2 : ∀ w', Kept (fun i => some i = xv.ownBlock) wo.drew w' → w'.cell? ⟨bb, off + j * 5, none⟩ = some (.int .i64 i1) := fun w' h => h.cell (show wo.drew.cell? _ = _ from hVo) hVb
        have ld3 : ∀ w', Kept (fun i => some i = xv.ownBlock) wo.drew w' → w'.cell? ⟨bb, off + j * 5 + 1, none⟩ = some (.int .i64 i2) := fun w' h => h.cell (show wo.drew.cell? _ = _ from hVo1) hVb
        have HXl : RowKit.Hid (x.2.2.length ≤ 1000000) := Lib.hid hxl
        have HPx : RowKit.Hid (X[p]? = some x) := Lib.hid hx
        have HKd := Lib.hid HKo.out.drew
        have HMd := Lib.hid HMo.out.dr
        have HRd := Lib.hid HR.out.dr
        have HOb : RowKit.Hid (∀ i, some i = xv.ownBlock → lo ≤ i) := Lib.hid hob
        clear hc2 hob hg2b hDx hVb hVo hVo1 hxm hw2 hf2 hx hxl HKo HMo HR HXo gxv
        go_upto_region 10 with fail
        refine wp_region_tail ((fun i => some i = xv.ownBlock)) [15] (by kernel_rfl) ?_
        apply wpT_next 0 (some 30) (by kernel_rfl)
        · simp only [List.getElem?_toArray, List.getElem?_cons_succ, List.getElem?_cons_zero]; exact rfl
        · rfl
        · kernel_rfl
        · kernel_rfl
        · kernel_rfl
        · exact fun _ _ _ _ h => h
        apply Exists.intro
        apply And.intro
        · apply yr_run; rfl; intro w' hw'; go_simp; (try with_reducible rfl)
        simp only [Act.put, List.setIfInBounds_toArray, List.set_cons_zero, List.set_cons_succ]
        apply wpT_next 1 (some 31) (by kernel_rfl)
        · simp only [List.getElem?_toArray, List.getElem?_cons_succ, List.getElem?_cons_zero]; exact rfl
        · rfl
        · kernel_rfl
        · kernel_rfl
        · kernel_rfl
        · exact fun _ _ _ _ h => h
        apply Exists.intro
        apply And.intro
        · apply yr_run; rfl; intro w' hw'; go_simp; (try with_reducible rfl)
        simp only [Act.put, List.setIfInBounds_toArray, List.set_cons_zero, List.set_cons_succ]
        apply wpT_next 2 (some 32) (by kernel_rfl)
        · simp only [List.getElem?_toArray, List.getElem?_cons_succ, List.getElem?_cons_zero]; exact rfl
        · rfl
        · kernel_rfl
        · kernel_rfl
        · kernel_rfl
        · exact fun _ _ _ _ h => h
        apply Exists.intro
        apply And.intro
        · apply yr_run; rfl; intro w' hw'; go_simp; (try with_reducible rfl)
        simp only [Act.put, List.setIfInBounds_toArray, List.set_cons_zero, List.set_cons_succ]
        apply wpT_next 3 (some 33) (by kernel_rfl)
        · simp only [List.getElem?_toArray, List.getElem?_cons_succ, List.getElem?_cons_zero]; exact rfl
        · rfl
        · kernel_rfl
        · kernel_rfl
        · kernel_rfl
        · exact fun _ _ _ _ h => h
        apply Exists.intro
        apply And.intro
        · apply yr_run; rfl; intro w' hw'; go_simp; (try with_reducible rfl)
        simp only [Act.put, List.setIfInBounds_toArray, List.set_cons_zero, List.set_cons_succ]
        apply wpT_next 4 (some 34) (by kernel_rfl)
        · simp only [List.getElem?_toArray, List.getElem?_cons_succ, List.getElem?_cons_zero]; exact rfl
        · rfl
        · kernel_rfl
        · kernel_rfl
        · kernel_rfl
        · exact fun _ _ _ _ h => h
        apply Exists.intro
        apply And.intro
        · apply yr_run; rfl; intro w' hw'; go_simp; (try with_reducible rfl)
        simp only [Act.put, List.setIfInBounds_toArray, List.set_cons_zero, List.set_cons_succ]
        apply wpT_next 5 (some 35) (by kernel_rfl)
        · simp only [List.getElem?_toArray, List.getElem?_cons_succ, List.getElem?_cons_zero]; exact rfl
        · rfl
        · kernel_rfl
        · kernel_rfl
        · kernel_rfl
        · exact fun _ _ _ _ h => h
        apply Exists.intro
        apply And.intro
        · apply yr_run; rfl; intro w' hw'; go_simp; (try with_reducible rfl)
        simp only [Act.put, List.setIfInBounds_toArray, List.set_cons_zero, List.set_cons_succ]
        apply wpT_next 6 (some 36) (by kernel_rfl)
        · simp only [List.getElem?_toArray, List.getElem?_cons_succ, List.getElem?_cons_zero]; exact rfl
        · rfl
        · kernel_rfl
        · kernel_rfl
        · kernel_rfl
        · exact fun _ _ _ _ h => h
        apply Exists.intro
        apply And.intro
        · apply yr_run; rfl; intro w' hw'; go_simp; (try with_reducible rfl)
        simp only [Act.put, List.setIfInBounds_toArray, List.set_cons_zero, List.set_cons_succ]
        apply wpT_next 7 (some 37) (by kernel_rfl)
        · simp only [List.getElem?_toArray, List.getElem?_cons_succ, List.getElem?_cons_zero]; exact rfl
        · rfl
        · kernel_rfl
        · kernel_rfl
        · kernel_rfl
        · exact fun _ _ _ _ h => h
        apply Exists.intro
        apply And.intro
        · apply yr_run; rfl; intro w' hw'; go_simp; (try with_reducible rfl)
        simp only [Act.put, List.setIfInBounds_toArray, List.set_cons_zero, List.set_cons_succ]
        apply wpT_next 8 (some 38) (by kernel_rfl)
        · simp only [List.getElem?_toArray, List.getElem?_cons_succ, List.getElem?_cons_zero]; exact rfl
        · rfl
        · kernel_rfl
        · kernel_rfl
        · kernel_rfl
        · exact fun _ _ _ _ h => h
        apply Exists.intro
        apply And.intro
        · apply yr_run; rfl; intro w' hw'; go_simp; (try with_reducible rfl)
        simp only [Act.put, List.setIfInBounds_toArray, List.set_cons_zero, List.set_cons_succ]
        apply wpT_next 9 (some 39) (by kernel_rfl)
        · simp only [List.getElem?_toArray, List.getElem?_cons_succ, List.getElem?_cons_zero]; exact rfl
        · rfl
        · kernel_rfl
        · kernel_rfl
        · kernel_rfl
        · exact fun _ _ _ _ h => h
        apply Exists.intro
        apply And.intro
        · apply yr_run; rfl; intro w' hw'; go_simp; (try with_reducible rfl)
        simp only [Act.put, List.setIfInBounds_toArray, List.set_cons_zero, List.set_cons_succ]
        apply wpT_next 10 (some 40) (by kernel_rfl)
        · simp only [List.getElem?_toArray, List.getElem?_cons_succ, List.getElem?_cons_zero]; exact rfl
        · rfl
        · kernel_rfl
        · kernel_rfl
        · kernel_rfl
        · exact fun _ _ _ _ h => h
        apply Exists.intro
        apply And.intro
        · apply yr_run; rfl; intro w' hw'; go_simp; (try with_reducible rfl)
        simp only [Act.put, List.setIfInBounds_toArray, List.set_cons_zero, List.set_cons_succ]
        apply wpT_next 11 (some 41) (by kernel_rfl)
        · simp only [List.getElem?_toArray, List.getElem?_cons_succ, List.getElem?_cons_zero]; exact rfl
        · rfl
        · kernel_rfl
        · kernel_rfl
        · kernel_rfl
        · exact fun _ _ _ _ h => h
        apply Exists.intro
        apply And.intro
        · apply yr_run; rfl; intro w' hw'; go_simp; (try with_reducible rfl)
        simp only [Act.put, List.setIfInBounds_toArray, List.set_cons_zero, List.set_cons_succ]
        apply wpT_run 12 (some 42)
        · simp only [List.getElem?_toArray, List.getElem?_cons_succ, List.getElem?_cons_zero]; exact rfl
        · rfl
        · kernel_rfl
        · rfl
        intro w' hw'
        refine ⟨.slice (some ⟨w'.heap.size, 0, none⟩) 1 1, w'.alloc (.cells (idC (i1, i2)).toArray 35), exec_buildSlice 58 35 1 #[(0, .tmp 41)] (by rfl) Try.underlying58 _ (by kernel_rfl), Kept.of_below (below1 _ _), ?_⟩
        have HL : RowKit.Hid (RdS (w'.alloc (.cells (idC (i1, i2)).toArray 35)) (w'.alloc (.cells (idC (i1, i2)).toArray 35)).heap.size 2 (some ⟨w'.heap.size, 0, none⟩) 1 1 (idC (i1, i2))) := Lib.hid (RdS.of_whole (Whole.new_ _ _ _) rfl)
        have HKe := Lib.hid (HKd.out.trans (Kept.of_below (bel_al hw' (.cells (idC (i1, i2)).toArray 35))))
        have HMe := Lib.hid ((HMd.out.bl hw').al (.cells (idC (i1, i2)).toArray 35))
        have HRe := Lib.hid ((HRd.out.bl hw').al (.cells (idC (i1, i2)).toArray 35))
        obtain ⟨W3, gW3⟩ : ∃ z, w'.alloc (.cells (idC (i1, i2)).toArray 35) = z := ⟨_, rfl⟩
        obtain ⟨g3, gg3⟩ : ∃ z, w'.heap.size = z := ⟨_, rfl⟩
        rw [gW3] at HL HKe HMe HRe ⊢
        rw [gg3] at HL ⊢
        clear hw' gW3 gg3 HKd HMd HRd
        simp only [Act.put, List.setIfInBounds_toArray, List.set_cons_zero, List.set_cons_succ]
        apply wpT_run 13 (some 43)
        · simp only [List.getElem?_toArray, List.getElem?_cons_succ, List.getElem?_cons_zero]; exact rfl
        · rfl
        · kernel_rfl
        · rfl
        intro w' hw'
        obtain ⟨A8, c8, w'', hrun, hb8, hg8, hk8⟩ := (HRe.out.bl hw').grow (P := Try.prog) HPx.out idC_len 58 58 i1I _ 16 Try.underlying58 hi1 hz01 hz11 hz21 rfl (by decide) (by decide) HXl.out (by decide) (by have := Hlo.out; have := HKe.out.size; have := hw'.size; omega) _ _ 1 (i1, i2) (HL.out.bl hw') (idC_one _)
        refine ⟨_, w'', exec_append (by rfl) (by rfl) (by rfl) (by rw [← GX.out]; exact hrun), ⟨hg8.os, hg8.tape, hg8.output, hg8.size, fun i hi hne => hg8.block i hi (by rw [GX.out]; exact hne)⟩, ?_⟩
        have hmb : some bm ≠ (rwV x).ownBlock := fun q => by have h1 := HOb.out bm (by rw [← GX.out]; exact q); have := Hbm.out; have := Hlo.out; omega
        have HM8 := Lib.hid (MapF.grown (HMe.out.bl hw') hg8 hmb)
        have hkk : Kept (fun i => i = bm ∨ lo ≤ i) w' w'' := ⟨hg8.os, hg8.tape, hg8.output, hg8.size, fun i hi hne => hg8.block i hi (fun q => hne (.inr (HOb.out i (by rw [← GX.out]; exact q))))⟩
        have HK8 := Lib.hid ((HKe.out.trans (Kept.of_below hw')).trans hkk)
        have Hk8 := Lib.hid hk8
        obtain ⟨W4, gW4⟩ : ∃ z, w'' = z := ⟨_, rfl⟩
        rw [gW4] at HM8 HK8 Hk8 ⊢
        obtain ⟨n8, gn8⟩ : ∃ z, (x.2.2 ++ [(i1, i2)]).length = z := ⟨_, rfl⟩
        have e8 : rwV (A8, c8, x.2.2 ++ [(i1, i2)]) = .slice A8 n8 c8 := by rw [← gn8]; rfl
        rw [e8] at Hk8 ⊢
        clear hw' hrun hb8 hg8 hk8 hmb hkk gW4 HL HKe HMe HRe e8 gn8
        simp only [Act.put, List.setIfInBounds_toArray, List.set_cons_zero, List.set_cons_succ]
        apply wpT_next 14 (some 44) (by kernel_rfl)
        · simp only [List.getElem?_toArray, List.getElem?_cons_succ, List.getElem?_cons_zero]; exact rfl
        · rfl
        · kernel_rfl
        · kernel_rfl
        · kernel_rfl
        · exact fun _ _ _ _ h => h
        apply Exists.intro
        apply And.intro
        · apply yr_run; rfl; intro w' hw'; go_simp; (try with_reducible rfl)
        simp only [Act.put, List.setIfInBounds_toArray, List.set_cons_zero, List.set_cons_succ]
        apply wpT_last 15
        · simp only [List.getElem?_toArray, List.getElem?_cons_succ, List.getElem?_cons_zero]; exact rfl
        · rfl
        · kernel_rfl
        · rfl
        · decide
        intro w' hw'
        obtain ⟨gq, eq, hloq, ⟨csq, hwq⟩, hcq, hfq, hMq⟩ := Hk8.out w' hw'
        obtain rfl : g2 = gq := by
          injection eq with eq
          injection eq
        refine ⟨w'.setCell ⟨g2, p, none⟩ (.slice A8 n8 c8), by (rw [← GX.out] at ld0; go_simp; first | done | exact rfl | exact ⟨rfl, rfl⟩), ?_⟩
        have HR9 := Lib.hid hMq
        have hkk : Kept (fun i => i = bm ∨ lo ≤ i) w' (w'.setCell ⟨g2, p, none⟩ (.slice A8 n8 c8)) := (Kept.refl _ w').setCell (.inl (.inr hloq)) (.slice A8 n8 c8)
        have HK9 := Lib.hid ((HK8.out.trans (Kept.of_below hw')).trans hkk)
        have HM9 : RowKit.Hid (MapF (w'.setCell ⟨g2, p, none⟩ (.slice A8 n8 c8)) keyI bm j (plcV L (j + 1))) := Lib.hid ((HM8.out.bl hw').kept (S := fun i => i = g2) (Kept.setCell (S := fun i => i = g2) (p := ⟨g2, p, none⟩) (Kept.refl _ w') (.inl rfl) _) (by have := Hbm.out; have := Hlo.out; omega))
        obtain ⟨W7, gW7⟩ : ∃ z, w'.setCell ⟨g2, p, none⟩ (.slice A8 n8 c8) = z := ⟨_, rfl⟩
        rw [gW7] at HR9 HK9 HM9 ⊢
        clear hw' eq hloq hwq hcq hfq hMq hkk gW7 HM8 HK8 Hk8
        try simp only [Act.put, List.setIfInBounds_toArray, List.set_cons_zero, List.set_cons_succ]
        refine wpT_done (by kernel_rfl) ?_ _
        intro W8 hw8
        have HR10 := Lib.hid (HR9.out.bl hw8)
        have HK10 := Lib.hid (HK9.out.trans (Kept.of_below hw8))
        have HM10 := Lib.hid (HM9.out.bl hw8)
        clear hw8 HR9 HK9 HM9
        go_wp2
        go_roundw
        case rel => exact ⟨j + 1, some ⟨g2, 0, none⟩, c2, _, by omega, by go_num, by rw [HrS.out, HG2.out], HK10, HM10.out.mono (by omega) |> Lib.hid, (by rw [HrS.out, HG2.out]; exact HR10), Lib.hid (HXN.out _ _)⟩
        case measure => simp [intOf]; omega
    · obtain rfl : n = j := by omega
      have HKf := HK
      go_wp2
      go_ret
      refine ⟨A2, c2, X, rfl, ?_, by rw [← HR0.out]; exact HXm.out, ?_⟩
      · exact ⟨own_lo HP.out.row (by have := HB3.out.size; have := Hlo.out; omega), HP.out.len, fun x hx => own_lo (HP.out.one x hx) (by have := HB3.out.size; have := Hlo.out; omega), HP.out.ne⟩
      · have h1 := HK.out
        have h2 := HB3.out
        have := Hbm.out
        have := Hb0.out
        have := Hlo.out
        exact h2.trans ⟨h1.os, h1.tape, h1.output, h1.size, fun i hi => h1.block i (Nat.lt_of_lt_of_le hi h2.size) (by have := h2.size; rintro (h | h) <;> omega)⟩
set_option maxRecDepth 100000 in
set_option maxHeartbeats 4000000 in
theorem count_any (A : Option Addr) (n c : Nat) (Vs : List VC) (B : Option Addr) (m k : Nat) (Es : List EC) (w : World) (h : DgIn w A n c Vs B m k Es) (hn : n ≤ 1000000) (hr : ∀ x ∈ Vs, x.2.1.2.1 ≤ 1000000) (hv : ∀ v ∈ Vs, ∀ d ∈ v.2.1.2.2.2, wfD d) :
    Calls Try.prog 41 #[.agg #[.slice A n c, .slice B m k]] w fun e w' => e = .returned (.int .i64 ((cntF (labF Vs) : Nat) : Int)) ∧ Below w.heap.size w w' := by
  have HDa := Lib.hid h
  have HC := Lib.hid (fun W h => parts_any A n c Vs B m k Es W h hn hr hv)
  obtain ⟨q, gq⟩ : ∃ z, cntF (labF Vs) = z := ⟨_, rfl⟩
  rw [gq] at HC ⊢
  clear h hr hv gq
  go_enter Try.func41, Try.ntmps41
  go_upto_region 1 with fail
  have hx0 : Whole (w.alloc (.cells #[.slice A n c, .slice B m k] 25)) (w.heap.size) 25 [.slice A n c, .slice B m k] := (Whole.new_ w 25 [.slice A n c, .slice B m k])
  have hbl : Below w.heap.size w (w.alloc (.cells #[.slice A n c, .slice B m k] 25)) := (below1 w (.cells #[.slice A n c, .slice B m k] 25))
  have hsz : w.heap.size + 1 ≤ ((w.alloc (.cells #[.slice A n c, .slice B m k] 25))).heap.size := by simp
  obtain ⟨W0, gW0⟩ : ∃ z, (w.alloc (.cells #[.slice A n c, .slice B m k] 25)) = z := ⟨_, rfl⟩
  rw [gW0] at hx0 hbl hsz
  obtain ⟨b0, gb0⟩ : ∃ z, w.heap.size = z := ⟨_, rfl⟩
  rw [gb0] at hx0
  have HX0 := Lib.hid hx0
  have HB0 := Lib.hid hbl
  have HS0 := Lib.hid hsz
  have Gb0 := Lib.hid gb0
  have Lb0 : RowKit.Hid (w.heap.size ≤ b0) := Lib.hid (by omega)
  rw [gW0, gb0]
  clear gW0 hbl hsz hx0 gb0
  have c0 := HX0.out.cell (i := 0) rfl
  have c1 := HX0.out.cell (i := 1) rfl
  go_wp2_with fail
  refine (HC.out _ (HDa.out.bl HB0.out)).mono ?_
  rintro e w3 ⟨A2, c2, X, rfl, hp, hX, hb3⟩
  have HB3 := Lib.hid (bel_bl HB0.out hb3)
  clear hp hX hb3 c0 c1
  go_wp2
  go_ret
  exact ⟨rfl, HB3.out⟩
end Go.Proofs.Ytpindjknngcccaa

/- Opening arguments by their types' shapes, with what they weigh: how long a slice can be that is handed in. -/
namespace Go.Proofs.Ytpindjknngcccaa
open Go.ChangeShapes Go.WideShapes Go.ChangeAt Go.RowKit Go.Deep

section
variable {H : Type} {P : Program} {α β : Type}
def Row1z (H : Type) (P : Program) (t : TypeId) (f : α → List Value) (p : World → α → Prop) : Prop :=
  ∀ (enc : TypeId × Value → H) (w : World) (held : Bool) (fuel : Nat) (cs : List Value) (x : DataW H × List MemPlace),
    DataW.trod enc P w 0 (fun _ => true) held fuel t cs = some x → (∀ n ∈ x.1.weights P t, n ≤ reachBytes) → ∃ a, cs = f a ∧ p w a
theorem Row1.z {t : TypeId} {f : α → List Value} {p : World → α → Prop} (h : Row1 H P t f p) : Row1z H P t f p := fun enc w held fuel cs x hx _ => h enc w held fuel cs x hx
theorem Row1z.map {t : TypeId} {f : α → List Value} {p : World → α → Prop} (h : Row1z H P t f p) (g : α → β) {f' : β → List Value} {p' : World → β → Prop} (hf : ∀ a, f a = f' (g a)) (hp : ∀ w a, p w a → p' w (g a)) : Row1z H P t f' p' := by
  intro enc w held fuel cs x hx hz
  obtain ⟨a, rfl, ha⟩ := h enc w held fuel cs x hx hz
  exact ⟨g a, hf a, hp w a ha⟩
def SlOkz (k b : Nat) (f : α → List Value) (p : World → α → Prop) (w : World) (s : Option Addr × Nat × Nat × List α) : Prop :=
  SlOk k f p w s ∧ s.2.2.1 * b ≤ reachBytes
end
def VOkz (W : World) (v : VC) : Prop := SlOkz 3 24 dC (fun _ x => In64 x.1 ∧ In64 x.2.1 ∧ In64 x.2.2) W v.2.1 ∧ v.2.2.1.size ≤ maxLen
def DgOkz (W : World) (d : DgT) : Prop := SlOkz 5 64 vC VOkz W d.1 ∧ SlOkz 4 40 eC EOk W d.2
theorem DgOkz.ok {W : World} {d : DgT} (h : DgOkz W d) : DgOk W d := ⟨⟨h.1.1.1, h.1.1.2.1, fun x hx => ⟨(h.1.1.2.2 x hx).1.1, (h.1.1.2.2 x hx).2⟩⟩, h.2.1⟩
end Go.Proofs.Ytpindjknngcccaa

/- The document's example of layer 6, and what is well formed. -/
namespace Go.Proofs.Ytpindjknngcccaa
open Go.RowKit
set_option linter.unusedSimpArgs false
set_option linter.unusedVariables false

theorem Formed.small {A : Option Addr} {n c : Nat} {Vs : List VC} {B : Option Addr} {m k : Nat} {Es : List EC} {w : World} (hf : Formed Vs Es) (h : DgIn w A n c Vs B m k Es) : n ≤ 24 ∧ m ≤ 40 ∧ ∀ x ∈ Vs, x.2.1.2.1 ≤ 80 := by
  have h1 := h.v.rlen vC_len (by decide)
  have h2 := h.e.rlen eC_len (by decide)
  have h3 := hf.v24
  have h4 := hf.e40
  refine ⟨by omega, by omega, fun x hx => ?_⟩
  have h5 := (h.r x hx).2.dlen
  have h6 := hf.len
  have h7 : x.2.1.2.2.2.length ≤ (ringsOf Vs).length := by
    clear h1 h2 h3 h4 h5 h6 h hf
    induction Vs with
    | nil => cases hx
    | cons v r ih =>
      rw [ringsOf_cons, List.length_append]
      rcases List.mem_cons.1 hx with rfl | hx
      · omega
      · have := ih hx; omega
  omega
end Go.Proofs.Ytpindjknngcccaa
