/- A law's slice argument opened: its elements are rows of ints, or bytes. -/
import Derived.Test.YthfngmlnmpbcpaaOpen
import Derived.Test.YthfngmlnmpbcpaaMem
namespace Go.Proofs.Ythfngmlnmpbcpaa
open Go.ChangeShapes Go.WideShapes Go.ChangeAt Go.RowKit Go.Deep

section
variable {H : Type} {P : Program}

/-- Type e is a row of k cells, each of them f of a number that fits. -/
def Rows_ (H : Type) (P : Program) (f : Int → Value) (p : Int → Prop) (t : TypeId) (k : Nat) : Prop :=
  ∀ (enc : TypeId × Value → H) (w : World) (base : Nat) (spare : Nat → Bool) (held : Bool) (fuel : Nat) (cs : List Value) (x : DataW H × List MemPlace),
    DataW.trod enc P w base spare held fuel t cs = some x → ∃ ns : List Int, ns.length = k ∧ cs = ns.map f ∧ (∀ n ∈ ns, p n)

theorem rows_of_ints {t : TypeId} {k : Nat} (h : Ints H P t k) : Rows_ H P (Value.int .i64) In64 t k := h
theorem rows_u8 {t : TypeId} (ht : P.underlying t = some (.int .u8)) : Rows_ H P u8v (fun n => 0 ≤ n ∧ n ≤ 255) t 1 := by
  intro enc w base spare held fuel cs x h
  obtain ⟨n, rfl, _, hw⟩ := DataW.trod_int ht h
  exact ⟨[n], rfl, rfl, fun m hm => by
    obtain rfl := List.mem_singleton.1 hm
    exact bounds_u8 hw⟩

theorem rows_build (f : Int → Value) (p : Int → Prop) (k : Nat) (cell : Nat → Option Value) : ∀ n : Nat,
    (∀ i, i < n → ∃ ns : List Int, ns.length = k ∧ (∀ j u, (ns.map f)[j]? = some u → cell (i * k + j) = some u) ∧ ∀ m ∈ ns, p m) →
    ∃ ns : List Int, ns.length = n * k ∧ (∀ j u, (ns.map f)[j]? = some u → cell j = some u) ∧ ∀ m ∈ ns, p m
  | 0, _ => ⟨[], by simp, fun j u h => (by simp at h), fun m h => (by cases h)⟩
  | n + 1, h => by
    obtain ⟨n0, l0, q0, w0⟩ := rows_build f p k cell n (fun i hi => h i (by omega))
    obtain ⟨n1, l1, q1, w1⟩ := h n (by omega)
    refine ⟨n0 ++ n1, by rw [List.length_append, l0, l1, Nat.succ_mul], fun j u hj => ?_, fun m hm => ?_⟩
    · rw [List.map_append] at hj
      rcases Nat.lt_or_ge j (n * k) with hlt | hge
      · rw [List.getElem?_append_left (by simpa [l0] using hlt)] at hj
        exact q0 j u hj
      · rw [List.getElem?_append_right (by simpa [l0] using hge)] at hj
        have := q1 _ u hj
        rw [List.length_map, l0] at this
        rwa [show n * k + (j - n * k) = j by omega] at this
    · rcases List.mem_append.1 hm with hm | hm
      · exact w0 m hm
      · exact w1 m hm

theorem open_cell_rows {W : World} {t e : TypeId} {k : Nat} {f : Int → Value} {p : Int → Prop} {enc : TypeId × Value → H} {held : Bool} {v : Value} {fuel : Nat} {y : DataW H × List MemPlace}
    (hi : Rows_ H P f p e k) (ht : P.underlying t = some (.slice e)) (hc : P.cellsOf e = k) (hk : 0 < k) (hf : DataW.trod enc P W 0 (fun _ => true) held fuel t [v] = some y) :
    ∃ (A : Option Addr) (n c : Nat) (ns : List Int), v = .slice A n c ∧ c ≤ maxLen ∧ (∀ x ∈ ns, p x) ∧ RdS W W.heap.size k A n c (ns.map f) := by
  rcases open_slice ht hf with ⟨hcs, _⟩ | ⟨a, n, c, m, q, D, Pl, hcs, hb, hl, hm, hmm, hx, hel⟩
  · have hv' : v = .slice none 0 0 := by simpa using hcs
    rw [hv']
    exact ⟨none, 0, 0, [], rfl, Nat.zero_le _, fun x hx => (by cases hx), ⟨by simp, fun _ => ⟨rfl, rfl⟩, Nat.le_refl _, fun a ha => (by cases ha), fun a ha => (by cases ha)⟩⟩
  · have hv' : v = .slice (some a) n c := by simpa using hcs
    rw [hv']
    have hmc : m = c := by simpa using hmm
    clear hmm
    subst m
    have hns : ∃ ns : List Int, ns.length = n * k ∧ (∀ j u, (ns.map f)[j]? = some u → W.cell? (a.add j) = some u) ∧ ∀ m ∈ ns, p m := rows_build f p k (fun j => W.cell? (a.add j)) n (fun i him => by
      obtain ⟨cs', h1, h2⟩ := hel i (by omega)
      obtain ⟨ns, l, rfl, hp⟩ := hi _ _ _ _ _ _ _ _ h2
      rw [hc] at h1
      obtain ⟨_, hln, hat⟩ := World.cells?_some h1
      refine ⟨ns, l, fun j u hu => ?_, hp⟩
      have hj : j < k := by
        rcases Nat.lt_or_ge j k with h3 | h3
        · exact h3
        · rw [List.getElem?_eq_none (by simpa [l] using h3)] at hu
          cases hu
      have := hat j hj
      rw [← add_add, this, hu])
    obtain ⟨ns, hlen, hcell, hp⟩ := hns
    refine ⟨some a, n, c, ns, rfl, hm, hp, ⟨by simpa using hlen, fun e => (by cases e), hl, fun a' ha hn => ?_, fun a' ha j u hu => ?_⟩⟩
    · obtain rfl := Option.some.inj ha
      have h0 : 0 < n * k := Nat.mul_pos hn hk
      have hne : (ns.map f)[0]? = some (f (ns[0]'(by rw [hlen]; exact h0))) := by simp [hlen, h0]
      have := World.block_lt_of_cell? W _ (hcell 0 _ hne)
      simpa [Addr.add] using this
    · obtain rfl := Option.some.inj ha
      exact hcell j u hu
theorem open_slice_rows {W w : World} {t e : TypeId} {k : Nat} {f : Int → Value} {p : Int → Prop} {r : Reach} {b0 : Nat} {enc : TypeId × Value → H} {held : Bool} {v : Value} {d : DataW H} {ps : List MemPlace}
    (hi : Rows_ H P f p e k) (ht : P.underlying t = some (.slice e)) (hc : P.cellsOf e = k) (hk : 0 < k) (hv : Value.okWide P w r b0 t v) (hd : DataW.Trod enc P W 0 (fun _ => true) held t v d ps) :
    ∃ (A : Option Addr) (n c : Nat) (ns : List Int), v = .slice A n c ∧ c ≤ maxLen ∧ (∀ x ∈ ns, p x) ∧ RdS W W.heap.size k A n c (ns.map f) := by
  obtain ⟨A0, n0, c0, rfl⟩ := okWide_slice ht hv
  obtain ⟨fuel, hf⟩ := hd
  exact open_cell_rows hi ht hc hk (y := (d, ps)) (fuel := fuel) hf

theorem names_of_ints : ∀ (n : Nat) (ns : List Int), ns.length = n * 2 → ∃ l : List (Int × Int), ns.map (Value.int .i64) = l.flatMap fun p => [.int .i64 p.1, .int .i64 p.2]
  | 0, ns, h => ⟨[], by rw [List.eq_nil_of_length_eq_zero (l := ns) (by omega)]; rfl⟩
  | n + 1, [], h => by simp at h
  | n + 1, [a], h => by simp at h; omega
  | n + 1, a :: b :: ns, h => by
    obtain ⟨l, hl⟩ := names_of_ints n ns (by simp at h; omega)
    exact ⟨(a, b) :: l, by simp [hl]⟩
end
end Go.Proofs.Ythfngmlnmpbcpaa
