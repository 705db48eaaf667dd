/- A law's arguments opened: types that are flat rows of int; what such a value is. -/
import Derived.ProofKit
import Derived.OpenShut
import Derived.Deep.Slices
namespace Go.Proofs.Ythfngmlnmpbcpaa
open Go.ChangeShapes Go.WideShapes Go.ChangeAt Go.RowKit

section
variable {H : Type} {P : Program}

def In64 (n : Int) : Prop := -9223372036854775808 ≤ n ∧ n ≤ 9223372036854775807
def ivs (ns : List Int) : List Value := ns.map (Value.int .i64)

/-- Type t is a row of k cells, each an int. -/
def Ints (H : Type) (P : Program) (t : TypeId) (k : Nat) : Prop :=
  ∀ (enc : TypeId × Value → H) (w : World) (base : Nat) (spare : Nat → Bool) (held : Bool) (fuel : Nat) (cs : List Value) (x : DataW H × List MemPlace),
    DataW.trod enc P w base spare held fuel t cs = some x → ∃ ns : List Int, ns.length = k ∧ cs = ivs ns ∧ (∀ n ∈ ns, In64 n)

theorem ints_int {t : TypeId} (ht : P.underlying t = some (.int .i64)) : Ints H P t 1 := by
  intro enc w base spare held fuel cs x h
  obtain ⟨n, rfl, _, hw⟩ := DataW.trod_int ht h
  exact ⟨[n], rfl, rfl, fun m hm => by
    obtain rfl := List.mem_singleton.1 hm
    exact bounds_i64 hw⟩

theorem ints_struct2 {t : TypeId} {f0 f1 : Field} {k0 k1 k : Nat} (ht : P.underlying t = some (.struct #[f0, f1])) (h0 : Ints H P f0.type k0) (h1 : Ints H P f1.type k1)
    (o0 : f0.offset = 0) (o1 : f1.offset = k0) (c0 : P.cellsOf f0.type = k0) (c1 : P.cellsOf f1.type = k1) (c : P.cellsOf t = k) (hk : k = k0 + k1) : Ints H P t k := by
  intro enc w base spare held fuel cs x h
  obtain ⟨xs, n, _, _, hl, hlen, hg⟩ := DataW.trod_struct ht h
  have e0 := hg 0 f0 rfl
  have e1 := hg 1 f1 rfl
  rw [List.getElem?_eq_getElem (by rw [hlen]; simp)] at e0 e1
  obtain ⟨n0, l0, q0, w0⟩ := h0 _ _ _ _ _ _ _ _ e0
  obtain ⟨n1, l1, q1, w1⟩ := h1 _ _ _ _ _ _ _ _ e1
  rw [o0, c0, List.drop_zero] at q0
  rw [o1, c1] at q1
  refine ⟨n0 ++ n1, by simp [l0, l1, hk], ?_, fun m hm => ?_⟩
  · have h2 : (cs.drop k0).take k1 = cs.drop k0 := List.take_of_length_le (by rw [List.length_drop]; omega)
    rw [h2] at q1
    rw [← List.take_append_drop k0 cs, q0, q1, ivs, ivs, ivs, List.map_append]
  · rcases List.mem_append.1 hm with hm | hm
    · exact w0 m hm
    · exact w1 m hm

theorem ints_rows {α : Type} (e k : Nat) (p : α → Prop) (f : α → Value) : ∀ (n : Nat) (cs : List Value), cs.length = n * k →
    (∀ i, i < n → ∃ ns : List α, ns.length = k ∧ (cs.drop (i * k)).take k = ns.map f ∧ ∀ m ∈ ns, p m) → ∃ ns : List α, ns.length = n * k ∧ cs = ns.map f ∧ ∀ m ∈ ns, p m
  | 0, cs, hl, _ => ⟨[], by simp, List.eq_nil_of_length_eq_zero (by simpa using hl), fun m hm => by cases hm⟩
  | n + 1, cs, hl, h => by
    obtain ⟨n0, l0, q0, w0⟩ := h 0 (by omega)
    obtain ⟨n1, l1, q1, w1⟩ := ints_rows e k p f n (cs.drop k) (by rw [List.length_drop, hl, Nat.succ_mul]; omega) (fun i hi => by
      have := h (i + 1) (by omega)
      rwa [List.drop_drop, show k + i * k = (i + 1) * k by rw [Nat.succ_mul]; omega])
    rw [Nat.zero_mul, List.drop_zero] at q0
    refine ⟨n0 ++ n1, by rw [List.length_append, l0, l1, Nat.succ_mul]; omega, ?_, fun m hm => ?_⟩
    · rw [← List.take_append_drop k cs, q0, q1, List.map_append]
    · rcases List.mem_append.1 hm with hm | hm
      · exact w0 m hm
      · exact w1 m hm

theorem ints_array {t e : TypeId} {n k m : Nat} (ht : P.underlying t = some (.array n e)) (he : Ints H P e k) (ce : P.cellsOf e = k) (ct : P.cellsOf t = m) (hm : m = n * k) : Ints H P t m := by
  intro enc w base spare held fuel cs x h
  obtain ⟨xs, q, _, _, hl, hlen, hg⟩ := DataW.trod_array ht h
  subst hm
  refine ints_rows 0 k In64 (Value.int .i64) n cs (by omega) fun i hi => ?_
  have h1 := hg i hi
  rw [List.getElem?_eq_getElem (by omega), ce] at h1
  exact he _ _ _ _ _ _ _ _ h1

theorem open_struct_ints {w W : World} {t : TypeId} {fs : Array Field} {k : Nat} {r : Reach} {b0 base : Nat} {enc : TypeId × Value → H} {spare : Nat → Bool} {held : Bool} {v : Value} {d : DataW H} {ps : List MemPlace}
    (hi : Ints H P t k) (ht : P.underlying t = some (.struct fs)) (hv : Value.okWide P w r b0 t v) (hd : DataW.Trod enc P W base spare held t v d ps) :
    ∃ ns : List Int, ns.length = k ∧ v = .agg (ivs ns).toArray ∧ ∀ n ∈ ns, In64 n := by
  simp only [Value.okWide, ht] at hv
  obtain ⟨cs, rfl, _, _⟩ := hv
  obtain ⟨fuel, hf⟩ := hd
  obtain ⟨ns, l, q, wf⟩ := hi _ _ _ _ _ _ _ _ hf
  refine ⟨ns, l, ?_, wf⟩
  simp only [Value.cells] at q
  rw [← q, Array.toArray_toList]

theorem open_array_ints {w W : World} {t e : TypeId} {n k : Nat} {r : Reach} {b0 base : Nat} {enc : TypeId × Value → H} {spare : Nat → Bool} {held : Bool} {v : Value} {d : DataW H} {ps : List MemPlace}
    (hi : Ints H P t k) (ht : P.underlying t = some (.array n e)) (hv : Value.okWide P w r b0 t v) (hd : DataW.Trod enc P W base spare held t v d ps) :
    ∃ ns : List Int, ns.length = k ∧ v = .agg (ivs ns).toArray ∧ ∀ n ∈ ns, In64 n := by
  simp only [Value.okWide, ht] at hv
  obtain ⟨cs, rfl, _, _⟩ := hv
  obtain ⟨fuel, hf⟩ := hd
  obtain ⟨ns, l, q, wf⟩ := hi _ _ _ _ _ _ _ _ hf
  refine ⟨ns, l, ?_, wf⟩
  simp only [Value.cells] at q
  rw [← q, Array.toArray_toList]
end
end Go.Proofs.Ythfngmlnmpbcpaa
