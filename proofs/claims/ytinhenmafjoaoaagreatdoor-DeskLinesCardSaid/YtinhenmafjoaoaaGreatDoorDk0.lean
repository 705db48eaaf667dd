/- The lines of answers, as bytes: numbers. -/
import Derived.Lib.ItoaLen
import Derived.Lib.Join
import Derived.Test.YtinhenmafjoaoaaGreatDoorFr1
namespace Go.Proofs.YtinhenmafjoaoaaGreatDoor
open Go.RowKit
set_option linter.unusedSimpArgs false
set_option linter.unusedVariables false

/-- An answer: its code, its two numbers, where its bytes lie, its bytes. -/
structure AnT where
  k : Int
  n : Int
  m : Int
  a : Option Addr
  l : Nat
  c : Nat
  b : List Nat
def anC (x : AnT) : List Value := [.int .i64 x.k, .int .i64 x.n, .int .i64 x.m, .slice x.a x.l x.c]
theorem anC_len (x : AnT) : (anC x).length = 4 := rfl
theorem anC_one (x : AnT) : ∀ u ∈ anC x, u.oneCell' = true := by simp [anC, Value.oneCell']
def I64 (n : Int) : Prop := -9223372036854775808 ≤ n ∧ n ≤ 9223372036854775807
/-- The numbers of a line. -/
def nsA (x : AnT) : List Int := if x.b = [] then [x.k, x.n, x.m] else [x.k, x.n, x.m, (x.b.length : Int), (crc x.b : Int)]
def lineB (L : List Int) : List UInt8 := Lib.join (L.map Lib.itoa) [32] ++ [10]
def showB (X : List AnT) : List UInt8 := X.flatMap (fun x => lineB (nsA x))
def bS (l : List UInt8) : ByteArray := ⟨l.toArray⟩
theorem bS_list (l : List UInt8) : (bS l).data.toList = l := rfl
theorem bS_size (l : List UInt8) : (bS l).size = l.length := by simp [bS, ByteArray.size]
theorem bS_mk (s : ByteArray) : bS s.data.toList = s := by cases s; simp [bS]
theorem bS_app (a b : List UInt8) : bS a ++ bS b = bS (a ++ b) := by
  have h : (bS a ++ bS b).data.toList = a ++ b := by simp [bS]
  rw [← bS_mk (bS a ++ bS b), h]
theorem bS_eq (a b : List UInt8) : (bS a = bS b) ↔ a = b := ⟨fun h => by rw [← bS_list a, h, bS_list], fun h => by rw [h]⟩
theorem join_le : ∀ (L : List Int), (∀ n ∈ L, I64 n) → (Lib.join (L.map Lib.itoa) [32]).length ≤ 22 * L.length
  | [], _ => by simp [Lib.join_nil]
  | x :: L, h => by
    have hx := h x List.mem_cons_self
    have h1 := Lib.itoa_length_le x hx.1 hx.2
    have h2 : ∀ M : List Int, (∀ n ∈ M, I64 n) → Lib.lens (M.map Lib.itoa) ≤ 21 * M.length := by
      intro M
      induction M with
      | nil => intro _; simp [Lib.lens]
      | cons y M ih =>
        intro hM
        have a1 := hM y List.mem_cons_self
        have a2 := Lib.itoa_length_le y a1.1 a1.2
        have a3 := ih (fun n hn => hM n (List.mem_cons_of_mem _ hn))
        simp only [Lib.lens, List.map_cons, List.sum_cons, List.length_cons] at a3 ⊢
        omega
    have h3 := h2 (x :: L) h
    rw [List.map_cons] at h3 ⊢
    rw [Lib.join_length]
    simp only [List.length_cons, List.length_nil, List.length_map] at h3 ⊢
    omega
theorem lineB_len {L : List Int} (h : ∀ n ∈ L, I64 n) : (lineB L).length ≤ 22 * L.length + 1 := by
  have := join_le L h
  unfold lineB
  rw [List.length_append]
  simp
  omega
/-- An answer that may be read. -/
structure AnOk (w : World) (x : AnT) : Prop where
  r : RdS w w.heap.size 1 x.a x.l x.c (rowsV f8 x.b)
  b : ∀ y ∈ x.b, y < 256
  k : I64 x.k
  n : I64 x.n
  m : I64 x.m
  s : x.l ≤ maxLen
theorem AnOk.len {w : World} {x : AnT} (h : AnOk w x) : x.b.length = x.l := h.r.rlen f8_len (by decide)
theorem nsA_64 {w : World} {x : AnT} (h : AnOk w x) : ∀ n ∈ nsA x, I64 n := by
  have hl := h.len
  have hs := h.s
  have hc := crc_lt h.b
  unfold nsA
  split
  · intro n hn
    simp only [List.mem_cons, List.not_mem_nil, or_false] at hn
    rcases hn with rfl | rfl | rfl
    · exact h.k
    · exact h.n
    · exact h.m
  · intro n hn
    simp only [List.mem_cons, List.not_mem_nil, or_false] at hn
    unfold maxLen at hs
    rcases hn with rfl | rfl | rfl | rfl | rfl
    · exact h.k
    · exact h.n
    · exact h.m
    · exact ⟨by omega, by omega⟩
    · exact ⟨by omega, by omega⟩
theorem nsA_len (x : AnT) : (nsA x).length ≤ 5 := by unfold nsA; split <;> simp
theorem AnOk.line {w : World} {x : AnT} (h : AnOk w x) : (lineB (nsA x)).length ≤ 111 := by
  have h1 := lineB_len (nsA_64 h)
  have h2 := nsA_len x
  omega
theorem showB_len {w : World} : ∀ {X : List AnT}, (∀ x ∈ X, AnOk w x) → (showB X).length ≤ 111 * X.length
  | [], _ => by simp [showB]
  | x :: X, h => by
    have h1 := (h x List.mem_cons_self).line
    have h2 := showB_len (fun y hy => h y (List.mem_cons_of_mem _ hy))
    unfold showB at *
    simp only [List.flatMap_cons, List.length_append, List.length_cons] at *
    omega
theorem showB_app (X Y : List AnT) : showB (X ++ Y) = showB X ++ showB Y := by simp [showB, List.flatMap_append]
theorem showB_next {X : List AnT} {j : Nat} {x : AnT} (h : X[j]? = some x) : showB (X.take (j + 1)) = showB (X.take j) ++ lineB (nsA x) := by
  rw [take_snoc_ X j x h, showB_app]
  simp [showB]
theorem AnOk.bl {w w' : World} {x : AnT} (h : AnOk w x) (hb : Below w.heap.size w w') : AnOk w' x := ⟨h.r.bl hb, h.b, h.k, h.n, h.m, h.s⟩
theorem AnOk.cut {w : World} {x : AnT} (h : AnOk w x) (k : Nat) (hk : k ≤ x.l) : AnOk w { x with l := k, b := x.b.take k } := by
  have hl := h.len
  have h1 := h.r.fewer8 k
  rw [List.length_take, hl, Nat.min_eq_left hk] at h1
  exact ⟨h1, fun y hy => h.b y (List.mem_of_mem_take hy), h.k, h.n, h.m, Nat.le_trans hk h.s⟩
end Go.Proofs.YtinhenmafjoaoaaGreatDoor
