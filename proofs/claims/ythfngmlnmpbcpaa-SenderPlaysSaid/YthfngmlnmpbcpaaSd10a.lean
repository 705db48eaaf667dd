/- The law SenderOwn: the first loop. -/
import Derived.Test.YthfngmlnmpbcpaaSd7
import Derived.Test.YthfngmlnmpbcpaaSd9
namespace Go.Proofs.Ythfngmlnmpbcpaa
open Go.RowKit
set_option linter.unusedSimpArgs false
set_option linter.unusedVariables false

/-- The rows as they are pushed. -/
def txts (Es : List Ar) : List (List Nat) := Es.map (fun e => e.2.2.2.take 60)
theorem txts_at {Es : List Ar} {k : Nat} {e : Ar} (h : Es[k]? = some e) : (txts Es)[k]? = some (e.2.2.2.take 60) := by simp [txts, h]
theorem txts_len (Es : List Ar) : (txts Es).length = Es.length := by simp [txts]
/-- An own block of bytes. -/
theorem own_block {w : World} {B n c : Nat} {A : Option Addr} {L : List Nat} (h : w.ownsRow B 5 1 (.slice A n c) n (rowsV f8 L)) (hn : 0 < n) : ∃ ga cu, A = some ⟨ga, 0, none⟩ ∧ B ≤ ga ∧ Whole w ga 5 cu ∧ cu.length = c ∧ n ≤ c := by
  rcases h.2 with ⟨_, h0⟩ | ⟨ga, cap, cur, e1, hb, hg, hle, _, hcs, _⟩
  · omega
  · injection e1 with a1 _ a3
    subst a1 a3
    exact ⟨ga, cur.toList, rfl, hb, by unfold Whole; rw [Array.toArray_toList]; exact hg, by rw [Array.length_toList]; omega, hle⟩
theorem SdIn.off {B : Nat} {w w' : World} {g win ack c : Nat} {Ls : List (List Nat)} {A : Option Addr} {es : List Sl} {k : Option Nat} (h : SdIn B w g win ack Ls A c es k) {b : Nat} (hf : SdFar g A Ls.length es k b) (hk : Kept (fun i => i = b) w w') : SdIn B w' g win ack Ls A c es k :=
  h.beside (v := .slice (some ⟨b, 0, none⟩) 0 0) (fun b' hb => by obtain rfl := Option.some.inj hb; exact hf) (hk.wider (fun i _ e => by rw [e]; rfl))
/-- A round's beginning: k rows were pushed. -/
def OwnIn (w : World) (g k : Nat) (Es : List Ar) (wr : World) : Prop := ∃ A c es q, SdIn w.heap.size wr g 16 0 ((txts Es).take k) A c es q ∧ Below w.heap.size w wr
/-- The row at ga is spoilt. -/
def SpoilIn (ga c : Nat) (V wr : World) : Prop := ∃ cu, Whole wr ga 5 cu ∧ cu.length = c ∧ Kept (fun b => b = ga) V wr
theorem SpoilIn.at_ {ga c k : Nat} {V wr : World} (h : SpoilIn ga c V wr) (hk : k < c) : (∃ v, wr.cell? ⟨ga, k, none⟩ = some v) ∧ wr.frozen? ⟨ga, k, none⟩ = false ∧ ∀ u, SpoilIn ga c V (wr.setCell ⟨ga, k, none⟩ u) := by
  obtain ⟨cu, h1, h2, h3⟩ := h
  exact ⟨⟨_, h1.cell (List.getElem?_eq_getElem (by omega))⟩, h1.free k, fun u => ⟨_, h1.set_ k u, by rw [List.length_set]; exact h2, h3.setCell (.inl rfl) _⟩⟩
theorem SdIn.off2 {B : Nat} {w w' : World} {g win ack c : Nat} {Ls : List (List Nat)} {A : Option Addr} {es : List Sl} {k : Option Nat} (h : SdIn B w g win ack Ls A c es k) {b : Nat} {k2 : Option Nat} (hf : SdFar g A Ls.length es k b) (hf2 : ∀ b, k2 = some b → SdFar g A Ls.length es k b) (hk : Kept (fun i => i = b ∨ some i = k2) w w') : SdIn B w' g win ack Ls A c es k := by
  refine h.keep hk (fun e => ?_) (fun a ha hn e => ?_) (fun b' hb e => ?_) (fun i L a m hL he hn e => ?_)
  · rcases e with e | e
    · exact hf.g_ e.symm
    · exact (hf2 g e.symm).g_ rfl
  · rcases e with e | e
    · exact hf.row a ha hn e
    · exact (hf2 _ e.symm).row a ha hn rfl
  · rcases e with e | e
    · exact hf.k_ (by rw [← e]; exact hb.symm)
    · exact (hf2 b' e.symm).k_ hb.symm
  · rcases e with e | e
    · exact hf.each i a _ m he hn e
    · exact (hf2 _ e.symm).each i a _ m he hn rfl
/-- A sender, and a copy of it that went its own way. -/
structure TwoIn (w wr : World) (g gc M D : Nat) (TX LC : List (List Nat)) (As Ac : Option Addr) (cs cc : Nat) (es ec : List Sl) (q qc : Option Nat) : Prop where
  s : SdIn w.heap.size wr g 16 0 TX As cs es q
  c : SdIn w.heap.size wr gc 16 M LC Ac cc ec qc
  d : D ≤ LC.length
  l : LC.length ≤ 17
  below : Below w.heap.size w wr
theorem TwoIn.down {w wr W : World} {g gc M D : Nat} {TX LC : List (List Nat)} {As Ac : Option Addr} {cs cc : Nat} {es ec : List Sl} {q qc : Option Nat} (h : TwoIn w wr g gc M D TX LC As Ac cs cc es ec q qc) (hb : Below wr.heap.size wr W) : TwoIn w W g gc M D TX LC As Ac cs cc es ec q qc :=
  ⟨h.s.below hb, h.c.below hb, h.d, h.l, bel_bl h.below hb⟩
theorem TwoIn.off {w wr W0 W : World} {g gc M D : Nat} {TX LC : List (List Nat)} {As Ac : Option Addr} {cs cc : Nat} {es ec : List Sl} {q qc : Option Nat} (h0 : TwoIn w W0 g gc M D TX LC As Ac cs cc es ec q qc) (h : TwoIn w wr g gc M D TX LC As Ac cs cc es ec q qc) {b : Nat} (hb : W0.heap.size ≤ b) (hk : Kept (fun i => i = b) wr W) : TwoIn w W g gc M D TX LC As Ac cs cc es ec q qc :=
  ⟨h.s.off (h0.s.fresh hb) hk, h.c.off (h0.c.fresh hb) hk, h.d, h.l, h.below.trans (hk.below h.below.size (fun i hi e => by have h1 : i = b := e; have h2 := h0.below.size; omega))⟩
/-- Body of the copy: there just if it was not acknowledged. -/
theorem body_two {w wr : World} {g gc M D N : Nat} {TX LC : List (List Nat)} {As Ac : Option Addr} {cs cc : Nat} {es ec : List Sl} {q qc : Option Nat} (h : TwoIn w wr g gc M D TX LC As Ac cs cc es ec q qc) (hN : N ≤ 16) (hD : D + M = N) {i : Nat} (hi : i < N) :
    Calls Try.prog 21 #[.pointer (some ⟨gc, 0, none⟩), .int .i64 ((i : Int) + 1)] wr fun e w' => ∃ A' n' c', e = .returned (.tuple #[.slice A' n' c', .bool (decide (M ≤ i))]) ∧ Below wr.heap.size wr w' := by
  have hl := h.l
  have hd := h.d
  by_cases hm : M ≤ i
  · rw [decide_eq_true hm]
    obtain ⟨L, hL⟩ : ∃ L, LC[i - M]? = some L := ⟨_, List.getElem?_eq_getElem (by omega)⟩
    exact (body_yes wr h.c (by omega) (by omega) ((i : Int) + 1) (i - M) L hL (by omega)).mono fun e w' ⟨A', c', h1, _, _, _, h2⟩ => ⟨A', _, c', h1, h2⟩
  · rw [decide_eq_false hm]
    exact (body_lo wr h.c (by omega) (by omega) ((i : Int) + 1) (by omega)).mono fun e w' ⟨h1, h2⟩ => ⟨none, 0, 0, h1, h2⟩
end Go.Proofs.Ythfngmlnmpbcpaa
