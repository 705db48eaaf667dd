/- What SenderKeeps goes by: a sender beside a row of the law's own. -/
import Derived.Test.YthfngmlnmpbcpaaSd6a
namespace Go.Proofs.Ythfngmlnmpbcpaa
open Go.RowKit
set_option linter.unusedSimpArgs false
set_option linter.unusedVariables false

theorem and_15 (x : Int) : ∃ v : Nat, v ≤ 15 ∧ bits .and .i64 x 15 = (v : Int) := by
  have h : (BitVec.ofInt 64 x &&& BitVec.ofInt 64 15).toNat ≤ 15 := by
    rw [BitVec.toNat_and]
    exact Nat.and_le_right
  refine ⟨_, h, ?_⟩
  show IntKind.i64.wrap ((BitVec.ofInt 64 x &&& BitVec.ofInt 64 15).toNat : Int) = _
  exact IntWalk.i64_in _ (by omega)
theorem and_7 (x : Int) : ∃ v : Nat, v ≤ 7 ∧ bits .and .i64 x 7 = (v : Int) := by
  have h : (BitVec.ofInt 64 x &&& BitVec.ofInt 64 7).toNat ≤ 7 := by
    rw [BitVec.toNat_and]
    exact Nat.and_le_right
  refine ⟨_, h, ?_⟩
  show IntKind.i64.wrap ((BitVec.ofInt 64 x &&& BitVec.ofInt 64 7).toNat : Int) = _
  exact IntWalk.i64_in _ (by omega)
/-- Block b is none of the sender's. -/
structure SdFar (g : Nat) (A : Option Addr) (n : Nat) (es : List Sl) (k : Option Nat) (b : Nat) : Prop where
  g_ : b ≠ g
  k_ : some b ≠ k
  row : ∀ a, A = some a → 0 < n → a.block ≠ b
  each : ∀ (i : Nat) (a : Addr) (n m : Nat), es[i]? = some (some a, n, m) → 0 < n → a.block ≠ b
theorem ownBlock_some {A : Option Addr} {n c : Nat} {a : Addr} (h : A = some a) : (Value.slice A n c).ownBlock = some a.block := by subst h; rfl
theorem SdFar.push {g b n n' m' : Nat} {w : World} {A A' : Option Addr} {c' : Nat} {es : List Sl} {k k' : Option Nat} {Ac : Option Addr} {L cc : Nat} (h : SdFar g A n es k b) (hb : b < w.heap.size) (h1 : k' = k ∨ ∃ b, k' = some b ∧ w.heap.size ≤ b) (h2 : k' = (Value.slice A' n' c').ownBlock)
    (h3 : ∀ a', Ac = some a' → 0 < L → w.heap.size ≤ a'.block) : SdFar g A' m' (es ++ [(Ac, L, cc)]) k' b := by
  have hk : some b ≠ k' := by
    rcases h1 with rfl | ⟨x, rfl, hx⟩
    · exact h.k_
    · intro e; have := Option.some.inj e; omega
  refine ⟨h.g_, hk, fun a ha _ e => hk (by rw [h2, ownBlock_some ha, e]), fun i a n m hi hn => ?_⟩
  rcases Nat.lt_or_ge i es.length with hl | hl
  · rw [List.getElem?_append_left hl] at hi
    exact h.each i a n m hi hn
  · rw [List.getElem?_append_right hl] at hi
    have hlt := (List.getElem?_eq_some_iff.1 hi).1
    simp at hlt
    rw [show i - es.length = 0 by omega] at hi
    simp at hi
    obtain ⟨q1, q2, q3⟩ := hi
    have := h3 a q1 (by omega)
    omega
theorem SdFar.cut {g b n n' m' : Nat} {w : World} {A A' : Option Addr} {c' : Nat} {es : List Sl} {k k' : Option Nat} (h : SdFar g A n es k b) (hb : b < w.heap.size) (h1 : k' = none ∨ ∃ b, k' = some b ∧ w.heap.size ≤ b) (h2 : k' = (Value.slice A' n' c').ownBlock) (j : Nat) : SdFar g A' m' (es.drop j) k' b := by
  have hk : some b ≠ k' := by
    rcases h1 with rfl | ⟨x, rfl, hx⟩
    · intro e; cases e
    · intro e; have := Option.some.inj e; omega
  refine ⟨h.g_, hk, fun a ha _ e => hk (by rw [h2, ownBlock_some ha, e]), fun i a n m hi hn => ?_⟩
  rw [List.getElem?_drop] at hi
  exact h.each _ a n m hi hn
/-- A block that is new is none of the sender's. -/
theorem SdIn.fresh {B : Nat} {w : World} {g win ack c : Nat} {Ls : List (List Nat)} {A : Option Addr} {es : List Sl} {k : Option Nat} (h : SdIn B w g win ack Ls A c es k) {b : Nat} (hb : w.heap.size ≤ b) : SdFar g A Ls.length es k b := by
  refine ⟨by have := h.lt; omega, fun e => by have := h.klt b e.symm; omega, fun a ha h1 e => ?_, fun i a n m hi hn e => ?_⟩
  · rcases h.own with ⟨h2, _⟩ | ⟨_, _⟩
    · have := h.klt a.block (by rw [h2, ownBlock_some ha])
      omega
    · have := h.row.low a ha h1
      omega
  · have hil := (List.getElem?_eq_some_iff.1 hi).1
    rw [h.eslen] at hil
    obtain ⟨a', m', q1, q2, _⟩ := h.each i _ (List.getElem?_eq_getElem hil)
    rw [hi] at q1
    injection q1 with q1
    injection q1 with q1 q3
    injection q3 with q3 _
    have := q2.low a q1.symm (by omega)
    omega
/-- The sender stands when another's row is written to. -/
theorem SdIn.beside {B : Nat} {w w' : World} {g win ack c : Nat} {Ls : List (List Nat)} {A : Option Addr} {es : List Sl} {k : Option Nat} (h : SdIn B w g win ack Ls A c es k) {v : Value} (hf : ∀ b, v.ownBlock = some b → SdFar g A Ls.length es k b) (hk : Kept (fun b => some b = v.ownBlock) w w') : SdIn B w' g win ack Ls A c es k :=
  h.keep hk (fun e => (hf g e.symm).g_ rfl) (fun a ha hn e => (hf _ e.symm).row a ha hn rfl) (fun b hb e => (hf b e.symm).k_ hb.symm) (fun i L a m hL he hn e => (hf _ e.symm).each i a _ m he hn rfl)
/-- The law's own row of rows: ps, of PL. -/
structure PuIn (w wr : World) (v : Value) (PL : List (List Nat)) (ps : List Sl) : Prop where
  own : wr.ownsRow w.heap.size 32 1 v PL.length (rowsV slc ps)
  len : ps.length = PL.length
  each : ∀ (i : Nat) (L : List Nat), PL[i]? = some L → ∃ (a : Option Addr) (m : Nat), ps[i]? = some (a, L.length, m) ∧ RdS w w.heap.size 1 a L.length m (rowsV f8 L) ∧ (∀ b ∈ L, b < 256)
theorem PuIn.kept {S : Nat → Prop} {w wr W : World} {v : Value} {PL : List (List Nat)} {ps : List Sl} (h : PuIn w wr v PL ps) (hk : Kept S wr W) (hne : ∀ b, v.ownBlock = some b → ¬ S b) : PuIn w W v PL ps :=
  ⟨own_kept h.own hk hne, h.len, h.each⟩
theorem PuIn.below {w wr W : World} {v : Value} {PL : List (List Nat)} {ps : List Sl} (h : PuIn w wr v PL ps) (hb : Below wr.heap.size wr W) : PuIn w W v PL ps :=
  h.kept (Kept.of_below (S := fun _ => False) hb) (fun _ _ e => e)
/-- Where a round stands: k rows came, of which PL were pushed, ack acknowledged. -/
structure KsIn (w wr : World) (g win k ack : Nat) (v : Value) (PL : List (List Nat)) (ps : List Sl) (A : Option Addr) (c : Nat) (es : List Sl) (q : Option Nat) : Prop where
  sd : SdIn w.heap.size wr g win ack (PL.drop ack) A c es q
  below : Below w.heap.size w wr
  pu : PuIn w wr v PL ps
  far : ∀ b, v.ownBlock = some b → SdFar g A (PL.drop ack).length es q b
  le : ack ≤ PL.length
  lek : PL.length ≤ k
  win : PL.length ≤ ack + win
theorem KsIn.down {w wr W : World} {g win k ack : Nat} {v : Value} {PL : List (List Nat)} {ps : List Sl} {A : Option Addr} {c : Nat} {es : List Sl} {q : Option Nat} (h : KsIn w wr g win k ack v PL ps A c es q) (hb : Below wr.heap.size wr W) : KsIn w W g win k ack v PL ps A c es q :=
  ⟨h.sd.below hb, bel_bl h.below hb, h.pu.below hb, h.far, h.le, h.lek, h.win⟩
theorem PuIn.lt {w wr : World} {v : Value} {PL : List (List Nat)} {ps : List Sl} (h : PuIn w wr v PL ps) {b : Nat} (hb : v.ownBlock = some b) : w.heap.size ≤ b ∧ b < wr.heap.size := h.own.lt b hb
/-- What a Push does to it: refused, or one more in the sender. -/
def Pushed (w : World) (g win k ack : Nat) (v : Value) (PL : List (List Nat)) (ps : List Sl) (L : List Nat) (fb : Bool) (nn ee : Int) (W : World) : Prop :=
  (fb = true ∧ nn = 0 ∧ ee = 20 ∧ ∃ A c es q, KsIn w W g win k ack v PL ps A c es q) ∨
  (fb = false ∧ nn = (PL.length : Int) + 1 ∧ ee = 0 ∧ ack ≤ PL.length ∧ PL.length ≤ k ∧ PL.length < ack + win ∧ Below w.heap.size w W ∧ PuIn w W v PL ps ∧ ∃ A c es q, SdIn w.heap.size W g win ack (PL.drop ack ++ [L]) A c es q ∧ ∀ b, v.ownBlock = some b → SdFar g A (PL.drop ack ++ [L]).length es q b)
theorem push_ks {w : World} {g win k ack : Nat} {v : Value} {PL : List (List Nat)} {ps : List Sl} {A : Option Addr} {c : Nat} {es : List Sl} {q : Option Nat} (W : World) (h : KsIn w W g win k ack v PL ps A c es q) (hk : k ≤ 60) (A1 : Option Addr) (c1 : Nat) (L : List Nat) (hr : RdS W W.heap.size 1 A1 L.length c1 (rowsV f8 L)) (h256 : ∀ b ∈ L, b < 256) (h60 : L.length ≤ 60) :
    Calls Try.prog 13 #[.pointer (some ⟨g, 0, none⟩), .slice A1 L.length c1] W fun e W' => ∃ nn ee, e = .returned (.tuple #[.int .i64 nn, .int .i64 ee]) ∧ Pushed w g win k ack v PL ps L (decide (win ≤ PL.length - ack)) nn ee W' := by
  have hl := h.le
  have hlk := h.lek
  have hdl : (PL.drop ack).length = PL.length - ack := List.length_drop
  by_cases hf : win ≤ PL.length - ack
  · rw [decide_eq_true hf]
    refine (push_full W h.sd (by omega) (by omega) A1 L.length c1 (by omega)).mono ?_
    rintro e W' ⟨rfl, hb⟩
    exact ⟨0, 20, rfl, .inl ⟨rfl, rfl, rfl, _, _, _, _, h.down hb⟩⟩
  · rw [decide_eq_false hf]
    refine (push_yes W h.sd (by omega) (by omega) A1 c1 L hr h256 h60 (by omega) h.below.size).mono ?_
    rintro e W' ⟨rfl, A', c', es', k', h2, h3, h4, h5, Ac, cc, rfl, h6⟩
    refine ⟨_, 0, rfl, .inr ⟨rfl, by rw [hdl]; omega, rfl, hl, hlk, by omega, h.below.trans (h.sd.far h3 h.below.size), h.pu.kept h3 (fun b hb e => ?_), A', c', _, k', h2, fun b hb => (h.far b hb).push (h.pu.lt hb).2 h4 h5 h6⟩⟩
    rcases e with e | e
    · exact (h.far b hb).g_ e
    · exact (h.far b hb).k_ e
theorem drop_app {PL : List (List Nat)} {ack : Nat} (h : ack ≤ PL.length) (L : List Nat) : PL.drop ack ++ [L] = (PL ++ [L]).drop ack := by
  rw [List.drop_append_of_le_length h]
/-- The law's row grows. -/
theorem PuIn.app {w wr : World} {v : Value} {PL : List (List Nat)} {ps : List Sl} (h : PuIn w wr v PL ps) (hn : PL.length ≤ 1000) (ty : TypeId) (hB : w.heap.size ≤ wr.heap.size) (BB : Nat) (A1 : Option Addr) (c1 : Nat) (a : Option Addr) (m : Nat) (L : List Nat) (hr : RdS wr BB 1 A1 1 c1 (rowsV slc [(a, L.length, m)]))
    (hL : RdS w w.heap.size 1 a L.length m (rowsV f8 L)) (h256 : ∀ b ∈ L, b < 256) :
    ∃ v' W, (Builtin.append_ #[34, 34] ty #[v, .slice A1 1 c1]).run Try.prog wr = .ok v' W ∧ PuIn w W v' (PL ++ [L]) (ps ++ [(a, L.length, m)]) ∧ Kept (fun b => some b = v.ownBlock) wr W ∧ (v'.ownBlock = v.ownBlock ∨ v'.ownBlock = some wr.heap.size) := by
  obtain ⟨i0, hi, hz0, hz1, hz2⟩ := info_parts_ info_sl
  cases A1 with
  | none => have := (hr.none_ rfl).1; omega
  | some a1 =>
    obtain ⟨v', w', hrun, hown', hg, _, hbk⟩ := run_append_own_at (P := Try.prog) wr w.heap.size 34 ty 32 i0 _ 1 24 Try.underlying34 hi hz0 hz1 hz2 rfl (by decide) _ _ _ h.own a1 1 c1 _ hr.len (hr.cell a1 rfl) (slc_all _) (by unfold maxLen; omega) (by omega) hB
    rw [← rowsV_app] at hown'
    have hlen := h.len
    refine ⟨v', w', hrun, ⟨by rw [List.length_append]; exact hown', by simp [hlen], fun i L' hL' => ?_⟩, ⟨hg.os, hg.tape, hg.output, hg.size, fun i hi hne => hg.block i hi hne⟩, hbk⟩
    rcases Nat.lt_or_ge i PL.length with hi | hi
    · rw [List.getElem?_append_left hi] at hL'
      obtain ⟨a0, m0, q1, q2, q3⟩ := h.each i L' hL'
      exact ⟨a0, m0, by rw [List.getElem?_append_left (by omega)]; exact q1, q2, q3⟩
    · have hlt := (List.getElem?_eq_some_iff.1 hL').1
      simp at hlt
      obtain rfl : i = PL.length := by omega
      rw [List.getElem?_append_right (Nat.le_refl _), Nat.sub_self] at hL'
      simp at hL'
      subst hL'
      exact ⟨a, m, by rw [← hlen, List.getElem?_append_right (Nat.le_refl _), Nat.sub_self]; rfl, hL, h256⟩
/-- Both grew. -/
theorem Pushed.both {w W W' : World} {g win k ack : Nat} {v v' : Value} {PL : List (List Nat)} {L : List Nat} {A : Option Addr} {c : Nat} {es ps' : List Sl} {q : Option Nat} (hl : ack ≤ PL.length) (hlk : PL.length ≤ k) (hw : PL.length < ack + win) (hb : Below w.heap.size w W)
    (hS : SdIn w.heap.size W g win ack (PL.drop ack ++ [L]) A c es q) (hf : ∀ b, v.ownBlock = some b → SdFar g A (PL.drop ack ++ [L]).length es q b) (hv : ∀ b, v.ownBlock = some b → w.heap.size ≤ b) (hp : PuIn w W' v' (PL ++ [L]) ps') (hk : Kept (fun b => some b = v.ownBlock) W W') (ho : v'.ownBlock = v.ownBlock ∨ v'.ownBlock = some W.heap.size) :
    KsIn w W' g win (k + 1) ack v' (PL ++ [L]) ps' A c es q := by
  have hS' := hS.beside hf hk
  rw [drop_app hl] at hS' hf hS
  refine ⟨hS', hb.trans (hk.below hb.size (fun i hi e => by have := hv i e.symm; omega)), hp, fun b hb' => ?_, by simp; omega, by simp; omega, by simp; omega⟩
  rcases ho with e | e
  · exact hf b (by rw [← e]; exact hb')
  · have : b = W.heap.size := Option.some.inj (hb'.symm.trans e)
    subst this
    exact hS.fresh (Nat.le_refl _)
theorem KsIn.more {w wr : World} {g win k ack : Nat} {v : Value} {PL : List (List Nat)} {ps : List Sl} {A : Option Addr} {c : Nat} {es : List Sl} {q : Option Nat} (h : KsIn w wr g win k ack v PL ps A c es q) : KsIn w wr g win (k + 1) ack v PL ps A c es q :=
  ⟨h.sd, h.below, h.pu, h.far, h.le, by have := h.lek; omega, h.win⟩
theorem ack_ks {w : World} {g win k ack : Nat} {v : Value} {PL : List (List Nat)} {ps : List Sl} {A : Option Addr} {c : Nat} {es : List Sl} {q : Option Nat} (W : World) (h : KsIn w W g win k ack v PL ps A c es q) (hk : k ≤ 100) (ha : ack < PL.length) :
    Calls Try.prog 14 #[.pointer (some ⟨g, 0, none⟩), .int .i64 ((ack : Int) + 1)] W fun e W' => e = .returned (.int .i64 0) ∧ ∃ A' c' es' q', KsIn w W' g win k (ack + 1) v PL ps A' c' es' q' := by
  have hlk := h.lek
  refine (show Calls Try.prog 14 #[.pointer (some ⟨g, 0, none⟩), .int .i64 ((ack : Int) + 1)] W _ from ack_yes W h.sd (by omega) (by rw [List.length_drop]; omega) 1 (by rw [List.length_drop]; omega)).mono ?_
  rintro e W' ⟨rfl, A', c', es', k', h2, h3, h4, h5, rfl⟩
  rw [List.drop_drop] at h2
  exact ⟨rfl, A', c', _, k', h2, h.below.trans (h.sd.far1 h3 h.below.size), h.pu.kept h3 (fun b hb e => (h.far b hb).g_ e), fun b hb => (h.far b hb).cut (h.pu.lt hb).2 h4 h5 1, ha, h.lek, by have := h.win; omega⟩
end Go.Proofs.Ythfngmlnmpbcpaa
