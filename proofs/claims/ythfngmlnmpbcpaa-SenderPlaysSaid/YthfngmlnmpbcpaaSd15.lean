/- Words for SenderPlays: any push, any acknowledgement, of the two beside each other; the old one beside its clone. -/
import Derived.Test.YthfngmlnmpbcpaaSd14
import Derived.Test.YthfngmlnmpbcpaaSdTy2
namespace Go.Proofs.Ythfngmlnmpbcpaa
open Go.RowKit
set_option linter.unusedSimpArgs false
set_option linter.unusedVariables false

theorem and_1 (x : Int) : ∃ v : Nat, v ≤ 1 ∧ bits .and .i64 x 1 = (v : Int) := by
  have h : (BitVec.ofInt 64 x &&& BitVec.ofInt 64 1).toNat ≤ 1 := by
    rw [BitVec.toNat_and]
    exact Nat.and_le_right
  refine ⟨_, h, ?_⟩
  show IntKind.i64.wrap ((BitVec.ofInt 64 x &&& BitVec.ofInt 64 1).toNat : Int) = _
  exact IntWalk.i64_in _ (by omega)
theorem opS_len (e : OpS) : (opCells e).length = 3 := rfl
/-- What a push answers: the number; the error; what is kept. -/
def pushN (win cnt tot : Nat) : Int := if cnt < win then ((tot + 1 : Nat) : Int) else 0
def pushE (win cnt : Nat) : Int := if cnt < win then 0 else 20
def pushL (win cnt : Nat) (X : List (List Nat)) (L : List Nat) : List (List Nat) := if cnt < win then X ++ [L] else X
theorem BothIn.pushA {w W : World} {g gr win ack rack c cr : Nat} {Ls TL : List (List Nat)} {A Ar : Option Addr} {es er : List Sl} {q : Option Nat} (h : BothIn w W g gr win ack rack Ls TL A c es q Ar cr er) (ha : ack ≤ 100000) (hn : Ls.length ≤ 100000) (N : Nat) (hN : ack + Ls.length = N) (A1 : Option Addr) (c1 : Nat) (L : List Nat) (hr : RdS W W.heap.size 1 A1 L.length c1 (rowsV f8 L)) (h256 : ∀ b ∈ L, b < 256) (h60 : L.length ≤ 60) :
    Calls Try.prog 13 #[.pointer (some ⟨g, 0, none⟩), .slice A1 L.length c1] W fun e W' => e = .returned (.tuple #[.int .i64 (pushN win Ls.length N), .int .i64 (pushE win Ls.length)]) ∧
      ∃ A' c' es' q', BothIn w W' g gr win ack rack (pushL win Ls.length Ls L) TL A' c' es' q' Ar cr er := by
  unfold pushN pushE pushL
  by_cases hf : Ls.length < win
  · rw [if_pos hf, if_pos hf, if_pos hf, show ((N + 1 : Nat) : Int) = (ack : Int) + ((Ls.length + 1 : Nat) : Int) by omega]
    exact h.push ha hn A1 c1 L hr h256 h60 hf
  · rw [if_neg hf, if_neg hf, if_neg hf]
    exact (push_full W h.sd ha hn A1 L.length c1 (by omega)).mono fun e W' ⟨h1, h2⟩ => ⟨h1, A, c, es, q, h.down h2⟩
theorem BothIn.rpushA {w W : World} {g gr win ack rack c cr : Nat} {Ls TL : List (List Nat)} {A Ar : Option Addr} {es er : List Sl} {q : Option Nat} (h : BothIn w W g gr win ack rack Ls TL A c es q Ar cr er) (ha : rack ≤ 100000) (hn : TL.length ≤ 100000) (hal : rack ≤ TL.length) (A1 : Option Addr) (c1 : Nat) (L : List Nat) (hr : RdS W W.heap.size 1 A1 L.length c1 (rowsV f8 L)) (h256 : ∀ b ∈ L, b < 256) (h60 : L.length ≤ 60) :
    Calls Try.prog 16 #[.pointer (some ⟨gr, 0, none⟩), .slice A1 L.length c1] W fun e W' => e = .returned (.tuple #[.int .i64 (pushN win (TL.length - rack) TL.length), .int .i64 (pushE win (TL.length - rack))]) ∧
      ∃ Ar' cr' er', BothIn w W' g gr win ack rack Ls (pushL win (TL.length - rack) TL L) A c es q Ar' cr' er' := by
  unfold pushN pushE pushL
  by_cases hf : TL.length - rack < win
  · rw [if_pos hf, if_pos hf, if_pos hf]
    exact h.rpush ha hn hal A1 c1 L hr h256 h60 hf
  · rw [if_neg hf, if_neg hf, if_neg hf]
    exact (rpush_full W h.rf (by omega) (by omega) hal A1 L.length c1 (by omega)).mono fun e W' ⟨h1, h2⟩ => ⟨h1, Ar, cr, er, h.down h2⟩
theorem BothIn.rackF {w W : World} {g gr win ack rack c cr : Nat} {Ls TL : List (List Nat)} {A Ar : Option Addr} {es er : List Sl} {q : Option Nat} (h : BothIn w W g gr win ack rack Ls TL A c es q Ar cr er) (ha : rack ≤ 100000) (hn : TL.length ≤ 100000) (hal : rack ≤ TL.length) (x : Int) :
    Calls Try.prog 17 #[.pointer (some ⟨gr, 0, none⟩), .int .i64 x] W fun e W' => e = .returned (.int .i64 (ackR rack TL.length x)) ∧ Kept (From_ w.heap.size) W W' ∧ BothIn w W' g gr win ack (ackTo rack TL.length x) Ls TL A c es q Ar cr er := by
  refine (rack_any W h.rf (by omega) (by omega) hal x).mono ?_
  rintro e W' ⟨rfl, h2, h3⟩
  obtain ⟨h6, h7⟩ := h.beside (fun b e => e) h3
  exact ⟨rfl, h3.wider (fun i _ e => by have h8 : i = gr := e; rw [h8]; exact h.rlo), h6, h2, h7, h.rlo, h.far, h.rfar⟩
theorem BothIn.ackF {w W : World} {g gr win ack rack c cr : Nat} {Ls TL : List (List Nat)} {A Ar : Option Addr} {es er : List Sl} {q : Option Nat} (h : BothIn w W g gr win ack rack Ls TL A c es q Ar cr er) (ha : ack ≤ 100000) (hn : Ls.length ≤ 100000) (N : Nat) (hN : ack + Ls.length = N) (x : Int) :
    Calls Try.prog 14 #[.pointer (some ⟨g, 0, none⟩), .int .i64 x] W fun e W' => e = .returned (.int .i64 (ackR ack N x)) ∧ Kept (From_ w.heap.size) W W' ∧
      ∃ A' c' es' q', BothIn w W' g gr win (ackTo ack N x) rack (Ls.drop (ackTo ack N x - ack)) TL A' c' es' q' Ar cr er := by
  unfold ackR ackTo
  rcases Int.lt_or_le x (ack : Int) with h1 | h1
  · rw [if_neg (by omega), if_neg (by omega), Nat.sub_self, List.drop_zero]
    refine (ack_lo W h.sd ha hn x h1).mono ?_
    rintro e w' ⟨rfl, rfl⟩
    exact ⟨rfl, Kept.refl _ _, A, c, es, q, h⟩
  · rcases Int.lt_or_le ((ack : Int) + (Ls.length : Int)) x with h2 | h2
    · rw [if_neg (by omega), if_neg (by omega), Nat.sub_self, List.drop_zero]
      refine (ack_hi W h.sd ha hn x h2).mono ?_
      rintro e w' ⟨rfl, hb⟩
      exact ⟨rfl, Kept.of_below hb, A, c, es, q, h.down hb⟩
    · obtain ⟨j, rfl⟩ : ∃ j : Nat, x = (ack : Int) + (j : Int) := ⟨(x - ack).toNat, by omega⟩
      rw [if_pos (by omega), if_pos (by omega), show ((ack : Int) + (j : Int)).toNat = ack + j by omega, show ack + j - ack = j by omega]
      refine (ack_yes W h.sd ha hn j (by omega)).mono ?_
      rintro e W' ⟨rfl, A', c', es', k', h2, h3, h4, h5, rfl⟩
      refine ⟨rfl, h3.wider (fun i _ e => by have h8 : i = g := e; rw [h8]; exact h.sd.lo), A', c', _, k', h2, h.rf.beside (fun b hb => h.rfar b (.inl hb)) h3, h.below.trans (h.sd.far (h3.wider (fun i _ e => Or.inl e)) h.below.size), h.rlo, h.far.cut h.rf.lt h4 h5 j, fun b hb => ?_⟩
      rcases hb with hb | hb
      · exact h.rfar b (.inl hb)
      · rcases h4 with h4 | ⟨b', h4, h7⟩
        · rw [h4] at hb; cases hb
        · obtain rfl := Option.some.inj (hb.trans h4)
          exact h.rf.fresh h7
/-- Its own box is none of what it keeps. -/
theorem SdIn.selfFar {B : Nat} {w : World} {g win ack c : Nat} {Ls : List (List Nat)} {A : Option Addr} {es : List Sl} {k : Option Nat} (h : SdIn B w g win ack Ls A c es k) {g' : Nat} (hne : g ≠ g') : SdFar g' A Ls.length es none g := by
  refine ⟨hne, fun e => (by cases e), fun a ha hn => h.rne a ha hn, fun i a n m hi hn => ?_⟩
  have hil := (List.getElem?_eq_some_iff.1 hi).1
  rw [h.eslen] at hil
  obtain ⟨a', m', q1, _, _, _, q5⟩ := h.each i _ (List.getElem?_eq_getElem hil)
  rw [hi] at q1
  injection q1 with q1
  injection q1 with q1 q3
  injection q3 with q3 _
  exact (q5 a q1.symm (by omega)).1
/-- The old one is pushed to, full or not, beside its clone. -/
theorem BothIn.opushA {w W : World} {g gr win ack rack c cr : Nat} {Ls TL : List (List Nat)} {A Ar : Option Addr} {es er : List Sl} {q : Option Nat} {g' : Nat} (h : BothIn w W g gr win ack rack Ls TL A c es q Ar cr er) (h' : BothIn w W g' gr win ack rack Ls TL A Ls.length es none Ar cr er) (hne : g' ≠ g) (hnq : some g' ≠ q) (hw : 1 ≤ win) (ha : ack ≤ 100000) (hn : Ls.length ≤ 10000) (A1 : Option Addr) (c1 : Nat) (L : List Nat) (hr : RdS W W.heap.size 1 A1 L.length c1 (rowsV f8 L)) (h256 : ∀ b ∈ L, b < 256) (h60 : L.length ≤ 60) :
    Calls Try.prog 13 #[.pointer (some ⟨g, 0, none⟩), .slice A1 L.length c1] W fun e W' => ∃ v, e = .returned v ∧
      (∃ Ls' A' c' es' q', BothIn w W' g gr win ack rack Ls' TL A' c' es' q' Ar cr er ∧ 0 < Ls'.length ∧ Ls'.length ≤ 100000) ∧ BothIn w W' g' gr win ack rack Ls TL A Ls.length es none Ar cr er := by
  by_cases hf : Ls.length < win
  · refine (h.opush h' hne hnq ha (by omega) A1 c1 L hr h256 h60 hf).mono ?_
    rintro e W' ⟨h1, ⟨A', c', es', q', h2⟩, h3⟩
    exact ⟨_, h1, ⟨_, A', c', es', q', h2, by rw [List.length_append]; show 0 < Ls.length + 1; omega, by rw [List.length_append]; show Ls.length + 1 ≤ _; omega⟩, h3⟩
  · refine (push_full W h.sd ha (by omega) A1 L.length c1 (by omega)).mono ?_
    rintro e W' ⟨h1, h2⟩
    exact ⟨_, h1, ⟨Ls, A, c, es, q, h.down h2, by omega, by omega⟩, h'.down h2⟩
/-- The old one is acknowledged, beside its clone. -/
theorem BothIn.oack {w W : World} {g gr win ack rack c cr cn : Nat} {Ls LN TL : List (List Nat)} {A An Ar : Option Addr} {es en er : List Sl} {q qn : Option Nat} {g' : Nat} (h : BothIn w W g gr win ack rack Ls TL A c es q Ar cr er) (h' : BothIn w W g' gr win ack rack LN TL An cn en qn Ar cr er) (hf : SdFar g' An LN.length en qn g) (ha : ack ≤ 100000) (h0 : 0 < Ls.length) (hn : Ls.length ≤ 100000) :
    Calls Try.prog 14 #[.pointer (some ⟨g, 0, none⟩), .int .i64 ((ack : Int) + 1)] W fun e W' => ∃ v, e = .returned v ∧ BothIn w W' g' gr win ack rack LN TL An cn en qn Ar cr er := by
  refine (ack_yes W h.sd ha hn 1 h0).mono ?_
  rintro e W' ⟨h1, A', c', es', k', h2, h3, -⟩
  exact ⟨_, h1, h'.sd.off hf h3, h'.rf.beside (fun b hb => by have h9 : b = g := hb; rw [h9]; exact h.rfar g (.inl rfl)) h3, h.below.trans (h.sd.far1 h3 h.below.size), h'.rlo, h'.far, h'.rfar⟩
/-- A round's beginning: the two beside each other. -/
def PlIn (w : World) (gr win m g : Nat) (wr : World) : Prop := ∃ (ack : Nat) (TL : List (List Nat)) (A : Option Addr) (c : Nat) (es : List Sl) (q : Option Nat) (Ar : Option Addr) (cr : Nat) (er : List Sl), BothIn w wr g gr win ack ack (TL.drop ack) TL A c es q Ar cr er ∧ ack ≤ TL.length ∧ TL.length ≤ m ∧ TL.length - ack ≤ win
theorem PlIn.pushed {w W : World} {g gr win ack c cr k : Nat} {TL : List (List Nat)} {A Ar : Option Addr} {es er : List Sl} {q : Option Nat} {L : List Nat} (hal : ack ≤ TL.length) (htm : TL.length ≤ k) (hwn : TL.length - ack ≤ win)
    (h : BothIn w W g gr win ack ack (pushL win (TL.length - ack) (TL.drop ack) L) (pushL win (TL.length - ack) TL L) A c es q Ar cr er) : PlIn w gr win (k + 1) g W := by
  unfold pushL at h
  by_cases hf : TL.length - ack < win
  · rw [if_pos hf, if_pos hf, drop_app hal] at h
    have hl : (TL ++ [L]).length = TL.length + 1 := by rw [List.length_append]; rfl
    exact ⟨ack, _, _, _, _, _, _, _, _, h, by omega, by omega, by omega⟩
  · rw [if_neg hf, if_neg hf] at h
    exact ⟨ack, _, _, _, _, _, _, _, _, h, hal, by omega, hwn⟩
theorem PlIn.acked {w W : World} {g gr win ack c cr k : Nat} {TL : List (List Nat)} {A Ar : Option Addr} {es er : List Sl} {q : Option Nat} {x : Int} (hal : ack ≤ TL.length) (htm : TL.length ≤ k) (hwn : TL.length - ack ≤ win)
    (h : BothIn w W g gr win (ackTo ack TL.length x) (ackTo ack TL.length x) ((TL.drop ack).drop (ackTo ack TL.length x - ack)) TL A c es q Ar cr er) : PlIn w gr win (k + 1) g W := by
  have h1 : ack ≤ ackTo ack TL.length x ∧ ackTo ack TL.length x ≤ TL.length := by
    unfold ackTo
    split
    · omega
    · omega
  rw [List.drop_drop, show ack + (ackTo ack TL.length x - ack) = ackTo ack TL.length x by omega] at h
  exact ⟨_, _, _, _, _, _, _, _, _, h, h1.2, by omega, by omega⟩
theorem PlIn.first {w w1 w2 w3 : World} {g gr win : Nat} (hb1 : Below w.heap.size w w1) (hS : SdIn w1.heap.size w2 g win 0 [] none 0 [] none) (hb2 : Below w1.heap.size w1 w2) (hgr : w2.heap.size ≤ gr) (hR : RfIn w3 gr win 0 [] none 0 []) (hb3 : Below w2.heap.size w2 w3) : PlIn w gr win 0 g w3 := by
  have hS2 : SdIn w.heap.size w2 g win 0 [] none 0 [] none := ⟨hS.box, Nat.le_trans hb1.size hS.lo, hS.row, .inl ⟨rfl, World.ownsRow_nil _ _ _ _⟩, hS.rne, hS.kne, hS.each⟩
  have hB2 : Below w.heap.size w w2 := bel_bl hb1 hb2
  refine ⟨0, [], none, 0, [], none, none, 0, [], ⟨hS2.below hb3, hR, bel_bl hB2 hb3, Nat.le_trans hB2.size hgr, hS2.fresh hgr, fun b hb => ?_⟩, Nat.le_refl _, Nat.le_refl _, Nat.zero_le _⟩
  rcases hb with hb | hb
  · rw [hb]
    have h1 := hS2.lt
    exact ⟨by omega, fun a ha => (by cases ha), fun i a n m hi => (by simp at hi)⟩
  · cases hb
end Go.Proofs.Ythfngmlnmpbcpaa
