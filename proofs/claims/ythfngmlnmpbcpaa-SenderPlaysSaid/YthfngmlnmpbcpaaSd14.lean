/- The sender beside the document's own. -/
import Derived.Test.YthfngmlnmpbcpaaSd13
import Derived.Test.YthfngmlnmpbcpaaSd10a
namespace Go.Proofs.Ythfngmlnmpbcpaa
open Go.RowKit
set_option linter.unusedSimpArgs false
set_option linter.unusedVariables false

/-- A block that is none of the document's sender's. -/
structure RfFar (g : Nat) (A : Option Addr) (n : Nat) (es : List Sl) (b : Nat) : Prop where
  g_ : b ≠ g
  row : ∀ a, A = some a → 0 < n → a.block ≠ b
  each : ∀ (i : Nat) (a : Addr) (n' m : Nat), es[i]? = some (some a, n', m) → 0 < n' → a.block ≠ b
theorem RfIn.lt {w : World} {g win ack c : Nat} {TL : List (List Nat)} {A : Option Addr} {es : List Sl} (h : RfIn w g win ack TL A c es) : g < w.heap.size := h.box.lt
theorem RfIn.fresh {w : World} {g win ack c : Nat} {TL : List (List Nat)} {A : Option Addr} {es : List Sl} (h : RfIn w g win ack TL A c es) {b : Nat} (hb : w.heap.size ≤ b) : RfFar g A TL.length es b := by
  refine ⟨by have := h.lt; omega, fun a ha h1 e => by have := h.row.low a ha h1; omega, fun i a n m hi hn e => ?_⟩
  have hil := (List.getElem?_eq_some_iff.1 hi).1
  rw [h.eslen] at hil
  obtain ⟨a', m', q1, q2, _⟩ := h.each i _ (List.getElem?_eq_getElem hil)
  rw [hi] at q1
  injection q1 with q1
  injection q1 with q1 q3
  injection q3 with q3 _
  have := q2.low a q1.symm (by omega)
  omega
/-- It stands when what is none of its own is written to. -/
theorem RfIn.beside {S : Nat → Prop} {w w' : World} {g win ack c : Nat} {TL : List (List Nat)} {A : Option Addr} {es : List Sl} (h : RfIn w g win ack TL A c es) (hf : ∀ b, S b → RfFar g A TL.length es b) (hk : Kept S w w') : RfIn w' g win ack TL A c es :=
  h.keep hk (fun e => (hf g e).g_ rfl) (fun a ha hn e => (hf _ e).row a ha hn rfl) (fun i L a m hL he hn e => (hf _ e).each i a _ m he hn rfl)
/-- A push of its own takes no block that was there. -/
theorem RfFar.push {g n b hs : Nat} {A A' : Option Addr} {es : List Sl} {Ap : Option Addr} {k cp : Nat} (h : RfFar g A n es b) (hb : b < hs) (hA : ∀ a', A' = some a' → hs ≤ a'.block) (hp : ∀ a', Ap = some a' → 0 < k → hs ≤ a'.block) (n' : Nat) : RfFar g A' n' (es ++ [(Ap, k, cp)]) b := by
  refine ⟨h.g_, fun a ha _ e => by have := hA a ha; omega, fun i a m' m hi hn e => ?_⟩
  rcases Nat.lt_or_ge i es.length with h1 | h1
  · rw [List.getElem?_append_left h1] at hi
    exact h.each i a m' m hi hn e
  · have h2 := (List.getElem?_eq_some_iff.1 hi).1
    simp at h2
    obtain rfl : i = es.length := by omega
    rw [List.getElem?_append_right (Nat.le_refl _), Nat.sub_self] at hi
    simp at hi
    obtain ⟨rfl, rfl, rfl⟩ := hi
    have := hp a rfl hn
    omega
/-- The two beside each other. -/
structure BothIn (w wr : World) (g gr win ack rack : Nat) (Ls TL : List (List Nat)) (A : Option Addr) (c : Nat) (es : List Sl) (q : Option Nat) (Ar : Option Addr) (cr : Nat) (er : List Sl) : Prop where
  sd : SdIn w.heap.size wr g win ack Ls A c es q
  rf : RfIn wr gr win rack TL Ar cr er
  below : Below w.heap.size w wr
  rlo : w.heap.size ≤ gr
  far : SdFar g A Ls.length es q gr
  rfar : ∀ b, b = g ∨ some b = q → RfFar gr Ar TL.length er b
theorem BothIn.down {w W : World} {g gr win ack rack c cr : Nat} {Ls TL : List (List Nat)} {A Ar : Option Addr} {es er : List Sl} {q : Option Nat} {W' : World} (h : BothIn w W g gr win ack rack Ls TL A c es q Ar cr er) (hb : Below W.heap.size W W') : BothIn w W' g gr win ack rack Ls TL A c es q Ar cr er :=
  ⟨h.sd.below hb, h.rf.below hb, bel_bl h.below hb, h.rlo, h.far, h.rfar⟩
theorem BothIn.push {w W : World} {g gr win ack rack c cr : Nat} {Ls TL : List (List Nat)} {A Ar : Option Addr} {es er : List Sl} {q : Option Nat} (h : BothIn w W g gr win ack rack Ls TL A c es q Ar cr er) (ha : ack ≤ 100000) (hn : Ls.length ≤ 100000) (A1 : Option Addr) (c1 : Nat) (L : List Nat) (hr : RdS W W.heap.size 1 A1 L.length c1 (rowsV f8 L)) (h256 : ∀ b ∈ L, b < 256) (h60 : L.length ≤ 60) (hf : Ls.length < win) :
    Calls Try.prog 13 #[.pointer (some ⟨g, 0, none⟩), .slice A1 L.length c1] W fun e W' => e = .returned (.tuple #[.int .i64 ((ack : Int) + ((Ls.length + 1 : Nat) : Int)), .int .i64 0]) ∧
      ∃ A' c' es' q', BothIn w W' g gr win ack rack (Ls ++ [L]) TL A' c' es' q' Ar cr er := by
  refine (push_yes W h.sd ha hn A1 c1 L hr h256 h60 hf h.below.size).mono ?_
  rintro e W' ⟨rfl, A', c', es', k', h2, h3, h4, h5, Ac, cc, rfl, h6⟩
  refine ⟨rfl, A', c', _, k', h2, h.rf.beside h.rfar h3, h.below.trans (h.sd.far h3 h.below.size), h.rlo, h.far.push h.rf.lt h4 h5 h6, fun b hb => ?_⟩
  rcases hb with hb | hb
  · exact h.rfar b (.inl hb)
  · rcases h4 with h4 | ⟨b', h4, h7⟩
    · exact h.rfar b (.inr (hb.trans h4))
    · obtain rfl := Option.some.inj (hb.trans h4)
      exact h.rf.fresh h7
/-- What is written to the document's sender is none of the code's. -/
theorem BothIn.beside {w W : World} {g gr win ack rack c cr : Nat} {Ls TL : List (List Nat)} {A Ar : Option Addr} {es er : List Sl} {q : Option Nat} {W' : World} {S : Nat → Prop} (h : BothIn w W g gr win ack rack Ls TL A c es q Ar cr er) (hS : ∀ b, S b → b = gr) (hk : Kept S W W') : SdIn w.heap.size W' g win ack Ls A c es q ∧ Below w.heap.size w W' :=
  ⟨h.sd.keep hk (fun e => h.far.g_ (hS _ e).symm) (fun a ha hn e => h.far.row a ha hn (hS _ e)) (fun b hb e => h.far.k_ (by rw [← hS _ e]; exact hb.symm)) (fun i L a m hL he hn e => h.far.each i a _ m he hn (hS _ e)),
   h.below.trans ⟨hk.os, hk.tape, hk.output, hk.size, fun i hi => hk.block i (Nat.lt_of_lt_of_le hi h.below.size) (fun e => by have := hS _ e; have := h.rlo; omega)⟩⟩
theorem BothIn.rpush {w W : World} {g gr win ack rack c cr : Nat} {Ls TL : List (List Nat)} {A Ar : Option Addr} {es er : List Sl} {q : Option Nat} (h : BothIn w W g gr win ack rack Ls TL A c es q Ar cr er) (ha : rack ≤ 100000) (hn : TL.length ≤ 100000) (hal : rack ≤ TL.length) (A1 : Option Addr) (c1 : Nat) (L : List Nat) (hr : RdS W W.heap.size 1 A1 L.length c1 (rowsV f8 L)) (h256 : ∀ b ∈ L, b < 256) (h60 : L.length ≤ 60) (hf : TL.length - rack < win) :
    Calls Try.prog 16 #[.pointer (some ⟨gr, 0, none⟩), .slice A1 L.length c1] W fun e W' => e = .returned (.tuple #[.int .i64 ((TL.length + 1 : Nat) : Int), .int .i64 0]) ∧
      ∃ Ar' cr' er', BothIn w W' g gr win ack rack Ls (TL ++ [L]) A c es q Ar' cr' er' := by
  refine (rpush_yes W h.rf (by omega) (by omega) hal A1 c1 L hr h256 h60 hf).mono ?_
  rintro e W' ⟨rfl, A', c', es', h2, h3, h4, Ap, cp, rfl, h5⟩
  obtain ⟨h6, h7⟩ := h.beside (fun b e => e) h3
  refine ⟨rfl, A', c', _, h6, h2, h7, h.rlo, h.far, fun b hb => (h.rfar b hb).push ?_ h4 h5 _⟩
  rcases hb with hb | hb
  · rw [hb]; exact h.sd.lt
  · exact h.sd.klt b hb.symm
theorem BothIn.rack {w W : World} {g gr win ack rack c cr : Nat} {Ls TL : List (List Nat)} {A Ar : Option Addr} {es er : List Sl} {q : Option Nat} (h : BothIn w W g gr win ack rack Ls TL A c es q Ar cr er) (ha : rack ≤ 100000) (hn : TL.length ≤ 100000) (hal : rack ≤ TL.length) (x : Int) :
    Calls Try.prog 17 #[.pointer (some ⟨gr, 0, none⟩), .int .i64 x] W fun e W' => e = .returned (.int .i64 (ackR rack TL.length x)) ∧ BothIn w W' g gr win ack (ackTo rack TL.length x) Ls TL A c es q Ar cr er := by
  refine (rack_any W h.rf (by omega) (by omega) hal x).mono ?_
  rintro e W' ⟨rfl, h2, h3⟩
  obtain ⟨h6, h7⟩ := h.beside (fun b e => e) h3
  exact ⟨rfl, h6, h2, h7, h.rlo, h.far, h.rfar⟩
theorem BothIn.ack {w W : World} {g gr win ack rack c cr : Nat} {Ls TL : List (List Nat)} {A Ar : Option Addr} {es er : List Sl} {q : Option Nat} (h : BothIn w W g gr win ack rack Ls TL A c es q Ar cr er) (ha : ack ≤ 100000) (hn : Ls.length ≤ 100000) (N : Nat) (hN : ack + Ls.length = N) (x : Int) :
    Calls Try.prog 14 #[.pointer (some ⟨g, 0, none⟩), .int .i64 x] W fun e W' => e = .returned (.int .i64 (ackR ack N x)) ∧
      ∃ A' c' es' q', BothIn w W' g gr win (ackTo ack N x) rack (Ls.drop (ackTo ack N x - ack)) TL A' c' es' q' Ar cr er := by
  unfold ackR ackTo
  rcases Int.lt_or_le x (ack : Int) with h1 | h1
  · rw [if_neg (by omega), if_neg (by omega), Nat.sub_self, List.drop_zero]
    refine (ack_lo W h.sd ha hn x h1).mono ?_
    rintro e w' ⟨rfl, rfl⟩
    exact ⟨rfl, A, c, es, q, h⟩
  · rcases Int.lt_or_le ((ack : Int) + (Ls.length : Int)) x with h2 | h2
    · rw [if_neg (by omega), if_neg (by omega), Nat.sub_self, List.drop_zero]
      refine (ack_hi W h.sd ha hn x h2).mono ?_
      rintro e w' ⟨rfl, hb⟩
      exact ⟨rfl, A, c, es, q, h.down hb⟩
    · obtain ⟨j, rfl⟩ : ∃ j : Nat, x = (ack : Int) + (j : Int) := ⟨(x - ack).toNat, by omega⟩
      rw [if_pos (by omega), if_pos (by omega), show ((ack : Int) + (j : Int)).toNat = ack + j by omega, show ack + j - ack = j by omega]
      refine (ack_yes W h.sd ha hn j (by omega)).mono ?_
      rintro e W' ⟨rfl, A', c', es', k', h2, h3, h4, h5, rfl⟩
      refine ⟨rfl, A', c', _, k', h2, h.rf.beside (fun b hb => h.rfar b (.inl hb)) h3, h.below.trans (h.sd.far (h3.wider (fun i _ e => Or.inl e)) h.below.size), h.rlo, h.far.cut h.rf.lt h4 h5 j, fun b hb => ?_⟩
      rcases hb with hb | hb
      · exact h.rfar b (.inl hb)
      · rcases h4 with h4 | ⟨b', h4, h7⟩
        · rw [h4] at hb; cases hb
        · obtain rfl := Option.some.inj (hb.trans h4)
          exact h.rf.fresh h7
/-- A clone stands when the one it came from is pushed to: the row that was still reads. -/
theorem SdIn.stay {B : Nat} {w w' : World} {g g' win ack win' ack' c : Nat} {Ls : List (List Nat)} {A : Option Addr} {es : List Sl} {k : Option Nat} (hc : SdIn B w g' win ack Ls A Ls.length es none) (ho : SdIn B w g win' ack' Ls A c es k) (h1 : g' ≠ g) (h2 : some g' ≠ k)
    (hk : Kept (fun b => b = g ∨ some b = k) w w') (hr : RdS w' w'.heap.size 1 A Ls.length Ls.length (rowsV slc es)) : SdIn B w' g' win ack Ls A Ls.length es none := by
  refine ⟨hk.whole hc.box (fun e => e.elim h1 h2), hc.lo, hr, .inr ⟨rfl, rfl⟩, hc.rne, fun e => (by cases e), fun i L hL => ?_⟩
  obtain ⟨a, m, q1, q2, q3, q4, q5⟩ := ho.each i L hL
  obtain ⟨a2, m2, p1, _, _, _, p5⟩ := hc.each i L hL
  have e := Option.some.inj (q1.symm.trans p1)
  injection e with e1 e2
  subst e1
  exact ⟨a, m, q1, q2.kept_ne hk (fun a' ha hn e => e.elim (q5 a' ha hn).1 (q5 a' ha hn).2), q3, q4, p5⟩
theorem BothIn.clone {w W : World} {g gr win ack rack c cr : Nat} {Ls TL : List (List Nat)} {A Ar : Option Addr} {es er : List Sl} {q : Option Nat} (h : BothIn w W g gr win ack rack Ls TL A c es q Ar cr er) (ha : ack ≤ 100000) (hn : Ls.length ≤ 100000) :
    Calls Try.prog 12 #[.pointer (some ⟨g, 0, none⟩)] W fun e W' => ∃ g', e = .returned (.pointer (some ⟨g', 0, none⟩)) ∧ W.heap.size ≤ g' ∧ BothIn w W' g gr win ack rack Ls TL A c es q Ar cr er ∧ BothIn w W' g' gr win ack rack Ls TL A Ls.length es none Ar cr er := by
  refine (clone_sd W h.sd h.below.size).mono ?_
  rintro e W' ⟨g', rfl, hg, hc, hb⟩
  have hlt := h.rf.lt
  refine ⟨g', rfl, hg, h.down hb, hc, h.rf.below hb, bel_bl h.below hb, h.rlo, ⟨by omega, fun e => (by cases e), h.far.row, h.far.each⟩, fun b hb' => ?_⟩
  rcases hb' with hb' | hb'
  · rw [hb']; exact h.rf.fresh hg
  · cases hb'
/-- The old one is pushed to, beside its clone. -/
theorem BothIn.opush {w W : World} {g gr win ack rack c cr : Nat} {Ls TL : List (List Nat)} {A Ar : Option Addr} {es er : List Sl} {q : Option Nat} {g' : Nat} (h : BothIn w W g gr win ack rack Ls TL A c es q Ar cr er) (h' : BothIn w W g' gr win ack rack Ls TL A Ls.length es none Ar cr er) (hne : g' ≠ g) (hnq : some g' ≠ q) (ha : ack ≤ 100000) (hn : Ls.length ≤ 100000) (A1 : Option Addr) (c1 : Nat) (L : List Nat) (hr : RdS W W.heap.size 1 A1 L.length c1 (rowsV f8 L)) (h256 : ∀ b ∈ L, b < 256) (h60 : L.length ≤ 60) (hf : Ls.length < win) :
    Calls Try.prog 13 #[.pointer (some ⟨g, 0, none⟩), .slice A1 L.length c1] W fun e W' => e = .returned (.tuple #[.int .i64 ((ack : Int) + ((Ls.length + 1 : Nat) : Int)), .int .i64 0]) ∧
      (∃ A' c' es' q', BothIn w W' g gr win ack rack (Ls ++ [L]) TL A' c' es' q' Ar cr er) ∧ BothIn w W' g' gr win ack rack Ls TL A Ls.length es none Ar cr er := by
  refine (push_yesK W h.sd ha hn A1 c1 L hr h256 h60 hf h.below.size).mono ?_
  rintro e W' ⟨rfl, A', c', es', k', h2, h3, h4, h5, Ac, cc, rfl, h6, h8⟩
  have hb := h.below.trans (h.sd.far h3 h.below.size)
  have hrf := h.rf.beside h.rfar h3
  refine ⟨rfl, ⟨A', c', _, k', h2, hrf, hb, h.rlo, h.far.push h.rf.lt h4 h5 h6, fun b hb => ?_⟩, h'.sd.stay h.sd hne hnq h3 h8, hrf, hb, h.rlo, h'.far, h'.rfar⟩
  rcases hb with hb | hb
  · exact h.rfar b (.inl hb)
  · rcases h4 with h4 | ⟨b', h4, h7⟩
    · exact h.rfar b (.inr (hb.trans h4))
    · obtain rfl := Option.some.inj (hb.trans h4)
      exact h.rf.fresh h7
end Go.Proofs.Ythfngmlnmpbcpaa
