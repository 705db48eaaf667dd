/- What bytes are as a frame. -/
import Derived.Test.YtgmjehejaailpaaFr16
namespace Go.Proofs.Ytgmjehejaailpaa
open Go.RowKit
set_option linter.unusedSimpArgs false
set_option linter.unusedVariables false

def bodyOf (L : List Nat) : List Nat := (L.take (L.length - 4)).drop 15
def frOf : List Nat → FrT
  | a0 :: a1 :: a2 :: a3 :: a4 :: a5 :: a6 :: a7 :: a8 :: a9 :: b0 :: b1 :: b2 :: b3 :: b4 :: _ => ⟨a0, a1, a2, num4 a3 a4 a5 a6, num4 a7 a8 a9 b0, num4 b1 b2 b3 b4⟩
  | _ => zeroF
def sealB (L : List Nat) : Bool := decide (le4 (crc (L.take (L.length - 4))) = L.drop (L.length - 4))
def okF (L : List Nat) : Bool := decide (19 ≤ L.length ∧ L.length ≤ 16403) && (sealB L && decide (mayF (frOf L) (bodyOf L).length = 0))
/-- What a frame's Take gives: the frame, its body, what is wrong. -/
def takeR (L : List Nat) : FrT × List Nat × Int := if okF L = true then (frOf L, bodyOf L, 0) else (zeroF, [], 2)

theorem heads {L : List Nat} (h : 15 ≤ L.length) : ∃ a0 a1 a2 a3 a4 a5 a6 a7 a8 a9 b0 b1 b2 b3 b4 R, L = a0 :: a1 :: a2 :: a3 :: a4 :: a5 :: a6 :: a7 :: a8 :: a9 :: b0 :: b1 :: b2 :: b3 :: b4 :: R := by
  match L, h with
  | a0 :: a1 :: a2 :: a3 :: a4 :: a5 :: a6 :: a7 :: a8 :: a9 :: b0 :: b1 :: b2 :: b3 :: b4 :: R, _ => exact ⟨a0, a1, a2, a3, a4, a5, a6, a7, a8, a9, b0, b1, b2, b3, b4, R, rfl⟩
theorem be4_num4 {a b c d : Nat} (ha : a < 256) (hb : b < 256) (hc : c < 256) (hd : d < 256) : be4 (num4 a b c d) = [a, b, c, d] := by
  unfold be4 num4
  simp only [List.cons.injEq, and_true]
  omega
theorem headF_frOf {L : List Nat} (h : 15 ≤ L.length) (hb : ∀ b ∈ L, b < 256) : headF (frOf L) = L.take 15 := by
  obtain ⟨a0, a1, a2, a3, a4, a5, a6, a7, a8, a9, b0, b1, b2, b3, b4, R, rfl⟩ := heads h
  simp only [List.forall_mem_cons] at hb
  obtain ⟨h0, h1, h2, h3, h4, h5, h6, h7, h8, h9, k0, k1, k2, k3, k4, -⟩ := hb
  unfold headF frOf
  simp only [be4_num4 h3 h4 h5 h6, be4_num4 h7 h8 h9 k0, be4_num4 k1 k2 k3 k4, Int.toNat_natCast, List.cons_append, List.nil_append, List.take_succ_cons, List.take_zero]
theorem put_frOf {L : List Nat} (h : 19 ≤ L.length) (hb : ∀ b ∈ L, b < 256) : putF (frOf L) (bodyOf L) = L.take (L.length - 4) ++ le4 (crc (L.take (L.length - 4))) := by
  have e : headF (frOf L) ++ bodyOf L = L.take (L.length - 4) := by
    rw [headF_frOf (by omega) hb]
    unfold bodyOf
    have : L.take 15 = (L.take (L.length - 4)).take 15 := by rw [List.take_take, Nat.min_eq_left (by omega)]
    rw [this, List.take_append_drop]
  unfold putF
  rw [e]
theorem bodyOf_len {L : List Nat} (h : 19 ≤ L.length) : (bodyOf L).length = L.length - 19 := by
  unfold bodyOf
  rw [List.length_drop, List.length_take]
  omega
theorem put_is {L : List Nat} (h : 19 ≤ L.length) (hb : ∀ b ∈ L, b < 256) : putF (frOf L) (bodyOf L) = L ↔ sealB L = true := by
  rw [put_frOf h hb]
  unfold sealB
  rw [decide_eq_true_iff]
  constructor
  · intro e
    have e2 : L.take (L.length - 4) ++ le4 (crc (L.take (L.length - 4))) = L.take (L.length - 4) ++ L.drop (L.length - 4) := by rw [e, List.take_append_drop]
    exact List.append_cancel_left e2
  · intro e
    rw [e, List.take_append_drop]
theorem ok_ref {L : List Nat} (h : 19 ≤ L.length) (hb : ∀ b ∈ L, b < 256) : okF L = true ↔ mayF (frOf L) (bodyOf L).length = 0 ∧ putF (frOf L) (bodyOf L) = L := by
  rw [put_is h hb]
  unfold okF
  rw [Bool.and_eq_true, Bool.and_eq_true, decide_eq_true_iff, decide_eq_true_iff]
  constructor
  · rintro ⟨_, h1, h2⟩
    exact ⟨h2, h1⟩
  · rintro ⟨h1, h2⟩
    refine ⟨⟨h, ?_⟩, h2, h1⟩
    have := (may_bounds h1).2.2.2.2.2.2
    rw [bodyOf_len h] at this
    omega
theorem num4_be4 {x : Int} (h : 0 ≤ x ∧ x ≤ 1073741824) : num4 (x / 16777216 % 256).toNat (x / 65536 % 256).toNat (x / 256 % 256).toNat (x % 256).toNat = x := by
  unfold num4
  omega
theorem frOf_head {f : FrT} {n : Nat} (h : mayF f n = 0) (M : List Nat) : frOf (headF f ++ M) = f := by
  obtain ⟨⟨a1, a2⟩, ⟨b1, b2⟩, ⟨c1, c2⟩, d, e, i, _⟩ := may_bounds h
  show (⟨(f.k.toNat : Int), (f.fr.toNat : Int), (f.tt.toNat : Int), num4 _ _ _ _, num4 _ _ _ _, num4 _ _ _ _⟩ : FrT) = f
  rw [num4_be4 d, num4_be4 e, num4_be4 i, Int.toNat_of_nonneg (by omega), Int.toNat_of_nonneg b1, Int.toNat_of_nonneg c1]
theorem putF_len (f : FrT) (M : List Nat) : (putF f M).length = 19 + M.length := by
  simp [putF, headF_len, le4]; omega
theorem take_put (f : FrT) (M : List Nat) : (putF f M).take ((putF f M).length - 4) = headF f ++ M ∧ (putF f M).drop ((putF f M).length - 4) = le4 (crc (headF f ++ M)) := by
  have hl : (putF f M).length - 4 = (headF f ++ M).length := by rw [putF_len, List.length_append, headF_len]; omega
  rw [hl]
  unfold putF
  exact ⟨List.take_left, List.drop_left⟩
theorem body_put (f : FrT) (M : List Nat) : bodyOf (putF f M) = M := by
  unfold bodyOf
  rw [(take_put f M).1]
  exact List.drop_left (l₁ := headF f)
theorem frOf_put {f : FrT} {n : Nat} (h : mayF f n = 0) (M : List Nat) : frOf (putF f M) = f := by
  unfold putF
  rw [List.append_assoc]
  exact frOf_head h _
theorem ok_put {f : FrT} {M : List Nat} (h : mayF f M.length = 0) : okF (putF f M) = true := by
  unfold okF
  rw [body_put, frOf_put h]
  unfold sealB
  rw [(take_put f M).1, (take_put f M).2, putF_len]
  have := (may_bounds h).2.2.2.2.2.2
  simp [h]
  omega
theorem take_of_put {f : FrT} {M : List Nat} (h : mayF f M.length = 0) : takeR (putF f M) = (f, M, 0) := by
  unfold takeR
  rw [if_pos (ok_put h), body_put, frOf_put h]
theorem putF_lt {f : FrT} {M : List Nat} {n : Nat} (h : mayF f n = 0) (hb : ∀ b ∈ M, b < 256) : ∀ b ∈ putF f M, b < 256 := by
  intro b hm
  unfold putF at hm
  rcases List.mem_append.1 hm with hm | hm
  · rcases List.mem_append.1 hm with hm | hm
    · exact headF_lt h b hm
    · exact hb b hm
  · exact le4_lt _ b hm
end Go.Proofs.Ytgmjehejaailpaa
