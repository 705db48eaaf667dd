/- Up to four bytes side by side that are turned are told by the sum. -/
import Derived.Test.YtgmjehejaailpaaFr22
import Derived.Test.YtgmjehejaailpaaFr6
namespace Go.Proofs.Ytgmjehejaailpaa
open Go.RowKit
set_option linter.unusedSimpArgs false
set_option linter.unusedVariables false

theorem crcBits_add (j k r : Nat) : crcBits (j + k) r = crcBits k (crcBits j r) := by
  induction k with
  | zero => rfl
  | succ k ih => rw [← Nat.add_assoc]; simp only [crcBits, ih]
theorem crcStep_two (v : Nat) : crcStep (2 * v) = v := by
  unfold crcStep
  rw [if_neg (by omega)]
  omega
theorem crcBits_pow (k v : Nat) : crcBits k (2 ^ k * v) = v := by
  induction k generalizing v with
  | zero => simp [crcBits]
  | succ k ih =>
    simp only [crcBits]
    rw [show 2 ^ (k + 1) * v = 2 ^ k * (2 * v) by rw [Nat.pow_succ, Nat.mul_assoc], ih, crcStep_two]
/-- Bytes as one number, the first one lowest. -/
def valB : List Nat → Nat
  | [] => 0
  | b :: W => b ^^^ (2 ^ 8 * valB W)
theorem valB_lt : ∀ {W : List Nat}, (∀ b ∈ W, b < 256) → valB W < 2 ^ (8 * W.length)
  | [], _ => by simp [valB]
  | b :: W, h => by
    have h1 := valB_lt (W := W) (fun x hx => h x (by simp [hx]))
    have h2 := h b (by simp)
    rw [valB, List.length_cons, Nat.mul_succ]
    refine Nat.xor_lt_two_pow ?_ ?_
    · exact Nat.lt_of_lt_of_le h2 (by rw [show 256 = 2 ^ 8 from rfl]; exact Nat.pow_le_pow_right (by omega) (by omega))
    · rw [Nat.add_comm, Nat.pow_add]
      exact Nat.mul_lt_mul_of_pos_left h1 (by decide)
theorem crcL_val (W : List Nat) : ∀ r, crcL r W = crcBits (8 * W.length) (r ^^^ valB W) := by
  induction W with
  | nil => intro r; simp [crcL, valB, crcBits]
  | cons b W ih =>
    intro r
    show crcL (crcByte r b) W = _
    rw [ih, List.length_cons, Nat.mul_succ, Nat.add_comm, crcBits_add, valB, ← Nat.xor_assoc, crcBits_xor 8 (r ^^^ b), crcBits_pow 8]
    rfl
theorem valB_zero : ∀ {W : List Nat}, (∀ b ∈ W, b < 256) → valB W = 0 → ∀ b ∈ W, b = 0
  | [], _, _ => by simp
  | b :: W, h, h0 => by
    have h1 := h b (by simp)
    rw [valB] at h0
    have h2 : b = 2 ^ 8 * valB W := by
      have := congrArg (· ^^^ (2 ^ 8 * valB W)) h0
      simpa [Nat.xor_assoc] using this
    have h3 : valB W = 0 := by omega
    have hb : b = 0 := by rw [h3] at h2; omega
    intro x hx
    rcases List.mem_cons.1 hx with rfl | hx
    · exact hb
    · exact valB_zero (fun y hy => h y (by simp [hy])) h3 x hx
theorem cnt_none : ∀ {T : List Nat}, (∀ b ∈ T, b = 0) → cnt T = 0 := by
  intro T h
  unfold cnt
  rw [List.countP_eq_zero]
  intro b hb
  simp [h b hb]
theorem cnt_all : ∀ {T : List Nat}, cnt T = 0 → ∀ b ∈ T, b = 0 := by
  intro T h b hb
  unfold cnt at h
  rw [List.countP_eq_zero] at h
  simpa using h b hb
theorem crcL_app (r : Nat) (L M : List Nat) : crcL r (L ++ M) = crcL (crcL r L) M := by simp [crcL]
theorem crcL_none : ∀ {T : List Nat}, cnt T = 0 → crcL 0 T = 0 := fun h => (crc_calm h (by omega)).2 rfl
/-- Up to four bytes side by side that are turned are told. -/
theorem burst {T : List Nat} {at_ k : Nat} (hk : k ≤ 4) (hb : ∀ b ∈ T, b < 256) (h1 : cnt (T.take at_) = 0) (h2 : cnt (T.drop (at_ + k)) = 0) (h0 : crcL 0 T = 0) : cnt T = 0 := by
  have e : T = T.take at_ ++ ((T.drop at_).take k ++ T.drop (at_ + k)) := by
    rw [← List.drop_drop, List.take_append_drop, List.take_append_drop]
  have hw : ∀ b ∈ (T.drop at_).take k, b < 256 := fun b h => hb b (List.mem_of_mem_drop (List.mem_of_mem_take h))
  have hl : ((T.drop at_).take k).length ≤ 4 := by rw [List.length_take]; omega
  rw [e, crcL_app, crcL_app, crcL_none h1] at h0
  have h3 := (crc_calm h2 (crcL_lt (by omega) hw)).1 h0
  rw [crcL_val, Nat.zero_xor] at h3
  have hv := valB_lt hw
  have hv2 : valB ((T.drop at_).take k) < 4294967296 := Nat.lt_of_lt_of_le hv (by rw [show 4294967296 = 2 ^ 32 from rfl]; exact Nat.pow_le_pow_right (by omega) (by omega))
  have h4 := valB_zero hw (crcBits_zero hv2 h3)
  refine cnt_none fun b hm => ?_
  rw [e] at hm
  rcases List.mem_append.1 hm with hm | hm
  · exact cnt_all h1 b hm
  · rcases List.mem_append.1 hm with hm | hm
    · exact h4 b hm
    · exact cnt_all h2 b hm
theorem valB_le4 (s : Nat) (h : s < 4294967296) : valB (le4 s) = s := by
  have hx : ∀ a b : Nat, a < 256 → a ^^^ (2 ^ 8 * b) = 2 ^ 8 * b + a := fun a b ha => by
    rw [Nat.xor_comm]
    have := Nat.two_pow_add_eq_or_of_lt (i := 8) (b := a) (by omega) b
    rw [this]
    apply Nat.eq_of_testBit_eq
    intro i
    rw [Nat.testBit_xor, Nat.testBit_or, Nat.testBit_two_pow_mul]
    by_cases hi : i ≥ 8
    · rw [Nat.testBit_lt_two_pow (x := a) (Nat.lt_of_lt_of_le ha (by rw [show 256 = 2 ^ 8 from rfl]; exact Nat.pow_le_pow_right (by omega) hi))]
      simp
    · simp [hi]
  unfold le4 valB valB valB valB valB
  rw [hx _ _ (by omega), hx _ _ (by omega), hx _ _ (by omega), hx _ _ (by omega)]
  omega
theorem four_of : ∀ {T : List Nat}, T.length = 4 → ∃ a b c d, T = [a, b, c, d]
  | [a, b, c, d], _ => ⟨a, b, c, d, rfl⟩
  | [], h => by simp at h
  | [_], h => by simp at h
  | [_, _], h => by simp at h
  | [_, _, _], h => by simp at h
  | _ :: _ :: _ :: _ :: _ :: _, h => by simp at h
theorem le4_val {T : List Nat} (hl : T.length = 4) (ht : ∀ b ∈ T, b < 256) : le4 (valB T) = T := by
  obtain ⟨a, b, c, d, rfl⟩ := four_of hl
  have ha := ht a (by simp)
  have hb := ht b (by simp)
  have hc := ht c (by simp)
  have hd := ht d (by simp)
  have h6 : le4 (a + 256 * b + 65536 * c + 16777216 * d) = [a, b, c, d] := by
    unfold le4
    simp only [List.cons.injEq, and_true]
    omega
  have h5 := valB_le4 (a + 256 * b + 65536 * c + 16777216 * d) (by omega)
  rw [h6] at h5
  rw [h5, h6]
/-- Bytes with their sum behind them: the register is the same whatever they are. -/
theorem crcL_sum {H T : List Nat} (hh : ∀ b ∈ H, b < 256) (hl : T.length = 4) (ht : ∀ b ∈ T, b < 256) : le4 (crc H) = T ↔ crcL 4294967295 (H ++ T) = crcBits 32 4294967295 := by
  have hc := crcL_lt (r := 4294967295) (by omega) hh
  rw [crcL_app, crcL_val T, hl]
  have hvt : valB T < 4294967296 := by have := valB_lt ht; rw [hl] at this; exact this
  have hcc : crc H < 4294967296 := crc_lt hh
  constructor
  · intro e
    rw [← e, valB_le4 _ hcc]
    unfold crc
    rw [← Nat.xor_assoc, Nat.xor_self, Nat.zero_xor]
  · intro e
    have h1 : crcBits 32 ((crcL 4294967295 H ^^^ valB T) ^^^ 4294967295) = 0 := by rw [crcBits_xor, e, Nat.xor_self]
    have h2 := crcBits_zero (Nat.xor_lt_two_pow (n := 32) (Nat.xor_lt_two_pow (n := 32) hc hvt) (by omega)) h1
    have h3 : crc H = valB T := by
      unfold crc
      have := congrArg (· ^^^ valB T) h2
      simp only [Nat.zero_xor] at this
      rw [← this, Nat.xor_assoc _ (valB T), Nat.xor_comm (valB T), Nat.xor_assoc, Nat.xor_assoc, Nat.xor_self, Nat.xor_zero]
    rw [h3]
    exact le4_val hl ht
theorem seal_app {H T : List Nat} (hl : T.length = 4) : sealB (H ++ T) = decide (le4 (crc H) = T) := by
  unfold sealB
  have e : (H ++ T).length - 4 = H.length := by rw [List.length_append]; omega
  rw [e, List.take_left, List.drop_left]
theorem split4 {L : List Nat} (h : 4 ≤ L.length) : ∃ H T, L = H ++ T ∧ T.length = 4 := ⟨L.take (L.length - 4), L.drop (L.length - 4), (List.take_append_drop _ _).symm, by rw [List.length_drop]; omega⟩
/-- A row that is sealed, turned: sealed just if nothing was turned, where what is turned lies within four bytes. -/
theorem seal_turn {P T : List Nat} {at_ k : Nat} (hP : ∀ b ∈ P, b < 256) (hs : sealB P = true) (h4 : 4 ≤ P.length) (hl : T.length = P.length) (hT : ∀ b ∈ T, b < 256) (hk : k ≤ 4) (h1 : cnt (T.take at_) = 0) (h2 : cnt (T.drop (at_ + k)) = 0) (hn : cnt T ≠ 0) :
    sealB (List.zipWith (· ^^^ ·) P T) = false := by
  have hz := zip_lt hP hT
  have hzl : (List.zipWith (· ^^^ ·) P T).length = P.length := by rw [List.length_zipWith, hl, Nat.min_self]
  have key : ∀ {L : List Nat}, 4 ≤ L.length → (∀ b ∈ L, b < 256) → (sealB L = true ↔ crcL 4294967295 L = crcBits 32 4294967295) := by
    intro L h hb
    obtain ⟨H, S, rfl, hS⟩ := split4 h
    rw [seal_app hS, decide_eq_true_iff]
    exact crcL_sum (fun b hm => hb b (by simp [hm])) hS (fun b hm => hb b (by simp [hm]))
  rw [Bool.eq_false_iff]
  intro hx
  have e1 := (key h4 hP).1 hs
  have e2 := (key (by omega) hz).1 hx
  have e3 := crcL_xor P T 4294967295 0 hl.symm
  rw [Nat.xor_zero, e1, e2] at e3
  have e4 : crcL 0 T = 0 := by
    have := congrArg (· ^^^ crcBits 32 4294967295) e3
    simp only [Nat.xor_self] at this
    rw [Nat.xor_comm (crcBits 32 4294967295), Nat.xor_assoc, Nat.xor_self, Nat.xor_zero] at this
    exact this.symm
  exact hn (burst hk hT h1 h2 e4)
theorem zip_none : ∀ {P T : List Nat}, T.length = P.length → cnt T = 0 → List.zipWith (· ^^^ ·) P T = P
  | [], [], _, _ => rfl
  | p :: P, t :: T, hl, h => by
    have ht : t = 0 := cnt_all h t (by simp)
    subst ht
    have h' : cnt T = 0 := by simpa [cnt] using h
    rw [List.zipWith_cons_cons, Nat.xor_zero, zip_none (by simpa using hl) h']
  | [], _ :: _, hl, _ => by simp at hl
  | _ :: _, [], hl, _ => by simp at hl
theorem zip_set : ∀ {P T : List Nat} {i p b : Nat}, P[i]? = some p → T[i]? = some 0 → List.zipWith (· ^^^ ·) P (T.set i b) = (List.zipWith (· ^^^ ·) P T).set i (p ^^^ b)
  | q :: P, t :: T, 0, p, b, h, _ => by simp at h; subst h; rfl
  | q :: P, t :: T, i + 1, p, b, h, h' => by
    simp only [List.set_cons_succ, List.zipWith_cons_cons]
    rw [zip_set (by simpa using h) (by simpa using h')]
  | [], _, _, _, _, h, _ => by simp at h
  | _ :: _, [], _, _, _, _, h' => by simp at h'
theorem zip_at : ∀ {P T : List Nat} {i p : Nat}, P[i]? = some p → T[i]? = some 0 → (List.zipWith (· ^^^ ·) P T)[i]? = some p := by
  intro P T i p h h'
  rw [List.getElem?_zipWith, h, h']
  simp
theorem cnt_set : ∀ {T : List Nat} {i b : Nat}, T[i]? = some 0 → cnt (T.set i b) = cnt T + if b = 0 then 0 else 1
  | t :: T, 0, b, h => by
    simp at h
    subst h
    by_cases hb : b = 0 <;> simp [cnt, hb]
  | t :: T, i + 1, b, h => by
    have := cnt_set (T := T) (i := i) (b := b) (by simpa using h)
    unfold cnt at this ⊢
    rw [List.set_cons_succ, List.countP_cons, List.countP_cons, this]
    omega
  | [], _, _, h => by simp at h
theorem rowsV_map8 (L : List Nat) : rowsV f8 L = L.map (fun b : Nat => Value.int .u8 (b : Int)) := by
  induction L with
  | nil => rfl
  | cons b L ih => simp only [rowsV, f8, ih]; rfl
end Go.Proofs.Ytgmjehejaailpaa
