/- The sum of bytes: numbers alone. -/
import Derived.Laws.BitsAllLaws
namespace Go.Proofs.YtinhenmafjoaoaaGreatDoor

def crcStep (r : Nat) : Nat := if r % 2 = 1 then (r / 2) ^^^ 3988292384 else r / 2
def crcBits : Nat → Nat → Nat
  | 0, r => r
  | k + 1, r => crcStep (crcBits k r)
def crcByte (r b : Nat) : Nat := crcBits 8 (r ^^^ b)
def crcL (r : Nat) (L : List Nat) : Nat := L.foldl crcByte r
def crc (L : List Nat) : Nat := crcL 4294967295 L ^^^ 4294967295

theorem crcStep_lt {r : Nat} (h : r < 4294967296) : crcStep r < 4294967296 := by
  unfold crcStep
  split
  · exact Nat.xor_lt_two_pow (n := 32) (by omega) (by omega)
  · omega
theorem crcBits_lt {k r : Nat} (h : r < 4294967296) : crcBits k r < 4294967296 := by
  induction k with
  | zero => exact h
  | succ k ih => exact crcStep_lt ih
theorem crcByte_lt {r b : Nat} (h : r < 4294967296) (hb : b < 256) : crcByte r b < 4294967296 := crcBits_lt (Nat.xor_lt_two_pow (n := 32) (by omega) (by omega))
theorem crcL_lt {L : List Nat} : ∀ {r : Nat}, r < 4294967296 → (∀ b ∈ L, b < 256) → crcL r L < 4294967296 := by
  induction L with
  | nil => intro r h _; exact h
  | cons b L ih => intro r h hb; exact ih (crcByte_lt h (hb b (by simp))) (fun x hx => hb x (by simp [hx]))
theorem crcL_snoc (r : Nat) (L : List Nat) (b : Nat) : crcL r (L ++ [b]) = crcByte (crcL r L) b := by simp [crcL]
theorem crc_lt {L : List Nat} (hb : ∀ b ∈ L, b < 256) : crc L < 4294967296 := Nat.xor_lt_two_pow (n := 32) (crcL_lt (by omega) hb) (by omega)

/-- One step as the program takes it. -/
theorem step_prog (r : Nat) (h : r < 4294967296) :
    bits .xor .u32 ((r : Int) / 2) (bits .and .u32 3988292384 (IntKind.u32.wrap (0 - bits .and .u32 (r : Int) 1))) = ((crcStep r : Nat) : Int) := by
  have h1 : bits .and .u32 (r : Int) 1 = ((r % 2 : Nat) : Int) := by
    have := u32_and_nat r 1 h (by omega)
    rw [show ((1 : Nat) : Int) = 1 from rfl] at this
    rw [this, Nat.and_one_is_mod]
  rw [h1]
  unfold crcStep
  rcases Nat.mod_two_eq_zero_or_one r with h2 | h2
  · rw [h2, if_neg (by omega)]
    have e1 : IntKind.u32.wrap (0 - ((0 : Nat) : Int)) = ((0 : Nat) : Int) := by rw [IntKind.wrap_u32']; rfl
    rw [e1]
    have e2 := u32_and_nat 3988292384 0 (by omega) (by omega)
    rw [show ((3988292384 : Nat) : Int) = 3988292384 from rfl, Nat.and_zero] at e2
    rw [e2]
    have e3 := u32_xor_nat (r / 2) 0 (by omega) (by omega)
    rw [Nat.xor_zero] at e3
    rw [← e3]
    congr 1
  · rw [h2, if_pos rfl]
    have e1 : IntKind.u32.wrap (0 - ((1 : Nat) : Int)) = ((4294967295 : Nat) : Int) := by rw [IntKind.wrap_u32']; rfl
    rw [e1]
    have e2 := u32_and_nat 3988292384 4294967295 (by omega) (by omega)
    rw [show ((3988292384 : Nat) : Int) = 3988292384 from rfl, show 3988292384 &&& 4294967295 = 3988292384 by decide] at e2
    rw [e2]
    exact u32_xor_nat (r / 2) 3988292384 (by omega) (by omega)

/-! The sum is linear, and each step is one to one. -/
theorem crcStep_xor (a b : Nat) : crcStep (a ^^^ b) = crcStep a ^^^ crcStep b := by
  unfold crcStep
  have hm : (a ^^^ b) % 2 = (a % 2 + b % 2) % 2 := by
    have := Nat.xor_mod_two_pow (a := a) (b := b) (n := 1)
    rw [show 2 ^ 1 = 2 from rfl] at this
    rw [this]
    rcases Nat.mod_two_eq_zero_or_one a with ha | ha <;> rcases Nat.mod_two_eq_zero_or_one b with hb | hb <;> rw [ha, hb] <;> rfl
  have hd : (a ^^^ b) / 2 = (a / 2) ^^^ (b / 2) := Nat.xor_div_two
  rw [hd]
  rcases Nat.mod_two_eq_zero_or_one a with ha | ha <;> rcases Nat.mod_two_eq_zero_or_one b with hb | hb
  · rw [if_neg (by omega), if_neg (by omega), if_neg (by omega)]
  · rw [if_pos (by omega), if_neg (by omega), if_pos (by omega), Nat.xor_assoc]
  · rw [if_pos (by omega), if_pos (by omega), if_neg (by omega), Nat.xor_assoc, Nat.xor_assoc, Nat.xor_comm (b / 2)]
  · rw [if_neg (by omega), if_pos (by omega), if_pos (by omega)]
    rw [Nat.xor_assoc, ← Nat.xor_assoc 3988292384, Nat.xor_comm 3988292384 (b / 2), Nat.xor_assoc (b / 2), Nat.xor_self, Nat.xor_zero]
theorem crcBits_xor (k a b : Nat) : crcBits k (a ^^^ b) = crcBits k a ^^^ crcBits k b := by
  induction k with
  | zero => rfl
  | succ k ih => simp only [crcBits, ih, crcStep_xor]
theorem xor4 (a b c d : Nat) : (a ^^^ b) ^^^ (c ^^^ d) = (a ^^^ c) ^^^ (b ^^^ d) := by
  rw [Nat.xor_assoc, Nat.xor_assoc, ← Nat.xor_assoc b, Nat.xor_comm b c, Nat.xor_assoc c]
theorem crcByte_xor (r s a b : Nat) : crcByte (r ^^^ s) (a ^^^ b) = crcByte r a ^^^ crcByte s b := by
  unfold crcByte
  rw [xor4, crcBits_xor]
theorem crcL_xor : ∀ (L M : List Nat) (r s : Nat), L.length = M.length → crcL (r ^^^ s) (List.zipWith (· ^^^ ·) L M) = crcL r L ^^^ crcL s M
  | [], [], r, s, _ => rfl
  | a :: L, b :: M, r, s, h => by
    simp only [crcL, List.zipWith_cons_cons, List.foldl_cons]
    have := crcL_xor L M (crcByte r a) (crcByte s b) (by simpa using h)
    rw [← crcByte_xor] at this
    exact this
  | [], _ :: _, _, _, h => by simp at h
  | _ :: _, [], _, _, h => by simp at h
/-- What turning bytes does to the sum: the same whatever the bytes. -/
theorem crc_turned (L M : List Nat) (h : L.length = M.length) : crc L ^^^ crc (List.zipWith (· ^^^ ·) L M) = crcL 0 M := by
  have := crcL_xor L M 4294967295 0 h
  rw [Nat.xor_zero] at this
  unfold crc
  rw [this, xor4, Nat.xor_self 4294967295, Nat.xor_zero, ← Nat.xor_assoc, Nat.xor_self, Nat.zero_xor]
theorem crcStep_zero {r : Nat} (h : r < 4294967296) (h0 : crcStep r = 0) : r = 0 := by
  unfold crcStep at h0
  split at h0
  · have h1 : (r / 2) ^^^ 3988292384 = 0 := h0
    have h2 : r / 2 = 3988292384 := by
      have := congrArg (· ^^^ 3988292384) h1
      simpa [Nat.xor_assoc] using this
    omega
  · omega
theorem crcBits_zero {k r : Nat} (h : r < 4294967296) (h0 : crcBits k r = 0) : r = 0 := by
  induction k with
  | zero => exact h0
  | succ k ih => exact ih (crcStep_zero (crcBits_lt h) h0)
theorem crcBits_none (k : Nat) : crcBits k 0 = 0 := by
  induction k with
  | zero => rfl
  | succ k ih => simp [crcBits, ih, crcStep]
end Go.Proofs.YtinhenmafjoaoaaGreatDoor
