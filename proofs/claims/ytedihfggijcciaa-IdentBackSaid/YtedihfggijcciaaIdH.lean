/- The first name of some bytes. -/
import Derived.Test.YtedihfggijcciaaIdG
namespace Go.Proofs.Ytedihfggijcciaa
open Go.RowKit
set_option linter.unusedSimpArgs false

/-- '|' on two ints of which the one is a multiple of a power of two and the other is below it: their sum. -/
theorem or_sum (q b i M : Nat) (hM : M = 2 ^ i) (hb : b < M) (h : q * M + b < 9223372036854775808) : bits .or .i64 ((q * M : Nat) : Int) (b : Int) = ((q * M + b : Nat) : Int) := by
  have e : q * M ||| b = q * M + b := by
    subst hM
    rw [← Nat.shiftLeft_eq, Nat.shiftLeft_add_eq_or_of_lt hb]
  have na : (BitVec.ofInt 64 ((q * M : Nat) : Int)).toNat = q * M := by
    rw [BitVec.ofInt_natCast, BitVec.toNat_ofNat]
    exact Nat.mod_eq_of_lt (by omega)
  have nb : (BitVec.ofInt 64 (b : Int)).toNat = b := by
    rw [BitVec.ofInt_natCast, BitVec.toNat_ofNat]
    exact Nat.mod_eq_of_lt (by omega)
  show IntKind.i64.wrap ((BitVec.ofInt 64 ((q * M : Nat) : Int) ||| BitVec.ofInt 64 (b : Int)).toNat : Int) = _
  rw [BitVec.toNat_or, na, nb, e]
  exact IntWalk.i64_in _ (by omega)
theorem or_ints (y z : Int) (i : Nat) (M : Nat) (hM : M = 2 ^ i) (k1 : 0 ≤ y) (k2 : 0 ≤ z ∧ z < M) (h : y * M + z < 9223372036854775808) : bits .or .i64 (y * M) z = y * M + z := by
  obtain ⟨a, rfl⟩ := Int.eq_ofNat_of_zero_le k1
  obtain ⟨b, rfl⟩ := Int.eq_ofNat_of_zero_le k2.1
  have hh : a * M + b < 9223372036854775808 := by
    have : ((a * M + b : Nat) : Int) < 9223372036854775808 := by rw [Int.natCast_add, Int.natCast_mul]; exact h
    omega
  have h := or_sum a b i M hM (by omega) hh
  rw [Int.natCast_mul, Int.natCast_add, Int.natCast_mul] at h
  exact h
theorem or_name (x1 x2 x3 : Int) (k1 : 0 ≤ x1 ∧ x1 ≤ 255) (k2 : 0 ≤ x2 ∧ x2 ≤ 255) (k3 : 0 ≤ x3 ∧ x3 ≤ 255) :
    bits .or .i64 (bits .or .i64 (x1 * 65536) (x2 * 256)) x3 = 65536 * x1 + 256 * x2 + x3 := by
  have h1 : bits .or .i64 (x1 * 65536) (x2 * 256) = x1 * 65536 + x2 * 256 := or_ints x1 (x2 * 256) 16 65536 (by simp) k1.1 (by omega) (by omega)
  have h2 : bits .or .i64 ((x1 * 256 + x2) * 256) x3 = (x1 * 256 + x2) * 256 + x3 := or_ints (x1 * 256 + x2) x3 8 256 (by simp) (by omega) (by omega) (by omega)
  have e : (x1 * 256 + x2) * 256 = x1 * 65536 + x2 * 256 := by omega
  rw [e] at h2
  rw [h1, h2]
  omega

/-- The cells of a slice of bytes. -/
theorem RdS.bytes_at {w : World} {B n c : Nat} {A : Option Addr} {bs : List Int} (h : RdS w B 1 A n c (bytesV bs)) (hn : 0 < n) :
    bs.length = n ∧ ∃ b off, A = some ⟨b, off, none⟩ ∧ b < B ∧ ∀ k (hk : k < bs.length), w.cell? ⟨b, off + k, none⟩ = some (.int .u8 bs[k]) := by
  have hl : bs.length = n := by simpa [bytesV] using h.len
  refine ⟨hl, ?_⟩
  cases A with
  | none => exact absurd (h.none_ rfl).1 (by omega)
  | some a =>
    have hg : ∀ k (hk : k < bs.length), (bytesV bs)[k]? = some (.int .u8 bs[k]) := fun k hk => by simp [bytesV, u8v, hk]
    have h0 := h.cell a rfl 0 _ (hg 0 (by omega))
    have ha : ∃ b off, a = ⟨b, off, none⟩ := by
      obtain ⟨b, off, f⟩ := a
      cases f with
      | none => exact ⟨b, off, rfl⟩
      | some f =>
        simp [Addr.add, World.cell?] at h0
        split at h0 <;> cases h0
    obtain ⟨b, off, rfl⟩ := ha
    refine ⟨b, off, rfl, h.low _ rfl hn, fun k hk => ?_⟩
    have e1 := h.cell _ rfl _ _ (hg k hk)
    rwa [Addr.add_lit] at e1

theorem first_few (A : Option Addr) (n c : Nat) (w : World) (h : n < 4) :
    Calls Try.prog 28 #[.slice A n c] w fun e w' => e = .returned (.agg #[.int .i64 0, .int .i64 0]) ∧ Below w.heap.size w w' := by
  have h' : (n : Int) < 4 := by omega
  go_enter Try.func28, Try.ntmps28
  go_wp2
  exact bodyPost_ret (v := .agg #[.int .i64 0, .int .i64 0]) (by simp [results, Try.results28, go_sem]) rfl ⟨rfl, below1 _ _⟩

set_option maxRecDepth 100000 in
theorem first_four (b off n c : Nat) (x0 x1 x2 x3 : Int) (w : World) (h : 4 ≤ n) (hm : n ≤ 1048576)
    (k0 : 0 ≤ x0 ∧ x0 ≤ 255) (k1 : 0 ≤ x1 ∧ x1 ≤ 255) (k2 : 0 ≤ x2 ∧ x2 ≤ 255) (k3 : 0 ≤ x3 ∧ x3 ≤ 255)
    (e0 : w.cell? ⟨b, off, none⟩ = some (.int .u8 x0)) (e1 : w.cell? ⟨b, off + 1, none⟩ = some (.int .u8 x1)) (e2 : w.cell? ⟨b, off + 2, none⟩ = some (.int .u8 x2)) (e3 : w.cell? ⟨b, off + 3, none⟩ = some (.int .u8 x3)) :
    Calls Try.prog 28 #[.slice (some ⟨b, off, none⟩) n c] w fun e w' => e = .returned (.agg #[.int .i64 x0, .int .i64 (65536 * x1 + 256 * x2 + x3)]) ∧ Below w.heap.size w w' := by
  have h' : ¬ (n : Int) < 4 := by omega
  have hn0 : 0 < n := by omega
  have hor := or_name x1 x2 x3 k1 k2 k3
  have w0 := IntWalk.i64_in x0 (by omega)
  have w1 := IntWalk.i64_in x1 (by omega)
  have w2 := IntWalk.i64_in x2 (by omega)
  have w3 := IntWalk.i64_in x3 (by omega)
  have w4 := IntWalk.i64_in (x1 * 65536) (by omega)
  have w5 := IntWalk.i64_in (x2 * 256) (by omega)
  have h1 : (0 : Int) < n := by omega
  have h2 : (1 : Int) < n := by omega
  have h3 : (2 : Int) < n := by omega
  have h4 : (3 : Int) < n := by omega
  obtain ⟨k00, k01⟩ := k0
  obtain ⟨k10, k11⟩ := k1
  obtain ⟨k20, k21⟩ := k2
  obtain ⟨k30, k31⟩ := k3
  go_enter Try.func28, Try.ntmps28
  go_wp2
  go_region_held3 (fun x => x.cell? ⟨b, off, none⟩ = some (.int .u8 x0) ∧ x.cell? ⟨b, off + 1, none⟩ = some (.int .u8 x1) ∧ x.cell? ⟨b, off + 2, none⟩ = some (.int .u8 x2) ∧ x.cell? ⟨b, off + 3, none⟩ = some (.int .u8 x3))
    (go_keep) (fail)
  go_wp2
  exact bodyPost_ret (v := .agg #[.int .i64 x0, .int .i64 (65536 * x1 + 256 * x2 + x3)]) (by simp [results, Try.results28, go_sem]) rfl ⟨rfl, (below1 w _).drew⟩

def fits (bs : List Int) : Prop := ∀ x ∈ bs, 0 ≤ x ∧ x ≤ 255
/-- The name that the bytes begin with, whether it may be or not; a zero name of too few. -/
def firstI (bs : List Int) : Int × Int := if bs.length < 4 then (0, 0) else (bs.getD 0 0, 65536 * bs.getD 1 0 + 256 * bs.getD 2 0 + bs.getD 3 0)

theorem first_any (A : Option Addr) (n c : Nat) (bs : List Int) (w : World) (h : RdS w w.heap.size 1 A n c (bytesV bs)) (hn : n ≤ 1048576) (hf : fits bs) :
    Calls Try.prog 28 #[.slice A n c] w fun e w' => e = .returned (.agg #[.int .i64 (firstI bs).1, .int .i64 (firstI bs).2]) ∧ Below w.heap.size w w' := by
  have hl : bs.length = n := by simpa [bytesV] using h.len
  unfold firstI
  by_cases h4 : n < 4
  · rw [if_pos (by omega)]
    exact first_few A n c w h4
  · rw [if_neg (by omega)]
    obtain ⟨_, b, off, rfl, _, hc⟩ := h.bytes_at (by omega)
    have g : ∀ k (hk : k < bs.length), bs.getD k 0 = bs[k] := fun k hk => by simp [List.getD, hk]
    rw [g 0 (by omega), g 1 (by omega), g 2 (by omega), g 3 (by omega)]
    have m : ∀ k (hk : k < bs.length), 0 ≤ bs[k] ∧ bs[k] ≤ 255 := fun k hk => hf _ (List.getElem_mem hk)
    exact first_four b off n c _ _ _ _ w (by omega) hn (m 0 (by omega)) (m 1 (by omega)) (m 2 (by omega)) (m 3 (by omega)) (hc 0 (by omega)) (hc 1 (by omega)) (hc 2 (by omega)) (hc 3 (by omega))
end Go.Proofs.Ytedihfggijcciaa
