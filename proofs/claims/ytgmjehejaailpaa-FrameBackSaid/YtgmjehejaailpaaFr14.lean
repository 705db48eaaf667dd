/- frame.number. -/
import Derived.Test.YtgmjehejaailpaaFr13
import Derived.Laws.BitsAllLaws
namespace Go.Proofs.Ytgmjehejaailpaa
open Go.RowKit
set_option linter.unusedSimpArgs false
set_option linter.unusedVariables false

theorem ofInt_64 (a : Nat) (ha : a < 18446744073709551616) : (BitVec.ofInt 64 (a : Int)).toNat = a := by
  rw [BitVec.ofInt_natCast, BitVec.toNat_ofNat]; exact Nat.mod_eq_of_lt (by omega)
theorem i64_or_byte (x b : Nat) (hx : x < 281474976710656 / 256) (hb : b < 256) : bits .or .i64 ((x : Int) * 256) (b : Int) = (x : Int) * 256 + (b : Int) := by
  have e : ((x : Int) * 256) = ((2 ^ 8 * x : Nat) : Int) := by omega
  rw [e]
  show IntKind.i64.wrap ((BitVec.ofInt 64 ((2 ^ 8 * x : Nat) : Int) ||| BitVec.ofInt 64 (b : Int)).toNat : Int) = _
  rw [BitVec.toNat_or, ofInt_64 _ (by omega), ofInt_64 b (by omega), ← Nat.two_pow_add_eq_or_of_lt (by omega) x, IntWalk.i64_in _ (by omega)]
  omega
theorem i64_or_int (x : Int) (b : Nat) (h0 : 0 ≤ x) (hx : x < 1099511627776) (hb : b < 256) : bits .or .i64 (x * 256) (b : Int) = x * 256 + (b : Int) := by
  obtain ⟨X, rfl⟩ := Int.eq_ofNat_of_zero_le h0
  exact i64_or_byte X b (by omega) hb
/-- The number of the first q bytes. -/
def upTo (a b c d : Nat) : Nat → Int
  | 0 => 0
  | 1 => a
  | 2 => 256 * a + b
  | 3 => 65536 * a + 256 * b + c
  | _ => num4 a b c d
set_option maxRecDepth 100000 in
set_option maxHeartbeats 1000000 in
theorem number_any (bb off n cc : Nat) (L : List Nat) (a b c d : Nat) (w : World) (h : RdS w w.heap.size 1 (some ⟨bb, off, none⟩) n cc (rowsV f8 L)) (hn : 4 ≤ n)
    (e0 : (rowsV f8 L)[0]? = some (.int .u8 a)) (e1 : (rowsV f8 L)[1]? = some (.int .u8 b)) (e2 : (rowsV f8 L)[2]? = some (.int .u8 c)) (e3 : (rowsV f8 L)[3]? = some (.int .u8 d)) (ha : a < 256) (hb : b < 256) (hc : c < 256) (hd : d < 256) :
    Calls Try.prog 27 #[.slice (some ⟨bb, off, none⟩) n cc] w fun e w' => e = .returned (.int .i64 (num4 a b c d)) ∧ w = w' := by
  have l0 : w.cell? ⟨bb, off, none⟩ = some (.int .u8 a) := by have := h.cell _ rfl 0 _ e0; simpa [Addr.add] using this
  have l1 : w.cell? ⟨bb, off + 1, none⟩ = some (.int .u8 b) := by have := h.cell _ rfl 1 _ e1; simpa [Addr.add] using this
  have l2 : w.cell? ⟨bb, off + 2, none⟩ = some (.int .u8 c) := by have := h.cell _ rfl 2 _ e2; simpa [Addr.add] using this
  have l3 : w.cell? ⟨bb, off + 3, none⟩ = some (.int .u8 d) := by have := h.cell _ rfl 3 _ e3; simpa [Addr.add] using this
  have n0 : (0 : Int) < (n : Int) := by omega
  have n1 : (1 : Int) < (n : Int) := by omega
  have n2 : (2 : Int) < (n : Int) := by omega
  have n3 : (3 : Int) < (n : Int) := by omega
  have wa : IntKind.i64.wrap (a : Int) = a := IntWalk.i64_in _ (by omega)
  have wb : IntKind.i64.wrap (b : Int) = b := IntWalk.i64_in _ (by omega)
  have wc : IntKind.i64.wrap (c : Int) = c := IntWalk.i64_in _ (by omega)
  have wd : IntKind.i64.wrap (d : Int) = d := IntWalk.i64_in _ (by omega)
  clear e0 e1 e2 e3 h
  go_enter Try.func27, Try.ntmps27
  go_wp2
  go_loop [3, 5] (fun r i => ∃ q : Nat, q ≤ 4 ∧ i = .int .i64 q ∧ r = .int .i64 (upTo a b c d q)) (fun _ i => 4 - (intOf i).toNat)
  case atStart => exact ⟨0, by omega, rfl, rfl⟩
  case round =>
    obtain ⟨q, hq, rfl, rfl⟩ := hrel
    by_cases hlt : q < 4
    · have hcs : q = 0 ∨ q = 1 ∨ q = 2 ∨ q = 3 := by omega
      rcases hcs with h0 | h0 | h0 | h0
      · clear hlt hq
        obtain rfl := h0
        have ho := i64_or_int (0) a (by omega) (by omega) ha
        rw [Int.zero_mul] at ho
        have hw : IntKind.i64.wrap ((0) * 256) = (0) * 256 := IntWalk.i64_in _ (by omega)
        rw [show ((0 : Nat) : Int) = 0 from rfl, show upTo a b c d 0 = 0 from rfl]
        go_wp2
        refine ⟨⟨1, by omega, rfl, ?_⟩, by simp [intOf]⟩
        refine congrArg (Value.int .i64) ?_
        first | done | (show _ = (a : Int); omega) | (unfold upTo num4; omega)
      · clear hlt hq
        obtain rfl := h0
        have ho := i64_or_int ((a : Int)) b (by omega) (by omega) hb
        have hw : IntKind.i64.wrap (((a : Int)) * 256) = ((a : Int)) * 256 := IntWalk.i64_in _ (by omega)
        rw [show ((1 : Nat) : Int) = 1 from rfl, show upTo a b c d 1 = (a : Int) from rfl]
        go_wp2
        refine ⟨⟨2, by omega, rfl, ?_⟩, by simp [intOf]⟩
        refine congrArg (Value.int .i64) ?_
        first | done | (show _ = 256 * (a : Int) + (b : Int); omega) | (unfold upTo num4; omega)
      · clear hlt hq
        obtain rfl := h0
        have ho := i64_or_int (256 * (a : Int) + (b : Int)) c (by omega) (by omega) hc
        have hw : IntKind.i64.wrap ((256 * (a : Int) + (b : Int)) * 256) = (256 * (a : Int) + (b : Int)) * 256 := IntWalk.i64_in _ (by omega)
        rw [show ((2 : Nat) : Int) = 2 from rfl, show upTo a b c d 2 = 256 * (a : Int) + (b : Int) from rfl]
        go_wp2
        refine ⟨⟨3, by omega, rfl, ?_⟩, by simp [intOf]⟩
        refine congrArg (Value.int .i64) ?_
        first | done | (show _ = 65536 * (a : Int) + 256 * (b : Int) + (c : Int); omega) | (unfold upTo num4; omega)
      · clear hlt hq
        obtain rfl := h0
        have ho := i64_or_int (65536 * (a : Int) + 256 * (b : Int) + (c : Int)) d (by omega) (by omega) hd
        have hw : IntKind.i64.wrap ((65536 * (a : Int) + 256 * (b : Int) + (c : Int)) * 256) = (65536 * (a : Int) + 256 * (b : Int) + (c : Int)) * 256 := IntWalk.i64_in _ (by omega)
        rw [show ((3 : Nat) : Int) = 3 from rfl, show upTo a b c d 3 = 65536 * (a : Int) + 256 * (b : Int) + (c : Int) from rfl]
        go_wp2
        refine ⟨⟨4, by omega, rfl, ?_⟩, by simp [intOf]⟩
        refine congrArg (Value.int .i64) ?_
        first | done | (show _ = 16777216 * (a : Int) + 65536 * (b : Int) + 256 * (c : Int) + (d : Int); omega) | (unfold upTo num4; omega)
    · obtain rfl : q = 4 := by omega
      rw [show ((4 : Nat) : Int) = 4 from rfl, show upTo a b c d 4 = num4 a b c d from rfl]
      go_wp2
      go_ret
      exact ⟨rfl, rfl⟩
end Go.Proofs.Ytgmjehejaailpaa
