/- The contracts of frame.Sum and of the document's own. -/
import Derived.Test.YtinhenmafjoaoaaGreatDoorBy
import Derived.Test.YtinhenmafjoaoaaGreatDoorProg
import Derived.Test.YtinhenmafjoaoaaGreatDoorCrc
import Derived.Test.YtinhenmafjoaoaaGreatDoorBase
import Derived.LoopTactic
namespace Go.Proofs.YtinhenmafjoaoaaGreatDoor
open Go.RowKit
set_option linter.unusedSimpArgs false
set_option linter.unusedVariables false

theorem crc_next {L : List Nat} {k x : Nat} (h : L[k]? = some x) : crcL 4294967295 (L.take (k + 1)) = crcByte (crcL 4294967295 (L.take k)) x := by
  rw [take_snoc_ L k x h, crcL_snoc]
theorem step_prog2 (r : Nat) (h : r < 4294967296) :
    bits .xor .u32 ((r : Int) / 2) (bits .and .u32 3988292384 (-bits .and .u32 (r : Int) 1 % 4294967296)) = ((crcStep r : Nat) : Int) := by
  have := step_prog r h
  rwa [IntKind.wrap_u32', Int.zero_sub] at this
theorem ret_u32 {a b : Int} (h : a = b) : Ending.returned (.int .u32 a) = .returned (.int .u32 b) := by rw [h]

set_option maxRecDepth 100000 in
set_option maxHeartbeats 1000000 in
theorem sum_any (A : Option Addr) (n c : Nat) (L : List Nat) (w : World) (h : RdS w w.heap.size 1 A n c (rowsV f8 L)) (hb : ∀ b ∈ L, b < 256) (hn : n ≤ maxLen) :
    Calls Tryz.prog 11 #[.slice A n c] w fun e w' => e = .returned (.int .u32 ((crc L : Nat) : Int)) ∧ w = w' := by
  have hl := h.rlen f8_len (by decide)
  unfold maxLen at hn
  obtain rfl := hl
  have HR := Lib.hid h
  have HBy := Lib.hid hb
  clear h hb
  go_enter Tryz.func11, Tryz.ntmps11
  go_wp2
  go_loop [3, 8] (fun r i => ∃ k R : Nat, k ≤ L.length ∧ i = .int .i64 k ∧ r = .int .u32 (R : Int) ∧ RowKit.Hid (R = crcL 4294967295 (L.take k))) (fun _ i => L.length - (intOf i).toNat)
  case atStart => exact ⟨0, 4294967295, Nat.zero_le _, rfl, rfl, Lib.hid rfl⟩
  case round =>
    obtain ⟨k, R, hk, rfl, rfl, hR⟩ := hrel
    have HR32 : RowKit.Hid (R < 4294967296) := Lib.hid (by rw [hR.out]; exact crcL_lt (by omega) (fun b hb => HBy.out b (List.mem_of_mem_take hb)))
    by_cases hlt : k < L.length
    · have hx0 : L[k]? = some (L[k]'hlt) := List.getElem?_eq_getElem _
      obtain ⟨x, gx⟩ : ∃ x, L[k]'hlt = x := ⟨_, rfl⟩
      rw [gx] at hx0
      have hx1 := HBy.out x (List.mem_of_getElem? hx0)
      have HX := Lib.hid hx0
      obtain ⟨b, off, rfl, hbB, hpl⟩ := HR.out.place f8_len (by decide) (by omega)
      have c0 := hpl k x hx0 0 (.int .u8 (x : Int)) rfl
      rw [Addr.add_lit] at c0
      simp only [Nat.add_zero, Nat.mul_one] at c0
      have hxor := u32_xor_nat R x HR32.out (by omega)
      have hcv : IntKind.u32.wrap (x : Int) = (x : Int) := by rw [IntKind.wrap_u32']; omega
      have HR1 : RowKit.Hid (R ^^^ x < 4294967296) := Lib.hid (Nat.xor_lt_two_pow (n := 32) HR32.out (by omega))
      obtain ⟨R1, gR1⟩ : ∃ y, R ^^^ x = y := ⟨_, rfl⟩
      rw [gR1] at hxor HR1
      have HG := Lib.hid gR1
      clear gx hx0 hpl hbB gR1
      go_wp2
      clear hxor hcv c0
      go_loop [3, 16] (fun r i => ∃ j S : Nat, j ≤ 8 ∧ i = .int .i64 j ∧ r = .int .u32 (S : Int) ∧ RowKit.Hid (S = crcBits j R1)) (fun _ i => 8 - (intOf i).toNat)
      case atStart => exact ⟨0, R1, by omega, rfl, rfl, Lib.hid rfl⟩
      case round =>
        obtain ⟨j, S, hj, rfl, rfl, hS⟩ := hrel
        have HS32 : S < 4294967296 := by rw [hS.out]; exact crcBits_lt HR1.out
        by_cases hj8 : j < 8
        · go_wp2
          go_round
          case rel => exact ⟨j + 1, crcStep S, by omega, by go_num, by rw [step_prog2 S HS32], Lib.hid (by rw [hS.out]; rfl)⟩
          case measure => simp [intOf]; omega
        · obtain rfl : j = 8 := by omega
          go_wp2
          go_round
          case rel => exact ⟨k + 1, S, by omega, by go_num, rfl, Lib.hid (by rw [hS.out, crc_next HX.out, ← hR.out, ← HG.out]; rfl)⟩
          case measure => simp [intOf]; omega
    · have hfull : L.take k = L := List.take_of_length_le (by omega)
      have hxor := u32_xor_nat 4294967295 R (by omega) HR32.out
      have hfin : RowKit.Hid (4294967295 ^^^ R = crc L) := Lib.hid (by rw [hR.out, hfull, Nat.xor_comm]; rfl)
      go_wp2
      go_ret
      exact ⟨by rw [← hfin.out]; first | rfl | exact ret_u32 hxor, rfl⟩
set_option maxRecDepth 100000 in
set_option maxHeartbeats 1000000 in
theorem rsum_any (A : Option Addr) (n c : Nat) (L : List Nat) (w : World) (h : RdS w w.heap.size 1 A n c (rowsV f8 L)) (hb : ∀ b ∈ L, b < 256) (hn : n ≤ maxLen) :
    Calls Tryz.prog 14 #[.slice A n c] w fun e w' => e = .returned (.int .u32 ((crc L : Nat) : Int)) ∧ w = w' := by
  have hl := h.rlen f8_len (by decide)
  unfold maxLen at hn
  obtain rfl := hl
  have HR := Lib.hid h
  have HBy := Lib.hid hb
  clear h hb
  go_enter Tryz.func14, Tryz.ntmps14
  go_wp2
  go_loop [3, 4] (fun r i => ∃ k R : Nat, k ≤ L.length ∧ i = .int .i64 k ∧ r = .int .u32 (R : Int) ∧ RowKit.Hid (R = crcL 4294967295 (L.take k))) (fun _ i => L.length - (intOf i).toNat)
  case atStart => exact ⟨0, 4294967295, Nat.zero_le _, rfl, rfl, Lib.hid rfl⟩
  case round =>
    obtain ⟨k, R, hk, rfl, rfl, hR⟩ := hrel
    have HR32 : RowKit.Hid (R < 4294967296) := Lib.hid (by rw [hR.out]; exact crcL_lt (by omega) (fun b hb => HBy.out b (List.mem_of_mem_take hb)))
    by_cases hlt : k < L.length
    · have hx0 : L[k]? = some (L[k]'hlt) := List.getElem?_eq_getElem _
      obtain ⟨x, gx⟩ : ∃ x, L[k]'hlt = x := ⟨_, rfl⟩
      rw [gx] at hx0
      have hx1 := HBy.out x (List.mem_of_getElem? hx0)
      have HX := Lib.hid hx0
      obtain ⟨b, off, rfl, hbB, hpl⟩ := HR.out.place f8_len (by decide) (by omega)
      have c0 := hpl k x hx0 0 (.int .u8 (x : Int)) rfl
      rw [Addr.add_lit] at c0
      simp only [Nat.add_zero, Nat.mul_one] at c0
      have hxor := u32_xor_nat R x HR32.out (by omega)
      have hcv : IntKind.u32.wrap (x : Int) = (x : Int) := by rw [IntKind.wrap_u32']; omega
      have HR1 : RowKit.Hid (R ^^^ x < 4294967296) := Lib.hid (Nat.xor_lt_two_pow (n := 32) HR32.out (by omega))
      obtain ⟨R1, gR1⟩ : ∃ y, R ^^^ x = y := ⟨_, rfl⟩
      rw [gR1] at hxor HR1
      have HG := Lib.hid gR1
      clear gx hx0 hpl hbB gR1
      go_wp2
      clear hxor hcv c0
      go_loop [3, 5] (fun r i => ∃ j S : Nat, j ≤ 8 ∧ i = .int .i64 j ∧ r = .int .u32 (S : Int) ∧ RowKit.Hid (S = crcBits j R1)) (fun _ i => 8 - (intOf i).toNat)
      case atStart => exact ⟨0, R1, by omega, rfl, rfl, Lib.hid rfl⟩
      case round =>
        obtain ⟨j, S, hj, rfl, rfl, hS⟩ := hrel
        have HS32 : S < 4294967296 := by rw [hS.out]; exact crcBits_lt HR1.out
        by_cases hj8 : j < 8
        · rcases Nat.mod_two_eq_zero_or_one S with h2 | h2
          · have hm : ((S : Int) % 2) = 0 := by omega
            have hm2 : ((S : Int).tmod 2) = 0 := by rw [Int.tmod_eq_emod_of_nonneg (by omega)]; omega
            obtain ⟨H, gH⟩ : ∃ H, S / 2 = H := ⟨_, rfl⟩
            have hd2 : ((S : Int).tdiv 2) = (H : Int) := by rw [Int.tdiv_eq_ediv_of_nonneg (by omega)]; omega
            have hd3 : IntKind.u32.wrap (H : Int) = (H : Int) := by rw [IntKind.wrap_u32']; omega
            have HC : RowKit.Hid (crcStep S = H) := Lib.hid (by unfold crcStep; rw [if_neg (by omega), gH])
            clear h2 gH
            go_wp2
            go_round
            case rel => exact ⟨j + 1, crcStep S, by omega, by go_num, by rw [HC.out], Lib.hid (by rw [hS.out]; rfl)⟩
            case measure => simp [intOf]; omega
          · have hm : ((S : Int) % 2) = 1 := by omega
            have hm2 : ((S : Int).tmod 2) = 1 := by rw [Int.tmod_eq_emod_of_nonneg (by omega)]; omega
            obtain ⟨H, gH⟩ : ∃ H, S / 2 = H := ⟨_, rfl⟩
            have hd2 : ((S : Int).tdiv 2) = (H : Int) := by rw [Int.tdiv_eq_ediv_of_nonneg (by omega)]; omega
            have hd3 : IntKind.u32.wrap (H : Int) = (H : Int) := by rw [IntKind.wrap_u32']; omega
            have HH : RowKit.Hid (H < 4294967296) := Lib.hid (by omega)
            have HC : RowKit.Hid (crcStep S = H ^^^ 3988292384) := Lib.hid (by unfold crcStep; rw [if_pos (by omega), gH])
            clear h2 gH
            go_wp2
            go_round
            case rel => exact ⟨j + 1, crcStep S, by omega, by go_num, by rw [HC.out, ← u32_xor_nat H 3988292384 HH.out (by omega)]; rfl, Lib.hid (by rw [hS.out]; rfl)⟩
            case measure => simp [intOf]; omega
        · obtain rfl : j = 8 := by omega
          go_wp2
          go_round
          case rel => exact ⟨k + 1, S, by omega, by go_num, rfl, Lib.hid (by rw [hS.out, crc_next HX.out, ← hR.out, ← HG.out]; rfl)⟩
          case measure => simp [intOf]; omega
    · have hfull : L.take k = L := List.take_of_length_le (by omega)
      have hxor := u32_xor_nat R 4294967295 HR32.out (by omega)
      have hfin : RowKit.Hid (R ^^^ 4294967295 = crc L) := Lib.hid (by rw [hR.out, hfull]; rfl)
      go_wp2
      go_ret
      exact ⟨by rw [← hfin.out]; first | rfl | exact ret_u32 hxor, rfl⟩
end Go.Proofs.YtinhenmafjoaoaaGreatDoor
