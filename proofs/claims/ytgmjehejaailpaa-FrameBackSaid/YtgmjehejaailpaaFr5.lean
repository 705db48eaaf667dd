/- The laws' example of layer 15. -/
import Derived.Test.YtgmjehejaailpaaFr4
import Derived.Lib.SlBytesConst
namespace Go.Proofs.Ytgmjehejaailpaa
open Go.RowKit
set_option linter.unusedSimpArgs false
set_option linter.unusedVariables false

def exF : FrT := ⟨4, 0, 1, 0, 0, 0⟩
theorem exF_may : mayF exF 0 = 0 := by decide
theorem ex_crc : crc [49, 50, 51, 52, 53, 54, 55, 56, 57] = 3421780262 := by decide +kernel

theorem RdS.of_marked {cs : Array Value} {t : TypeId} (w : World) (fr : Nat × Nat) {n size : Nat} (hn : cs.toList.length = n * size) : RdS (w.alloc (.cells cs t fr)) (w.alloc (.cells cs t fr)).heap.size size (some ⟨w.heap.size, 0, none⟩) n n cs.toList :=
  ⟨hn, fun e => (by cases e), Nat.le_refl _, fun a ha _ => (by obtain rfl := Option.some.inj ha; simp), fun a ha => (by obtain rfl := Option.some.inj ha; exact World.news_of_block (fr := fr) (heap_alloc_new w _))⟩

set_option maxRecDepth 100000 in
theorem shown15 (w : World) : Calls Try.prog 9 #[] w fun e w' => e = .returned (.bool true) ∧ Below w.heap.size w w' := by
  have hP := put_yes exF none 0 0 [] w exF_may ⟨by simp [rowsV], fun _ => ⟨rfl, rfl⟩, Nat.le_refl _, fun a ha => (by cases ha), fun a ha => (by cases ha)⟩ (by simp)
  have hlen : (putF exF []).length = 19 := rfl
  have HP : RowKit.Hid (Calls Try.prog 11 #[.agg (frCells exF none 0 0).toArray] w fun e w' => ∃ A c, e = .returned (.tuple #[.slice A 19 c, .int .i64 0]) ∧ Below w.heap.size w w') := Lib.hid (hP.mono fun e w' ⟨A, c, h1, h2, h3, h4⟩ => ⟨A, c, by rw [h1, hlen], h4⟩)
  clear hP hlen
  go_enter Try.func9, Try.ntmps9
  go_wp2_with fail
  refine HP.out.mono ?_
  rintro e w2 ⟨A, c, rfl, hb⟩
  have HB := Lib.hid hb
  clear hb
  have hS : RdS (w2.alloc (.cells #[.int .u8 49, .int .u8 50, .int .u8 51, .int .u8 52, .int .u8 53, .int .u8 54, .int .u8 55, .int .u8 56, .int .u8 57] 5 (9, 10))) (w2.alloc (.cells #[.int .u8 49, .int .u8 50, .int .u8 51, .int .u8 52, .int .u8 53, .int .u8 54, .int .u8 55, .int .u8 56, .int .u8 57] 5 (9, 10))).heap.size 1 (some ⟨w2.heap.size, 0, none⟩) 9 9 (rowsV f8 [49, 50, 51, 52, 53, 54, 55, 56, 57]) := RdS.of_marked w2 (9, 10) rfl
  have hC := sum_any _ 9 9 _ _ hS (by decide) (by decide)
  rw [ex_crc] at hC
  have HC := Lib.hid hC
  have hcv := Lib.run_convert_bytes_const (P := Try.prog) w2 22 5 #[.int .u8 49, .int .u8 50, .int .u8 51, .int .u8 52, .int .u8 53, .int .u8 54, .int .u8 55, .int .u8 56, .int .u8 57] 9 9 Try.underlying22 Try.underlying5
  clear hS hC
  go_wp2_with fail
  refine HC.out.mono ?_
  rintro e w3 ⟨rfl, rfl⟩
  go_wp2
  go_ret
  exact ⟨rfl, HB.out.trans ((below1 _ _).mono HB.out.size)⟩
end Go.Proofs.Ytgmjehejaailpaa
