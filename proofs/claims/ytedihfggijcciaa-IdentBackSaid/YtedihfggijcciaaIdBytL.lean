/- IdentBytes: all cases together. -/
import Derived.Test.YtedihfggijcciaaIdBytX
import Derived.Test.YtedihfggijcciaaIdBytY
import Derived.Test.YtedihfggijcciaaIdBytZ
namespace Go.Proofs.Ytedihfggijcciaa
open Go.RowKit

theorem run_head_b (a : Addr) (n c : Nat) (hn : 100 < n) (hle : n ≤ c) (W : World) :
    (Instr.slice 34 (.slice (some a) n c) none (some (.int .i64 100)) none).run Try.prog W = .ok (.slice (some a) 100 c) W := by
  have h1 : (100 : Int) ≤ (c : Int) := by omega
  simp [go_sem, Instr.slice, Instr.sliceBounds, h1]
theorem run_head_l (a : Addr) (n c : Nat) (hn : 100 < n) (hle : n ≤ c) (W : World) :
    (Instr.slice 35 (.slice (some a) n c) none (some (.int .i64 100)) none).run Try.prog W = .ok (.slice (some a) 100 c) W := by
  have h1 : (100 : Int) ≤ (c : Int) := by omega
  simp [go_sem, Instr.slice, Instr.sliceBounds, h1]
theorem bytesV_take (bs : List Int) (k : Nat) : bytesV (bs.take k) = (bytesV bs).take (k * 1) := by simp [bytesV]

theorem namesV_flat (l : List (Int × Int)) : namesV l = l.flatMap fun p => [.int .i64 p.1, .int .i64 p.2] := by
  induction l with
  | nil => rfl
  | cons p l ih => simp [namesV, iv, ih]

theorem law_bytes (s m site : Int) (A A2 : Option Addr) (n c n2 c2 : Nat) (bs : List Int) (l : List (Int × Int)) (w : World) (hf : fits bs)
    (h : RdS w w.heap.size 1 A n c (bytesV bs)) (h2 : RdS w w.heap.size 2 A2 n2 c2 (namesV l)) :
    Calls Try.prog 4 #[.slice A n c, .agg #[.int .i64 s, .int .i64 m], .agg #[.slice A2 n2 c2, .int .i64 site]] w fun e w' => e = .returned (.bool true) ∧ Below w.heap.size w w' := by
  have hft : fits (bs.take 100) := fun x hx => hf x (List.mem_of_mem_take hx)
  by_cases c1 : n ≤ 100
  · by_cases c3 : n2 ≤ 100
    · exact law_bytes_few s m site A A2 n c n2 c2 bs l w c1 c3 hf h h2
    · have t2 := h2.take_ 100 (by omega)
      rw [namesV_take] at t2
      cases A2 with
      | none => exact absurd (h2.none_ rfl).1 (by omega)
      | some a => exact law_bytes_cl s m site A (some a) n c 100 c2 bs (l.take 100) w c1 (by omega) hf n2 (by omega) (run_head_l a n2 c2 (by omega) h2.le) h t2
  · have t1 := h.take_ 100 (by omega)
    rw [← bytesV_take] at t1
    cases A with
    | none => exact absurd (h.none_ rfl).1 (by omega)
    | some a =>
      by_cases c3 : n2 ≤ 100
      · exact law_bytes_cb s m site (some a) A2 100 c n2 c2 (bs.take 100) l w (by omega) c3 hft n (by omega) (run_head_b a n c (by omega) h.le) t1 h2
      · have t2 := h2.take_ 100 (by omega)
        rw [namesV_take] at t2
        cases A2 with
        | none => exact absurd (h2.none_ rfl).1 (by omega)
        | some a2 => exact law_bytes_cbl s m site (some a) (some a2) 100 c 100 c2 (bs.take 100) (l.take 100) w (by omega) (by omega) hft n (by omega) (run_head_b a n c (by omega) h.le) n2 (by omega) (run_head_l a2 n2 c2 (by omega) h2.le) t1 t2
end Go.Proofs.Ytedihfggijcciaa
