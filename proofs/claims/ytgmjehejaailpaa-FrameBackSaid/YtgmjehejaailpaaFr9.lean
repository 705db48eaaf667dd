/- The laws' few of layer 15; a slice's text. -/
import Derived.Test.YtgmjehejaailpaaFr8
import Derived.Test.YtgmjehejaailpaaSl
namespace Go.Proofs.Ytgmjehejaailpaa
open Go.RowKit
set_option linter.unusedSimpArgs false
set_option linter.unusedVariables false

set_option maxRecDepth 100000 in
theorem few15 (f : FrT) (A : Option Addr) (n c : Nat) (L : List Nat) (w : World) (h : RdS w w.heap.size 1 A n c (rowsV f8 L)) (hn : n ≤ maxLen) :
    Calls Try.prog 10 #[.agg (frCells f A n c).toArray] w fun e w' => e = .returned (.agg (frCells f A (L.take 16400).length c).toArray) ∧ Below w.heap.size w w' := by
  have hl := h.rlen f8_len (by decide)
  unfold maxLen at hn
  unfold frCells
  by_cases h10 : 16400 < n
  · obtain ⟨b, off, rfl, hbB, hpl⟩ := h.place f8_len (by decide) (by omega)
    have hle := h.le
    have hm : (L.take 16400).length = 16400 := by rw [List.length_take]; omega
    rw [hm]
    have q : decide ((16400 : Int) < (n : Int)) = true := decide_eq_true (by omega)
    clear hm hl h hpl hbB
    go_enter Try.func10, Try.ntmps10
    go_wp2
    refine bodyPost_ret (v := .agg #[.int .i64 f.k, .int .i64 f.fr, .int .i64 f.tt, .int .i64 f.ep, .int .i64 f.sq, .int .i64 f.ac, .slice (some ⟨b, off, none⟩) 16400 c]) (by simp [results, Try.results10, go_sem]) rfl ⟨rfl, ?_⟩
    first | exact below2 _ _ _ | (repeat (first | exact below2 _ _ _ | refine Below.setCell ?_ (by show w.heap.size ≤ _; omega) _)) | trace_state
  · have hm : (L.take 16400).length = n := by rw [List.length_take]; omega
    rw [hm]
    have q : decide ((16400 : Int) < (n : Int)) = false := decide_eq_false (by omega)
    clear hm hl h
    go_enter Try.func10, Try.ntmps10
    go_wp2
    refine bodyPost_ret (v := .agg #[.int .i64 f.k, .int .i64 f.fr, .int .i64 f.tt, .int .i64 f.ep, .int .i64 f.sq, .int .i64 f.ac, .slice A n c]) (by simp [results, Try.results10, go_sem]) rfl ⟨rfl, ?_⟩
    first | exact below2 _ _ _ | (repeat (first | exact below2 _ _ _ | refine Below.setCell ?_ (by show w.heap.size ≤ _; omega) _)) | trace_state
theorem RdS.fewer8 {w : World} {B n c : Nat} {A : Option Addr} {L : List Nat} (h : RdS w B 1 A n c (rowsV f8 L)) (k : Nat) : RdS w B 1 A (L.take k).length c (rowsV f8 (L.take k)) := by
  have hl := h.rlen f8_len (by decide)
  have hm : (L.take k).length ≤ n := by rw [List.length_take]; omega
  have := h.take_ (L.take k).length hm
  rw [← rowsV_take f8 f8_len] at this
  have e : L.take (L.take k).length = L.take k := by
    rw [List.length_take]
    rcases Nat.le_total k L.length with h | h
    · rw [Nat.min_eq_left h]
    · rw [Nat.min_eq_right h, List.take_length, List.take_of_length_le h]
  rwa [e] at this
/-- The text of bytes. -/
def txt (L : List Nat) : ByteArray := strB (L.map (fun b : Nat => (b : Int)))
theorem rows_bytes (L : List Nat) : rowsV f8 L = bytesV (L.map (fun b : Nat => (b : Int))) := by
  induction L with
  | nil => rfl
  | cons b L ih => simp only [rowsV, f8, ih]; rfl
theorem conv_txt {w : World} {B n c : Nat} {A : Option Addr} {L : List Nat} (h : RdS w B 1 A n c (rowsV f8 L)) : (convert 22 9 (.slice A n c)).run Try.prog w = .ok (.string (txt L)) w := by
  rw [rows_bytes] at h
  exact conv_rds Try.underlying22 Try.underlying5 Try.underlying9 h
theorem exec_convert {P : Program} {ev : Operand → Value} {o : Oper} {w : World} (s d : TypeId) (x : Operand) (ho : o.op = .convert s d x) {v u : Value} (hx : ev x = v) (hrun : (convert s d v).run P w = .ok u w) : (execOp ev o).run P w = .ok (.value u) w := by
  unfold execOp
  simp only [ho, hx, Sem.run_bind, Sem.run_pure, Result.andThen_ok, hrun]
theorem sum_b (A : Option Addr) (n c : Nat) (L : List Nat) (w : World) (h : RdS w w.heap.size 1 A n c (rowsV f8 L)) (hb : ∀ b ∈ L, b < 256) (hn : n ≤ maxLen) :
    Calls Try.prog 15 #[.slice A n c] w fun e w' => e = .returned (.int .u32 ((crc L : Nat) : Int)) ∧ Below w.heap.size w w' := (sum_any A n c L w h hb hn).mono fun e w' ⟨h1, h2⟩ => ⟨h1, h2 ▸ Below.refl _ _⟩
theorem rsum_b (A : Option Addr) (n c : Nat) (L : List Nat) (w : World) (h : RdS w w.heap.size 1 A n c (rowsV f8 L)) (hb : ∀ b ∈ L, b < 256) (hn : n ≤ maxLen) :
    Calls Try.prog 16 #[.slice A n c] w fun e w' => e = .returned (.int .u32 ((crc L : Nat) : Int)) ∧ Below w.heap.size w w' := (rsum_any A n c L w h hb hn).mono fun e w' ⟨h1, h2⟩ => ⟨h1, h2 ▸ Below.refl _ _⟩
end Go.Proofs.Ytgmjehejaailpaa
