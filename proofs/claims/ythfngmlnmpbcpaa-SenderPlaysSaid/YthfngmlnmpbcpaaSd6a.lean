/- The law SenderAll. -/
import Derived.Test.YthfngmlnmpbcpaaSd5
import Derived.Test.YthfngmlnmpbcpaaOpenG
namespace Go.Proofs.Ythfngmlnmpbcpaa
open Go.RowKit
set_option linter.unusedSimpArgs false
set_option linter.unusedVariables false

/-- A law's row of bytes. -/
abbrev Ar := Option Addr × Nat × Nat × List Nat
theorem slCells_len (e : Ar) : (slCells e).length = 1 := rfl
/-- What is known of each row of bytes that a law is handed. -/
def ArOk (w : World) (e : Ar) : Prop := e.2.2.1 ≤ maxLen ∧ RdS w w.heap.size 1 e.1 e.2.1 e.2.2.1 (rowsV f8 e.2.2.2) ∧ ∀ b ∈ e.2.2.2, b < 256
/-- What a round starts from. -/
def AllIn (w : World) (g win k : Nat) (wr : World) : Prop := ∃ A c es q, SdIn w.heap.size wr g win k [] A c es q ∧ Below w.heap.size w wr
end Go.Proofs.Ythfngmlnmpbcpaa
