/-
  No cell of these rows narrows 'for every input' (looked for: loops, veiled, ifaces, maps, wideKeys, modest, calm, conditions, laid).
  DERIVED. THE GIVEN ROWS OF THIS SEAT. 6 by the template 'for every input the law returns true; each argument reads behind the call as it read before'; 0 by the template 'total and deterministic' (their statements: YtoiflngpjdghbaaTotals.lean).
  GIVEN WITH THE SEED: the statements are not yours to turn. If you find one false, say at which input.
  Laid BY PROGRAM, IN A SANDBOX (cutbox-rows.mjs): the forced cells as the released guide's own fill.sh prints them over the translation fd37f3ba85515b9a… (all of the seat's roots in one cut). By AI agents, Wed Nov 11 2026. No macro, syntax, notation, axiom, sorry.
-/
import Derived.Test.YtoiflngpjdghbaaChecked
import GoSem.Claim
import GoSem.ClaimJoined
import GoSem.ClaimMapViews
import Derived.JoinedTies
import Derived.KernelRfl
namespace Go.Proofs.Ytoiflngpjdghbaa
/- THE CELL 'sum', in the pinned program and in every row, IS THE sha256 OF THE DUMP (.gsa) THAT YtoiflngpjdghbaaProg.lean LOADS. Nothing in Lean hashes anything: it is a label: what it is worth is what the hold of that sum in a sandbox is worth. -/
noncomputable def Try.pinned : Pinned := { name := "ytoiflngpjdghbaa", sum := "fd37f3ba85515b9a15140ad65465d81ecfed6b9ad6fc09376db0b09cfde95a74", checked := Try.checked }
namespace Rows
def none {H : Type} : Left H := { results := [], args := [] }

/-- 'tracerylaw10.OpcodePuts': WHATEVER THE INPUT: true; the input reads as it did. -/
def opcodePutsSpec : ChangeSpec := { name := "opcodePuts", fn := fun _ => fun
  | [d1, d2] => { results := [.lit (.bool true)], args := [d1, d2] }
  | _ => none }
def opcodePutsRow : OpenClaim := { program := "ytoiflngpjdghbaa", sum := "fd37f3ba85515b9a15140ad65465d81ecfed6b9ad6fc09376db0b09cfde95a74", func := "tracery/tracerylaw10.OpcodePuts", spec := "opcodePuts", apart := false }
def OpcodePutsSaid : Prop := opcodePutsRow.holds Try.pinned (OpenSpec.ofChange opcodePutsSpec)

/-- ITS FALSE NEIGHBOUR: 'it returns false'. Refute it at one input. -/
def opcodePutsWrong : ChangeSpec := { name := "opcodePuts", fn := fun _ => fun
  | [d1, d2] => { results := [.lit (.bool false)], args := [d1, d2] }
  | _ => none }
def OpcodePutsWrongFalsely : Prop := opcodePutsRow.holds Try.pinned (OpenSpec.ofChange opcodePutsWrong)

/-- 'tracerylaw10.OpcodeTakes': WHATEVER THE INPUT: true; the input reads as it did. -/
def opcodeTakesSpec : ChangeSpec := { name := "opcodeTakes", fn := fun _ => fun
  | [d] => { results := [.lit (.bool true)], args := [d] }
  | _ => none }
def opcodeTakesRow : OpenClaim := { program := "ytoiflngpjdghbaa", sum := "fd37f3ba85515b9a15140ad65465d81ecfed6b9ad6fc09376db0b09cfde95a74", func := "tracery/tracerylaw10.OpcodeTakes", spec := "opcodeTakes", unfollowed := true, recurses := true, apart := false }
def OpcodeTakesSaid : Prop := opcodeTakesRow.holds Try.pinned (OpenSpec.ofChange opcodeTakesSpec)

/-- ITS FALSE NEIGHBOUR: 'it returns false'. Refute it at one input. -/
def opcodeTakesWrong : ChangeSpec := { name := "opcodeTakes", fn := fun _ => fun
  | [d] => { results := [.lit (.bool false)], args := [d] }
  | _ => none }
def OpcodeTakesWrongFalsely : Prop := opcodeTakesRow.holds Try.pinned (OpenSpec.ofChange opcodeTakesWrong)

/-- 'tracerylaw10.OpcodeBack': WHATEVER THE INPUT: true; the input reads as it did. -/
def opcodeBackSpec : ChangeSpec := { name := "opcodeBack", fn := fun _ => fun
  | [d1, d2, d3] => { results := [.lit (.bool true)], args := [d1, d2, d3] }
  | _ => none }
def opcodeBackRow : OpenClaim := { program := "ytoiflngpjdghbaa", sum := "fd37f3ba85515b9a15140ad65465d81ecfed6b9ad6fc09376db0b09cfde95a74", func := "tracery/tracerylaw10.OpcodeBack", spec := "opcodeBack", unfollowed := true, recurses := true, apart := false }
def OpcodeBackSaid : Prop := opcodeBackRow.holds Try.pinned (OpenSpec.ofChange opcodeBackSpec)

/-- ITS FALSE NEIGHBOUR: 'it returns false'. Refute it at one input. -/
def opcodeBackWrong : ChangeSpec := { name := "opcodeBack", fn := fun _ => fun
  | [d1, d2, d3] => { results := [.lit (.bool false)], args := [d1, d2, d3] }
  | _ => none }
def OpcodeBackWrongFalsely : Prop := opcodeBackRow.holds Try.pinned (OpenSpec.ofChange opcodeBackWrong)

/-- 'tracerylaw10.OpcodeRows': WHATEVER THE INPUT: true; the input reads as it did. -/
def opcodeRowsSpec : ChangeSpec := { name := "opcodeRows", fn := fun _ => fun
  | [d] => { results := [.lit (.bool true)], args := [d] }
  | _ => none }
def opcodeRowsRow : OpenClaim := { program := "ytoiflngpjdghbaa", sum := "fd37f3ba85515b9a15140ad65465d81ecfed6b9ad6fc09376db0b09cfde95a74", func := "tracery/tracerylaw10.OpcodeRows", spec := "opcodeRows", unfollowed := true, recurses := true, apart := false }
def OpcodeRowsSaid : Prop := opcodeRowsRow.holds Try.pinned (OpenSpec.ofChange opcodeRowsSpec)

/-- ITS FALSE NEIGHBOUR: 'it returns false'. Refute it at one input. -/
def opcodeRowsWrong : ChangeSpec := { name := "opcodeRows", fn := fun _ => fun
  | [d] => { results := [.lit (.bool false)], args := [d] }
  | _ => none }
def OpcodeRowsWrongFalsely : Prop := opcodeRowsRow.holds Try.pinned (OpenSpec.ofChange opcodeRowsWrong)

/-- 'tracerylaw10.OpcodeSizes': WHATEVER THE INPUT: true; the input reads as it did. -/
def opcodeSizesSpec : ChangeSpec := { name := "opcodeSizes", fn := fun _ => fun
  | [d] => { results := [.lit (.bool true)], args := [d] }
  | _ => none }
def opcodeSizesRow : OpenClaim := { program := "ytoiflngpjdghbaa", sum := "fd37f3ba85515b9a15140ad65465d81ecfed6b9ad6fc09376db0b09cfde95a74", func := "tracery/tracerylaw10.OpcodeSizes", spec := "opcodeSizes", apart := false }
def OpcodeSizesSaid : Prop := opcodeSizesRow.holds Try.pinned (OpenSpec.ofChange opcodeSizesSpec)

/-- ITS FALSE NEIGHBOUR: 'it returns false'. Refute it at one input. -/
def opcodeSizesWrong : ChangeSpec := { name := "opcodeSizes", fn := fun _ => fun
  | [d] => { results := [.lit (.bool false)], args := [d] }
  | _ => none }
def OpcodeSizesWrongFalsely : Prop := opcodeSizesRow.holds Try.pinned (OpenSpec.ofChange opcodeSizesWrong)

/-- 'tracerylaw10.OpcodeTurned': WHATEVER THE INPUT: true; the input reads as it did. -/
def opcodeTurnedSpec : ChangeSpec := { name := "opcodeTurned", fn := fun _ => fun
  | [d1, d2, d3] => { results := [.lit (.bool true)], args := [d1, d2, d3] }
  | _ => none }
def opcodeTurnedRow : OpenClaim := { program := "ytoiflngpjdghbaa", sum := "fd37f3ba85515b9a15140ad65465d81ecfed6b9ad6fc09376db0b09cfde95a74", func := "tracery/tracerylaw10.OpcodeTurned", spec := "opcodeTurned", unfollowed := true, recurses := true, apart := false }
def OpcodeTurnedSaid : Prop := opcodeTurnedRow.holds Try.pinned (OpenSpec.ofChange opcodeTurnedSpec)

/-- ITS FALSE NEIGHBOUR: 'it returns false'. Refute it at one input. -/
def opcodeTurnedWrong : ChangeSpec := { name := "opcodeTurned", fn := fun _ => fun
  | [d1, d2, d3] => { results := [.lit (.bool false)], args := [d1, d2, d3] }
  | _ => none }
def OpcodeTurnedWrongFalsely : Prop := opcodeTurnedRow.holds Try.pinned (OpenSpec.ofChange opcodeTurnedWrong)

/- THE SECOND FORM. 'bulk': how many values and letters a reading holds, each counted each time it is reached (what is shared counts as often as it is met; a slice's spare places count too). A statement '..UptoSaid' is the law's where the arguments, and the package variables that the reading takes, are together of bulk at most 1048576: NARROWER than '..Said'. Prove '..Said' where nothing that the law and all that it calls make is longer than what came in: it says more and counts as full. Else prove '..UptoSaid'. A law counts once. -/
mutual
def uptoBulk {H : Type} : DataW H → Nat
  | .lit (.string bytes) => bytes.length + 1
  | .lit _ => 1
  | .nil => 1
  | .ptr d => uptoBulk d + 1
  | .slice elems spare => uptoBulkAll elems + uptoBulkAll spare + 1
  | .agg parts => uptoBulkAll parts + 1
  | .iface _ d => uptoBulk d + 1
  | .map entries => uptoBulkEntries entries + 1
  | .held _ => 1
def uptoBulkAll {H : Type} : List (DataW H) → Nat
  | [] => 0
  | d :: r => uptoBulk d + uptoBulkAll r
def uptoBulkEntries {H : Type} : List (Lit × DataW H) → Nat
  | [] => 0
  | x :: r => uptoBulkEntry x + uptoBulkEntries r
def uptoBulkEntry {H : Type} : Lit × DataW H → Nat
  | (.string bytes, d) => bytes.length + uptoBulk d + 1
  | (_, d) => uptoBulk d + 1
 end
def uptoSmall : (H : Type) → List (DataW H) → Bool := fun _ ds => decide (uptoBulkAll ds ≤ 1048576)
def OpenSpec.upto (s : _root_.Go.ChangeSpec) : _root_.Go.OpenSpec := { _root_.Go.OpenSpec.ofChange s with cond := some uptoSmall }

/-- 'tracerylaw10.OpcodePuts', WHERE WHAT IT READS IS OF BULK AT MOST 1048576: true; the input reads as it did. -/
def opcodePutsUptoRow : OpenClaim := { program := "ytoiflngpjdghbaa", sum := "fd37f3ba85515b9a15140ad65465d81ecfed6b9ad6fc09376db0b09cfde95a74", func := "tracery/tracerylaw10.OpcodePuts", spec := "opcodePuts", apart := false, narrowed := true }
def OpcodePutsUptoSaid : Prop := opcodePutsUptoRow.holds Try.pinned (OpenSpec.upto opcodePutsSpec)

/-- 'tracerylaw10.OpcodeTakes', WHERE WHAT IT READS IS OF BULK AT MOST 1048576: true; the input reads as it did. -/
def opcodeTakesUptoRow : OpenClaim := { program := "ytoiflngpjdghbaa", sum := "fd37f3ba85515b9a15140ad65465d81ecfed6b9ad6fc09376db0b09cfde95a74", func := "tracery/tracerylaw10.OpcodeTakes", spec := "opcodeTakes", unfollowed := true, recurses := true, apart := false, narrowed := true }
def OpcodeTakesUptoSaid : Prop := opcodeTakesUptoRow.holds Try.pinned (OpenSpec.upto opcodeTakesSpec)

/-- 'tracerylaw10.OpcodeBack', WHERE WHAT IT READS IS OF BULK AT MOST 1048576: true; the input reads as it did. -/
def opcodeBackUptoRow : OpenClaim := { program := "ytoiflngpjdghbaa", sum := "fd37f3ba85515b9a15140ad65465d81ecfed6b9ad6fc09376db0b09cfde95a74", func := "tracery/tracerylaw10.OpcodeBack", spec := "opcodeBack", unfollowed := true, recurses := true, apart := false, narrowed := true }
def OpcodeBackUptoSaid : Prop := opcodeBackUptoRow.holds Try.pinned (OpenSpec.upto opcodeBackSpec)

/-- 'tracerylaw10.OpcodeRows', WHERE WHAT IT READS IS OF BULK AT MOST 1048576: true; the input reads as it did. -/
def opcodeRowsUptoRow : OpenClaim := { program := "ytoiflngpjdghbaa", sum := "fd37f3ba85515b9a15140ad65465d81ecfed6b9ad6fc09376db0b09cfde95a74", func := "tracery/tracerylaw10.OpcodeRows", spec := "opcodeRows", unfollowed := true, recurses := true, apart := false, narrowed := true }
def OpcodeRowsUptoSaid : Prop := opcodeRowsUptoRow.holds Try.pinned (OpenSpec.upto opcodeRowsSpec)

/-- 'tracerylaw10.OpcodeSizes', WHERE WHAT IT READS IS OF BULK AT MOST 1048576: true; the input reads as it did. -/
def opcodeSizesUptoRow : OpenClaim := { program := "ytoiflngpjdghbaa", sum := "fd37f3ba85515b9a15140ad65465d81ecfed6b9ad6fc09376db0b09cfde95a74", func := "tracery/tracerylaw10.OpcodeSizes", spec := "opcodeSizes", apart := false, narrowed := true }
def OpcodeSizesUptoSaid : Prop := opcodeSizesUptoRow.holds Try.pinned (OpenSpec.upto opcodeSizesSpec)

/-- 'tracerylaw10.OpcodeTurned', WHERE WHAT IT READS IS OF BULK AT MOST 1048576: true; the input reads as it did. -/
def opcodeTurnedUptoRow : OpenClaim := { program := "ytoiflngpjdghbaa", sum := "fd37f3ba85515b9a15140ad65465d81ecfed6b9ad6fc09376db0b09cfde95a74", func := "tracery/tracerylaw10.OpcodeTurned", spec := "opcodeTurned", unfollowed := true, recurses := true, apart := false, narrowed := true }
def OpcodeTurnedUptoSaid : Prop := opcodeTurnedUptoRow.holds Try.pinned (OpenSpec.upto opcodeTurnedSpec)

end Rows
end Go.Proofs.Ytoiflngpjdghbaa
