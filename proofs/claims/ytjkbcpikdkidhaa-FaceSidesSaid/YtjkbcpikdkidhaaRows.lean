/-
  No cell of these rows narrows 'for every input' (looked for: loops, veiled, ifaces, maps, wideKeys, modest, calm, conditions, laid).
  DERIVED. THE GIVEN ROWS OF THIS SEAT. 11 by the template 'for every input the law returns true; each argument reads behind the call as it read before'; 0 by the template 'total and deterministic' (their statements: YtjkbcpikdkidhaaTotals.lean).
  GIVEN WITH THE SEED: the statements are not yours to turn. If you find one false, say at which input.
  Laid BY PROGRAM, IN A SANDBOX (cutbox-rows.mjs): the forced cells as the released guide's own fill.sh prints them over the translation 78303b46a71f4da2… (all of the seat's roots in one cut). By AI agents, Wed Nov 11 2026. No macro, syntax, notation, axiom, sorry.
-/
import Derived.Test.YtjkbcpikdkidhaaChecked
import GoSem.Claim
import GoSem.ClaimJoined
import GoSem.ClaimMapViews
import Derived.JoinedTies
import Derived.KernelRfl
namespace Go.Proofs.Ytjkbcpikdkidhaa
/- THE CELL 'sum', in the pinned program and in every row, IS THE sha256 OF THE DUMP (.gsa) THAT YtjkbcpikdkidhaaProg.lean LOADS. Nothing in Lean hashes anything: it is a label: what it is worth is what the hold of that sum in a sandbox is worth. -/
noncomputable def Try.pinned : Pinned := { name := "ytjkbcpikdkidhaa", sum := "78303b46a71f4da2ddc952cee95aedbe4bcd801050e21d83fd804c1d40e71884", checked := Try.checked }
namespace Rows
def none {H : Type} : Left H := { results := [], args := [] }

/-- 'tracerylaw05.FaceSteps': WHATEVER THE INPUT: true; the input reads as it did. -/
def faceStepsSpec : ChangeSpec := { name := "faceSteps", fn := fun _ => fun
  | [d1, d2] => { results := [.lit (.bool true)], args := [d1, d2] }
  | _ => none }
def faceStepsRow : OpenClaim := { program := "ytjkbcpikdkidhaa", sum := "78303b46a71f4da2ddc952cee95aedbe4bcd801050e21d83fd804c1d40e71884", func := "tracery/tracerylaw05.FaceSteps", spec := "faceSteps", unfollowed := true, recurses := true, plainKeys := false, apart := false }
def FaceStepsSaid : Prop := faceStepsRow.holds Try.pinned (OpenSpec.ofChange faceStepsSpec)

/-- ITS FALSE NEIGHBOUR: 'it returns false'. Refute it at one input. -/
def faceStepsWrong : ChangeSpec := { name := "faceSteps", fn := fun _ => fun
  | [d1, d2] => { results := [.lit (.bool false)], args := [d1, d2] }
  | _ => none }
def FaceStepsWrongFalsely : Prop := faceStepsRow.holds Try.pinned (OpenSpec.ofChange faceStepsWrong)

/-- 'tracerylaw05.FaceTraces': WHATEVER THE INPUT: true; the input reads as it did. -/
def faceTracesSpec : ChangeSpec := { name := "faceTraces", fn := fun _ => fun
  | [d1, d2, d3] => { results := [.lit (.bool true)], args := [d1, d2, d3] }
  | _ => none }
def faceTracesRow : OpenClaim := { program := "ytjkbcpikdkidhaa", sum := "78303b46a71f4da2ddc952cee95aedbe4bcd801050e21d83fd804c1d40e71884", func := "tracery/tracerylaw05.FaceTraces", spec := "faceTraces", unfollowed := true, recurses := true, plainKeys := false, apart := false }
def FaceTracesSaid : Prop := faceTracesRow.holds Try.pinned (OpenSpec.ofChange faceTracesSpec)

/-- ITS FALSE NEIGHBOUR: 'it returns false'. Refute it at one input. -/
def faceTracesWrong : ChangeSpec := { name := "faceTraces", fn := fun _ => fun
  | [d1, d2, d3] => { results := [.lit (.bool false)], args := [d1, d2, d3] }
  | _ => none }
def FaceTracesWrongFalsely : Prop := faceTracesRow.holds Try.pinned (OpenSpec.ofChange faceTracesWrong)

/-- 'tracerylaw05.FaceOnce': WHATEVER THE INPUT: true; the input reads as it did. -/
def faceOnceSpec : ChangeSpec := { name := "faceOnce", fn := fun _ => fun
  | [d1, d2, d3] => { results := [.lit (.bool true)], args := [d1, d2, d3] }
  | _ => none }
def faceOnceRow : OpenClaim := { program := "ytjkbcpikdkidhaa", sum := "78303b46a71f4da2ddc952cee95aedbe4bcd801050e21d83fd804c1d40e71884", func := "tracery/tracerylaw05.FaceOnce", spec := "faceOnce", unfollowed := true, recurses := true, plainKeys := false, apart := false }
def FaceOnceSaid : Prop := faceOnceRow.holds Try.pinned (OpenSpec.ofChange faceOnceSpec)

/-- ITS FALSE NEIGHBOUR: 'it returns false'. Refute it at one input. -/
def faceOnceWrong : ChangeSpec := { name := "faceOnce", fn := fun _ => fun
  | [d1, d2, d3] => { results := [.lit (.bool false)], args := [d1, d2, d3] }
  | _ => none }
def FaceOnceWrongFalsely : Prop := faceOnceRow.holds Try.pinned (OpenSpec.ofChange faceOnceWrong)

/-- 'tracerylaw05.FaceRound': WHATEVER THE INPUT: true; the input reads as it did. -/
def faceRoundSpec : ChangeSpec := { name := "faceRound", fn := fun _ => fun
  | [d1, d2] => { results := [.lit (.bool true)], args := [d1, d2] }
  | _ => none }
def faceRoundRow : OpenClaim := { program := "ytjkbcpikdkidhaa", sum := "78303b46a71f4da2ddc952cee95aedbe4bcd801050e21d83fd804c1d40e71884", func := "tracery/tracerylaw05.FaceRound", spec := "faceRound", unfollowed := true, recurses := true, plainKeys := false, apart := false }
def FaceRoundSaid : Prop := faceRoundRow.holds Try.pinned (OpenSpec.ofChange faceRoundSpec)

/-- ITS FALSE NEIGHBOUR: 'it returns false'. Refute it at one input. -/
def faceRoundWrong : ChangeSpec := { name := "faceRound", fn := fun _ => fun
  | [d1, d2] => { results := [.lit (.bool false)], args := [d1, d2] }
  | _ => none }
def FaceRoundWrongFalsely : Prop := faceRoundRow.holds Try.pinned (OpenSpec.ofChange faceRoundWrong)

/-- 'tracerylaw05.FaceSides': WHATEVER THE INPUT: true; the input reads as it did. -/
def faceSidesSpec : ChangeSpec := { name := "faceSides", fn := fun _ => fun
  | [d1, d2, d3] => { results := [.lit (.bool true)], args := [d1, d2, d3] }
  | _ => none }
def faceSidesRow : OpenClaim := { program := "ytjkbcpikdkidhaa", sum := "78303b46a71f4da2ddc952cee95aedbe4bcd801050e21d83fd804c1d40e71884", func := "tracery/tracerylaw05.FaceSides", spec := "faceSides", unfollowed := true, recurses := true, plainKeys := false, apart := false }
def FaceSidesSaid : Prop := faceSidesRow.holds Try.pinned (OpenSpec.ofChange faceSidesSpec)

/-- ITS FALSE NEIGHBOUR: 'it returns false'. Refute it at one input. -/
def faceSidesWrong : ChangeSpec := { name := "faceSides", fn := fun _ => fun
  | [d1, d2, d3] => { results := [.lit (.bool false)], args := [d1, d2, d3] }
  | _ => none }
def FaceSidesWrongFalsely : Prop := faceSidesRow.holds Try.pinned (OpenSpec.ofChange faceSidesWrong)

/-- 'tracerylaw05.FaceMoves': WHATEVER THE INPUT: true; the input reads as it did. -/
def faceMovesSpec : ChangeSpec := { name := "faceMoves", fn := fun _ => fun
  | [d] => { results := [.lit (.bool true)], args := [d] }
  | _ => none }
def faceMovesRow : OpenClaim := { program := "ytjkbcpikdkidhaa", sum := "78303b46a71f4da2ddc952cee95aedbe4bcd801050e21d83fd804c1d40e71884", func := "tracery/tracerylaw05.FaceMoves", spec := "faceMoves", unfollowed := true, recurses := true, plainKeys := false, apart := false }
def FaceMovesSaid : Prop := faceMovesRow.holds Try.pinned (OpenSpec.ofChange faceMovesSpec)

/-- ITS FALSE NEIGHBOUR: 'it returns false'. Refute it at one input. -/
def faceMovesWrong : ChangeSpec := { name := "faceMoves", fn := fun _ => fun
  | [d] => { results := [.lit (.bool false)], args := [d] }
  | _ => none }
def FaceMovesWrongFalsely : Prop := faceMovesRow.holds Try.pinned (OpenSpec.ofChange faceMovesWrong)

/-- 'tracerylaw06.CompLabels': WHATEVER THE INPUT: true; the input reads as it did. -/
def compLabelsSpec : ChangeSpec := { name := "compLabels", fn := fun _ => fun
  | [d1, d2, d3] => { results := [.lit (.bool true)], args := [d1, d2, d3] }
  | _ => none }
def compLabelsRow : OpenClaim := { program := "ytjkbcpikdkidhaa", sum := "78303b46a71f4da2ddc952cee95aedbe4bcd801050e21d83fd804c1d40e71884", func := "tracery/tracerylaw06.CompLabels", spec := "compLabels", unfollowed := true, recurses := true, plainKeys := false, apart := false }
def CompLabelsSaid : Prop := compLabelsRow.holds Try.pinned (OpenSpec.ofChange compLabelsSpec)

/-- ITS FALSE NEIGHBOUR: 'it returns false'. Refute it at one input. -/
def compLabelsWrong : ChangeSpec := { name := "compLabels", fn := fun _ => fun
  | [d1, d2, d3] => { results := [.lit (.bool false)], args := [d1, d2, d3] }
  | _ => none }
def CompLabelsWrongFalsely : Prop := compLabelsRow.holds Try.pinned (OpenSpec.ofChange compLabelsWrong)

/-- 'tracerylaw06.CompWhole': WHATEVER THE INPUT: true; the input reads as it did. -/
def compWholeSpec : ChangeSpec := { name := "compWhole", fn := fun _ => fun
  | [d] => { results := [.lit (.bool true)], args := [d] }
  | _ => none }
def compWholeRow : OpenClaim := { program := "ytjkbcpikdkidhaa", sum := "78303b46a71f4da2ddc952cee95aedbe4bcd801050e21d83fd804c1d40e71884", func := "tracery/tracerylaw06.CompWhole", spec := "compWhole", unfollowed := true, recurses := true, plainKeys := false, apart := false }
def CompWholeSaid : Prop := compWholeRow.holds Try.pinned (OpenSpec.ofChange compWholeSpec)

/-- ITS FALSE NEIGHBOUR: 'it returns false'. Refute it at one input. -/
def compWholeWrong : ChangeSpec := { name := "compWhole", fn := fun _ => fun
  | [d] => { results := [.lit (.bool false)], args := [d] }
  | _ => none }
def CompWholeWrongFalsely : Prop := compWholeRow.holds Try.pinned (OpenSpec.ofChange compWholeWrong)

/-- 'tracerylaw06.CompEdge': WHATEVER THE INPUT: true; the input reads as it did. -/
def compEdgeSpec : ChangeSpec := { name := "compEdge", fn := fun _ => fun
  | [d1, d2, d3] => { results := [.lit (.bool true)], args := [d1, d2, d3] }
  | _ => none }
def compEdgeRow : OpenClaim := { program := "ytjkbcpikdkidhaa", sum := "78303b46a71f4da2ddc952cee95aedbe4bcd801050e21d83fd804c1d40e71884", func := "tracery/tracerylaw06.CompEdge", spec := "compEdge", unfollowed := true, recurses := true, plainKeys := false, apart := false }
def CompEdgeSaid : Prop := compEdgeRow.holds Try.pinned (OpenSpec.ofChange compEdgeSpec)

/-- ITS FALSE NEIGHBOUR: 'it returns false'. Refute it at one input. -/
def compEdgeWrong : ChangeSpec := { name := "compEdge", fn := fun _ => fun
  | [d1, d2, d3] => { results := [.lit (.bool false)], args := [d1, d2, d3] }
  | _ => none }
def CompEdgeWrongFalsely : Prop := compEdgeRow.holds Try.pinned (OpenSpec.ofChange compEdgeWrong)

/-- 'tracerylaw06.CompPlaces': WHATEVER THE INPUT: true; the input reads as it did. -/
def compPlacesSpec : ChangeSpec := { name := "compPlaces", fn := fun _ => fun
  | [d] => { results := [.lit (.bool true)], args := [d] }
  | _ => none }
def compPlacesRow : OpenClaim := { program := "ytjkbcpikdkidhaa", sum := "78303b46a71f4da2ddc952cee95aedbe4bcd801050e21d83fd804c1d40e71884", func := "tracery/tracerylaw06.CompPlaces", spec := "compPlaces", unfollowed := true, recurses := true, plainKeys := false, apart := false }
def CompPlacesSaid : Prop := compPlacesRow.holds Try.pinned (OpenSpec.ofChange compPlacesSpec)

/-- ITS FALSE NEIGHBOUR: 'it returns false'. Refute it at one input. -/
def compPlacesWrong : ChangeSpec := { name := "compPlaces", fn := fun _ => fun
  | [d] => { results := [.lit (.bool false)], args := [d] }
  | _ => none }
def CompPlacesWrongFalsely : Prop := compPlacesRow.holds Try.pinned (OpenSpec.ofChange compPlacesWrong)

/-- 'tracerylaw06.CompBlind': WHATEVER THE INPUT: true; the input reads as it did. -/
def compBlindSpec : ChangeSpec := { name := "compBlind", fn := fun _ => fun
  | [d1, d2, d3] => { results := [.lit (.bool true)], args := [d1, d2, d3] }
  | _ => none }
def compBlindRow : OpenClaim := { program := "ytjkbcpikdkidhaa", sum := "78303b46a71f4da2ddc952cee95aedbe4bcd801050e21d83fd804c1d40e71884", func := "tracery/tracerylaw06.CompBlind", spec := "compBlind", unfollowed := true, recurses := true, plainKeys := false, apart := false }
def CompBlindSaid : Prop := compBlindRow.holds Try.pinned (OpenSpec.ofChange compBlindSpec)

/-- ITS FALSE NEIGHBOUR: 'it returns false'. Refute it at one input. -/
def compBlindWrong : ChangeSpec := { name := "compBlind", fn := fun _ => fun
  | [d1, d2, d3] => { results := [.lit (.bool false)], args := [d1, d2, d3] }
  | _ => none }
def CompBlindWrongFalsely : Prop := compBlindRow.holds Try.pinned (OpenSpec.ofChange compBlindWrong)

/- THE SECOND FORM. 'bulk': how many values and letters a reading holds, each counted each time it is reached (what is shared counts as often as it is met; a slice's spare places count too). A statement '..UptoSaid' is the law's where the arguments, and the package variables that the reading takes, are together of bulk at most 1048576: NARROWER than '..Said'. Prove '..Said' where nothing that the law and all that it calls make is longer than what came in: it says more and counts as full. Else prove '..UptoSaid'. A law counts once. -/
mutual
def uptoBulk {H : Type} : DataW H → Nat
  | .lit (.string bytes) => bytes.length + 1
  | .lit _ => 1
  | .nil => 1
  | .ptr d => uptoBulk d + 1
  | .slice elems spare => uptoBulkAll elems + uptoBulkAll spare + 1
  | .agg parts => uptoBulkAll parts + 1
  | .iface _ d => uptoBulk d + 1
  | .map entries => uptoBulkEntries entries + 1
  | .held _ => 1
def uptoBulkAll {H : Type} : List (DataW H) → Nat
  | [] => 0
  | d :: r => uptoBulk d + uptoBulkAll r
def uptoBulkEntries {H : Type} : List (Lit × DataW H) → Nat
  | [] => 0
  | x :: r => uptoBulkEntry x + uptoBulkEntries r
def uptoBulkEntry {H : Type} : Lit × DataW H → Nat
  | (.string bytes, d) => bytes.length + uptoBulk d + 1
  | (_, d) => uptoBulk d + 1
 end
def uptoSmall : (H : Type) → List (DataW H) → Bool := fun _ ds => decide (uptoBulkAll ds ≤ 1048576)
def OpenSpec.upto (s : _root_.Go.ChangeSpec) : _root_.Go.OpenSpec := { _root_.Go.OpenSpec.ofChange s with cond := some uptoSmall }

/-- 'tracerylaw05.FaceSteps', WHERE WHAT IT READS IS OF BULK AT MOST 1048576: true; the input reads as it did. -/
def faceStepsUptoRow : OpenClaim := { program := "ytjkbcpikdkidhaa", sum := "78303b46a71f4da2ddc952cee95aedbe4bcd801050e21d83fd804c1d40e71884", func := "tracery/tracerylaw05.FaceSteps", spec := "faceSteps", unfollowed := true, recurses := true, plainKeys := false, apart := false, narrowed := true }
def FaceStepsUptoSaid : Prop := faceStepsUptoRow.holds Try.pinned (OpenSpec.upto faceStepsSpec)

/-- 'tracerylaw05.FaceTraces', WHERE WHAT IT READS IS OF BULK AT MOST 1048576: true; the input reads as it did. -/
def faceTracesUptoRow : OpenClaim := { program := "ytjkbcpikdkidhaa", sum := "78303b46a71f4da2ddc952cee95aedbe4bcd801050e21d83fd804c1d40e71884", func := "tracery/tracerylaw05.FaceTraces", spec := "faceTraces", unfollowed := true, recurses := true, plainKeys := false, apart := false, narrowed := true }
def FaceTracesUptoSaid : Prop := faceTracesUptoRow.holds Try.pinned (OpenSpec.upto faceTracesSpec)

/-- 'tracerylaw05.FaceOnce', WHERE WHAT IT READS IS OF BULK AT MOST 1048576: true; the input reads as it did. -/
def faceOnceUptoRow : OpenClaim := { program := "ytjkbcpikdkidhaa", sum := "78303b46a71f4da2ddc952cee95aedbe4bcd801050e21d83fd804c1d40e71884", func := "tracery/tracerylaw05.FaceOnce", spec := "faceOnce", unfollowed := true, recurses := true, plainKeys := false, apart := false, narrowed := true }
def FaceOnceUptoSaid : Prop := faceOnceUptoRow.holds Try.pinned (OpenSpec.upto faceOnceSpec)

/-- 'tracerylaw05.FaceRound', WHERE WHAT IT READS IS OF BULK AT MOST 1048576: true; the input reads as it did. -/
def faceRoundUptoRow : OpenClaim := { program := "ytjkbcpikdkidhaa", sum := "78303b46a71f4da2ddc952cee95aedbe4bcd801050e21d83fd804c1d40e71884", func := "tracery/tracerylaw05.FaceRound", spec := "faceRound", unfollowed := true, recurses := true, plainKeys := false, apart := false, narrowed := true }
def FaceRoundUptoSaid : Prop := faceRoundUptoRow.holds Try.pinned (OpenSpec.upto faceRoundSpec)

/-- 'tracerylaw05.FaceSides', WHERE WHAT IT READS IS OF BULK AT MOST 1048576: true; the input reads as it did. -/
def faceSidesUptoRow : OpenClaim := { program := "ytjkbcpikdkidhaa", sum := "78303b46a71f4da2ddc952cee95aedbe4bcd801050e21d83fd804c1d40e71884", func := "tracery/tracerylaw05.FaceSides", spec := "faceSides", unfollowed := true, recurses := true, plainKeys := false, apart := false, narrowed := true }
def FaceSidesUptoSaid : Prop := faceSidesUptoRow.holds Try.pinned (OpenSpec.upto faceSidesSpec)

/-- 'tracerylaw05.FaceMoves', WHERE WHAT IT READS IS OF BULK AT MOST 1048576: true; the input reads as it did. -/
def faceMovesUptoRow : OpenClaim := { program := "ytjkbcpikdkidhaa", sum := "78303b46a71f4da2ddc952cee95aedbe4bcd801050e21d83fd804c1d40e71884", func := "tracery/tracerylaw05.FaceMoves", spec := "faceMoves", unfollowed := true, recurses := true, plainKeys := false, apart := false, narrowed := true }
def FaceMovesUptoSaid : Prop := faceMovesUptoRow.holds Try.pinned (OpenSpec.upto faceMovesSpec)

/-- 'tracerylaw06.CompLabels', WHERE WHAT IT READS IS OF BULK AT MOST 1048576: true; the input reads as it did. -/
def compLabelsUptoRow : OpenClaim := { program := "ytjkbcpikdkidhaa", sum := "78303b46a71f4da2ddc952cee95aedbe4bcd801050e21d83fd804c1d40e71884", func := "tracery/tracerylaw06.CompLabels", spec := "compLabels", unfollowed := true, recurses := true, plainKeys := false, apart := false, narrowed := true }
def CompLabelsUptoSaid : Prop := compLabelsUptoRow.holds Try.pinned (OpenSpec.upto compLabelsSpec)

/-- 'tracerylaw06.CompWhole', WHERE WHAT IT READS IS OF BULK AT MOST 1048576: true; the input reads as it did. -/
def compWholeUptoRow : OpenClaim := { program := "ytjkbcpikdkidhaa", sum := "78303b46a71f4da2ddc952cee95aedbe4bcd801050e21d83fd804c1d40e71884", func := "tracery/tracerylaw06.CompWhole", spec := "compWhole", unfollowed := true, recurses := true, plainKeys := false, apart := false, narrowed := true }
def CompWholeUptoSaid : Prop := compWholeUptoRow.holds Try.pinned (OpenSpec.upto compWholeSpec)

/-- 'tracerylaw06.CompEdge', WHERE WHAT IT READS IS OF BULK AT MOST 1048576: true; the input reads as it did. -/
def compEdgeUptoRow : OpenClaim := { program := "ytjkbcpikdkidhaa", sum := "78303b46a71f4da2ddc952cee95aedbe4bcd801050e21d83fd804c1d40e71884", func := "tracery/tracerylaw06.CompEdge", spec := "compEdge", unfollowed := true, recurses := true, plainKeys := false, apart := false, narrowed := true }
def CompEdgeUptoSaid : Prop := compEdgeUptoRow.holds Try.pinned (OpenSpec.upto compEdgeSpec)

/-- 'tracerylaw06.CompPlaces', WHERE WHAT IT READS IS OF BULK AT MOST 1048576: true; the input reads as it did. -/
def compPlacesUptoRow : OpenClaim := { program := "ytjkbcpikdkidhaa", sum := "78303b46a71f4da2ddc952cee95aedbe4bcd801050e21d83fd804c1d40e71884", func := "tracery/tracerylaw06.CompPlaces", spec := "compPlaces", unfollowed := true, recurses := true, plainKeys := false, apart := false, narrowed := true }
def CompPlacesUptoSaid : Prop := compPlacesUptoRow.holds Try.pinned (OpenSpec.upto compPlacesSpec)

/-- 'tracerylaw06.CompBlind', WHERE WHAT IT READS IS OF BULK AT MOST 1048576: true; the input reads as it did. -/
def compBlindUptoRow : OpenClaim := { program := "ytjkbcpikdkidhaa", sum := "78303b46a71f4da2ddc952cee95aedbe4bcd801050e21d83fd804c1d40e71884", func := "tracery/tracerylaw06.CompBlind", spec := "compBlind", unfollowed := true, recurses := true, plainKeys := false, apart := false, narrowed := true }
def CompBlindUptoSaid : Prop := compBlindUptoRow.holds Try.pinned (OpenSpec.upto compBlindSpec)

end Rows
end Go.Proofs.Ytjkbcpikdkidhaa
