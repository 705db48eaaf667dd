/- The face of a dart, gathered; and whether a dart is in it. -/
import Derived.RangeFuncNested
import Derived.RangeFuncBound
import Derived.RangeFuncCalls
import Derived.RangeFuncLeaves
import Derived.Shelf.Abstract
import Derived.Shelf.RegionOpen
import Derived.WalkKit
import Derived.OwnWalkIn
import Derived.TacticsInMore
import Derived.LoopNIn
import Derived.LoopIn
import Derived.Maps.AppendAt
import Derived.Test.YtpindjknngcccaaFc2
namespace Go.Proofs.Ytpindjknngcccaa
open Go.RowKit
set_option linter.unusedSimpArgs false
set_option linter.unusedVariables false


attribute [local go_sem] Oper.semAt_some

theorem trG_len (g : D → Option D) (x : D) : ∀ k y, (trG g x k y).length ≤ k
  | 0, _ => Nat.le_refl _
  | k + 1, y => by
    rw [trG, List.length_cons]
    split
    · simp
    · split
      · simp
      · have := trG_len g x k ‹D›; omega
theorem faceL_len (g : D → Option D) (N : Nat) (x : D) : (faceL g N x).length ≤ N := by
  unfold faceL
  split
  · exact trG_len _ _ _ _
  · simp

theorem own_base {w : World} {lo lo' : Nat} {e : TypeId} {k n : Nat} {v : Value} {xs : List Value} (h : w.ownsRow lo e k v n xs) (hb : lo' ≤ lo) : w.ownsRow lo' e k v n xs := by
  refine ⟨h.1, ?_⟩
  rcases h.2 with q | ⟨g, cap, cur, q1, q2, q3⟩
  · exact .inl q
  · exact .inr ⟨g, cap, cur, q1, by omega, q3⟩
/-- What has come of a face lies in a row of its own, above block bl + 2. -/
def SeqI (b0 bl : Nat) (w0 : World) (p : List D2) (W : World) : Prop := ∃ A c, Whole W b0 40 [.slice A p.length c] ∧ W.ownsRow (bl + 3) 39 3 (.slice A p.length c) p.length (dartsV (p.map (·.1))) ∧ Below w0.heap.size w0 W
theorem SeqI.abs {b0 bl : Nat} {w0 : World} {p : List D2} (h : b0 < bl) (hw : w0.heap.size ≤ bl) : AbS bl (SeqI b0 bl w0 p) := by
  rintro W W' r ⟨A, c, h1, h2, h3⟩ hg hr1 hr2
  refine ⟨A, c, h1.at_ (hg.block b0 h1.lt (fun e => by cases e; omega)), h2.kept hg (.inr (fun e => by have := (h2.lt r e).1; omega)), h3.grown hg h3.size (fun k e => by cases e; omega)⟩
theorem SeqI.al {b0 bl : Nat} {w0 W : World} {p : List D2} (h : SeqI b0 bl w0 p W) (o : Obj) : SeqI b0 bl w0 p (W.alloc o) := by
  obtain ⟨A, c, h1, h2, h3⟩ := h
  exact ⟨A, c, h1.al o, h2.alloc o, bel_al h3 o⟩
end Go.Proofs.Ytpindjknngcccaa
