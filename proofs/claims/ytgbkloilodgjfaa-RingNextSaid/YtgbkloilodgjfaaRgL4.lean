/- RingNext's walk: all cases. -/
import Derived.Test.YtgbkloilodgjfaaRgL4a
import Derived.Test.YtgbkloilodgjfaaRgL4b
namespace Go.Proofs.Ytgbkloilodgjfaa
open Go.RowKit

theorem law_rnext (A : Option Addr) (n c : Nat) (L0 : List D) (d : D) (w : World) (h : RdS w w.heap.size 3 A n c (dartsV L0)) (hn : n ≤ maxLen) :
    Calls Try.prog 10 #[.slice A n c, .agg #[.int .i64 d.1, .int .i64 d.2.1, .int .i64 d.2.2]] w fun e w' => e = .returned (.bool true) ∧ Below w.heap.size w w' := by
  by_cases hd : d ∈ onceD L0
  · have hk := List.idxOf_lt_length_of_mem hd
    rcases Nat.lt_or_ge (onceD L0).length 3 with h3 | h3
    · exact law_rnext_a A n c _ L0 _ d w h hn rfl hk (get_of_idx hd) h3
    · exact law_rnext_b A n c _ L0 _ d w h hn rfl hk (get_of_idx hd) h3
  · exact law_rnext_no A n c L0 _ d w h hn rfl hd
end Go.Proofs.Ytgbkloilodgjfaa
