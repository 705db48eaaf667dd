/- Words for a chain of calls that only make new memory. -/
import Derived.Test.YthfngmlnmpbcpaaReg
import Derived.Test.YthfngmlnmpbcpaaMem
namespace Go.Proofs.Ythfngmlnmpbcpaa
open Go.RowKit

theorem bel_al {w0 w : World} (h : Below w0.heap.size w0 w) (o : Obj) : Below w0.heap.size w0 (w.alloc o) := h.alloc h.size o
theorem bel_bl {w0 w w' : World} (h : Below w0.heap.size w0 w) (hb : Below w.heap.size w w') : Below w0.heap.size w0 w' := h.trans (hb.mono h.size)
theorem bel_dr {w0 w : World} (h : Below w0.heap.size w0 w) : Below w0.heap.size w0 w.drew := h.drew
theorem RdS.al {w : World} {size n c : Nat} {A : Option Addr} {xs : List Value} (h : RdS w w.heap.size size A n c xs) (o : Obj) : RdS (w.alloc o) (w.alloc o).heap.size size A n c xs :=
  h.up ((Below.refl _ _).alloc (Nat.le_refl _) o) (by simp)
theorem RdS.bl {w w' : World} {size n c : Nat} {A : Option Addr} {xs : List Value} (h : RdS w w.heap.size size A n c xs) (hb : Below w.heap.size w w') : RdS w' w'.heap.size size A n c xs := h.up hb hb.size
theorem RdS.dr {w : World} {size n c : Nat} {A : Option Addr} {xs : List Value} (h : RdS w w.heap.size size A n c xs) : RdS w.drew w.drew.heap.size size A n c xs := h.up ((Below.refl _ _).drew) (Nat.le_refl _)
theorem Whole.al {w : World} {g : Nat} {t : TypeId} {cs : List Value} (h : Whole w g t cs) (o : Obj) : Whole (w.alloc o) g t cs := h.alloc o
theorem Whole.bl {w w' : World} {g : Nat} {t : TypeId} {cs : List Value} (h : Whole w g t cs) (hb : Below w.heap.size w w') : Whole w' g t cs := h.below hb
theorem Whole.dr {w : World} {g : Nat} {t : TypeId} {cs : List Value} (h : Whole w g t cs) : Whole w.drew g t cs := h.drew
end Go.Proofs.Ythfngmlnmpbcpaa
