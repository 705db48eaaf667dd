/- Several texts in one. -/
import Derived.Test.YtibbibpfnpjjdaaNAB
import Derived.Laws.Strings
import Derived.Laws.BitsAllLaws
import Derived.Test.YtibbibpfnpjjdaaNAA
import Derived.Lib.SliceRun
import Derived.Test.YtibbibpfnpjjdaaProg
import Derived.WalkKit
import Derived.Tactics2
import Derived.Defers
import Derived.Laws.Pointers
import Derived.Laws.LoneSync
import Derived.Laws.MakeOwn
import Derived.RegionTactic
import Derived.RegionCalls
import Derived.ChangeAlike
import Derived.KernelRfl
import Derived.OrdersHeld

/- The document's Same. -/
namespace Go.Proofs.Ytibbibpfnpjjdaa
open Go.RowKit
set_option linter.unusedSimpArgs false
set_option linter.unusedVariables false

theorem same_eq {a b : FrT} (h1 : a.k = b.k) (h2 : a.fr = b.fr) (h3 : a.tt = b.tt) (h4 : a.ep = b.ep) (h5 : a.sq = b.sq) (h6 : a.ac = b.ac) : a = b := by
  cases a; cases b; simp_all
set_option maxRecDepth 100000 in
set_option maxHeartbeats 1000000 in
theorem same_k (a b : FrT) (A A' : Option Addr) (n c n' c' : Nat) (P Q : List Nat) (w : World) (h : RdS w w.heap.size 1 A n c (rowsV f8 P)) (h' : RdS w w.heap.size 1 A' n' c' (rowsV f8 Q)) (q0 : (a.k == b.k) = false) :
    Calls Try.prog 23 #[.agg (frCells a A n c).toArray, .agg (frCells b A' n' c').toArray] w fun e w' => e = .returned (.bool (false)) ∧ Below w.heap.size w w' := by
  have HB : RowKit.Hid (Below w.heap.size w ((w.alloc (.cells #[.int .i64 a.k, .int .i64 a.fr, .int .i64 a.tt, .int .i64 a.ep, .int .i64 a.sq, .int .i64 a.ac, .slice A n c] 34)).alloc (.cells #[.int .i64 b.k, .int .i64 b.fr, .int .i64 b.tt, .int .i64 b.ep, .int .i64 b.sq, .int .i64 b.ac, .slice A' n' c'] 34))) := Lib.hid (below2 _ _ _)
  have hO : Whole ((w.alloc (.cells #[.int .i64 a.k, .int .i64 a.fr, .int .i64 a.tt, .int .i64 a.ep, .int .i64 a.sq, .int .i64 a.ac, .slice A n c] 34)).alloc (.cells #[.int .i64 b.k, .int .i64 b.fr, .int .i64 b.tt, .int .i64 b.ep, .int .i64 b.sq, .int .i64 b.ac, .slice A' n' c'] 34)) w.heap.size 34 [.int .i64 a.k, .int .i64 a.fr, .int .i64 a.tt, .int .i64 a.ep, .int .i64 a.sq, .int .i64 a.ac, .slice A n c] := (Whole.new_ w _ [.int .i64 a.k, .int .i64 a.fr, .int .i64 a.tt, .int .i64 a.ep, .int .i64 a.sq, .int .i64 a.ac, .slice A n c]).alloc _
  have hP : Whole ((w.alloc (.cells #[.int .i64 a.k, .int .i64 a.fr, .int .i64 a.tt, .int .i64 a.ep, .int .i64 a.sq, .int .i64 a.ac, .slice A n c] 34)).alloc (.cells #[.int .i64 b.k, .int .i64 b.fr, .int .i64 b.tt, .int .i64 b.ep, .int .i64 b.sq, .int .i64 b.ac, .slice A' n' c'] 34)) (w.heap.size + 1) 34 [.int .i64 b.k, .int .i64 b.fr, .int .i64 b.tt, .int .i64 b.ep, .int .i64 b.sq, .int .i64 b.ac, .slice A' n' c'] := Whole.new2 (cs := [.int .i64 b.k, .int .i64 b.fr, .int .i64 b.tt, .int .i64 b.ep, .int .i64 b.sq, .int .i64 b.ac, .slice A' n' c']) (by simp)
  have hc1 := conv_txt (h.bl HB.out)
  have hc2 := conv_txt (h'.bl HB.out)
  clear h h'
  unfold frCells
  obtain ⟨W1, gW1⟩ : ∃ x, (w.alloc (.cells #[.int .i64 a.k, .int .i64 a.fr, .int .i64 a.tt, .int .i64 a.ep, .int .i64 a.sq, .int .i64 a.ac, .slice A n c] 34)).alloc (.cells #[.int .i64 b.k, .int .i64 b.fr, .int .i64 b.tt, .int .i64 b.ep, .int .i64 b.sq, .int .i64 b.ac, .slice A' n' c'] 34) = x := ⟨_, rfl⟩
  rw [gW1] at HB hO hP hc1 hc2
  have x0 := hO.cell (i := 0) rfl
  have x1 := hO.cell (i := 1) rfl
  have x2 := hO.cell (i := 2) rfl
  have x3 := hO.cell (i := 3) rfl
  have x4 := hO.cell (i := 4) rfl
  have x5 := hO.cell (i := 5) rfl
  have x6 := hO.cell (i := 6) rfl
  have y0 := hP.cell (i := 0) rfl
  have y1 := hP.cell (i := 1) rfl
  have y2 := hP.cell (i := 2) rfl
  have y3 := hP.cell (i := 3) rfl
  have y4 := hP.cell (i := 4) rfl
  have y5 := hP.cell (i := 5) rfl
  have y6 := hP.cell (i := 6) rfl
  have HO := Lib.hid hO
  have HP := Lib.hid hP
  clear hO hP
  go_enter Try.func23, Try.ntmps23
  go_upto_region 1 with fail
  clear gW1
  go_wp2
  go_ret
  exact ⟨rfl, HB.out⟩
set_option maxRecDepth 100000 in
set_option maxHeartbeats 1000000 in
theorem same_fr (a b : FrT) (A A' : Option Addr) (n c n' c' : Nat) (P Q : List Nat) (w : World) (h : RdS w w.heap.size 1 A n c (rowsV f8 P)) (h' : RdS w w.heap.size 1 A' n' c' (rowsV f8 Q)) (q0 : (a.k == b.k) = true) (q1 : (a.fr == b.fr) = false) :
    Calls Try.prog 23 #[.agg (frCells a A n c).toArray, .agg (frCells b A' n' c').toArray] w fun e w' => e = .returned (.bool (false)) ∧ Below w.heap.size w w' := by
  have HB : RowKit.Hid (Below w.heap.size w ((w.alloc (.cells #[.int .i64 a.k, .int .i64 a.fr, .int .i64 a.tt, .int .i64 a.ep, .int .i64 a.sq, .int .i64 a.ac, .slice A n c] 34)).alloc (.cells #[.int .i64 b.k, .int .i64 b.fr, .int .i64 b.tt, .int .i64 b.ep, .int .i64 b.sq, .int .i64 b.ac, .slice A' n' c'] 34))) := Lib.hid (below2 _ _ _)
  have hO : Whole ((w.alloc (.cells #[.int .i64 a.k, .int .i64 a.fr, .int .i64 a.tt, .int .i64 a.ep, .int .i64 a.sq, .int .i64 a.ac, .slice A n c] 34)).alloc (.cells #[.int .i64 b.k, .int .i64 b.fr, .int .i64 b.tt, .int .i64 b.ep, .int .i64 b.sq, .int .i64 b.ac, .slice A' n' c'] 34)) w.heap.size 34 [.int .i64 a.k, .int .i64 a.fr, .int .i64 a.tt, .int .i64 a.ep, .int .i64 a.sq, .int .i64 a.ac, .slice A n c] := (Whole.new_ w _ [.int .i64 a.k, .int .i64 a.fr, .int .i64 a.tt, .int .i64 a.ep, .int .i64 a.sq, .int .i64 a.ac, .slice A n c]).alloc _
  have hP : Whole ((w.alloc (.cells #[.int .i64 a.k, .int .i64 a.fr, .int .i64 a.tt, .int .i64 a.ep, .int .i64 a.sq, .int .i64 a.ac, .slice A n c] 34)).alloc (.cells #[.int .i64 b.k, .int .i64 b.fr, .int .i64 b.tt, .int .i64 b.ep, .int .i64 b.sq, .int .i64 b.ac, .slice A' n' c'] 34)) (w.heap.size + 1) 34 [.int .i64 b.k, .int .i64 b.fr, .int .i64 b.tt, .int .i64 b.ep, .int .i64 b.sq, .int .i64 b.ac, .slice A' n' c'] := Whole.new2 (cs := [.int .i64 b.k, .int .i64 b.fr, .int .i64 b.tt, .int .i64 b.ep, .int .i64 b.sq, .int .i64 b.ac, .slice A' n' c']) (by simp)
  have hc1 := conv_txt (h.bl HB.out)
  have hc2 := conv_txt (h'.bl HB.out)
  clear h h'
  unfold frCells
  obtain ⟨W1, gW1⟩ : ∃ x, (w.alloc (.cells #[.int .i64 a.k, .int .i64 a.fr, .int .i64 a.tt, .int .i64 a.ep, .int .i64 a.sq, .int .i64 a.ac, .slice A n c] 34)).alloc (.cells #[.int .i64 b.k, .int .i64 b.fr, .int .i64 b.tt, .int .i64 b.ep, .int .i64 b.sq, .int .i64 b.ac, .slice A' n' c'] 34) = x := ⟨_, rfl⟩
  rw [gW1] at HB hO hP hc1 hc2
  have x0 := hO.cell (i := 0) rfl
  have x1 := hO.cell (i := 1) rfl
  have x2 := hO.cell (i := 2) rfl
  have x3 := hO.cell (i := 3) rfl
  have x4 := hO.cell (i := 4) rfl
  have x5 := hO.cell (i := 5) rfl
  have x6 := hO.cell (i := 6) rfl
  have y0 := hP.cell (i := 0) rfl
  have y1 := hP.cell (i := 1) rfl
  have y2 := hP.cell (i := 2) rfl
  have y3 := hP.cell (i := 3) rfl
  have y4 := hP.cell (i := 4) rfl
  have y5 := hP.cell (i := 5) rfl
  have y6 := hP.cell (i := 6) rfl
  have HO := Lib.hid hO
  have HP := Lib.hid hP
  clear hO hP
  go_enter Try.func23, Try.ntmps23
  go_upto_region 1 with fail
  clear gW1
  go_wp2
  go_ret
  exact ⟨rfl, HB.out⟩
set_option maxRecDepth 100000 in
set_option maxHeartbeats 1000000 in
theorem same_tt (a b : FrT) (A A' : Option Addr) (n c n' c' : Nat) (P Q : List Nat) (w : World) (h : RdS w w.heap.size 1 A n c (rowsV f8 P)) (h' : RdS w w.heap.size 1 A' n' c' (rowsV f8 Q)) (q0 : (a.k == b.k) = true) (q1 : (a.fr == b.fr) = true) (q2 : (a.tt == b.tt) = false) :
    Calls Try.prog 23 #[.agg (frCells a A n c).toArray, .agg (frCells b A' n' c').toArray] w fun e w' => e = .returned (.bool (false)) ∧ Below w.heap.size w w' := by
  have HB : RowKit.Hid (Below w.heap.size w ((w.alloc (.cells #[.int .i64 a.k, .int .i64 a.fr, .int .i64 a.tt, .int .i64 a.ep, .int .i64 a.sq, .int .i64 a.ac, .slice A n c] 34)).alloc (.cells #[.int .i64 b.k, .int .i64 b.fr, .int .i64 b.tt, .int .i64 b.ep, .int .i64 b.sq, .int .i64 b.ac, .slice A' n' c'] 34))) := Lib.hid (below2 _ _ _)
  have hO : Whole ((w.alloc (.cells #[.int .i64 a.k, .int .i64 a.fr, .int .i64 a.tt, .int .i64 a.ep, .int .i64 a.sq, .int .i64 a.ac, .slice A n c] 34)).alloc (.cells #[.int .i64 b.k, .int .i64 b.fr, .int .i64 b.tt, .int .i64 b.ep, .int .i64 b.sq, .int .i64 b.ac, .slice A' n' c'] 34)) w.heap.size 34 [.int .i64 a.k, .int .i64 a.fr, .int .i64 a.tt, .int .i64 a.ep, .int .i64 a.sq, .int .i64 a.ac, .slice A n c] := (Whole.new_ w _ [.int .i64 a.k, .int .i64 a.fr, .int .i64 a.tt, .int .i64 a.ep, .int .i64 a.sq, .int .i64 a.ac, .slice A n c]).alloc _
  have hP : Whole ((w.alloc (.cells #[.int .i64 a.k, .int .i64 a.fr, .int .i64 a.tt, .int .i64 a.ep, .int .i64 a.sq, .int .i64 a.ac, .slice A n c] 34)).alloc (.cells #[.int .i64 b.k, .int .i64 b.fr, .int .i64 b.tt, .int .i64 b.ep, .int .i64 b.sq, .int .i64 b.ac, .slice A' n' c'] 34)) (w.heap.size + 1) 34 [.int .i64 b.k, .int .i64 b.fr, .int .i64 b.tt, .int .i64 b.ep, .int .i64 b.sq, .int .i64 b.ac, .slice A' n' c'] := Whole.new2 (cs := [.int .i64 b.k, .int .i64 b.fr, .int .i64 b.tt, .int .i64 b.ep, .int .i64 b.sq, .int .i64 b.ac, .slice A' n' c']) (by simp)
  have hc1 := conv_txt (h.bl HB.out)
  have hc2 := conv_txt (h'.bl HB.out)
  clear h h'
  unfold frCells
  obtain ⟨W1, gW1⟩ : ∃ x, (w.alloc (.cells #[.int .i64 a.k, .int .i64 a.fr, .int .i64 a.tt, .int .i64 a.ep, .int .i64 a.sq, .int .i64 a.ac, .slice A n c] 34)).alloc (.cells #[.int .i64 b.k, .int .i64 b.fr, .int .i64 b.tt, .int .i64 b.ep, .int .i64 b.sq, .int .i64 b.ac, .slice A' n' c'] 34) = x := ⟨_, rfl⟩
  rw [gW1] at HB hO hP hc1 hc2
  have x0 := hO.cell (i := 0) rfl
  have x1 := hO.cell (i := 1) rfl
  have x2 := hO.cell (i := 2) rfl
  have x3 := hO.cell (i := 3) rfl
  have x4 := hO.cell (i := 4) rfl
  have x5 := hO.cell (i := 5) rfl
  have x6 := hO.cell (i := 6) rfl
  have y0 := hP.cell (i := 0) rfl
  have y1 := hP.cell (i := 1) rfl
  have y2 := hP.cell (i := 2) rfl
  have y3 := hP.cell (i := 3) rfl
  have y4 := hP.cell (i := 4) rfl
  have y5 := hP.cell (i := 5) rfl
  have y6 := hP.cell (i := 6) rfl
  have HO := Lib.hid hO
  have HP := Lib.hid hP
  clear hO hP
  go_enter Try.func23, Try.ntmps23
  go_upto_region 1 with fail
  clear gW1
  go_wp2
  go_ret
  exact ⟨rfl, HB.out⟩
set_option maxRecDepth 100000 in
set_option maxHeartbeats 1000000 in
theorem same_ep (a b : FrT) (A A' : Option Addr) (n c n' c' : Nat) (P Q : List Nat) (w : World) (h : RdS w w.heap.size 1 A n c (rowsV f8 P)) (h' : RdS w w.heap.size 1 A' n' c' (rowsV f8 Q)) (q0 : (a.k == b.k) = true) (q1 : (a.fr == b.fr) = true) (q2 : (a.tt == b.tt) = true) (q3 : (a.ep == b.ep) = false) :
    Calls Try.prog 23 #[.agg (frCells a A n c).toArray, .agg (frCells b A' n' c').toArray] w fun e w' => e = .returned (.bool (false)) ∧ Below w.heap.size w w' := by
  have HB : RowKit.Hid (Below w.heap.size w ((w.alloc (.cells #[.int .i64 a.k, .int .i64 a.fr, .int .i64 a.tt, .int .i64 a.ep, .int .i64 a.sq, .int .i64 a.ac, .slice A n c] 34)).alloc (.cells #[.int .i64 b.k, .int .i64 b.fr, .int .i64 b.tt, .int .i64 b.ep, .int .i64 b.sq, .int .i64 b.ac, .slice A' n' c'] 34))) := Lib.hid (below2 _ _ _)
  have hO : Whole ((w.alloc (.cells #[.int .i64 a.k, .int .i64 a.fr, .int .i64 a.tt, .int .i64 a.ep, .int .i64 a.sq, .int .i64 a.ac, .slice A n c] 34)).alloc (.cells #[.int .i64 b.k, .int .i64 b.fr, .int .i64 b.tt, .int .i64 b.ep, .int .i64 b.sq, .int .i64 b.ac, .slice A' n' c'] 34)) w.heap.size 34 [.int .i64 a.k, .int .i64 a.fr, .int .i64 a.tt, .int .i64 a.ep, .int .i64 a.sq, .int .i64 a.ac, .slice A n c] := (Whole.new_ w _ [.int .i64 a.k, .int .i64 a.fr, .int .i64 a.tt, .int .i64 a.ep, .int .i64 a.sq, .int .i64 a.ac, .slice A n c]).alloc _
  have hP : Whole ((w.alloc (.cells #[.int .i64 a.k, .int .i64 a.fr, .int .i64 a.tt, .int .i64 a.ep, .int .i64 a.sq, .int .i64 a.ac, .slice A n c] 34)).alloc (.cells #[.int .i64 b.k, .int .i64 b.fr, .int .i64 b.tt, .int .i64 b.ep, .int .i64 b.sq, .int .i64 b.ac, .slice A' n' c'] 34)) (w.heap.size + 1) 34 [.int .i64 b.k, .int .i64 b.fr, .int .i64 b.tt, .int .i64 b.ep, .int .i64 b.sq, .int .i64 b.ac, .slice A' n' c'] := Whole.new2 (cs := [.int .i64 b.k, .int .i64 b.fr, .int .i64 b.tt, .int .i64 b.ep, .int .i64 b.sq, .int .i64 b.ac, .slice A' n' c']) (by simp)
  have hc1 := conv_txt (h.bl HB.out)
  have hc2 := conv_txt (h'.bl HB.out)
  clear h h'
  unfold frCells
  obtain ⟨W1, gW1⟩ : ∃ x, (w.alloc (.cells #[.int .i64 a.k, .int .i64 a.fr, .int .i64 a.tt, .int .i64 a.ep, .int .i64 a.sq, .int .i64 a.ac, .slice A n c] 34)).alloc (.cells #[.int .i64 b.k, .int .i64 b.fr, .int .i64 b.tt, .int .i64 b.ep, .int .i64 b.sq, .int .i64 b.ac, .slice A' n' c'] 34) = x := ⟨_, rfl⟩
  rw [gW1] at HB hO hP hc1 hc2
  have x0 := hO.cell (i := 0) rfl
  have x1 := hO.cell (i := 1) rfl
  have x2 := hO.cell (i := 2) rfl
  have x3 := hO.cell (i := 3) rfl
  have x4 := hO.cell (i := 4) rfl
  have x5 := hO.cell (i := 5) rfl
  have x6 := hO.cell (i := 6) rfl
  have y0 := hP.cell (i := 0) rfl
  have y1 := hP.cell (i := 1) rfl
  have y2 := hP.cell (i := 2) rfl
  have y3 := hP.cell (i := 3) rfl
  have y4 := hP.cell (i := 4) rfl
  have y5 := hP.cell (i := 5) rfl
  have y6 := hP.cell (i := 6) rfl
  have HO := Lib.hid hO
  have HP := Lib.hid hP
  clear hO hP
  go_enter Try.func23, Try.ntmps23
  go_upto_region 1 with fail
  clear gW1
  go_wp2
  go_ret
  exact ⟨rfl, HB.out⟩
set_option maxRecDepth 100000 in
set_option maxHeartbeats 1000000 in
theorem same_sq (a b : FrT) (A A' : Option Addr) (n c n' c' : Nat) (P Q : List Nat) (w : World) (h : RdS w w.heap.size 1 A n c (rowsV f8 P)) (h' : RdS w w.heap.size 1 A' n' c' (rowsV f8 Q)) (q0 : (a.k == b.k) = true) (q1 : (a.fr == b.fr) = true) (q2 : (a.tt == b.tt) = true) (q3 : (a.ep == b.ep) = true) (q4 : (a.sq == b.sq) = false) :
    Calls Try.prog 23 #[.agg (frCells a A n c).toArray, .agg (frCells b A' n' c').toArray] w fun e w' => e = .returned (.bool (false)) ∧ Below w.heap.size w w' := by
  have HB : RowKit.Hid (Below w.heap.size w ((w.alloc (.cells #[.int .i64 a.k, .int .i64 a.fr, .int .i64 a.tt, .int .i64 a.ep, .int .i64 a.sq, .int .i64 a.ac, .slice A n c] 34)).alloc (.cells #[.int .i64 b.k, .int .i64 b.fr, .int .i64 b.tt, .int .i64 b.ep, .int .i64 b.sq, .int .i64 b.ac, .slice A' n' c'] 34))) := Lib.hid (below2 _ _ _)
  have hO : Whole ((w.alloc (.cells #[.int .i64 a.k, .int .i64 a.fr, .int .i64 a.tt, .int .i64 a.ep, .int .i64 a.sq, .int .i64 a.ac, .slice A n c] 34)).alloc (.cells #[.int .i64 b.k, .int .i64 b.fr, .int .i64 b.tt, .int .i64 b.ep, .int .i64 b.sq, .int .i64 b.ac, .slice A' n' c'] 34)) w.heap.size 34 [.int .i64 a.k, .int .i64 a.fr, .int .i64 a.tt, .int .i64 a.ep, .int .i64 a.sq, .int .i64 a.ac, .slice A n c] := (Whole.new_ w _ [.int .i64 a.k, .int .i64 a.fr, .int .i64 a.tt, .int .i64 a.ep, .int .i64 a.sq, .int .i64 a.ac, .slice A n c]).alloc _
  have hP : Whole ((w.alloc (.cells #[.int .i64 a.k, .int .i64 a.fr, .int .i64 a.tt, .int .i64 a.ep, .int .i64 a.sq, .int .i64 a.ac, .slice A n c] 34)).alloc (.cells #[.int .i64 b.k, .int .i64 b.fr, .int .i64 b.tt, .int .i64 b.ep, .int .i64 b.sq, .int .i64 b.ac, .slice A' n' c'] 34)) (w.heap.size + 1) 34 [.int .i64 b.k, .int .i64 b.fr, .int .i64 b.tt, .int .i64 b.ep, .int .i64 b.sq, .int .i64 b.ac, .slice A' n' c'] := Whole.new2 (cs := [.int .i64 b.k, .int .i64 b.fr, .int .i64 b.tt, .int .i64 b.ep, .int .i64 b.sq, .int .i64 b.ac, .slice A' n' c']) (by simp)
  have hc1 := conv_txt (h.bl HB.out)
  have hc2 := conv_txt (h'.bl HB.out)
  clear h h'
  unfold frCells
  obtain ⟨W1, gW1⟩ : ∃ x, (w.alloc (.cells #[.int .i64 a.k, .int .i64 a.fr, .int .i64 a.tt, .int .i64 a.ep, .int .i64 a.sq, .int .i64 a.ac, .slice A n c] 34)).alloc (.cells #[.int .i64 b.k, .int .i64 b.fr, .int .i64 b.tt, .int .i64 b.ep, .int .i64 b.sq, .int .i64 b.ac, .slice A' n' c'] 34) = x := ⟨_, rfl⟩
  rw [gW1] at HB hO hP hc1 hc2
  have x0 := hO.cell (i := 0) rfl
  have x1 := hO.cell (i := 1) rfl
  have x2 := hO.cell (i := 2) rfl
  have x3 := hO.cell (i := 3) rfl
  have x4 := hO.cell (i := 4) rfl
  have x5 := hO.cell (i := 5) rfl
  have x6 := hO.cell (i := 6) rfl
  have y0 := hP.cell (i := 0) rfl
  have y1 := hP.cell (i := 1) rfl
  have y2 := hP.cell (i := 2) rfl
  have y3 := hP.cell (i := 3) rfl
  have y4 := hP.cell (i := 4) rfl
  have y5 := hP.cell (i := 5) rfl
  have y6 := hP.cell (i := 6) rfl
  have HO := Lib.hid hO
  have HP := Lib.hid hP
  clear hO hP
  go_enter Try.func23, Try.ntmps23
  go_upto_region 1 with fail
  clear gW1
  go_wp2
  go_ret
  exact ⟨rfl, HB.out⟩
set_option maxRecDepth 100000 in
set_option maxHeartbeats 1000000 in
theorem same_ac (a b : FrT) (A A' : Option Addr) (n c n' c' : Nat) (P Q : List Nat) (w : World) (h : RdS w w.heap.size 1 A n c (rowsV f8 P)) (h' : RdS w w.heap.size 1 A' n' c' (rowsV f8 Q)) (q0 : (a.k == b.k) = true) (q1 : (a.fr == b.fr) = true) (q2 : (a.tt == b.tt) = true) (q3 : (a.ep == b.ep) = true) (q4 : (a.sq == b.sq) = true) (q5 : (a.ac == b.ac) = false) :
    Calls Try.prog 23 #[.agg (frCells a A n c).toArray, .agg (frCells b A' n' c').toArray] w fun e w' => e = .returned (.bool (false)) ∧ Below w.heap.size w w' := by
  have HB : RowKit.Hid (Below w.heap.size w ((w.alloc (.cells #[.int .i64 a.k, .int .i64 a.fr, .int .i64 a.tt, .int .i64 a.ep, .int .i64 a.sq, .int .i64 a.ac, .slice A n c] 34)).alloc (.cells #[.int .i64 b.k, .int .i64 b.fr, .int .i64 b.tt, .int .i64 b.ep, .int .i64 b.sq, .int .i64 b.ac, .slice A' n' c'] 34))) := Lib.hid (below2 _ _ _)
  have hO : Whole ((w.alloc (.cells #[.int .i64 a.k, .int .i64 a.fr, .int .i64 a.tt, .int .i64 a.ep, .int .i64 a.sq, .int .i64 a.ac, .slice A n c] 34)).alloc (.cells #[.int .i64 b.k, .int .i64 b.fr, .int .i64 b.tt, .int .i64 b.ep, .int .i64 b.sq, .int .i64 b.ac, .slice A' n' c'] 34)) w.heap.size 34 [.int .i64 a.k, .int .i64 a.fr, .int .i64 a.tt, .int .i64 a.ep, .int .i64 a.sq, .int .i64 a.ac, .slice A n c] := (Whole.new_ w _ [.int .i64 a.k, .int .i64 a.fr, .int .i64 a.tt, .int .i64 a.ep, .int .i64 a.sq, .int .i64 a.ac, .slice A n c]).alloc _
  have hP : Whole ((w.alloc (.cells #[.int .i64 a.k, .int .i64 a.fr, .int .i64 a.tt, .int .i64 a.ep, .int .i64 a.sq, .int .i64 a.ac, .slice A n c] 34)).alloc (.cells #[.int .i64 b.k, .int .i64 b.fr, .int .i64 b.tt, .int .i64 b.ep, .int .i64 b.sq, .int .i64 b.ac, .slice A' n' c'] 34)) (w.heap.size + 1) 34 [.int .i64 b.k, .int .i64 b.fr, .int .i64 b.tt, .int .i64 b.ep, .int .i64 b.sq, .int .i64 b.ac, .slice A' n' c'] := Whole.new2 (cs := [.int .i64 b.k, .int .i64 b.fr, .int .i64 b.tt, .int .i64 b.ep, .int .i64 b.sq, .int .i64 b.ac, .slice A' n' c']) (by simp)
  have hc1 := conv_txt (h.bl HB.out)
  have hc2 := conv_txt (h'.bl HB.out)
  clear h h'
  unfold frCells
  obtain ⟨W1, gW1⟩ : ∃ x, (w.alloc (.cells #[.int .i64 a.k, .int .i64 a.fr, .int .i64 a.tt, .int .i64 a.ep, .int .i64 a.sq, .int .i64 a.ac, .slice A n c] 34)).alloc (.cells #[.int .i64 b.k, .int .i64 b.fr, .int .i64 b.tt, .int .i64 b.ep, .int .i64 b.sq, .int .i64 b.ac, .slice A' n' c'] 34) = x := ⟨_, rfl⟩
  rw [gW1] at HB hO hP hc1 hc2
  have x0 := hO.cell (i := 0) rfl
  have x1 := hO.cell (i := 1) rfl
  have x2 := hO.cell (i := 2) rfl
  have x3 := hO.cell (i := 3) rfl
  have x4 := hO.cell (i := 4) rfl
  have x5 := hO.cell (i := 5) rfl
  have x6 := hO.cell (i := 6) rfl
  have y0 := hP.cell (i := 0) rfl
  have y1 := hP.cell (i := 1) rfl
  have y2 := hP.cell (i := 2) rfl
  have y3 := hP.cell (i := 3) rfl
  have y4 := hP.cell (i := 4) rfl
  have y5 := hP.cell (i := 5) rfl
  have y6 := hP.cell (i := 6) rfl
  have HO := Lib.hid hO
  have HP := Lib.hid hP
  clear hO hP
  go_enter Try.func23, Try.ntmps23
  go_upto_region 1 with fail
  clear gW1
  go_wp2
  go_ret
  exact ⟨rfl, HB.out⟩
set_option maxRecDepth 100000 in
set_option maxHeartbeats 1000000 in
theorem same_yes (a b : FrT) (A A' : Option Addr) (n c n' c' : Nat) (P Q : List Nat) (w : World) (h : RdS w w.heap.size 1 A n c (rowsV f8 P)) (h' : RdS w w.heap.size 1 A' n' c' (rowsV f8 Q)) (q0 : (a.k == b.k) = true) (q1 : (a.fr == b.fr) = true) (q2 : (a.tt == b.tt) = true) (q3 : (a.ep == b.ep) = true) (q4 : (a.sq == b.sq) = true) (q5 : (a.ac == b.ac) = true) :
    Calls Try.prog 23 #[.agg (frCells a A n c).toArray, .agg (frCells b A' n' c').toArray] w fun e w' => e = .returned (.bool ((txt P).toList == (txt Q).toList)) ∧ Below w.heap.size w w' := by
  have HB : RowKit.Hid (Below w.heap.size w ((w.alloc (.cells #[.int .i64 a.k, .int .i64 a.fr, .int .i64 a.tt, .int .i64 a.ep, .int .i64 a.sq, .int .i64 a.ac, .slice A n c] 34)).alloc (.cells #[.int .i64 b.k, .int .i64 b.fr, .int .i64 b.tt, .int .i64 b.ep, .int .i64 b.sq, .int .i64 b.ac, .slice A' n' c'] 34))) := Lib.hid (below2 _ _ _)
  have hO : Whole ((w.alloc (.cells #[.int .i64 a.k, .int .i64 a.fr, .int .i64 a.tt, .int .i64 a.ep, .int .i64 a.sq, .int .i64 a.ac, .slice A n c] 34)).alloc (.cells #[.int .i64 b.k, .int .i64 b.fr, .int .i64 b.tt, .int .i64 b.ep, .int .i64 b.sq, .int .i64 b.ac, .slice A' n' c'] 34)) w.heap.size 34 [.int .i64 a.k, .int .i64 a.fr, .int .i64 a.tt, .int .i64 a.ep, .int .i64 a.sq, .int .i64 a.ac, .slice A n c] := (Whole.new_ w _ [.int .i64 a.k, .int .i64 a.fr, .int .i64 a.tt, .int .i64 a.ep, .int .i64 a.sq, .int .i64 a.ac, .slice A n c]).alloc _
  have hP : Whole ((w.alloc (.cells #[.int .i64 a.k, .int .i64 a.fr, .int .i64 a.tt, .int .i64 a.ep, .int .i64 a.sq, .int .i64 a.ac, .slice A n c] 34)).alloc (.cells #[.int .i64 b.k, .int .i64 b.fr, .int .i64 b.tt, .int .i64 b.ep, .int .i64 b.sq, .int .i64 b.ac, .slice A' n' c'] 34)) (w.heap.size + 1) 34 [.int .i64 b.k, .int .i64 b.fr, .int .i64 b.tt, .int .i64 b.ep, .int .i64 b.sq, .int .i64 b.ac, .slice A' n' c'] := Whole.new2 (cs := [.int .i64 b.k, .int .i64 b.fr, .int .i64 b.tt, .int .i64 b.ep, .int .i64 b.sq, .int .i64 b.ac, .slice A' n' c']) (by simp)
  have hc1 := conv_txt (h.bl HB.out)
  have hc2 := conv_txt (h'.bl HB.out)
  clear h h'
  unfold frCells
  obtain ⟨W1, gW1⟩ : ∃ x, (w.alloc (.cells #[.int .i64 a.k, .int .i64 a.fr, .int .i64 a.tt, .int .i64 a.ep, .int .i64 a.sq, .int .i64 a.ac, .slice A n c] 34)).alloc (.cells #[.int .i64 b.k, .int .i64 b.fr, .int .i64 b.tt, .int .i64 b.ep, .int .i64 b.sq, .int .i64 b.ac, .slice A' n' c'] 34) = x := ⟨_, rfl⟩
  rw [gW1] at HB hO hP hc1 hc2
  have x0 := hO.cell (i := 0) rfl
  have x1 := hO.cell (i := 1) rfl
  have x2 := hO.cell (i := 2) rfl
  have x3 := hO.cell (i := 3) rfl
  have x4 := hO.cell (i := 4) rfl
  have x5 := hO.cell (i := 5) rfl
  have x6 := hO.cell (i := 6) rfl
  have y0 := hP.cell (i := 0) rfl
  have y1 := hP.cell (i := 1) rfl
  have y2 := hP.cell (i := 2) rfl
  have y3 := hP.cell (i := 3) rfl
  have y4 := hP.cell (i := 4) rfl
  have y5 := hP.cell (i := 5) rfl
  have y6 := hP.cell (i := 6) rfl
  have HO := Lib.hid hO
  have HP := Lib.hid hP
  clear hO hP
  go_enter Try.func23, Try.ntmps23
  go_upto_region 1 with fail
  clear gW1
  go_wp2
  go_ret
  exact ⟨rfl, HB.out⟩

/-- Two frames that are the same. -/
def sameF (a b : FrT) (P Q : List Nat) : Bool := decide (a = b) && ((txt P).toList == (txt Q).toList)
theorem same_any (a b : FrT) (A A' : Option Addr) (n c n' c' : Nat) (P Q : List Nat) (w : World) (h : RdS w w.heap.size 1 A n c (rowsV f8 P)) (h' : RdS w w.heap.size 1 A' n' c' (rowsV f8 Q)) :
    Calls Try.prog 23 #[.agg (frCells a A n c).toArray, .agg (frCells b A' n' c').toArray] w fun e w' => e = .returned (.bool (sameF a b P Q)) ∧ Below w.heap.size w w' := by
  have no : ∀ {x : Bool}, x = false → a ≠ b → sameF a b P Q = x := fun hx h => by unfold sameF; rw [decide_eq_false h, hx]; rfl
  cases q0 : (a.k == b.k)
  case false => rw [no rfl (fun e => by rw [e] at q0; simp at q0)]; exact same_k a b A A' n c n' c' P Q w h h' q0
  cases q1 : (a.fr == b.fr)
  case false => rw [no rfl (fun e => by rw [e] at q1; simp at q1)]; exact same_fr a b A A' n c n' c' P Q w h h' q0 q1
  cases q2 : (a.tt == b.tt)
  case false => rw [no rfl (fun e => by rw [e] at q2; simp at q2)]; exact same_tt a b A A' n c n' c' P Q w h h' q0 q1 q2
  cases q3 : (a.ep == b.ep)
  case false => rw [no rfl (fun e => by rw [e] at q3; simp at q3)]; exact same_ep a b A A' n c n' c' P Q w h h' q0 q1 q2 q3
  cases q4 : (a.sq == b.sq)
  case false => rw [no rfl (fun e => by rw [e] at q4; simp at q4)]; exact same_sq a b A A' n c n' c' P Q w h h' q0 q1 q2 q3 q4
  cases q5 : (a.ac == b.ac)
  case false => rw [no rfl (fun e => by rw [e] at q5; simp at q5)]; exact same_ac a b A A' n c n' c' P Q w h h' q0 q1 q2 q3 q4 q5
  rw [show sameF a b P Q = ((txt P).toList == (txt Q).toList) by unfold sameF; rw [decide_eq_true (same_eq (eq_of_beq q0) (eq_of_beq q1) (eq_of_beq q2) (eq_of_beq q3) (eq_of_beq q4) (eq_of_beq q5))]; rfl]
  exact same_yes a b A A' n c n' c' P Q w h h' q0 q1 q2 q3 q4 q5
theorem sameF_self (a : FrT) (P : List Nat) : sameF a a P P = true := by simp [sameF]
end Go.Proofs.Ytibbibpfnpjjdaa

/- A text tells its bytes; a frame's bytes tell the frame. -/
namespace Go.Proofs.Ytibbibpfnpjjdaa
open Go.RowKit
set_option linter.unusedSimpArgs false
set_option linter.unusedVariables false

theorem be4_inj {x y : Int} (hx : 0 ≤ x ∧ x ≤ 1073741824) (hy : 0 ≤ y ∧ y ≤ 1073741824) (h : be4 x = be4 y) : x = y := by
  simp only [be4, List.cons.injEq, and_true] at h
  omega
theorem headF_inj {f g : FrT} {n m : Nat} (hf : mayF f n = 0) (hg : mayF g m = 0) (h : headF f = headF g) : f = g := by
  obtain ⟨⟨a1, a2⟩, ⟨b1, b2⟩, ⟨c1, c2⟩, d, e, i, _⟩ := may_bounds hf
  obtain ⟨⟨a1', a2'⟩, ⟨b1', b2'⟩, ⟨c1', c2'⟩, d', e', i', _⟩ := may_bounds hg
  unfold headF at h
  have l4 : ∀ x : Int, (be4 x).length = 4 := fun _ => rfl
  obtain ⟨h, h6⟩ := List.append_inj h (by simp [l4])
  obtain ⟨h, h5⟩ := List.append_inj h (by simp [l4])
  obtain ⟨h, h4⟩ := List.append_inj h (by simp)
  simp only [List.cons.injEq, and_true] at h
  exact same_eq (by omega) (by omega) (by omega) (be4_inj d d' h4) (be4_inj e e' h5) (be4_inj i i' h6)
theorem putF_inj {f g : FrT} {L M : List Nat} {n m : Nat} (hf : mayF f n = 0) (hg : mayF g m = 0) (h : putF f L = putF g M) : f = g ∧ L = M := by
  unfold putF at h
  have e := congrArg List.length h
  simp only [List.length_append, headF_len] at e
  have l4 : ∀ s : Nat, (le4 s).length = 4 := fun _ => rfl
  rw [l4, l4] at e
  obtain ⟨h, -⟩ := List.append_inj h (by simp [headF_len]; omega)
  obtain ⟨h1, h2⟩ := List.append_inj h (by simp [headF_len])
  exact ⟨headF_inj hf hg h1, h2⟩
end Go.Proofs.Ytibbibpfnpjjdaa

/- The document's number at a place. -/
namespace Go.Proofs.Ytibbibpfnpjjdaa
open Go.RowKit
set_option linter.unusedSimpArgs false
set_option linter.unusedVariables false

def num4 (a b c d : Nat) : Int := 16777216 * (a : Int) + 65536 * (b : Int) + 256 * (c : Int) + (d : Int)
set_option maxRecDepth 100000 in
set_option maxHeartbeats 1000000 in
theorem at_3 (bb off n cc : Nat) (L : List Nat) (a b c d : Nat) (w : World) (h : RdS w w.heap.size 1 (some ⟨bb, off, none⟩) n cc (rowsV f8 L)) (hn : 19 ≤ n)
    (e0 : (rowsV f8 L)[3]? = some (.int .u8 a)) (e1 : (rowsV f8 L)[4]? = some (.int .u8 b)) (e2 : (rowsV f8 L)[5]? = some (.int .u8 c)) (e3 : (rowsV f8 L)[6]? = some (.int .u8 d)) (ha : a < 256) (hb : b < 256) (hc : c < 256) (hd : d < 256) :
    Calls Try.prog 63 #[.slice (some ⟨bb, off, none⟩) n cc, .int .i64 3] w fun e w' => e = .returned (.int .i64 (num4 a b c d)) ∧ Below w.heap.size w w' := by
  have l0 : ∀ w', Kept Nil_ w.drew w' → w'.cell? ⟨bb, off + 3, none⟩ = some (.int .u8 a) := fun w' hk => hk.nil_cell (by have := h.cell _ rfl 3 _ e0; simpa [Addr.add] using this)
  have l1 : ∀ w', Kept Nil_ w.drew w' → w'.cell? ⟨bb, off + 4, none⟩ = some (.int .u8 b) := fun w' hk => hk.nil_cell (by have := h.cell _ rfl 4 _ e1; simpa [Addr.add] using this)
  have l2 : ∀ w', Kept Nil_ w.drew w' → w'.cell? ⟨bb, off + 5, none⟩ = some (.int .u8 c) := fun w' hk => hk.nil_cell (by have := h.cell _ rfl 5 _ e2; simpa [Addr.add] using this)
  have l3 : ∀ w', Kept Nil_ w.drew w' → w'.cell? ⟨bb, off + 6, none⟩ = some (.int .u8 d) := fun w' hk => hk.nil_cell (by have := h.cell _ rfl 6 _ e3; simpa [Addr.add] using this)
  have n0 : decide ((3 : Int) < (n : Int)) = true := decide_eq_true (by omega)
  have nn0 : (3 : Int) < (n : Int) := by omega
  have n1 : decide ((4 : Int) < (n : Int)) = true := decide_eq_true (by omega)
  have nn1 : (4 : Int) < (n : Int) := by omega
  have n2 : decide ((5 : Int) < (n : Int)) = true := decide_eq_true (by omega)
  have nn2 : (5 : Int) < (n : Int) := by omega
  have n3 : decide ((6 : Int) < (n : Int)) = true := decide_eq_true (by omega)
  have nn3 : (6 : Int) < (n : Int) := by omega
  have z1 : IntKind.i64.wrap 4 = 4 := by decide
  have z2 : IntKind.i64.wrap 5 = 5 := by decide
  have z3 : IntKind.i64.wrap 6 = 6 := by decide
  have wm0 : IntKind.i64.wrap (16777216 * (a : Int)) = 16777216 * (a : Int) := IntWalk.i64_in _ (by omega)
  have wm1 : IntKind.i64.wrap (65536 * (b : Int)) = 65536 * (b : Int) := IntWalk.i64_in _ (by omega)
  have wm2 : IntKind.i64.wrap (256 * (c : Int)) = 256 * (c : Int) := IntWalk.i64_in _ (by omega)
  have wm3 : IntKind.i64.wrap ((a : Int)) = (a : Int) := IntWalk.i64_in _ (by omega)
  have wm4 : IntKind.i64.wrap ((b : Int)) = (b : Int) := IntWalk.i64_in _ (by omega)
  have wm5 : IntKind.i64.wrap ((c : Int)) = (c : Int) := IntWalk.i64_in _ (by omega)
  have wm6 : IntKind.i64.wrap ((d : Int)) = (d : Int) := IntWalk.i64_in _ (by omega)
  have ws1 : IntKind.i64.wrap (16777216 * (a : Int) + 65536 * (b : Int)) = 16777216 * (a : Int) + 65536 * (b : Int) := IntWalk.i64_in _ (by omega)
  have ws2 : IntKind.i64.wrap (16777216 * (a : Int) + 65536 * (b : Int) + 256 * (c : Int)) = 16777216 * (a : Int) + 65536 * (b : Int) + 256 * (c : Int) := IntWalk.i64_in _ (by omega)
  have ws3 : IntKind.i64.wrap (16777216 * (a : Int) + 65536 * (b : Int) + 256 * (c : Int) + (d : Int)) = 16777216 * (a : Int) + 65536 * (b : Int) + 256 * (c : Int) + (d : Int) := IntWalk.i64_in _ (by omega)
  clear e0 e1 e2 e3 h
  go_enter Try.func63, Try.ntmps63
  go_upto_region 1 with fail
  refine wp_region_reg (Nil_) (by kernel_rfl) ?_
  apply wpR_next 0 (some 5)
  · simp only [List.getElem?_toArray, List.getElem?_cons_succ, List.getElem?_cons_zero]; exact rfl
  · rfl
  · kernel_rfl
  · kernel_rfl
  · kernel_rfl
  · exact fun _ _ _ _ h => h
  apply Exists.intro
  apply And.intro
  · apply yr_run; rfl; intro w' hw'; go_simp; (try with_reducible rfl)
  simp only [Act.put, List.setIfInBounds_toArray, List.set_cons_zero, List.set_cons_succ]
  apply wpR_next 1 (some 6)
  · simp only [List.getElem?_toArray, List.getElem?_cons_succ, List.getElem?_cons_zero]; exact rfl
  · rfl
  · kernel_rfl
  · kernel_rfl
  · kernel_rfl
  · exact fun _ _ _ _ h => h
  apply Exists.intro
  apply And.intro
  · apply yr_run; rfl; intro w' hw'; go_simp; (try with_reducible rfl)
  simp only [Act.put, List.setIfInBounds_toArray, List.set_cons_zero, List.set_cons_succ]
  apply wpR_next 2 (some 7)
  · simp only [List.getElem?_toArray, List.getElem?_cons_succ, List.getElem?_cons_zero]; exact rfl
  · rfl
  · kernel_rfl
  · kernel_rfl
  · kernel_rfl
  · exact fun _ _ _ _ h => h
  apply Exists.intro
  apply And.intro
  · apply yr_run; rfl; intro w' hw'; go_simp; (try with_reducible rfl)
  simp only [Act.put, List.setIfInBounds_toArray, List.set_cons_zero, List.set_cons_succ]
  apply wpR_next 3 (some 8)
  · simp only [List.getElem?_toArray, List.getElem?_cons_succ, List.getElem?_cons_zero]; exact rfl
  · rfl
  · kernel_rfl
  · kernel_rfl
  · kernel_rfl
  · exact fun _ _ _ _ h => h
  apply Exists.intro
  apply And.intro
  · apply yr_run; rfl; intro w' hw'; go_simp; (try with_reducible rfl)
  simp only [Act.put, List.setIfInBounds_toArray, List.set_cons_zero, List.set_cons_succ]
  apply wpR_next 4 (some 9)
  · simp only [List.getElem?_toArray, List.getElem?_cons_succ, List.getElem?_cons_zero]; exact rfl
  · rfl
  · kernel_rfl
  · kernel_rfl
  · kernel_rfl
  · exact fun _ _ _ _ h => h
  apply Exists.intro
  apply And.intro
  · apply yr_run; rfl; intro w' hw'; go_simp; (try with_reducible rfl)
  simp only [Act.put, List.setIfInBounds_toArray, List.set_cons_zero, List.set_cons_succ]
  apply wpR_next 5 (some 10)
  · simp only [List.getElem?_toArray, List.getElem?_cons_succ, List.getElem?_cons_zero]; exact rfl
  · rfl
  · kernel_rfl
  · kernel_rfl
  · kernel_rfl
  · exact fun _ _ _ _ h => h
  apply Exists.intro
  apply And.intro
  · apply yr_run; rfl; intro w' hw'; go_simp; (try with_reducible rfl)
  simp only [Act.put, List.setIfInBounds_toArray, List.set_cons_zero, List.set_cons_succ]
  apply wpR_next 6 (some 11)
  · simp only [List.getElem?_toArray, List.getElem?_cons_succ, List.getElem?_cons_zero]; exact rfl
  · rfl
  · kernel_rfl
  · kernel_rfl
  · kernel_rfl
  · exact fun _ _ _ _ h => h
  apply Exists.intro
  apply And.intro
  · apply yr_run; rfl; intro w' hw'; go_simp; (try with_reducible rfl)
  simp only [Act.put, List.setIfInBounds_toArray, List.set_cons_zero, List.set_cons_succ]
  apply wpR_next 7 (some 12)
  · simp only [List.getElem?_toArray, List.getElem?_cons_succ, List.getElem?_cons_zero]; exact rfl
  · rfl
  · kernel_rfl
  · kernel_rfl
  · kernel_rfl
  · exact fun _ _ _ _ h => h
  apply Exists.intro
  apply And.intro
  · apply yr_run; rfl; intro w' hw'; go_simp; (try with_reducible rfl)
  simp only [Act.put, List.setIfInBounds_toArray, List.set_cons_zero, List.set_cons_succ]
  apply wpR_next 8 (some 13)
  · simp only [List.getElem?_toArray, List.getElem?_cons_succ, List.getElem?_cons_zero]; exact rfl
  · rfl
  · kernel_rfl
  · kernel_rfl
  · kernel_rfl
  · exact fun _ _ _ _ h => h
  apply Exists.intro
  apply And.intro
  · apply yr_run; rfl; intro w' hw'; go_simp; (try with_reducible rfl)
  simp only [Act.put, List.setIfInBounds_toArray, List.set_cons_zero, List.set_cons_succ]
  apply wpR_next 9 (some 14)
  · simp only [List.getElem?_toArray, List.getElem?_cons_succ, List.getElem?_cons_zero]; exact rfl
  · rfl
  · kernel_rfl
  · kernel_rfl
  · kernel_rfl
  · exact fun _ _ _ _ h => h
  apply Exists.intro
  apply And.intro
  · apply yr_run; rfl; intro w' hw'; go_simp; (try with_reducible rfl)
  simp only [Act.put, List.setIfInBounds_toArray, List.set_cons_zero, List.set_cons_succ]
  apply wpR_next 10 (some 15)
  · simp only [List.getElem?_toArray, List.getElem?_cons_succ, List.getElem?_cons_zero]; exact rfl
  · rfl
  · kernel_rfl
  · kernel_rfl
  · kernel_rfl
  · exact fun _ _ _ _ h => h
  apply Exists.intro
  apply And.intro
  · apply yr_run; rfl; intro w' hw'; go_simp; (try with_reducible rfl)
  simp only [Act.put, List.setIfInBounds_toArray, List.set_cons_zero, List.set_cons_succ]
  apply wpR_next 11 (some 16)
  · simp only [List.getElem?_toArray, List.getElem?_cons_succ, List.getElem?_cons_zero]; exact rfl
  · rfl
  · kernel_rfl
  · kernel_rfl
  · kernel_rfl
  · exact fun _ _ _ _ h => h
  apply Exists.intro
  apply And.intro
  · apply yr_run; rfl; intro w' hw'; go_simp; (try with_reducible rfl)
  simp only [Act.put, List.setIfInBounds_toArray, List.set_cons_zero, List.set_cons_succ]
  apply wpR_next 12 (some 17)
  · simp only [List.getElem?_toArray, List.getElem?_cons_succ, List.getElem?_cons_zero]; exact rfl
  · rfl
  · kernel_rfl
  · kernel_rfl
  · kernel_rfl
  · exact fun _ _ _ _ h => h
  apply Exists.intro
  apply And.intro
  · apply yr_run; rfl; intro w' hw'; go_simp; (try with_reducible rfl)
  simp only [Act.put, List.setIfInBounds_toArray, List.set_cons_zero, List.set_cons_succ]
  apply wpR_next 13 (some 18)
  · simp only [List.getElem?_toArray, List.getElem?_cons_succ, List.getElem?_cons_zero]; exact rfl
  · rfl
  · kernel_rfl
  · kernel_rfl
  · kernel_rfl
  · exact fun _ _ _ _ h => h
  apply Exists.intro
  apply And.intro
  · apply yr_run; rfl; intro w' hw'; go_simp; (try with_reducible rfl)
  simp only [Act.put, List.setIfInBounds_toArray, List.set_cons_zero, List.set_cons_succ]
  apply wpR_next 14 (some 19)
  · simp only [List.getElem?_toArray, List.getElem?_cons_succ, List.getElem?_cons_zero]; exact rfl
  · rfl
  · kernel_rfl
  · kernel_rfl
  · kernel_rfl
  · exact fun _ _ _ _ h => h
  apply Exists.intro
  apply And.intro
  · apply yr_run; rfl; intro w' hw'; go_simp; (try with_reducible rfl)
  simp only [Act.put, List.setIfInBounds_toArray, List.set_cons_zero, List.set_cons_succ]
  apply wpR_next 15 (some 20)
  · simp only [List.getElem?_toArray, List.getElem?_cons_succ, List.getElem?_cons_zero]; exact rfl
  · rfl
  · kernel_rfl
  · kernel_rfl
  · kernel_rfl
  · exact fun _ _ _ _ h => h
  apply Exists.intro
  apply And.intro
  · apply yr_run; rfl; intro w' hw'; go_simp; (try with_reducible rfl)
  simp only [Act.put, List.setIfInBounds_toArray, List.set_cons_zero, List.set_cons_succ]
  apply wpR_next 16 (some 21)
  · simp only [List.getElem?_toArray, List.getElem?_cons_succ, List.getElem?_cons_zero]; exact rfl
  · rfl
  · kernel_rfl
  · kernel_rfl
  · kernel_rfl
  · exact fun _ _ _ _ h => h
  apply Exists.intro
  apply And.intro
  · apply yr_run; rfl; intro w' hw'; go_simp; (try with_reducible rfl)
  simp only [Act.put, List.setIfInBounds_toArray, List.set_cons_zero, List.set_cons_succ]
  apply wpR_next 17 (some 22)
  · simp only [List.getElem?_toArray, List.getElem?_cons_succ, List.getElem?_cons_zero]; exact rfl
  · rfl
  · kernel_rfl
  · kernel_rfl
  · kernel_rfl
  · exact fun _ _ _ _ h => h
  apply Exists.intro
  apply And.intro
  · apply yr_run; rfl; intro w' hw'; go_simp; (try with_reducible rfl)
  simp only [Act.put, List.setIfInBounds_toArray, List.set_cons_zero, List.set_cons_succ]
  apply wpR_next 18 (some 23)
  · simp only [List.getElem?_toArray, List.getElem?_cons_succ, List.getElem?_cons_zero]; exact rfl
  · rfl
  · kernel_rfl
  · kernel_rfl
  · kernel_rfl
  · exact fun _ _ _ _ h => h
  apply Exists.intro
  apply And.intro
  · apply yr_run; rfl; intro w' hw'; go_simp; (try with_reducible rfl)
  simp only [Act.put, List.setIfInBounds_toArray, List.set_cons_zero, List.set_cons_succ]
  apply wpR_next 19 (some 24)
  · simp only [List.getElem?_toArray, List.getElem?_cons_succ, List.getElem?_cons_zero]; exact rfl
  · rfl
  · kernel_rfl
  · kernel_rfl
  · kernel_rfl
  · exact fun _ _ _ _ h => h
  apply Exists.intro
  apply And.intro
  · apply yr_run; rfl; intro w' hw'; go_simp; (try with_reducible rfl)
  simp only [Act.put, List.setIfInBounds_toArray, List.set_cons_zero, List.set_cons_succ]
  apply wpR_next 20 (some 25)
  · simp only [List.getElem?_toArray, List.getElem?_cons_succ, List.getElem?_cons_zero]; exact rfl
  · rfl
  · kernel_rfl
  · kernel_rfl
  · kernel_rfl
  · exact fun _ _ _ _ h => h
  apply Exists.intro
  apply And.intro
  · apply yr_run; rfl; intro w' hw'; go_simp; (try with_reducible rfl)
  simp only [Act.put, List.setIfInBounds_toArray, List.set_cons_zero, List.set_cons_succ]
  apply wpR_next 21 (some 26)
  · simp only [List.getElem?_toArray, List.getElem?_cons_succ, List.getElem?_cons_zero]; exact rfl
  · rfl
  · kernel_rfl
  · kernel_rfl
  · kernel_rfl
  · exact fun _ _ _ _ h => h
  apply Exists.intro
  apply And.intro
  · apply yr_run; rfl; intro w' hw'; go_simp; (try with_reducible rfl)
  simp only [Act.put, List.setIfInBounds_toArray, List.set_cons_zero, List.set_cons_succ]
  apply wpR_next 22 (some 27)
  · simp only [List.getElem?_toArray, List.getElem?_cons_succ, List.getElem?_cons_zero]; exact rfl
  · rfl
  · kernel_rfl
  · kernel_rfl
  · kernel_rfl
  · exact fun _ _ _ _ h => h
  apply Exists.intro
  apply And.intro
  · apply yr_run; rfl; intro w' hw'; go_simp; (try with_reducible rfl)
  simp only [Act.put, List.setIfInBounds_toArray, List.set_cons_zero, List.set_cons_succ]
  apply wpR_next 23 (some 28)
  · simp only [List.getElem?_toArray, List.getElem?_cons_succ, List.getElem?_cons_zero]; exact rfl
  · rfl
  · kernel_rfl
  · kernel_rfl
  · kernel_rfl
  · exact fun _ _ _ _ h => h
  apply Exists.intro
  apply And.intro
  · apply yr_run; rfl; intro w' hw'; go_simp; (try with_reducible rfl)
  simp only [Act.put, List.setIfInBounds_toArray, List.set_cons_zero, List.set_cons_succ]
  apply wpR_next 24 (some 29)
  · simp only [List.getElem?_toArray, List.getElem?_cons_succ, List.getElem?_cons_zero]; exact rfl
  · rfl
  · kernel_rfl
  · kernel_rfl
  · kernel_rfl
  · exact fun _ _ _ _ h => h
  apply Exists.intro
  apply And.intro
  · apply yr_run; rfl; intro w' hw'; go_simp; (try with_reducible rfl)
  simp only [Act.put, List.setIfInBounds_toArray, List.set_cons_zero, List.set_cons_succ]
  apply wpR_next 25 (some 30)
  · simp only [List.getElem?_toArray, List.getElem?_cons_succ, List.getElem?_cons_zero]; exact rfl
  · rfl
  · kernel_rfl
  · kernel_rfl
  · kernel_rfl
  · exact fun _ _ _ _ h => h
  apply Exists.intro
  apply And.intro
  · apply yr_run; rfl; intro w' hw'; go_simp; (try with_reducible rfl)
  simp only [Act.put, List.setIfInBounds_toArray, List.set_cons_zero, List.set_cons_succ]
  apply wpR_next 26 (some 31)
  · simp only [List.getElem?_toArray, List.getElem?_cons_succ, List.getElem?_cons_zero]; exact rfl
  · rfl
  · kernel_rfl
  · kernel_rfl
  · kernel_rfl
  · exact fun _ _ _ _ h => h
  apply Exists.intro
  apply And.intro
  · apply yr_run; rfl; intro w' hw'; go_simp; (try with_reducible rfl)
  simp only [Act.put, List.setIfInBounds_toArray, List.set_cons_zero, List.set_cons_succ]
  apply wpR_next 27 (some 32)
  · simp only [List.getElem?_toArray, List.getElem?_cons_succ, List.getElem?_cons_zero]; exact rfl
  · rfl
  · kernel_rfl
  · kernel_rfl
  · kernel_rfl
  · exact fun _ _ _ _ h => h
  apply Exists.intro
  apply And.intro
  · apply yr_run; rfl; intro w' hw'; go_simp; (try with_reducible rfl)
  simp only [Act.put, List.setIfInBounds_toArray, List.set_cons_zero, List.set_cons_succ]
  apply wpR_next 28 (some 33)
  · simp only [List.getElem?_toArray, List.getElem?_cons_succ, List.getElem?_cons_zero]; exact rfl
  · rfl
  · kernel_rfl
  · kernel_rfl
  · kernel_rfl
  · exact fun _ _ _ _ h => h
  apply Exists.intro
  apply And.intro
  · apply yr_run; rfl; intro w' hw'; go_simp; (try with_reducible rfl)
  simp only [Act.put, List.setIfInBounds_toArray, List.set_cons_zero, List.set_cons_succ]
  apply wpR_next 29 (some 4)
  · simp only [List.getElem?_toArray, List.getElem?_cons_succ, List.getElem?_cons_zero]; exact rfl
  · rfl
  · kernel_rfl
  · kernel_rfl
  · kernel_rfl
  · exact fun _ _ _ _ h => h
  apply Exists.intro
  apply And.intro
  · apply yr_run; rfl; intro w' hw'; go_simp; (try with_reducible rfl)
  simp only [Act.put, List.setIfInBounds_toArray, List.set_cons_zero, List.set_cons_succ]
  refine wpR_done (by kernel_rfl) ?_ _
  intro W7 hw7
  have HB7 : RowKit.Hid (Below w.heap.size w W7) := Lib.hid (((Below.refl w.heap.size w).drew).trans (hw7.mono (Nat.le_refl _)))
  clear hw7 l0 l1 l2 l3
  go_wp2
  go_ret
  exact ⟨by unfold num4; simp only [Ending.returned.injEq]; rfl, HB7.out⟩
set_option maxRecDepth 100000 in
set_option maxHeartbeats 1000000 in
theorem at_7 (bb off n cc : Nat) (L : List Nat) (a b c d : Nat) (w : World) (h : RdS w w.heap.size 1 (some ⟨bb, off, none⟩) n cc (rowsV f8 L)) (hn : 19 ≤ n)
    (e0 : (rowsV f8 L)[7]? = some (.int .u8 a)) (e1 : (rowsV f8 L)[8]? = some (.int .u8 b)) (e2 : (rowsV f8 L)[9]? = some (.int .u8 c)) (e3 : (rowsV f8 L)[10]? = some (.int .u8 d)) (ha : a < 256) (hb : b < 256) (hc : c < 256) (hd : d < 256) :
    Calls Try.prog 63 #[.slice (some ⟨bb, off, none⟩) n cc, .int .i64 7] w fun e w' => e = .returned (.int .i64 (num4 a b c d)) ∧ Below w.heap.size w w' := by
  have l0 : ∀ w', Kept Nil_ w.drew w' → w'.cell? ⟨bb, off + 7, none⟩ = some (.int .u8 a) := fun w' hk => hk.nil_cell (by have := h.cell _ rfl 7 _ e0; simpa [Addr.add] using this)
  have l1 : ∀ w', Kept Nil_ w.drew w' → w'.cell? ⟨bb, off + 8, none⟩ = some (.int .u8 b) := fun w' hk => hk.nil_cell (by have := h.cell _ rfl 8 _ e1; simpa [Addr.add] using this)
  have l2 : ∀ w', Kept Nil_ w.drew w' → w'.cell? ⟨bb, off + 9, none⟩ = some (.int .u8 c) := fun w' hk => hk.nil_cell (by have := h.cell _ rfl 9 _ e2; simpa [Addr.add] using this)
  have l3 : ∀ w', Kept Nil_ w.drew w' → w'.cell? ⟨bb, off + 10, none⟩ = some (.int .u8 d) := fun w' hk => hk.nil_cell (by have := h.cell _ rfl 10 _ e3; simpa [Addr.add] using this)
  have n0 : decide ((7 : Int) < (n : Int)) = true := decide_eq_true (by omega)
  have nn0 : (7 : Int) < (n : Int) := by omega
  have n1 : decide ((8 : Int) < (n : Int)) = true := decide_eq_true (by omega)
  have nn1 : (8 : Int) < (n : Int) := by omega
  have n2 : decide ((9 : Int) < (n : Int)) = true := decide_eq_true (by omega)
  have nn2 : (9 : Int) < (n : Int) := by omega
  have n3 : decide ((10 : Int) < (n : Int)) = true := decide_eq_true (by omega)
  have nn3 : (10 : Int) < (n : Int) := by omega
  have z1 : IntKind.i64.wrap 8 = 8 := by decide
  have z2 : IntKind.i64.wrap 9 = 9 := by decide
  have z3 : IntKind.i64.wrap 10 = 10 := by decide
  have wm0 : IntKind.i64.wrap (16777216 * (a : Int)) = 16777216 * (a : Int) := IntWalk.i64_in _ (by omega)
  have wm1 : IntKind.i64.wrap (65536 * (b : Int)) = 65536 * (b : Int) := IntWalk.i64_in _ (by omega)
  have wm2 : IntKind.i64.wrap (256 * (c : Int)) = 256 * (c : Int) := IntWalk.i64_in _ (by omega)
  have wm3 : IntKind.i64.wrap ((a : Int)) = (a : Int) := IntWalk.i64_in _ (by omega)
  have wm4 : IntKind.i64.wrap ((b : Int)) = (b : Int) := IntWalk.i64_in _ (by omega)
  have wm5 : IntKind.i64.wrap ((c : Int)) = (c : Int) := IntWalk.i64_in _ (by omega)
  have wm6 : IntKind.i64.wrap ((d : Int)) = (d : Int) := IntWalk.i64_in _ (by omega)
  have ws1 : IntKind.i64.wrap (16777216 * (a : Int) + 65536 * (b : Int)) = 16777216 * (a : Int) + 65536 * (b : Int) := IntWalk.i64_in _ (by omega)
  have ws2 : IntKind.i64.wrap (16777216 * (a : Int) + 65536 * (b : Int) + 256 * (c : Int)) = 16777216 * (a : Int) + 65536 * (b : Int) + 256 * (c : Int) := IntWalk.i64_in _ (by omega)
  have ws3 : IntKind.i64.wrap (16777216 * (a : Int) + 65536 * (b : Int) + 256 * (c : Int) + (d : Int)) = 16777216 * (a : Int) + 65536 * (b : Int) + 256 * (c : Int) + (d : Int) := IntWalk.i64_in _ (by omega)
  clear e0 e1 e2 e3 h
  go_enter Try.func63, Try.ntmps63
  go_upto_region 1 with fail
  refine wp_region_reg (Nil_) (by kernel_rfl) ?_
  apply wpR_next 0 (some 5)
  · simp only [List.getElem?_toArray, List.getElem?_cons_succ, List.getElem?_cons_zero]; exact rfl
  · rfl
  · kernel_rfl
  · kernel_rfl
  · kernel_rfl
  · exact fun _ _ _ _ h => h
  apply Exists.intro
  apply And.intro
  · apply yr_run; rfl; intro w' hw'; go_simp; (try with_reducible rfl)
  simp only [Act.put, List.setIfInBounds_toArray, List.set_cons_zero, List.set_cons_succ]
  apply wpR_next 1 (some 6)
  · simp only [List.getElem?_toArray, List.getElem?_cons_succ, List.getElem?_cons_zero]; exact rfl
  · rfl
  · kernel_rfl
  · kernel_rfl
  · kernel_rfl
  · exact fun _ _ _ _ h => h
  apply Exists.intro
  apply And.intro
  · apply yr_run; rfl; intro w' hw'; go_simp; (try with_reducible rfl)
  simp only [Act.put, List.setIfInBounds_toArray, List.set_cons_zero, List.set_cons_succ]
  apply wpR_next 2 (some 7)
  · simp only [List.getElem?_toArray, List.getElem?_cons_succ, List.getElem?_cons_zero]; exact rfl
  · rfl
  · kernel_rfl
  · kernel_rfl
  · kernel_rfl
  · exact fun _ _ _ _ h => h
  apply Exists.intro
  apply And.intro
  · apply yr_run; rfl; intro w' hw'; go_simp; (try with_reducible rfl)
  simp only [Act.put, List.setIfInBounds_toArray, List.set_cons_zero, List.set_cons_succ]
  apply wpR_next 3 (some 8)
  · simp only [List.getElem?_toArray, List.getElem?_cons_succ, List.getElem?_cons_zero]; exact rfl
  · rfl
  · kernel_rfl
  · kernel_rfl
  · kernel_rfl
  · exact fun _ _ _ _ h => h
  apply Exists.intro
  apply And.intro
  · apply yr_run; rfl; intro w' hw'; go_simp; (try with_reducible rfl)
  simp only [Act.put, List.setIfInBounds_toArray, List.set_cons_zero, List.set_cons_succ]
  apply wpR_next 4 (some 9)
  · simp only [List.getElem?_toArray, List.getElem?_cons_succ, List.getElem?_cons_zero]; exact rfl
  · rfl
  · kernel_rfl
  · kernel_rfl
  · kernel_rfl
  · exact fun _ _ _ _ h => h
  apply Exists.intro
  apply And.intro
  · apply yr_run; rfl; intro w' hw'; go_simp; (try with_reducible rfl)
  simp only [Act.put, List.setIfInBounds_toArray, List.set_cons_zero, List.set_cons_succ]
  apply wpR_next 5 (some 10)
  · simp only [List.getElem?_toArray, List.getElem?_cons_succ, List.getElem?_cons_zero]; exact rfl
  · rfl
  · kernel_rfl
  · kernel_rfl
  · kernel_rfl
  · exact fun _ _ _ _ h => h
  apply Exists.intro
  apply And.intro
  · apply yr_run; rfl; intro w' hw'; go_simp; (try with_reducible rfl)
  simp only [Act.put, List.setIfInBounds_toArray, List.set_cons_zero, List.set_cons_succ]
  apply wpR_next 6 (some 11)
  · simp only [List.getElem?_toArray, List.getElem?_cons_succ, List.getElem?_cons_zero]; exact rfl
  · rfl
  · kernel_rfl
  · kernel_rfl
  · kernel_rfl
  · exact fun _ _ _ _ h => h
  apply Exists.intro
  apply And.intro
  · apply yr_run; rfl; intro w' hw'; go_simp; (try with_reducible rfl)
  simp only [Act.put, List.setIfInBounds_toArray, List.set_cons_zero, List.set_cons_succ]
  apply wpR_next 7 (some 12)
  · simp only [List.getElem?_toArray, List.getElem?_cons_succ, List.getElem?_cons_zero]; exact rfl
  · rfl
  · kernel_rfl
  · kernel_rfl
  · kernel_rfl
  · exact fun _ _ _ _ h => h
  apply Exists.intro
  apply And.intro
  · apply yr_run; rfl; intro w' hw'; go_simp; (try with_reducible rfl)
  simp only [Act.put, List.setIfInBounds_toArray, List.set_cons_zero, List.set_cons_succ]
  apply wpR_next 8 (some 13)
  · simp only [List.getElem?_toArray, List.getElem?_cons_succ, List.getElem?_cons_zero]; exact rfl
  · rfl
  · kernel_rfl
  · kernel_rfl
  · kernel_rfl
  · exact fun _ _ _ _ h => h
  apply Exists.intro
  apply And.intro
  · apply yr_run; rfl; intro w' hw'; go_simp; (try with_reducible rfl)
  simp only [Act.put, List.setIfInBounds_toArray, List.set_cons_zero, List.set_cons_succ]
  apply wpR_next 9 (some 14)
  · simp only [List.getElem?_toArray, List.getElem?_cons_succ, List.getElem?_cons_zero]; exact rfl
  · rfl
  · kernel_rfl
  · kernel_rfl
  · kernel_rfl
  · exact fun _ _ _ _ h => h
  apply Exists.intro
  apply And.intro
  · apply yr_run; rfl; intro w' hw'; go_simp; (try with_reducible rfl)
  simp only [Act.put, List.setIfInBounds_toArray, List.set_cons_zero, List.set_cons_succ]
  apply wpR_next 10 (some 15)
  · simp only [List.getElem?_toArray, List.getElem?_cons_succ, List.getElem?_cons_zero]; exact rfl
  · rfl
  · kernel_rfl
  · kernel_rfl
  · kernel_rfl
  · exact fun _ _ _ _ h => h
  apply Exists.intro
  apply And.intro
  · apply yr_run; rfl; intro w' hw'; go_simp; (try with_reducible rfl)
  simp only [Act.put, List.setIfInBounds_toArray, List.set_cons_zero, List.set_cons_succ]
  apply wpR_next 11 (some 16)
  · simp only [List.getElem?_toArray, List.getElem?_cons_succ, List.getElem?_cons_zero]; exact rfl
  · rfl
  · kernel_rfl
  · kernel_rfl
  · kernel_rfl
  · exact fun _ _ _ _ h => h
  apply Exists.intro
  apply And.intro
  · apply yr_run; rfl; intro w' hw'; go_simp; (try with_reducible rfl)
  simp only [Act.put, List.setIfInBounds_toArray, List.set_cons_zero, List.set_cons_succ]
  apply wpR_next 12 (some 17)
  · simp only [List.getElem?_toArray, List.getElem?_cons_succ, List.getElem?_cons_zero]; exact rfl
  · rfl
  · kernel_rfl
  · kernel_rfl
  · kernel_rfl
  · exact fun _ _ _ _ h => h
  apply Exists.intro
  apply And.intro
  · apply yr_run; rfl; intro w' hw'; go_simp; (try with_reducible rfl)
  simp only [Act.put, List.setIfInBounds_toArray, List.set_cons_zero, List.set_cons_succ]
  apply wpR_next 13 (some 18)
  · simp only [List.getElem?_toArray, List.getElem?_cons_succ, List.getElem?_cons_zero]; exact rfl
  · rfl
  · kernel_rfl
  · kernel_rfl
  · kernel_rfl
  · exact fun _ _ _ _ h => h
  apply Exists.intro
  apply And.intro
  · apply yr_run; rfl; intro w' hw'; go_simp; (try with_reducible rfl)
  simp only [Act.put, List.setIfInBounds_toArray, List.set_cons_zero, List.set_cons_succ]
  apply wpR_next 14 (some 19)
  · simp only [List.getElem?_toArray, List.getElem?_cons_succ, List.getElem?_cons_zero]; exact rfl
  · rfl
  · kernel_rfl
  · kernel_rfl
  · kernel_rfl
  · exact fun _ _ _ _ h => h
  apply Exists.intro
  apply And.intro
  · apply yr_run; rfl; intro w' hw'; go_simp; (try with_reducible rfl)
  simp only [Act.put, List.setIfInBounds_toArray, List.set_cons_zero, List.set_cons_succ]
  apply wpR_next 15 (some 20)
  · simp only [List.getElem?_toArray, List.getElem?_cons_succ, List.getElem?_cons_zero]; exact rfl
  · rfl
  · kernel_rfl
  · kernel_rfl
  · kernel_rfl
  · exact fun _ _ _ _ h => h
  apply Exists.intro
  apply And.intro
  · apply yr_run; rfl; intro w' hw'; go_simp; (try with_reducible rfl)
  simp only [Act.put, List.setIfInBounds_toArray, List.set_cons_zero, List.set_cons_succ]
  apply wpR_next 16 (some 21)
  · simp only [List.getElem?_toArray, List.getElem?_cons_succ, List.getElem?_cons_zero]; exact rfl
  · rfl
  · kernel_rfl
  · kernel_rfl
  · kernel_rfl
  · exact fun _ _ _ _ h => h
  apply Exists.intro
  apply And.intro
  · apply yr_run; rfl; intro w' hw'; go_simp; (try with_reducible rfl)
  simp only [Act.put, List.setIfInBounds_toArray, List.set_cons_zero, List.set_cons_succ]
  apply wpR_next 17 (some 22)
  · simp only [List.getElem?_toArray, List.getElem?_cons_succ, List.getElem?_cons_zero]; exact rfl
  · rfl
  · kernel_rfl
  · kernel_rfl
  · kernel_rfl
  · exact fun _ _ _ _ h => h
  apply Exists.intro
  apply And.intro
  · apply yr_run; rfl; intro w' hw'; go_simp; (try with_reducible rfl)
  simp only [Act.put, List.setIfInBounds_toArray, List.set_cons_zero, List.set_cons_succ]
  apply wpR_next 18 (some 23)
  · simp only [List.getElem?_toArray, List.getElem?_cons_succ, List.getElem?_cons_zero]; exact rfl
  · rfl
  · kernel_rfl
  · kernel_rfl
  · kernel_rfl
  · exact fun _ _ _ _ h => h
  apply Exists.intro
  apply And.intro
  · apply yr_run; rfl; intro w' hw'; go_simp; (try with_reducible rfl)
  simp only [Act.put, List.setIfInBounds_toArray, List.set_cons_zero, List.set_cons_succ]
  apply wpR_next 19 (some 24)
  · simp only [List.getElem?_toArray, List.getElem?_cons_succ, List.getElem?_cons_zero]; exact rfl
  · rfl
  · kernel_rfl
  · kernel_rfl
  · kernel_rfl
  · exact fun _ _ _ _ h => h
  apply Exists.intro
  apply And.intro
  · apply yr_run; rfl; intro w' hw'; go_simp; (try with_reducible rfl)
  simp only [Act.put, List.setIfInBounds_toArray, List.set_cons_zero, List.set_cons_succ]
  apply wpR_next 20 (some 25)
  · simp only [List.getElem?_toArray, List.getElem?_cons_succ, List.getElem?_cons_zero]; exact rfl
  · rfl
  · kernel_rfl
  · kernel_rfl
  · kernel_rfl
  · exact fun _ _ _ _ h => h
  apply Exists.intro
  apply And.intro
  · apply yr_run; rfl; intro w' hw'; go_simp; (try with_reducible rfl)
  simp only [Act.put, List.setIfInBounds_toArray, List.set_cons_zero, List.set_cons_succ]
  apply wpR_next 21 (some 26)
  · simp only [List.getElem?_toArray, List.getElem?_cons_succ, List.getElem?_cons_zero]; exact rfl
  · rfl
  · kernel_rfl
  · kernel_rfl
  · kernel_rfl
  · exact fun _ _ _ _ h => h
  apply Exists.intro
  apply And.intro
  · apply yr_run; rfl; intro w' hw'; go_simp; (try with_reducible rfl)
  simp only [Act.put, List.setIfInBounds_toArray, List.set_cons_zero, List.set_cons_succ]
  apply wpR_next 22 (some 27)
  · simp only [List.getElem?_toArray, List.getElem?_cons_succ, List.getElem?_cons_zero]; exact rfl
  · rfl
  · kernel_rfl
  · kernel_rfl
  · kernel_rfl
  · exact fun _ _ _ _ h => h
  apply Exists.intro
  apply And.intro
  · apply yr_run; rfl; intro w' hw'; go_simp; (try with_reducible rfl)
  simp only [Act.put, List.setIfInBounds_toArray, List.set_cons_zero, List.set_cons_succ]
  apply wpR_next 23 (some 28)
  · simp only [List.getElem?_toArray, List.getElem?_cons_succ, List.getElem?_cons_zero]; exact rfl
  · rfl
  · kernel_rfl
  · kernel_rfl
  · kernel_rfl
  · exact fun _ _ _ _ h => h
  apply Exists.intro
  apply And.intro
  · apply yr_run; rfl; intro w' hw'; go_simp; (try with_reducible rfl)
  simp only [Act.put, List.setIfInBounds_toArray, List.set_cons_zero, List.set_cons_succ]
  apply wpR_next 24 (some 29)
  · simp only [List.getElem?_toArray, List.getElem?_cons_succ, List.getElem?_cons_zero]; exact rfl
  · rfl
  · kernel_rfl
  · kernel_rfl
  · kernel_rfl
  · exact fun _ _ _ _ h => h
  apply Exists.intro
  apply And.intro
  · apply yr_run; rfl; intro w' hw'; go_simp; (try with_reducible rfl)
  simp only [Act.put, List.setIfInBounds_toArray, List.set_cons_zero, List.set_cons_succ]
  apply wpR_next 25 (some 30)
  · simp only [List.getElem?_toArray, List.getElem?_cons_succ, List.getElem?_cons_zero]; exact rfl
  · rfl
  · kernel_rfl
  · kernel_rfl
  · kernel_rfl
  · exact fun _ _ _ _ h => h
  apply Exists.intro
  apply And.intro
  · apply yr_run; rfl; intro w' hw'; go_simp; (try with_reducible rfl)
  simp only [Act.put, List.setIfInBounds_toArray, List.set_cons_zero, List.set_cons_succ]
  apply wpR_next 26 (some 31)
  · simp only [List.getElem?_toArray, List.getElem?_cons_succ, List.getElem?_cons_zero]; exact rfl
  · rfl
  · kernel_rfl
  · kernel_rfl
  · kernel_rfl
  · exact fun _ _ _ _ h => h
  apply Exists.intro
  apply And.intro
  · apply yr_run; rfl; intro w' hw'; go_simp; (try with_reducible rfl)
  simp only [Act.put, List.setIfInBounds_toArray, List.set_cons_zero, List.set_cons_succ]
  apply wpR_next 27 (some 32)
  · simp only [List.getElem?_toArray, List.getElem?_cons_succ, List.getElem?_cons_zero]; exact rfl
  · rfl
  · kernel_rfl
  · kernel_rfl
  · kernel_rfl
  · exact fun _ _ _ _ h => h
  apply Exists.intro
  apply And.intro
  · apply yr_run; rfl; intro w' hw'; go_simp; (try with_reducible rfl)
  simp only [Act.put, List.setIfInBounds_toArray, List.set_cons_zero, List.set_cons_succ]
  apply wpR_next 28 (some 33)
  · simp only [List.getElem?_toArray, List.getElem?_cons_succ, List.getElem?_cons_zero]; exact rfl
  · rfl
  · kernel_rfl
  · kernel_rfl
  · kernel_rfl
  · exact fun _ _ _ _ h => h
  apply Exists.intro
  apply And.intro
  · apply yr_run; rfl; intro w' hw'; go_simp; (try with_reducible rfl)
  simp only [Act.put, List.setIfInBounds_toArray, List.set_cons_zero, List.set_cons_succ]
  apply wpR_next 29 (some 4)
  · simp only [List.getElem?_toArray, List.getElem?_cons_succ, List.getElem?_cons_zero]; exact rfl
  · rfl
  · kernel_rfl
  · kernel_rfl
  · kernel_rfl
  · exact fun _ _ _ _ h => h
  apply Exists.intro
  apply And.intro
  · apply yr_run; rfl; intro w' hw'; go_simp; (try with_reducible rfl)
  simp only [Act.put, List.setIfInBounds_toArray, List.set_cons_zero, List.set_cons_succ]
  refine wpR_done (by kernel_rfl) ?_ _
  intro W7 hw7
  have HB7 : RowKit.Hid (Below w.heap.size w W7) := Lib.hid (((Below.refl w.heap.size w).drew).trans (hw7.mono (Nat.le_refl _)))
  clear hw7 l0 l1 l2 l3
  go_wp2
  go_ret
  exact ⟨by unfold num4; simp only [Ending.returned.injEq]; rfl, HB7.out⟩
set_option maxRecDepth 100000 in
set_option maxHeartbeats 1000000 in
theorem at_11 (bb off n cc : Nat) (L : List Nat) (a b c d : Nat) (w : World) (h : RdS w w.heap.size 1 (some ⟨bb, off, none⟩) n cc (rowsV f8 L)) (hn : 19 ≤ n)
    (e0 : (rowsV f8 L)[11]? = some (.int .u8 a)) (e1 : (rowsV f8 L)[12]? = some (.int .u8 b)) (e2 : (rowsV f8 L)[13]? = some (.int .u8 c)) (e3 : (rowsV f8 L)[14]? = some (.int .u8 d)) (ha : a < 256) (hb : b < 256) (hc : c < 256) (hd : d < 256) :
    Calls Try.prog 63 #[.slice (some ⟨bb, off, none⟩) n cc, .int .i64 11] w fun e w' => e = .returned (.int .i64 (num4 a b c d)) ∧ Below w.heap.size w w' := by
  have l0 : ∀ w', Kept Nil_ w.drew w' → w'.cell? ⟨bb, off + 11, none⟩ = some (.int .u8 a) := fun w' hk => hk.nil_cell (by have := h.cell _ rfl 11 _ e0; simpa [Addr.add] using this)
  have l1 : ∀ w', Kept Nil_ w.drew w' → w'.cell? ⟨bb, off + 12, none⟩ = some (.int .u8 b) := fun w' hk => hk.nil_cell (by have := h.cell _ rfl 12 _ e1; simpa [Addr.add] using this)
  have l2 : ∀ w', Kept Nil_ w.drew w' → w'.cell? ⟨bb, off + 13, none⟩ = some (.int .u8 c) := fun w' hk => hk.nil_cell (by have := h.cell _ rfl 13 _ e2; simpa [Addr.add] using this)
  have l3 : ∀ w', Kept Nil_ w.drew w' → w'.cell? ⟨bb, off + 14, none⟩ = some (.int .u8 d) := fun w' hk => hk.nil_cell (by have := h.cell _ rfl 14 _ e3; simpa [Addr.add] using this)
  have n0 : decide ((11 : Int) < (n : Int)) = true := decide_eq_true (by omega)
  have nn0 : (11 : Int) < (n : Int) := by omega
  have n1 : decide ((12 : Int) < (n : Int)) = true := decide_eq_true (by omega)
  have nn1 : (12 : Int) < (n : Int) := by omega
  have n2 : decide ((13 : Int) < (n : Int)) = true := decide_eq_true (by omega)
  have nn2 : (13 : Int) < (n : Int) := by omega
  have n3 : decide ((14 : Int) < (n : Int)) = true := decide_eq_true (by omega)
  have nn3 : (14 : Int) < (n : Int) := by omega
  have z1 : IntKind.i64.wrap 12 = 12 := by decide
  have z2 : IntKind.i64.wrap 13 = 13 := by decide
  have z3 : IntKind.i64.wrap 14 = 14 := by decide
  have wm0 : IntKind.i64.wrap (16777216 * (a : Int)) = 16777216 * (a : Int) := IntWalk.i64_in _ (by omega)
  have wm1 : IntKind.i64.wrap (65536 * (b : Int)) = 65536 * (b : Int) := IntWalk.i64_in _ (by omega)
  have wm2 : IntKind.i64.wrap (256 * (c : Int)) = 256 * (c : Int) := IntWalk.i64_in _ (by omega)
  have wm3 : IntKind.i64.wrap ((a : Int)) = (a : Int) := IntWalk.i64_in _ (by omega)
  have wm4 : IntKind.i64.wrap ((b : Int)) = (b : Int) := IntWalk.i64_in _ (by omega)
  have wm5 : IntKind.i64.wrap ((c : Int)) = (c : Int) := IntWalk.i64_in _ (by omega)
  have wm6 : IntKind.i64.wrap ((d : Int)) = (d : Int) := IntWalk.i64_in _ (by omega)
  have ws1 : IntKind.i64.wrap (16777216 * (a : Int) + 65536 * (b : Int)) = 16777216 * (a : Int) + 65536 * (b : Int) := IntWalk.i64_in _ (by omega)
  have ws2 : IntKind.i64.wrap (16777216 * (a : Int) + 65536 * (b : Int) + 256 * (c : Int)) = 16777216 * (a : Int) + 65536 * (b : Int) + 256 * (c : Int) := IntWalk.i64_in _ (by omega)
  have ws3 : IntKind.i64.wrap (16777216 * (a : Int) + 65536 * (b : Int) + 256 * (c : Int) + (d : Int)) = 16777216 * (a : Int) + 65536 * (b : Int) + 256 * (c : Int) + (d : Int) := IntWalk.i64_in _ (by omega)
  clear e0 e1 e2 e3 h
  go_enter Try.func63, Try.ntmps63
  go_upto_region 1 with fail
  refine wp_region_reg (Nil_) (by kernel_rfl) ?_
  apply wpR_next 0 (some 5)
  · simp only [List.getElem?_toArray, List.getElem?_cons_succ, List.getElem?_cons_zero]; exact rfl
  · rfl
  · kernel_rfl
  · kernel_rfl
  · kernel_rfl
  · exact fun _ _ _ _ h => h
  apply Exists.intro
  apply And.intro
  · apply yr_run; rfl; intro w' hw'; go_simp; (try with_reducible rfl)
  simp only [Act.put, List.setIfInBounds_toArray, List.set_cons_zero, List.set_cons_succ]
  apply wpR_next 1 (some 6)
  · simp only [List.getElem?_toArray, List.getElem?_cons_succ, List.getElem?_cons_zero]; exact rfl
  · rfl
  · kernel_rfl
  · kernel_rfl
  · kernel_rfl
  · exact fun _ _ _ _ h => h
  apply Exists.intro
  apply And.intro
  · apply yr_run; rfl; intro w' hw'; go_simp; (try with_reducible rfl)
  simp only [Act.put, List.setIfInBounds_toArray, List.set_cons_zero, List.set_cons_succ]
  apply wpR_next 2 (some 7)
  · simp only [List.getElem?_toArray, List.getElem?_cons_succ, List.getElem?_cons_zero]; exact rfl
  · rfl
  · kernel_rfl
  · kernel_rfl
  · kernel_rfl
  · exact fun _ _ _ _ h => h
  apply Exists.intro
  apply And.intro
  · apply yr_run; rfl; intro w' hw'; go_simp; (try with_reducible rfl)
  simp only [Act.put, List.setIfInBounds_toArray, List.set_cons_zero, List.set_cons_succ]
  apply wpR_next 3 (some 8)
  · simp only [List.getElem?_toArray, List.getElem?_cons_succ, List.getElem?_cons_zero]; exact rfl
  · rfl
  · kernel_rfl
  · kernel_rfl
  · kernel_rfl
  · exact fun _ _ _ _ h => h
  apply Exists.intro
  apply And.intro
  · apply yr_run; rfl; intro w' hw'; go_simp; (try with_reducible rfl)
  simp only [Act.put, List.setIfInBounds_toArray, List.set_cons_zero, List.set_cons_succ]
  apply wpR_next 4 (some 9)
  · simp only [List.getElem?_toArray, List.getElem?_cons_succ, List.getElem?_cons_zero]; exact rfl
  · rfl
  · kernel_rfl
  · kernel_rfl
  · kernel_rfl
  · exact fun _ _ _ _ h => h
  apply Exists.intro
  apply And.intro
  · apply yr_run; rfl; intro w' hw'; go_simp; (try with_reducible rfl)
  simp only [Act.put, List.setIfInBounds_toArray, List.set_cons_zero, List.set_cons_succ]
  apply wpR_next 5 (some 10)
  · simp only [List.getElem?_toArray, List.getElem?_cons_succ, List.getElem?_cons_zero]; exact rfl
  · rfl
  · kernel_rfl
  · kernel_rfl
  · kernel_rfl
  · exact fun _ _ _ _ h => h
  apply Exists.intro
  apply And.intro
  · apply yr_run; rfl; intro w' hw'; go_simp; (try with_reducible rfl)
  simp only [Act.put, List.setIfInBounds_toArray, List.set_cons_zero, List.set_cons_succ]
  apply wpR_next 6 (some 11)
  · simp only [List.getElem?_toArray, List.getElem?_cons_succ, List.getElem?_cons_zero]; exact rfl
  · rfl
  · kernel_rfl
  · kernel_rfl
  · kernel_rfl
  · exact fun _ _ _ _ h => h
  apply Exists.intro
  apply And.intro
  · apply yr_run; rfl; intro w' hw'; go_simp; (try with_reducible rfl)
  simp only [Act.put, List.setIfInBounds_toArray, List.set_cons_zero, List.set_cons_succ]
  apply wpR_next 7 (some 12)
  · simp only [List.getElem?_toArray, List.getElem?_cons_succ, List.getElem?_cons_zero]; exact rfl
  · rfl
  · kernel_rfl
  · kernel_rfl
  · kernel_rfl
  · exact fun _ _ _ _ h => h
  apply Exists.intro
  apply And.intro
  · apply yr_run; rfl; intro w' hw'; go_simp; (try with_reducible rfl)
  simp only [Act.put, List.setIfInBounds_toArray, List.set_cons_zero, List.set_cons_succ]
  apply wpR_next 8 (some 13)
  · simp only [List.getElem?_toArray, List.getElem?_cons_succ, List.getElem?_cons_zero]; exact rfl
  · rfl
  · kernel_rfl
  · kernel_rfl
  · kernel_rfl
  · exact fun _ _ _ _ h => h
  apply Exists.intro
  apply And.intro
  · apply yr_run; rfl; intro w' hw'; go_simp; (try with_reducible rfl)
  simp only [Act.put, List.setIfInBounds_toArray, List.set_cons_zero, List.set_cons_succ]
  apply wpR_next 9 (some 14)
  · simp only [List.getElem?_toArray, List.getElem?_cons_succ, List.getElem?_cons_zero]; exact rfl
  · rfl
  · kernel_rfl
  · kernel_rfl
  · kernel_rfl
  · exact fun _ _ _ _ h => h
  apply Exists.intro
  apply And.intro
  · apply yr_run; rfl; intro w' hw'; go_simp; (try with_reducible rfl)
  simp only [Act.put, List.setIfInBounds_toArray, List.set_cons_zero, List.set_cons_succ]
  apply wpR_next 10 (some 15)
  · simp only [List.getElem?_toArray, List.getElem?_cons_succ, List.getElem?_cons_zero]; exact rfl
  · rfl
  · kernel_rfl
  · kernel_rfl
  · kernel_rfl
  · exact fun _ _ _ _ h => h
  apply Exists.intro
  apply And.intro
  · apply yr_run; rfl; intro w' hw'; go_simp; (try with_reducible rfl)
  simp only [Act.put, List.setIfInBounds_toArray, List.set_cons_zero, List.set_cons_succ]
  apply wpR_next 11 (some 16)
  · simp only [List.getElem?_toArray, List.getElem?_cons_succ, List.getElem?_cons_zero]; exact rfl
  · rfl
  · kernel_rfl
  · kernel_rfl
  · kernel_rfl
  · exact fun _ _ _ _ h => h
  apply Exists.intro
  apply And.intro
  · apply yr_run; rfl; intro w' hw'; go_simp; (try with_reducible rfl)
  simp only [Act.put, List.setIfInBounds_toArray, List.set_cons_zero, List.set_cons_succ]
  apply wpR_next 12 (some 17)
  · simp only [List.getElem?_toArray, List.getElem?_cons_succ, List.getElem?_cons_zero]; exact rfl
  · rfl
  · kernel_rfl
  · kernel_rfl
  · kernel_rfl
  · exact fun _ _ _ _ h => h
  apply Exists.intro
  apply And.intro
  · apply yr_run; rfl; intro w' hw'; go_simp; (try with_reducible rfl)
  simp only [Act.put, List.setIfInBounds_toArray, List.set_cons_zero, List.set_cons_succ]
  apply wpR_next 13 (some 18)
  · simp only [List.getElem?_toArray, List.getElem?_cons_succ, List.getElem?_cons_zero]; exact rfl
  · rfl
  · kernel_rfl
  · kernel_rfl
  · kernel_rfl
  · exact fun _ _ _ _ h => h
  apply Exists.intro
  apply And.intro
  · apply yr_run; rfl; intro w' hw'; go_simp; (try with_reducible rfl)
  simp only [Act.put, List.setIfInBounds_toArray, List.set_cons_zero, List.set_cons_succ]
  apply wpR_next 14 (some 19)
  · simp only [List.getElem?_toArray, List.getElem?_cons_succ, List.getElem?_cons_zero]; exact rfl
  · rfl
  · kernel_rfl
  · kernel_rfl
  · kernel_rfl
  · exact fun _ _ _ _ h => h
  apply Exists.intro
  apply And.intro
  · apply yr_run; rfl; intro w' hw'; go_simp; (try with_reducible rfl)
  simp only [Act.put, List.setIfInBounds_toArray, List.set_cons_zero, List.set_cons_succ]
  apply wpR_next 15 (some 20)
  · simp only [List.getElem?_toArray, List.getElem?_cons_succ, List.getElem?_cons_zero]; exact rfl
  · rfl
  · kernel_rfl
  · kernel_rfl
  · kernel_rfl
  · exact fun _ _ _ _ h => h
  apply Exists.intro
  apply And.intro
  · apply yr_run; rfl; intro w' hw'; go_simp; (try with_reducible rfl)
  simp only [Act.put, List.setIfInBounds_toArray, List.set_cons_zero, List.set_cons_succ]
  apply wpR_next 16 (some 21)
  · simp only [List.getElem?_toArray, List.getElem?_cons_succ, List.getElem?_cons_zero]; exact rfl
  · rfl
  · kernel_rfl
  · kernel_rfl
  · kernel_rfl
  · exact fun _ _ _ _ h => h
  apply Exists.intro
  apply And.intro
  · apply yr_run; rfl; intro w' hw'; go_simp; (try with_reducible rfl)
  simp only [Act.put, List.setIfInBounds_toArray, List.set_cons_zero, List.set_cons_succ]
  apply wpR_next 17 (some 22)
  · simp only [List.getElem?_toArray, List.getElem?_cons_succ, List.getElem?_cons_zero]; exact rfl
  · rfl
  · kernel_rfl
  · kernel_rfl
  · kernel_rfl
  · exact fun _ _ _ _ h => h
  apply Exists.intro
  apply And.intro
  · apply yr_run; rfl; intro w' hw'; go_simp; (try with_reducible rfl)
  simp only [Act.put, List.setIfInBounds_toArray, List.set_cons_zero, List.set_cons_succ]
  apply wpR_next 18 (some 23)
  · simp only [List.getElem?_toArray, List.getElem?_cons_succ, List.getElem?_cons_zero]; exact rfl
  · rfl
  · kernel_rfl
  · kernel_rfl
  · kernel_rfl
  · exact fun _ _ _ _ h => h
  apply Exists.intro
  apply And.intro
  · apply yr_run; rfl; intro w' hw'; go_simp; (try with_reducible rfl)
  simp only [Act.put, List.setIfInBounds_toArray, List.set_cons_zero, List.set_cons_succ]
  apply wpR_next 19 (some 24)
  · simp only [List.getElem?_toArray, List.getElem?_cons_succ, List.getElem?_cons_zero]; exact rfl
  · rfl
  · kernel_rfl
  · kernel_rfl
  · kernel_rfl
  · exact fun _ _ _ _ h => h
  apply Exists.intro
  apply And.intro
  · apply yr_run; rfl; intro w' hw'; go_simp; (try with_reducible rfl)
  simp only [Act.put, List.setIfInBounds_toArray, List.set_cons_zero, List.set_cons_succ]
  apply wpR_next 20 (some 25)
  · simp only [List.getElem?_toArray, List.getElem?_cons_succ, List.getElem?_cons_zero]; exact rfl
  · rfl
  · kernel_rfl
  · kernel_rfl
  · kernel_rfl
  · exact fun _ _ _ _ h => h
  apply Exists.intro
  apply And.intro
  · apply yr_run; rfl; intro w' hw'; go_simp; (try with_reducible rfl)
  simp only [Act.put, List.setIfInBounds_toArray, List.set_cons_zero, List.set_cons_succ]
  apply wpR_next 21 (some 26)
  · simp only [List.getElem?_toArray, List.getElem?_cons_succ, List.getElem?_cons_zero]; exact rfl
  · rfl
  · kernel_rfl
  · kernel_rfl
  · kernel_rfl
  · exact fun _ _ _ _ h => h
  apply Exists.intro
  apply And.intro
  · apply yr_run; rfl; intro w' hw'; go_simp; (try with_reducible rfl)
  simp only [Act.put, List.setIfInBounds_toArray, List.set_cons_zero, List.set_cons_succ]
  apply wpR_next 22 (some 27)
  · simp only [List.getElem?_toArray, List.getElem?_cons_succ, List.getElem?_cons_zero]; exact rfl
  · rfl
  · kernel_rfl
  · kernel_rfl
  · kernel_rfl
  · exact fun _ _ _ _ h => h
  apply Exists.intro
  apply And.intro
  · apply yr_run; rfl; intro w' hw'; go_simp; (try with_reducible rfl)
  simp only [Act.put, List.setIfInBounds_toArray, List.set_cons_zero, List.set_cons_succ]
  apply wpR_next 23 (some 28)
  · simp only [List.getElem?_toArray, List.getElem?_cons_succ, List.getElem?_cons_zero]; exact rfl
  · rfl
  · kernel_rfl
  · kernel_rfl
  · kernel_rfl
  · exact fun _ _ _ _ h => h
  apply Exists.intro
  apply And.intro
  · apply yr_run; rfl; intro w' hw'; go_simp; (try with_reducible rfl)
  simp only [Act.put, List.setIfInBounds_toArray, List.set_cons_zero, List.set_cons_succ]
  apply wpR_next 24 (some 29)
  · simp only [List.getElem?_toArray, List.getElem?_cons_succ, List.getElem?_cons_zero]; exact rfl
  · rfl
  · kernel_rfl
  · kernel_rfl
  · kernel_rfl
  · exact fun _ _ _ _ h => h
  apply Exists.intro
  apply And.intro
  · apply yr_run; rfl; intro w' hw'; go_simp; (try with_reducible rfl)
  simp only [Act.put, List.setIfInBounds_toArray, List.set_cons_zero, List.set_cons_succ]
  apply wpR_next 25 (some 30)
  · simp only [List.getElem?_toArray, List.getElem?_cons_succ, List.getElem?_cons_zero]; exact rfl
  · rfl
  · kernel_rfl
  · kernel_rfl
  · kernel_rfl
  · exact fun _ _ _ _ h => h
  apply Exists.intro
  apply And.intro
  · apply yr_run; rfl; intro w' hw'; go_simp; (try with_reducible rfl)
  simp only [Act.put, List.setIfInBounds_toArray, List.set_cons_zero, List.set_cons_succ]
  apply wpR_next 26 (some 31)
  · simp only [List.getElem?_toArray, List.getElem?_cons_succ, List.getElem?_cons_zero]; exact rfl
  · rfl
  · kernel_rfl
  · kernel_rfl
  · kernel_rfl
  · exact fun _ _ _ _ h => h
  apply Exists.intro
  apply And.intro
  · apply yr_run; rfl; intro w' hw'; go_simp; (try with_reducible rfl)
  simp only [Act.put, List.setIfInBounds_toArray, List.set_cons_zero, List.set_cons_succ]
  apply wpR_next 27 (some 32)
  · simp only [List.getElem?_toArray, List.getElem?_cons_succ, List.getElem?_cons_zero]; exact rfl
  · rfl
  · kernel_rfl
  · kernel_rfl
  · kernel_rfl
  · exact fun _ _ _ _ h => h
  apply Exists.intro
  apply And.intro
  · apply yr_run; rfl; intro w' hw'; go_simp; (try with_reducible rfl)
  simp only [Act.put, List.setIfInBounds_toArray, List.set_cons_zero, List.set_cons_succ]
  apply wpR_next 28 (some 33)
  · simp only [List.getElem?_toArray, List.getElem?_cons_succ, List.getElem?_cons_zero]; exact rfl
  · rfl
  · kernel_rfl
  · kernel_rfl
  · kernel_rfl
  · exact fun _ _ _ _ h => h
  apply Exists.intro
  apply And.intro
  · apply yr_run; rfl; intro w' hw'; go_simp; (try with_reducible rfl)
  simp only [Act.put, List.setIfInBounds_toArray, List.set_cons_zero, List.set_cons_succ]
  apply wpR_next 29 (some 4)
  · simp only [List.getElem?_toArray, List.getElem?_cons_succ, List.getElem?_cons_zero]; exact rfl
  · rfl
  · kernel_rfl
  · kernel_rfl
  · kernel_rfl
  · exact fun _ _ _ _ h => h
  apply Exists.intro
  apply And.intro
  · apply yr_run; rfl; intro w' hw'; go_simp; (try with_reducible rfl)
  simp only [Act.put, List.setIfInBounds_toArray, List.set_cons_zero, List.set_cons_succ]
  refine wpR_done (by kernel_rfl) ?_ _
  intro W7 hw7
  have HB7 : RowKit.Hid (Below w.heap.size w W7) := Lib.hid (((Below.refl w.heap.size w).drew).trans (hw7.mono (Nat.le_refl _)))
  clear hw7 l0 l1 l2 l3
  go_wp2
  go_ret
  exact ⟨by unfold num4; simp only [Ending.returned.injEq]; rfl, HB7.out⟩
end Go.Proofs.Ytibbibpfnpjjdaa

/- frame.number. -/
namespace Go.Proofs.Ytibbibpfnpjjdaa
open Go.RowKit
set_option linter.unusedSimpArgs false
set_option linter.unusedVariables false

theorem ofInt_64 (a : Nat) (ha : a < 18446744073709551616) : (BitVec.ofInt 64 (a : Int)).toNat = a := by
  rw [BitVec.ofInt_natCast, BitVec.toNat_ofNat]; exact Nat.mod_eq_of_lt (by omega)
theorem i64_or_byte (x b : Nat) (hx : x < 281474976710656 / 256) (hb : b < 256) : bits .or .i64 ((x : Int) * 256) (b : Int) = (x : Int) * 256 + (b : Int) := by
  have e : ((x : Int) * 256) = ((2 ^ 8 * x : Nat) : Int) := by omega
  rw [e]
  show IntKind.i64.wrap ((BitVec.ofInt 64 ((2 ^ 8 * x : Nat) : Int) ||| BitVec.ofInt 64 (b : Int)).toNat : Int) = _
  rw [BitVec.toNat_or, ofInt_64 _ (by omega), ofInt_64 b (by omega), ← Nat.two_pow_add_eq_or_of_lt (by omega) x, IntWalk.i64_in _ (by omega)]
  omega
theorem i64_or_int (x : Int) (b : Nat) (h0 : 0 ≤ x) (hx : x < 1099511627776) (hb : b < 256) : bits .or .i64 (x * 256) (b : Int) = x * 256 + (b : Int) := by
  obtain ⟨X, rfl⟩ := Int.eq_ofNat_of_zero_le h0
  exact i64_or_byte X b (by omega) hb
/-- The number of the first q bytes. -/
def upToF (a b c d : Nat) : Nat → Int
  | 0 => 0
  | 1 => a
  | 2 => 256 * a + b
  | 3 => 65536 * a + 256 * b + c
  | _ => num4 a b c d
set_option maxRecDepth 100000 in
set_option maxHeartbeats 1000000 in
theorem number_any (bb off n cc : Nat) (L : List Nat) (a b c d : Nat) (w : World) (h : RdS w w.heap.size 1 (some ⟨bb, off, none⟩) n cc (rowsV f8 L)) (hn : 4 ≤ n)
    (e0 : (rowsV f8 L)[0]? = some (.int .u8 a)) (e1 : (rowsV f8 L)[1]? = some (.int .u8 b)) (e2 : (rowsV f8 L)[2]? = some (.int .u8 c)) (e3 : (rowsV f8 L)[3]? = some (.int .u8 d)) (ha : a < 256) (hb : b < 256) (hc : c < 256) (hd : d < 256) :
    Calls Try.prog 54 #[.slice (some ⟨bb, off, none⟩) n cc] w fun e w' => e = .returned (.int .i64 (num4 a b c d)) ∧ w = w' := by
  have l0 : w.cell? ⟨bb, off, none⟩ = some (.int .u8 a) := by have := h.cell _ rfl 0 _ e0; simpa [Addr.add] using this
  have l1 : w.cell? ⟨bb, off + 1, none⟩ = some (.int .u8 b) := by have := h.cell _ rfl 1 _ e1; simpa [Addr.add] using this
  have l2 : w.cell? ⟨bb, off + 2, none⟩ = some (.int .u8 c) := by have := h.cell _ rfl 2 _ e2; simpa [Addr.add] using this
  have l3 : w.cell? ⟨bb, off + 3, none⟩ = some (.int .u8 d) := by have := h.cell _ rfl 3 _ e3; simpa [Addr.add] using this
  have n0 : (0 : Int) < (n : Int) := by omega
  have n1 : (1 : Int) < (n : Int) := by omega
  have n2 : (2 : Int) < (n : Int) := by omega
  have n3 : (3 : Int) < (n : Int) := by omega
  have wa : IntKind.i64.wrap (a : Int) = a := IntWalk.i64_in _ (by omega)
  have wb : IntKind.i64.wrap (b : Int) = b := IntWalk.i64_in _ (by omega)
  have wc : IntKind.i64.wrap (c : Int) = c := IntWalk.i64_in _ (by omega)
  have wd : IntKind.i64.wrap (d : Int) = d := IntWalk.i64_in _ (by omega)
  clear e0 e1 e2 e3 h
  go_enter Try.func54, Try.ntmps54
  go_wp2
  go_loop [3, 5] (fun r i => ∃ q : Nat, q ≤ 4 ∧ i = .int .i64 q ∧ r = .int .i64 (upToF a b c d q)) (fun _ i => 4 - (intOf i).toNat)
  case atStart => exact ⟨0, by omega, rfl, rfl⟩
  case round =>
    obtain ⟨q, hq, rfl, rfl⟩ := hrel
    by_cases hlt : q < 4
    · have hcs : q = 0 ∨ q = 1 ∨ q = 2 ∨ q = 3 := by omega
      rcases hcs with h0 | h0 | h0 | h0
      · clear hlt hq
        obtain rfl := h0
        have ho := i64_or_int (0) a (by omega) (by omega) ha
        rw [Int.zero_mul] at ho
        have hw : IntKind.i64.wrap ((0) * 256) = (0) * 256 := IntWalk.i64_in _ (by omega)
        rw [show ((0 : Nat) : Int) = 0 from rfl, show upToF a b c d 0 = 0 from rfl]
        go_wp2
        refine ⟨⟨1, by omega, rfl, ?_⟩, by simp [intOf]⟩
        refine congrArg (Value.int .i64) ?_
        first | done | (show _ = (a : Int); omega) | (unfold upToF num4; omega)
      · clear hlt hq
        obtain rfl := h0
        have ho := i64_or_int ((a : Int)) b (by omega) (by omega) hb
        have hw : IntKind.i64.wrap (((a : Int)) * 256) = ((a : Int)) * 256 := IntWalk.i64_in _ (by omega)
        rw [show ((1 : Nat) : Int) = 1 from rfl, show upToF a b c d 1 = (a : Int) from rfl]
        go_wp2
        refine ⟨⟨2, by omega, rfl, ?_⟩, by simp [intOf]⟩
        refine congrArg (Value.int .i64) ?_
        first | done | (show _ = 256 * (a : Int) + (b : Int); omega) | (unfold upToF num4; omega)
      · clear hlt hq
        obtain rfl := h0
        have ho := i64_or_int (256 * (a : Int) + (b : Int)) c (by omega) (by omega) hc
        have hw : IntKind.i64.wrap ((256 * (a : Int) + (b : Int)) * 256) = (256 * (a : Int) + (b : Int)) * 256 := IntWalk.i64_in _ (by omega)
        rw [show ((2 : Nat) : Int) = 2 from rfl, show upToF a b c d 2 = 256 * (a : Int) + (b : Int) from rfl]
        go_wp2
        refine ⟨⟨3, by omega, rfl, ?_⟩, by simp [intOf]⟩
        refine congrArg (Value.int .i64) ?_
        first | done | (show _ = 65536 * (a : Int) + 256 * (b : Int) + (c : Int); omega) | (unfold upToF num4; omega)
      · clear hlt hq
        obtain rfl := h0
        have ho := i64_or_int (65536 * (a : Int) + 256 * (b : Int) + (c : Int)) d (by omega) (by omega) hd
        have hw : IntKind.i64.wrap ((65536 * (a : Int) + 256 * (b : Int) + (c : Int)) * 256) = (65536 * (a : Int) + 256 * (b : Int) + (c : Int)) * 256 := IntWalk.i64_in _ (by omega)
        rw [show ((3 : Nat) : Int) = 3 from rfl, show upToF a b c d 3 = 65536 * (a : Int) + 256 * (b : Int) + (c : Int) from rfl]
        go_wp2
        refine ⟨⟨4, by omega, rfl, ?_⟩, by simp [intOf]⟩
        refine congrArg (Value.int .i64) ?_
        first | done | (show _ = 16777216 * (a : Int) + 65536 * (b : Int) + 256 * (c : Int) + (d : Int); omega) | (unfold upToF num4; omega)
    · obtain rfl : q = 4 := by omega
      rw [show ((4 : Nat) : Int) = 4 from rfl, show upToF a b c d 4 = num4 a b c d from rfl]
      go_wp2
      go_ret
      exact ⟨rfl, rfl⟩
end Go.Proofs.Ytibbibpfnpjjdaa

/- bytes.Equal and bytes.Clone. -/
namespace Go.Proofs.Ytibbibpfnpjjdaa
open Go.RowKit
set_option linter.unusedSimpArgs false
set_option linter.unusedVariables false

theorem equal_any (A A' : Option Addr) (n c n' c' : Nat) (P Q : List Nat) (w : World) (h : RdS w w.heap.size 1 A n c (rowsV f8 P)) (h' : RdS w w.heap.size 1 A' n' c' (rowsV f8 Q)) :
    Calls Try.prog 53 #[.slice A n c, .slice A' n' c'] w fun e w' => e = .returned (.bool ((txt P).toList == (txt Q).toList)) ∧ w = w' := by
  have hc1 := conv_txt h
  have hc2 := conv_txt h'
  clear h h'
  go_enter Try.func53, Try.ntmps53
  go_wp2
  go_ret
  exact ⟨rfl, rfl⟩

/-- A slice of the call's own making. -/
def GivesCf (w : World) (L : List Nat) (e : Ending) (w' : World) : Prop :=
  ∃ A c, e = .returned (.slice A L.length c) ∧ RdS w' w'.heap.size 1 A L.length c (rowsV f8 L) ∧ (∀ a, A = some a → 0 < L.length → w.heap.size ≤ a.block) ∧ Below w.heap.size w w'
set_option maxRecDepth 100000 in
set_option maxHeartbeats 1000000 in
theorem clone_anyf (a : Addr) (n c : Nat) (L : List Nat) (w : World) (h : RdS w w.heap.size 1 (some a) n c (rowsV f8 L)) (hn : n ≤ 100000) :
    Calls Try.prog 38 #[.slice (some a) n c] w (GivesCf w L) := by
  have hl := h.rlen f8_len (by decide)
  obtain rfl := hl
  obtain ⟨i0, hi, hz0, hz1, hz2⟩ := info_parts_ info_u8
  have HR := Lib.hid h
  clear h
  have HP : RowKit.Hid (Ow w w.heap.size 5 1 (.slice (some ⟨w.heap.size, 0, none⟩) 0 0) 0 [] (w.alloc (.cells #[] 5))) := Lib.hid (Ow.new_ (cs := #[]) (Below.refl _ _) (Nat.le_refl _) (Nat.le_refl _) (Nat.zero_le _) rfl)
  have HR1 := Lib.hid (HR.out.al (.cells #[] 5))
  have hnil : ∀ w', (binOp .eql 32 (.slice (some a) L.length c) (.slice none 0 0)).run Try.prog w' = .ok (.bool false) w' := fun w' => Lib.run_eql_slice_nil w' _ _ _ _ _ _ _ Try.underlying32
  go_enter Try.func38, Try.ntmps38
  go_wp2_with (first
    | (at_builtin
       refine wpList_push2 rfl (.tmp 5) (.tmp 6) _ rfl _ 5 i0 _ 1 1 Try.underlying32 hi hz0 hz1 hz2 rfl (by decide) _ _ _ rfl HP.out _ _ _ _ _ rfl HR1.out (f8_all L) (by unfold maxLen; omega) (by omega) ?_
       intro v1 W5 how1 hb1 hgr1
       rw [Nat.zero_add, List.nil_append] at how1
       obtain ⟨A5, c5, rfl, hr5⟩ := how1.rds
       have HP5 := Lib.hid how1
       have HR5 := Lib.hid hr5
       clear how1 hb1 hgr1 hr5))
  go_ret
  exact ⟨A5, c5, rfl, HR5.out, fun a ha _ => by subst ha; exact (HP5.out.own.lt a.block rfl).1, HP5.out.below⟩
end Go.Proofs.Ytibbibpfnpjjdaa

/- frame.Take, refused. -/
namespace Go.Proofs.Ytibbibpfnpjjdaa
open Go.RowKit
set_option linter.unusedSimpArgs false
set_option linter.unusedVariables false

def zeroF : FrT := ⟨0, 0, 0, 0, 0, 0⟩
set_option maxRecDepth 100000 in
set_option maxHeartbeats 1000000 in
theorem take_a (A : Option Addr) (n c : Nat) (L : List Nat) (w : World) (h : RdS w w.heap.size 1 A n c (rowsV f8 L)) (hm : n ≤ maxLen) (hn : n < 19) :
    Calls Try.prog 39 #[.slice A n c] w fun e w' => e = .returned (.tuple #[.agg (frCells zeroF none 0 0).toArray, .int .i64 2]) ∧ Below w.heap.size w w' := by
  unfold maxLen at hm
  obtain ⟨E, gE⟩ : ∃ E : Int, (n : Int) - 4 = E := ⟨_, rfl⟩
  have hE : decide (E < 15) = true := decide_eq_true (by omega)
  have hE2 : IntKind.i64.wrap E = E := IntWalk.i64_in _ (by omega)
  clear h hm hn
  have HO : RowKit.Hid (Whole (w.alloc (.cells #[.int .i64 0, .int .i64 0, .int .i64 0, .int .i64 0, .int .i64 0, .int .i64 0, .slice none 0 0] 34)) w.heap.size 34 [.int .i64 0, .int .i64 0, .int .i64 0, .int .i64 0, .int .i64 0, .int .i64 0, .slice none 0 0]) := Lib.hid (Whole.new_ _ _ _)
  have HB : RowKit.Hid (Below w.heap.size w (w.alloc (.cells #[.int .i64 0, .int .i64 0, .int .i64 0, .int .i64 0, .int .i64 0, .int .i64 0, .slice none 0 0] 34))) := Lib.hid (below1 _ _)
  go_enter Try.func39, Try.ntmps39
  go_upto_region 2 with fail
  obtain ⟨W1, gW1⟩ : ∃ x, w.alloc (.cells #[.int .i64 0, .int .i64 0, .int .i64 0, .int .i64 0, .int .i64 0, .int .i64 0, .slice none 0 0] 34) = x := ⟨_, rfl⟩
  obtain ⟨g0, gg0⟩ : ∃ x, w.heap.size = x := ⟨_, rfl⟩
  have HG0 : RowKit.Hid (w.heap.size ≤ g0) := Lib.hid (Nat.le_of_eq gg0)
  rw [gW1] at HO HB ⊢
  rw [gg0] at HO ⊢
  clear gW1 gg0
  refine wp_region_reg (Nil_) (by kernel_rfl) ?_
  apply wpR_next 0 (some 9)
  · simp only [List.getElem?_toArray, List.getElem?_cons_succ, List.getElem?_cons_zero]; exact rfl
  · rfl
  · kernel_rfl
  · kernel_rfl
  · kernel_rfl
  · exact fun _ _ _ _ h => h
  apply Exists.intro
  apply And.intro
  · apply yr_run; rfl; intro w' hw'; go_simp; (try with_reducible rfl)
  simp only [Act.put, List.setIfInBounds_toArray, List.set_cons_zero, List.set_cons_succ]
  apply wpR_next 1 (some 10)
  · simp only [List.getElem?_toArray, List.getElem?_cons_succ, List.getElem?_cons_zero]; exact rfl
  · rfl
  · kernel_rfl
  · kernel_rfl
  · kernel_rfl
  · exact fun _ _ _ _ h => h
  apply Exists.intro
  apply And.intro
  · apply yr_run; rfl; intro w' hw'; go_simp; (try with_reducible rfl)
  simp only [Act.put, List.setIfInBounds_toArray, List.set_cons_zero, List.set_cons_succ]
  apply wpR_next 2 (some 11)
  · simp only [List.getElem?_toArray, List.getElem?_cons_succ, List.getElem?_cons_zero]; exact rfl
  · rfl
  · kernel_rfl
  · kernel_rfl
  · kernel_rfl
  · exact fun _ _ _ _ h => h
  apply Exists.intro
  apply And.intro
  · apply yr_run; rfl; intro w' hw'; go_simp; (try with_reducible rfl)
  simp only [Act.put, List.setIfInBounds_toArray, List.set_cons_zero, List.set_cons_succ]
  apply wpR_next 3 (some 12)
  · simp only [List.getElem?_toArray, List.getElem?_cons_succ, List.getElem?_cons_zero]; exact rfl
  · rfl
  · kernel_rfl
  · kernel_rfl
  · kernel_rfl
  · exact fun _ _ _ _ h => h
  apply Exists.intro
  apply And.intro
  · exact yr_skip (by rfl)
  simp only [Act.put, List.setIfInBounds_toArray, List.set_cons_zero, List.set_cons_succ]
  apply wpR_next 4 (some 13)
  · simp only [List.getElem?_toArray, List.getElem?_cons_succ, List.getElem?_cons_zero]; exact rfl
  · rfl
  · kernel_rfl
  · kernel_rfl
  · kernel_rfl
  · exact fun _ _ _ _ h => h
  apply Exists.intro
  apply And.intro
  · exact yr_skip (by rfl)
  simp only [Act.put, List.setIfInBounds_toArray, List.set_cons_zero, List.set_cons_succ]
  apply wpR_next 5 (some 14)
  · simp only [List.getElem?_toArray, List.getElem?_cons_succ, List.getElem?_cons_zero]; exact rfl
  · rfl
  · kernel_rfl
  · kernel_rfl
  · kernel_rfl
  · exact fun _ _ _ _ h => h
  apply Exists.intro
  apply And.intro
  · apply yr_run; rfl; intro w' hw'; go_simp; (try with_reducible rfl)
  simp only [Act.put, List.setIfInBounds_toArray, List.set_cons_zero, List.set_cons_succ]
  apply wpR_next 6 (some 15)
  · simp only [List.getElem?_toArray, List.getElem?_cons_succ, List.getElem?_cons_zero]; exact rfl
  · rfl
  · kernel_rfl
  · kernel_rfl
  · kernel_rfl
  · exact fun _ _ _ _ h => h
  apply Exists.intro
  apply And.intro
  · apply yr_run; rfl; intro w' hw'; go_simp; (try with_reducible rfl)
  simp only [Act.put, List.setIfInBounds_toArray, List.set_cons_zero, List.set_cons_succ]
  apply wpR_next 7 (some 16)
  · simp only [List.getElem?_toArray, List.getElem?_cons_succ, List.getElem?_cons_zero]; exact rfl
  · rfl
  · kernel_rfl
  · kernel_rfl
  · kernel_rfl
  · exact fun _ _ _ _ h => h
  apply Exists.intro
  apply And.intro
  · exact yr_skip (by rfl)
  simp only [Act.put, List.setIfInBounds_toArray, List.set_cons_zero, List.set_cons_succ]
  apply wpR_next 8 (some 17)
  · simp only [List.getElem?_toArray, List.getElem?_cons_succ, List.getElem?_cons_zero]; exact rfl
  · rfl
  · kernel_rfl
  · kernel_rfl
  · kernel_rfl
  · exact fun _ _ _ _ h => h
  apply Exists.intro
  apply And.intro
  · exact yr_skip (by rfl)
  simp only [Act.put, List.setIfInBounds_toArray, List.set_cons_zero, List.set_cons_succ]
  apply wpR_next 9 (some 18)
  · simp only [List.getElem?_toArray, List.getElem?_cons_succ, List.getElem?_cons_zero]; exact rfl
  · rfl
  · kernel_rfl
  · kernel_rfl
  · kernel_rfl
  · exact fun _ _ _ _ h => h
  apply Exists.intro
  apply And.intro
  · exact yr_skip (by rfl)
  simp only [Act.put, List.setIfInBounds_toArray, List.set_cons_zero, List.set_cons_succ]
  apply wpR_next 10 (some 19)
  · simp only [List.getElem?_toArray, List.getElem?_cons_succ, List.getElem?_cons_zero]; exact rfl
  · rfl
  · kernel_rfl
  · kernel_rfl
  · kernel_rfl
  · exact fun _ _ _ _ h => h
  apply Exists.intro
  apply And.intro
  · exact yr_skip (by rfl)
  simp only [Act.put, List.setIfInBounds_toArray, List.set_cons_zero, List.set_cons_succ]
  apply wpR_next 11 (some 20)
  · simp only [List.getElem?_toArray, List.getElem?_cons_succ, List.getElem?_cons_zero]; exact rfl
  · rfl
  · kernel_rfl
  · kernel_rfl
  · kernel_rfl
  · exact fun _ _ _ _ h => h
  apply Exists.intro
  apply And.intro
  · exact yr_skip (by rfl)
  simp only [Act.put, List.setIfInBounds_toArray, List.set_cons_zero, List.set_cons_succ]
  apply wpR_next 12 (some 21)
  · simp only [List.getElem?_toArray, List.getElem?_cons_succ, List.getElem?_cons_zero]; exact rfl
  · rfl
  · kernel_rfl
  · kernel_rfl
  · kernel_rfl
  · exact fun _ _ _ _ h => h
  apply Exists.intro
  apply And.intro
  · exact yr_skip (by rfl)
  simp only [Act.put, List.setIfInBounds_toArray, List.set_cons_zero, List.set_cons_succ]
  apply wpR_next 13 (some 22)
  · simp only [List.getElem?_toArray, List.getElem?_cons_succ, List.getElem?_cons_zero]; exact rfl
  · rfl
  · kernel_rfl
  · kernel_rfl
  · kernel_rfl
  · exact fun _ _ _ _ h => h
  apply Exists.intro
  apply And.intro
  · exact yr_skip (by rfl)
  simp only [Act.put, List.setIfInBounds_toArray, List.set_cons_zero, List.set_cons_succ]
  apply wpR_next 14 (some 23)
  · simp only [List.getElem?_toArray, List.getElem?_cons_succ, List.getElem?_cons_zero]; exact rfl
  · rfl
  · kernel_rfl
  · kernel_rfl
  · kernel_rfl
  · exact fun _ _ _ _ h => h
  apply Exists.intro
  apply And.intro
  · exact yr_skip (by rfl)
  simp only [Act.put, List.setIfInBounds_toArray, List.set_cons_zero, List.set_cons_succ]
  apply wpR_next 15 (some 24)
  · simp only [List.getElem?_toArray, List.getElem?_cons_succ, List.getElem?_cons_zero]; exact rfl
  · rfl
  · kernel_rfl
  · kernel_rfl
  · kernel_rfl
  · exact fun _ _ _ _ h => h
  apply Exists.intro
  apply And.intro
  · exact yr_skip (by rfl)
  simp only [Act.put, List.setIfInBounds_toArray, List.set_cons_zero, List.set_cons_succ]
  apply wpR_next 16 (some 25)
  · simp only [List.getElem?_toArray, List.getElem?_cons_succ, List.getElem?_cons_zero]; exact rfl
  · rfl
  · kernel_rfl
  · kernel_rfl
  · kernel_rfl
  · exact fun _ _ _ _ h => h
  apply Exists.intro
  apply And.intro
  · apply yr_run; rfl; intro w' hw'; go_simp; (try with_reducible rfl)
  simp only [Act.put, List.setIfInBounds_toArray, List.set_cons_zero, List.set_cons_succ]
  refine wpR_done (by kernel_rfl) ?_ _
  intro W2 hw2
  have HO2 := Lib.hid (HO.out.drew.below hw2)
  have HB2 : RowKit.Hid (Below w.heap.size w W2) := Lib.hid (HB.out.drew.trans (hw2.mono HB.out.size))
  clear HO HB hw2
  go_upto_region 3 with fail
  refine wp_region_lit ?_
  refine wl_read (v := ?_) (some 26) rfl (by rfl) ?_ ?_
  rotate_left
  · go_simp; (try with_reducible rfl)
  simp only [Act.put, List.setIfInBounds_toArray, List.set_cons_zero, List.set_cons_succ]
  refine wpList_store_row rfl 34 (.tmp 2) (.tmp 26) rfl g0 #[.int .i64 0, .int .i64 0, .int .i64 0, .int .i64 0, .int .i64 0, .int .i64 0, .slice none 0 0] rfl rfl 34 #[.int .i64 0, .int .i64 0, .int .i64 0, .int .i64 0, .int .i64 0, .int .i64 0, .slice none 0 0] HO2.out (by kernel_rfl) rfl (by simp [Value.oneCell']) ?_
  have HO3 : RowKit.Hid (Whole (W2.setRow g0 #[.int .i64 0, .int .i64 0, .int .i64 0, .int .i64 0, .int .i64 0, .int .i64 0, .slice none 0 0]) g0 34 [.int .i64 0, .int .i64 0, .int .i64 0, .int .i64 0, .int .i64 0, .int .i64 0, .slice none 0 0]) := Lib.hid (setRow_heap W2 g0 _ _ _ _ HO2.out)
  have HB3 : RowKit.Hid (Below w.heap.size w (W2.setRow g0 #[.int .i64 0, .int .i64 0, .int .i64 0, .int .i64 0, .int .i64 0, .int .i64 0, .slice none 0 0])) := Lib.hid (below_row HB2.out HG0.out _)
  obtain ⟨W3, gW3⟩ : ∃ x, W2.setRow g0 #[.int .i64 0, .int .i64 0, .int .i64 0, .int .i64 0, .int .i64 0, .int .i64 0, .slice none 0 0] = x := ⟨_, rfl⟩
  rw [gW3] at HO3 HB3 ⊢
  clear gW3 HO2 HB2
  have x0 := HO3.out.cell (i := 0) rfl
  have x1 := HO3.out.cell (i := 1) rfl
  have x2 := HO3.out.cell (i := 2) rfl
  have x3 := HO3.out.cell (i := 3) rfl
  have x4 := HO3.out.cell (i := 4) rfl
  have x5 := HO3.out.cell (i := 5) rfl
  have x6 := HO3.out.cell (i := 6) rfl
  go_wp2
  refine bodyPost_ret (v := .tuple #[.agg #[.int .i64 0, .int .i64 0, .int .i64 0, .int .i64 0, .int .i64 0, .int .i64 0, .slice none 0 0], .int .i64 2]) (by simp [results, Try.results39, go_sem, x0, x1, x2, x3, x4, x5, x6]) rfl ⟨rfl, HB3.out⟩
set_option maxRecDepth 100000 in
set_option maxHeartbeats 1000000 in
theorem take_b (A : Option Addr) (n c : Nat) (L : List Nat) (w : World) (h : RdS w w.heap.size 1 A n c (rowsV f8 L)) (hm : n ≤ maxLen) (hn : 16403 < n) :
    Calls Try.prog 39 #[.slice A n c] w fun e w' => e = .returned (.tuple #[.agg (frCells zeroF none 0 0).toArray, .int .i64 2]) ∧ Below w.heap.size w w' := by
  unfold maxLen at hm
  obtain ⟨E, gE⟩ : ∃ E : Int, (n : Int) - 4 = E := ⟨_, rfl⟩
  have hE : decide (E < 15) = false := decide_eq_false (by omega)
  have hE3 : decide (16399 < E) = true := decide_eq_true (by omega)
  have hE2 : IntKind.i64.wrap E = E := IntWalk.i64_in _ (by omega)
  clear h hm hn
  have HO : RowKit.Hid (Whole (w.alloc (.cells #[.int .i64 0, .int .i64 0, .int .i64 0, .int .i64 0, .int .i64 0, .int .i64 0, .slice none 0 0] 34)) w.heap.size 34 [.int .i64 0, .int .i64 0, .int .i64 0, .int .i64 0, .int .i64 0, .int .i64 0, .slice none 0 0]) := Lib.hid (Whole.new_ _ _ _)
  have HB : RowKit.Hid (Below w.heap.size w (w.alloc (.cells #[.int .i64 0, .int .i64 0, .int .i64 0, .int .i64 0, .int .i64 0, .int .i64 0, .slice none 0 0] 34))) := Lib.hid (below1 _ _)
  go_enter Try.func39, Try.ntmps39
  go_upto_region 2 with fail
  obtain ⟨W1, gW1⟩ : ∃ x, w.alloc (.cells #[.int .i64 0, .int .i64 0, .int .i64 0, .int .i64 0, .int .i64 0, .int .i64 0, .slice none 0 0] 34) = x := ⟨_, rfl⟩
  obtain ⟨g0, gg0⟩ : ∃ x, w.heap.size = x := ⟨_, rfl⟩
  have HG0 : RowKit.Hid (w.heap.size ≤ g0) := Lib.hid (Nat.le_of_eq gg0)
  rw [gW1] at HO HB ⊢
  rw [gg0] at HO ⊢
  clear gW1 gg0
  refine wp_region_reg (Nil_) (by kernel_rfl) ?_
  apply wpR_next 0 (some 9)
  · simp only [List.getElem?_toArray, List.getElem?_cons_succ, List.getElem?_cons_zero]; exact rfl
  · rfl
  · kernel_rfl
  · kernel_rfl
  · kernel_rfl
  · exact fun _ _ _ _ h => h
  apply Exists.intro
  apply And.intro
  · apply yr_run; rfl; intro w' hw'; go_simp; (try with_reducible rfl)
  simp only [Act.put, List.setIfInBounds_toArray, List.set_cons_zero, List.set_cons_succ]
  apply wpR_next 1 (some 10)
  · simp only [List.getElem?_toArray, List.getElem?_cons_succ, List.getElem?_cons_zero]; exact rfl
  · rfl
  · kernel_rfl
  · kernel_rfl
  · kernel_rfl
  · exact fun _ _ _ _ h => h
  apply Exists.intro
  apply And.intro
  · apply yr_run; rfl; intro w' hw'; go_simp; (try with_reducible rfl)
  simp only [Act.put, List.setIfInBounds_toArray, List.set_cons_zero, List.set_cons_succ]
  apply wpR_next 2 (some 11)
  · simp only [List.getElem?_toArray, List.getElem?_cons_succ, List.getElem?_cons_zero]; exact rfl
  · rfl
  · kernel_rfl
  · kernel_rfl
  · kernel_rfl
  · exact fun _ _ _ _ h => h
  apply Exists.intro
  apply And.intro
  · apply yr_run; rfl; intro w' hw'; go_simp; (try with_reducible rfl)
  simp only [Act.put, List.setIfInBounds_toArray, List.set_cons_zero, List.set_cons_succ]
  apply wpR_next 3 (some 12)
  · simp only [List.getElem?_toArray, List.getElem?_cons_succ, List.getElem?_cons_zero]; exact rfl
  · rfl
  · kernel_rfl
  · kernel_rfl
  · kernel_rfl
  · exact fun _ _ _ _ h => h
  apply Exists.intro
  apply And.intro
  · apply yr_run; rfl; intro w' hw'; go_simp; (try with_reducible rfl)
  simp only [Act.put, List.setIfInBounds_toArray, List.set_cons_zero, List.set_cons_succ]
  apply wpR_next 4 (some 13)
  · simp only [List.getElem?_toArray, List.getElem?_cons_succ, List.getElem?_cons_zero]; exact rfl
  · rfl
  · kernel_rfl
  · kernel_rfl
  · kernel_rfl
  · exact fun _ _ _ _ h => h
  apply Exists.intro
  apply And.intro
  · apply yr_run; rfl; intro w' hw'; go_simp; (try with_reducible rfl)
  simp only [Act.put, List.setIfInBounds_toArray, List.set_cons_zero, List.set_cons_succ]
  apply wpR_next 5 (some 14)
  · simp only [List.getElem?_toArray, List.getElem?_cons_succ, List.getElem?_cons_zero]; exact rfl
  · rfl
  · kernel_rfl
  · kernel_rfl
  · kernel_rfl
  · exact fun _ _ _ _ h => h
  apply Exists.intro
  apply And.intro
  · apply yr_run; rfl; intro w' hw'; go_simp; (try with_reducible rfl)
  simp only [Act.put, List.setIfInBounds_toArray, List.set_cons_zero, List.set_cons_succ]
  apply wpR_next 6 (some 15)
  · simp only [List.getElem?_toArray, List.getElem?_cons_succ, List.getElem?_cons_zero]; exact rfl
  · rfl
  · kernel_rfl
  · kernel_rfl
  · kernel_rfl
  · exact fun _ _ _ _ h => h
  apply Exists.intro
  apply And.intro
  · apply yr_run; rfl; intro w' hw'; go_simp; (try with_reducible rfl)
  simp only [Act.put, List.setIfInBounds_toArray, List.set_cons_zero, List.set_cons_succ]
  apply wpR_next 7 (some 16)
  · simp only [List.getElem?_toArray, List.getElem?_cons_succ, List.getElem?_cons_zero]; exact rfl
  · rfl
  · kernel_rfl
  · kernel_rfl
  · kernel_rfl
  · exact fun _ _ _ _ h => h
  apply Exists.intro
  apply And.intro
  · exact yr_skip (by rfl)
  simp only [Act.put, List.setIfInBounds_toArray, List.set_cons_zero, List.set_cons_succ]
  apply wpR_next 8 (some 17)
  · simp only [List.getElem?_toArray, List.getElem?_cons_succ, List.getElem?_cons_zero]; exact rfl
  · rfl
  · kernel_rfl
  · kernel_rfl
  · kernel_rfl
  · exact fun _ _ _ _ h => h
  apply Exists.intro
  apply And.intro
  · exact yr_skip (by rfl)
  simp only [Act.put, List.setIfInBounds_toArray, List.set_cons_zero, List.set_cons_succ]
  apply wpR_next 9 (some 18)
  · simp only [List.getElem?_toArray, List.getElem?_cons_succ, List.getElem?_cons_zero]; exact rfl
  · rfl
  · kernel_rfl
  · kernel_rfl
  · kernel_rfl
  · exact fun _ _ _ _ h => h
  apply Exists.intro
  apply And.intro
  · exact yr_skip (by rfl)
  simp only [Act.put, List.setIfInBounds_toArray, List.set_cons_zero, List.set_cons_succ]
  apply wpR_next 10 (some 19)
  · simp only [List.getElem?_toArray, List.getElem?_cons_succ, List.getElem?_cons_zero]; exact rfl
  · rfl
  · kernel_rfl
  · kernel_rfl
  · kernel_rfl
  · exact fun _ _ _ _ h => h
  apply Exists.intro
  apply And.intro
  · exact yr_skip (by rfl)
  simp only [Act.put, List.setIfInBounds_toArray, List.set_cons_zero, List.set_cons_succ]
  apply wpR_next 11 (some 20)
  · simp only [List.getElem?_toArray, List.getElem?_cons_succ, List.getElem?_cons_zero]; exact rfl
  · rfl
  · kernel_rfl
  · kernel_rfl
  · kernel_rfl
  · exact fun _ _ _ _ h => h
  apply Exists.intro
  apply And.intro
  · exact yr_skip (by rfl)
  simp only [Act.put, List.setIfInBounds_toArray, List.set_cons_zero, List.set_cons_succ]
  apply wpR_next 12 (some 21)
  · simp only [List.getElem?_toArray, List.getElem?_cons_succ, List.getElem?_cons_zero]; exact rfl
  · rfl
  · kernel_rfl
  · kernel_rfl
  · kernel_rfl
  · exact fun _ _ _ _ h => h
  apply Exists.intro
  apply And.intro
  · exact yr_skip (by rfl)
  simp only [Act.put, List.setIfInBounds_toArray, List.set_cons_zero, List.set_cons_succ]
  apply wpR_next 13 (some 22)
  · simp only [List.getElem?_toArray, List.getElem?_cons_succ, List.getElem?_cons_zero]; exact rfl
  · rfl
  · kernel_rfl
  · kernel_rfl
  · kernel_rfl
  · exact fun _ _ _ _ h => h
  apply Exists.intro
  apply And.intro
  · exact yr_skip (by rfl)
  simp only [Act.put, List.setIfInBounds_toArray, List.set_cons_zero, List.set_cons_succ]
  apply wpR_next 14 (some 23)
  · simp only [List.getElem?_toArray, List.getElem?_cons_succ, List.getElem?_cons_zero]; exact rfl
  · rfl
  · kernel_rfl
  · kernel_rfl
  · kernel_rfl
  · exact fun _ _ _ _ h => h
  apply Exists.intro
  apply And.intro
  · exact yr_skip (by rfl)
  simp only [Act.put, List.setIfInBounds_toArray, List.set_cons_zero, List.set_cons_succ]
  apply wpR_next 15 (some 24)
  · simp only [List.getElem?_toArray, List.getElem?_cons_succ, List.getElem?_cons_zero]; exact rfl
  · rfl
  · kernel_rfl
  · kernel_rfl
  · kernel_rfl
  · exact fun _ _ _ _ h => h
  apply Exists.intro
  apply And.intro
  · exact yr_skip (by rfl)
  simp only [Act.put, List.setIfInBounds_toArray, List.set_cons_zero, List.set_cons_succ]
  apply wpR_next 16 (some 25)
  · simp only [List.getElem?_toArray, List.getElem?_cons_succ, List.getElem?_cons_zero]; exact rfl
  · rfl
  · kernel_rfl
  · kernel_rfl
  · kernel_rfl
  · exact fun _ _ _ _ h => h
  apply Exists.intro
  apply And.intro
  · apply yr_run; rfl; intro w' hw'; go_simp; (try with_reducible rfl)
  simp only [Act.put, List.setIfInBounds_toArray, List.set_cons_zero, List.set_cons_succ]
  refine wpR_done (by kernel_rfl) ?_ _
  intro W2 hw2
  have HO2 := Lib.hid (HO.out.drew.below hw2)
  have HB2 : RowKit.Hid (Below w.heap.size w W2) := Lib.hid (HB.out.drew.trans (hw2.mono HB.out.size))
  clear HO HB hw2
  go_upto_region 3 with fail
  refine wp_region_lit ?_
  refine wl_read (v := ?_) (some 26) rfl (by rfl) ?_ ?_
  rotate_left
  · go_simp; (try with_reducible rfl)
  simp only [Act.put, List.setIfInBounds_toArray, List.set_cons_zero, List.set_cons_succ]
  refine wpList_store_row rfl 34 (.tmp 2) (.tmp 26) rfl g0 #[.int .i64 0, .int .i64 0, .int .i64 0, .int .i64 0, .int .i64 0, .int .i64 0, .slice none 0 0] rfl rfl 34 #[.int .i64 0, .int .i64 0, .int .i64 0, .int .i64 0, .int .i64 0, .int .i64 0, .slice none 0 0] HO2.out (by kernel_rfl) rfl (by simp [Value.oneCell']) ?_
  have HO3 : RowKit.Hid (Whole (W2.setRow g0 #[.int .i64 0, .int .i64 0, .int .i64 0, .int .i64 0, .int .i64 0, .int .i64 0, .slice none 0 0]) g0 34 [.int .i64 0, .int .i64 0, .int .i64 0, .int .i64 0, .int .i64 0, .int .i64 0, .slice none 0 0]) := Lib.hid (setRow_heap W2 g0 _ _ _ _ HO2.out)
  have HB3 : RowKit.Hid (Below w.heap.size w (W2.setRow g0 #[.int .i64 0, .int .i64 0, .int .i64 0, .int .i64 0, .int .i64 0, .int .i64 0, .slice none 0 0])) := Lib.hid (below_row HB2.out HG0.out _)
  obtain ⟨W3, gW3⟩ : ∃ x, W2.setRow g0 #[.int .i64 0, .int .i64 0, .int .i64 0, .int .i64 0, .int .i64 0, .int .i64 0, .slice none 0 0] = x := ⟨_, rfl⟩
  rw [gW3] at HO3 HB3 ⊢
  clear gW3 HO2 HB2
  have x0 := HO3.out.cell (i := 0) rfl
  have x1 := HO3.out.cell (i := 1) rfl
  have x2 := HO3.out.cell (i := 2) rfl
  have x3 := HO3.out.cell (i := 3) rfl
  have x4 := HO3.out.cell (i := 4) rfl
  have x5 := HO3.out.cell (i := 5) rfl
  have x6 := HO3.out.cell (i := 6) rfl
  go_wp2
  refine bodyPost_ret (v := .tuple #[.agg #[.int .i64 0, .int .i64 0, .int .i64 0, .int .i64 0, .int .i64 0, .int .i64 0, .slice none 0 0], .int .i64 2]) (by simp [results, Try.results39, go_sem, x0, x1, x2, x3, x4, x5, x6]) rfl ⟨rfl, HB3.out⟩
end Go.Proofs.Ytibbibpfnpjjdaa

/- What bytes are as a frame. -/
namespace Go.Proofs.Ytibbibpfnpjjdaa
open Go.RowKit
set_option linter.unusedSimpArgs false
set_option linter.unusedVariables false

def bodyOf (L : List Nat) : List Nat := (L.take (L.length - 4)).drop 15
def frOf : List Nat → FrT
  | a0 :: a1 :: a2 :: a3 :: a4 :: a5 :: a6 :: a7 :: a8 :: a9 :: b0 :: b1 :: b2 :: b3 :: b4 :: _ => ⟨a0, a1, a2, num4 a3 a4 a5 a6, num4 a7 a8 a9 b0, num4 b1 b2 b3 b4⟩
  | _ => zeroF
def sealB (L : List Nat) : Bool := decide (le4 (crc (L.take (L.length - 4))) = L.drop (L.length - 4))
def okF (L : List Nat) : Bool := decide (19 ≤ L.length ∧ L.length ≤ 16403) && (sealB L && decide (mayF (frOf L) (bodyOf L).length = 0))
/-- What a frame's Take gives: the frame, its body, what is wrong. -/
def takeR (L : List Nat) : FrT × List Nat × Int := if okF L = true then (frOf L, bodyOf L, 0) else (zeroF, [], 2)

theorem heads {L : List Nat} (h : 15 ≤ L.length) : ∃ a0 a1 a2 a3 a4 a5 a6 a7 a8 a9 b0 b1 b2 b3 b4 R, L = a0 :: a1 :: a2 :: a3 :: a4 :: a5 :: a6 :: a7 :: a8 :: a9 :: b0 :: b1 :: b2 :: b3 :: b4 :: R := by
  match L, h with
  | a0 :: a1 :: a2 :: a3 :: a4 :: a5 :: a6 :: a7 :: a8 :: a9 :: b0 :: b1 :: b2 :: b3 :: b4 :: R, _ => exact ⟨a0, a1, a2, a3, a4, a5, a6, a7, a8, a9, b0, b1, b2, b3, b4, R, rfl⟩
theorem be4_num4 {a b c d : Nat} (ha : a < 256) (hb : b < 256) (hc : c < 256) (hd : d < 256) : be4 (num4 a b c d) = [a, b, c, d] := by
  unfold be4 num4
  simp only [List.cons.injEq, and_true]
  omega
theorem headF_frOf {L : List Nat} (h : 15 ≤ L.length) (hb : ∀ b ∈ L, b < 256) : headF (frOf L) = L.take 15 := by
  obtain ⟨a0, a1, a2, a3, a4, a5, a6, a7, a8, a9, b0, b1, b2, b3, b4, R, rfl⟩ := heads h
  simp only [List.forall_mem_cons] at hb
  obtain ⟨h0, h1, h2, h3, h4, h5, h6, h7, h8, h9, k0, k1, k2, k3, k4, -⟩ := hb
  unfold headF frOf
  simp only [be4_num4 h3 h4 h5 h6, be4_num4 h7 h8 h9 k0, be4_num4 k1 k2 k3 k4, Int.toNat_natCast, List.cons_append, List.nil_append, List.take_succ_cons, List.take_zero]
theorem put_frOf {L : List Nat} (h : 19 ≤ L.length) (hb : ∀ b ∈ L, b < 256) : putF (frOf L) (bodyOf L) = L.take (L.length - 4) ++ le4 (crc (L.take (L.length - 4))) := by
  have e : headF (frOf L) ++ bodyOf L = L.take (L.length - 4) := by
    rw [headF_frOf (by omega) hb]
    unfold bodyOf
    have : L.take 15 = (L.take (L.length - 4)).take 15 := by rw [List.take_take, Nat.min_eq_left (by omega)]
    rw [this, List.take_append_drop]
  unfold putF
  rw [e]
theorem bodyOf_len {L : List Nat} (h : 19 ≤ L.length) : (bodyOf L).length = L.length - 19 := by
  unfold bodyOf
  rw [List.length_drop, List.length_take]
  omega
theorem put_is {L : List Nat} (h : 19 ≤ L.length) (hb : ∀ b ∈ L, b < 256) : putF (frOf L) (bodyOf L) = L ↔ sealB L = true := by
  rw [put_frOf h hb]
  unfold sealB
  rw [decide_eq_true_iff]
  constructor
  · intro e
    have e2 : L.take (L.length - 4) ++ le4 (crc (L.take (L.length - 4))) = L.take (L.length - 4) ++ L.drop (L.length - 4) := by rw [e, List.take_append_drop]
    exact List.append_cancel_left e2
  · intro e
    rw [e, List.take_append_drop]
theorem ok_ref {L : List Nat} (h : 19 ≤ L.length) (hb : ∀ b ∈ L, b < 256) : okF L = true ↔ mayF (frOf L) (bodyOf L).length = 0 ∧ putF (frOf L) (bodyOf L) = L := by
  rw [put_is h hb]
  unfold okF
  rw [Bool.and_eq_true, Bool.and_eq_true, decide_eq_true_iff, decide_eq_true_iff]
  constructor
  · rintro ⟨_, h1, h2⟩
    exact ⟨h2, h1⟩
  · rintro ⟨h1, h2⟩
    refine ⟨⟨h, ?_⟩, h2, h1⟩
    have := (may_bounds h1).2.2.2.2.2.2
    rw [bodyOf_len h] at this
    omega
theorem num4_be4 {x : Int} (h : 0 ≤ x ∧ x ≤ 1073741824) : num4 (x / 16777216 % 256).toNat (x / 65536 % 256).toNat (x / 256 % 256).toNat (x % 256).toNat = x := by
  unfold num4
  omega
theorem frOf_head {f : FrT} {n : Nat} (h : mayF f n = 0) (M : List Nat) : frOf (headF f ++ M) = f := by
  obtain ⟨⟨a1, a2⟩, ⟨b1, b2⟩, ⟨c1, c2⟩, d, e, i, _⟩ := may_bounds h
  show (⟨(f.k.toNat : Int), (f.fr.toNat : Int), (f.tt.toNat : Int), num4 _ _ _ _, num4 _ _ _ _, num4 _ _ _ _⟩ : FrT) = f
  rw [num4_be4 d, num4_be4 e, num4_be4 i, Int.toNat_of_nonneg (by omega), Int.toNat_of_nonneg b1, Int.toNat_of_nonneg c1]
theorem putF_len (f : FrT) (M : List Nat) : (putF f M).length = 19 + M.length := by
  simp [putF, headF_len, le4]; omega
theorem take_put (f : FrT) (M : List Nat) : (putF f M).take ((putF f M).length - 4) = headF f ++ M ∧ (putF f M).drop ((putF f M).length - 4) = le4 (crc (headF f ++ M)) := by
  have hl : (putF f M).length - 4 = (headF f ++ M).length := by rw [putF_len, List.length_append, headF_len]; omega
  rw [hl]
  unfold putF
  exact ⟨List.take_left, List.drop_left⟩
theorem body_put (f : FrT) (M : List Nat) : bodyOf (putF f M) = M := by
  unfold bodyOf
  rw [(take_put f M).1]
  exact List.drop_left (l₁ := headF f)
theorem frOf_put {f : FrT} {n : Nat} (h : mayF f n = 0) (M : List Nat) : frOf (putF f M) = f := by
  unfold putF
  rw [List.append_assoc]
  exact frOf_head h _
theorem ok_put {f : FrT} {M : List Nat} (h : mayF f M.length = 0) : okF (putF f M) = true := by
  unfold okF
  rw [body_put, frOf_put h]
  unfold sealB
  rw [(take_put f M).1, (take_put f M).2, putF_len]
  have := (may_bounds h).2.2.2.2.2.2
  simp [h]
  omega
theorem take_of_put {f : FrT} {M : List Nat} (h : mayF f M.length = 0) : takeR (putF f M) = (f, M, 0) := by
  unfold takeR
  rw [if_pos (ok_put h), body_put, frOf_put h]
theorem putF_lt {f : FrT} {M : List Nat} {n : Nat} (h : mayF f n = 0) (hb : ∀ b ∈ M, b < 256) : ∀ b ∈ putF f M, b < 256 := by
  intro b hm
  unfold putF at hm
  rcases List.mem_append.1 hm with hm | hm
  · rcases List.mem_append.1 hm with hm | hm
    · exact headF_lt h b hm
    · exact hb b hm
  · exact le4_lt _ b hm
end Go.Proofs.Ytibbibpfnpjjdaa

/- sync.Once in one goroutine: the lock, the two deferred calls; the closure that lays a tally's numbers; Do. -/
namespace Go.Proofs.Ytibbibpfnpjjdaa
open Go.RowKit

theorem ta_disable (w : World) : (callFunc 76 #[]).run Try.prog w = .ok (.value (.tuple #[])) w := run_call_mark0 Try.func76 (by kernel_rfl) (by kernel_rfl) (by kernel_rfl) .disable (by kernel_rfl) w
theorem ta_enable (w : World) : (callFunc 78 #[]).run Try.prog w = .ok (.value (.tuple #[])) w := run_call_mark0 Try.func78 (by kernel_rfl) (by kernel_rfl) (by kernel_rfl) .enable (by kernel_rfl) w
theorem ta_acquire (a : Addr) (w : World) : (callFunc 79 #[.pointer (some a)]).run Try.prog w = .ok (.value (.tuple #[])) w := run_call_marked Try.func79 (by kernel_rfl) (by kernel_rfl) (by kernel_rfl) .acquire (by kernel_rfl) a w
theorem ta_releaseMerge (a : Addr) (w : World) : (callFunc 81 #[.pointer (some a)]).run Try.prog w = .ok (.value (.tuple #[])) w := run_call_marked Try.func81 (by kernel_rfl) (by kernel_rfl) (by kernel_rfl) .releaseMerge (by kernel_rfl) a w

/-- '(*sync/atomic.Bool).Store(true)', entered as a deferred call: the cell holds 1. -/
theorem ta_store_deferred (a : Addr) (x : Value) (u : FrameMode) (w : World) (hc : w.cell? a = some x) (hz : w.frozen? a = false) :
    CallsD Try.prog 71 #[.pointer (some a), .bool true] u w fun e u' w' => u' = u ∧ (e = .returned (.tuple #[]) ∧ w' = w.drew.setCell a (.int .u32 1)) := by
  have hc' : w.drew.cell? a = some x := by go_simp
  have hz' : w.drew.frozen? a = false := by go_simp
  have hst := run_call_store (P := Try.prog) Try.func74 (by kernel_rfl) (by kernel_rfl) (by kernel_rfl) (by kernel_rfl) (k := .u32) (y := 1) hc' hz'
  go_enter_d Try.func71, Try.ntmps71
  go_wp2
  go_region_calls
  all_goals (go_end0; exact ⟨rfl, rfl⟩)

set_option maxRecDepth 100000 in
/-- '(*sync.Mutex).Unlock', entered as a deferred call, the lock held and nobody waiting. -/
theorem ta_unlock_deferred (a : Addr) (u : FrameMode) (w : World) (hc : w.cell? a = some (.int .i32 1)) (hz : w.frozen? a = false) :
    CallsD Try.prog 70 #[.pointer (some a)] u w fun e u' w' => u' = u ∧ (e = .returned (.tuple #[]) ∧ w' = w.setCell a (.int .i32 0)) := by
  have hd := ta_disable
  have he := ta_enable
  have hr := ta_releaseMerge
  have hadd := run_call_add (P := Try.prog) Try.func82 (by kernel_rfl) (by kernel_rfl) (by kernel_rfl) .i32 (by kernel_rfl) (y := -1) (s := 0) hc hz (by simp [go_sem]; rfl)
  have hcv := run_convert_to_unsafe (P := Try.prog) (src := 113) (dst := 117) Try.underlying113 Try.underlying117 (by kernel_rfl) hc
  go_enter_d Try.func70, Try.ntmps70
  go_wp2
  go_end0
  go_wp2
  go_end0
  exact ⟨rfl, rfl⟩

set_option maxRecDepth 100000 in
/-- '(*sync.Mutex).Lock', the lock free. -/
theorem ta_lock (a : Addr) (w : World) (hc : w.cell? a = some (.int .i32 0)) (hz : w.frozen? a = false) :
    Calls Try.prog 69 #[.pointer (some a)] w fun e w' => e = .returned (.tuple #[]) ∧ w' = w.setCell a (.int .i32 1) := by
  have hd := ta_disable
  have he := ta_enable
  have ha := ta_acquire
  have hcas := run_call_cas_hit (P := Try.prog) Try.func77 (by kernel_rfl) (by kernel_rfl) (by kernel_rfl) .i32 (by kernel_rfl) (y := 1) hc hz
  have hc' : (w.setCell a (.int .i32 1)).cell? a = some (.int .i32 1) := World.cell?_setCell_same w a _ hc
  have hcv := run_convert_to_unsafe (P := Try.prog) (src := 113) (dst := 117) Try.underlying113 Try.underlying117 (by kernel_rfl) hc'
  go_enter Try.func69, Try.ntmps69
  go_wp2
  first | go_end0 | (simp only [Exit.inBlock, Exit.then]; refine bodyPost_ret (results_none rfl _ _ _) rfl ?_) | refine bodyPost_ret (results_none rfl _ _ _) rfl ?_
  go_wp2
  go_end0
  exact ⟨rfl, rfl⟩

/-- A tally's cells. -/
def tcells (ks : Nat) (d l : Int) (v : Value) : List Value := [.int .i64 ks, .int .u32 d, .int .i32 l, .int .u32 0, v]

theorem info_a64 : (Try.prog.info? 84).map (fun i => (i.zero, i.size, i.bytes)) = some (some (.agg #[.int .i64 0]), 1, 8) := by kernel_rfl
end Go.Proofs.Ytibbibpfnpjjdaa

/- The closure that lays a tally's numbers. -/
namespace Go.Proofs.Ytibbibpfnpjjdaa
open Go.RowKit

theorem made_one (z : Value) (n : Nat) : madeCells #[z] n = Array.replicate n z := by
  apply Array.ext'
  rw [toList_madeCells_one, Array.toList_replicate]

theorem ta_make (ks : Nat) (hk : ks ≤ 64) (W : World) : (Instr.makeSlice 79 (.int .i64 (ks : Int)) (.int .i64 (ks : Int))).run Try.prog W = .ok (.slice (some ⟨W.heap.size, 0, none⟩) ks ks) (W.alloc (.cells (Array.replicate ks (Value.int .i64 0)) 84)) := by
  obtain ⟨i0, hi, hz0, hz1, hz2⟩ := info_parts info_a64
  have := run_make (P := Try.prog) W 79 84 i0 (.agg #[.int .i64 0]) Try.underlying79 hi hz0 .i64 .i64 (ks : Int) (ks : Int) (by omega) (by omega) (by rw [hz2]; omega) (by omega)
  rw [hz1] at this
  simp only [Int.toNat_natCast, Nat.mul_one, Value.cells, made_one] at this
  exact this

set_option maxRecDepth 100000 in
theorem ta_closure (pb b ks : Nat) (hk : ks ≤ 64) (w : World) (hp : Whole w pb 55 [.pointer (some ⟨b, 0, none⟩)]) (hb : Whole w b 81 (tcells ks 0 1 (.slice none 0 0))) :
    Calls Try.prog 56 #[.pointer (some ⟨pb, 0, none⟩)] w fun e w' => e = .returned (.tuple #[]) ∧
      ∃ g, w.heap.size ≤ g ∧ Whole w' b 81 (tcells ks 0 1 (.slice (some ⟨g, 0, none⟩) ks ks)) ∧ Whole w' g 84 (List.replicate ks (.int .i64 0)) ∧ Kept (· = b) w w' := by
  have hmk := ta_make ks hk
  have c0 : w.cell? ⟨b, 0, none⟩ = some (.int .i64 (ks : Int)) := hb.cell rfl
  have c4 : w.cell? ⟨b, 4, none⟩ = some (.slice none 0 0) := hb.cell rfl
  have f4 : w.frozen? ⟨b, 4, none⟩ = false := hb.free 4
  have p0 : w.cell? ⟨pb, 0, none⟩ = some (.pointer (some ⟨b, 0, none⟩)) := hp.cell rfl
  have hlt := hb.lt
  have hlp := hp.lt
  have HB := Lib.hid hb
  have HP := Lib.hid hp
  clear hb hp
  go_enter Try.func56, Try.ntmps56
  go_wp2
  go_region
  all_goals go_end0
  all_goals exact ⟨rfl, w.heap.size, Nat.le_refl _, ((HB.out.set_ 4 _).alloc _).drew, by have h := Whole.new_ (w.setCell ⟨b, 4, none⟩ (.slice (some ⟨w.heap.size, 0, none⟩) ks ks)) 84 (List.replicate ks (.int .i64 0)); simp at h; exact h.drew, (((Kept.refl (· = b) w).setCell (.inl rfl) _).alloc _).drew⟩

/-- What the first call of Do leaves. -/
def Laid (w : World) (b ks : Nat) (w' : World) : Prop :=
  ∃ g, w.heap.size ≤ g ∧ Whole w' b 81 (tcells ks 1 0 (.slice (some ⟨g, 0, none⟩) ks ks)) ∧ Whole w' g 84 (List.replicate ks (.int .i64 0)) ∧ Kept (· = b) w w'

set_option maxRecDepth 100000 in
set_option maxHeartbeats 800000 in
theorem ta_slow (pb b ks : Nat) (hk : ks ≤ 64) (w : World) (hp : Whole w pb 55 [.pointer (some ⟨b, 0, none⟩)]) (hb : Whole w b 81 (tcells ks 0 0 (.slice none 0 0))) :
    Calls Try.prog 67 #[.pointer (some ⟨b, 1, none⟩), .func (.func 56) #[] #[.pointer (some ⟨pb, 0, none⟩)]] w fun e w' => e = .returned (.tuple #[]) ∧ Laid w b ks w' := by
  have hne := Lib.hid (hp.ne_ hb (by decide))
  have hb1 : Whole (w.setCell ⟨b, 2, none⟩ (.int .i32 1)) b 81 (tcells ks 0 1 (.slice none 0 0)) := hb.set_ 2 _
  have hp1 : Whole (w.setCell ⟨b, 2, none⟩ (.int .i32 1)) pb 55 [.pointer (some ⟨b, 0, none⟩)] := hp.far hne.out _
  have hl := run_call_load (P := Try.prog) Try.func68 (by kernel_rfl) (by kernel_rfl) (by kernel_rfl) .u32 (by kernel_rfl) (w := w.setCell ⟨b, 2, none⟩ (.int .i32 1)) (a := ⟨b, 1, none⟩) (x := 0) (hb1.cell rfl)
  have hnot : ∀ (x : Bool) (w : World), (Op.unary .not (.bool x)).run Try.prog w = .ok (.bool (!x)) w := fun _ _ => rfl
  have c2 : w.cell? ⟨b, 2, none⟩ = some (.int .i32 0) := hb.cell rfl
  have f2 : w.frozen? ⟨b, 2, none⟩ = false := hb.free 2
  have HB1 := Lib.hid hb1
  have HP1 := Lib.hid hp1
  have HB := Lib.hid hb
  clear hb1 hp1 hb hp
  go_enter_defers Try.func67, Try.ntmps67
  go_wp2_with (first
    | (go_at_call 69; refine (ta_lock ⟨b, 2, none⟩ _ (by go_simp) (by go_simp)).mono ?_; rintro e w' ⟨rfl, rfl⟩)
    | (go_at_call 66; go_in)
    | (go_at_call 56; refine (ta_closure pb b ks hk _ (by exact HP1.out) (by exact HB1.out)).mono ?_; rintro e w2 ⟨rfl, g, hg, hb2, hg2, hk2⟩))
  have hb3 : Whole (w2.drew.setCell ⟨b, 1, none⟩ (.int .u32 1)) b 81 (tcells ks 1 1 (.slice (some ⟨g, 0, none⟩) ks ks)) := hb2.drew.set_ 1 _
  have hb4 := hb3.set_ 2 (.int .i32 0)
  have hgb : g ≠ b := hg2.ne_ hb2 (by decide)
  have hk4 := ((((Kept.refl (· = b) w).setCell (p := ⟨b, 2, none⟩) (.inl rfl) (.int .i32 1)).trans hk2).drew.setCell (p := ⟨b, 1, none⟩) (.inl rfl) (.int .u32 1)).setCell (p := ⟨b, 2, none⟩) (.inl rfl) (.int .i32 0)
  have hg4 := (hg2.drew.far (p := ⟨b, 1, none⟩) hgb (.int .u32 1)).far (p := ⟨b, 2, none⟩) hgb (.int .i32 0)
  refine leaves_cons (f := 71) (args := #[.pointer (some ⟨b, 1, none⟩), .bool true]) (by simp) (by simp [go_sem]) ?_
  refine (ta_store_deferred ⟨b, 1, none⟩ (.int .u32 0) .returning _ (hb2.cell rfl) (hb2.free 1)).mono ?_
  rintro e u' w'' ⟨rfl, rfl, rfl⟩
  refine leaves_cons (f := 70) (args := #[.pointer (some ⟨b, 2, none⟩)]) (by simp [settle]) (by simp [go_sem]) ?_
  refine (ta_unlock_deferred ⟨b, 2, none⟩ _ _ (hb3.cell rfl) (hb3.free 2)).mono ?_
  rintro e u' w'' ⟨rfl, rfl, rfl⟩
  have hfin : Laid w b ks ((w2.drew.setCell ⟨b, 1, none⟩ (.int .u32 1)).setCell ⟨b, 2, none⟩ (.int .i32 0)) := ⟨g, by simpa using hg, hb4, hg4, hk4⟩
  have HF := Lib.hid hfin
  clear hb4 hb3 hk4 hg4 hgb hb2 hg2 hk2 hg hl hnot c2 f2 hfin
  simp [Leaves, settle, results, Try.results67]
  exact HF.out

theorem ta_do_first (pb b ks : Nat) (hk : ks ≤ 64) (w : World) (hp : Whole w pb 55 [.pointer (some ⟨b, 0, none⟩)]) (hb : Whole w b 81 (tcells ks 0 0 (.slice none 0 0))) :
    Calls Try.prog 55 #[.pointer (some ⟨b, 1, none⟩), .func (.func 56) #[] #[.pointer (some ⟨pb, 0, none⟩)]] w fun e w' => e = .returned (.tuple #[]) ∧ Laid w b ks w' := by
  have hl := run_call_load (P := Try.prog) Try.func68 (by kernel_rfl) (by kernel_rfl) (by kernel_rfl) .u32 (by kernel_rfl) (w := w) (a := ⟨b, 1, none⟩) (x := 0) (hb.cell rfl)
  have hnot : ∀ (x : Bool) (w : World), (Op.unary .not (.bool x)).run Try.prog w = .ok (.bool (!x)) w := fun _ _ => rfl
  have HB := Lib.hid hb
  have HP := Lib.hid hp
  clear hb hp
  go_enter Try.func55, Try.ntmps55
  go_wp2_with (first | (go_at_call 67; refine (ta_slow pb b ks hk _ (by exact HP.out) (by exact HB.out)).mono ?_; rintro e w2 ⟨rfl, hl2⟩) | (go_at_call 66; go_in))
  go_end0
  exact ⟨rfl, hl2⟩

theorem ta_do_done (b : Nat) (fv : Value) (w : World) (h0 : w.cell? ⟨b, 1, none⟩ = some (.int .u32 1)) :
    Calls Try.prog 55 #[.pointer (some ⟨b, 1, none⟩), fv] w fun e w' => e = .returned (.tuple #[]) ∧ w = w' := by
  have hl := run_call_load (P := Try.prog) Try.func68 (by kernel_rfl) (by kernel_rfl) (by kernel_rfl) .u32 (by kernel_rfl) h0
  have hnot : ∀ (x : Bool) (w : World), (Op.unary .not (.bool x)).run Try.prog w = .ok (.bool (!x)) w := fun _ _ => rfl
  go_enter Try.func55, Try.ntmps55
  go_wp2
  go_end0
  exact ⟨rfl, rfl⟩

/-- A tally at block b that holds the numbers L; its numbers lie in block go, where they are laid. -/
structure Tl (w : World) (b : Nat) (go : Option Nat) (L : List Int) : Prop where
  len : L.length ≤ 64
  bd : ∀ x ∈ L, 0 ≤ x ∧ x ≤ 1099511627776
  mem : match go with
    | none => Whole w b 81 (tcells L.length 0 0 (.slice none 0 0)) ∧ L = List.replicate L.length 0
    | some g => Whole w b 81 (tcells L.length 1 0 (.slice (some ⟨g, 0, none⟩) L.length L.length)) ∧ Whole w g 84 (L.map (.int .i64))

/-- What a call on the tally may turn. -/
def Own (b : Nat) (go : Option Nat) (i : Nat) : Prop := i = b ∨ some i = go
/-- The tally's block of numbers is the same, or new. -/
def Nx (w : World) (go go' : Option Nat) : Prop := go' = go ∨ (go = none ∧ ∃ g, go' = some g ∧ w.heap.size ≤ g)
/-- A step of the tally. -/
structure Stp (w w' : World) (b : Nat) (go go' : Option Nat) : Prop where
  k : Kept (Own b go) w w'
  n : Nx w go go'

theorem Stp.refl (w : World) (b : Nat) (go : Option Nat) : Stp w w b go go := ⟨Kept.refl _ _, .inl rfl⟩
theorem Stp.trans {w w1 w2 : World} {b : Nat} {go g1 g2 : Option Nat} (h : Stp w w1 b go g1) (k : Stp w1 w2 b g1 g2) : Stp w w2 b go g2 := by
  refine ⟨⟨k.k.os.trans h.k.os, k.k.tape.trans h.k.tape, k.k.output.trans h.k.output, Nat.le_trans h.k.size k.k.size, fun i hi hn => (k.k.block i (Nat.lt_of_lt_of_le hi h.k.size) ?_).trans (h.k.block i hi hn)⟩, ?_⟩
  · rintro (rfl | e)
    · exact hn (.inl rfl)
    · rcases h.n with rfl | ⟨rfl, g, rfl, hg⟩
      · exact hn (.inr e)
      · have := Option.some.inj e
        omega
  · rcases h.n with rfl | ⟨rfl, g, rfl, hg⟩
    · rcases k.n with rfl | ⟨rfl, g, rfl, hg⟩
      · exact .inl rfl
      · exact .inr ⟨rfl, g, rfl, Nat.le_trans h.k.size hg⟩
    · rcases k.n with rfl | ⟨h0, _⟩
      · exact .inr ⟨rfl, g, rfl, hg⟩
      · cases h0
theorem Stp.below {w w' : World} {b : Nat} {go : Option Nat} (h : Below w.heap.size w w') : Stp w w' b go go := ⟨Kept.of_below h, .inl rfl⟩
end Go.Proofs.Ytibbibpfnpjjdaa
