/- The document's Same. -/
import Derived.Test.YtgmjehejaailpaaFr10
namespace Go.Proofs.Ytgmjehejaailpaa
open Go.RowKit
set_option linter.unusedSimpArgs false
set_option linter.unusedVariables false

theorem same_eq {a b : FrT} (h1 : a.k = b.k) (h2 : a.fr = b.fr) (h3 : a.tt = b.tt) (h4 : a.ep = b.ep) (h5 : a.sq = b.sq) (h6 : a.ac = b.ac) : a = b := by
  cases a; cases b; simp_all
set_option maxRecDepth 100000 in
set_option maxHeartbeats 1000000 in
theorem same_k (a b : FrT) (A A' : Option Addr) (n c n' c' : Nat) (P Q : List Nat) (w : World) (h : RdS w w.heap.size 1 A n c (rowsV f8 P)) (h' : RdS w w.heap.size 1 A' n' c' (rowsV f8 Q)) (q0 : (a.k == b.k) = false) :
    Calls Try.prog 19 #[.agg (frCells a A n c).toArray, .agg (frCells b A' n' c').toArray] w fun e w' => e = .returned (.bool (false)) ∧ Below w.heap.size w w' := by
  have HB : RowKit.Hid (Below w.heap.size w ((w.alloc (.cells #[.int .i64 a.k, .int .i64 a.fr, .int .i64 a.tt, .int .i64 a.ep, .int .i64 a.sq, .int .i64 a.ac, .slice A n c] 24)).alloc (.cells #[.int .i64 b.k, .int .i64 b.fr, .int .i64 b.tt, .int .i64 b.ep, .int .i64 b.sq, .int .i64 b.ac, .slice A' n' c'] 24))) := Lib.hid (below2 _ _ _)
  have hO : Whole ((w.alloc (.cells #[.int .i64 a.k, .int .i64 a.fr, .int .i64 a.tt, .int .i64 a.ep, .int .i64 a.sq, .int .i64 a.ac, .slice A n c] 24)).alloc (.cells #[.int .i64 b.k, .int .i64 b.fr, .int .i64 b.tt, .int .i64 b.ep, .int .i64 b.sq, .int .i64 b.ac, .slice A' n' c'] 24)) w.heap.size 24 [.int .i64 a.k, .int .i64 a.fr, .int .i64 a.tt, .int .i64 a.ep, .int .i64 a.sq, .int .i64 a.ac, .slice A n c] := (Whole.new_ w _ [.int .i64 a.k, .int .i64 a.fr, .int .i64 a.tt, .int .i64 a.ep, .int .i64 a.sq, .int .i64 a.ac, .slice A n c]).alloc _
  have hP : Whole ((w.alloc (.cells #[.int .i64 a.k, .int .i64 a.fr, .int .i64 a.tt, .int .i64 a.ep, .int .i64 a.sq, .int .i64 a.ac, .slice A n c] 24)).alloc (.cells #[.int .i64 b.k, .int .i64 b.fr, .int .i64 b.tt, .int .i64 b.ep, .int .i64 b.sq, .int .i64 b.ac, .slice A' n' c'] 24)) (w.heap.size + 1) 24 [.int .i64 b.k, .int .i64 b.fr, .int .i64 b.tt, .int .i64 b.ep, .int .i64 b.sq, .int .i64 b.ac, .slice A' n' c'] := Whole.new2 (cs := [.int .i64 b.k, .int .i64 b.fr, .int .i64 b.tt, .int .i64 b.ep, .int .i64 b.sq, .int .i64 b.ac, .slice A' n' c']) (by simp)
  have hc1 := conv_txt (h.bl HB.out)
  have hc2 := conv_txt (h'.bl HB.out)
  clear h h'
  unfold frCells
  obtain ⟨W1, gW1⟩ : ∃ x, (w.alloc (.cells #[.int .i64 a.k, .int .i64 a.fr, .int .i64 a.tt, .int .i64 a.ep, .int .i64 a.sq, .int .i64 a.ac, .slice A n c] 24)).alloc (.cells #[.int .i64 b.k, .int .i64 b.fr, .int .i64 b.tt, .int .i64 b.ep, .int .i64 b.sq, .int .i64 b.ac, .slice A' n' c'] 24) = x := ⟨_, rfl⟩
  rw [gW1] at HB hO hP hc1 hc2
  have x0 := hO.cell (i := 0) rfl
  have x1 := hO.cell (i := 1) rfl
  have x2 := hO.cell (i := 2) rfl
  have x3 := hO.cell (i := 3) rfl
  have x4 := hO.cell (i := 4) rfl
  have x5 := hO.cell (i := 5) rfl
  have x6 := hO.cell (i := 6) rfl
  have y0 := hP.cell (i := 0) rfl
  have y1 := hP.cell (i := 1) rfl
  have y2 := hP.cell (i := 2) rfl
  have y3 := hP.cell (i := 3) rfl
  have y4 := hP.cell (i := 4) rfl
  have y5 := hP.cell (i := 5) rfl
  have y6 := hP.cell (i := 6) rfl
  have HO := Lib.hid hO
  have HP := Lib.hid hP
  clear hO hP
  go_enter Try.func19, Try.ntmps19
  go_upto_region 1 with fail
  clear gW1
  go_wp2
  go_ret
  exact ⟨rfl, HB.out⟩
set_option maxRecDepth 100000 in
set_option maxHeartbeats 1000000 in
theorem same_fr (a b : FrT) (A A' : Option Addr) (n c n' c' : Nat) (P Q : List Nat) (w : World) (h : RdS w w.heap.size 1 A n c (rowsV f8 P)) (h' : RdS w w.heap.size 1 A' n' c' (rowsV f8 Q)) (q0 : (a.k == b.k) = true) (q1 : (a.fr == b.fr) = false) :
    Calls Try.prog 19 #[.agg (frCells a A n c).toArray, .agg (frCells b A' n' c').toArray] w fun e w' => e = .returned (.bool (false)) ∧ Below w.heap.size w w' := by
  have HB : RowKit.Hid (Below w.heap.size w ((w.alloc (.cells #[.int .i64 a.k, .int .i64 a.fr, .int .i64 a.tt, .int .i64 a.ep, .int .i64 a.sq, .int .i64 a.ac, .slice A n c] 24)).alloc (.cells #[.int .i64 b.k, .int .i64 b.fr, .int .i64 b.tt, .int .i64 b.ep, .int .i64 b.sq, .int .i64 b.ac, .slice A' n' c'] 24))) := Lib.hid (below2 _ _ _)
  have hO : Whole ((w.alloc (.cells #[.int .i64 a.k, .int .i64 a.fr, .int .i64 a.tt, .int .i64 a.ep, .int .i64 a.sq, .int .i64 a.ac, .slice A n c] 24)).alloc (.cells #[.int .i64 b.k, .int .i64 b.fr, .int .i64 b.tt, .int .i64 b.ep, .int .i64 b.sq, .int .i64 b.ac, .slice A' n' c'] 24)) w.heap.size 24 [.int .i64 a.k, .int .i64 a.fr, .int .i64 a.tt, .int .i64 a.ep, .int .i64 a.sq, .int .i64 a.ac, .slice A n c] := (Whole.new_ w _ [.int .i64 a.k, .int .i64 a.fr, .int .i64 a.tt, .int .i64 a.ep, .int .i64 a.sq, .int .i64 a.ac, .slice A n c]).alloc _
  have hP : Whole ((w.alloc (.cells #[.int .i64 a.k, .int .i64 a.fr, .int .i64 a.tt, .int .i64 a.ep, .int .i64 a.sq, .int .i64 a.ac, .slice A n c] 24)).alloc (.cells #[.int .i64 b.k, .int .i64 b.fr, .int .i64 b.tt, .int .i64 b.ep, .int .i64 b.sq, .int .i64 b.ac, .slice A' n' c'] 24)) (w.heap.size + 1) 24 [.int .i64 b.k, .int .i64 b.fr, .int .i64 b.tt, .int .i64 b.ep, .int .i64 b.sq, .int .i64 b.ac, .slice A' n' c'] := Whole.new2 (cs := [.int .i64 b.k, .int .i64 b.fr, .int .i64 b.tt, .int .i64 b.ep, .int .i64 b.sq, .int .i64 b.ac, .slice A' n' c']) (by simp)
  have hc1 := conv_txt (h.bl HB.out)
  have hc2 := conv_txt (h'.bl HB.out)
  clear h h'
  unfold frCells
  obtain ⟨W1, gW1⟩ : ∃ x, (w.alloc (.cells #[.int .i64 a.k, .int .i64 a.fr, .int .i64 a.tt, .int .i64 a.ep, .int .i64 a.sq, .int .i64 a.ac, .slice A n c] 24)).alloc (.cells #[.int .i64 b.k, .int .i64 b.fr, .int .i64 b.tt, .int .i64 b.ep, .int .i64 b.sq, .int .i64 b.ac, .slice A' n' c'] 24) = x := ⟨_, rfl⟩
  rw [gW1] at HB hO hP hc1 hc2
  have x0 := hO.cell (i := 0) rfl
  have x1 := hO.cell (i := 1) rfl
  have x2 := hO.cell (i := 2) rfl
  have x3 := hO.cell (i := 3) rfl
  have x4 := hO.cell (i := 4) rfl
  have x5 := hO.cell (i := 5) rfl
  have x6 := hO.cell (i := 6) rfl
  have y0 := hP.cell (i := 0) rfl
  have y1 := hP.cell (i := 1) rfl
  have y2 := hP.cell (i := 2) rfl
  have y3 := hP.cell (i := 3) rfl
  have y4 := hP.cell (i := 4) rfl
  have y5 := hP.cell (i := 5) rfl
  have y6 := hP.cell (i := 6) rfl
  have HO := Lib.hid hO
  have HP := Lib.hid hP
  clear hO hP
  go_enter Try.func19, Try.ntmps19
  go_upto_region 1 with fail
  clear gW1
  go_wp2
  go_ret
  exact ⟨rfl, HB.out⟩
set_option maxRecDepth 100000 in
set_option maxHeartbeats 1000000 in
theorem same_tt (a b : FrT) (A A' : Option Addr) (n c n' c' : Nat) (P Q : List Nat) (w : World) (h : RdS w w.heap.size 1 A n c (rowsV f8 P)) (h' : RdS w w.heap.size 1 A' n' c' (rowsV f8 Q)) (q0 : (a.k == b.k) = true) (q1 : (a.fr == b.fr) = true) (q2 : (a.tt == b.tt) = false) :
    Calls Try.prog 19 #[.agg (frCells a A n c).toArray, .agg (frCells b A' n' c').toArray] w fun e w' => e = .returned (.bool (false)) ∧ Below w.heap.size w w' := by
  have HB : RowKit.Hid (Below w.heap.size w ((w.alloc (.cells #[.int .i64 a.k, .int .i64 a.fr, .int .i64 a.tt, .int .i64 a.ep, .int .i64 a.sq, .int .i64 a.ac, .slice A n c] 24)).alloc (.cells #[.int .i64 b.k, .int .i64 b.fr, .int .i64 b.tt, .int .i64 b.ep, .int .i64 b.sq, .int .i64 b.ac, .slice A' n' c'] 24))) := Lib.hid (below2 _ _ _)
  have hO : Whole ((w.alloc (.cells #[.int .i64 a.k, .int .i64 a.fr, .int .i64 a.tt, .int .i64 a.ep, .int .i64 a.sq, .int .i64 a.ac, .slice A n c] 24)).alloc (.cells #[.int .i64 b.k, .int .i64 b.fr, .int .i64 b.tt, .int .i64 b.ep, .int .i64 b.sq, .int .i64 b.ac, .slice A' n' c'] 24)) w.heap.size 24 [.int .i64 a.k, .int .i64 a.fr, .int .i64 a.tt, .int .i64 a.ep, .int .i64 a.sq, .int .i64 a.ac, .slice A n c] := (Whole.new_ w _ [.int .i64 a.k, .int .i64 a.fr, .int .i64 a.tt, .int .i64 a.ep, .int .i64 a.sq, .int .i64 a.ac, .slice A n c]).alloc _
  have hP : Whole ((w.alloc (.cells #[.int .i64 a.k, .int .i64 a.fr, .int .i64 a.tt, .int .i64 a.ep, .int .i64 a.sq, .int .i64 a.ac, .slice A n c] 24)).alloc (.cells #[.int .i64 b.k, .int .i64 b.fr, .int .i64 b.tt, .int .i64 b.ep, .int .i64 b.sq, .int .i64 b.ac, .slice A' n' c'] 24)) (w.heap.size + 1) 24 [.int .i64 b.k, .int .i64 b.fr, .int .i64 b.tt, .int .i64 b.ep, .int .i64 b.sq, .int .i64 b.ac, .slice A' n' c'] := Whole.new2 (cs := [.int .i64 b.k, .int .i64 b.fr, .int .i64 b.tt, .int .i64 b.ep, .int .i64 b.sq, .int .i64 b.ac, .slice A' n' c']) (by simp)
  have hc1 := conv_txt (h.bl HB.out)
  have hc2 := conv_txt (h'.bl HB.out)
  clear h h'
  unfold frCells
  obtain ⟨W1, gW1⟩ : ∃ x, (w.alloc (.cells #[.int .i64 a.k, .int .i64 a.fr, .int .i64 a.tt, .int .i64 a.ep, .int .i64 a.sq, .int .i64 a.ac, .slice A n c] 24)).alloc (.cells #[.int .i64 b.k, .int .i64 b.fr, .int .i64 b.tt, .int .i64 b.ep, .int .i64 b.sq, .int .i64 b.ac, .slice A' n' c'] 24) = x := ⟨_, rfl⟩
  rw [gW1] at HB hO hP hc1 hc2
  have x0 := hO.cell (i := 0) rfl
  have x1 := hO.cell (i := 1) rfl
  have x2 := hO.cell (i := 2) rfl
  have x3 := hO.cell (i := 3) rfl
  have x4 := hO.cell (i := 4) rfl
  have x5 := hO.cell (i := 5) rfl
  have x6 := hO.cell (i := 6) rfl
  have y0 := hP.cell (i := 0) rfl
  have y1 := hP.cell (i := 1) rfl
  have y2 := hP.cell (i := 2) rfl
  have y3 := hP.cell (i := 3) rfl
  have y4 := hP.cell (i := 4) rfl
  have y5 := hP.cell (i := 5) rfl
  have y6 := hP.cell (i := 6) rfl
  have HO := Lib.hid hO
  have HP := Lib.hid hP
  clear hO hP
  go_enter Try.func19, Try.ntmps19
  go_upto_region 1 with fail
  clear gW1
  go_wp2
  go_ret
  exact ⟨rfl, HB.out⟩
set_option maxRecDepth 100000 in
set_option maxHeartbeats 1000000 in
theorem same_ep (a b : FrT) (A A' : Option Addr) (n c n' c' : Nat) (P Q : List Nat) (w : World) (h : RdS w w.heap.size 1 A n c (rowsV f8 P)) (h' : RdS w w.heap.size 1 A' n' c' (rowsV f8 Q)) (q0 : (a.k == b.k) = true) (q1 : (a.fr == b.fr) = true) (q2 : (a.tt == b.tt) = true) (q3 : (a.ep == b.ep) = false) :
    Calls Try.prog 19 #[.agg (frCells a A n c).toArray, .agg (frCells b A' n' c').toArray] w fun e w' => e = .returned (.bool (false)) ∧ Below w.heap.size w w' := by
  have HB : RowKit.Hid (Below w.heap.size w ((w.alloc (.cells #[.int .i64 a.k, .int .i64 a.fr, .int .i64 a.tt, .int .i64 a.ep, .int .i64 a.sq, .int .i64 a.ac, .slice A n c] 24)).alloc (.cells #[.int .i64 b.k, .int .i64 b.fr, .int .i64 b.tt, .int .i64 b.ep, .int .i64 b.sq, .int .i64 b.ac, .slice A' n' c'] 24))) := Lib.hid (below2 _ _ _)
  have hO : Whole ((w.alloc (.cells #[.int .i64 a.k, .int .i64 a.fr, .int .i64 a.tt, .int .i64 a.ep, .int .i64 a.sq, .int .i64 a.ac, .slice A n c] 24)).alloc (.cells #[.int .i64 b.k, .int .i64 b.fr, .int .i64 b.tt, .int .i64 b.ep, .int .i64 b.sq, .int .i64 b.ac, .slice A' n' c'] 24)) w.heap.size 24 [.int .i64 a.k, .int .i64 a.fr, .int .i64 a.tt, .int .i64 a.ep, .int .i64 a.sq, .int .i64 a.ac, .slice A n c] := (Whole.new_ w _ [.int .i64 a.k, .int .i64 a.fr, .int .i64 a.tt, .int .i64 a.ep, .int .i64 a.sq, .int .i64 a.ac, .slice A n c]).alloc _
  have hP : Whole ((w.alloc (.cells #[.int .i64 a.k, .int .i64 a.fr, .int .i64 a.tt, .int .i64 a.ep, .int .i64 a.sq, .int .i64 a.ac, .slice A n c] 24)).alloc (.cells #[.int .i64 b.k, .int .i64 b.fr, .int .i64 b.tt, .int .i64 b.ep, .int .i64 b.sq, .int .i64 b.ac, .slice A' n' c'] 24)) (w.heap.size + 1) 24 [.int .i64 b.k, .int .i64 b.fr, .int .i64 b.tt, .int .i64 b.ep, .int .i64 b.sq, .int .i64 b.ac, .slice A' n' c'] := Whole.new2 (cs := [.int .i64 b.k, .int .i64 b.fr, .int .i64 b.tt, .int .i64 b.ep, .int .i64 b.sq, .int .i64 b.ac, .slice A' n' c']) (by simp)
  have hc1 := conv_txt (h.bl HB.out)
  have hc2 := conv_txt (h'.bl HB.out)
  clear h h'
  unfold frCells
  obtain ⟨W1, gW1⟩ : ∃ x, (w.alloc (.cells #[.int .i64 a.k, .int .i64 a.fr, .int .i64 a.tt, .int .i64 a.ep, .int .i64 a.sq, .int .i64 a.ac, .slice A n c] 24)).alloc (.cells #[.int .i64 b.k, .int .i64 b.fr, .int .i64 b.tt, .int .i64 b.ep, .int .i64 b.sq, .int .i64 b.ac, .slice A' n' c'] 24) = x := ⟨_, rfl⟩
  rw [gW1] at HB hO hP hc1 hc2
  have x0 := hO.cell (i := 0) rfl
  have x1 := hO.cell (i := 1) rfl
  have x2 := hO.cell (i := 2) rfl
  have x3 := hO.cell (i := 3) rfl
  have x4 := hO.cell (i := 4) rfl
  have x5 := hO.cell (i := 5) rfl
  have x6 := hO.cell (i := 6) rfl
  have y0 := hP.cell (i := 0) rfl
  have y1 := hP.cell (i := 1) rfl
  have y2 := hP.cell (i := 2) rfl
  have y3 := hP.cell (i := 3) rfl
  have y4 := hP.cell (i := 4) rfl
  have y5 := hP.cell (i := 5) rfl
  have y6 := hP.cell (i := 6) rfl
  have HO := Lib.hid hO
  have HP := Lib.hid hP
  clear hO hP
  go_enter Try.func19, Try.ntmps19
  go_upto_region 1 with fail
  clear gW1
  go_wp2
  go_ret
  exact ⟨rfl, HB.out⟩
set_option maxRecDepth 100000 in
set_option maxHeartbeats 1000000 in
theorem same_sq (a b : FrT) (A A' : Option Addr) (n c n' c' : Nat) (P Q : List Nat) (w : World) (h : RdS w w.heap.size 1 A n c (rowsV f8 P)) (h' : RdS w w.heap.size 1 A' n' c' (rowsV f8 Q)) (q0 : (a.k == b.k) = true) (q1 : (a.fr == b.fr) = true) (q2 : (a.tt == b.tt) = true) (q3 : (a.ep == b.ep) = true) (q4 : (a.sq == b.sq) = false) :
    Calls Try.prog 19 #[.agg (frCells a A n c).toArray, .agg (frCells b A' n' c').toArray] w fun e w' => e = .returned (.bool (false)) ∧ Below w.heap.size w w' := by
  have HB : RowKit.Hid (Below w.heap.size w ((w.alloc (.cells #[.int .i64 a.k, .int .i64 a.fr, .int .i64 a.tt, .int .i64 a.ep, .int .i64 a.sq, .int .i64 a.ac, .slice A n c] 24)).alloc (.cells #[.int .i64 b.k, .int .i64 b.fr, .int .i64 b.tt, .int .i64 b.ep, .int .i64 b.sq, .int .i64 b.ac, .slice A' n' c'] 24))) := Lib.hid (below2 _ _ _)
  have hO : Whole ((w.alloc (.cells #[.int .i64 a.k, .int .i64 a.fr, .int .i64 a.tt, .int .i64 a.ep, .int .i64 a.sq, .int .i64 a.ac, .slice A n c] 24)).alloc (.cells #[.int .i64 b.k, .int .i64 b.fr, .int .i64 b.tt, .int .i64 b.ep, .int .i64 b.sq, .int .i64 b.ac, .slice A' n' c'] 24)) w.heap.size 24 [.int .i64 a.k, .int .i64 a.fr, .int .i64 a.tt, .int .i64 a.ep, .int .i64 a.sq, .int .i64 a.ac, .slice A n c] := (Whole.new_ w _ [.int .i64 a.k, .int .i64 a.fr, .int .i64 a.tt, .int .i64 a.ep, .int .i64 a.sq, .int .i64 a.ac, .slice A n c]).alloc _
  have hP : Whole ((w.alloc (.cells #[.int .i64 a.k, .int .i64 a.fr, .int .i64 a.tt, .int .i64 a.ep, .int .i64 a.sq, .int .i64 a.ac, .slice A n c] 24)).alloc (.cells #[.int .i64 b.k, .int .i64 b.fr, .int .i64 b.tt, .int .i64 b.ep, .int .i64 b.sq, .int .i64 b.ac, .slice A' n' c'] 24)) (w.heap.size + 1) 24 [.int .i64 b.k, .int .i64 b.fr, .int .i64 b.tt, .int .i64 b.ep, .int .i64 b.sq, .int .i64 b.ac, .slice A' n' c'] := Whole.new2 (cs := [.int .i64 b.k, .int .i64 b.fr, .int .i64 b.tt, .int .i64 b.ep, .int .i64 b.sq, .int .i64 b.ac, .slice A' n' c']) (by simp)
  have hc1 := conv_txt (h.bl HB.out)
  have hc2 := conv_txt (h'.bl HB.out)
  clear h h'
  unfold frCells
  obtain ⟨W1, gW1⟩ : ∃ x, (w.alloc (.cells #[.int .i64 a.k, .int .i64 a.fr, .int .i64 a.tt, .int .i64 a.ep, .int .i64 a.sq, .int .i64 a.ac, .slice A n c] 24)).alloc (.cells #[.int .i64 b.k, .int .i64 b.fr, .int .i64 b.tt, .int .i64 b.ep, .int .i64 b.sq, .int .i64 b.ac, .slice A' n' c'] 24) = x := ⟨_, rfl⟩
  rw [gW1] at HB hO hP hc1 hc2
  have x0 := hO.cell (i := 0) rfl
  have x1 := hO.cell (i := 1) rfl
  have x2 := hO.cell (i := 2) rfl
  have x3 := hO.cell (i := 3) rfl
  have x4 := hO.cell (i := 4) rfl
  have x5 := hO.cell (i := 5) rfl
  have x6 := hO.cell (i := 6) rfl
  have y0 := hP.cell (i := 0) rfl
  have y1 := hP.cell (i := 1) rfl
  have y2 := hP.cell (i := 2) rfl
  have y3 := hP.cell (i := 3) rfl
  have y4 := hP.cell (i := 4) rfl
  have y5 := hP.cell (i := 5) rfl
  have y6 := hP.cell (i := 6) rfl
  have HO := Lib.hid hO
  have HP := Lib.hid hP
  clear hO hP
  go_enter Try.func19, Try.ntmps19
  go_upto_region 1 with fail
  clear gW1
  go_wp2
  go_ret
  exact ⟨rfl, HB.out⟩
set_option maxRecDepth 100000 in
set_option maxHeartbeats 1000000 in
theorem same_ac (a b : FrT) (A A' : Option Addr) (n c n' c' : Nat) (P Q : List Nat) (w : World) (h : RdS w w.heap.size 1 A n c (rowsV f8 P)) (h' : RdS w w.heap.size 1 A' n' c' (rowsV f8 Q)) (q0 : (a.k == b.k) = true) (q1 : (a.fr == b.fr) = true) (q2 : (a.tt == b.tt) = true) (q3 : (a.ep == b.ep) = true) (q4 : (a.sq == b.sq) = true) (q5 : (a.ac == b.ac) = false) :
    Calls Try.prog 19 #[.agg (frCells a A n c).toArray, .agg (frCells b A' n' c').toArray] w fun e w' => e = .returned (.bool (false)) ∧ Below w.heap.size w w' := by
  have HB : RowKit.Hid (Below w.heap.size w ((w.alloc (.cells #[.int .i64 a.k, .int .i64 a.fr, .int .i64 a.tt, .int .i64 a.ep, .int .i64 a.sq, .int .i64 a.ac, .slice A n c] 24)).alloc (.cells #[.int .i64 b.k, .int .i64 b.fr, .int .i64 b.tt, .int .i64 b.ep, .int .i64 b.sq, .int .i64 b.ac, .slice A' n' c'] 24))) := Lib.hid (below2 _ _ _)
  have hO : Whole ((w.alloc (.cells #[.int .i64 a.k, .int .i64 a.fr, .int .i64 a.tt, .int .i64 a.ep, .int .i64 a.sq, .int .i64 a.ac, .slice A n c] 24)).alloc (.cells #[.int .i64 b.k, .int .i64 b.fr, .int .i64 b.tt, .int .i64 b.ep, .int .i64 b.sq, .int .i64 b.ac, .slice A' n' c'] 24)) w.heap.size 24 [.int .i64 a.k, .int .i64 a.fr, .int .i64 a.tt, .int .i64 a.ep, .int .i64 a.sq, .int .i64 a.ac, .slice A n c] := (Whole.new_ w _ [.int .i64 a.k, .int .i64 a.fr, .int .i64 a.tt, .int .i64 a.ep, .int .i64 a.sq, .int .i64 a.ac, .slice A n c]).alloc _
  have hP : Whole ((w.alloc (.cells #[.int .i64 a.k, .int .i64 a.fr, .int .i64 a.tt, .int .i64 a.ep, .int .i64 a.sq, .int .i64 a.ac, .slice A n c] 24)).alloc (.cells #[.int .i64 b.k, .int .i64 b.fr, .int .i64 b.tt, .int .i64 b.ep, .int .i64 b.sq, .int .i64 b.ac, .slice A' n' c'] 24)) (w.heap.size + 1) 24 [.int .i64 b.k, .int .i64 b.fr, .int .i64 b.tt, .int .i64 b.ep, .int .i64 b.sq, .int .i64 b.ac, .slice A' n' c'] := Whole.new2 (cs := [.int .i64 b.k, .int .i64 b.fr, .int .i64 b.tt, .int .i64 b.ep, .int .i64 b.sq, .int .i64 b.ac, .slice A' n' c']) (by simp)
  have hc1 := conv_txt (h.bl HB.out)
  have hc2 := conv_txt (h'.bl HB.out)
  clear h h'
  unfold frCells
  obtain ⟨W1, gW1⟩ : ∃ x, (w.alloc (.cells #[.int .i64 a.k, .int .i64 a.fr, .int .i64 a.tt, .int .i64 a.ep, .int .i64 a.sq, .int .i64 a.ac, .slice A n c] 24)).alloc (.cells #[.int .i64 b.k, .int .i64 b.fr, .int .i64 b.tt, .int .i64 b.ep, .int .i64 b.sq, .int .i64 b.ac, .slice A' n' c'] 24) = x := ⟨_, rfl⟩
  rw [gW1] at HB hO hP hc1 hc2
  have x0 := hO.cell (i := 0) rfl
  have x1 := hO.cell (i := 1) rfl
  have x2 := hO.cell (i := 2) rfl
  have x3 := hO.cell (i := 3) rfl
  have x4 := hO.cell (i := 4) rfl
  have x5 := hO.cell (i := 5) rfl
  have x6 := hO.cell (i := 6) rfl
  have y0 := hP.cell (i := 0) rfl
  have y1 := hP.cell (i := 1) rfl
  have y2 := hP.cell (i := 2) rfl
  have y3 := hP.cell (i := 3) rfl
  have y4 := hP.cell (i := 4) rfl
  have y5 := hP.cell (i := 5) rfl
  have y6 := hP.cell (i := 6) rfl
  have HO := Lib.hid hO
  have HP := Lib.hid hP
  clear hO hP
  go_enter Try.func19, Try.ntmps19
  go_upto_region 1 with fail
  clear gW1
  go_wp2
  go_ret
  exact ⟨rfl, HB.out⟩
set_option maxRecDepth 100000 in
set_option maxHeartbeats 1000000 in
theorem same_yes (a b : FrT) (A A' : Option Addr) (n c n' c' : Nat) (P Q : List Nat) (w : World) (h : RdS w w.heap.size 1 A n c (rowsV f8 P)) (h' : RdS w w.heap.size 1 A' n' c' (rowsV f8 Q)) (q0 : (a.k == b.k) = true) (q1 : (a.fr == b.fr) = true) (q2 : (a.tt == b.tt) = true) (q3 : (a.ep == b.ep) = true) (q4 : (a.sq == b.sq) = true) (q5 : (a.ac == b.ac) = true) :
    Calls Try.prog 19 #[.agg (frCells a A n c).toArray, .agg (frCells b A' n' c').toArray] w fun e w' => e = .returned (.bool ((txt P).toList == (txt Q).toList)) ∧ Below w.heap.size w w' := by
  have HB : RowKit.Hid (Below w.heap.size w ((w.alloc (.cells #[.int .i64 a.k, .int .i64 a.fr, .int .i64 a.tt, .int .i64 a.ep, .int .i64 a.sq, .int .i64 a.ac, .slice A n c] 24)).alloc (.cells #[.int .i64 b.k, .int .i64 b.fr, .int .i64 b.tt, .int .i64 b.ep, .int .i64 b.sq, .int .i64 b.ac, .slice A' n' c'] 24))) := Lib.hid (below2 _ _ _)
  have hO : Whole ((w.alloc (.cells #[.int .i64 a.k, .int .i64 a.fr, .int .i64 a.tt, .int .i64 a.ep, .int .i64 a.sq, .int .i64 a.ac, .slice A n c] 24)).alloc (.cells #[.int .i64 b.k, .int .i64 b.fr, .int .i64 b.tt, .int .i64 b.ep, .int .i64 b.sq, .int .i64 b.ac, .slice A' n' c'] 24)) w.heap.size 24 [.int .i64 a.k, .int .i64 a.fr, .int .i64 a.tt, .int .i64 a.ep, .int .i64 a.sq, .int .i64 a.ac, .slice A n c] := (Whole.new_ w _ [.int .i64 a.k, .int .i64 a.fr, .int .i64 a.tt, .int .i64 a.ep, .int .i64 a.sq, .int .i64 a.ac, .slice A n c]).alloc _
  have hP : Whole ((w.alloc (.cells #[.int .i64 a.k, .int .i64 a.fr, .int .i64 a.tt, .int .i64 a.ep, .int .i64 a.sq, .int .i64 a.ac, .slice A n c] 24)).alloc (.cells #[.int .i64 b.k, .int .i64 b.fr, .int .i64 b.tt, .int .i64 b.ep, .int .i64 b.sq, .int .i64 b.ac, .slice A' n' c'] 24)) (w.heap.size + 1) 24 [.int .i64 b.k, .int .i64 b.fr, .int .i64 b.tt, .int .i64 b.ep, .int .i64 b.sq, .int .i64 b.ac, .slice A' n' c'] := Whole.new2 (cs := [.int .i64 b.k, .int .i64 b.fr, .int .i64 b.tt, .int .i64 b.ep, .int .i64 b.sq, .int .i64 b.ac, .slice A' n' c']) (by simp)
  have hc1 := conv_txt (h.bl HB.out)
  have hc2 := conv_txt (h'.bl HB.out)
  clear h h'
  unfold frCells
  obtain ⟨W1, gW1⟩ : ∃ x, (w.alloc (.cells #[.int .i64 a.k, .int .i64 a.fr, .int .i64 a.tt, .int .i64 a.ep, .int .i64 a.sq, .int .i64 a.ac, .slice A n c] 24)).alloc (.cells #[.int .i64 b.k, .int .i64 b.fr, .int .i64 b.tt, .int .i64 b.ep, .int .i64 b.sq, .int .i64 b.ac, .slice A' n' c'] 24) = x := ⟨_, rfl⟩
  rw [gW1] at HB hO hP hc1 hc2
  have x0 := hO.cell (i := 0) rfl
  have x1 := hO.cell (i := 1) rfl
  have x2 := hO.cell (i := 2) rfl
  have x3 := hO.cell (i := 3) rfl
  have x4 := hO.cell (i := 4) rfl
  have x5 := hO.cell (i := 5) rfl
  have x6 := hO.cell (i := 6) rfl
  have y0 := hP.cell (i := 0) rfl
  have y1 := hP.cell (i := 1) rfl
  have y2 := hP.cell (i := 2) rfl
  have y3 := hP.cell (i := 3) rfl
  have y4 := hP.cell (i := 4) rfl
  have y5 := hP.cell (i := 5) rfl
  have y6 := hP.cell (i := 6) rfl
  have HO := Lib.hid hO
  have HP := Lib.hid hP
  clear hO hP
  go_enter Try.func19, Try.ntmps19
  go_upto_region 1 with fail
  clear gW1
  go_wp2
  go_ret
  exact ⟨rfl, HB.out⟩

/-- Two frames that are the same. -/
def sameF (a b : FrT) (P Q : List Nat) : Bool := decide (a = b) && ((txt P).toList == (txt Q).toList)
theorem same_any (a b : FrT) (A A' : Option Addr) (n c n' c' : Nat) (P Q : List Nat) (w : World) (h : RdS w w.heap.size 1 A n c (rowsV f8 P)) (h' : RdS w w.heap.size 1 A' n' c' (rowsV f8 Q)) :
    Calls Try.prog 19 #[.agg (frCells a A n c).toArray, .agg (frCells b A' n' c').toArray] w fun e w' => e = .returned (.bool (sameF a b P Q)) ∧ Below w.heap.size w w' := by
  have no : ∀ {x : Bool}, x = false → a ≠ b → sameF a b P Q = x := fun hx h => by unfold sameF; rw [decide_eq_false h, hx]; rfl
  cases q0 : (a.k == b.k)
  case false => rw [no rfl (fun e => by rw [e] at q0; simp at q0)]; exact same_k a b A A' n c n' c' P Q w h h' q0
  cases q1 : (a.fr == b.fr)
  case false => rw [no rfl (fun e => by rw [e] at q1; simp at q1)]; exact same_fr a b A A' n c n' c' P Q w h h' q0 q1
  cases q2 : (a.tt == b.tt)
  case false => rw [no rfl (fun e => by rw [e] at q2; simp at q2)]; exact same_tt a b A A' n c n' c' P Q w h h' q0 q1 q2
  cases q3 : (a.ep == b.ep)
  case false => rw [no rfl (fun e => by rw [e] at q3; simp at q3)]; exact same_ep a b A A' n c n' c' P Q w h h' q0 q1 q2 q3
  cases q4 : (a.sq == b.sq)
  case false => rw [no rfl (fun e => by rw [e] at q4; simp at q4)]; exact same_sq a b A A' n c n' c' P Q w h h' q0 q1 q2 q3 q4
  cases q5 : (a.ac == b.ac)
  case false => rw [no rfl (fun e => by rw [e] at q5; simp at q5)]; exact same_ac a b A A' n c n' c' P Q w h h' q0 q1 q2 q3 q4 q5
  rw [show sameF a b P Q = ((txt P).toList == (txt Q).toList) by unfold sameF; rw [decide_eq_true (same_eq (eq_of_beq q0) (eq_of_beq q1) (eq_of_beq q2) (eq_of_beq q3) (eq_of_beq q4) (eq_of_beq q5))]; rfl]
  exact same_yes a b A A' n c n' c' P Q w h h' q0 q1 q2 q3 q4 q5
theorem sameF_self (a : FrT) (P : List Nat) : sameF a a P P = true := by simp [sameF]
end Go.Proofs.Ytgmjehejaailpaa
