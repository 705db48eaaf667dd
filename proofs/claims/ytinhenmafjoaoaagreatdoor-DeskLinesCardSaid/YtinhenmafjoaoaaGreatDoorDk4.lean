/- Parse of the empty text. -/
import Derived.RangeFuncNested
import Derived.RangeFuncBound
import Derived.RangeFuncCalls
import Derived.RangeFuncLeaves
import Derived.Shelf.Abstract
import Derived.Shelf.RegionOpen
import Derived.WalkKit
import Derived.OwnWalkIn
import Derived.TacticsInMore
import Derived.LoopNIn
import Derived.LoopIn
import Derived.Test.YtinhenmafjoaoaaGreatDoorRft
import Derived.Test.YtinhenmafjoaoaaGreatDoorDk3
namespace Go.Proofs.YtinhenmafjoaoaaGreatDoor
open Go.RowKit
set_option linter.unusedSimpArgs false
set_option linter.unusedVariables false

attribute [local go_sem] Oper.semAt_some
theorem no_more {α : Type} {pre : List α} {x : α} (h : pre ++ [x] <+: []) : False := by
  have := h.length_le
  simp at this
set_option maxRecDepth 100000 in
set_option maxHeartbeats 4000000 in
theorem lines0_its (bs : Nat) (t : ByteArray) (ht : t.size = 0) (K T : Nat → Prop) (W : World) (h1 : Whole W bs 9 [.string t]) :
    ItS Tryz.prog 51 #[.pointer (some ⟨bs, 0, none⟩)] (fun _ (x : ByteArray) => #[.string x]) K T [] W := by
  intro q J Jx hJ hJx hY h0
  refine callsIn_wide.2 ?_
  show Calls Tryz.prog 51 #[.func (.yield q) #[] #[], .pointer (some ⟨bs, 0, none⟩)] W _
  have HJ := Lib.hid h0
  have HW := Lib.hid h1
  clear h0 hY hJ hJx h1
  go_enter Tryz.func51, Tryz.ntmps51
  go_wp2
  go_loopw [] (fun wr => RowKit.Hid (J [] wr) ∧ RowKit.Hid (Whole wr bs 9 [.string t])) (fun _ => 0)
  case atStart => exact ⟨HJ, HW⟩
  case round =>
    clear HJ HW
    obtain ⟨HJ, HW⟩ := hrel
    have c0 := HW.out.cell (i := 0) rfl
    have hnl : ¬ (0 : Int) < (t.size : Int) := by omega
    clear ht
    go_wp2
    go_end0
    exact ⟨⟨_, rfl⟩, .inl HJ.out⟩
set_option maxRecDepth 100000 in
set_option maxHeartbeats 4000000 in
theorem lines0_any (t : ByteArray) (w : World) : Calls Tryz.prog 35 #[.string t] w fun e w' => e = .returned (.func (.func 51) #[] #[.pointer (some ⟨w.heap.size, 0, none⟩)]) ∧ w' = w.alloc (.cells #[.string t] 9) := by
  go_enter Tryz.func35, Tryz.ntmps35
  go_wp2
  go_ret
  exact ⟨rfl, rfl⟩
set_option maxRecDepth 100000 in
set_option maxHeartbeats 4000000 in
theorem numb0_any (t : ByteArray) (w : World) : Calls Tryz.prog 22 #[.string t] w fun e w' => e = .returned (.func (.func 34) #[] #[.pointer (some ⟨w.heap.size, 0, none⟩)]) ∧ w' = w.alloc (.cells #[.string t] 9) := by
  go_enter Tryz.func22, Tryz.ntmps22
  go_wp2
  go_ret
  exact ⟨rfl, rfl⟩
set_option maxRecDepth 100000 in
set_option maxHeartbeats 4000000 in
theorem numb0_its (bn : Nat) (t : ByteArray) (ht : t.size = 0) (K T : Nat → Prop) (W : World) (hK : ∀ i, W.heap.size ≤ i → i ≤ W.heap.size + 4 → K i) (hT : ∀ i, W.heap.size ≤ i → i ≤ W.heap.size + 4 → T i) (h1 : Whole W bn 9 [.string t]) :
    ItS Tryz.prog 34 #[.pointer (some ⟨bn, 0, none⟩)] (fun _ (x : ByteArray) => #[.int .i64 0, .string x]) K T [] W := by
  intro q J Jx hJ hJx hY h0
  have HL := Lib.hid (lines0_any t)
  have HIt := Lib.hid (fun (bs : Nat) (K T : Nat → Prop) (W : World) => lines0_its bs t ht K T W)
  have HJc := Lib.hid hJ
  have HTc := Lib.hid hT
  have HJ0 := Lib.hid h0
  have HB := Lib.hid h1
  have c0 := h1.cell (i := 0) rfl
  have hlt := h1.lt
  clear hJ hJx hY h0 hK hT h1
  show CallsIn Fence.wide 0 Tryz.prog 34 #[.func (.yield q) #[] #[], .pointer (some ⟨bn, 0, none⟩)] W _
  refine callsIn_of_wp_marks Tryz.func34 rfl trivial ?_
  simp only [Tryz.ntmps34, List.size_toArray, List.length_cons, List.length_nil, Nat.reduceAdd, Nat.reduceSub, Array.replicate_succ, Array.replicate_zero, List.push_toArray, List.append_toArray, List.nil_append, List.cons_append]
  refine wpIn_wide.2 ?_
  have hWs : Whole (((W.alloc (.cells #[.func (.yield q) #[] #[]] 83)).alloc (.cells #[.int .i64 0] 3)).alloc (.cells #[.string t] 9)) (W.heap.size + 1 + 1) 9 [.string t] := Whole.new2 (by simp)
  have hJ1 : J [] (((W.alloc (.cells #[.func (.yield q) #[] #[]] 83)).alloc (.cells #[.int .i64 0] 3)).alloc (.cells #[.string t] 9)) := ((HJc.out []).al ((HJc.out []).al ((HJc.out []).al HJ0.out _) _) _)
  have hsz : (((W.alloc (.cells #[.func (.yield q) #[] #[]] 83)).alloc (.cells #[.int .i64 0] 3)).alloc (.cells #[.string t] 9)).heap.size = W.heap.size + 3 := by simp
  clear ht
  go_wp2_with (go_at_call 35; refine (HL.out _).mono ?_; rintro e w' ⟨rfl, rfl⟩)
  obtain ⟨W0, gW0⟩ : ∃ z, ((W.alloc (.cells #[.func (.yield q) #[] #[]] 83)).alloc (.cells #[.int .i64 0] 3)).alloc (.cells #[.string t] 9) = z := ⟨_, rfl⟩
  rw [gW0] at hWs hJ1 hsz
  try simp only [World.size_setCell, World.size_alloc]
  rw [gW0]
  clear gW0 c0 HB
  obtain ⟨c, gc⟩ : ∃ z, W.heap.size = z := ⟨_, rfl⟩
  rw [gc] at hWs hsz HTc ⊢
  rw [show c + 1 + 1 = c + 2 from rfl] at hWs ⊢
  clear gc HL HJ0
  have HWs := Lib.hid hWs
  have HJ1 := Lib.hid hJ1
  clear hWs hJ1
  refine (wpIn_wide (n := 0)).1 ?_
  refine wpIn_roundS (gf := 51) (lb := #[.pointer (some ⟨c + 2, 0, none⟩)]) rfl (enters_of Tryz.func51 (by kernel_rfl) rfl) (encs := fun _ (x : ByteArray) => #[.string x]) (fun _ _ => rfl) (fun i => i = c + 2) (fun i => i = c + 2) (by rw [hsz]; omega) (by rw [hsz]; omega)
    (fun r => HIt.out (c + 2) _ _ _ ((HWs.out.al _).al _))
    (fun p V => J [] V)
    (fun p x a' V => False)
    (fun k p V => False)
    (fun p A B r h hg hr => HJc.out [] A B r h hg (fun z e => by have := hr z e; rw [hsz] at this; exact HTc.out z (by omega) (by omega)))
    (fun p x a' A B r h hg hr => h)
    (fun k p A B r h hg hr => h)
    HJ1.out ?assign ?body ?done ?stop
  case assign =>
    intro l' pre x V R hi hpre hsz3 hT3 hKK
    exact (no_more hpre).elim
  case body =>
    intro l' pre x a' V h
    exact h.elim
  case done =>
    rintro V hj hKd
    go_wp2
    refine ⟨by simp, .inl ⟨_, _, rfl, run_takeDeferred hKd, ?_⟩⟩
    exact ⟨_, results_none rfl _ _ _, ⟨_, rfl⟩, .inl ((HJc.out _).po hj _ _ (HTc.out _ (by omega) (by omega)))⟩
  case stop =>
    intro k pre V hpre h
    exact h.elim
theorem res3_ {fn : Func} {tmps : Array Value} {w : World} {g0 g1 g2 : Nat} {v0 v1 v2 : Value} (h : fn.results = #[.cell 2 45, .cell 3 3, .cell 4 24]) (p0 : tmps.getD 2 undef = .pointer (some ⟨g0, 0, none⟩)) (p1 : tmps.getD 3 undef = .pointer (some ⟨g1, 0, none⟩)) (p2 : tmps.getD 4 undef = .pointer (some ⟨g2, 0, none⟩))
    (H0 : Whole w g0 45 [v0]) (H1 : Whole w g1 3 [v1]) (H2 : Whole w g2 24 [v2]) : (results fn tmps).run Tryz.prog w = .ok (.tuple #[v0, v1, v2]) w := by
  have c0 := H0.cell (i := 0) rfl
  have c1 := H1.cell (i := 0) rfl
  have c2 := H2.cell (i := 0) rfl
  rw [Array.getD_eq_getD_getElem?] at p0 p1 p2
  simp [results, h, p0, p1, p2, asAddr, go_sem, c0, c1, c2]
/-- What stands between two rounds. -/
structure P0 (w : World) (b0 b1 b2 b3 : Nat) (V : World) : Prop where
  r0 : Whole V b0 45 [.slice none 0 0]
  r1 : Whole V b1 3 [.int .i64 0]
  r2 : Whole V b2 24 [.int .i64 0]
  r3 : Whole V b3 45 [.slice none 0 0]
  below : Below w.heap.size w V
theorem P0.abs {w : World} {b0 b1 b2 b3 : Nat} {V V' : World} {r : Option Nat} (h : P0 w b0 b1 b2 b3 V) (hg : V.grownBy V' r) (hr : ∀ q, r = some q → b0 < q ∧ b1 < q ∧ b2 < q ∧ b3 < q ∧ w.heap.size ≤ q) : P0 w b0 b1 b2 b3 V' :=
  ⟨h.r0.at_ (hg.block _ h.r0.lt (fun e => by have := hr _ e.symm; omega)), h.r1.at_ (hg.block _ h.r1.lt (fun e => by have := hr _ e.symm; omega)), h.r2.at_ (hg.block _ h.r2.lt (fun e => by have := hr _ e.symm; omega)), h.r3.at_ (hg.block _ h.r3.lt (fun e => by have := hr _ e.symm; omega)), h.below.grown hg h.below.size (fun k e => by have := hr k e; omega)⟩
theorem P0.al {w : World} {b0 b1 b2 b3 : Nat} {V : World} (h : P0 w b0 b1 b2 b3 V) (o : Obj) : P0 w b0 b1 b2 b3 (V.alloc o) := ⟨h.r0.al o, h.r1.al o, h.r2.al o, h.r3.al o, bel_al h.below o⟩
set_option maxRecDepth 100000 in
set_option maxHeartbeats 4000000 in
theorem parse0_any (t : ByteArray) (ht : t = { data := #[] }) (w : World) : Calls Tryz.prog 15 #[.string t] w fun e w' => e = .returned (.tuple #[.slice none 0 0, .int .i64 0, .int .i64 0]) ∧ Below w.heap.size w w' := by
  have hts : t.size = 0 := by rw [ht]; rfl
  have HN := Lib.hid (numb0_any t)
  have HIt := Lib.hid (fun (bn : Nat) (K T : Nat → Prop) (W : World) => numb0_its bn t hts K T W)
  have HC : RowKit.Hid (∀ W, Calls Tryz.prog 21 #[.string t, .string { data := #[10] }] W fun e w' => e = .returned (.int .i64 0) ∧ w' = W) := Lib.hid (fun W => by
    refine (Tryz.strings_Count_one t 10 W).mono ?_
    rintro e w' ⟨rfl, rfl⟩
    rw [ht]
    exact ⟨rfl, rfl⟩)
  have h1I : ¬ (65536 : Int) < (t.size : Int) := by omega
  clear ht
  refine (callsIn_wide (n := 0)).1 ?_
  refine callsIn_of_wp_marks Tryz.func15 rfl trivial ?_
  simp only [Tryz.ntmps15, List.size_toArray, List.length_cons, List.length_nil, Nat.reduceAdd, Nat.reduceSub, Array.replicate_succ, Array.replicate_zero, List.push_toArray, List.append_toArray, List.nil_append, List.cons_append]
  refine wpIn_wide.2 ?_
  go_upto_region 4 with (go_at_call 21; refine (HC.out _).mono ?_; rintro e w' ⟨rfl, hww⟩; rw [hww]; clear hww w')
  have hx : P0 w w.heap.size (w.heap.size + 1) (w.heap.size + 1 + 1) (w.heap.size + 1 + 1 + 1) ((((w.alloc (.cells #[.slice none 0 0] 45)).alloc (.cells #[.int .i64 0] 3)).alloc (.cells #[.int .i64 0] 24)).alloc (.cells #[.slice none 0 0] 45)) :=
    ⟨(((Whole.new_ w 45 [.slice none 0 0]).al _).al _).al _, ((Whole.new2 (w := w.alloc (.cells #[.slice none 0 0] 45)) (by simp)).al _).al _, (Whole.new2 (w := (w.alloc (.cells #[.slice none 0 0] 45)).alloc (.cells #[.int .i64 0] 3)) (by simp)).al _, Whole.new2 (by simp), bel_al (bel_al (bel_al (below1 w _) _) _) _⟩
  have hsz : ((((w.alloc (.cells #[.slice none 0 0] 45)).alloc (.cells #[.int .i64 0] 3)).alloc (.cells #[.int .i64 0] 24)).alloc (.cells #[.slice none 0 0] 45)).heap.size = w.heap.size + 1 + 1 + 1 + 1 := by simp
  obtain ⟨W1, gW1⟩ : ∃ z, (((w.alloc (.cells #[.slice none 0 0] 45)).alloc (.cells #[.int .i64 0] 3)).alloc (.cells #[.int .i64 0] 24)).alloc (.cells #[.slice none 0 0] 45) = z := ⟨_, rfl⟩
  rw [gW1] at hx hsz
  obtain ⟨b0, gb0⟩ : ∃ z, w.heap.size = z := ⟨_, rfl⟩
  rw [gb0] at hx hsz
  obtain ⟨b1, gb1⟩ : ∃ z, b0 + 1 = z := ⟨_, rfl⟩
  rw [gb1] at hx hsz
  obtain ⟨b2, gb2⟩ : ∃ z, b1 + 1 = z := ⟨_, rfl⟩
  rw [gb2] at hx hsz
  obtain ⟨b3, gb3⟩ : ∃ z, b2 + 1 = z := ⟨_, rfl⟩
  rw [gb3] at hx hsz
  rw [gW1, gb0, gb1, gb2, gb3]
  have HP := Lib.hid hx
  have Hne : RowKit.Hid (w.heap.size = b0 ∧ b1 = b0 + 1 ∧ b2 = b0 + 2 ∧ b3 = b0 + 3) := Lib.hid ⟨gb0, by omega, by omega, by omega⟩
  have hsz1 : W1.heap.size = b3 + 1 := hsz
  have hn2 := HN.out W1
  clear gW1 gb0 gb1 gb2 gb3 hx hsz HC
  go_wp2_with (go_at_call 22; refine hn2.mono ?_; rintro e w' ⟨rfl, hww⟩; rw [hww]; clear hww w')
  have hP0 := HP.out.al (.cells #[.string t] 9)
  have HUn := Lib.hid (Whole.new_ W1 9 [.string t])
  have hszn : (W1.alloc (.cells #[.string t] 9)).heap.size = b3 + 2 := by rw [World.size_alloc, hsz1]
  obtain ⟨W2, gW2⟩ : ∃ z, W1.alloc (.cells #[.string t] 9) = z := ⟨_, rfl⟩
  rw [hsz1] at HUn
  rw [gW2] at hP0 HUn hszn ⊢
  try rw [hsz1]
  clear gW2 hn2 HN hsz1 HP
  obtain ⟨bn, gbn⟩ : ∃ z, b3 + 1 = z := ⟨_, rfl⟩
  rw [gbn] at HUn ⊢
  have Hls : RowKit.Hid (∀ q, W2.heap.size ≤ q → b0 < q ∧ b1 < q ∧ b2 < q ∧ b3 < q ∧ w.heap.size ≤ q) := Lib.hid (fun q hq => by have := Hne.out; omega)
  have N01 : RowKit.Hid (b0 ≠ b1) := Lib.hid (by have := Hne.out; omega)
  have N02 : RowKit.Hid (b0 ≠ b2) := Lib.hid (by have := Hne.out; omega)
  have N12 : RowKit.Hid (b1 ≠ b2) := Lib.hid (by have := Hne.out; omega)
  have N03 : RowKit.Hid (b3 ≠ b0) := Lib.hid (by have := Hne.out; omega)
  have Lb : RowKit.Hid (w.heap.size ≤ b0 ∧ w.heap.size ≤ b1 ∧ w.heap.size ≤ b2) := Lib.hid (by have := Hne.out; omega)
  have Hg2 : RowKit.Hid (b0 < W2.heap.size ∧ b1 < W2.heap.size ∧ b2 < W2.heap.size) := Lib.hid (by have := Hne.out; omega)
  clear gbn hszn Hne
  refine (wpIn_wide (n := 0)).1 ?_
  refine wpIn_roundS (gf := 34) (lb := #[.pointer (some ⟨bn, 0, none⟩)]) rfl (enters_of Tryz.func34 (by kernel_rfl) rfl) (encs := fun _ (x : ByteArray) => #[.int .i64 0, .string x]) (fun _ _ => rfl) (fun i => W2.heap.size + 2 ≤ i ∧ i ≤ W2.heap.size + 6) (fun i => W2.heap.size + 2 ≤ i ∧ i ≤ W2.heap.size + 6) (by omega) (by omega)
    (fun r => HIt.out bn _ _ _ (fun i h1 h2 => by simp only [World.size_alloc] at h1 h2; omega) (fun i h1 h2 => by simp only [World.size_alloc] at h1 h2; omega) ((HUn.out.al _).al _))
    (fun p V => P0 w b0 b1 b2 b3 V)
    (fun p x a' V => False)
    (fun k p V => False)
    (fun p A B r h hg hr => h.abs hg (fun q e => Hls.out q (by have := hr q e; omega)))
    (fun p x a' A B r h hg hr => h)
    (fun k p A B r h hg hr => h)
    hP0 ?assign ?body ?done ?stop
  case assign =>
    intro l' pre x V R hi hpre hsz3 hT3 hKK
    exact (no_more hpre).elim
  case body =>
    intro l' pre x a' V h
    exact h.elim
  case stop =>
    intro k pre V hpre h
    exact h.elim
  case done =>
    intro V h hKd
    have c3 := h.r3.cell (i := 0) rfl
    have c0 := h.r0.cell (i := 0) rfl
    have f0 := h.r0.free 0
    have q3 := (h.r3.far (p := ⟨b0, 0, none⟩) N03.out (.slice none 0 0)).cell (i := 0) rfl
    have q1 := (h.r1.far (p := ⟨b0, 0, none⟩) N01.out.symm (.slice none 0 0)).cell (i := 0) rfl
    have g1 := (h.r1.far (p := ⟨b0, 0, none⟩) N01.out.symm (.slice none 0 0)).free 0
    have q2 := ((h.r2.far (p := ⟨b0, 0, none⟩) N02.out.symm (.slice none 0 0)).far (p := ⟨b1, 0, none⟩) N12.out.symm (.int .i64 0)).cell (i := 0) rfl
    have g2 := ((h.r2.far (p := ⟨b0, 0, none⟩) N02.out.symm (.slice none 0 0)).far (p := ⟨b1, 0, none⟩) N12.out.symm (.int .i64 0)).free 0
    have hZ0 := ((h.r0.set_ 0 (.slice none 0 0)).far (p := ⟨b1, 0, none⟩) N01.out (.int .i64 0)).far (p := ⟨b2, 0, none⟩) N02.out (.int .i64 0)
    have hZ1 := ((h.r1.far (p := ⟨b0, 0, none⟩) N01.out.symm (.slice none 0 0)).set_ 0 (.int .i64 0)).far (p := ⟨b2, 0, none⟩) N12.out (.int .i64 0)
    have hZ2 := ((h.r2.far (p := ⟨b0, 0, none⟩) N02.out.symm (.slice none 0 0)).far (p := ⟨b1, 0, none⟩) N12.out.symm (.int .i64 0)).set_ 0 (.int .i64 0)
    have hZB := ((h.below.setCell (p := ⟨b0, 0, none⟩) Lb.out.1 (.slice none 0 0)).setCell (p := ⟨b1, 0, none⟩) Lb.out.2.1 (.int .i64 0)).setCell (p := ⟨b2, 0, none⟩) Lb.out.2.2 (.int .i64 0)
    have G0 := grownBy_setCell' V b0 (.slice none 0 0)
    have G1 := grownBy_setCell' (V.setCell ⟨b0, 0, none⟩ (.slice none 0 0)) b1 (.int .i64 0)
    have G2 := grownBy_setCell' ((V.setCell ⟨b0, 0, none⟩ (.slice none 0 0)).setCell ⟨b1, 0, none⟩ (.int .i64 0)) b2 (.int .i64 0)
    have hsV : W2.heap.size < V.heap.size := (Array.getElem?_eq_some_iff.1 hKd).1
    have hg2 := Hg2.out
    have hK1 := (G0.block W2.heap.size hsV (fun e => by cases e; omega)).trans hKd
    have hK2 := (G1.block W2.heap.size (Nat.lt_of_lt_of_le hsV G0.size) (fun e => by cases e; omega)).trans hK1
    have hK3 := (G2.block W2.heap.size (Nat.lt_of_lt_of_le hsV (Nat.le_trans G0.size G1.size)) (fun e => by cases e; omega)).trans hK2
    have HZ0 := Lib.hid (hZ0.at_ (World.putObj_heap_other (o := .deferred none) (show b0 ≠ W2.heap.size by omega)))
    have HZ1 := Lib.hid (hZ1.at_ (World.putObj_heap_other (o := .deferred none) (show b1 ≠ W2.heap.size by omega)))
    have HZ2 := Lib.hid (hZ2.at_ (World.putObj_heap_other (o := .deferred none) (show b2 ≠ W2.heap.size by omega)))
    have HZB := Lib.hid (hZB.grown (grownBy_putObj' _ W2.heap.size (.deferred none)) hZB.size (fun q e => by cases e; have := Hls.out W2.heap.size (Nat.le_refl _); omega))
    have HK3 := Lib.hid hK3
    clear hZ0 hZ1 hZ2 hZB G0 G1 G2 hK1 hK2 hK3 hKd h hP0 hg2 hsV
    go_wp2
    refine ⟨by simp, .inl ⟨_, _, rfl, run_takeDeferred HK3.out, ?_⟩⟩
    exact ⟨_, res3_ rfl rfl rfl rfl HZ0.out HZ1.out HZ2.out, rfl, HZB.out⟩
end Go.Proofs.YtinhenmafjoaoaaGreatDoor
