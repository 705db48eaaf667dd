/- The laws' short of layer 16; the document's example. -/
import Derived.Test.YthfngmlnmpbcpaaSd4
namespace Go.Proofs.Ythfngmlnmpbcpaa
open Go.RowKit
set_option linter.unusedSimpArgs false
set_option linter.unusedVariables false

theorem short_any (A : Option Addr) (n c : Nat) (L : List Nat) (w : World) (h : RdS w w.heap.size 1 A n c (rowsV f8 L)) (hn : n ≤ maxLen) :
    Calls Try.prog 15 #[.slice A n c] w fun e w' => e = .returned (.slice A (L.take 60).length c) ∧ w = w' := by
  have hl := h.rlen f8_len (by decide)
  have hle := h.le
  unfold maxLen at hn
  by_cases h6 : 60 < n
  · have hm : (L.take 60).length = 60 := by rw [List.length_take]; omega
    rw [hm]
    have q : decide ((60 : Int) < (n : Int)) = true := decide_eq_true (by omega)
    clear hm hl h
    go_enter Try.func15, Try.ntmps15
    go_wp2
    go_ret
    exact ⟨rfl, rfl⟩
  · have hm : (L.take 60).length = n := by rw [List.length_take]; omega
    rw [hm]
    have q : decide ((60 : Int) < (n : Int)) = false := decide_eq_false (by omega)
    clear hm hl h
    go_enter Try.func15, Try.ntmps15
    go_wp2
    go_ret
    exact ⟨rfl, rfl⟩
theorem short_b (A : Option Addr) (n c : Nat) (L : List Nat) (w : World) (h : RdS w w.heap.size 1 A n c (rowsV f8 L)) (hn : n ≤ maxLen) :
    Calls Try.prog 15 #[.slice A n c] w fun e w' => e = .returned (.slice A (L.take 60).length c) ∧ Below w.heap.size w w' :=
  (short_any A n c L w h hn).mono fun e w' ⟨h1, h2⟩ => ⟨h1, h2 ▸ Below.refl _ _⟩
theorem RdS.of_marked {cs : Array Value} {t : TypeId} (w : World) (fr : Nat × Nat) {n size : Nat} (hn : cs.toList.length = n * size) : RdS (w.alloc (.cells cs t fr)) (w.alloc (.cells cs t fr)).heap.size size (some ⟨w.heap.size, 0, none⟩) n n cs.toList :=
  ⟨hn, fun e => (by cases e), Nat.le_refl _, fun a ha _ => (by obtain rfl := Option.some.inj ha; simp), fun a ha => (by obtain rfl := Option.some.inj ha; exact World.news_of_block (fr := fr) (heap_alloc_new w _))⟩
theorem SdIn.kge {B : Nat} {w : World} {g win ack c : Nat} {Ls : List (List Nat)} {A : Option Addr} {es : List Sl} {k : Option Nat} (h : SdIn B w g win ack Ls A c es k) : ∀ b, k = some b → B ≤ b := by
  intro b hb
  rcases h.own with ⟨h1, h2⟩ | ⟨h1, _⟩
  · exact (h2.lt b (h1.symm.trans hb)).1
  · rw [h1] at hb; cases hb
/-- What a call on it turns lies from B on. -/
theorem SdIn.far {B : Nat} {w w' : World} {g win ack c : Nat} {Ls : List (List Nat)} {A : Option Addr} {es : List Sl} {k : Option Nat} (h : SdIn B w g win ack Ls A c es k) (hk : Kept (fun b => b = g ∨ some b = k) w w') (hB : B ≤ w.heap.size) : Below B w w' :=
  hk.below hB (fun i hi e => by
    rcases e with e | e
    · have := h.lo; omega
    · have := h.kge i e.symm; omega)
theorem SdIn.far1 {B : Nat} {w w' : World} {g win ack c : Nat} {Ls : List (List Nat)} {A : Option Addr} {es : List Sl} {k : Option Nat} (h : SdIn B w g win ack Ls A c es k) (hk : Kept (fun b => b = g) w w') (hB : B ≤ w.heap.size) : Below B w w' :=
  h.far (hk.wider (fun i _ e => Or.inl e)) hB
set_option maxRecDepth 100000 in
set_option maxHeartbeats 1000000 in
theorem shown16 (w : World) : Calls Try.prog 9 #[] w fun e w' => e = .returned (.bool true) ∧ Below w.heap.size w w' := by
  go_enter Try.func9, Try.ntmps9
  go_wp2_with fail
  refine (new_any 2 w).mono ?_
  rintro e w1 ⟨g, win, rfl, hwin, hS, hb⟩
  obtain rfl : win = 2 := by
    have : min (max (2 : Int) 1) 64 = 2 := by decide
    omega
  have HS1 := Lib.hid hS
  have HB1 := Lib.hid hb
  clear hwin hS hb
  have hcv := Lib.run_convert_bytes_const (P := Try.prog) w1 32 5 #[.int .u8 97] 1 1 Try.underlying32 Try.underlying5
  have hR : RdS (w1.alloc (.cells #[.int .u8 97] 5 (1, 2))) (w1.alloc (.cells #[.int .u8 97] 5 (1, 2))).heap.size 1 (some ⟨w1.heap.size, 0, none⟩) 1 1 (rowsV f8 [97]) := RdS.of_marked w1 (1, 2) rfl
  have hS' := HS1.out.below (below1 w1 (.cells #[.int .u8 97] 5 (1, 2)))
  have hP := push_yes _ hS' (by omega) (by decide) (some ⟨w1.heap.size, 0, none⟩) 1 [97] hR (by decide) (by decide) (by decide) (Nat.le_trans HB1.out.size (by simp))
  have HP : RowKit.Hid (Calls Try.prog 13 #[.pointer (some ⟨g, 0, none⟩), .slice (some ⟨w1.heap.size, 0, none⟩) 1 1] (w1.alloc (.cells #[.int .u8 97] 5 (1, 2))) fun e w' => e = .returned (.tuple #[.int .i64 1, .int .i64 0]) ∧ Below w.heap.size (w1.alloc (.cells #[.int .u8 97] 5 (1, 2))) w' ∧ ∃ A' c' es' k', SdIn w.heap.size w' g 2 0 [[97]] A' c' es' k') := Lib.hid (hP.mono fun e w' ⟨h1, A', c', es', k', h2, h3, h4⟩ => ⟨h1, hS'.far h3 (Nat.le_trans HB1.out.size (by simp)), A', c', es', k', h2⟩)
  clear hR hS' hP
  go_wp2_with fail
  refine HP.out.mono ?_
  rintro e w2 ⟨rfl, hb, A', c', es', k', hS⟩
  have HS2 := Lib.hid hS
  have HB2 : RowKit.Hid (Below w.heap.size w w2) := Lib.hid ((bel_al HB1.out (.cells #[.int .u8 97] 5 (1, 2))).trans hb)
  clear hb hS HP HS1 HB1 hcv
  have hcv := Lib.run_convert_bytes_const (P := Try.prog) w2 32 5 #[.int .u8 98] 1 1 Try.underlying32 Try.underlying5
  have hR : RdS (w2.alloc (.cells #[.int .u8 98] 5 (1, 2))) (w2.alloc (.cells #[.int .u8 98] 5 (1, 2))).heap.size 1 (some ⟨w2.heap.size, 0, none⟩) 1 1 (rowsV f8 [98]) := RdS.of_marked w2 (1, 2) rfl
  have hS' := HS2.out.below (below1 w2 (.cells #[.int .u8 98] 5 (1, 2)))
  have hP := push_yes _ hS' (by omega) (by decide) (some ⟨w2.heap.size, 0, none⟩) 1 [98] hR (by decide) (by decide) (by decide) (Nat.le_trans HB2.out.size (by simp))
  have HP : RowKit.Hid (Calls Try.prog 13 #[.pointer (some ⟨g, 0, none⟩), .slice (some ⟨w2.heap.size, 0, none⟩) 1 1] (w2.alloc (.cells #[.int .u8 98] 5 (1, 2))) fun e w' => e = .returned (.tuple #[.int .i64 2, .int .i64 0]) ∧ Below w.heap.size (w2.alloc (.cells #[.int .u8 98] 5 (1, 2))) w' ∧ ∃ A' c' es' k', SdIn w.heap.size w' g 2 0 [[97], [98]] A' c' es' k') := Lib.hid (hP.mono fun e w' ⟨h1, A', c', es', k', h2, h3, h4⟩ => ⟨h1, hS'.far h3 (Nat.le_trans HB2.out.size (by simp)), A', c', es', k', h2⟩)
  clear hR hS' hP
  go_wp2_with fail
  refine HP.out.mono ?_
  rintro e w3 ⟨rfl, hb, A', c', es', k', hS⟩
  have HS3 := Lib.hid hS
  have HB3 : RowKit.Hid (Below w.heap.size w w3) := Lib.hid ((bel_al HB2.out (.cells #[.int .u8 98] 5 (1, 2))).trans hb)
  clear hb hS HP HS2 HB2 hcv
  have hcv := Lib.run_convert_bytes_const (P := Try.prog) w3 32 5 #[.int .u8 99] 1 1 Try.underlying32 Try.underlying5
  have hR : RdS (w3.alloc (.cells #[.int .u8 99] 5 (1, 2))) (w3.alloc (.cells #[.int .u8 99] 5 (1, 2))).heap.size 1 (some ⟨w3.heap.size, 0, none⟩) 1 1 (rowsV f8 [99]) := RdS.of_marked w3 (1, 2) rfl
  have hS' := HS3.out.below (below1 w3 (.cells #[.int .u8 99] 5 (1, 2)))
  have hP : Calls Try.prog 13 #[.pointer (some ⟨g, 0, none⟩), .slice (some ⟨w3.heap.size, 0, none⟩) 1 1] (w3.alloc (.cells #[.int .u8 99] 5 (1, 2))) fun e w' => e = .returned (.tuple #[.int .i64 0, .int .i64 20]) ∧ Below (w3.alloc (.cells #[.int .u8 99] 5 (1, 2))).heap.size (w3.alloc (.cells #[.int .u8 99] 5 (1, 2))) w' := push_full _ hS' (by omega) (by decide) _ _ _ (by decide)
  have HP := Lib.hid hP
  have HSx := Lib.hid hS'
  clear hR hS' hP
  go_wp2_with fail
  refine HP.out.mono ?_
  rintro e w4 ⟨rfl, hb⟩
  have HS4 := Lib.hid (HSx.out.below hb)
  have HB4 : RowKit.Hid (Below w.heap.size w w4) := Lib.hid (bel_bl (bel_al HB3.out (.cells #[.int .u8 99] 5 (1, 2))) hb)
  clear hb HP HSx HS3 HB3 hcv
  have hA := ack_yes w4 HS4.out (by omega) (by decide) 1 (by decide)
  have HA : RowKit.Hid (Calls Try.prog 14 #[.pointer (some ⟨g, 0, none⟩), .int .i64 1] w4 fun e w' => e = .returned (.int .i64 0) ∧ Below w.heap.size w4 w' ∧ ∃ A' c' es' k', SdIn w.heap.size w' g 2 1 [[98]] A' c' es' k') := Lib.hid (hA.mono fun e w' ⟨h1, A', c', es', k', h2, h3, h4⟩ => ⟨h1, HS4.out.far1 h3 HB4.out.size, A', c', es', k', h2⟩)
  clear hA
  go_wp2_with fail
  refine HA.out.mono ?_
  rintro e w5 ⟨rfl, hb, A5, c5, es5, k5, hS⟩
  have HS5 := Lib.hid hS
  have HB5 : RowKit.Hid (Below w.heap.size w w5) := Lib.hid (HB4.out.trans hb)
  have HD := Lib.hid (due_any w5 hS (by omega) (by decide))
  clear hb hS HA HS4 HB4
  go_wp2_with fail
  refine HD.out.mono ?_
  rintro e w6 ⟨gd, rfl, hg, hW, hb⟩
  have l0 : w6.cell? ⟨gd, 0, none⟩ = some (.int .i64 2) := hW.cell (i := 0) rfl
  have HB6 : RowKit.Hid (Below w.heap.size w w6) := Lib.hid (bel_bl HB5.out hb)
  clear hb hW HD HS5 HB5 hg
  go_wp2
  go_ret
  exact ⟨rfl, HB6.out⟩
end Go.Proofs.Ythfngmlnmpbcpaa
