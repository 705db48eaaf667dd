/- The document's own sender: New, Ack, Body, Due. -/
import Derived.Test.YthfngmlnmpbcpaaSd9
namespace Go.Proofs.Ythfngmlnmpbcpaa
open Go.RowKit
set_option linter.unusedSimpArgs false
set_option linter.unusedVariables false

/-- The document's sender at block g: all that was pushed. -/
structure RfIn (w : World) (g win ack : Nat) (TL : List (List Nat)) (A : Option Addr) (c : Nat) (es : List Sl) : Prop where
  box : Whole w g 36 [.int .i64 (win : Int), .int .i64 (ack : Int), .slice A TL.length c]
  row : RdS w w.heap.size 1 A TL.length c (rowsV slc es)
  rne : ∀ a, A = some a → 0 < TL.length → a.block ≠ g
  each : ∀ (i : Nat) (L : List Nat), TL[i]? = some L → ∃ (a : Option Addr) (m : Nat), es[i]? = some (a, L.length, m) ∧ RdS w w.heap.size 1 a L.length m (rowsV f8 L) ∧ (∀ b ∈ L, b < 256) ∧ L.length ≤ 60 ∧ (∀ a', a = some a' → 0 < L.length → a'.block ≠ g)
theorem RfIn.eslen {w : World} {g win ack c : Nat} {TL : List (List Nat)} {A : Option Addr} {es : List Sl} (h : RfIn w g win ack TL A c es) : es.length = TL.length := h.row.rlen slc_len (by decide)
theorem RfIn.keep {S : Nat → Prop} {w w' : World} {g win ack c : Nat} {TL : List (List Nat)} {A : Option Addr} {es : List Sl} (h : RfIn w g win ack TL A c es) (hk : Kept S w w') (hg : ¬ S g) (hr : ∀ a, A = some a → 0 < TL.length → ¬ S a.block)
    (hb : ∀ (i : Nat) (L : List Nat) (a : Addr) (m : Nat), TL[i]? = some L → es[i]? = some (some a, L.length, m) → 0 < L.length → ¬ S a.block) : RfIn w' g win ack TL A c es := by
  refine ⟨hk.whole h.box hg, h.row.kept_ne hk hr, h.rne, fun i L hL => ?_⟩
  obtain ⟨a, m, q1, q2, q3, q4, q5⟩ := h.each i L hL
  exact ⟨a, m, q1, q2.kept_ne hk (fun a' ha hn => hb i L a' m hL (ha ▸ q1) hn), q3, q4, q5⟩
theorem RfIn.below {w w' : World} {g win ack c : Nat} {TL : List (List Nat)} {A : Option Addr} {es : List Sl} (h : RfIn w g win ack TL A c es) (hb : Below w.heap.size w w') : RfIn w' g win ack TL A c es :=
  h.keep (S := fun _ => False) ⟨hb.os, hb.tape, hb.output, hb.size, fun i hi _ => hb.block i hi⟩ (fun e => e) (fun _ _ _ e => e) (fun _ _ _ _ _ _ _ e => e)
set_option maxRecDepth 100000 in
theorem rnew_any (x : Int) (w : World) : Calls Try.prog 11 #[.int .i64 x] w fun e w' => ∃ g win : Nat, e = .returned (.pointer (some ⟨g, 0, none⟩)) ∧ (win : Int) = min (max x 1) 64 ∧ w.heap.size ≤ g ∧ RfIn w' g win 0 [] none 0 [] ∧ Below w.heap.size w w' := by
  obtain ⟨win, hw⟩ : ∃ win : Nat, (win : Int) = min (max x 1) 64 := ⟨(min (max x 1) 64).toNat, by omega⟩
  have Hw := Lib.hid hw
  clear hw
  go_enter Try.func11, Try.ntmps11
  go_wp2
  go_ret
  have hB : Whole (w.alloc (.cells #[.int .i64 (min (max x 1) 64), .int .i64 0, .slice none 0 0] 36)) w.heap.size 36 [.int .i64 (min (max x 1) 64), .int .i64 0, .slice none 0 0] := Whole.new_ w _ [_, _, _]
  rw [← Hw.out] at hB ⊢
  exact ⟨w.heap.size, win, rfl, rfl, Nat.le_refl _, ⟨hB, rds_nil _ _ _, fun a ha => (by cases ha), fun i L hL => (by simp at hL)⟩, below1 _ _⟩
set_option maxRecDepth 100000 in
theorem rack_lo {g win ack c : Nat} {TL : List (List Nat)} {A : Option Addr} {es : List Sl} (w : World) (h : RfIn w g win ack TL A c es) (ha : ack ≤ 200000) (hn : TL.length ≤ 200000) (x : Int) (hx : x < ack) :
    Calls Try.prog 17 #[.pointer (some ⟨g, 0, none⟩), .int .i64 x] w fun e w' => e = .returned (.int .i64 22) ∧ w = w' := by
  have l1 := h.box.cell (i := 1) rfl
  have t1 : decide (x < (ack : Int)) = true := decide_eq_true hx
  clear h ha hn
  go_enter Try.func17, Try.ntmps17
  go_wp2
  go_ret
  exact ⟨rfl, rfl⟩
set_option maxRecDepth 100000 in
theorem rack_hi {g win ack c : Nat} {TL : List (List Nat)} {A : Option Addr} {es : List Sl} (w : World) (h : RfIn w g win ack TL A c es) (ha : ack ≤ 200000) (hn : TL.length ≤ 200000) (x : Int) (hax : (ack : Int) ≤ x) (hx : (TL.length : Int) < x) :
    Calls Try.prog 17 #[.pointer (some ⟨g, 0, none⟩), .int .i64 x] w fun e w' => e = .returned (.int .i64 22) ∧ w = w' := by
  have l1 := h.box.cell (i := 1) rfl
  have l2 := h.box.cell (i := 2) rfl
  have t1 : decide (x < (ack : Int)) = false := decide_eq_false (by omega)
  have t2 : decide ((TL.length : Int) < x) = true := decide_eq_true hx
  have hx2 : ¬ x < (ack : Int) := by omega
  clear h ha hn hax
  go_enter Try.func17, Try.ntmps17
  go_wp2
  go_ret
  exact ⟨rfl, rfl⟩
set_option maxRecDepth 100000 in
theorem rack_yes {g win ack c : Nat} {TL : List (List Nat)} {A : Option Addr} {es : List Sl} (w : World) (h : RfIn w g win ack TL A c es) (ha : ack ≤ 200000) (hn : TL.length ≤ 200000) (j : Nat) (h1 : ack ≤ j) (h2 : j ≤ TL.length) :
    Calls Try.prog 17 #[.pointer (some ⟨g, 0, none⟩), .int .i64 (j : Int)] w fun e w' => e = .returned (.int .i64 0) ∧ RfIn w' g win j TL A c es ∧ Kept (fun b => b = g) w w' := by
  have l1 := h.box.cell (i := 1) rfl
  have l2 := h.box.cell (i := 2) rfl
  have f1 := h.box.free 1
  have t1 : decide (j < ack) = false := decide_eq_false (by omega)
  have t2 : decide (TL.length < j) = false := decide_eq_false (by omega)
  have H := Lib.hid h
  clear h
  go_enter Try.func17, Try.ntmps17
  go_wp2
  go_ret
  have hk : Kept (fun b => b = g) w (w.setCell ⟨g, 1, none⟩ (.int .i64 (j : Int))) := (Kept.refl (fun b => b = g) w).setCell (p := ⟨g, 1, none⟩) (.inl rfl) _
  refine ⟨rfl, ⟨H.out.box.set_ 1 _, H.out.row.kept_ne hk (fun a ha hn e => H.out.rne a ha hn e), H.out.rne, fun i L hL => ?_⟩, hk⟩
  obtain ⟨a, m, q1, q2, q3, q4, q5⟩ := H.out.each i L hL
  exact ⟨a, m, q1, q2.kept_ne hk (fun a' ha hn e => q5 a' ha hn e), q3, q4, q5⟩
set_option maxRecDepth 100000 in
theorem rbody_lo {g win ack c : Nat} {TL : List (List Nat)} {A : Option Addr} {es : List Sl} (w : World) (h : RfIn w g win ack TL A c es) (ha : ack ≤ 200000) (hn : TL.length ≤ 200000) (x : Int) (hx : x ≤ ack) :
    Calls Try.prog 22 #[.pointer (some ⟨g, 0, none⟩), .int .i64 x] w fun e w' => e = .returned (.tuple #[.slice none 0 0, .bool false]) ∧ Below w.heap.size w w' := by
  have l1 := h.box.cell (i := 1) rfl
  have t1 : decide (x ≤ (ack : Int)) = true := decide_eq_true hx
  clear h ha hn
  go_enter Try.func22, Try.ntmps22
  go_wp2
  refine bodyPost_ret (v := .tuple #[.slice none 0 0, .bool false]) (by simp [results, Try.results22, go_sem]) rfl ⟨rfl, Below.refl _ _⟩
set_option maxRecDepth 100000 in
theorem rbody_hi {g win ack c : Nat} {TL : List (List Nat)} {A : Option Addr} {es : List Sl} (w : World) (h : RfIn w g win ack TL A c es) (ha : ack ≤ 200000) (hn : TL.length ≤ 200000) (x : Int) (hax : (ack : Int) < x) (hx : (TL.length : Int) < x) :
    Calls Try.prog 22 #[.pointer (some ⟨g, 0, none⟩), .int .i64 x] w fun e w' => e = .returned (.tuple #[.slice none 0 0, .bool false]) ∧ Below w.heap.size w w' := by
  have l1 := h.box.cell (i := 1) rfl
  have l2 := h.box.cell (i := 2) rfl
  have t1 : decide (x ≤ (ack : Int)) = false := decide_eq_false (by omega)
  have t2 : decide ((TL.length : Int) < x) = true := decide_eq_true hx
  have hx2 : ¬ x ≤ (ack : Int) := by omega
  clear h ha hn hax
  go_enter Try.func22, Try.ntmps22
  go_wp2
  refine bodyPost_ret (v := .tuple #[.slice none 0 0, .bool false]) (by simp [results, Try.results22, go_sem]) rfl ⟨rfl, Below.refl _ _⟩
set_option maxRecDepth 100000 in
set_option maxHeartbeats 1000000 in
theorem rbody_yes {g win ack c : Nat} {TL : List (List Nat)} {A : Option Addr} {es : List Sl} (w : World) (h : RfIn w g win ack TL A c es) (ha : ack ≤ 200000) (hn : TL.length ≤ 200000) (x : Int) (i : Nat) (L : List Nat) (hL : TL[i]? = some L) (hax : (ack : Int) < x) (hx : x = (i : Int) + 1) :
    Calls Try.prog 22 #[.pointer (some ⟨g, 0, none⟩), .int .i64 x] w fun e w' => ∃ A' c', e = .returned (.tuple #[.slice A' L.length c', .bool true]) ∧ RdS w' w'.heap.size 1 A' L.length c' (rowsV f8 L) ∧ Below w.heap.size w w' := by
  have hil := (List.getElem?_eq_some_iff.1 hL).1
  obtain ⟨i0, hi, hz0, hz1, hz2⟩ := info_parts_ info_u8
  obtain ⟨a, m, q1, q2, q3, q4, q5⟩ := h.each i L hL
  obtain ⟨bb, off, rfl, hbB, -⟩ := h.row.place slc_len (by decide) (by omega)
  have hcc := h.row.cell _ rfl i _ (rowsV_atS q1)
  rw [Addr.add_lit] at hcc
  have l1 := h.box.cell (i := 1) rfl
  have l2 := h.box.cell (i := 2) rfl
  have b2 := (h.box.alloc (.cells #[] 5)).cell (i := 2) rfl
  have c2 : (w.alloc (.cells #[] 5)).cell? ⟨bb, off + i, none⟩ = some (.slice a L.length m) := ((below1 w (.cells #[] 5)).cell (p := ⟨bb, off + i, none⟩) (World.block_lt_of_cell? w _ hcc)).trans hcc
  have t1 : decide (x ≤ (ack : Int)) = false := decide_eq_false (by omega)
  have t2 : decide ((TL.length : Int) < x) = false := decide_eq_false (by omega)
  have t3 : ¬ x ≤ (ack : Int) := by omega
  have t4 : ¬ (TL.length : Int) < x := by omega
  have s2 : IntKind.i64.wrap (x - 1) = (i : Int) := by rw [IntWalk.i64_in _ (by omega)]; omega
  have HRa := Lib.hid (q2.al (.cells #[] 5))
  have h60 := q4
  clear h ha hn hL hx q1 q2 q3 q4 q5 hcc hax
  go_enter Try.func22, Try.ntmps22
  go_wp2_with (first
    | (at_builtin
       refine wpList_push2 rfl (.tmp 21) (.tmp 29) _ rfl _ 5 i0 _ 1 1 Try.underlying32 hi hz0 hz1 hz2 rfl (by decide) _ _ _ rfl (Ow.new_ (cs := #[]) (Below.refl _ _) (Nat.le_refl _) (Nat.le_refl _) (Nat.zero_le _) rfl) _ _ _ _ _ rfl HRa.out (f8_all _) (by unfold maxLen; omega) (by omega) ?_
       intro v1 w4 how1 hb4 hgr
       rw [Nat.zero_add, List.nil_append] at how1
       obtain ⟨Ap, cp, rfl, hr4⟩ := how1.rds
       have HOW := Lib.hid how1
       have HRp := Lib.hid hr4
       clear how1 hb4 hgr hr4))
  refine bodyPost_ret (v := .tuple #[.slice Ap L.length cp, .bool true]) (by simp [results, Try.results22, go_sem]) rfl ⟨Ap, cp, rfl, HRp.out, HOW.out.below⟩
set_option maxRecDepth 100000 in
set_option maxHeartbeats 1000000 in
theorem rdue_any {g win ack c : Nat} {TL : List (List Nat)} {A : Option Addr} {es : List Sl} (w : World) (h : RfIn w g win ack TL A c es) (ha : ack ≤ 200000) (hn : TL.length ≤ 200000) (hal : ack ≤ TL.length) :
    Calls Try.prog 20 #[.pointer (some ⟨g, 0, none⟩)] w fun e w' => ∃ A' c', e = .returned (.slice A' (TL.length - ack) c') ∧ RdS w' w'.heap.size 1 A' (TL.length - ack) c' (rowsV intC (nums ack (TL.length - ack))) ∧ Below w.heap.size w w' := by
  obtain ⟨i0, hi, hz0, hz1, hz2⟩ := info_parts_ info_int
  have H := Lib.hid h.box
  obtain ⟨n, gn⟩ : ∃ n, TL.length = n := ⟨_, rfl⟩
  rw [gn] at H hn hal ⊢
  have b1 := (H.out.alloc (.cells #[] 3)).cell (i := 1) rfl
  have HO : RowKit.Hid (Ow w w.heap.size 3 1 (.slice (some ⟨w.heap.size, 0, none⟩) 0 0) 0 [] (w.alloc (.cells #[] 3))) := Lib.hid (Ow.new_ (cs := #[]) (Below.refl _ _) (Nat.le_refl _) (Nat.le_refl _) (Nat.zero_le _) rfl)
  clear h gn
  go_enter Try.func20, Try.ntmps20
  go_wp2
  clear b1
  go_loopw [3, 4] (fun sv si wr => ∃ j : Nat, j ≤ n - ack ∧ si = .int .i64 ((ack : Int) + (j : Int) + 1) ∧ RowKit.Hid (Ow w w.heap.size 3 1 sv j (rowsV intC (nums ack j)) wr)) (fun _ si _ => (n + 1) - (intOf si).toNat)
  case atStart => exact ⟨0, Nat.zero_le _, by simp, HO⟩
  case round =>
    clear HO
    obtain ⟨j, hj, rfl, HJ⟩ := hrel
    have l2 := (H.out.below HJ.out.below).cell (i := 2) rfl
    obtain ⟨Av, cv, rfl, -⟩ := HJ.out.rds
    obtain ⟨X, hX⟩ : ∃ X : Int, (ack : Int) + (j : Int) + 1 = X := ⟨_, rfl⟩
    have HX := Lib.hid hX
    rw [hX]
    by_cases hjn : j < n - ack
    · have t1 : decide (X ≤ (n : Int)) = true := decide_eq_true (by omega)
      have w1 : IntKind.i64.wrap (X + 1) = X + 1 := IntWalk.i64_in _ (by omega)
      have hXn : X ≤ (n : Int) := by omega
      have hX0 : 0 ≤ X := by omega
      clear hX
      go_wp2_with (at_builtin; refine wpList_push2 rfl (.tmp 20) (.tmp 22) _ rfl _ 3 i0 _ 1 8 Try.underlying41 hi hz0 hz1 hz2 rfl (by decide) _ _ _ rfl (by exact Ow.up HJ.out (below1 _ _)) _ (some ⟨wr.heap.size, 0, none⟩) 1 1 [.int .i64 X] rfl (by exact RdS.new_ rfl (Nat.lt_succ_self _) rfl rfl) (by simp [Value.oneCell']) (by unfold maxLen; omega) (by omega) ?_; intro v5 w5 how5 hb5 hgr5; have HO5 := Lib.hid how5; clear how5 hb5 hgr5)
      go_roundw
      case rel => exact ⟨j + 1, by omega, by rw [← HX.out]; go_num, Lib.hid (by rw [nums_succ, rowsV_app]; have := HO5.out; rw [← HX.out] at this; exact this)⟩
      case measure => simp [intOf]; omega
    · obtain rfl : j = n - ack := by omega
      have t1 : decide (X ≤ (n : Int)) = false := decide_eq_false (by omega)
      have hXn : ¬ X ≤ (n : Int) := by omega
      clear hX
      obtain ⟨A3, c3, e3, hr3⟩ := HJ.out.rds
      injection e3 with q1 _ q3
      subst q1 q3
      have HR3 := Lib.hid hr3
      clear hr3
      go_wp2
      go_ret
      exact ⟨Av, cv, rfl, HR3.out, HJ.out.below⟩
set_option maxRecDepth 100000 in
set_option maxHeartbeats 1000000 in
theorem ints_eq (A1 A2 : Option Addr) (n c1 c2 : Nat) (xs : List Int) (w : World) (h1 : RdS w w.heap.size 1 A1 n c1 (rowsV intC xs)) (h2 : RdS w w.heap.size 1 A2 n c2 (rowsV intC xs)) (hn : n ≤ 200000) :
    Calls Try.prog 18 #[.slice A1 n c1, .slice A2 n c2] w fun e w' => e = .returned (.bool true) ∧ Below w.heap.size w w' := by
  have hl := h1.rlen intC_len (by decide)
  have H1 := Lib.hid h1
  have H2 := Lib.hid h2
  have Hl := Lib.hid hl
  clear h1 h2 hl
  go_enter Try.func18, Try.ntmps18
  go_wp2
  go_loopw [5] (fun si wr => ∃ j : Nat, j ≤ n ∧ si = .int .i64 j ∧ RowKit.Hid (Below w.heap.size w wr)) (fun si _ => n - (intOf si).toNat)
  case atStart => exact ⟨0, Nat.zero_le _, rfl, Lib.hid (Below.refl _ _)⟩
  case round =>
    obtain ⟨j, hj, rfl, HB⟩ := hrel
    by_cases hjn : j < n
    · obtain ⟨b1, o1, rfl, hb1, hp1⟩ := H1.out.place intC_len (by decide) (by omega)
      obtain ⟨b2, o2, rfl, hb2, hp2⟩ := H2.out.place intC_len (by decide) (by omega)
      obtain ⟨x, hx⟩ : ∃ x, xs[j]? = some x := ⟨_, List.getElem?_eq_getElem (by have := Hl.out; omega)⟩
      have k1 := hp1 j x hx 0 (.int .i64 x) rfl
      have k2 := hp2 j x hx 0 (.int .i64 x) rfl
      rw [Addr.add_lit] at k1 k2
      simp only [Nat.add_zero, Nat.mul_one] at k1 k2
      have k1' := (HB.out.cell (p := ⟨b1, o1 + j, none⟩) hb1).trans k1
      have k2' := (HB.out.cell (p := ⟨b2, o2 + j, none⟩) hb2).trans k2
      have ld1 : ∀ w', Kept Nil_ wr.drew w' → w'.cell? ⟨b1, o1 + j, none⟩ = some (.int .i64 x) := fun w' hk => hk.nil_cell (show wr.drew.cell? ⟨b1, o1 + j, none⟩ = _ from k1')
      have ld2 : ∀ w', Kept Nil_ wr.drew w' → w'.cell? ⟨b2, o2 + j, none⟩ = some (.int .i64 x) := fun w' hk => hk.nil_cell (show wr.drew.cell? ⟨b2, o2 + j, none⟩ = _ from k2')
      clear hx hp1 hp2 k1 k2 k1' k2' hb1 hb2
      go_upto_region 6 with fail
      refine wp_region_reg (Nil_) (by kernel_rfl) ?_
      apply wpR_next 0 (some 17)
      · simp only [List.getElem?_toArray, List.getElem?_cons_succ, List.getElem?_cons_zero]; exact rfl
      · rfl
      · kernel_rfl
      · kernel_rfl
      · kernel_rfl
      · exact fun _ _ _ _ h => h
      apply Exists.intro
      apply And.intro
      · apply yr_run; rfl; intro w' hw'; go_simp; (try with_reducible rfl)
      simp only [Act.put, List.setIfInBounds_toArray, List.set_cons_zero, List.set_cons_succ]
      apply wpR_next 1 (some 18)
      · simp only [List.getElem?_toArray, List.getElem?_cons_succ, List.getElem?_cons_zero]; exact rfl
      · rfl
      · kernel_rfl
      · kernel_rfl
      · kernel_rfl
      · exact fun _ _ _ _ h => h
      apply Exists.intro
      apply And.intro
      · apply yr_run; rfl; intro w' hw'; go_simp; (try with_reducible rfl)
      simp only [Act.put, List.setIfInBounds_toArray, List.set_cons_zero, List.set_cons_succ]
      apply wpR_next 2 (some 19)
      · simp only [List.getElem?_toArray, List.getElem?_cons_succ, List.getElem?_cons_zero]; exact rfl
      · rfl
      · kernel_rfl
      · kernel_rfl
      · kernel_rfl
      · exact fun _ _ _ _ h => h
      apply Exists.intro
      apply And.intro
      · apply yr_run; rfl; intro w' hw'; go_simp; (try with_reducible rfl)
      simp only [Act.put, List.setIfInBounds_toArray, List.set_cons_zero, List.set_cons_succ]
      apply wpR_next 3 (some 20)
      · simp only [List.getElem?_toArray, List.getElem?_cons_succ, List.getElem?_cons_zero]; exact rfl
      · rfl
      · kernel_rfl
      · kernel_rfl
      · kernel_rfl
      · exact fun _ _ _ _ h => h
      apply Exists.intro
      apply And.intro
      · apply yr_run; rfl; intro w' hw'; go_simp; (try with_reducible rfl)
      simp only [Act.put, List.setIfInBounds_toArray, List.set_cons_zero, List.set_cons_succ]
      apply wpR_next 4 (some 21)
      · simp only [List.getElem?_toArray, List.getElem?_cons_succ, List.getElem?_cons_zero]; exact rfl
      · rfl
      · kernel_rfl
      · kernel_rfl
      · kernel_rfl
      · exact fun _ _ _ _ h => h
      apply Exists.intro
      apply And.intro
      · apply yr_run; rfl; intro w' hw'; go_simp; (try with_reducible rfl)
      simp only [Act.put, List.setIfInBounds_toArray, List.set_cons_zero, List.set_cons_succ]
      apply wpR_next 5 (some 22)
      · simp only [List.getElem?_toArray, List.getElem?_cons_succ, List.getElem?_cons_zero]; exact rfl
      · rfl
      · kernel_rfl
      · kernel_rfl
      · kernel_rfl
      · exact fun _ _ _ _ h => h
      apply Exists.intro
      apply And.intro
      · apply yr_run; rfl; intro w' hw'; go_simp; (try with_reducible rfl)
      simp only [Act.put, List.setIfInBounds_toArray, List.set_cons_zero, List.set_cons_succ]
      apply wpR_next 6 (some 23)
      · simp only [List.getElem?_toArray, List.getElem?_cons_succ, List.getElem?_cons_zero]; exact rfl
      · rfl
      · kernel_rfl
      · kernel_rfl
      · kernel_rfl
      · exact fun _ _ _ _ h => h
      apply Exists.intro
      apply And.intro
      · apply yr_run; rfl; intro w' hw'; go_simp; (try with_reducible rfl)
      simp only [Act.put, List.setIfInBounds_toArray, List.set_cons_zero, List.set_cons_succ]
      apply wpR_next 7 (some 24)
      · simp only [List.getElem?_toArray, List.getElem?_cons_succ, List.getElem?_cons_zero]; exact rfl
      · rfl
      · kernel_rfl
      · kernel_rfl
      · kernel_rfl
      · exact fun _ _ _ _ h => h
      apply Exists.intro
      apply And.intro
      · apply yr_run; rfl; intro w' hw'; go_simp; (try with_reducible rfl)
      simp only [Act.put, List.setIfInBounds_toArray, List.set_cons_zero, List.set_cons_succ]
      apply wpR_next 8 (some 25)
      · simp only [List.getElem?_toArray, List.getElem?_cons_succ, List.getElem?_cons_zero]; exact rfl
      · rfl
      · kernel_rfl
      · kernel_rfl
      · kernel_rfl
      · exact fun _ _ _ _ h => h
      apply Exists.intro
      apply And.intro
      · apply yr_run; rfl; intro w' hw'; go_simp; (try with_reducible rfl)
      simp only [Act.put, List.setIfInBounds_toArray, List.set_cons_zero, List.set_cons_succ]
      refine wpR_done (by kernel_rfl) ?_ _
      intro W5 hw5
      have HB5 : RowKit.Hid (Below w.heap.size w W5) := Lib.hid (bel_bl HB.out (Ext.trans ((Below.refl _ _).drew) hw5))
      clear hw5 ld1 ld2 HB
      go_wp2
      go_roundw
      case rel => exact ⟨j + 1, by omega, by go_num, HB5⟩
      case measure => simp [intOf]; omega
    · obtain rfl : j = n := by omega
      go_wp2
      go_ret
      exact ⟨rfl, HB.out⟩
end Go.Proofs.Ythfngmlnmpbcpaa
