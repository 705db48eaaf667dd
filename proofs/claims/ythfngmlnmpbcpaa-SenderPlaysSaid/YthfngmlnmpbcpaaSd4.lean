/- Body and Due of a sender. -/
import Derived.Test.YthfngmlnmpbcpaaSd3
import Derived.Laws.OwnMore
namespace Go.Proofs.Ythfngmlnmpbcpaa
open Go.RowKit
set_option linter.unusedSimpArgs false
set_option linter.unusedVariables false

theorem rowsV_atS {es : List Sl} {i : Nat} {e : Sl} (h : es[i]? = some e) : (rowsV slc es)[i]? = some (.slice e.1 e.2.1 e.2.2) := by
  have := rowsV_get slc slc_len es i e h 0 _ rfl
  simpa using this
set_option maxRecDepth 100000 in
theorem body_lo {B : Nat} {g win ack c : Nat} {Ls : List (List Nat)} {A : Option Addr} {es : List Sl} {k : Option Nat} (w : World) (h : SdIn B w g win ack Ls A c es k) (ha : ack ≤ 200000) (hn : Ls.length ≤ 200000) (x : Int) (hx : x ≤ ack) :
    Calls Try.prog 21 #[.pointer (some ⟨g, 0, none⟩), .int .i64 x] w fun e w' => e = .returned (.tuple #[.slice none 0 0, .bool false]) ∧ Below w.heap.size w w' := by
  have l1 := h.box.cell (i := 1) rfl
  have t1 : decide (x ≤ (ack : Int)) = true := decide_eq_true hx
  clear h ha hn
  go_enter Try.func21, Try.ntmps21
  go_wp2
  refine bodyPost_ret (v := .tuple #[.slice none 0 0, .bool false]) (by simp [results, Try.results21, go_sem]) rfl ⟨rfl, Below.refl _ _⟩
set_option maxRecDepth 100000 in
theorem body_hi {B : Nat} {g win ack c : Nat} {Ls : List (List Nat)} {A : Option Addr} {es : List Sl} {k : Option Nat} (w : World) (h : SdIn B w g win ack Ls A c es k) (ha : ack ≤ 200000) (hn : Ls.length ≤ 200000) (x : Int) (hx : (ack : Int) + (Ls.length : Int) < x) :
    Calls Try.prog 21 #[.pointer (some ⟨g, 0, none⟩), .int .i64 x] w fun e w' => e = .returned (.tuple #[.slice none 0 0, .bool false]) ∧ Below w.heap.size w w' := by
  have HP := Lib.hid (pushed_any w h ha hn)
  have l1 := h.box.cell (i := 1) rfl
  have t1 : decide (x ≤ (ack : Int)) = false := decide_eq_false (by omega)
  have t2 : decide ((ack : Int) + (Ls.length : Int) < x) = true := decide_eq_true hx
  have hx2 : ¬ x ≤ (ack : Int) := by omega
  clear h ha hn
  go_enter Try.func21, Try.ntmps21
  go_wp2_with (first | (go_at_call 36; refine HP.out.mono ?_; rintro e w' ⟨rfl, hb⟩; have HB := Lib.hid hb; clear hb))
  refine bodyPost_ret (v := .tuple #[.slice none 0 0, .bool false]) (by simp [results, Try.results21, go_sem]) rfl ⟨rfl, HB.out⟩
set_option maxRecDepth 100000 in
set_option maxHeartbeats 1000000 in
theorem body_yes {B : Nat} {g win ack c : Nat} {Ls : List (List Nat)} {A : Option Addr} {es : List Sl} {k : Option Nat} (w : World) (h : SdIn B w g win ack Ls A c es k) (ha : ack ≤ 200000) (hn : Ls.length ≤ 200000) (x : Int) (i : Nat) (L : List Nat) (hL : Ls[i]? = some L) (hx : x = (ack : Int) + (i : Int) + 1) :
    Calls Try.prog 21 #[.pointer (some ⟨g, 0, none⟩), .int .i64 x] w fun e w' => ∃ A' c', e = .returned (.tuple #[.slice A' L.length c', .bool true]) ∧ RdS w' w'.heap.size 1 A' L.length c' (rowsV f8 L) ∧ (∀ a, A' = some a → 0 < L.length → w.heap.size ≤ a.block) ∧ w'.ownsRow w.heap.size 5 1 (.slice A' L.length c') L.length (rowsV f8 L) ∧ Below w.heap.size w w' := by
  have hi := (List.getElem?_eq_some_iff.1 hL).1
  have HP := Lib.hid (pushed_any w h ha hn)
  have l1 := h.box.cell (i := 1) rfl
  have t1 : decide (x ≤ (ack : Int)) = false := decide_eq_false (by omega)
  have t2 : decide ((ack : Int) + (Ls.length : Int) < x) = false := decide_eq_false (by omega)
  obtain ⟨a, m, q1, q2, q3, q4, q5⟩ := h.each i L hL
  obtain ⟨bb, off, rfl, hbB, -⟩ := h.row.place slc_len (by decide) (by omega)
  have hcc := h.row.cell _ rfl i _ (rowsV_atS q1)
  rw [Addr.add_lit] at hcc
  have HC := Lib.hid hcc
  have H := Lib.hid h
  have HR := Lib.hid q2
  obtain ⟨q, hq⟩ : ∃ q : Nat, q = i + 1 := ⟨_, rfl⟩
  have s1 : IntKind.i64.wrap (x - (ack : Int)) = (q : Int) := by rw [IntWalk.i64_in _ (by omega)]; omega
  have s2 : IntKind.i64.wrap ((q : Int) - 1) = (i : Int) := by rw [IntWalk.i64_in _ (by omega)]; omega
  have S1 := Lib.hid s1
  have S2 := Lib.hid s2
  clear h ha hn hL hx q1 q2 q3 q5 hcc hq s1 s2
  go_enter Try.func21, Try.ntmps21
  go_upto_region 3 with (first | (go_at_call 36; refine HP.out.mono ?_; rintro e w1 ⟨rfl, hb⟩; have H1 := Lib.hid (H.out.below hb); have HB1 := Lib.hid hb; clear hb))
  clear t1 t2 HP l1
  have s1 := S1.out
  have s2 := S2.out
  have H2 := Lib.hid H1.out.drew
  have HR2 := Lib.hid (HR.out.bl HB1.out).dr
  have ld1 : ∀ w', Kept Nil_ w1.drew w' → w'.cell? ⟨g, 1, none⟩ = some (.int .i64 (ack : Int)) := fun w' hk => hk.nil_cell (H2.out.box.cell (i := 1) rfl)
  have ld2 : ∀ w', Kept Nil_ w1.drew w' → w'.cell? ⟨g, 2, none⟩ = some (.slice (some ⟨bb, off, none⟩) Ls.length c) := fun w' hk => hk.nil_cell (H2.out.box.cell (i := 2) rfl)
  have ld3 : ∀ w', Kept Nil_ w1.drew w' → w'.cell? ⟨bb, off + i, none⟩ = some (.slice a L.length m) := fun w' hk => hk.nil_cell ((Ext.trans HB1.out ((Below.refl _ _).drew)).cell HC.out)
  refine wp_region_reg (Nil_) (by kernel_rfl) ?_
  apply wpR_next 0 (some 18)
  · simp only [List.getElem?_toArray, List.getElem?_cons_succ, List.getElem?_cons_zero]; exact rfl
  · rfl
  · kernel_rfl
  · kernel_rfl
  · kernel_rfl
  · exact fun _ _ _ _ h => h
  apply Exists.intro
  apply And.intro
  · apply yr_run; rfl; intro w' hw'; go_simp; (try with_reducible rfl)
  simp only [Act.put, List.setIfInBounds_toArray, List.set_cons_zero, List.set_cons_succ]
  apply wpR_next 1 (some 19)
  · simp only [List.getElem?_toArray, List.getElem?_cons_succ, List.getElem?_cons_zero]; exact rfl
  · rfl
  · kernel_rfl
  · kernel_rfl
  · kernel_rfl
  · exact fun _ _ _ _ h => h
  apply Exists.intro
  apply And.intro
  · apply yr_run; rfl; intro w' hw'; go_simp; (try with_reducible rfl)
  simp only [Act.put, List.setIfInBounds_toArray, List.set_cons_zero, List.set_cons_succ]
  apply wpR_next 2 (some 20)
  · simp only [List.getElem?_toArray, List.getElem?_cons_succ, List.getElem?_cons_zero]; exact rfl
  · rfl
  · kernel_rfl
  · kernel_rfl
  · kernel_rfl
  · exact fun _ _ _ _ h => h
  apply Exists.intro
  apply And.intro
  · apply yr_run; rfl; intro w' hw'; go_simp; (try with_reducible rfl)
  simp only [Act.put, List.setIfInBounds_toArray, List.set_cons_zero, List.set_cons_succ]
  apply wpR_next 3 (some 21)
  · simp only [List.getElem?_toArray, List.getElem?_cons_succ, List.getElem?_cons_zero]; exact rfl
  · rfl
  · kernel_rfl
  · kernel_rfl
  · kernel_rfl
  · exact fun _ _ _ _ h => h
  apply Exists.intro
  apply And.intro
  · apply yr_run; rfl; intro w' hw'; go_simp; (try with_reducible rfl)
  simp only [Act.put, List.setIfInBounds_toArray, List.set_cons_zero, List.set_cons_succ]
  apply wpR_next 4 (some 22)
  · simp only [List.getElem?_toArray, List.getElem?_cons_succ, List.getElem?_cons_zero]; exact rfl
  · rfl
  · kernel_rfl
  · kernel_rfl
  · kernel_rfl
  · exact fun _ _ _ _ h => h
  apply Exists.intro
  apply And.intro
  · apply yr_run; rfl; intro w' hw'; go_simp; (try with_reducible rfl)
  simp only [Act.put, List.setIfInBounds_toArray, List.set_cons_zero, List.set_cons_succ]
  apply wpR_next 5 (some 23)
  · simp only [List.getElem?_toArray, List.getElem?_cons_succ, List.getElem?_cons_zero]; exact rfl
  · rfl
  · kernel_rfl
  · kernel_rfl
  · kernel_rfl
  · exact fun _ _ _ _ h => h
  apply Exists.intro
  apply And.intro
  · apply yr_run; rfl; intro w' hw'; go_simp; (try with_reducible rfl)
  simp only [Act.put, List.setIfInBounds_toArray, List.set_cons_zero, List.set_cons_succ]
  apply wpR_next 6 (some 24)
  · simp only [List.getElem?_toArray, List.getElem?_cons_succ, List.getElem?_cons_zero]; exact rfl
  · rfl
  · kernel_rfl
  · kernel_rfl
  · kernel_rfl
  · exact fun _ _ _ _ h => h
  apply Exists.intro
  apply And.intro
  · apply yr_run; rfl; intro w' hw'; go_simp; (try with_reducible rfl)
  simp only [Act.put, List.setIfInBounds_toArray, List.set_cons_zero, List.set_cons_succ]
  apply wpR_next 7 (some 25)
  · simp only [List.getElem?_toArray, List.getElem?_cons_succ, List.getElem?_cons_zero]; exact rfl
  · rfl
  · kernel_rfl
  · kernel_rfl
  · kernel_rfl
  · exact fun _ _ _ _ h => h
  apply Exists.intro
  apply And.intro
  · apply yr_run; rfl; intro w' hw'; go_simp; (try with_reducible rfl)
  simp only [Act.put, List.setIfInBounds_toArray, List.set_cons_zero, List.set_cons_succ]
  apply wpR_next 8 (some 26)
  · simp only [List.getElem?_toArray, List.getElem?_cons_succ, List.getElem?_cons_zero]; exact rfl
  · rfl
  · kernel_rfl
  · kernel_rfl
  · kernel_rfl
  · exact fun _ _ _ _ h => h
  apply Exists.intro
  apply And.intro
  · apply yr_run; rfl; intro w' hw'; go_simp; (try with_reducible rfl)
  simp only [Act.put, List.setIfInBounds_toArray, List.set_cons_zero, List.set_cons_succ]
  apply wpR_next 9 (some 27)
  · simp only [List.getElem?_toArray, List.getElem?_cons_succ, List.getElem?_cons_zero]; exact rfl
  · rfl
  · kernel_rfl
  · kernel_rfl
  · kernel_rfl
  · exact fun _ _ _ _ h => h
  apply Exists.intro
  apply And.intro
  · apply yr_run; rfl; intro w' hw'; go_simp; (try with_reducible rfl)
  simp only [Act.put, List.setIfInBounds_toArray, List.set_cons_zero, List.set_cons_succ]
  apply wpR_next 10 (some 28)
  · simp only [List.getElem?_toArray, List.getElem?_cons_succ, List.getElem?_cons_zero]; exact rfl
  · rfl
  · kernel_rfl
  · kernel_rfl
  · kernel_rfl
  · exact fun _ _ _ _ h => h
  apply Exists.intro
  apply And.intro
  · apply yr_run; rfl; intro w' hw'; go_simp; (try with_reducible rfl)
  simp only [Act.put, List.setIfInBounds_toArray, List.set_cons_zero, List.set_cons_succ]
  apply wpR_next 11 (some 29)
  · simp only [List.getElem?_toArray, List.getElem?_cons_succ, List.getElem?_cons_zero]; exact rfl
  · rfl
  · kernel_rfl
  · kernel_rfl
  · kernel_rfl
  · exact fun _ _ _ _ h => h
  apply Exists.intro
  apply And.intro
  · apply yr_run; rfl; intro w' hw'; go_simp; (try with_reducible rfl)
  simp only [Act.put, List.setIfInBounds_toArray, List.set_cons_zero, List.set_cons_succ]
  apply wpR_next 12 (some 30)
  · simp only [List.getElem?_toArray, List.getElem?_cons_succ, List.getElem?_cons_zero]; exact rfl
  · rfl
  · kernel_rfl
  · kernel_rfl
  · kernel_rfl
  · exact fun _ _ _ _ h => h
  apply Exists.intro
  apply And.intro
  · apply yr_run; rfl; intro w' hw'; go_simp; (try with_reducible rfl)
  simp only [Act.put, List.setIfInBounds_toArray, List.set_cons_zero, List.set_cons_succ]
  apply wpR_call 13 (some 31)
  · simp only [List.getElem?_toArray, List.getElem?_cons_succ, List.getElem?_cons_zero]; exact rfl
  · rfl
  · kernel_rfl
  · rfl
  · intro w'; go_simp; first | done | exact ⟨rfl, rfl⟩ | with_reducible rfl
  intro w' hw'
  refine (clone_gen a m L w' (HR2.out.bl hw') (by omega)).mono ?_
  rintro e w'' ⟨Ac, cc, rfl, hrc, hnc, hoc, hb⟩
  have HOc : RowKit.Hid (w''.ownsRow w.heap.size 5 1 (.slice Ac L.length cc) L.length (rowsV f8 L)) := Lib.hid (own_lo hoc (Nat.le_trans HB1.out.size hw'.size))
  refine ⟨_, rfl, Kept.of_below hb, ?_⟩
  have HXc : RowKit.Hid (Ext w1.drew w'') := Lib.hid (Ext.trans hw' hb)
  have HRc := Lib.hid hrc
  have HNc : RowKit.Hid (∀ a', Ac = some a' → 0 < L.length → w.heap.size ≤ a'.block) := Lib.hid (fun a' ha hn => Nat.le_trans (Nat.le_trans HB1.out.size hw'.size) (hnc a' ha hn))
  obtain ⟨W2, gW2⟩ : ∃ x, w'' = x := ⟨_, rfl⟩
  rw [gW2] at HXc HRc HOc ⊢
  clear hw' hb hrc hnc hoc gW2
  simp only [Act.put, List.setIfInBounds_toArray, List.set_cons_zero, List.set_cons_succ]
  apply wpR_next 14 (some 4)
  · simp only [List.getElem?_toArray, List.getElem?_cons_succ, List.getElem?_cons_zero]; exact rfl
  · rfl
  · kernel_rfl
  · kernel_rfl
  · kernel_rfl
  · exact fun _ _ _ _ h => h
  apply Exists.intro
  apply And.intro
  · apply yr_run; rfl; intro w' hw'; go_simp; (try with_reducible rfl)
  simp only [Act.put, List.setIfInBounds_toArray, List.set_cons_zero, List.set_cons_succ]
  apply wpR_next 15 (some 5)
  · simp only [List.getElem?_toArray, List.getElem?_cons_succ, List.getElem?_cons_zero]; exact rfl
  · rfl
  · kernel_rfl
  · kernel_rfl
  · kernel_rfl
  · exact fun _ _ _ _ h => h
  apply Exists.intro
  apply And.intro
  · apply yr_run; rfl; intro w' hw'; go_simp; (try with_reducible rfl)
  simp only [Act.put, List.setIfInBounds_toArray, List.set_cons_zero, List.set_cons_succ]
  refine wpR_done (by kernel_rfl) ?_ _
  intro W3 hw3
  have HR3 := Lib.hid (HRc.out.bl hw3)
  have HO3 := Lib.hid (own_up HOc.out hw3)
  have HB3 : RowKit.Hid (Below w.heap.size w W3) := Lib.hid (bel_bl HB1.out (Ext.trans ((Below.refl _ _).drew) (Ext.trans HXc.out hw3)))
  clear hw3 ld1 ld2 ld3 s1 s2
  go_wp2
  refine bodyPost_ret (v := .tuple #[.slice Ac L.length cc, .bool true]) (by simp [results, Try.results21, go_sem]) rfl ⟨Ac, cc, rfl, HR3.out, HNc.out, HO3.out, HB3.out⟩
theorem info_int : (Try.prog.info? 3).map (fun i => (i.zero, i.size, i.bytes)) = some (some (.int .i64 0), 1, 8) := by kernel_rfl
set_option maxRecDepth 100000 in
theorem make_ints (W : World) (n : Nat) (hn : n ≤ 1000000) : (Instr.makeSlice 41 (.int .i64 (n : Int)) (.int .i64 (n : Int))).run Try.prog W = .ok (.slice (some ⟨W.heap.size, 0, none⟩) n n) (W.alloc (.cells (List.replicate n (.int .i64 0)).toArray 3)) := by
  obtain ⟨i0, hi, hz0, hz1, hz2⟩ := info_parts_ info_int
  have := run_make (P := Try.prog) W 41 3 i0 _ Try.underlying41 hi hz0 .i64 .i64 n n (by omega) (by omega) (by rw [hz2]; omega) (by omega)
  rw [hz1, Int.toNat_natCast, Nat.mul_one] at this
  rw [this]
  congr 3
  have e := toList_madeCells_one (.int .i64 0) n
  exact Array.toList_inj.1 (by rw [show (Value.int .i64 0).cells = #[.int .i64 0] from rfl, e])
/-- The numbers behind a, n of them. -/
def nums (a n : Nat) : List Int := (List.range n).map (fun i : Nat => (a : Int) + (i : Int) + 1)
def intC (x : Int) : List Value := [.int .i64 x]
theorem intC_len (x : Int) : (intC x).length = 1 := rfl
theorem nums_len (a n : Nat) : (nums a n).length = n := by simp [nums]
theorem nums_succ (a n : Nat) : nums a (n + 1) = nums a n ++ [(a : Int) + (n : Int) + 1] := by simp [nums, List.range_succ]
/-- The first j of them, and noughts. -/
def numsZ (a n j : Nat) : List Value := rowsV intC (nums a j) ++ List.replicate (n - j) (.int .i64 0)
theorem numsZ_first (a n : Nat) : List.replicate n (.int .i64 0) = numsZ a n 0 := by simp [numsZ, nums, rowsV]
theorem numsZ_get {a n j : Nat} (h : j < n) : (numsZ a n j)[j]? = some (.int .i64 0) := by
  unfold numsZ
  have hl : (rowsV intC (nums a j)).length = j := by rw [rowsV_length intC intC_len, nums_len]; omega
  rw [List.getElem?_append_right (by omega), hl, Nat.sub_self, List.getElem?_replicate, if_pos (by omega)]
theorem numsZ_set {a n j : Nat} (h : j < n) : (numsZ a n j).set j (.int .i64 ((a : Int) + (j : Int) + 1)) = numsZ a n (j + 1) := by
  unfold numsZ
  have hl : (rowsV intC (nums a j)).length = j := by rw [rowsV_length intC intC_len, nums_len]; omega
  rw [List.set_append_right _ _ (by omega), hl, Nat.sub_self, nums_succ, rowsV_app]
  obtain ⟨r, hr⟩ : ∃ r, n - j = r + 1 := ⟨n - j - 1, by omega⟩
  rw [hr, show n - (j + 1) = r by omega, List.replicate_succ, List.set_cons_zero, List.append_assoc]
  rfl
theorem numsZ_all (a n : Nat) : numsZ a n n = rowsV intC (nums a n) := by simp [numsZ]
set_option maxRecDepth 100000 in
set_option maxHeartbeats 1000000 in
theorem due_any {B : Nat} {g win ack c : Nat} {Ls : List (List Nat)} {A : Option Addr} {es : List Sl} {k : Option Nat} (w : World) (h : SdIn B w g win ack Ls A c es k) (ha : ack ≤ 200000) (hn : Ls.length ≤ 200000) :
    Calls Try.prog 19 #[.pointer (some ⟨g, 0, none⟩)] w fun e w' => ∃ gd, e = .returned (.slice (some ⟨gd, 0, none⟩) Ls.length Ls.length) ∧ w.heap.size ≤ gd ∧ Whole w' gd 3 (rowsV intC (nums ack Ls.length)) ∧ Below w.heap.size w w' := by
  have l2 := h.box.cell (i := 2) rfl
  have hmk := fun W => make_ints W Ls.length (by omega)
  have H := Lib.hid h
  obtain ⟨n, gn⟩ : ∃ n, Ls.length = n := ⟨_, rfl⟩
  rw [gn] at l2 hn ⊢
  simp only [gn] at hmk
  obtain ⟨Z, gZ⟩ : ∃ x, (List.replicate n (Value.int .i64 0)).toArray = x := ⟨_, rfl⟩
  rw [gZ] at hmk
  have HW0 : RowKit.Hid (Whole (w.alloc (.cells Z 3)) w.heap.size 3 (numsZ ack n 0) ∧ Below w.heap.size w (w.alloc (.cells Z 3))) := Lib.hid ⟨by rw [← numsZ_first ack n, ← gZ]; exact Whole.new_ _ _ _, below1 _ _⟩
  clear gZ
  have HB1 : RowKit.Hid (Whole w g 66 [.int .i64 (win : Int), .int .i64 (ack : Int), .slice A n c]) := Lib.hid (gn ▸ H.out.box)
  have HGl : RowKit.Hid (g < w.heap.size) := Lib.hid H.out.lt
  clear h gn H
  go_enter Try.func19, Try.ntmps19
  go_wp2
  clear hmk l2
  obtain ⟨W1, gW1⟩ : ∃ x, w.alloc (.cells Z 3) = x := ⟨_, rfl⟩
  obtain ⟨g1, gg1⟩ : ∃ x, w.heap.size = x := ⟨_, rfl⟩
  have HG : RowKit.Hid (w.heap.size ≤ g1 ∧ g < g1) := Lib.hid ⟨by omega, by have := HGl.out; omega⟩
  rw [gW1] at HW0 ⊢
  have HW1 : RowKit.Hid (Whole W1 g1 3 (numsZ ack n 0) ∧ Below w.heap.size w W1) := Lib.hid ⟨gg1 ▸ HW0.out.1, HW0.out.2⟩
  rw [gg1]
  clear gW1 gg1 HW0
  go_loopw [13] (fun i wr => ∃ j : Nat, j ≤ n ∧ i = .int .i64 j ∧ RowKit.Hid (Whole wr g1 3 (numsZ ack n j) ∧ Below w.heap.size w wr)) (fun i _ => n - (intOf i).toNat)
  case atStart => exact ⟨0, by omega, rfl, HW1⟩
  case round =>
    rename_i wr _
    clear HW1
    obtain ⟨j, hj, rfl, HW⟩ := hrel
    by_cases hlt : j < n
    · have hx0 := HW.out.1.cell (numsZ_get hlt)
      have hf0 := HW.out.1.free j
      have hx1 := (HB1.out.below HW.out.2).cell (i := 1) rfl
      have s1 : IntKind.i64.wrap ((ack : Int) + 1) = (ack : Int) + 1 := IntWalk.i64_in _ (by omega)
      have s2 : IntKind.i64.wrap ((ack : Int) + 1 + (j : Int)) = (ack : Int) + 1 + (j : Int) := IntWalk.i64_in _ (by omega)
      have HS : RowKit.Hid ((ack : Int) + 1 + (j : Int) = (ack : Int) + (j : Int) + 1) := Lib.hid (by omega)
      go_wp2
      go_roundw
      case rel => exact ⟨j + 1, by omega, by go_num, Lib.hid ⟨by rw [HS.out, ← numsZ_set hlt]; exact HW.out.1.set_ j _, HW.out.2.setCell (by show w.heap.size ≤ g1; exact HG.out.1) _⟩⟩
      case measure => simp [intOf]; omega
    · obtain rfl : j = n := by omega
      go_wp2
      go_ret
      exact ⟨g1, rfl, HG.out.1, by rw [← numsZ_all]; exact HW.out.1, HW.out.2⟩
end Go.Proofs.Ythfngmlnmpbcpaa
