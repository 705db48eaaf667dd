/- The contracts of the document's own tally. -/
import Derived.Test.YtgbkloilodgjfaaTaG
import Derived.Deep.QuietTactic
import Derived.BigQuiet
namespace Go.Proofs.Ytgbkloilodgjfaa
open Go.RowKit

/-- The document's tally at block y, its numbers in block r. -/
structure Rf (w : World) (y r : Nat) (L : List Int) : Prop where
  len : L.length ≤ 64
  bd : ∀ x ∈ L, 0 ≤ x ∧ x ≤ 1099511627776
  hd : Whole w y 37 [.slice (some ⟨r, 0, none⟩) L.length L.length]
  row : Whole w r 3 (ints L)

theorem Rf.keep {S : Nat → Prop} {w w' : World} {y r : Nat} {L : List Int} (h : Rf w y r L) (k : Kept S w w') (h1 : ¬ S y) (h2 : ¬ S r) : Rf w' y r L := ⟨h.len, h.bd, k.whole h.hd h1, k.whole h.row h2⟩
theorem Rf.below {w w' : World} {y r : Nat} {L : List Int} (h : Rf w y r L) (k : Below w.heap.size w w') : Rf w' y r L := ⟨h.len, h.bd, h.hd.below k, h.row.below k⟩
theorem Rf.val {w : World} {y r : Nat} {L : List Int} (h : Rf w y r L) (k : Nat) : 0 ≤ L.getD k 0 ∧ L.getD k 0 ≤ 1099511627776 := by
  rcases Nat.lt_or_ge k L.length with hk | hk
  · rw [List.getD_eq_getElem?_getD, List.getElem?_eq_getElem hk]
    exact h.bd _ (List.getElem_mem hk)
  · rw [List.getD_eq_getElem?_getD, List.getElem?_eq_none hk]
    exact ⟨by simp, by simp⟩

def GivesRNew (w : World) (k : Int) (e : Ending) (w' : World) : Prop :=
  ∃ y r, e = .returned (.pointer (some ⟨y, 0, none⟩)) ∧ w.heap.size ≤ y ∧ w.heap.size ≤ r ∧ Rf w' y r (List.replicate (kn k) 0) ∧ Below w.heap.size w w'

theorem rf_new (w : World) (n : Nat) (hn : n ≤ 64) : Rf ((w.alloc (.cells (Array.replicate n (Value.int .i64 0)) 3)).alloc (.cells #[.slice (some ⟨w.heap.size, 0, none⟩) n n] 37)) (w.heap.size + 1) w.heap.size (List.replicate n 0) := by
  refine ⟨by simpa using hn, fun x hx => ?_, ?_, ?_⟩
  · obtain ⟨-, rfl⟩ := List.mem_replicate.1 hx
    omega
  · rw [List.length_replicate]
    have := Whole.new_ (w.alloc (.cells (Array.replicate n (Value.int .i64 0)) 3)) 37 [.slice (some ⟨w.heap.size, 0, none⟩) n n]
    simpa using this
  · have := (Whole.new_ w 3 (List.replicate n (.int .i64 0))).alloc (.cells #[.slice (some ⟨w.heap.size, 0, none⟩) n n] 37)
    simpa [ints] using this
theorem rf_new_below (w : World) (o o' : Obj) : Below w.heap.size w ((w.alloc o).alloc o') := ((Below.refl _ _).alloc (Nat.le_refl _) _).alloc (by simp) _

theorem rta_new (k : Int) (w : World) : Calls Try.prog 14 #[.int .i64 k] w (GivesRNew w k) := by
  have HB := Lib.hid (rf_new_below w)
  by_cases h0 : 0 ≤ k
  · by_cases h1 : k ≤ 64
    · obtain ⟨n, rfl⟩ := Int.eq_ofNat_of_zero_le h0
      have hk : kn n = n := by unfold kn; omega
      have HK := Lib.hid hk
      have HT := Lib.hid (rf_new w n (by omega))
      have hmk := ta_make_ints n (by omega)
      clear hk
      go_enter Try.func14, Try.ntmps14
      go_wp2
      go_ret
      exact ⟨w.heap.size + 1, w.heap.size, rfl, by omega, Nat.le_refl _, by rw [HK.out]; exact HT.out, HB.out _ _⟩
    · have hk : kn k = 64 := by unfold kn; omega
      have HK := Lib.hid hk
      have HT := Lib.hid (rf_new w 64 (by omega))
      obtain ⟨C, hC⟩ : ∃ C, Array.replicate 64 (Value.int .i64 0) = C := ⟨_, rfl⟩
      have hmk : ∀ W : World, (Instr.makeSlice 34 (.int .i64 64) (.int .i64 64)).run Try.prog W = .ok (.slice (some ⟨W.heap.size, 0, none⟩) 64 64) (W.alloc (.cells C 3)) := fun W => (by have h := ta_make_ints 64 (by omega) W; rw [hC] at h; exact h)
      have HC := Lib.hid hC
      clear hC
      clear hk
      go_enter Try.func14, Try.ntmps14
      go_wp2
      go_ret
      exact ⟨w.heap.size + 1, w.heap.size, rfl, by omega, Nat.le_refl _, by rw [HK.out]; have h := HT.out; rw [HC.out] at h; exact h, HB.out _ _⟩
  · have hk : kn k = 0 := by unfold kn; omega
    have HK := Lib.hid hk
    have HT := Lib.hid (rf_new w 0 (by omega))
    obtain ⟨C, hC⟩ : ∃ C, Array.replicate 0 (Value.int .i64 0) = C := ⟨_, rfl⟩
    have hmk : ∀ W : World, (Instr.makeSlice 34 (.int .i64 0) (.int .i64 0)).run Try.prog W = .ok (.slice (some ⟨W.heap.size, 0, none⟩) 0 0) (W.alloc (.cells C 3)) := fun W => (by have h := ta_make_ints 0 (by omega) W; rw [hC] at h; exact h)
    have HC := Lib.hid hC
    clear hC
    clear hk
    go_enter Try.func14, Try.ntmps14
    go_wp2
    go_ret
    exact ⟨w.heap.size + 1, w.heap.size, rfl, by omega, Nat.le_refl _, by rw [HK.out]; have h := HT.out; rw [HC.out] at h; exact h, HB.out _ _⟩

theorem rta_get (y r : Nat) (L : List Int) (k : Int) (w : World) (h : Rf w y r L) : Calls Try.prog 19 #[.pointer (some ⟨y, 0, none⟩), .int .i64 k] w fun e w' => e = .returned (.int .i64 (getL L k)) ∧ w = w' := by
  have c0 := h.hd.cell (i := 0) rfl
  have hn := h.len
  by_cases hk : 0 ≤ k ∧ k < L.length
  · obtain ⟨n, rfl⟩ := Int.eq_ofNat_of_zero_le hk.1
    have hk2 : n < L.length := by omega
    have hv : getL L n = L.getD n 0 := by simp [getL, hk2]
    have cc := h.row.cell (ints_at L n hk2)
    obtain ⟨v, gv⟩ : ∃ v, L.getD n 0 = v := ⟨_, rfl⟩
    rw [gv] at hv cc
    have HV := Lib.hid hv
    clear hv hk gv h
    go_enter Try.func19, Try.ntmps19
    go_wp2
    go_ret
    exact ⟨ret_i HV.out.symm, rfl⟩
  · have hv : getL L k = 0 := by simp only [getL, if_neg hk]
    have HV := Lib.hid hv
    clear hv h
    by_cases h0 : 0 ≤ k
    · have h1 : (L.length : Int) ≤ k := by omega
      clear hk
      go_enter Try.func19, Try.ntmps19
      go_wp2
      go_ret
      exact ⟨ret_i HV.out.symm, rfl⟩
    · clear hk
      go_enter Try.func19, Try.ntmps19
      go_wp2
      go_ret
      exact ⟨ret_i HV.out.symm, rfl⟩

def RAdd (w : World) (y r : Nat) (L : List Int) (k n : Int) (e : Ending) (w' : World) : Prop :=
  e = .returned (.int .i64 (addE L k n)) ∧ Rf w' y r (addL L k n) ∧ Kept (· = r) w w'

theorem Rf.set_ {w : World} {y r : Nat} {L : List Int} (h : Rf w y r L) (k : Nat) (x : Int) (h0 : 0 ≤ x) (h1 : x ≤ 1099511627776) : Rf (w.setCell ⟨r, k, none⟩ (.int .i64 x)) y r (L.set k x) := by
  obtain ⟨hn, hbd, hb, hg⟩ := h
  have hne : y ≠ r := hb.ne_ hg (by decide)
  refine ⟨by simpa using hn, fun y hy => ?_, ?_, ?_⟩
  · rcases List.mem_or_eq_of_mem_set hy with hy | rfl
    · exact hbd y hy
    · exact ⟨h0, h1⟩
  · rw [List.length_set]
    exact hb.far hne _
  · rw [ints, List.map_set]
    exact hg.set_ k _

set_option maxHeartbeats 400000 in
theorem rta_add (y r : Nat) (L : List Int) (k n : Int) (w : World) (h : Rf w y r L) : Calls Try.prog 17 #[.pointer (some ⟨y, 0, none⟩), .int .i64 k, .int .i64 n] w (RAdd w y r L k n) := by
  have c0 := h.hd.cell (i := 0) rfl
  have hn := h.len
  by_cases hk : 0 ≤ k ∧ k < L.length
  · obtain ⟨m, rfl⟩ := Int.eq_ofNat_of_zero_le hk.1
    have hk2 : m < L.length := by omega
    by_cases hn0 : n < 0
    · have HE := Lib.hid (addE_neg (L := L) (k := m) hn0)
      have HH := Lib.hid h
      clear h hk
      go_enter Try.func17, Try.ntmps17
      go_wp2
      go_ret
      exact ⟨ret_i HE.out.symm, by rw [addL_not (by rw [HE.out]; decide)]; exact HH.out, Kept.refl _ _⟩
    · obtain ⟨v0, v1⟩ := h.val m
      have cc := h.row.cell (ints_at L m hk2)
      have cf := h.row.free m
      have HH := Lib.hid h
      obtain ⟨v, gv⟩ : ∃ v, L.getD m 0 = v := ⟨_, rfl⟩
      rw [gv] at cc v0 v1
      have GV := Lib.hid gv
      clear h
      by_cases hbig : 1099511627776 - v < n
      · have HE := Lib.hid (addE_big hk hn0 (by rw [Int.toNat_natCast, gv]; exact hbig))
        clear gv hk
        go_enter Try.func17, Try.ntmps17
        go_wp2
        go_ret
        exact ⟨ret_i HE.out.symm, by rw [addL_not (by rw [HE.out]; decide)]; exact HH.out, Kept.refl _ _⟩
      · have HE := Lib.hid (addE_ok hk hn0 (by rw [Int.toNat_natCast, gv]; exact hbig))
        clear gv hk
        go_enter Try.func17, Try.ntmps17
        go_wp2
        go_region
        all_goals go_wp2
        all_goals go_ret
        all_goals
          refine ⟨ret_i HE.out.symm, ?_, ((Kept.refl (· = r) w).setCell (p := ⟨r, m, none⟩) (.inl rfl) _).drew⟩
          rw [addL_ok HE.out, Int.toNat_natCast, GV.out]
          exact (HH.out.set_ m _ (by omega) (by omega)).below ((Below.refl _ _).drew)
  · have HE := Lib.hid (addE_no (n := n) hk)
    have HH := Lib.hid h
    clear h
    by_cases h0 : 0 ≤ k
    · have h1 : (L.length : Int) ≤ k := by omega
      clear hk
      go_enter Try.func17, Try.ntmps17
      go_wp2
      go_ret
      exact ⟨ret_i HE.out.symm, by rw [addL_not (by rw [HE.out]; decide)]; exact HH.out, Kept.refl _ _⟩
    · clear hk
      go_enter Try.func17, Try.ntmps17
      go_wp2
      go_ret
      exact ⟨ret_i HE.out.symm, by rw [addL_not (by rw [HE.out]; decide)]; exact HH.out, Kept.refl _ _⟩

set_option maxHeartbeats 400000 in
theorem rta_sum (y r : Nat) (L : List Int) (w : World) (h : Rf w y r L) : Calls Try.prog 23 #[.pointer (some ⟨y, 0, none⟩)] w fun e w' => e = .returned (.int .i64 L.sum) ∧ w = w' := by
  have c0 := h.hd.cell (i := 0) rfl
  have hn := h.len
  have HH := Lib.hid h
  clear h
  go_enter Try.func23, Try.ntmps23
  go_wp2
  go_loop [3, 4] (fun s i => ∃ k : Nat, k ≤ L.length ∧ i = .int .i64 k ∧ s = .int .i64 (L.take k).sum) (fun _ i => L.length - (intOf i).toNat)
  case atStart => exact ⟨0, Nat.zero_le _, rfl, rfl⟩
  case round =>
    obtain ⟨k, hk, rfl, rfl⟩ := hrel
    by_cases hlt : k < L.length
    · have HS := Lib.hid (sum_take L k hlt)
      obtain ⟨b1, b2⟩ := take_bd L k HH.out.bd hn
      obtain ⟨v0, v1⟩ := HH.out.val k
      have cc := HH.out.row.cell (ints_at L k hlt)
      obtain ⟨v, gv⟩ : ∃ v, L.getD k 0 = v := ⟨_, rfl⟩
      obtain ⟨s, gs⟩ : ∃ s, (L.take k).sum = s := ⟨_, rfl⟩
      rw [gv] at cc v0 v1
      rw [gs] at b1 b2
      have GV := Lib.hid gv
      have GS := Lib.hid gs
      rw [gs]
      clear gv gs
      go_wp2
      go_round
      case rel => exact ⟨k + 1, by omega, by go_num, by rw [HS.out, GS.out, GV.out]⟩
      case measure => simp [intOf]; omega
    · go_wp2
      go_ret
      exact ⟨ret_i (by rw [List.take_of_length_le (by omega)]), rfl⟩
end Go.Proofs.Ytgbkloilodgjfaa
