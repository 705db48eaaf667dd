/- Darts searched and compared: the contracts of slices.Index, slices.Equal, ring.Index, and of the document's Index and Darts. -/
import Derived.Test.YtdhglhcpgmfpoaaRing
import Derived.Deep.QuietTactic
import Derived.BigQuiet
import Derived.LoopTactic
import Derived.Outline
namespace Go.Proofs.Ytdhglhcpgmfpoaa
open Go.RowKit
set_option linter.unusedSimpArgs false

theorem eq_dart_run (x y : D) (W : World) : (binOp .eql 36 (.agg #[.int .i64 x.1, .int .i64 x.2.1, .int .i64 x.2.2]) (.agg #[.int .i64 y.1, .int .i64 y.2.1, .int .i64 y.2.2])).run Try.prog W = .ok (.bool (decide (x = y))) W := by
  rw [eq_dart]
  congr 2
  rw [Bool.eq_iff_iff]
  obtain ⟨x1, x2, x3⟩ := x
  obtain ⟨y1, y2, y3⟩ := y
  simp [and_assoc]
theorem neq_dart_run (x y : D) (W : World) : (binOp .neq 36 (.agg #[.int .i64 x.1, .int .i64 x.2.1, .int .i64 x.2.2]) (.agg #[.int .i64 y.1, .int .i64 y.2.1, .int .i64 y.2.2])).run Try.prog W = .ok (.bool (!decide (x = y))) W := by
  obtain ⟨x1, x2, x3⟩ := x
  obtain ⟨y1, y2, y3⟩ := y
  by_cases h1 : x1 = y1 <;> by_cases h2 : x2 = y2 <;> by_cases h3 : x3 = y3 <;> simp [go_sem, h1, h2, h3]

theorem idxOf_le (L : List D) (d : D) (k : Nat) (h : L.getD k (0, 0, 0) = d) (hk : k < L.length) : L.idxOf d ≤ k := by
  induction L generalizing k with
  | nil => simp at hk
  | cons x L ih =>
    rw [List.idxOf_cons]
    by_cases e : x = d
    · have hb : (x == d) = true := by rw [beq_iff_eq]; exact e
      rw [hb]
      exact Nat.zero_le _
    · have hb : (x == d) = false := by rw [beq_eq_false_iff_ne]; exact e
      rw [hb]
      cases k with
      | zero => exact absurd (by simpa using h) e
      | succ k =>
        have := ih k (by simpa using h) (by simpa using hk)
        show L.idxOf d + 1 ≤ k + 1
        omega
theorem idxD_at {L : List D} {d : D} {k : Nat} (hk : k < L.length) (he : L.getD k (0, 0, 0) = d) (hn : ∀ j, j < k → L.getD j (0, 0, 0) ≠ d) : idxD L d = k := by
  have hm : d ∈ L := by
    rw [← he, List.getD_eq_getElem?_getD, List.getElem?_eq_getElem hk]
    exact List.getElem_mem hk
  have hi : L.idxOf d < L.length := List.idxOf_lt_length_of_mem hm
  have hg : L[L.idxOf d] = d := List.getElem_idxOf hi
  rw [idxD, if_pos hm]
  have h1 : ¬ L.idxOf d < k := fun h => hn _ h (by rw [List.getD_eq_getElem?_getD, List.getElem?_eq_getElem hi]; exact hg)
  have h2 : ¬ k < L.idxOf d := fun h => by
    have h3 := idxOf_le L d k he hk
    omega
  omega
theorem idxD_not {L : List D} {d : D} (hn : ∀ j, j < L.length → L.getD j (0, 0, 0) ≠ d) : idxD L d = -1 := by
  rw [idxD, if_neg]
  intro hm
  have hi : L.idxOf d < L.length := List.idxOf_lt_length_of_mem hm
  exact hn _ hi (by rw [List.getD_eq_getElem?_getD, List.getElem?_eq_getElem hi]; exact List.getElem_idxOf hi)

/-- What holds at each round of Index. -/
def IdxAt (w : World) (L : List D) (d : D) (k : Nat) (x : World) : Prop :=
  (∀ j, j < k → L.getD j (0, 0, 0) ≠ d) ∧ Whole x w.heap.size 36 [.int .i64 d.1, .int .i64 d.2.1, .int .i64 d.2.2] ∧ Below w.heap.size w x

set_option maxHeartbeats 400000 in
theorem sindex_any (A : Option Addr) (n c : Nat) (L : List D) (d : D) (w : World) (h : RdS w w.heap.size 3 A n c (dartsV L)) (hn : n ≤ 9223372036854775807) :
    Calls Try.prog 72 #[.slice A n c, .agg #[.int .i64 d.1, .int .i64 d.2.1, .int .i64 d.2.2]] w fun e w' => e = .returned (.int .i64 (idxD L d)) ∧ Below w.heap.size w w' := by
  have hl := h.dlen
  have HL := Lib.hid hl
  have H := Lib.hid h
  have HS : RowKit.Hid (IdxAt w L d 0 (w.alloc (.cells #[.int .i64 d.1, .int .i64 d.2.1, .int .i64 d.2.2] 36))) := ⟨fun j hj => absurd hj (by omega), Whole.new_ w _ [.int .i64 d.1, .int .i64 d.2.1, .int .i64 d.2.2], below1 _ _⟩
  clear h hl
  go_enter Try.func72, Try.ntmps72
  go_wp2
  go_loopw [8] (fun i wr => ∃ k : Nat, k ≤ n ∧ i = .int .i64 k ∧ IdxAt w L d k wr) (fun i _ => n - (intOf i).toNat)
  case atStart => exact ⟨0, Nat.zero_le _, rfl, HS.out⟩
  case round =>
    obtain ⟨k, hk, rfl, h1, h2, h3⟩ := hrel
    have H1 := Lib.hid h1
    have H2 := Lib.hid h2
    have H3 := Lib.hid h3
    clear h1 HS
    by_cases hlt : k < n
    · obtain ⟨b, off, rfl, hb, hc⟩ := H.out.darts (by omega)
      obtain ⟨c1, c2, c3⟩ := hc k (by rw [HL.out]; exact hlt)
      have d1 := (h3.cell (p := ⟨b, off + k * 3, none⟩) hb).trans c1
      have d2 := (h3.cell (p := ⟨b, off + k * 3 + 1, none⟩) hb).trans c2
      have d3 := (h3.cell (p := ⟨b, off + k * 3 + 2, none⟩) hb).trans c3
      have b1 := h2.cell (i := 0) rfl
      have b2 := h2.cell (i := 1) rfl
      have b3 := h2.cell (i := 2) rfl
      obtain ⟨x, gx⟩ : ∃ v, L.getD k (0, 0, 0) = v := ⟨_, rfl⟩
      rw [gx] at d1 d2 d3
      have GX := Lib.hid gx
      have hq := eq_dart_run d x
      clear h2 h3 hc c1 c2 c3 gx
      by_cases hd : d = x
      · have hd' : decide (d = x) = true := by simpa using hd
        rw [hd'] at hq
        have HD := Lib.hid hd
        clear hd hd'
        go_wp2
        go_quiet (fail)
        go_wp2
        go_ret
        exact ⟨ret_int (by rw [idxD_at (by rw [HL.out]; exact hlt) (GX.out.trans HD.out.symm) H1.out]), ⟨H3.out.os, H3.out.tape, H3.out.output, H3.out.size, H3.out.block⟩⟩
      · have hd' : decide (d = x) = false := by simpa using hd
        rw [hd'] at hq
        have HD := Lib.hid hd
        clear hd hd'
        go_wp2
        go_quiet (fail)
        go_wp2
        go_roundw
        case rel =>
          refine ⟨k + 1, by omega, by go_num, fun j hj => ?_, H2.out, ⟨H3.out.os, H3.out.tape, H3.out.output, H3.out.size, H3.out.block⟩⟩
          rcases Nat.lt_or_ge j k with h | h
          · exact H1.out j h
          · obtain rfl : j = k := by omega
            rw [GX.out]
            exact fun e => HD.out e.symm
        case measure => simp [intOf]; omega
    · clear h2 h3
      go_wp2
      go_ret
      refine ⟨ret_int ?_, H3.out⟩
      rw [idxD_not]
      intro j hj
      exact H1.out j (by have := HL.out; omega)

theorem rindex_any (A : Option Addr) (n c : Nat) (L : List D) (d : D) (w : World) (h : RdS w w.heap.size 3 A n c (dartsV L)) (hn : n ≤ 9223372036854775807) :
    Calls Try.prog 51 #[.slice A n c, .agg #[.int .i64 d.1, .int .i64 d.2.1, .int .i64 d.2.2]] w fun e w' => e = .returned (.int .i64 (idxD L d)) ∧ Below w.heap.size w w' := by
  have HI := Lib.hid (fun W h => sindex_any A n c L d W h hn)
  have H := Lib.hid h
  clear h
  go_enter Try.func51, Try.ntmps51
  go_wp2_with (go_at_call 72; refine (HI.out _ (by exact H.out.up (below1 _ _) (by simp))).mono ?_; rintro e w2 ⟨rfl, hb⟩)
  go_ret
  exact ⟨rfl, below_after1 hb⟩

/-- What holds at each round of a comparison. -/
def EqAt (w : World) (L M : List D) (k : Nat) (x : World) : Prop := L.take k = M.take k ∧ Below w.heap.size w x

theorem take_eq_snocD {L M : List D} {k : Nat} (hl : L.length = M.length) (hk : k < L.length) (h : L.take k = M.take k) : L.take (k + 1) = M.take (k + 1) ↔ L.getD k (0, 0, 0) = M.getD k (0, 0, 0) := by
  have hk' : k < M.length := by omega
  rw [List.take_succ_eq_append_getElem hk, List.take_succ_eq_append_getElem hk', h, List.append_right_inj]
  simp [hk, hk']


set_option maxHeartbeats 400000 in
theorem sequal_any (A A' : Option Addr) (n m c c' : Nat) (L M : List D) (w : World) (h : RdS w w.heap.size 3 A n c (dartsV L)) (h' : RdS w w.heap.size 3 A' m c' (dartsV M)) (hn : n ≤ 9223372036854775807) :
    Calls Try.prog 63 #[.slice A n c, .slice A' m c'] w fun e w' => e = .returned (.bool (decide (L = M))) ∧ Below w.heap.size w w' := by
  have hl := h.dlen
  have hm := h'.dlen
  by_cases he : n = m
  · subst he
    have HL := Lib.hid hl
    have HM := Lib.hid hm
    have H := Lib.hid h
    have H' := Lib.hid h'
    have hnn : ((n : Int) != (n : Int)) = false := by simp
    clear h h' hl hm
    go_enter Try.func63, Try.ntmps63
    go_wp2
    go_loopw [13] (fun i wr => ∃ k : Nat, k ≤ n ∧ i = .int .i64 k ∧ EqAt w L M k wr) (fun i _ => n - (intOf i).toNat)
    case atStart => exact ⟨0, Nat.zero_le _, rfl, rfl, Below.refl _ _⟩
    case round =>
      obtain ⟨k, hk, rfl, he, hbw⟩ := hrel
      have HE := Lib.hid he
      have HB := Lib.hid hbw
      clear he
      by_cases hlt : k < n
      · obtain ⟨b, off, rfl, hb, hc⟩ := H.out.darts (by omega)
        obtain ⟨b', off', rfl, hb', hc'⟩ := H'.out.darts (by omega)
        obtain ⟨c1, c2, c3⟩ := hc k (by rw [HL.out]; exact hlt)
        obtain ⟨e1, e2, e3⟩ := hc' k (by rw [HM.out]; exact hlt)
        have d1 := (hbw.cell (p := ⟨b, off + k * 3, none⟩) hb).trans c1
        have d2 := (hbw.cell (p := ⟨b, off + k * 3 + 1, none⟩) hb).trans c2
        have d3 := (hbw.cell (p := ⟨b, off + k * 3 + 2, none⟩) hb).trans c3
        have f1 := (hbw.cell (p := ⟨b', off' + k * 3, none⟩) hb').trans e1
        have f2 := (hbw.cell (p := ⟨b', off' + k * 3 + 1, none⟩) hb').trans e2
        have f3 := (hbw.cell (p := ⟨b', off' + k * 3 + 2, none⟩) hb').trans e3
        obtain ⟨x, gx⟩ : ∃ v, L.getD k (0, 0, 0) = v := ⟨_, rfl⟩
        obtain ⟨y, gy⟩ : ∃ v, M.getD k (0, 0, 0) = v := ⟨_, rfl⟩
        rw [gx] at d1 d2 d3
        rw [gy] at f1 f2 f3
        have GX := Lib.hid gx
        have GY := Lib.hid gy
        have HT := Lib.hid (take_eq_snocD (by rw [HL.out, HM.out]) (by rw [HL.out]; exact hlt) HE.out)
        have hq := neq_dart_run x y
        clear hc hc' c1 c2 c3 e1 e2 e3 gx gy hbw
        by_cases hd : x = y
        · have hd' : (!decide (x = y)) = false := by simpa using hd
          rw [hd'] at hq
          have HD := Lib.hid hd
          clear hd hd'
          go_wp2
          go_quiet (fail)
          go_wp2
          go_roundw
          case rel => exact ⟨k + 1, by omega, by go_num, HT.out.2 (by rw [GX.out, GY.out, HD.out]), ⟨HB.out.os, HB.out.tape, HB.out.output, HB.out.size, HB.out.block⟩⟩
          case measure => simp [intOf]; omega
        · have hd' : (!decide (x = y)) = true := by simpa using hd
          rw [hd'] at hq
          have HD := Lib.hid hd
          clear hd hd'
          go_wp2
          go_quiet (fail)
          go_wp2
          go_ret
          refine ⟨?_, ⟨HB.out.os, HB.out.tape, HB.out.output, HB.out.size, HB.out.block⟩⟩
          have hne : decide (L = M) = false := by
            simp only [decide_eq_false_iff_not]
            rintro rfl
            exact HD.out (by rw [← GX.out, ← GY.out])
          rw [hne]
          rfl
      · go_wp2
        go_ret
        refine ⟨?_, HB.out⟩
        have hee : decide (L = M) = true := by
          simp only [decide_eq_true_eq]
          have h1 := HE.out
          rwa [List.take_of_length_le (by rw [HL.out]; omega), List.take_of_length_le (by rw [HM.out]; omega)] at h1
        rw [hee]
        rfl
  · have e : decide (L = M) = false := by
      simp only [decide_eq_false_iff_not]
      rintro rfl
      omega
    rw [e]
    have h1 : ((n : Int) != (m : Int)) = true := by simp; omega
    clear h h' hl hm e he
    go_enter Try.func63, Try.ntmps63
    go_wp2
    go_ret
    exact ⟨rfl, Below.refl _ _⟩

set_option maxHeartbeats 400000 in
theorem rdarts_any (A A' : Option Addr) (n m c c' : Nat) (L M : List D) (w : World) (h : RdS w w.heap.size 3 A n c (dartsV L)) (h' : RdS w w.heap.size 3 A' m c' (dartsV M)) (hn : n ≤ 9223372036854775807) :
    Calls Try.prog 53 #[.slice A n c, .slice A' m c'] w fun e w' => e = .returned (.bool (decide (L = M))) ∧ Below w.heap.size w w' := by
  have hl := h.dlen
  have hm := h'.dlen
  by_cases he : n = m
  · subst he
    have HL := Lib.hid hl
    have HM := Lib.hid hm
    have H := Lib.hid h
    have H' := Lib.hid h'
    have hnn : ((n : Int) != (n : Int)) = false := by simp
    clear h h' hl hm
    go_enter Try.func53, Try.ntmps53
    go_wp2
    go_loopw [5] (fun i wr => ∃ k : Nat, k ≤ n ∧ i = .int .i64 k ∧ EqAt w L M k wr) (fun i _ => n - (intOf i).toNat)
    case atStart => exact ⟨0, Nat.zero_le _, rfl, rfl, Below.refl _ _⟩
    case round =>
      obtain ⟨k, hk, rfl, he, hbw⟩ := hrel
      have HE := Lib.hid he
      have HB := Lib.hid hbw
      clear he
      by_cases hlt : k < n
      · obtain ⟨b, off, rfl, hb, hc⟩ := H.out.darts (by omega)
        obtain ⟨b', off', rfl, hb', hc'⟩ := H'.out.darts (by omega)
        obtain ⟨c1, c2, c3⟩ := hc k (by rw [HL.out]; exact hlt)
        obtain ⟨e1, e2, e3⟩ := hc' k (by rw [HM.out]; exact hlt)
        have d1 := (hbw.cell (p := ⟨b, off + k * 3, none⟩) hb).trans c1
        have d2 := (hbw.cell (p := ⟨b, off + k * 3 + 1, none⟩) hb).trans c2
        have d3 := (hbw.cell (p := ⟨b, off + k * 3 + 2, none⟩) hb).trans c3
        have f1 := (hbw.cell (p := ⟨b', off' + k * 3, none⟩) hb').trans e1
        have f2 := (hbw.cell (p := ⟨b', off' + k * 3 + 1, none⟩) hb').trans e2
        have f3 := (hbw.cell (p := ⟨b', off' + k * 3 + 2, none⟩) hb').trans e3
        obtain ⟨x, gx⟩ : ∃ v, L.getD k (0, 0, 0) = v := ⟨_, rfl⟩
        obtain ⟨y, gy⟩ : ∃ v, M.getD k (0, 0, 0) = v := ⟨_, rfl⟩
        rw [gx] at d1 d2 d3
        rw [gy] at f1 f2 f3
        have GX := Lib.hid gx
        have GY := Lib.hid gy
        have HT := Lib.hid (take_eq_snocD (by rw [HL.out, HM.out]) (by rw [HL.out]; exact hlt) HE.out)
        have hq := neq_dart_run x y
        clear hc hc' c1 c2 c3 e1 e2 e3 gx gy hbw
        by_cases hd : x = y
        · have hd' : (!decide (x = y)) = false := by simpa using hd
          rw [hd'] at hq
          have HD := Lib.hid hd
          clear hd hd'
          go_wp2
          go_quiet (fail)
          go_wp2
          go_roundw
          case rel => exact ⟨k + 1, by omega, by go_num, HT.out.2 (by rw [GX.out, GY.out, HD.out]), ⟨HB.out.os, HB.out.tape, HB.out.output, HB.out.size, HB.out.block⟩⟩
          case measure => simp [intOf]; omega
        · have hd' : (!decide (x = y)) = true := by simpa using hd
          rw [hd'] at hq
          have HD := Lib.hid hd
          clear hd hd'
          go_wp2
          go_quiet (fail)
          go_wp2
          go_ret
          refine ⟨?_, ⟨HB.out.os, HB.out.tape, HB.out.output, HB.out.size, HB.out.block⟩⟩
          have hne : decide (L = M) = false := by
            simp only [decide_eq_false_iff_not]
            rintro rfl
            exact HD.out (by rw [← GX.out, ← GY.out])
          rw [hne]
          rfl
      · go_wp2
        go_ret
        refine ⟨?_, HB.out⟩
        have hee : decide (L = M) = true := by
          simp only [decide_eq_true_eq]
          have h1 := HE.out
          rwa [List.take_of_length_le (by rw [HL.out]; omega), List.take_of_length_le (by rw [HM.out]; omega)] at h1
        rw [hee]
        rfl
  · have e : decide (L = M) = false := by
      simp only [decide_eq_false_iff_not]
      rintro rfl
      omega
    rw [e]
    have h1 : ((n : Int) != (m : Int)) = true := by simp; omega
    clear h h' hl hm e he
    go_enter Try.func53, Try.ntmps53
    go_wp2
    go_ret
    exact ⟨rfl, Below.refl _ _⟩
end Go.Proofs.Ytdhglhcpgmfpoaa
