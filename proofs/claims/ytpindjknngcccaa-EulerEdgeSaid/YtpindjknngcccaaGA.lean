/- Words for all layers, in one text. -/
import Derived.Test.YtpindjknngcccaaRing
import Derived.Deep.QuietTactic
import Derived.BigQuiet
import Derived.LoopTactic
import Derived.Outline
import Derived.Test.YtpindjknngcccaaBase
import Derived.Test.YtpindjknngcccaaDart
import Derived.Laws.RangeString
import Derived.Laws.RangeAny
import Derived.Maps.OwnSet
import Derived.Deep.MidRow
import Derived.Deep.CutBlock
import Derived.DeepKeys4

/- Darts searched and compared: the contracts of slices.Index, slices.Equal, ring.Index, and of the document's Index and Darts. -/
namespace Go.Proofs.Ytpindjknngcccaa
open Go.RowKit
set_option linter.unusedSimpArgs false

theorem eq_dart_run (x y : D) (W : World) : (binOp .eql 39 (.agg #[.int .i64 x.1, .int .i64 x.2.1, .int .i64 x.2.2]) (.agg #[.int .i64 y.1, .int .i64 y.2.1, .int .i64 y.2.2])).run Try.prog W = .ok (.bool (decide (x = y))) W := by
  rw [eq_dart]
  congr 2
  rw [Bool.eq_iff_iff]
  obtain ⟨x1, x2, x3⟩ := x
  obtain ⟨y1, y2, y3⟩ := y
  simp [and_assoc]
theorem neq_dart_run (x y : D) (W : World) : (binOp .neq 39 (.agg #[.int .i64 x.1, .int .i64 x.2.1, .int .i64 x.2.2]) (.agg #[.int .i64 y.1, .int .i64 y.2.1, .int .i64 y.2.2])).run Try.prog W = .ok (.bool (!decide (x = y))) W := by
  obtain ⟨x1, x2, x3⟩ := x
  obtain ⟨y1, y2, y3⟩ := y
  by_cases h1 : x1 = y1 <;> by_cases h2 : x2 = y2 <;> by_cases h3 : x3 = y3 <;> simp [go_sem, h1, h2, h3]

theorem idxOf_le (L : List D) (d : D) (k : Nat) (h : L.getD k (0, 0, 0) = d) (hk : k < L.length) : L.idxOf d ≤ k := by
  induction L generalizing k with
  | nil => simp at hk
  | cons x L ih =>
    rw [List.idxOf_cons]
    by_cases e : x = d
    · have hb : (x == d) = true := by rw [beq_iff_eq]; exact e
      rw [hb]
      exact Nat.zero_le _
    · have hb : (x == d) = false := by rw [beq_eq_false_iff_ne]; exact e
      rw [hb]
      cases k with
      | zero => exact absurd (by simpa using h) e
      | succ k =>
        have := ih k (by simpa using h) (by simpa using hk)
        show L.idxOf d + 1 ≤ k + 1
        omega
theorem idxD_at {L : List D} {d : D} {k : Nat} (hk : k < L.length) (he : L.getD k (0, 0, 0) = d) (hn : ∀ j, j < k → L.getD j (0, 0, 0) ≠ d) : idxD L d = k := by
  have hm : d ∈ L := by
    rw [← he, List.getD_eq_getElem?_getD, List.getElem?_eq_getElem hk]
    exact List.getElem_mem hk
  have hi : L.idxOf d < L.length := List.idxOf_lt_length_of_mem hm
  have hg : L[L.idxOf d] = d := List.getElem_idxOf hi
  rw [idxD, if_pos hm]
  have h1 : ¬ L.idxOf d < k := fun h => hn _ h (by rw [List.getD_eq_getElem?_getD, List.getElem?_eq_getElem hi]; exact hg)
  have h2 : ¬ k < L.idxOf d := fun h => by
    have h3 := idxOf_le L d k he hk
    omega
  omega
theorem idxD_not {L : List D} {d : D} (hn : ∀ j, j < L.length → L.getD j (0, 0, 0) ≠ d) : idxD L d = -1 := by
  rw [idxD, if_neg]
  intro hm
  have hi : L.idxOf d < L.length := List.idxOf_lt_length_of_mem hm
  exact hn _ hi (by rw [List.getD_eq_getElem?_getD, List.getElem?_eq_getElem hi]; exact List.getElem_idxOf hi)

/-- What holds at each round of Index. -/
def IdxAt (w : World) (L : List D) (d : D) (k : Nat) (x : World) : Prop :=
  (∀ j, j < k → L.getD j (0, 0, 0) ≠ d) ∧ Whole x w.heap.size 39 [.int .i64 d.1, .int .i64 d.2.1, .int .i64 d.2.2] ∧ Below w.heap.size w x

/-- What holds at each round of a comparison. -/
def EqAt (w : World) (L M : List D) (k : Nat) (x : World) : Prop := L.take k = M.take k ∧ Below w.heap.size w x

theorem take_eq_snocD {L M : List D} {k : Nat} (hl : L.length = M.length) (hk : k < L.length) (h : L.take k = M.take k) : L.take (k + 1) = M.take (k + 1) ↔ L.getD k (0, 0, 0) = M.getD k (0, 0, 0) := by
  have hk' : k < M.length := by omega
  rw [List.take_succ_eq_append_getElem hk, List.take_succ_eq_append_getElem hk', h, List.append_right_inj]
  simp [hk, hk']


set_option maxHeartbeats 400000 in
theorem rdarts_any (A A' : Option Addr) (n m c c' : Nat) (L M : List D) (w : World) (h : RdS w w.heap.size 3 A n c (dartsV L)) (h' : RdS w w.heap.size 3 A' m c' (dartsV M)) (hn : n ≤ 9223372036854775807) :
    Calls Try.prog 62 #[.slice A n c, .slice A' m c'] w fun e w' => e = .returned (.bool (decide (L = M))) ∧ Below w.heap.size w w' := by
  have hl := h.dlen
  have hm := h'.dlen
  by_cases he : n = m
  · subst he
    have HL := Lib.hid hl
    have HM := Lib.hid hm
    have H := Lib.hid h
    have H' := Lib.hid h'
    have hnn : ((n : Int) != (n : Int)) = false := by simp
    clear h h' hl hm
    go_enter Try.func62, Try.ntmps62
    go_wp2
    go_loopw [5] (fun i wr => ∃ k : Nat, k ≤ n ∧ i = .int .i64 k ∧ EqAt w L M k wr) (fun i _ => n - (intOf i).toNat)
    case atStart => exact ⟨0, Nat.zero_le _, rfl, rfl, Below.refl _ _⟩
    case round =>
      obtain ⟨k, hk, rfl, he, hbw⟩ := hrel
      have HE := Lib.hid he
      have HB := Lib.hid hbw
      clear he
      by_cases hlt : k < n
      · obtain ⟨b, off, rfl, hb, hc⟩ := H.out.darts (by omega)
        obtain ⟨b', off', rfl, hb', hc'⟩ := H'.out.darts (by omega)
        obtain ⟨c1, c2, c3⟩ := hc k (by rw [HL.out]; exact hlt)
        obtain ⟨e1, e2, e3⟩ := hc' k (by rw [HM.out]; exact hlt)
        have d1 := (hbw.cell (p := ⟨b, off + k * 3, none⟩) hb).trans c1
        have d2 := (hbw.cell (p := ⟨b, off + k * 3 + 1, none⟩) hb).trans c2
        have d3 := (hbw.cell (p := ⟨b, off + k * 3 + 2, none⟩) hb).trans c3
        have f1 := (hbw.cell (p := ⟨b', off' + k * 3, none⟩) hb').trans e1
        have f2 := (hbw.cell (p := ⟨b', off' + k * 3 + 1, none⟩) hb').trans e2
        have f3 := (hbw.cell (p := ⟨b', off' + k * 3 + 2, none⟩) hb').trans e3
        obtain ⟨x, gx⟩ : ∃ v, L.getD k (0, 0, 0) = v := ⟨_, rfl⟩
        obtain ⟨y, gy⟩ : ∃ v, M.getD k (0, 0, 0) = v := ⟨_, rfl⟩
        rw [gx] at d1 d2 d3
        rw [gy] at f1 f2 f3
        have GX := Lib.hid gx
        have GY := Lib.hid gy
        have HT := Lib.hid (take_eq_snocD (by rw [HL.out, HM.out]) (by rw [HL.out]; exact hlt) HE.out)
        have hq := neq_dart_run x y
        clear hc hc' c1 c2 c3 e1 e2 e3 gx gy hbw
        by_cases hd : x = y
        · have hd' : (!decide (x = y)) = false := by simpa using hd
          rw [hd'] at hq
          have HD := Lib.hid hd
          clear hd hd'
          go_wp2
          go_quiet (fail)
          go_wp2
          go_roundw
          case rel => exact ⟨k + 1, by omega, by go_num, HT.out.2 (by rw [GX.out, GY.out, HD.out]), ⟨HB.out.os, HB.out.tape, HB.out.output, HB.out.size, HB.out.block⟩⟩
          case measure => simp [intOf]; omega
        · have hd' : (!decide (x = y)) = true := by simpa using hd
          rw [hd'] at hq
          have HD := Lib.hid hd
          clear hd hd'
          go_wp2
          go_quiet (fail)
          go_wp2
          go_ret
          refine ⟨?_, ⟨HB.out.os, HB.out.tape, HB.out.output, HB.out.size, HB.out.block⟩⟩
          have hne : decide (L = M) = false := by
            simp only [decide_eq_false_iff_not]
            rintro rfl
            exact HD.out (by rw [← GX.out, ← GY.out])
          rw [hne]
          rfl
      · go_wp2
        go_ret
        refine ⟨?_, HB.out⟩
        have hee : decide (L = M) = true := by
          simp only [decide_eq_true_eq]
          have h1 := HE.out
          rwa [List.take_of_length_le (by rw [HL.out]; omega), List.take_of_length_le (by rw [HM.out]; omega)] at h1
        rw [hee]
        rfl
  · have e : decide (L = M) = false := by
      simp only [decide_eq_false_iff_not]
      rintro rfl
      omega
    rw [e]
    have h1 : ((n : Int) != (m : Int)) = true := by simp; omega
    clear h h' hl hm e he
    go_enter Try.func62, Try.ntmps62
    go_wp2
    go_ret
    exact ⟨rfl, Below.refl _ _⟩
end Go.Proofs.Ytpindjknngcccaa

/- Rings turned to their least: the contract of ring.turned. -/
namespace Go.Proofs.Ytpindjknngcccaa
open Go.RowKit
set_option linter.unusedSimpArgs false

theorem info_dart : (Try.prog.info? 39).map (fun i => (i.zero, i.size, i.bytes)) = some (some (.agg #[.int .i64 0, .int .i64 0, .int .i64 0]), 3, 24) := by kernel_rfl

/-- A call that answers a slice that reads as these darts, and leaves all that was there as it was. -/
def GivesR (w : World) (L : List D) (e : Ending) (w' : World) : Prop :=
  ∃ A c, e = .returned (.slice A L.length c) ∧ RdS w' w'.heap.size 3 A L.length c (dartsV L) ∧ Below w.heap.size w w'

/-- The parts of a ring, as they lie in a slice of slices. -/
structure Parts (w : World) (A : Option Addr) (n : Nat) (Ps : List (List D)) : Prop where
  len : Ps.length = n
  part : ∀ k, k < n → ∃ b off A' c', A = some ⟨b, off, none⟩ ∧ b < w.heap.size ∧ w.cell? ⟨b, off + k, none⟩ = some (.slice A' (Ps.getD k []).length c') ∧ RdS w w.heap.size 3 A' (Ps.getD k []).length c' (dartsV (Ps.getD k []))
theorem Parts.up {w w' : World} {A : Option Addr} {n : Nat} {Ps : List (List D)} (h : Parts w A n Ps) (hb : Below w.heap.size w w') : Parts w' A n Ps :=
  ⟨h.len, fun k hk => by
    obtain ⟨b, off, A', c', e, hb1, hc, hr⟩ := h.part k hk
    exact ⟨b, off, A', c', e, Nat.lt_of_lt_of_le hb1 hb.size, (hb.cell hb1).trans hc, hr.up hb hb.size⟩⟩

end Go.Proofs.Ytpindjknngcccaa

/- Rings turned, searched along: the contracts of ring.Turn, along, Next, Prev; and of ring.Same. -/
namespace Go.Proofs.Ytpindjknngcccaa
open Go.RowKit
set_option linter.unusedSimpArgs false

theorem turnD_length (L : List D) : (turnD L).length = L.length := by
  have := leastI_le L L.length
  simp [turnD]
  omega

theorem RdS.whole3 {w : World} {g : Nat} {t : TypeId} {L : List D} (hw : Whole w g t (dartsV L)) : RdS w w.heap.size 3 (some ⟨g, 0, none⟩) L.length L.length (dartsV L) :=
  ⟨dartsV_length L, fun e => (by cases e), Nat.le_refl _, fun a e _ => (by obtain rfl := Option.some.inj e; exact hw.lt), fun a e j u hj => (by
    obtain rfl := Option.some.inj e
    rw [Addr.add_lit]
    simpa using hw.cell hj)⟩
end Go.Proofs.Ytpindjknngcccaa

/- The document's own Index, Turn, Next, Prev of rings. -/
namespace Go.Proofs.Ytpindjknngcccaa
open Go.RowKit
set_option linter.unusedSimpArgs false

set_option maxHeartbeats 400000 in
theorem rfindex_any (A : Option Addr) (n c : Nat) (L : List D) (d : D) (w : World) (h : RdS w w.heap.size 3 A n c (dartsV L)) (hn : n ≤ 9223372036854775807) :
    Calls Try.prog 27 #[.slice A n c, .agg #[.int .i64 d.1, .int .i64 d.2.1, .int .i64 d.2.2]] w fun e w' => e = .returned (.int .i64 (idxD L d)) ∧ Below w.heap.size w w' := by
  have hl := h.dlen
  have HL := Lib.hid hl
  have H := Lib.hid h
  have HS : RowKit.Hid (IdxAt w L d 0 (w.alloc (.cells #[.int .i64 d.1, .int .i64 d.2.1, .int .i64 d.2.2] 39))) := ⟨fun j hj => absurd hj (by omega), Whole.new_ w _ [.int .i64 d.1, .int .i64 d.2.1, .int .i64 d.2.2], below1 _ _⟩
  clear h hl
  go_enter Try.func27, Try.ntmps27
  go_wp2
  go_loopw [5] (fun i wr => ∃ k : Nat, k ≤ n ∧ i = .int .i64 k ∧ IdxAt w L d k wr) (fun i _ => n - (intOf i).toNat)
  case atStart => exact ⟨0, Nat.zero_le _, rfl, HS.out⟩
  case round =>
    obtain ⟨k, hk, rfl, h1, h2, h3⟩ := hrel
    have H1 := Lib.hid h1
    have H2 := Lib.hid h2
    have H3 := Lib.hid h3
    clear h1 HS
    by_cases hlt : k < n
    · obtain ⟨b, off, rfl, hb, hc⟩ := H.out.darts (by omega)
      obtain ⟨c1, c2, c3⟩ := hc k (by rw [HL.out]; exact hlt)
      have d1 := (h3.cell (p := ⟨b, off + k * 3, none⟩) hb).trans c1
      have d2 := (h3.cell (p := ⟨b, off + k * 3 + 1, none⟩) hb).trans c2
      have d3 := (h3.cell (p := ⟨b, off + k * 3 + 2, none⟩) hb).trans c3
      have b1 := h2.cell (i := 0) rfl
      have b2 := h2.cell (i := 1) rfl
      have b3 := h2.cell (i := 2) rfl
      obtain ⟨x, gx⟩ : ∃ v, L.getD k (0, 0, 0) = v := ⟨_, rfl⟩
      rw [gx] at d1 d2 d3
      have GX := Lib.hid gx
      have hq := eq_dart_run x d
      clear h2 h3 hc c1 c2 c3 gx
      by_cases hd : x = d
      · have hd' : decide (x = d) = true := by simpa using hd
        rw [hd'] at hq
        have HD := Lib.hid hd
        clear hd hd'
        go_wp2
        go_quiet (fail)
        go_wp2
        go_ret
        exact ⟨ret_int (by rw [idxD_at (by rw [HL.out]; exact hlt) (GX.out.trans HD.out) H1.out]), ⟨H3.out.os, H3.out.tape, H3.out.output, H3.out.size, H3.out.block⟩⟩
      · have hd' : decide (x = d) = false := by simpa using hd
        rw [hd'] at hq
        have HD := Lib.hid hd
        clear hd hd'
        go_wp2
        go_quiet (fail)
        go_wp2
        go_roundw
        case rel =>
          refine ⟨k + 1, by omega, by go_num, fun j hj => ?_, H2.out, ⟨H3.out.os, H3.out.tape, H3.out.output, H3.out.size, H3.out.block⟩⟩
          rcases Nat.lt_or_ge j k with h | h
          · exact H1.out j h
          · obtain rfl : j = k := by omega
            rw [GX.out]
            exact HD.out
        case measure => simp [intOf]; omega
    · clear h2 h3
      go_wp2
      go_ret
      refine ⟨ret_int ?_, H3.out⟩
      rw [idxD_not]
      intro j hj
      exact H1.out j (by have := HL.out; omega)


theorem turnD_get (L : List D) (i : Nat) (h : i < L.length) : (turnD L).getD i (0, 0, 0) = L.getD ((leastI L L.length + i) % L.length) (0, 0, 0) := by
  have hm : leastI L L.length < L.length := leastI_lt L _ (by omega)
  unfold turnD
  generalize leastI L L.length = m at *
  simp only [List.getD_eq_getElem?_getD]
  congr 1
  rcases Nat.lt_or_ge (m + i) L.length with h1 | h1
  · rw [List.getElem?_append_left (by simp; omega), List.getElem?_drop, Nat.mod_eq_of_lt h1]
  · rw [List.getElem?_append_right (by simp; omega), List.getElem?_take, List.length_drop, if_pos (by omega)]
    congr 1
    rw [Nat.mod_eq_sub_mod h1, Nat.mod_eq_of_lt (by omega)]
    omega
theorem take_snocD (L : List D) (k : Nat) (h : k < L.length) : L.take (k + 1) = L.take k ++ [L.getD k (0, 0, 0)] := by
  rw [List.take_succ_eq_append_getElem h]
  simp [h]

set_option maxRecDepth 100000 in
set_option maxHeartbeats 1000000 in
theorem rfturn_any (A : Option Addr) (n c : Nat) (L : List D) (w : World) (h : RdS w w.heap.size 3 A n c (dartsV L)) (hn : n ≤ 5864062014634) :
    Calls Try.prog 29 #[.slice A n c] w (GivesR w (turnD L)) := by
  obtain ⟨i0, hi, hz0, hz1, hz2⟩ := info_parts info_dart
  have HR := Lib.hid h
  have hl := h.dlen
  subst hl
  clear h
  go_enter Try.func29, Try.ntmps29
  go_wp2
  go_loopw [3, 4] (fun lv i wr => ∃ k : Nat, k ≤ L.length ∧ i = .int .i64 k ∧ lv = .int .i64 (leastI L k : Int) ∧ Below w.heap.size w wr) (fun _ i _ => L.length - (intOf i).toNat)
  case atStart => exact ⟨0, Nat.zero_le _, rfl, rfl, Below.refl _ _⟩
  case round =>
    obtain ⟨k2, hk2, rfl, rfl, hbw⟩ := hrel
    have HBw := Lib.hid hbw
    by_cases hlt2 : k2 < L.length
    · obtain ⟨b, off, rfl, hb, hc⟩ := (HR.out.up hbw hbw.size).darts (by omega)
      obtain ⟨d1, d2, d3⟩ := hc k2 hlt2
      have hlm := leastI_le L k2
      have hlm2 : leastI L k2 < L.length := by omega
      obtain ⟨e1, e2, e3⟩ := hc (leastI L k2) hlm2
      have hs : leastI L (k2 + 1) = if ordT (L.getD k2 (0, 0, 0)) (L.getD (leastI L k2) (0, 0, 0)) < 0 then k2 else leastI L k2 := rfl
      obtain ⟨m, gm⟩ : ∃ v, leastI L k2 = v := ⟨_, rfl⟩
      rw [gm] at e1 e2 e3 hlm hlm2 hs ⊢
      obtain ⟨x, gx⟩ : ∃ v, L.getD k2 (0, 0, 0) = v := ⟨_, rfl⟩
      obtain ⟨y, gy⟩ : ∃ v, L.getD m (0, 0, 0) = v := ⟨_, rfl⟩
      rw [gx] at d1 d2 d3 hs
      rw [gy] at e1 e2 e3 hs
      have HOr := rorderdart_any x.1 x.2.1 x.2.2 y.1 y.2.1 y.2.2
      have ho : ordD x.1 x.2.1 x.2.2 y.1 y.2.1 y.2.2 = ordT x y := rfl
      obtain ⟨ov, gov⟩ : ∃ v, ordT x y = v := ⟨_, rfl⟩
      rw [ho, gov] at HOr
      rw [gov] at hs
      have HOr' := Lib.hid HOr
      have HS := Lib.hid hs
      clear hc gm gx gy ho gov HOr hs
      go_upto_region 5 with fail
      have g0 : ∀ w', Kept Nil_ wr.drew w' → w'.cell? ⟨b, off + k2 * 3, none⟩ = some (.int .i64 x.1) := fun w' h => h.nil_cell d1
      have g1 : ∀ w', Kept Nil_ wr.drew w' → w'.cell? ⟨b, off + k2 * 3 + 1, none⟩ = some (.int .i64 x.2.1) := fun w' h => h.nil_cell d2
      have g2 : ∀ w', Kept Nil_ wr.drew w' → w'.cell? ⟨b, off + k2 * 3 + 2, none⟩ = some (.int .i64 x.2.2) := fun w' h => h.nil_cell d3
      have g3 : ∀ w', Kept Nil_ wr.drew w' → w'.cell? ⟨b, off + m * 3, none⟩ = some (.int .i64 y.1) := fun w' h => h.nil_cell e1
      have g4 : ∀ w', Kept Nil_ wr.drew w' → w'.cell? ⟨b, off + m * 3 + 1, none⟩ = some (.int .i64 y.2.1) := fun w' h => h.nil_cell e2
      have g5 : ∀ w', Kept Nil_ wr.drew w' → w'.cell? ⟨b, off + m * 3 + 2, none⟩ = some (.int .i64 y.2.2) := fun w' h => h.nil_cell e3
      have hE : RowKit.Hid (Below w.heap.size w wr.drew) := HBw.out.drew
      clear hbw
      by_cases ho : ov < 0
      · rw [if_pos ho] at HS
        refine wp_region_reg (Nil_) (by kernel_rfl) ?_
        apply wpR_next 0 (some 13)
        · simp only [List.getElem?_toArray, List.getElem?_cons_succ, List.getElem?_cons_zero]; exact rfl
        · rfl
        · kernel_rfl
        · kernel_rfl
        · kernel_rfl
        · exact fun _ _ _ _ h => h
        apply Exists.intro
        apply And.intro
        · apply yr_run; rfl; intro w' hw'; go_simp; (try with_reducible rfl)
        simp only [Act.put, List.setIfInBounds_toArray, List.set_cons_zero, List.set_cons_succ]
        apply wpR_next 1 (some 14)
        · simp only [List.getElem?_toArray, List.getElem?_cons_succ, List.getElem?_cons_zero]; exact rfl
        · rfl
        · kernel_rfl
        · kernel_rfl
        · kernel_rfl
        · exact fun _ _ _ _ h => h
        apply Exists.intro
        apply And.intro
        · apply yr_run; rfl; intro w' hw'; go_simp; (try with_reducible rfl)
        simp only [Act.put, List.setIfInBounds_toArray, List.set_cons_zero, List.set_cons_succ]
        apply wpR_next 2 (some 15)
        · simp only [List.getElem?_toArray, List.getElem?_cons_succ, List.getElem?_cons_zero]; exact rfl
        · rfl
        · kernel_rfl
        · kernel_rfl
        · kernel_rfl
        · exact fun _ _ _ _ h => h
        apply Exists.intro
        apply And.intro
        · apply yr_run; rfl; intro w' hw'; go_simp; (try with_reducible rfl)
        simp only [Act.put, List.setIfInBounds_toArray, List.set_cons_zero, List.set_cons_succ]
        apply wpR_next 3 (some 16)
        · simp only [List.getElem?_toArray, List.getElem?_cons_succ, List.getElem?_cons_zero]; exact rfl
        · rfl
        · kernel_rfl
        · kernel_rfl
        · kernel_rfl
        · exact fun _ _ _ _ h => h
        apply Exists.intro
        apply And.intro
        · apply yr_run; rfl; intro w' hw'; go_simp; (try with_reducible rfl)
        simp only [Act.put, List.setIfInBounds_toArray, List.set_cons_zero, List.set_cons_succ]
        apply wpR_next 4 (some 17)
        · simp only [List.getElem?_toArray, List.getElem?_cons_succ, List.getElem?_cons_zero]; exact rfl
        · rfl
        · kernel_rfl
        · kernel_rfl
        · kernel_rfl
        · exact fun _ _ _ _ h => h
        apply Exists.intro
        apply And.intro
        · apply yr_run; rfl; intro w' hw'; go_simp; (try with_reducible rfl)
        simp only [Act.put, List.setIfInBounds_toArray, List.set_cons_zero, List.set_cons_succ]
        apply wpR_next 5 (some 18)
        · simp only [List.getElem?_toArray, List.getElem?_cons_succ, List.getElem?_cons_zero]; exact rfl
        · rfl
        · kernel_rfl
        · kernel_rfl
        · kernel_rfl
        · exact fun _ _ _ _ h => h
        apply Exists.intro
        apply And.intro
        · apply yr_run; rfl; intro w' hw'; go_simp; (try with_reducible rfl)
        simp only [Act.put, List.setIfInBounds_toArray, List.set_cons_zero, List.set_cons_succ]
        apply wpR_next 6 (some 19)
        · simp only [List.getElem?_toArray, List.getElem?_cons_succ, List.getElem?_cons_zero]; exact rfl
        · rfl
        · kernel_rfl
        · kernel_rfl
        · kernel_rfl
        · exact fun _ _ _ _ h => h
        apply Exists.intro
        apply And.intro
        · apply yr_run; rfl; intro w' hw'; go_simp; (try with_reducible rfl)
        simp only [Act.put, List.setIfInBounds_toArray, List.set_cons_zero, List.set_cons_succ]
        apply wpR_next 7 (some 20)
        · simp only [List.getElem?_toArray, List.getElem?_cons_succ, List.getElem?_cons_zero]; exact rfl
        · rfl
        · kernel_rfl
        · kernel_rfl
        · kernel_rfl
        · exact fun _ _ _ _ h => h
        apply Exists.intro
        apply And.intro
        · apply yr_run; rfl; intro w' hw'; go_simp; (try with_reducible rfl)
        simp only [Act.put, List.setIfInBounds_toArray, List.set_cons_zero, List.set_cons_succ]
        apply wpR_next 8 (some 21)
        · simp only [List.getElem?_toArray, List.getElem?_cons_succ, List.getElem?_cons_zero]; exact rfl
        · rfl
        · kernel_rfl
        · kernel_rfl
        · kernel_rfl
        · exact fun _ _ _ _ h => h
        apply Exists.intro
        apply And.intro
        · apply yr_call; rfl; rotate_left; intro w' hw'; exact HOr'.out w'; intro w'; go_simp
        simp only [Act.put, List.setIfInBounds_toArray, List.set_cons_zero, List.set_cons_succ]
        apply wpR_next 9 (some 22)
        · simp only [List.getElem?_toArray, List.getElem?_cons_succ, List.getElem?_cons_zero]; exact rfl
        · rfl
        · kernel_rfl
        · kernel_rfl
        · kernel_rfl
        · exact fun _ _ _ _ h => h
        apply Exists.intro
        apply And.intro
        · apply yr_run; rfl; intro w' hw'; go_simp; (try with_reducible rfl)
        simp only [Act.put, List.setIfInBounds_toArray, List.set_cons_zero, List.set_cons_succ]
        refine wpR_done (by kernel_rfl) ?_ _
        intro w' hw'
        have hE2 : RowKit.Hid (Below w.heap.size w w') := hE.out.trans (hw'.mono hE.out.size)
        clear g0 g1 g2 g3 g4 g5 hw' d1 d2 d3 e1 e2 e3
        go_wp2
        go_roundw
        case rel => exact ⟨k2 + 1, by omega, by go_num, by rw [HS.out], hE2.out⟩
        case measure => simp [intOf]; omega
      · rw [if_neg ho] at HS
        refine wp_region_reg (Nil_) (by kernel_rfl) ?_
        apply wpR_next 0 (some 13)
        · simp only [List.getElem?_toArray, List.getElem?_cons_succ, List.getElem?_cons_zero]; exact rfl
        · rfl
        · kernel_rfl
        · kernel_rfl
        · kernel_rfl
        · exact fun _ _ _ _ h => h
        apply Exists.intro
        apply And.intro
        · apply yr_run; rfl; intro w' hw'; go_simp; (try with_reducible rfl)
        simp only [Act.put, List.setIfInBounds_toArray, List.set_cons_zero, List.set_cons_succ]
        apply wpR_next 1 (some 14)
        · simp only [List.getElem?_toArray, List.getElem?_cons_succ, List.getElem?_cons_zero]; exact rfl
        · rfl
        · kernel_rfl
        · kernel_rfl
        · kernel_rfl
        · exact fun _ _ _ _ h => h
        apply Exists.intro
        apply And.intro
        · apply yr_run; rfl; intro w' hw'; go_simp; (try with_reducible rfl)
        simp only [Act.put, List.setIfInBounds_toArray, List.set_cons_zero, List.set_cons_succ]
        apply wpR_next 2 (some 15)
        · simp only [List.getElem?_toArray, List.getElem?_cons_succ, List.getElem?_cons_zero]; exact rfl
        · rfl
        · kernel_rfl
        · kernel_rfl
        · kernel_rfl
        · exact fun _ _ _ _ h => h
        apply Exists.intro
        apply And.intro
        · apply yr_run; rfl; intro w' hw'; go_simp; (try with_reducible rfl)
        simp only [Act.put, List.setIfInBounds_toArray, List.set_cons_zero, List.set_cons_succ]
        apply wpR_next 3 (some 16)
        · simp only [List.getElem?_toArray, List.getElem?_cons_succ, List.getElem?_cons_zero]; exact rfl
        · rfl
        · kernel_rfl
        · kernel_rfl
        · kernel_rfl
        · exact fun _ _ _ _ h => h
        apply Exists.intro
        apply And.intro
        · apply yr_run; rfl; intro w' hw'; go_simp; (try with_reducible rfl)
        simp only [Act.put, List.setIfInBounds_toArray, List.set_cons_zero, List.set_cons_succ]
        apply wpR_next 4 (some 17)
        · simp only [List.getElem?_toArray, List.getElem?_cons_succ, List.getElem?_cons_zero]; exact rfl
        · rfl
        · kernel_rfl
        · kernel_rfl
        · kernel_rfl
        · exact fun _ _ _ _ h => h
        apply Exists.intro
        apply And.intro
        · apply yr_run; rfl; intro w' hw'; go_simp; (try with_reducible rfl)
        simp only [Act.put, List.setIfInBounds_toArray, List.set_cons_zero, List.set_cons_succ]
        apply wpR_next 5 (some 18)
        · simp only [List.getElem?_toArray, List.getElem?_cons_succ, List.getElem?_cons_zero]; exact rfl
        · rfl
        · kernel_rfl
        · kernel_rfl
        · kernel_rfl
        · exact fun _ _ _ _ h => h
        apply Exists.intro
        apply And.intro
        · apply yr_run; rfl; intro w' hw'; go_simp; (try with_reducible rfl)
        simp only [Act.put, List.setIfInBounds_toArray, List.set_cons_zero, List.set_cons_succ]
        apply wpR_next 6 (some 19)
        · simp only [List.getElem?_toArray, List.getElem?_cons_succ, List.getElem?_cons_zero]; exact rfl
        · rfl
        · kernel_rfl
        · kernel_rfl
        · kernel_rfl
        · exact fun _ _ _ _ h => h
        apply Exists.intro
        apply And.intro
        · apply yr_run; rfl; intro w' hw'; go_simp; (try with_reducible rfl)
        simp only [Act.put, List.setIfInBounds_toArray, List.set_cons_zero, List.set_cons_succ]
        apply wpR_next 7 (some 20)
        · simp only [List.getElem?_toArray, List.getElem?_cons_succ, List.getElem?_cons_zero]; exact rfl
        · rfl
        · kernel_rfl
        · kernel_rfl
        · kernel_rfl
        · exact fun _ _ _ _ h => h
        apply Exists.intro
        apply And.intro
        · apply yr_run; rfl; intro w' hw'; go_simp; (try with_reducible rfl)
        simp only [Act.put, List.setIfInBounds_toArray, List.set_cons_zero, List.set_cons_succ]
        apply wpR_next 8 (some 21)
        · simp only [List.getElem?_toArray, List.getElem?_cons_succ, List.getElem?_cons_zero]; exact rfl
        · rfl
        · kernel_rfl
        · kernel_rfl
        · kernel_rfl
        · exact fun _ _ _ _ h => h
        apply Exists.intro
        apply And.intro
        · apply yr_call; rfl; rotate_left; intro w' hw'; exact HOr'.out w'; intro w'; go_simp
        simp only [Act.put, List.setIfInBounds_toArray, List.set_cons_zero, List.set_cons_succ]
        apply wpR_next 9 (some 22)
        · simp only [List.getElem?_toArray, List.getElem?_cons_succ, List.getElem?_cons_zero]; exact rfl
        · rfl
        · kernel_rfl
        · kernel_rfl
        · kernel_rfl
        · exact fun _ _ _ _ h => h
        apply Exists.intro
        apply And.intro
        · apply yr_run; rfl; intro w' hw'; go_simp; (try with_reducible rfl)
        simp only [Act.put, List.setIfInBounds_toArray, List.set_cons_zero, List.set_cons_succ]
        refine wpR_done (by kernel_rfl) ?_ _
        intro w' hw'
        have hE2 : RowKit.Hid (Below w.heap.size w w') := hE.out.trans (hw'.mono hE.out.size)
        clear g0 g1 g2 g3 g4 g5 hw' d1 d2 d3 e1 e2 e3
        go_wp2
        go_roundw
        case rel => exact ⟨k2 + 1, by omega, by go_num, by rw [HS.out], hE2.out⟩
        case measure => simp [intOf]; omega
    · have hkl : k2 = L.length := by omega
      subst hkl
      have hlm := leastI_le L L.length
      have ht := turnD_get L
      have hlen := turnD_length L
      obtain ⟨R, gR⟩ : ∃ v, turnD L = v := ⟨_, rfl⟩
      obtain ⟨m, gm⟩ : ∃ v, leastI L L.length = v := ⟨_, rfl⟩
      rw [gm, gR] at ht
      rw [gR] at hlen
      rw [gm] at hlm ⊢
      have GR := Lib.hid gR
      have HT := Lib.hid ht
      have HLen := Lib.hid hlen
      clear ht gm gR hlen
      obtain ⟨W1, rfl⟩ : ∃ x : World, x = wr := ⟨_, rfl⟩
      have HO : RowKit.Hid (Ow w w.heap.size 39 3 (.slice (some ⟨W1.heap.size, 0, none⟩) 0 0) 0 [] (W1.alloc (.cells #[] 39))) := Ow.new_ (cs := #[]) HBw.out (Nat.le_refl _) HBw.out.size (Nat.zero_le _) rfl
      clear hbw
      go_wp2
      go_loopw [5, 6] (fun v i wr => ∃ k : Nat, k ≤ L.length ∧ i = .int .i64 k ∧ Ow w w.heap.size 39 3 v (R.take k).length (dartsV (R.take k)) wr) (fun _ i _ => L.length - (intOf i).toNat)
      case atStart => exact ⟨0, Nat.zero_le _, rfl, HO.out⟩
      case round =>
        clear HO
        obtain ⟨k, hk, rfl, how⟩ := hrel
        have HO := Lib.hid how
        by_cases hlt : k < L.length
        · obtain ⟨b, off, rfl, hb, hc⟩ := (HR.out.up how.below how.below.size).darts (by omega)
          have hj : (m + k) % L.length < L.length := Nat.mod_lt _ (by omega)
          have hmod : ((m : Int) + (k : Int)) % (L.length : Int) = (((m + k) % L.length : Nat) : Int) := by rw [Int.natCast_emod, Int.natCast_add]
          have hx := HT.out k hlt
          obtain ⟨j, gj⟩ : ∃ v, (m + k) % L.length = v := ⟨_, rfl⟩
          rw [gj] at hj hmod hx
          obtain ⟨c1, c2, c3⟩ := hc j hj
          obtain ⟨x, gx⟩ : ∃ v, L.getD j (0, 0, 0) = v := ⟨_, rfl⟩
          rw [gx] at c1 c2 c3 hx
          have HX := Lib.hid hx
          have HTk := Lib.hid (take_snocD R k (by rw [HLen.out]; exact hlt))
          have hlk : (R.take k).length ≤ 5864062014634 := by
            have := List.length_take_le k R
            omega
          clear hc how gj gx hx
          go_wp2_with (first
            | (at_builtin
               refine wpList_push rfl (.tmp 31) (.tmp 41) _ rfl _ 39 i0 _ 3 24 Try.underlying40 hi hz0 hz1 hz2 rfl (by decide) _ _ _ rfl (by exact HO.out.up (below1 _ _)) _ (some ⟨wr.heap.size, 0, none⟩) 1 1 (dartsV [x]) rfl (by exact RdS.whole3 (L := [x]) (Whole.new_ _ _ _)) (dartsV_one [x]) (by unfold maxLen; omega) (by omega) ?_
               intro v1 w1 how1 hb1
               have HO1 := Lib.hid how1
               clear how1 hb1))
          go_roundw
          case rel =>
            refine ⟨k + 1, by omega, by go_num, ?_⟩
            rw [HTk.out, HX.out, List.length_append, dartsV_app]
            exact HO1.out
          case measure => simp [intOf]; omega
        · have htk : R.take k = R := List.take_of_length_le (by rw [HLen.out]; omega)
          rw [htk] at HO
          clear how htk
          obtain ⟨A1, c1, hv, hr1⟩ := HO.out.rds
          subst hv
          have HR1 := Lib.hid hr1
          clear hr1
          go_wp2
          go_ret
          rw [GR.out]
          exact ⟨A1, c1, rfl, HR1.out, HO.out.below⟩
end Go.Proofs.Ytpindjknngcccaa

/- ident.May, and the document's own. -/
namespace Go.Proofs.Ytpindjknngcccaa
open Go.RowKit

theorem rmay_any (s n : Int) : Pure 60 #[.agg #[.int .i64 s, .int .i64 n]] (.bool (mayI s n)) := fun w => by
  by_cases h : 1 ≤ s ∧ s ≤ 8 ∧ 1 ≤ n ∧ n ≤ 1048576
  · rw [show mayI s n = true from decide_eq_true h]
    obtain ⟨h1, h2, h3, h4⟩ := h
    go_enter Try.func60, Try.ntmps60
    go_wp2
    go_ret
    exact ⟨rfl, below1 _ _⟩
  · rw [show mayI s n = false from decide_eq_false h]
    by_cases h1 : 1 ≤ s
    · by_cases h2 : s ≤ 8
      · by_cases h3 : 1 ≤ n
        · have h4 : ¬ n ≤ 1048576 := by omega
          clear h
          go_enter Try.func60, Try.ntmps60
          go_wp2
          go_ret
          exact ⟨rfl, below1 _ _⟩
        · clear h
          go_enter Try.func60, Try.ntmps60
          go_wp2
          go_ret
          exact ⟨rfl, below1 _ _⟩
      · clear h
        go_enter Try.func60, Try.ntmps60
        go_wp2
        go_ret
        exact ⟨rfl, below1 _ _⟩
    · clear h
      go_enter Try.func60, Try.ntmps60
      go_wp2
      go_ret
      exact ⟨rfl, below1 _ _⟩


end Go.Proofs.Ytpindjknngcccaa

/- The contracts of diagram.MayLabel and of the document's own. -/
namespace Go.Proofs.Ytpindjknngcccaa
open Go.RowKit
set_option linter.unusedSimpArgs false
set_option linter.unusedVariables false

def okB (c : UInt8) : Bool := decide (32 ≤ c.toNat ∧ c.toNat ≤ 126)
/-- A label that may be. -/
def mayL (s : ByteArray) : Bool := decide (s.size ≤ 16) && s.data.toList.all okB

theorem takeB_snoc (s : ByteArray) (k : Nat) (h : k < s.size) : s.data.toList.take (k + 1) = s.data.toList.take k ++ [s[k]] := by
  rw [List.take_succ_eq_append_getElem (by simpa using h)]; rfl
theorem allB_step (s : ByteArray) (k : Nat) (h : k < s.size) (ha : (s.data.toList.take k).all okB = true) (hk : okB s[k] = true) : (s.data.toList.take (k + 1)).all okB = true := by
  rw [takeB_snoc s k h, List.all_append, ha]
  simp [hk]
theorem allB_not (s : ByteArray) (k : Nat) (h : k < s.size) (hk : okB s[k] = false) : s.data.toList.all okB = false := by
  rw [List.all_eq_false]
  refine ⟨s[k], ?_, by simp [hk]⟩
  show s.data[k] ∈ s.data.toList
  simp
theorem allB_all (s : ByteArray) (k : Nat) (h : s.size ≤ k) (ha : (s.data.toList.take k).all okB = true) : s.data.toList.all okB = true := by
  rwa [List.take_of_length_le (by simpa using h)] at ha

set_option maxRecDepth 100000 in
theorem rmaylabel_any (s : ByteArray) (hs : s.size ≤ maxLen) : Pure 36 #[.string s] (.bool (mayL s)) := fun w => by
  unfold maxLen at hs
  go_enter Try.func36, Try.ntmps36
  go_wp2
  go_loop [3] (fun i => ∃ k : Nat, k ≤ s.size ∧ i = .int .i64 k ∧ (s.data.toList.take k).all okB = true) (fun i => s.size - (intOf i).toNat)
  case atStart => exact ⟨0, Nat.zero_le _, rfl, by simp⟩
  case round =>
    obtain ⟨k, hk, rfl, ha⟩ := hrel
    have HA := Lib.hid ha
    clear ha
    by_cases hlt : k < s.size
    · obtain ⟨c, gc⟩ : ∃ c : UInt8, c = s[k] := ⟨_, rfl⟩
      have HGC := Lib.hid gc
      by_cases c1 : 32 ≤ c.toNat
      · by_cases c2 : c.toNat ≤ 126
        · have q1 : decide ((c.toNat : Int) < 32) = false := decide_eq_false (by omega)
          have q2 : decide ((126 : Int) < (c.toNat : Int)) = false := decide_eq_false (by omega)
          rw [gc] at q1 q2
          have HK : RowKit.Hid (okB c = true) := Lib.hid (by simp [okB]; omega)
          clear c1 c2 gc
          go_wp2
          go_round
          case rel => exact ⟨k + 1, by omega, by go_num, allB_step s k hlt HA.out (HGC.out ▸ HK.out)⟩
          case measure => simp [intOf]; omega
        · have q1 : decide ((c.toNat : Int) < 32) = false := decide_eq_false (by omega)
          have q2 : decide ((126 : Int) < (c.toNat : Int)) = true := decide_eq_true (by omega)
          rw [gc] at q1 q2
          have hr : mayL s = false := by
            have : okB (s[k]'hlt) = false := by rw [← gc]; simp [okB]; omega
            simp [mayL, allB_not s k hlt this]
          have HR := Lib.hid hr
          clear c1 c2 gc hr
          go_wp2
          go_ret
          exact ⟨ret_bool HR.out.symm, Below.refl _ _⟩
      · have q1 : decide ((c.toNat : Int) < 32) = true := decide_eq_true (by omega)
        rw [gc] at q1
        have hr : mayL s = false := by
          have : okB (s[k]'hlt) = false := by rw [← gc]; simp [okB]; omega
          simp [mayL, allB_not s k hlt this]
        have HR := Lib.hid hr
        clear c1 gc hr
        go_wp2
        go_ret
        exact ⟨ret_bool HR.out.symm, Below.refl _ _⟩
    · have hr : mayL s = decide (s.size ≤ 16) := by simp [mayL, allB_all s k (by omega) HA.out]
      by_cases h16 : s.size ≤ 16
      · rw [decide_eq_true h16] at hr
        have HR := Lib.hid hr
        have q : decide ((s.size : Int) ≤ 16) = true := decide_eq_true (by omega)
        clear hr h16
        go_wp2
        go_ret
        exact ⟨ret_bool HR.out.symm, Below.refl _ _⟩
      · rw [decide_eq_false h16] at hr
        have HR := Lib.hid hr
        have q : decide ((s.size : Int) ≤ 16) = false := decide_eq_false (by omega)
        clear hr h16
        go_wp2
        go_ret
        exact ⟨ret_bool HR.out.symm, Below.refl _ _⟩
end Go.Proofs.Ytpindjknngcccaa

/- A diagram in memory: its cells; and as lists. -/
namespace Go.Proofs.Ytpindjknngcccaa
open Go.RowKit Go.Maps
set_option linter.unusedSimpArgs false
set_option linter.unusedVariables false

/-- A slice of darts, and the darts. -/
abbrev Rg := Option Addr × Nat × Nat × List D
/-- A vertex: its name, ring, label, attribute; an edge: its name, label, attribute. -/
abbrev VC := (Int × Int) × Rg × ByteArray × Int
abbrev EC := (Int × Int) × ByteArray × Int
def vC (v : VC) : List Value := [.int .i64 v.1.1, .int .i64 v.1.2, .slice v.2.1.1 v.2.1.2.1 v.2.1.2.2.1, .string v.2.2.1, .int .i64 v.2.2.2]
def eC (e : EC) : List Value := [.int .i64 e.1.1, .int .i64 e.1.2, .string e.2.1, .int .i64 e.2.2]
theorem vC_len (v : VC) : (vC v).length = 5 := rfl
theorem eC_len (e : EC) : (eC e).length = 4 := rfl
theorem vC_one (v : VC) : ∀ u ∈ vC v, u.oneCell' = true := by simp [vC, Value.oneCell']
theorem eC_one (e : EC) : ∀ u ∈ eC e, u.oneCell' = true := by simp [eC, Value.oneCell']
def dC (d : D) : List Value := [.int .i64 d.1, .int .i64 d.2.1, .int .i64 d.2.2]
theorem dC_len (d : D) : (dC d).length = 3 := rfl
theorem dartsV_rows (l : List D) : dartsV l = rowsV dC l := by
  induction l with
  | nil => rfl
  | cons d l ih => rw [dartsV, ih]; rfl
/-- A ring lies where its slice says. -/
def RgOk (w : World) (r : Rg) : Prop := r.2.2.1 ≤ maxLen ∧ RdS w w.heap.size 3 r.1 r.2.1 r.2.2.1 (dartsV r.2.2.2)
/-- A diagram: its two rows. -/
structure DgIn (w : World) (A : Option Addr) (n c : Nat) (Vs : List VC) (B : Option Addr) (m k : Nat) (Es : List EC) : Prop where
  v : RdS w w.heap.size 5 A n c (rowsV vC Vs)
  e : RdS w w.heap.size 4 B m k (rowsV eC Es)
  r : ∀ x ∈ Vs, RgOk w x.2.1
theorem DgIn.below {w w' : World} {A B : Option Addr} {n c m k : Nat} {Vs : List VC} {Es : List EC} (h : DgIn w A n c Vs B m k Es) (hb : Below w.heap.size w w') : DgIn w' A n c Vs B m k Es :=
  ⟨h.v.bl hb, h.e.bl hb, fun x hx => ⟨(h.r x hx).1, (h.r x hx).2.bl hb⟩⟩
def mayA (n : Int) : Bool := decide (-1099511627776 ≤ n ∧ n ≤ 1099511627776)
end Go.Proofs.Ytpindjknngcccaa

/- What a vertex and an edge are asked: name, label, attribute; names that rise. -/
namespace Go.Proofs.Ytpindjknngcccaa
open Go.RowKit
set_option linter.unusedSimpArgs false
set_option linter.unusedVariables false

theorem ret_whole {P : Program} {fn : Func} {R : Ending → World → Prop} {a : Act} {w : World} {p : Tmp} {t : TypeId} (h : fn.results = #[.cell p t]) (g : Nat) {t' : TypeId} {cs : List Value} {d : TypeDesc}
    (hp : a.tmps.getD p undef = .pointer (some ⟨g, 0, none⟩)) (hW : Whole w g t' cs) (hu : P.underlying t = some d) (hd : d.isRow = true) (hi : (P.info? t).map (·.size) = some cs.length)
    (hdf : a.defers = []) (hR : R (.returned (.agg cs.toArray)) w) : bodyPost P fn R .ret a w := by
  refine bodyPost_ret (v := .agg cs.toArray) ?_ hdf hR
  have hl := run_loadVar_mid (P := P) w g 0 t cs d (fun j v hv => by
    have := hW.cell hv
    simpa using this) hu hd hi
  have hp2 := hp
  rw [Array.getD_eq_getD_getElem?] at hp2
  simp [results, h, hp2, asAddr, Sem.run_bind, Result.andThen, hl]

def riseF : Option (Int × Int) → List (Int × Int) → Bool
  | _, [] => true
  | o, x :: r => mayI x.1 x.2 && (match o with | none => true | some y => decide (ordI y.1 y.2 x.1 x.2 < 0)) && riseF (some x) r
end Go.Proofs.Ytpindjknngcccaa

/- all[T]: each of a row may be. -/
namespace Go.Proofs.Ytpindjknngcccaa
open Go.RowKit
set_option linter.unusedSimpArgs false
set_option linter.unusedVariables false

/-- A function of the program is entered. -/
abbrev Ent (k : Nat) : Prop := ∀ (args : Array Value) (W : World), (callFunc k args).run Try.prog W = .ok (.enter k args) W
theorem ent_of {k : Nat} {fn : Func} {c : Code} (hf : Try.prog.funcs[k]? = some fn) (hname : (fn.name == "runtime.NumGoroutine") = false) (hb : fn.body = some c) : Ent k := fun args W => by
  have h1 : fn.name ≠ "runtime.NumGoroutine" := by simpa using hname
  simp [callFunc, Sem.run_bind, hf, hb, h1]
end Go.Proofs.Ytpindjknngcccaa

/- turned: each ring begins with its least dart. -/
namespace Go.Proofs.Ytpindjknngcccaa
open Go.RowKit
set_option linter.unusedSimpArgs false
set_option linter.unusedVariables false

theorem RgOk.below {w w' : World} {r : Rg} (h : RgOk w r) (hb : Below w.heap.size w w') : RgOk w' r := ⟨h.1, h.2.bl hb⟩
def turnOk (v : VC) : Bool := decide (v.2.1.2.2.2 = turnD v.2.1.2.2.2)
end Go.Proofs.Ytpindjknngcccaa

/- A dart as a key; a set of darts. -/
namespace Go.Proofs.Ytpindjknngcccaa
open Go.RowKit Go.Maps
set_option linter.unusedSimpArgs false
set_option linter.unusedVariables false

def wfD (d : D) : Prop := (Lit.int .i64 d.1).wf = true ∧ (Lit.int .i64 d.2.1).wf = true ∧ (Lit.int .i64 d.2.2).wf = true
def kD (d : D) : Lit := .string (keyBytes [.int .i64 d.1, .int .i64 d.2.1, .int .i64 d.2.2])
theorem wide_dart : (match Try.prog.underlying 39 with | some (.array _ _) | some (.struct _) => true | _ => false) = true := by rw [Try.underlying39]
theorem laid_prog : laidOutB Try.prog = true := by kernel_rfl
set_option maxRecDepth 100000 in
theorem law_dart : WideMaps.KeyLaw Try.prog 39 := deep_law_laid laid_prog (m := 3) (by omega) (by show 39 < Try.prog.types.size; rw [show Try.prog.types.size = Try.prog.types.size from rfl]; decide) (by kernel_rfl) wide_dart
theorem keyed_dart : Keyed Try.prog 39 := Keyed.of_law law_dart
theorem lits_dart (m : Nat) (d : D) (h : wfD d) : Try.prog.keyLits (m + 3) 39 (dC d) = some [.int .i64 d.1, .int .i64 d.2.1, .int .i64 d.2.2] := by
  obtain ⟨h1, h2, h3⟩ := h
  have c1 : Try.prog.cellsOf 39 = 3 := by kernel_rfl
  have c2 : Try.prog.cellsOf 35 = 2 := by kernel_rfl
  have c3 : Try.prog.cellsOf 3 = 1 := by kernel_rfl
  have i1 : ∀ (n : Nat) (x : Int), (Lit.int .i64 x).wf = true → Try.prog.keyLits (n + 1) 3 [.int .i64 x] = some [.int .i64 x] := fun n x hx => by simp [Program.keyLits, Try.underlying3, hx]
  have i2 : ∀ n, Try.prog.keyLits (n + 2) 35 [.int .i64 d.1, .int .i64 d.2.1] = some [.int .i64 d.1, .int .i64 d.2.1] := fun n => by
    unfold Program.keyLits
    simp only [Try.underlying35, c2]
    rw [if_pos ⟨rfl, by kernel_rfl⟩]
    simp [c3, i1, h1, h2]
  unfold Program.keyLits
  simp only [Try.underlying39, c1]
  rw [if_pos ⟨rfl, by kernel_rfl⟩]
  simp [c2, c3, i1, i2, h3, dC]
theorem key_dart (d : D) (h : wfD d) : keyOf Try.prog 39 (.agg (dC d).toArray) = some (kD d) := by
  have hk : Try.prog.keyType 39 = true := by kernel_rfl
  have c1 : Try.prog.cellsOf 39 = 3 := by kernel_rfl
  have hf : (Value.agg (dC d).toArray).formed Try.prog 39 = true := by simp [Value.formed, Try.underlying39, c1, dC]
  obtain ⟨m, hm⟩ : ∃ m, Try.prog.types.size + 1 = m + 3 := ⟨Try.prog.types.size - 2, by kernel_rfl⟩
  have hl := lits_dart m d h
  rw [← hm] at hl
  unfold keyOf
  simp only [Try.underlying39, hk, hf, Value.cells, Bool.and_self, if_true]
  rw [hl]
  rfl
theorem kD_inj {a b : D} (ha : wfD a) (hb : wfD b) (h : kD a = kD b) : a = b := by
  have := keyed_dart.inj (key_dart a ha) (by rw [h]; exact key_dart b hb)
  simp [dC] at this
  obtain ⟨a1, a2, a3⟩ := a
  obtain ⟨b1, b2, b3⟩ := b
  simp_all
theorem kD_key {a : D} (ha : wfD a) : WideAt.IsKeyLit (kD a) := keyed_dart.key (key_dart a ha)

/-- The datum is this set of darts. -/
structure SetD {H : Type} (Dt : DataW H) (S : List D) : Prop where
  tidy : Tidy Dt
  nd : S.Nodup
  wf : ∀ d ∈ S, wfD d
  size : Maps.size Dt = S.length
  has : ∀ d, wfD d → Maps.has Dt (kD d) = decide (d ∈ S)
def insD (d : D) (S : List D) : List D := if d ∈ S then S else d :: S
theorem SetD.empty {H : Type} : SetD (.map [] : DataW H) [] := ⟨tidy_empty, List.nodup_nil, by simp, rfl, fun d _ => by simp [Maps.has]⟩
theorem SetD.put {H : Type} {Dt : DataW H} {S : List D} (h : SetD Dt S) (d : D) (hd : wfD d) (u : DataW H) : SetD (Dt.put (kD d) u) (insD d S) := by
  have hm := h.has d hd
  refine ⟨h.tidy.put (kD_key hd) u, ?_, ?_, ?_, ?_⟩
  · unfold insD
    split
    · exact h.nd
    · rename_i hn; exact List.nodup_cons.2 ⟨hn, h.nd⟩
  · intro x hx
    unfold insD at hx
    split at hx
    · exact h.wf x hx
    · rcases List.mem_cons.1 hx with rfl | hx
      · exact hd
      · exact h.wf x hx
  · rw [size_put h.tidy, hm, h.size]
    unfold insD
    split <;> simp_all
  · intro x hx
    by_cases e : x = d
    · subst e
      rw [has_put_same h.tidy.isMap (kD_key hd)]
      unfold insD
      split <;> simp_all
    · rw [has_put_other (fun e' => e (kD_inj hx hd e')), h.has x hx]
      unfold insD
      split <;> simp_all
end Go.Proofs.Ytpindjknngcccaa

/- eachOnce: just the darts of the edges stand in rings, each once. -/
namespace Go.Proofs.Ytpindjknngcccaa
open Go.RowKit Go.Maps
set_option linter.unusedSimpArgs false
set_option linter.unusedVariables false

def onceF : List D → List D → Bool
  | S, [] => decide (S.length = 0)
  | S, x :: r => if x ∈ S then onceF (S.erase x) r else false
def edS : List EC → List D → List D
  | [], S => S
  | e :: r, S => edS r (insD (e.1.1, e.1.2, 1) (insD (e.1.1, e.1.2, 0) S))
def ringsOf (Vs : List VC) : List D := Vs.flatMap (·.2.1.2.2.2)
theorem bel_grown {w W w1 : World} {b : Nat} (h : Below w.heap.size w W) (hg : W.grownBy w1 (some b)) (hb : w.heap.size ≤ b) : Below w.heap.size w w1 :=
  ⟨hg.os.trans h.os, hg.tape.trans h.tape, hg.output.trans h.output, Nat.le_trans h.size hg.size, fun i hi => (hg.block i (Nat.lt_of_lt_of_le hi h.size) (by intro e; cases e; omega)).trans (h.block i hi)⟩
/-- The map in block b of wr is this set of darts. -/
def MapS (wr : World) (b n : Nat) (S : List D) : Prop := ∃ Dt : DataW Unit, wr.ownsMap Try.prog 39 unitElem b n Dt ∧ SetD Dt S
theorem MapS.alloc {w : World} {b n : Nat} {S : List D} (h : MapS w b n S) (o : Obj) : MapS (w.alloc o) b n S := let ⟨Dt, h1, h2⟩ := h; ⟨Dt, h1.alloc o, h2⟩
theorem MapS.mono {w : World} {b n n' : Nat} {S : List D} (h : MapS w b n S) (hn : n ≤ n') : MapS w b n' S := let ⟨Dt, h1, h2⟩ := h; ⟨Dt, h1.mono hn, h2⟩
theorem MapS.lt {w : World} {b n : Nat} {S : List D} (h : MapS w b n S) : b < w.heap.size := let ⟨_, h1, _⟩ := h; h1.lt
section
variable {ops : Array Oper} {rest : List Oper} {o : Oper} {a : Act} {Q : Exit → Act → World → Prop} {w : World}
end
end Go.Proofs.Ytpindjknngcccaa

/- eachOnce: the walk. -/
namespace Go.Proofs.Ytpindjknngcccaa
open Go.RowKit Go.Maps
set_option linter.unusedSimpArgs false
set_option linter.unusedVariables false

theorem ringsOf_cons (v : VC) (r : List VC) : ringsOf (v :: r) = v.2.1.2.2.2 ++ ringsOf r := rfl
end Go.Proofs.Ytpindjknngcccaa

/- Form. -/
namespace Go.Proofs.Ytpindjknngcccaa
open Go.RowKit
set_option linter.unusedSimpArgs false
set_option linter.unusedVariables false

def formB (big b0 b1 b2 b3 b4 b5 b6 b7 : Bool) : Int :=
  if big then 3 else if !(b0 && b1 && b2 && b3) then 10 else if !(b4 && b5) then 4 else if !(b6 && b7) then 1 else 0
/-- What is wrong with a diagram. -/
def formD (Vs : List VC) (Es : List EC) : Int :=
  formB (decide (24 < Vs.length ∨ 40 < Es.length)) (riseF none (Vs.map (·.1))) (riseF none (Es.map (·.1))) (Vs.all turnOk) (onceF (edS Es []) (ringsOf Vs))
    (Vs.all (fun v => mayL v.2.2.1)) (Es.all (fun v => mayL v.2.1)) (Vs.all (fun v => mayA v.2.2.2)) (Es.all (fun v => mayA v.2.2))
end Go.Proofs.Ytpindjknngcccaa

/- The document's examples: loop, shown. -/
namespace Go.Proofs.Ytpindjknngcccaa
open Go.RowKit
set_option linter.unusedSimpArgs false
set_option linter.unusedVariables false

theorem RdS.of_whole {W : World} {g : Nat} {t : TypeId} {cs : List Value} {n size : Nat} (h : Whole W g t cs) (hl : cs.length = n * size) : RdS W W.heap.size size (some ⟨g, 0, none⟩) n n cs :=
  ⟨hl, fun e => (by cases e), Nat.le_refl _, fun a ha _ => (by obtain rfl := Option.some.inj ha; exact h.lt), fun a ha j u hu => (by
    obtain rfl := Option.some.inj ha
    rw [Addr.add_lit]
    simpa using h.cell hu)⟩
theorem RdS.no (W : World) (B size : Nat) : RdS W B size none 0 0 [] := ⟨by simp, fun _ => ⟨rfl, rfl⟩, Nat.le_refl _, fun a h => (by cases h), fun a h => (by cases h)⟩
end Go.Proofs.Ytpindjknngcccaa
