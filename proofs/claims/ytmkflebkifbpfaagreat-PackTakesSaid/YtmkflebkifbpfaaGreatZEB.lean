/- Several texts in one. -/
import Derived.Test.YtmkflebkifbpfaaGreatZEA
import Derived.Deep.QuietTactic
import Derived.BigQuiet
import Derived.LoopTactic
import Derived.Outline
import Derived.Laws.RangeString
import Derived.Laws.RangeAny
import Derived.Maps.OwnSet
import Derived.Deep.MidRow
import Derived.Deep.CutBlock
import Derived.DeepKeys4
import Derived.Laws.ResultCell
/- Rings as lists of darts: turned to their least, searched, changed. No program stands in this text but the cells. -/
set_option linter.unusedSimpArgs false
set_option linter.unusedVariables false
namespace Go.Proofs.YtmkflebkifbpfaaGreat
open Go.RowKit
abbrev D := Int × Int × Int
def ordT (a b : D) : Int := ordD a.1 a.2.1 a.2.2 b.1 b.2.1 b.2.2
/-- The cells of a list of darts. -/
def dartsV : List D → List Value
  | [] => []
  | d :: l => .int .i64 d.1 :: .int .i64 d.2.1 :: .int .i64 d.2.2 :: dartsV l
theorem dartsV_length (l : List D) : (dartsV l).length = l.length * 3 := by
  induction l with
  | nil => rfl
  | cons p l ih => simp [dartsV, ih]; omega
theorem dartsV_app (l m : List D) : dartsV (l ++ m) = dartsV l ++ dartsV m := by
  induction l with
  | nil => rfl
  | cons p l ih => simp [dartsV, ih]
theorem dartsV_take (l : List D) (k : Nat) : dartsV (l.take k) = (dartsV l).take (k * 3) := by
  induction l generalizing k with
  | nil => simp [dartsV]
  | cons p l ih =>
    cases k with
    | zero => simp [dartsV]
    | succ k =>
      rw [show (k + 1) * 3 = k * 3 + 3 by omega]
      simp [dartsV, ih]
theorem dartsV_drop (l : List D) (k : Nat) : dartsV (l.drop k) = (dartsV l).drop (k * 3) := by
  induction l generalizing k with
  | nil => simp [dartsV]
  | cons p l ih =>
    cases k with
    | zero => simp [dartsV]
    | succ k =>
      rw [show (k + 1) * 3 = k * 3 + 3 by omega]
      simp [dartsV, ih]
theorem dartsV_get (l : List D) (k : Nat) (h : k < l.length) : (dartsV l)[k * 3]? = some (.int .i64 (l.getD k (0, 0, 0)).1) ∧ (dartsV l)[k * 3 + 1]? = some (.int .i64 (l.getD k (0, 0, 0)).2.1) ∧ (dartsV l)[k * 3 + 2]? = some (.int .i64 (l.getD k (0, 0, 0)).2.2) := by
  induction l generalizing k with
  | nil => simp at h
  | cons p l ih =>
    cases k with
    | zero => simp [dartsV]
    | succ k =>
      have := ih k (by simpa using h)
      have e1 : (k + 1) * 3 = k * 3 + 3 := by omega
      have e2 : (k + 1) * 3 + 1 = k * 3 + 1 + 3 := by omega
      have e3 : (k + 1) * 3 + 2 = k * 3 + 2 + 3 := by omega
      rw [e2, e3, e1]
      simpa [dartsV] using this
theorem dartsV_one (l : List D) : ∀ u ∈ dartsV l, u.oneCell' = true := by
  induction l with
  | nil => simp [dartsV]
  | cons p l ih =>
    intro u hu
    simp only [dartsV, List.mem_cons] at hu
    rcases hu with rfl | rfl | rfl | hu
    · rfl
    · rfl
    · rfl
    · exact ih u hu
/-- The cells of a slice of darts, as the walk spells them. -/
theorem RdS.darts {w : World} {B n c : Nat} {A : Option Addr} {l : List D} (h : RdS w B 3 A n c (dartsV l)) (hn : 0 < n) :
    ∃ b off, A = some ⟨b, off, none⟩ ∧ b < B ∧ ∀ k, k < l.length → w.cell? ⟨b, off + k * 3, none⟩ = some (.int .i64 (l.getD k (0, 0, 0)).1) ∧ w.cell? ⟨b, off + k * 3 + 1, none⟩ = some (.int .i64 (l.getD k (0, 0, 0)).2.1) ∧ w.cell? ⟨b, off + k * 3 + 2, none⟩ = some (.int .i64 (l.getD k (0, 0, 0)).2.2) := by
  have hl : l.length = n := by
    have := h.len
    rw [dartsV_length] at this
    omega
  cases A with
  | none => exact absurd (h.none_ rfl).1 (by omega)
  | some a =>
    have h0 := h.cell a rfl 0 _ (dartsV_get l 0 (by omega)).1
    have ha : ∃ b off, a = ⟨b, off, none⟩ := by
      obtain ⟨b, off, f⟩ := a
      cases f with
      | none => exact ⟨b, off, rfl⟩
      | some f =>
        simp [Addr.add, World.cell?] at h0
        split at h0 <;> cases h0
    obtain ⟨b, off, rfl⟩ := ha
    refine ⟨b, off, rfl, h.low _ rfl hn, fun k hk => ?_⟩
    obtain ⟨g1, g2, g3⟩ := dartsV_get l k hk
    have e1 := h.cell _ rfl _ _ g1
    have e2 := h.cell _ rfl _ _ g2
    have e3 := h.cell _ rfl _ _ g3
    rw [Addr.add_lit] at e1 e2 e3
    exact ⟨e1, e2, e3⟩
theorem RdS.dlen {w : World} {B n c : Nat} {A : Option Addr} {l : List D} (h : RdS w B 3 A n c (dartsV l)) : l.length = n := by
  have := h.len
  rw [dartsV_length] at this
  omega
/-- A piece of a slice. -/
theorem RdS.piece {w : World} {B n c lo hi cap : Nat} {A : Option Addr} {l : List D} (h : RdS w B 3 A n c (dartsV l)) (h1 : lo ≤ hi) (h2 : hi ≤ n) (h3 : hi ≤ cap) (h4 : cap ≤ c) :
    RdS w B 3 (if cap = lo then A else A.map (·.add (lo * 3))) (hi - lo) (cap - lo) (dartsV ((l.take hi).drop lo)) := by
  have hl := h.dlen
  refine ⟨?_, ?_, by omega, ?_, ?_⟩
  · rw [dartsV_length]
    simp
    omega
  · intro e
    cases A with
    | none =>
      have := h.none_ rfl
      omega
    | some a => split at e <;> cases e
  · intro a ha hlt
    rw [if_neg (by omega)] at ha
    cases A with
    | none => cases ha
    | some a' =>
      obtain rfl := Option.some.inj ha
      show (Addr.add a' (lo * 3)).block < B
      rw [add_block]
      exact h.low a' rfl (by omega)
  · intro a ha j u hu
    have hj : j < (dartsV ((l.take hi).drop lo)).length := by
      rcases Nat.lt_or_ge j (dartsV ((l.take hi).drop lo)).length with h | h
      · exact h
      · rw [List.getElem?_eq_none h] at hu
        cases hu
    rw [dartsV_length] at hj
    simp at hj
    rw [if_neg (by omega)] at ha
    cases A with
    | none => cases ha
    | some a' =>
      obtain rfl := Option.some.inj ha
      rw [dartsV_drop, dartsV_take, List.getElem?_drop, List.getElem?_take] at hu
      split at hu
      · have := h.cell a' rfl _ u hu
        rw [← this]
        congr 1
        show (Addr.add a' (lo * 3)).add j = a'.add (lo * 3 + j)
        unfold Addr.add
        by_cases hi : lo * 3 = 0 <;> by_cases hj : j = 0 <;> simp [hi, hj, Nat.add_assoc]
        all_goals omega
      · cases hu
/-- The place of the least of the first k darts, the first one of these. -/
def leastI (L : List D) : Nat → Nat
  | 0 => 0
  | k + 1 => if ordT (L.getD k (0, 0, 0)) (L.getD (leastI L k) (0, 0, 0)) < 0 then k else leastI L k
theorem leastI_lt (L : List D) (k : Nat) (h : 0 < k) : leastI L k < k := by
  induction k with
  | zero => omega
  | succ k ih =>
    simp only [leastI]
    split
    · omega
    · rcases Nat.eq_zero_or_pos k with h0 | h0
      · subst h0
        simp [leastI]
      · have := ih h0
        omega
theorem leastI_le (L : List D) (k : Nat) : leastI L k ≤ k := by
  rcases Nat.eq_zero_or_pos k with h | h
  · subst h
    simp [leastI]
  · exact Nat.le_of_lt (leastI_lt L k h)
def turnD (L : List D) : List D := L.drop (leastI L L.length) ++ L.take (leastI L L.length)
/-- The place of a dart, -1 if it is not there. -/
def idxD (L : List D) (d : D) : Int := if d ∈ L then (L.idxOf d : Int) else -1
end Go.Proofs.YtmkflebkifbpfaaGreat
/- Darts searched and compared: the contracts of slices.Index, slices.Equal, ring.Index, and of the document's Index and Darts. -/
namespace Go.Proofs.YtmkflebkifbpfaaGreat
open Go.RowKit
theorem eq_dart_run (x y : D) (W : World) : (binOp .eql 49 (.agg #[.int .i64 x.1, .int .i64 x.2.1, .int .i64 x.2.2]) (.agg #[.int .i64 y.1, .int .i64 y.2.1, .int .i64 y.2.2])).run Tryz.prog W = .ok (.bool (decide (x = y))) W := by
  rw [eq_dart]
  congr 2
  rw [Bool.eq_iff_iff]
  obtain ⟨x1, x2, x3⟩ := x
  obtain ⟨y1, y2, y3⟩ := y
  simp [and_assoc]
theorem neq_dart_run (x y : D) (W : World) : (binOp .neq 49 (.agg #[.int .i64 x.1, .int .i64 x.2.1, .int .i64 x.2.2]) (.agg #[.int .i64 y.1, .int .i64 y.2.1, .int .i64 y.2.2])).run Tryz.prog W = .ok (.bool (!decide (x = y))) W := by
  obtain ⟨x1, x2, x3⟩ := x
  obtain ⟨y1, y2, y3⟩ := y
  by_cases h1 : x1 = y1 <;> by_cases h2 : x2 = y2 <;> by_cases h3 : x3 = y3 <;> simp [go_sem, h1, h2, h3]
theorem idxOf_le (L : List D) (d : D) (k : Nat) (h : L.getD k (0, 0, 0) = d) (hk : k < L.length) : L.idxOf d ≤ k := by
  induction L generalizing k with
  | nil => simp at hk
  | cons x L ih =>
    rw [List.idxOf_cons]
    by_cases e : x = d
    · have hb : (x == d) = true := by rw [beq_iff_eq]; exact e
      rw [hb]
      exact Nat.zero_le _
    · have hb : (x == d) = false := by rw [beq_eq_false_iff_ne]; exact e
      rw [hb]
      cases k with
      | zero => exact absurd (by simpa using h) e
      | succ k =>
        have := ih k (by simpa using h) (by simpa using hk)
        show L.idxOf d + 1 ≤ k + 1
        omega
theorem idxD_at {L : List D} {d : D} {k : Nat} (hk : k < L.length) (he : L.getD k (0, 0, 0) = d) (hn : ∀ j, j < k → L.getD j (0, 0, 0) ≠ d) : idxD L d = k := by
  have hm : d ∈ L := by
    rw [← he, List.getD_eq_getElem?_getD, List.getElem?_eq_getElem hk]
    exact List.getElem_mem hk
  have hi : L.idxOf d < L.length := List.idxOf_lt_length_of_mem hm
  have hg : L[L.idxOf d] = d := List.getElem_idxOf hi
  rw [idxD, if_pos hm]
  have h1 : ¬ L.idxOf d < k := fun h => hn _ h (by rw [List.getD_eq_getElem?_getD, List.getElem?_eq_getElem hi]; exact hg)
  have h2 : ¬ k < L.idxOf d := fun h => by
    have h3 := idxOf_le L d k he hk
    omega
  omega
theorem idxD_not {L : List D} {d : D} (hn : ∀ j, j < L.length → L.getD j (0, 0, 0) ≠ d) : idxD L d = -1 := by
  rw [idxD, if_neg]
  intro hm
  have hi : L.idxOf d < L.length := List.idxOf_lt_length_of_mem hm
  exact hn _ hi (by rw [List.getD_eq_getElem?_getD, List.getElem?_eq_getElem hi]; exact List.getElem_idxOf hi)
/-- What holds at each round of Index. -/
def IdxAt (w : World) (L : List D) (d : D) (k : Nat) (x : World) : Prop :=
  (∀ j, j < k → L.getD j (0, 0, 0) ≠ d) ∧ Whole x w.heap.size 49 [.int .i64 d.1, .int .i64 d.2.1, .int .i64 d.2.2] ∧ Below w.heap.size w x
/-- What holds at each round of a comparison. -/
def EqAt (w : World) (L M : List D) (k : Nat) (x : World) : Prop := L.take k = M.take k ∧ Below w.heap.size w x
theorem take_eq_snocD {L M : List D} {k : Nat} (hl : L.length = M.length) (hk : k < L.length) (h : L.take k = M.take k) : L.take (k + 1) = M.take (k + 1) ↔ L.getD k (0, 0, 0) = M.getD k (0, 0, 0) := by
  have hk' : k < M.length := by omega
  rw [List.take_succ_eq_append_getElem hk, List.take_succ_eq_append_getElem hk', h, List.append_right_inj]
  simp [hk, hk']
set_option maxHeartbeats 400000 in
theorem sequal_any (A A' : Option Addr) (n m c c' : Nat) (L M : List D) (w : World) (h : RdS w w.heap.size 3 A n c (dartsV L)) (h' : RdS w w.heap.size 3 A' m c' (dartsV M)) (hn : n ≤ 9223372036854775807) :
    Calls Tryz.prog 69 #[.slice A n c, .slice A' m c'] w fun e w' => e = .returned (.bool (decide (L = M))) ∧ Below w.heap.size w w' := by
  have hl := h.dlen
  have hm := h'.dlen
  by_cases he : n = m
  · subst he
    have HL := Lib.hid hl
    have HM := Lib.hid hm
    have H := Lib.hid h
    have H' := Lib.hid h'
    have hnn : ((n : Int) != (n : Int)) = false := by simp
    clear h h' hl hm
    go_enter Tryz.func69, Tryz.ntmps69
    go_wp2
    go_loopw [13] (fun i wr => ∃ k : Nat, k ≤ n ∧ i = .int .i64 k ∧ EqAt w L M k wr) (fun i _ => n - (intOf i).toNat)
    case atStart => exact ⟨0, Nat.zero_le _, rfl, rfl, Below.refl _ _⟩
    case round =>
      obtain ⟨k, hk, rfl, he, hbw⟩ := hrel
      have HE := Lib.hid he
      have HB := Lib.hid hbw
      clear he
      by_cases hlt : k < n
      · obtain ⟨b, off, rfl, hb, hc⟩ := H.out.darts (by omega)
        obtain ⟨b', off', rfl, hb', hc'⟩ := H'.out.darts (by omega)
        obtain ⟨c1, c2, c3⟩ := hc k (by rw [HL.out]; exact hlt)
        obtain ⟨e1, e2, e3⟩ := hc' k (by rw [HM.out]; exact hlt)
        have d1 := (hbw.cell (p := ⟨b, off + k * 3, none⟩) hb).trans c1
        have d2 := (hbw.cell (p := ⟨b, off + k * 3 + 1, none⟩) hb).trans c2
        have d3 := (hbw.cell (p := ⟨b, off + k * 3 + 2, none⟩) hb).trans c3
        have f1 := (hbw.cell (p := ⟨b', off' + k * 3, none⟩) hb').trans e1
        have f2 := (hbw.cell (p := ⟨b', off' + k * 3 + 1, none⟩) hb').trans e2
        have f3 := (hbw.cell (p := ⟨b', off' + k * 3 + 2, none⟩) hb').trans e3
        obtain ⟨x, gx⟩ : ∃ v, L.getD k (0, 0, 0) = v := ⟨_, rfl⟩
        obtain ⟨y, gy⟩ : ∃ v, M.getD k (0, 0, 0) = v := ⟨_, rfl⟩
        rw [gx] at d1 d2 d3
        rw [gy] at f1 f2 f3
        have GX := Lib.hid gx
        have GY := Lib.hid gy
        have HT := Lib.hid (take_eq_snocD (by rw [HL.out, HM.out]) (by rw [HL.out]; exact hlt) HE.out)
        have hq := neq_dart_run x y
        clear hc hc' c1 c2 c3 e1 e2 e3 gx gy hbw
        by_cases hd : x = y
        · have hd' : (!decide (x = y)) = false := by simpa using hd
          rw [hd'] at hq
          have HD := Lib.hid hd
          clear hd hd'
          go_wp2
          go_quiet (fail)
          go_wp2
          go_roundw
          case rel => exact ⟨k + 1, by omega, by go_num, HT.out.2 (by rw [GX.out, GY.out, HD.out]), ⟨HB.out.os, HB.out.tape, HB.out.output, HB.out.size, HB.out.block⟩⟩
          case measure => simp [intOf]; omega
        · have hd' : (!decide (x = y)) = true := by simpa using hd
          rw [hd'] at hq
          have HD := Lib.hid hd
          clear hd hd'
          go_wp2
          go_quiet (fail)
          go_wp2
          go_ret
          refine ⟨?_, ⟨HB.out.os, HB.out.tape, HB.out.output, HB.out.size, HB.out.block⟩⟩
          have hne : decide (L = M) = false := by
            simp only [decide_eq_false_iff_not]
            rintro rfl
            exact HD.out (by rw [← GX.out, ← GY.out])
          rw [hne]
          rfl
      · go_wp2
        go_ret
        refine ⟨?_, HB.out⟩
        have hee : decide (L = M) = true := by
          simp only [decide_eq_true_eq]
          have h1 := HE.out
          rwa [List.take_of_length_le (by rw [HL.out]; omega), List.take_of_length_le (by rw [HM.out]; omega)] at h1
        rw [hee]
        rfl
  · have e : decide (L = M) = false := by
      simp only [decide_eq_false_iff_not]
      rintro rfl
      omega
    rw [e]
    have h1 : ((n : Int) != (m : Int)) = true := by simp; omega
    clear h h' hl hm e he
    go_enter Tryz.func69, Tryz.ntmps69
    go_wp2
    go_ret
    exact ⟨rfl, Below.refl _ _⟩
set_option maxHeartbeats 400000 in
theorem rdarts_any (A A' : Option Addr) (n m c c' : Nat) (L M : List D) (w : World) (h : RdS w w.heap.size 3 A n c (dartsV L)) (h' : RdS w w.heap.size 3 A' m c' (dartsV M)) (hn : n ≤ 9223372036854775807) :
    Calls Tryz.prog 23 #[.slice A n c, .slice A' m c'] w fun e w' => e = .returned (.bool (decide (L = M))) ∧ Below w.heap.size w w' := by
  have hl := h.dlen
  have hm := h'.dlen
  by_cases he : n = m
  · subst he
    have HL := Lib.hid hl
    have HM := Lib.hid hm
    have H := Lib.hid h
    have H' := Lib.hid h'
    have hnn : ((n : Int) != (n : Int)) = false := by simp
    clear h h' hl hm
    go_enter Tryz.func23, Tryz.ntmps23
    go_wp2
    go_loopw [5] (fun i wr => ∃ k : Nat, k ≤ n ∧ i = .int .i64 k ∧ EqAt w L M k wr) (fun i _ => n - (intOf i).toNat)
    case atStart => exact ⟨0, Nat.zero_le _, rfl, rfl, Below.refl _ _⟩
    case round =>
      obtain ⟨k, hk, rfl, he, hbw⟩ := hrel
      have HE := Lib.hid he
      have HB := Lib.hid hbw
      clear he
      by_cases hlt : k < n
      · obtain ⟨b, off, rfl, hb, hc⟩ := H.out.darts (by omega)
        obtain ⟨b', off', rfl, hb', hc'⟩ := H'.out.darts (by omega)
        obtain ⟨c1, c2, c3⟩ := hc k (by rw [HL.out]; exact hlt)
        obtain ⟨e1, e2, e3⟩ := hc' k (by rw [HM.out]; exact hlt)
        have d1 := (hbw.cell (p := ⟨b, off + k * 3, none⟩) hb).trans c1
        have d2 := (hbw.cell (p := ⟨b, off + k * 3 + 1, none⟩) hb).trans c2
        have d3 := (hbw.cell (p := ⟨b, off + k * 3 + 2, none⟩) hb).trans c3
        have f1 := (hbw.cell (p := ⟨b', off' + k * 3, none⟩) hb').trans e1
        have f2 := (hbw.cell (p := ⟨b', off' + k * 3 + 1, none⟩) hb').trans e2
        have f3 := (hbw.cell (p := ⟨b', off' + k * 3 + 2, none⟩) hb').trans e3
        obtain ⟨x, gx⟩ : ∃ v, L.getD k (0, 0, 0) = v := ⟨_, rfl⟩
        obtain ⟨y, gy⟩ : ∃ v, M.getD k (0, 0, 0) = v := ⟨_, rfl⟩
        rw [gx] at d1 d2 d3
        rw [gy] at f1 f2 f3
        have GX := Lib.hid gx
        have GY := Lib.hid gy
        have HT := Lib.hid (take_eq_snocD (by rw [HL.out, HM.out]) (by rw [HL.out]; exact hlt) HE.out)
        have hq := neq_dart_run x y
        clear hc hc' c1 c2 c3 e1 e2 e3 gx gy hbw
        by_cases hd : x = y
        · have hd' : (!decide (x = y)) = false := by simpa using hd
          rw [hd'] at hq
          have HD := Lib.hid hd
          clear hd hd'
          go_wp2
          go_quiet (fail)
          go_wp2
          go_roundw
          case rel => exact ⟨k + 1, by omega, by go_num, HT.out.2 (by rw [GX.out, GY.out, HD.out]), ⟨HB.out.os, HB.out.tape, HB.out.output, HB.out.size, HB.out.block⟩⟩
          case measure => simp [intOf]; omega
        · have hd' : (!decide (x = y)) = true := by simpa using hd
          rw [hd'] at hq
          have HD := Lib.hid hd
          clear hd hd'
          go_wp2
          go_quiet (fail)
          go_wp2
          go_ret
          refine ⟨?_, ⟨HB.out.os, HB.out.tape, HB.out.output, HB.out.size, HB.out.block⟩⟩
          have hne : decide (L = M) = false := by
            simp only [decide_eq_false_iff_not]
            rintro rfl
            exact HD.out (by rw [← GX.out, ← GY.out])
          rw [hne]
          rfl
      · go_wp2
        go_ret
        refine ⟨?_, HB.out⟩
        have hee : decide (L = M) = true := by
          simp only [decide_eq_true_eq]
          have h1 := HE.out
          rwa [List.take_of_length_le (by rw [HL.out]; omega), List.take_of_length_le (by rw [HM.out]; omega)] at h1
        rw [hee]
        rfl
  · have e : decide (L = M) = false := by
      simp only [decide_eq_false_iff_not]
      rintro rfl
      omega
    rw [e]
    have h1 : ((n : Int) != (m : Int)) = true := by simp; omega
    clear h h' hl hm e he
    go_enter Tryz.func23, Tryz.ntmps23
    go_wp2
    go_ret
    exact ⟨rfl, Below.refl _ _⟩
end Go.Proofs.YtmkflebkifbpfaaGreat
/- Rings turned to their least: the contract of ring.turned. -/
namespace Go.Proofs.YtmkflebkifbpfaaGreat
open Go.RowKit
theorem info_dart : (Tryz.prog.info? 49).map (fun i => (i.zero, i.size, i.bytes)) = some (some (.agg #[.int .i64 0, .int .i64 0, .int .i64 0]), 3, 24) := by kernel_rfl
/-- A call that answers a slice that reads as these darts, and leaves all that was there as it was. -/
def GivesR (w : World) (L : List D) (e : Ending) (w' : World) : Prop :=
  ∃ A c, e = .returned (.slice A L.length c) ∧ RdS w' w'.heap.size 3 A L.length c (dartsV L) ∧ Below w.heap.size w w'
/-- The parts of a ring, as they lie in a slice of slices. -/
structure Parts (w : World) (A : Option Addr) (n : Nat) (Ps : List (List D)) : Prop where
  len : Ps.length = n
  part : ∀ k, k < n → ∃ b off A' c', A = some ⟨b, off, none⟩ ∧ b < w.heap.size ∧ w.cell? ⟨b, off + k, none⟩ = some (.slice A' (Ps.getD k []).length c') ∧ RdS w w.heap.size 3 A' (Ps.getD k []).length c' (dartsV (Ps.getD k []))
theorem Parts.up {w w' : World} {A : Option Addr} {n : Nat} {Ps : List (List D)} (h : Parts w A n Ps) (hb : Below w.heap.size w w') : Parts w' A n Ps :=
  ⟨h.len, fun k hk => by
    obtain ⟨b, off, A', c', e, hb1, hc, hr⟩ := h.part k hk
    exact ⟨b, off, A', c', e, Nat.lt_of_lt_of_le hb1 hb.size, (hb.cell hb1).trans hc, hr.up hb hb.size⟩⟩
theorem flat_take (Ps : List (List D)) (k : Nat) (hk : k < Ps.length) : (Ps.take (k + 1)).flatten = (Ps.take k).flatten ++ Ps.getD k [] := by
  rw [List.take_succ_eq_append_getElem hk, List.flatten_append]
  simp [hk]
theorem flat_le (Ps : List (List D)) (k : Nat) : (Ps.take k).flatten.length ≤ Ps.flatten.length := by
  conv => rhs; rw [← List.take_append_drop k Ps, List.flatten_append, List.length_append]
  omega
theorem elem_darts : Tryz.prog.underlying 45 = some (.slice (Tryz.prog.elem 45)) := by kernel_rfl
theorem size_darts (W : World) : (sizeOf (Tryz.prog.elem 45)).run Tryz.prog W = .ok 3 W := by kernel_rfl
/-- l[lo:len(l):len(l)]. -/
theorem sl_lhm (A : Option Addr) (n c lo : Nat) (h1 : lo ≤ n) (h2 : n ≤ c) : ∃ X, (∀ W, (Instr.slice 45 (.slice A n c) (some (.int .i64 (lo : Int))) (some (.int .i64 (n : Int))) (some (.int .i64 (n : Int)))).run Tryz.prog W = .ok (.slice X (n - lo) (n - lo)) W) ∧
    ∀ W B L, RdS W B 3 A n c (dartsV L) → RdS W B 3 X (n - lo) (n - lo) (dartsV (L.drop lo)) := by
  refine ⟨if n = lo then A else A.map (·.add (lo * 3)), fun W => ?_, fun W B L h => ?_⟩
  · rw [run_slice_lhm W 45 A n c elem_darts .i64 .i64 .i64 lo n n (by omega) (by omega) (by omega) (by omega), size_darts]
    simp [sliced, Result.andThen]
  · have := h.piece h1 (Nat.le_refl n) (Nat.le_refl n) h2
    rwa [List.take_of_length_le (by rw [h.dlen]; omega)] at this
/-- l[:hi]. -/
theorem sl_h (A : Option Addr) (n c hi : Nat) (h1 : hi ≤ n) (h2 : n ≤ c) : ∃ X, (∀ W, (Instr.slice 45 (.slice A n c) none (some (.int .i64 (hi : Int))) none).run Tryz.prog W = .ok (.slice X hi c) W) ∧
    ∀ W B L, RdS W B 3 A n c (dartsV L) → RdS W B 3 X hi c (dartsV (L.take hi)) := by
  refine ⟨if c = 0 then A else A.map (·.add (0 * 3)), fun W => ?_, fun W B L h => ?_⟩
  · rw [run_slice_h W 45 A n c elem_darts .i64 hi (by omega) (by omega), size_darts]
    simp [sliced, Result.andThen]
  · have := h.piece (lo := 0) (Nat.zero_le _) h1 (Nat.le_trans h1 h2) (Nat.le_refl c)
    simpa using this
set_option maxRecDepth 100000 in
set_option maxHeartbeats 1000000 in
theorem turned_any (A : Option Addr) (n c : Nat) (Ps : List (List D)) (w : World) (h : Parts w A n Ps) (hn : n ≤ 100) (hm : Ps.flatten.length ≤ 1000000) :
    Calls Tryz.prog 87 #[.slice A n c] w (GivesR w (turnD Ps.flatten)) := by
  obtain ⟨i0, hi, hz0, hz1, hz2⟩ := info_parts info_dart
  have H := Lib.hid h
  clear h
  go_enter Tryz.func87, Tryz.ntmps87
  go_wp2
  go_loopw [3, 11] (fun v i wr => ∃ k : Nat, k ≤ n ∧ i = .int .i64 k ∧ Ow w w.heap.size 49 3 v (Ps.take k).flatten.length (dartsV (Ps.take k).flatten) wr) (fun _ i _ => n - (intOf i).toNat)
  case atStart => exact ⟨0, Nat.zero_le _, rfl, by simpa [dartsV] using Ow.nil_ (Below.refl _ w) (Nat.le_refl _) (Nat.le_refl _)⟩
  case round =>
    obtain ⟨k, hk, rfl, how⟩ := hrel
    have HO := Lib.hid how
    by_cases hlt : k < n
    · obtain ⟨b, off, A', c', rfl, hb, hc, hr⟩ := (H.out.up (how.below)).part k hlt
      have HR := Lib.hid hr
      have HF := Lib.hid (flat_take Ps k (by have := H.out.len; omega))
      have hle : ((Ps.take k).flatten.length + (Ps.getD k []).length) ≤ 1000000 := by
        have := flat_le Ps (k + 1)
        rw [HF.out, List.length_append] at this
        omega
      clear how hr
      obtain ⟨P, gP⟩ : ∃ v, Ps.getD k [] = v := ⟨_, rfl⟩
      rw [gP] at hc HR HF hle
      clear gP
      go_wp2_with (first
        | (at_builtin
           refine wpList_push rfl (.tmp 15) (.tmp 16) _ rfl _ 49 i0 _ 3 24 Tryz.underlying45 hi hz0 hz1 hz2 rfl (by decide) _ _ _ rfl (by exact HO.out) _ _ _ _ _ rfl (by exact HR.out) (dartsV_one P) (by unfold maxLen; omega) (by omega) ?_
           intro v1 w1 how1 hb1
           have HO1 := Lib.hid how1
           clear how1))
      go_roundw
      case rel =>
        refine ⟨k + 1, by omega, by go_num, ?_⟩
        rw [HF.out, List.length_append, dartsV_app]
        exact HO1.out
      case measure => simp [intOf]; omega
    · have hkn : k = n := by omega
      have htk : Ps.take k = Ps := List.take_of_length_le (by have := H.out.len; omega)
      rw [htk] at HO
      clear how htk hkn
      obtain ⟨L, gL⟩ : ∃ v, Ps.flatten = v := ⟨_, rfl⟩
      rw [gL] at HO hm
      have GL := Lib.hid gL
      clear gL
      obtain ⟨A1, c1, hv, hr1⟩ := HO.out.rds
      subst hv
      have HR := Lib.hid hr1
      clear hr1
      have HB := Lib.hid HO.out.below
      clear HO H
      obtain ⟨W1, rfl⟩ : ∃ x : World, x = wr := ⟨_, rfl⟩
      go_wp2
      go_loopw [6, 21] (fun lv i wr => ∃ k : Nat, k ≤ L.length ∧ i = .int .i64 k ∧ lv = .int .i64 (leastI L k : Int) ∧ Below W1.heap.size W1 wr) (fun _ i _ => L.length - (intOf i).toNat)
      case atStart => exact ⟨0, Nat.zero_le _, rfl, rfl, Below.refl _ _⟩
      case round =>
        obtain ⟨k2, hk2, rfl, rfl, hbw⟩ := hrel
        have HBw := Lib.hid hbw
        by_cases hlt2 : k2 < L.length
        · obtain ⟨b, off, rfl, hb, hc⟩ := (HR.out.up hbw hbw.size).darts (by omega)
          obtain ⟨d1, d2, d3⟩ := hc k2 hlt2
          have hlm := leastI_le L k2
          have hlm2 : leastI L k2 < L.length := by omega
          obtain ⟨e1, e2, e3⟩ := hc (leastI L k2) hlm2
          have hs : leastI L (k2 + 1) = if ordT (L.getD k2 (0, 0, 0)) (L.getD (leastI L k2) (0, 0, 0)) < 0 then k2 else leastI L k2 := rfl
          obtain ⟨m, gm⟩ : ∃ v, leastI L k2 = v := ⟨_, rfl⟩
          rw [gm] at e1 e2 e3 hlm hlm2 hs ⊢
          obtain ⟨x, gx⟩ : ∃ v, L.getD k2 (0, 0, 0) = v := ⟨_, rfl⟩
          obtain ⟨y, gy⟩ : ∃ v, L.getD m (0, 0, 0) = v := ⟨_, rfl⟩
          rw [gx] at d1 d2 d3 hs
          rw [gy] at e1 e2 e3 hs
          have HOr := orderdart_any x.1 x.2.1 x.2.2 y.1 y.2.1 y.2.2
          have ho : ordD x.1 x.2.1 x.2.2 y.1 y.2.1 y.2.2 = ordT x y := rfl
          obtain ⟨ov, gov⟩ : ∃ v, ordT x y = v := ⟨_, rfl⟩
          rw [ho, gov] at HOr
          rw [gov] at hs
          have HOr' := Lib.hid HOr
          have HS := Lib.hid hs
          clear hc hbw gm gx gy ho gov HOr hs
          go_upto_region 11 with fail
          obtain ⟨X, gX⟩ : ∃ v, wr.alloc (.cells #[.int .i64 x.1, .int .i64 x.2.1, .int .i64 x.2.2] 49) = v := ⟨_, rfl⟩
          have hXb : Below wr.heap.size wr X := by rw [← gX]; exact below1 _ _
          have hX : Whole X wr.heap.size 49 [.int .i64 x.1, .int .i64 x.2.1, .int .i64 x.2.2] := by rw [← gX]; exact Whole.new_ wr _ _
          obtain ⟨g, gg⟩ : ∃ v, wr.heap.size = v := ⟨_, rfl⟩
          rw [gX, gg]
          rw [gg] at hX hXb
          have f0 : ∀ w', Kept Nil_ X.drew w' → w'.cell? ⟨g, 0, none⟩ = some (.int .i64 x.1) := fun w' h => h.nil_cell (hX.cell rfl)
          have f1 : ∀ w', Kept Nil_ X.drew w' → w'.cell? ⟨g, 1, none⟩ = some (.int .i64 x.2.1) := fun w' h => h.nil_cell (hX.cell rfl)
          have f2 : ∀ w', Kept Nil_ X.drew w' → w'.cell? ⟨g, 2, none⟩ = some (.int .i64 x.2.2) := fun w' h => h.nil_cell (hX.cell rfl)
          have f3 : ∀ w', Kept Nil_ X.drew w' → w'.cell? ⟨b, off + m * 3, none⟩ = some (.int .i64 y.1) := fun w' h => h.nil_cell ((hXb.cell (by rw [← gg]; exact hb)).trans e1)
          have f4 : ∀ w', Kept Nil_ X.drew w' → w'.cell? ⟨b, off + m * 3 + 1, none⟩ = some (.int .i64 y.2.1) := fun w' h => h.nil_cell ((hXb.cell (by rw [← gg]; exact hb)).trans e2)
          have f5 : ∀ w', Kept Nil_ X.drew w' → w'.cell? ⟨b, off + m * 3 + 2, none⟩ = some (.int .i64 y.2.2) := fun w' h => h.nil_cell ((hXb.cell (by rw [← gg]; exact hb)).trans e3)
          have hE : RowKit.Hid (Below W1.heap.size W1 X) := HBw.out.trans ((show Below wr.heap.size wr X by rw [gg]; exact hXb).mono HBw.out.size)
          clear hX hXb gX gg d1 d2 d3 e1 e2 e3
          by_cases ho : ov < 0
          · rw [if_pos ho] at HS
            refine wp_region_reg (Nil_) (by kernel_rfl) ?_
            refine opR_ 0 26 (v := ?_) ?_ ?_; rotate_left
            · intro w' hw'; go_simp; (try with_reducible rfl)
            simp only [st0_, st1_]
            refine opR_ 1 27 (v := ?_) ?_ ?_; rotate_left
            · intro w' hw'; go_simp; (try with_reducible rfl)
            simp only [st0_, st1_]
            refine opR_ 2 28 (v := ?_) ?_ ?_; rotate_left
            · intro w' hw'; go_simp; (try with_reducible rfl)
            simp only [st0_, st1_]
            refine opR_ 3 29 (v := ?_) ?_ ?_; rotate_left
            · intro w' hw'; go_simp; (try with_reducible rfl)
            simp only [st0_, st1_]
            refine opR_ 4 30 (v := ?_) ?_ ?_; rotate_left
            · intro w' hw'; go_simp; (try with_reducible rfl)
            simp only [st0_, st1_]
            refine opX_ 5 31 ?_
            apply Exists.intro
            apply And.intro
            · apply yr_call; rfl; rotate_left; intro w' hw'; exact HOr'.out w'; intro w'; go_simp
            simp only [st0_, st1_]
            refine opR_ 6 32 (v := ?_) ?_ ?_; rotate_left
            · intro w' hw'; go_simp; (try with_reducible rfl)
            simp only [st0_, st1_]
            refine wpR_done (by kernel_rfl) ?_ _
            intro w' hw'
            have hE2 : RowKit.Hid (Below W1.heap.size W1 w') := (hE.out.drew).trans (hw'.mono (by have := hE.out.size; simpa using this))
            clear f0 f1 f2 f3 f4 f5 hw'
            go_wp2
            go_roundw
            case rel => exact ⟨k2 + 1, by omega, by go_num, by rw [HS.out], hE2.out⟩
            case measure => simp [intOf]; omega
          · rw [if_neg ho] at HS
            refine wp_region_reg (Nil_) (by kernel_rfl) ?_
            refine opR_ 0 26 (v := ?_) ?_ ?_; rotate_left
            · intro w' hw'; go_simp; (try with_reducible rfl)
            simp only [st0_, st1_]
            refine opR_ 1 27 (v := ?_) ?_ ?_; rotate_left
            · intro w' hw'; go_simp; (try with_reducible rfl)
            simp only [st0_, st1_]
            refine opR_ 2 28 (v := ?_) ?_ ?_; rotate_left
            · intro w' hw'; go_simp; (try with_reducible rfl)
            simp only [st0_, st1_]
            refine opR_ 3 29 (v := ?_) ?_ ?_; rotate_left
            · intro w' hw'; go_simp; (try with_reducible rfl)
            simp only [st0_, st1_]
            refine opR_ 4 30 (v := ?_) ?_ ?_; rotate_left
            · intro w' hw'; go_simp; (try with_reducible rfl)
            simp only [st0_, st1_]
            refine opX_ 5 31 ?_
            apply Exists.intro
            apply And.intro
            · apply yr_call; rfl; rotate_left; intro w' hw'; exact HOr'.out w'; intro w'; go_simp
            simp only [st0_, st1_]
            refine opR_ 6 32 (v := ?_) ?_ ?_; rotate_left
            · intro w' hw'; go_simp; (try with_reducible rfl)
            simp only [st0_, st1_]
            refine wpR_done (by kernel_rfl) ?_ _
            intro w' hw'
            have hE2 : RowKit.Hid (Below W1.heap.size W1 w') := (hE.out.drew).trans (hw'.mono (by have := hE.out.size; simpa using this))
            clear f0 f1 f2 f3 f4 f5 hw'
            go_wp2
            go_roundw
            case rel => exact ⟨k2 + 1, by omega, by go_num, by rw [HS.out], hE2.out⟩
            case measure => simp [intOf]; omega
        · have hkl : k2 = L.length := by omega
          subst hkl
          have hlm := leastI_le L L.length
          have ht : turnD L = L.drop (leastI L L.length) ++ L.take (leastI L L.length) := rfl
          have hm0 : 0 < L.length → leastI L L.length < L.length := fun h => leastI_lt L L.length h
          obtain ⟨m, gm⟩ : ∃ v, leastI L L.length = v := ⟨_, rfl⟩
          rw [gm] at hlm ht hm0 ⊢
          have HT := Lib.hid ht
          obtain ⟨X1, hs1, hx1⟩ := sl_lhm A1 L.length c1 m hlm HR.out.le
          obtain ⟨X2, hs2, hx2⟩ := sl_h A1 L.length c1 m hlm HR.out.le
          have RX1 := Lib.hid (fun W B => hx1 W B L)
          have RX2 := Lib.hid (fun W B => hx2 W B L)
          clear ht gm hx1 hx2 hbw
          go_upto_region 14 with fail
          have hE : RowKit.Hid (Below W1.heap.size W1 wr.drew) := HBw.out.drew
          have RR := Lib.hid (HR.out.up hE.out hE.out.size)
          refine wp_region_reg (Nil_) (by kernel_rfl) ?_
          refine opR_ 0 35 (v := ?_) ?_ ?_; rotate_left
          · intro w' hw'; go_simp; (try with_reducible rfl)
          simp only [st0_, st1_]
          refine opR_ 1 36 (v := ?_) ?_ ?_; rotate_left
          · intro w' hw'; go_simp; (try with_reducible rfl)
          simp only [st0_, st1_]
          refine opR_ 2 37 (v := ?_) ?_ ?_; rotate_left
          · intro w' hw'; go_simp; (try with_reducible rfl)
          simp only [st0_, st1_]
          refine opR_ 3 38 (v := ?_) ?_ ?_; rotate_left
          · intro w' hw'; go_simp; (try with_reducible rfl)
          simp only [st0_, st1_]
          refine opR_ 4 39 (v := ?_) ?_ ?_; rotate_left
          · intro w' hw'; go_simp; (try with_reducible rfl)
          simp only [st0_, st1_]
          refine opR_ 5 40 (v := ?_) ?_ ?_; rotate_left
          · intro w' hw'; go_simp; (try with_reducible rfl)
          simp only [st0_, st1_]
          refine opR_ 6 41 (v := ?_) ?_ ?_; rotate_left
          · intro w' hw'; go_simp; (try with_reducible rfl)
          simp only [st0_, st1_]
          refine opR_ 7 42 (v := ?_) ?_ ?_; rotate_left
          · intro w' hw'; go_simp; (try with_reducible rfl)
          simp only [st0_, st1_]
          refine opR_ 8 43 (v := ?_) ?_ ?_; rotate_left
          · intro w' hw'; go_simp; (try with_reducible rfl)
          simp only [st0_, st1_]
          refine opR_ 9 44 (v := ?_) ?_ ?_; rotate_left
          · intro w' hw'; go_simp; (try with_reducible rfl)
          simp only [st0_, st1_]
          apply wpR_run 10 (some 45)
          · rfl
          · rfl
          · kernel_rfl
          · rfl
          intro w' hw'
          have HG : ∃ A3 c3 w'', (Builtin.append_ #[45, 45] 45 #[.slice X1 (L.length - m) (L.length - m), .slice X2 m c1]).run Tryz.prog w' = .ok (.slice A3 L.length c3) w'' ∧ RdS w'' w''.heap.size 3 A3 L.length c3 (dartsV (L.drop m ++ L.take m)) ∧ Below w'.heap.size w' w'' := by
            have r1 := RX1.out w' _ (RR.out.up hw' hw'.size)
            have r2 := RX2.out w' _ (RR.out.up hw' hw'.size)
            by_cases h0 : m = 0
            · subst h0
              refine ⟨X1, L.length, w', ?_, ?_, Below.refl _ _⟩
              · have := run_append_none (P := Tryz.prog) w' 45 45 49 i0 Tryz.underlying45 hi X1 X2 (L.length - 0) (L.length - 0) c1 (Nat.le_refl _)
                simpa using this
              · simpa using r1
            · obtain ⟨cap, w'', hr, hown, hb⟩ := run_append_full (P := Tryz.prog) w' 45 45 49 i0 _ 3 24 Tryz.underlying45 hi hz0 hz1 hz2 rfl (by decide) _ _ X1 X2 (L.length - m) m c1 _ _ r1 r2 (by omega) (by have := hm0 (by omega); omega) (by unfold maxLen; omega) (by omega)
              obtain ⟨A3, c3, hv, hr3⟩ := RdS.of_own hown
              rw [show L.length - m + m = L.length by omega] at hr hv hr3
              rw [hv] at hr
              rw [← dartsV_app] at hr3
              exact ⟨A3, c3, w'', hr, hr3, hb⟩
          obtain ⟨A3, c3, w3, hrun, hr3, hb3⟩ := HG
          have HG : RowKit.Hid (∃ A c, Value.slice A3 L.length c3 = .slice A L.length c ∧ RdS w3 w3.heap.size 3 A L.length c (dartsV (L.drop m ++ L.take m)) ∧ Below w.heap.size w w3) := by
            have e1 := HB.out
            have e2 := hE.out
            have h1 : Below w.heap.size w w' := (e1.trans (e2.mono e1.size)).trans (hw'.mono (Nat.le_trans e1.size e2.size))
            exact ⟨A3, c3, rfl, hr3, h1.trans (hb3.mono h1.size)⟩
          refine ⟨_, w3, exec_append rfl rfl rfl hrun, Kept.of_below hb3, ?_⟩
          clear hrun hr3 hb3 hw'
          simp only [Act.put, stA_, st0_, st1_]
          refine opR_ 11 2 (v := ?_) ?_ ?_; rotate_left
          · intro w' hw'; go_simp; (try with_reducible rfl)
          simp only [st0_, st1_]
          refine wpR_done (by kernel_rfl) ?_ _
          intro w' hw'
          go_wp2
          go_ret
          have hG := HG.out
          obtain ⟨A3, c3, hv, hr3, hb3⟩ := hG
          have hlen : (turnD L).length = L.length := by rw [HT.out]; simp; omega
          refine ⟨A3, c3, ?_, ?_, ?_⟩
          · rw [GL.out, hlen]
            exact congrArg _ hv
          · rw [GL.out, hlen, HT.out]
            exact hr3.up hw' hw'.size
          · exact hb3.trans (hw'.mono hb3.size)
end Go.Proofs.YtmkflebkifbpfaaGreat
/- Rings turned, searched along: the contracts of ring.Turn, along, Next, Prev; and of ring.Same. -/
namespace Go.Proofs.YtmkflebkifbpfaaGreat
open Go.RowKit
theorem turnD_length (L : List D) : (turnD L).length = L.length := by
  have := leastI_le L L.length
  simp [turnD]
  omega
theorem parts1 {w : World} {g n c : Nat} {t : TypeId} {A : Option Addr} {L : List D} (hg : Whole w g t [.slice A n c]) (hr : RdS w w.heap.size 3 A n c (dartsV L)) : Parts w (some ⟨g, 0, none⟩) 1 [L] := by
  have := hr.dlen
  subst this
  refine ⟨rfl, fun k hk => ?_⟩
  obtain rfl : k = 0 := by omega
  exact ⟨g, 0, A, c, rfl, hg.lt, hg.cell rfl, hr⟩
theorem turn_of (A : Option Addr) (n c : Nat) (L : List D) (w : World) (g : Nat) (t : TypeId) (hg : Whole w g t [.slice A n c]) (hr : RdS w w.heap.size 3 A n c (dartsV L)) (hn : n ≤ 1000000) :
    Calls Tryz.prog 87 #[.slice (some ⟨g, 0, none⟩) 1 1] w (GivesR w (turnD L)) := by
  have h := turned_any (some ⟨g, 0, none⟩) 1 1 [L] w (parts1 hg hr) (by omega) (by have := hr.dlen; simp; omega)
  simpa using h
theorem turn_any (A : Option Addr) (n c : Nat) (L : List D) (w : World) (h : RdS w w.heap.size 3 A n c (dartsV L)) (hn : n ≤ 1000000) :
    Calls Tryz.prog 70 #[.slice A n c] w (GivesR w (turnD L)) := by
  have HT := Lib.hid (fun W g t hg hr => turn_of A n c L W g t hg hr hn)
  have H := Lib.hid h
  clear h
  go_enter Tryz.func70, Tryz.ntmps70
  go_wp2_with (go_at_call 87; refine (HT.out _ _ _ (by exact Whole.new_ w _ _) (by exact H.out.up (below1 _ _) (by simp))).mono ?_; rintro e w2 ⟨A2, c2, rfl, hr2, hb2⟩)
  go_ret
  exact ⟨A2, c2, rfl, hr2, below_after1 hb2⟩
theorem RdS.whole3 {w : World} {g : Nat} {t : TypeId} {L : List D} (hw : Whole w g t (dartsV L)) : RdS w w.heap.size 3 (some ⟨g, 0, none⟩) L.length L.length (dartsV L) :=
  ⟨dartsV_length L, fun e => (by cases e), Nat.le_refl _, fun a e _ => (by obtain rfl := Option.some.inj e; exact hw.lt), fun a e j u hj => (by
    obtain rfl := Option.some.inj e
    rw [Addr.add_lit]
    simpa using hw.cell hj)⟩
end Go.Proofs.YtmkflebkifbpfaaGreat
/- ident.May, and the document's own. -/
namespace Go.Proofs.YtmkflebkifbpfaaGreat
open Go.RowKit
theorem may_yes (s n : Int) (w : World) (h1 : 1 ≤ s) (h2 : s ≤ 8) (h3 : 1 ≤ n) (h4 : n ≤ 1048576) :
    Calls Tryz.prog 66 #[.agg #[.int .i64 s, .int .i64 n]] w fun e w' => e = .returned (.bool true) ∧ Below w.heap.size w w' := by
  go_enter Tryz.func66, Tryz.ntmps66
  go_wp2
  go_ret
  exact ⟨rfl, below1 _ _⟩
theorem may_no (s n : Int) (w : World) (h : ¬ (1 ≤ s ∧ s ≤ 8 ∧ 1 ≤ n ∧ n ≤ 1048576)) :
    Calls Tryz.prog 66 #[.agg #[.int .i64 s, .int .i64 n]] w fun e w' => e = .returned (.bool false) ∧ Below w.heap.size w w' := by
  by_cases h1 : 1 ≤ s
  · by_cases h2 : s ≤ 8
    · by_cases h3 : 1 ≤ n
      · have h4 : ¬ n ≤ 1048576 := by omega
        go_enter Tryz.func66, Tryz.ntmps66
        go_wp2
        go_ret
        exact ⟨rfl, below1 _ _⟩
      · clear h
        go_enter Tryz.func66, Tryz.ntmps66
        go_wp2
        go_ret
        exact ⟨rfl, below1 _ _⟩
    · clear h
      go_enter Tryz.func66, Tryz.ntmps66
      go_wp2
      go_ret
      exact ⟨rfl, below1 _ _⟩
  · clear h
    go_enter Tryz.func66, Tryz.ntmps66
    go_wp2
    go_ret
    exact ⟨rfl, below1 _ _⟩
theorem may_any (s n : Int) : Pure 66 #[.agg #[.int .i64 s, .int .i64 n]] (.bool (mayI s n)) := fun w => by
  by_cases h : 1 ≤ s ∧ s ≤ 8 ∧ 1 ≤ n ∧ n ≤ 1048576
  · rw [show mayI s n = true from decide_eq_true h]
    exact may_yes s n w h.1 h.2.1 h.2.2.1 h.2.2.2
  · rw [show mayI s n = false from decide_eq_false h]
    exact may_no s n w h
theorem rmay_any (s n : Int) : Pure 59 #[.agg #[.int .i64 s, .int .i64 n]] (.bool (mayI s n)) := fun w => by
  by_cases h : 1 ≤ s ∧ s ≤ 8 ∧ 1 ≤ n ∧ n ≤ 1048576
  · rw [show mayI s n = true from decide_eq_true h]
    obtain ⟨h1, h2, h3, h4⟩ := h
    go_enter Tryz.func59, Tryz.ntmps59
    go_wp2
    go_ret
    exact ⟨rfl, below1 _ _⟩
  · rw [show mayI s n = false from decide_eq_false h]
    by_cases h1 : 1 ≤ s
    · by_cases h2 : s ≤ 8
      · by_cases h3 : 1 ≤ n
        · have h4 : ¬ n ≤ 1048576 := by omega
          clear h
          go_enter Tryz.func59, Tryz.ntmps59
          go_wp2
          go_ret
          exact ⟨rfl, below1 _ _⟩
        · clear h
          go_enter Tryz.func59, Tryz.ntmps59
          go_wp2
          go_ret
          exact ⟨rfl, below1 _ _⟩
      · clear h
        go_enter Tryz.func59, Tryz.ntmps59
        go_wp2
        go_ret
        exact ⟨rfl, below1 _ _⟩
    · clear h
      go_enter Tryz.func59, Tryz.ntmps59
      go_wp2
      go_ret
      exact ⟨rfl, below1 _ _⟩
end Go.Proofs.YtmkflebkifbpfaaGreat
/- The contracts of diagram.MayLabel and of the document's own. -/
namespace Go.Proofs.YtmkflebkifbpfaaGreat
open Go.RowKit
def okB (c : UInt8) : Bool := decide (32 ≤ c.toNat ∧ c.toNat ≤ 126)
/-- A label that may be. -/
def mayL (s : ByteArray) : Bool := decide (s.size ≤ 16) && s.data.toList.all okB
theorem takeB_snoc (s : ByteArray) (k : Nat) (h : k < s.size) : s.data.toList.take (k + 1) = s.data.toList.take k ++ [s[k]] := by
  rw [List.take_succ_eq_append_getElem (by simpa using h)]; rfl
theorem allB_step (s : ByteArray) (k : Nat) (h : k < s.size) (ha : (s.data.toList.take k).all okB = true) (hk : okB s[k] = true) : (s.data.toList.take (k + 1)).all okB = true := by
  rw [takeB_snoc s k h, List.all_append, ha]
  simp [hk]
theorem allB_not (s : ByteArray) (k : Nat) (h : k < s.size) (hk : okB s[k] = false) : s.data.toList.all okB = false := by
  rw [List.all_eq_false]
  refine ⟨s[k], ?_, by simp [hk]⟩
  show s.data[k] ∈ s.data.toList
  simp
theorem allB_all (s : ByteArray) (k : Nat) (h : s.size ≤ k) (ha : (s.data.toList.take k).all okB = true) : s.data.toList.all okB = true := by
  rwa [List.take_of_length_le (by simpa using h)] at ha
/-- The rune at a place: the byte itself where it is below 128; else one above 126. -/
theorem decode_is (s : ByteArray) (pos : Nat) (h : pos < s.size) : ∃ c wd, Utf8.decode s pos = (c, wd) ∧ 1 ≤ wd ∧ ((s[pos].toNat < 128 ∧ c = s[pos].toNat ∧ wd = 1) ∨ (128 ≤ s[pos].toNat ∧ 128 ≤ c)) := by
  by_cases ha : s[pos].toNat < 128
  · exact ⟨_, _, decode_ascii s pos h ha, Nat.le_refl _, .inl ⟨ha, rfl, rfl⟩⟩
  · have hh := decode_high s pos h (by omega)
    exact ⟨_, _, rfl, hh.2, .inr ⟨by omega, hh.1⟩⟩
theorem run_next_is (P : Program) (w : World) (s : ByteArray) (pos : Nat) (h : pos < s.size) {c wd : Nat} (hd : Utf8.decode s pos = (c, wd)) (ty : TypeId) :
    (Instr.next (.pointer (some ⟨w.heap.size, 0, none⟩)) true ty).run P (w.iter s pos) = .ok (.tuple #[.bool true, .int .i64 pos, .int .i32 c]) (w.iter s (pos + wd)) := by
  simp only [Instr.next, getObj, setObj, Sem.run_bind, Sem.run, World.iter_heap, Result.andThen, h, if_true, hd, World.iter_set]
  simp [goInt, Sem.run, World.iter_heap, World.iter_set]
set_option maxRecDepth 100000 in
theorem maylabel_any (s : ByteArray) : Pure 73 #[.string s] (.bool (mayL s)) := fun w => by
  by_cases h16 : s.size ≤ 16
  case neg =>
    have hr : mayL s = false := by simp [mayL, h16]
    have hq : decide ((16 : Int) < (s.size : Int)) = true := decide_eq_true (by omega)
    rw [hr]
    clear hr h16
    go_enter Tryz.func73, Tryz.ntmps73
    go_wp2
    go_ret
    exact ⟨rfl, Below.refl _ _⟩
  have hq : decide ((16 : Int) < (s.size : Int)) = false := decide_eq_false (by omega)
  have HS := Lib.hid h16
  clear h16
  go_enter Tryz.func73, Tryz.ntmps73
  go_wp2
  clear hq
  go_loopw [] (fun w' => ∃ pos : Nat, w' = w.iter s pos ∧ (s.data.toList.take pos).all okB = true) (fun w' => s.size - w'.iterPos w.heap.size)
  case atStart => exact ⟨0, rfl, by simp⟩
  case round =>
    obtain ⟨pos, rfl, ha⟩ := hrel
    have HA := Lib.hid ha
    clear ha
    by_cases hp : pos < s.size
    · obtain ⟨c, wd, hd, hwd, hc⟩ := decode_is s pos hp
      have hnx := fun ty => run_next_is Tryz.prog w s pos hp hd ty
      have HW := Lib.hid hwd
      clear hd hwd
      by_cases c1 : 32 ≤ c
      · by_cases c2 : c ≤ 126
        · have q1 : decide ((c : Int) < 32) = false := decide_eq_false (by omega)
          have q2 : decide ((126 : Int) < (c : Int)) = false := decide_eq_false (by omega)
          have HC1 := Lib.hid c1
          have HC2 := Lib.hid c2
          clear c1 c2
          have HC := Lib.hid hc
          have HP := Lib.hid hp
          clear hc
          go_wp2
          go_roundw
          case rel =>
            rcases HC.out with ⟨h1, rfl, rfl⟩ | ⟨h1, h2⟩
            · exact ⟨pos + 1, rfl, allB_step s pos hp HA.out (by have a := HC1.out; have b := HC2.out; simpa [okB] using ⟨a, b⟩)⟩
            · have := HC2.out
              omega
          case measure =>
            have a := hp
            have b := HW.out
            simp
            omega
        · have q1 : decide ((c : Int) < 32) = false := decide_eq_false (by omega)
          have q2 : decide ((126 : Int) < (c : Int)) = true := decide_eq_true (by omega)
          have hr : mayL s = false := by
            have : okB (s[pos]'hp) = false := by
              rcases hc with ⟨h1, h2, h3⟩ | ⟨h1, h2⟩
              · simp [okB]; omega
              · simp [okB]; omega
            simp [mayL, allB_not s pos hp this]
          have HR := Lib.hid hr
          clear c1 c2 hr
          go_wp2
          go_ret
          exact ⟨ret_bool HR.out.symm, below1 _ _⟩
      · have q1 : decide ((c : Int) < 32) = true := decide_eq_true (by omega)
        have hr : mayL s = false := by
          have : okB (s[pos]'hp) = false := by
            rcases hc with ⟨h1, h2, h3⟩ | ⟨h1, h2⟩
            · simp [okB]; omega
            · omega
          simp [mayL, allB_not s pos hp this]
        have HR := Lib.hid hr
        clear c1 hr
        go_wp2
        go_ret
        exact ⟨ret_bool HR.out.symm, below1 _ _⟩
    · have hr : mayL s = true := by simp [mayL, HS.out, allB_all s pos (by omega) HA.out]
      have hnx : ∀ ty, (Instr.next (.pointer (some ⟨w.heap.size, 0, none⟩)) true ty).run Tryz.prog (w.iter s pos) = _ := fun ty => run_next_end w s pos ty hp
      have HR := Lib.hid hr
      clear hp hr
      go_wp2
      go_ret
      exact ⟨ret_bool HR.out.symm, below1 _ _⟩
set_option maxRecDepth 100000 in
theorem rmaylabel_any (s : ByteArray) (hs : s.size ≤ maxLen) : Pure 40 #[.string s] (.bool (mayL s)) := fun w => by
  unfold maxLen at hs
  go_enter Tryz.func40, Tryz.ntmps40
  go_wp2
  go_loop [3] (fun i => ∃ k : Nat, k ≤ s.size ∧ i = .int .i64 k ∧ (s.data.toList.take k).all okB = true) (fun i => s.size - (intOf i).toNat)
  case atStart => exact ⟨0, Nat.zero_le _, rfl, by simp⟩
  case round =>
    obtain ⟨k, hk, rfl, ha⟩ := hrel
    have HA := Lib.hid ha
    clear ha
    by_cases hlt : k < s.size
    · obtain ⟨c, gc⟩ : ∃ c : UInt8, c = s[k] := ⟨_, rfl⟩
      have HGC := Lib.hid gc
      by_cases c1 : 32 ≤ c.toNat
      · by_cases c2 : c.toNat ≤ 126
        · have q1 : decide ((c.toNat : Int) < 32) = false := decide_eq_false (by omega)
          have q2 : decide ((126 : Int) < (c.toNat : Int)) = false := decide_eq_false (by omega)
          rw [gc] at q1 q2
          have HK : RowKit.Hid (okB c = true) := Lib.hid (by simp [okB]; omega)
          clear c1 c2 gc
          go_wp2
          go_round
          case rel => exact ⟨k + 1, by omega, by go_num, allB_step s k hlt HA.out (HGC.out ▸ HK.out)⟩
          case measure => simp [intOf]; omega
        · have q1 : decide ((c.toNat : Int) < 32) = false := decide_eq_false (by omega)
          have q2 : decide ((126 : Int) < (c.toNat : Int)) = true := decide_eq_true (by omega)
          rw [gc] at q1 q2
          have hr : mayL s = false := by
            have : okB (s[k]'hlt) = false := by rw [← gc]; simp [okB]; omega
            simp [mayL, allB_not s k hlt this]
          have HR := Lib.hid hr
          clear c1 c2 gc hr
          go_wp2
          go_ret
          exact ⟨ret_bool HR.out.symm, Below.refl _ _⟩
      · have q1 : decide ((c.toNat : Int) < 32) = true := decide_eq_true (by omega)
        rw [gc] at q1
        have hr : mayL s = false := by
          have : okB (s[k]'hlt) = false := by rw [← gc]; simp [okB]; omega
          simp [mayL, allB_not s k hlt this]
        have HR := Lib.hid hr
        clear c1 gc hr
        go_wp2
        go_ret
        exact ⟨ret_bool HR.out.symm, Below.refl _ _⟩
    · have hr : mayL s = decide (s.size ≤ 16) := by simp [mayL, allB_all s k (by omega) HA.out]
      by_cases h16 : s.size ≤ 16
      · rw [decide_eq_true h16] at hr
        have HR := Lib.hid hr
        have q : decide ((s.size : Int) ≤ 16) = true := decide_eq_true (by omega)
        clear hr h16
        go_wp2
        go_ret
        exact ⟨ret_bool HR.out.symm, Below.refl _ _⟩
      · rw [decide_eq_false h16] at hr
        have HR := Lib.hid hr
        have q : decide ((s.size : Int) ≤ 16) = false := decide_eq_false (by omega)
        clear hr h16
        go_wp2
        go_ret
        exact ⟨ret_bool HR.out.symm, Below.refl _ _⟩
end Go.Proofs.YtmkflebkifbpfaaGreat
/- A diagram in memory: its cells; and as lists. -/
namespace Go.Proofs.YtmkflebkifbpfaaGreat
open Go.RowKit Go.Maps
/-- A slice of darts, and the darts. -/
abbrev Rg := Option Addr × Nat × Nat × List D
/-- A vertex: its name, ring, label, attribute; an edge: its name, label, attribute. -/
abbrev VC := (Int × Int) × Rg × ByteArray × Int
abbrev EC := (Int × Int) × ByteArray × Int
def vC (v : VC) : List Value := [.int .i64 v.1.1, .int .i64 v.1.2, .slice v.2.1.1 v.2.1.2.1 v.2.1.2.2.1, .string v.2.2.1, .int .i64 v.2.2.2]
def eC (e : EC) : List Value := [.int .i64 e.1.1, .int .i64 e.1.2, .string e.2.1, .int .i64 e.2.2]
theorem vC_len (v : VC) : (vC v).length = 5 := rfl
theorem eC_len (e : EC) : (eC e).length = 4 := rfl
theorem vC_one (v : VC) : ∀ u ∈ vC v, u.oneCell' = true := by simp [vC, Value.oneCell']
theorem eC_one (e : EC) : ∀ u ∈ eC e, u.oneCell' = true := by simp [eC, Value.oneCell']
def dC (d : D) : List Value := [.int .i64 d.1, .int .i64 d.2.1, .int .i64 d.2.2]
theorem dC_len (d : D) : (dC d).length = 3 := rfl
theorem dartsV_rows (l : List D) : dartsV l = rowsV dC l := by
  induction l with
  | nil => rfl
  | cons d l ih => rw [dartsV, ih]; rfl
/-- A ring lies where its slice says. -/
def RgOk (w : World) (r : Rg) : Prop := r.2.2.1 ≤ maxLen ∧ RdS w w.heap.size 3 r.1 r.2.1 r.2.2.1 (dartsV r.2.2.2)
/-- A diagram: its two rows. -/
structure DgIn (w : World) (A : Option Addr) (n c : Nat) (Vs : List VC) (B : Option Addr) (m k : Nat) (Es : List EC) : Prop where
  v : RdS w w.heap.size 5 A n c (rowsV vC Vs)
  e : RdS w w.heap.size 4 B m k (rowsV eC Es)
  r : ∀ x ∈ Vs, RgOk w x.2.1
theorem DgIn.below {w w' : World} {A B : Option Addr} {n c m k : Nat} {Vs : List VC} {Es : List EC} (h : DgIn w A n c Vs B m k Es) (hb : Below w.heap.size w w') : DgIn w' A n c Vs B m k Es :=
  ⟨h.v.bl hb, h.e.bl hb, fun x hx => ⟨(h.r x hx).1, (h.r x hx).2.bl hb⟩⟩
def mayA (n : Int) : Bool := decide (-1099511627776 ≤ n ∧ n ≤ 1099511627776)
set_option maxRecDepth 100000 in
theorem mayattr_any (n : Int) : Pure 76 #[.int .i64 n] (.bool (mayA n)) := fun w => by
  unfold mayA
  by_cases h1 : -1099511627776 ≤ n
  · by_cases h2 : n ≤ 1099511627776
    · rw [decide_eq_true ⟨h1, h2⟩]
      go_enter Tryz.func76, Tryz.ntmps76
      go_wp2
      go_ret
      exact ⟨rfl, Below.refl _ _⟩
    · rw [decide_eq_false (fun h => h2 h.2)]
      go_enter Tryz.func76, Tryz.ntmps76
      go_wp2
      go_ret
      exact ⟨rfl, Below.refl _ _⟩
  · rw [decide_eq_false (fun h => h1 h.1)]
    go_enter Tryz.func76, Tryz.ntmps76
    go_wp2
    go_ret
    exact ⟨rfl, Below.refl _ _⟩
end Go.Proofs.YtmkflebkifbpfaaGreat
/- What a vertex and an edge are asked: name, label, attribute; names that rise. -/
namespace Go.Proofs.YtmkflebkifbpfaaGreat
open Go.RowKit
theorem ret_whole {P : Program} {fn : Func} {R : Ending → World → Prop} {a : Act} {w : World} {p : Tmp} {t : TypeId} (h : fn.results = #[.cell p t]) (g : Nat) {t' : TypeId} {cs : List Value} {d : TypeDesc}
    (hp : a.tmps.getD p undef = .pointer (some ⟨g, 0, none⟩)) (hW : Whole w g t' cs) (hu : P.underlying t = some d) (hd : d.isRow = true) (hi : (P.info? t).map (·.size) = some cs.length)
    (hdf : a.defers = []) (hR : R (.returned (.agg cs.toArray)) w) : bodyPost P fn R .ret a w := by
  refine bodyPost_ret (v := .agg cs.toArray) ?_ hdf hR
  have hl := run_loadVar_mid (P := P) w g 0 t cs d (fun j v hv => by
    have := hW.cell hv
    simpa using this) hu hd hi
  have hp2 := hp
  rw [Array.getD_eq_getD_getElem?] at hp2
  simp [results, h, hp2, asAddr, Sem.run_bind, Result.andThen, hl]
def riseF : Option (Int × Int) → List (Int × Int) → Bool
  | _, [] => true
  | o, x :: r => mayI x.1 x.2 && (match o with | none => true | some y => decide (ordI y.1 y.2 x.1 x.2 < 0)) && riseF (some x) r
set_option maxRecDepth 100000 in
theorem nameV (v : VC) (w : World) : Calls Tryz.prog 44 #[.agg (vC v).toArray] w fun e w' => e = .returned (.agg #[.int .i64 v.1.1, .int .i64 v.1.2]) ∧ Below w.heap.size w w' := by
  obtain ⟨⟨i1, i2⟩, ⟨rA, rn, rc, rL⟩, lb, at_⟩ := v
  show Calls Tryz.prog 44 #[.agg #[.int .i64 i1, .int .i64 i2, .slice rA rn rc, .string lb, .int .i64 at_]] w _
  go_enter Tryz.func44, Tryz.ntmps44
  go_wp2
  have hW := Whole.new_ (w.alloc (.cells (#[.int .i64 i1, .int .i64 i2, .slice rA rn rc, .string lb, .int .i64 at_]) 47)) 41 [.int .i64 i1, .int .i64 i2]
  simp only [World.size_alloc] at hW
  refine ret_whole rfl (w.heap.size + 1) rfl hW Tryz.underlying41 rfl (by kernel_rfl) rfl ?_
  exact ⟨rfl, by first | exact below2 _ _ _ | exact (below2 _ _ _).setCell (by simp) _ | exact ((below2 _ _ _).setCell (by simp) _).setCell (by simp) _⟩
set_option maxRecDepth 100000 in
theorem labelV (v : VC) (w : World) : Calls Tryz.prog 50 #[.agg (vC v).toArray] w fun e w' => e = .returned (.bool (mayL v.2.2.1)) ∧ Below w.heap.size w w' := by
  obtain ⟨⟨i1, i2⟩, ⟨rA, rn, rc, rL⟩, lb, at_⟩ := v
  show Calls Tryz.prog 50 #[.agg #[.int .i64 i1, .int .i64 i2, .slice rA rn rc, .string lb, .int .i64 at_]] w fun e w' => e = .returned (.bool (mayL lb)) ∧ Below w.heap.size w w'
  go_enter Tryz.func50, Tryz.ntmps50
  go_wp2_with fail
  refine (maylabel_any lb _).mono ?_
  rintro e w3 ⟨rfl, hb⟩
  go_wp2
  go_ret
  exact ⟨rfl, below_after1 hb⟩
set_option maxRecDepth 100000 in
theorem attrV (v : VC) (w : World) : Calls Tryz.prog 53 #[.agg (vC v).toArray] w fun e w' => e = .returned (.bool (mayA v.2.2.2)) ∧ Below w.heap.size w w' := by
  obtain ⟨⟨i1, i2⟩, ⟨rA, rn, rc, rL⟩, lb, at_⟩ := v
  show Calls Tryz.prog 53 #[.agg #[.int .i64 i1, .int .i64 i2, .slice rA rn rc, .string lb, .int .i64 at_]] w fun e w' => e = .returned (.bool (mayA at_)) ∧ Below w.heap.size w w'
  go_enter Tryz.func53, Tryz.ntmps53
  go_wp2_with fail
  refine (mayattr_any at_ _).mono ?_
  rintro e w3 ⟨rfl, hb⟩
  go_wp2
  go_ret
  exact ⟨rfl, below_after1 hb⟩
set_option maxRecDepth 100000 in
set_option maxHeartbeats 2000000 in
theorem riseV (A : Option Addr) (n c : Nat) (Vs : List VC) (w : World) (h : RdS w w.heap.size 5 A n c (rowsV vC Vs)) (hn : n ≤ 1000000) :
    Calls Tryz.prog 43 #[.slice A n c, .func (.func 44) #[] #[]] w fun e w' => e = .returned (.bool (riseF none (Vs.map (·.1)))) ∧ Below w.heap.size w w' := by
  have hl := h.rlen vC_len (by decide)
  have H := Lib.hid h
  have Hl := Lib.hid hl
  clear h hl
  go_enter Tryz.func43, Tryz.ntmps43
  go_wp2
  obtain ⟨W0, gW0⟩ : ∃ z, w.alloc (.cells #[.int .i64 0, .int .i64 0] 41) = z := ⟨_, rfl⟩
  obtain ⟨b0, gb0⟩ : ∃ z, w.heap.size = z := ⟨_, rfl⟩
  have hW : Whole (w.alloc (.cells #[.int .i64 0, .int .i64 0] 41)) w.heap.size 41 [.int .i64 0, .int .i64 0] := Whole.new_ w 41 [_, _]
  have HB0 : RowKit.Hid (Below w.heap.size w W0) := Lib.hid (by rw [← gW0]; exact below1 _ _)
  rw [gW0, gb0] at hW
  have HW0 := Lib.hid hW
  have Gb0 := Lib.hid gb0
  rw [gW0, gb0]
  clear hW gW0 gb0
  go_loopw [11] (fun si wr => ∃ (j : Nat) (o : Option (Int × Int)) (la : Int × Int), j ≤ n ∧ si = .int .i64 j ∧ (o = none ↔ j = 0) ∧ (∀ y, o = some y → y = la) ∧ RowKit.Hid (Whole wr b0 41 [.int .i64 la.1, .int .i64 la.2]) ∧ RowKit.Hid (Below w.heap.size w wr) ∧ RowKit.Hid (riseF none (Vs.map (·.1)) = riseF o ((Vs.drop j).map (·.1)))) (fun si _ => n - (intOf si).toNat)
  case atStart => exact ⟨0, none, (0, 0), by omega, rfl, by simp, fun y h => (by cases h), HW0, HB0, Lib.hid rfl⟩
  case round =>
    clear HW0 HB0
    obtain ⟨j, o, la, hj, rfl, ho, hla, HW, HB, HE⟩ := hrel
    obtain ⟨la1, la2⟩ := la
    dsimp only at HW
    by_cases hjn : j < n
    · obtain ⟨wo, gwo⟩ : ∃ z, wr = z := ⟨_, rfl⟩
      rw [gwo] at HW HB ⊢
      clear gwo
      obtain ⟨v, hx⟩ : ∃ v, Vs[j]? = some v := ⟨_, List.getElem?_eq_getElem (by have := Hl.out; omega)⟩
      have hdr : (Vs.drop j).map (·.1) = v.1 :: (Vs.drop (j + 1)).map (·.1) := by
        rw [List.drop_eq_getElem_cons (List.getElem?_eq_some_iff.1 hx).1, (List.getElem?_eq_some_iff.1 hx).2]; rfl
      have HE2 := HE.out
      rw [hdr] at HE2
      have HE3 := Lib.hid HE2
      obtain ⟨bb, off, rfl, hbB, hpl⟩ := H.out.place vC_len (by decide) (by omega)
      have hbw := HB.out
      have q0 := hpl j _ hx 0 _ rfl
      have q1 := hpl j _ hx 1 _ rfl
      have q2 := hpl j _ hx 2 _ rfl
      have q3 := hpl j _ hx 3 _ rfl
      have q4 := hpl j _ hx 4 _ rfl
      simp only [Addr.add_lit, Nat.add_zero] at q0 q1 q2 q3 q4
      have l0 := (hbw.cell (p := ⟨bb, off + j * 5, none⟩) hbB).trans q0
      have l1 := (hbw.cell (p := ⟨bb, off + j * 5 + 1, none⟩) hbB).trans q1
      have l2 := (hbw.cell (p := ⟨bb, off + j * 5 + 2, none⟩) hbB).trans q2
      have l3 := (hbw.cell (p := ⟨bb, off + j * 5 + 3, none⟩) hbB).trans q3
      have l4 := (hbw.cell (p := ⟨bb, off + j * 5 + 4, none⟩) hbB).trans q4
      have HbB := Lib.hid hbB
      have hnm := fun W => nameV v W
      obtain ⟨⟨i1, i2⟩, ⟨rA, rn, rc, rL⟩, lb, at_⟩ := v
      have HNm := Lib.hid hnm
      clear hx hdr HE2 hpl hbw q0 q1 q2 q3 q4 hnm hbB HE
      go_wp2_with fail
      refine (HNm.out _).mono ?_
      rintro e w3 ⟨rfl, hb3⟩
      have HB3 : RowKit.Hid (Below w.heap.size w w3) := Lib.hid (bel_bl (bel_al HB.out _) hb3)
      have HW3 : RowKit.Hid (Whole w3 b0 41 [.int .i64 la1, .int .i64 la2]) := Lib.hid ((HW.out.below (below1 wo _)).below hb3)
      clear hb3 l0 l1 l2 l3 l4
      go_wp2_with fail
      refine (may_any i1 i2 _).mono ?_
      rintro e w4 ⟨rfl, hb4⟩
      have HB4 : RowKit.Hid (Below w.heap.size w w4) := Lib.hid (bel_bl (bel_al HB3.out _) hb4)
      have HW4 : RowKit.Hid (Whole w4 b0 41 [.int .i64 la1, .int .i64 la2]) := Lib.hid ((HW3.out.below (below1 w3 _)).below hb4)
      have HX4 : RowKit.Hid (Whole w4 w3.heap.size 41 [.int .i64 i1, .int .i64 i2]) := Lib.hid ((Whole.new_ w3 41 [.int .i64 i1, .int .i64 i2]).below hb4)
      obtain ⟨b8, gb8⟩ : ∃ z, w3.heap.size = z := ⟨_, rfl⟩
      rw [gb8] at HX4 ⊢
      have hne : b0 ≠ b8 := by
        have := HW3.out.lt
        omega
      clear hb4 gb8 HW3 HB3
      cases hm : mayI i1 i2 with
      | false =>
        have hr : riseF none (Vs.map (·.1)) = false := by rw [HE3.out]; simp [riseF, hm]
        go_wp2
        go_ret
        exact ⟨by first | exact rfl | exact (congrArg (fun b => Ending.returned (Value.bool b)) hr).symm, HB4.out⟩
      | true =>
        rcases Nat.eq_zero_or_pos j with rfl | hj0
        · obtain rfl : o = none := ho.2 rfl
          have HE4 : RowKit.Hid (riseF none (Vs.map (·.1)) = riseF (some (i1, i2)) ((Vs.drop (0 + 1)).map (·.1))) := Lib.hid (by rw [HE3.out]; simp [riseF, hm])
          have c0 := HX4.out.cell (i := 0) rfl
          have c1 := HX4.out.cell (i := 1) rfl
          have d0 := HW4.out.cell (i := 0) rfl
          have d1 := HW4.out.cell (i := 1) rfl
          have f0 := HW4.out.free 0
          have f1 := HW4.out.free 1
          have HW5 : RowKit.Hid (Whole ((w4.setCell ⟨b0, 0, none⟩ (.int .i64 i1)).setCell ⟨b0, 1, none⟩ (.int .i64 i2)) b0 41 [.int .i64 i1, .int .i64 i2]) := Lib.hid ((HW4.out.set_ 0 (.int .i64 i1)).set_ 1 (.int .i64 i2))
          have HB5 : RowKit.Hid (Below w.heap.size w ((w4.setCell ⟨b0, 0, none⟩ (.int .i64 i1)).setCell ⟨b0, 1, none⟩ (.int .i64 i2))) := Lib.hid ((HB4.out.setCell (by rw [Gb0.out]; exact Nat.le_refl _) _).setCell (by rw [Gb0.out]; exact Nat.le_refl _) _)
          rw [show ((0 : Nat) : Int) = 0 from rfl]
          go_wp2
          go_roundw
          case rel => exact ⟨0 + 1, some (i1, i2), (i1, i2), by omega, by go_num, by simp, fun y h => (Option.some.inj h).symm, HW5, HB5, HE4⟩
          case measure => simp [intOf]; omega
        · obtain ⟨y, rfl⟩ : ∃ y, o = some y := by
            cases o with
            | none => have := ho.1 rfl; omega
            | some y => exact ⟨y, rfl⟩
          obtain rfl := hla y rfl
          have c0 := HX4.out.cell (i := 0) rfl
          have c1 := HX4.out.cell (i := 1) rfl
          have d0 := HW4.out.cell (i := 0) rfl
          have d1 := HW4.out.cell (i := 1) rfl
          have e0 : decide ((0 : Int) < (j : Int)) = true := decide_eq_true (by omega)
          obtain ⟨q, gq⟩ : ∃ q, ordI la1 la2 i1 i2 = q := ⟨_, rfl⟩
          have hor := fun W => order_any la1 la2 i1 i2 W
          rw [gq] at hor
          have HOr := Lib.hid hor
          have Gq := Lib.hid gq
          clear hor gq
          go_wp2_with fail
          refine (HOr.out _).mono ?_
          rintro e w5 ⟨rfl, hb5⟩
          have HB5 : RowKit.Hid (Below w.heap.size w w5) := Lib.hid (bel_bl HB4.out hb5)
          have HW5 := Lib.hid (HW4.out.below hb5)
          have HX5 := Lib.hid (HX4.out.below hb5)
          clear hb5 c0 c1 d0 d1
          by_cases hq : 0 ≤ q
          · have u0 : decide ((0 : Int) ≤ q) = true := decide_eq_true hq
            have hr : riseF none (Vs.map (·.1)) = false := by
              rw [HE3.out]
              have h1 := Gq.out
              have : decide (ordI la1 la2 i1 i2 < 0) = false := decide_eq_false (by omega)
              simp [riseF, this]
            go_wp2
            go_ret
            exact ⟨by first | exact rfl | exact (congrArg (fun b => Ending.returned (Value.bool b)) hr).symm, HB5.out⟩
          · have u0 : decide ((0 : Int) ≤ q) = false := decide_eq_false hq
            have HE4 : RowKit.Hid (riseF none (Vs.map (·.1)) = riseF (some (i1, i2)) ((Vs.drop (j + 1)).map (·.1))) := Lib.hid (by
              rw [HE3.out]
              have h1 := Gq.out
              have : decide (ordI la1 la2 i1 i2 < 0) = true := decide_eq_true (by omega)
              simp only [riseF, hm, this, Bool.true_and])
            have c0 := HX5.out.cell (i := 0) rfl
            have c1 := HX5.out.cell (i := 1) rfl
            have d0 := HW5.out.cell (i := 0) rfl
            have d1 := HW5.out.cell (i := 1) rfl
            have f0 := HW5.out.free 0
            have f1 := HW5.out.free 1
            have HW6 : RowKit.Hid (Whole ((w5.setCell ⟨b0, 0, none⟩ (.int .i64 i1)).setCell ⟨b0, 1, none⟩ (.int .i64 i2)) b0 41 [.int .i64 i1, .int .i64 i2]) := Lib.hid ((HW5.out.set_ 0 (.int .i64 i1)).set_ 1 (.int .i64 i2))
            have HB6 : RowKit.Hid (Below w.heap.size w ((w5.setCell ⟨b0, 0, none⟩ (.int .i64 i1)).setCell ⟨b0, 1, none⟩ (.int .i64 i2))) := Lib.hid ((HB5.out.setCell (by rw [Gb0.out]; exact Nat.le_refl _) _).setCell (by rw [Gb0.out]; exact Nat.le_refl _) _)
            go_wp2
            go_roundw
            case rel => exact ⟨j + 1, some (i1, i2), (i1, i2), by omega, by go_num, by simp, fun y h => (Option.some.inj h).symm, HW6, HB6, HE4⟩
            case measure => simp [intOf]; omega
    · obtain rfl : n = j := by omega
      have hr : riseF none (Vs.map (·.1)) = true := by
        rw [HE.out, List.drop_eq_nil_of_le (by have := Hl.out; omega)]
        cases o <;> rfl
      go_wp2
      go_ret
      exact ⟨by first | exact rfl | exact (congrArg (fun b => Ending.returned (Value.bool b)) hr).symm, HB.out⟩
set_option maxRecDepth 100000 in
theorem nameE (v : EC) (w : World) : Calls Tryz.prog 46 #[.agg (eC v).toArray] w fun e w' => e = .returned (.agg #[.int .i64 v.1.1, .int .i64 v.1.2]) ∧ Below w.heap.size w w' := by
  obtain ⟨⟨i1, i2⟩, lb, at_⟩ := v
  show Calls Tryz.prog 46 #[.agg #[.int .i64 i1, .int .i64 i2, .string lb, .int .i64 at_]] w _
  go_enter Tryz.func46, Tryz.ntmps46
  go_wp2
  have hW := Whole.new_ (w.alloc (.cells (#[.int .i64 i1, .int .i64 i2, .string lb, .int .i64 at_]) 43)) 41 [.int .i64 i1, .int .i64 i2]
  simp only [World.size_alloc] at hW
  refine ret_whole rfl (w.heap.size + 1) rfl hW Tryz.underlying41 rfl (by kernel_rfl) rfl ?_
  exact ⟨rfl, by first | exact below2 _ _ _ | exact (below2 _ _ _).setCell (by simp) _ | exact ((below2 _ _ _).setCell (by simp) _).setCell (by simp) _⟩
set_option maxRecDepth 100000 in
theorem labelE (v : EC) (w : World) : Calls Tryz.prog 52 #[.agg (eC v).toArray] w fun e w' => e = .returned (.bool (mayL v.2.1)) ∧ Below w.heap.size w w' := by
  obtain ⟨⟨i1, i2⟩, lb, at_⟩ := v
  show Calls Tryz.prog 52 #[.agg #[.int .i64 i1, .int .i64 i2, .string lb, .int .i64 at_]] w fun e w' => e = .returned (.bool (mayL lb)) ∧ Below w.heap.size w w'
  go_enter Tryz.func52, Tryz.ntmps52
  go_wp2_with fail
  refine (maylabel_any lb _).mono ?_
  rintro e w3 ⟨rfl, hb⟩
  go_wp2
  go_ret
  exact ⟨rfl, below_after1 hb⟩
set_option maxRecDepth 100000 in
theorem attrE (v : EC) (w : World) : Calls Tryz.prog 54 #[.agg (eC v).toArray] w fun e w' => e = .returned (.bool (mayA v.2.2)) ∧ Below w.heap.size w w' := by
  obtain ⟨⟨i1, i2⟩, lb, at_⟩ := v
  show Calls Tryz.prog 54 #[.agg #[.int .i64 i1, .int .i64 i2, .string lb, .int .i64 at_]] w fun e w' => e = .returned (.bool (mayA at_)) ∧ Below w.heap.size w w'
  go_enter Tryz.func54, Tryz.ntmps54
  go_wp2_with fail
  refine (mayattr_any at_ _).mono ?_
  rintro e w3 ⟨rfl, hb⟩
  go_wp2
  go_ret
  exact ⟨rfl, below_after1 hb⟩
set_option maxRecDepth 100000 in
set_option maxHeartbeats 2000000 in
theorem riseE (A : Option Addr) (n c : Nat) (Vs : List EC) (w : World) (h : RdS w w.heap.size 4 A n c (rowsV eC Vs)) (hn : n ≤ 1000000) :
    Calls Tryz.prog 45 #[.slice A n c, .func (.func 46) #[] #[]] w fun e w' => e = .returned (.bool (riseF none (Vs.map (·.1)))) ∧ Below w.heap.size w w' := by
  have hl := h.rlen eC_len (by decide)
  have H := Lib.hid h
  have Hl := Lib.hid hl
  clear h hl
  go_enter Tryz.func45, Tryz.ntmps45
  go_wp2
  obtain ⟨W0, gW0⟩ : ∃ z, w.alloc (.cells #[.int .i64 0, .int .i64 0] 41) = z := ⟨_, rfl⟩
  obtain ⟨b0, gb0⟩ : ∃ z, w.heap.size = z := ⟨_, rfl⟩
  have hW : Whole (w.alloc (.cells #[.int .i64 0, .int .i64 0] 41)) w.heap.size 41 [.int .i64 0, .int .i64 0] := Whole.new_ w 41 [_, _]
  have HB0 : RowKit.Hid (Below w.heap.size w W0) := Lib.hid (by rw [← gW0]; exact below1 _ _)
  rw [gW0, gb0] at hW
  have HW0 := Lib.hid hW
  have Gb0 := Lib.hid gb0
  rw [gW0, gb0]
  clear hW gW0 gb0
  go_loopw [11] (fun si wr => ∃ (j : Nat) (o : Option (Int × Int)) (la : Int × Int), j ≤ n ∧ si = .int .i64 j ∧ (o = none ↔ j = 0) ∧ (∀ y, o = some y → y = la) ∧ RowKit.Hid (Whole wr b0 41 [.int .i64 la.1, .int .i64 la.2]) ∧ RowKit.Hid (Below w.heap.size w wr) ∧ RowKit.Hid (riseF none (Vs.map (·.1)) = riseF o ((Vs.drop j).map (·.1)))) (fun si _ => n - (intOf si).toNat)
  case atStart => exact ⟨0, none, (0, 0), by omega, rfl, by simp, fun y h => (by cases h), HW0, HB0, Lib.hid rfl⟩
  case round =>
    clear HW0 HB0
    obtain ⟨j, o, la, hj, rfl, ho, hla, HW, HB, HE⟩ := hrel
    obtain ⟨la1, la2⟩ := la
    dsimp only at HW
    by_cases hjn : j < n
    · obtain ⟨wo, gwo⟩ : ∃ z, wr = z := ⟨_, rfl⟩
      rw [gwo] at HW HB ⊢
      clear gwo
      obtain ⟨v, hx⟩ : ∃ v, Vs[j]? = some v := ⟨_, List.getElem?_eq_getElem (by have := Hl.out; omega)⟩
      have hdr : (Vs.drop j).map (·.1) = v.1 :: (Vs.drop (j + 1)).map (·.1) := by
        rw [List.drop_eq_getElem_cons (List.getElem?_eq_some_iff.1 hx).1, (List.getElem?_eq_some_iff.1 hx).2]; rfl
      have HE2 := HE.out
      rw [hdr] at HE2
      have HE3 := Lib.hid HE2
      obtain ⟨bb, off, rfl, hbB, hpl⟩ := H.out.place eC_len (by decide) (by omega)
      have hbw := HB.out
      have q0 := hpl j _ hx 0 _ rfl
      have q1 := hpl j _ hx 1 _ rfl
      have q2 := hpl j _ hx 2 _ rfl
      have q3 := hpl j _ hx 3 _ rfl
      simp only [Addr.add_lit, Nat.add_zero] at q0 q1 q2 q3
      have l0 := (hbw.cell (p := ⟨bb, off + j * 4, none⟩) hbB).trans q0
      have l1 := (hbw.cell (p := ⟨bb, off + j * 4 + 1, none⟩) hbB).trans q1
      have l2 := (hbw.cell (p := ⟨bb, off + j * 4 + 2, none⟩) hbB).trans q2
      have l3 := (hbw.cell (p := ⟨bb, off + j * 4 + 3, none⟩) hbB).trans q3
      have HbB := Lib.hid hbB
      have hnm := fun W => nameE v W
      obtain ⟨⟨i1, i2⟩, lb, at_⟩ := v
      have HNm := Lib.hid hnm
      clear hx hdr HE2 hpl hbw q0 q1 q2 q3 hnm hbB HE
      go_wp2_with fail
      refine (HNm.out _).mono ?_
      rintro e w3 ⟨rfl, hb3⟩
      have HB3 : RowKit.Hid (Below w.heap.size w w3) := Lib.hid (bel_bl (bel_al HB.out _) hb3)
      have HW3 : RowKit.Hid (Whole w3 b0 41 [.int .i64 la1, .int .i64 la2]) := Lib.hid ((HW.out.below (below1 wo _)).below hb3)
      clear hb3 l0 l1 l2 l3
      go_wp2_with fail
      refine (may_any i1 i2 _).mono ?_
      rintro e w4 ⟨rfl, hb4⟩
      have HB4 : RowKit.Hid (Below w.heap.size w w4) := Lib.hid (bel_bl (bel_al HB3.out _) hb4)
      have HW4 : RowKit.Hid (Whole w4 b0 41 [.int .i64 la1, .int .i64 la2]) := Lib.hid ((HW3.out.below (below1 w3 _)).below hb4)
      have HX4 : RowKit.Hid (Whole w4 w3.heap.size 41 [.int .i64 i1, .int .i64 i2]) := Lib.hid ((Whole.new_ w3 41 [.int .i64 i1, .int .i64 i2]).below hb4)
      obtain ⟨b8, gb8⟩ : ∃ z, w3.heap.size = z := ⟨_, rfl⟩
      rw [gb8] at HX4 ⊢
      have hne : b0 ≠ b8 := by
        have := HW3.out.lt
        omega
      clear hb4 gb8 HW3 HB3
      cases hm : mayI i1 i2 with
      | false =>
        have hr : riseF none (Vs.map (·.1)) = false := by rw [HE3.out]; simp [riseF, hm]
        go_wp2
        go_ret
        exact ⟨by first | exact rfl | exact (congrArg (fun b => Ending.returned (Value.bool b)) hr).symm, HB4.out⟩
      | true =>
        rcases Nat.eq_zero_or_pos j with rfl | hj0
        · obtain rfl : o = none := ho.2 rfl
          have HE4 : RowKit.Hid (riseF none (Vs.map (·.1)) = riseF (some (i1, i2)) ((Vs.drop (0 + 1)).map (·.1))) := Lib.hid (by rw [HE3.out]; simp [riseF, hm])
          have c0 := HX4.out.cell (i := 0) rfl
          have c1 := HX4.out.cell (i := 1) rfl
          have d0 := HW4.out.cell (i := 0) rfl
          have d1 := HW4.out.cell (i := 1) rfl
          have f0 := HW4.out.free 0
          have f1 := HW4.out.free 1
          have HW5 : RowKit.Hid (Whole ((w4.setCell ⟨b0, 0, none⟩ (.int .i64 i1)).setCell ⟨b0, 1, none⟩ (.int .i64 i2)) b0 41 [.int .i64 i1, .int .i64 i2]) := Lib.hid ((HW4.out.set_ 0 (.int .i64 i1)).set_ 1 (.int .i64 i2))
          have HB5 : RowKit.Hid (Below w.heap.size w ((w4.setCell ⟨b0, 0, none⟩ (.int .i64 i1)).setCell ⟨b0, 1, none⟩ (.int .i64 i2))) := Lib.hid ((HB4.out.setCell (by rw [Gb0.out]; exact Nat.le_refl _) _).setCell (by rw [Gb0.out]; exact Nat.le_refl _) _)
          rw [show ((0 : Nat) : Int) = 0 from rfl]
          go_wp2
          go_roundw
          case rel => exact ⟨0 + 1, some (i1, i2), (i1, i2), by omega, by go_num, by simp, fun y h => (Option.some.inj h).symm, HW5, HB5, HE4⟩
          case measure => simp [intOf]; omega
        · obtain ⟨y, rfl⟩ : ∃ y, o = some y := by
            cases o with
            | none => have := ho.1 rfl; omega
            | some y => exact ⟨y, rfl⟩
          obtain rfl := hla y rfl
          have c0 := HX4.out.cell (i := 0) rfl
          have c1 := HX4.out.cell (i := 1) rfl
          have d0 := HW4.out.cell (i := 0) rfl
          have d1 := HW4.out.cell (i := 1) rfl
          have e0 : decide ((0 : Int) < (j : Int)) = true := decide_eq_true (by omega)
          obtain ⟨q, gq⟩ : ∃ q, ordI la1 la2 i1 i2 = q := ⟨_, rfl⟩
          have hor := fun W => order_any la1 la2 i1 i2 W
          rw [gq] at hor
          have HOr := Lib.hid hor
          have Gq := Lib.hid gq
          clear hor gq
          go_wp2_with fail
          refine (HOr.out _).mono ?_
          rintro e w5 ⟨rfl, hb5⟩
          have HB5 : RowKit.Hid (Below w.heap.size w w5) := Lib.hid (bel_bl HB4.out hb5)
          have HW5 := Lib.hid (HW4.out.below hb5)
          have HX5 := Lib.hid (HX4.out.below hb5)
          clear hb5 c0 c1 d0 d1
          by_cases hq : 0 ≤ q
          · have u0 : decide ((0 : Int) ≤ q) = true := decide_eq_true hq
            have hr : riseF none (Vs.map (·.1)) = false := by
              rw [HE3.out]
              have h1 := Gq.out
              have : decide (ordI la1 la2 i1 i2 < 0) = false := decide_eq_false (by omega)
              simp [riseF, this]
            go_wp2
            go_ret
            exact ⟨by first | exact rfl | exact (congrArg (fun b => Ending.returned (Value.bool b)) hr).symm, HB5.out⟩
          · have u0 : decide ((0 : Int) ≤ q) = false := decide_eq_false hq
            have HE4 : RowKit.Hid (riseF none (Vs.map (·.1)) = riseF (some (i1, i2)) ((Vs.drop (j + 1)).map (·.1))) := Lib.hid (by
              rw [HE3.out]
              have h1 := Gq.out
              have : decide (ordI la1 la2 i1 i2 < 0) = true := decide_eq_true (by omega)
              simp only [riseF, hm, this, Bool.true_and])
            have c0 := HX5.out.cell (i := 0) rfl
            have c1 := HX5.out.cell (i := 1) rfl
            have d0 := HW5.out.cell (i := 0) rfl
            have d1 := HW5.out.cell (i := 1) rfl
            have f0 := HW5.out.free 0
            have f1 := HW5.out.free 1
            have HW6 : RowKit.Hid (Whole ((w5.setCell ⟨b0, 0, none⟩ (.int .i64 i1)).setCell ⟨b0, 1, none⟩ (.int .i64 i2)) b0 41 [.int .i64 i1, .int .i64 i2]) := Lib.hid ((HW5.out.set_ 0 (.int .i64 i1)).set_ 1 (.int .i64 i2))
            have HB6 : RowKit.Hid (Below w.heap.size w ((w5.setCell ⟨b0, 0, none⟩ (.int .i64 i1)).setCell ⟨b0, 1, none⟩ (.int .i64 i2))) := Lib.hid ((HB5.out.setCell (by rw [Gb0.out]; exact Nat.le_refl _) _).setCell (by rw [Gb0.out]; exact Nat.le_refl _) _)
            go_wp2
            go_roundw
            case rel => exact ⟨j + 1, some (i1, i2), (i1, i2), by omega, by go_num, by simp, fun y h => (Option.some.inj h).symm, HW6, HB6, HE4⟩
            case measure => simp [intOf]; omega
    · obtain rfl : n = j := by omega
      have hr : riseF none (Vs.map (·.1)) = true := by
        rw [HE.out, List.drop_eq_nil_of_le (by have := Hl.out; omega)]
        cases o <;> rfl
      go_wp2
      go_ret
      exact ⟨by first | exact rfl | exact (congrArg (fun b => Ending.returned (Value.bool b)) hr).symm, HB.out⟩
end Go.Proofs.YtmkflebkifbpfaaGreat
/- all[T]: each of a row may be. -/
namespace Go.Proofs.YtmkflebkifbpfaaGreat
open Go.RowKit
/-- A function of the program is entered. -/
abbrev Ent (k : Nat) : Prop := ∀ (args : Array Value) (W : World), (callFunc k args).run Tryz.prog W = .ok (.enter k args) W
theorem ent_of {k : Nat} {fn : Func} {c : Code} (hf : Tryz.prog.funcs[k]? = some fn) (hname : (fn.name == "runtime.NumGoroutine") = false) (hb : fn.body = some c) : Ent k := fun args W => by
  have h1 : fn.name ≠ "runtime.NumGoroutine" := by simpa using hname
  simp [callFunc, Sem.run_bind, hf, hb, h1]
/-- What a function tells of one. -/
def TellsV (k : Nat) (may : VC → Bool) (v : VC) (W : World) : Prop :=
  Calls Tryz.prog k #[.agg (vC v).toArray] W fun e w' => e = .returned (.bool (may v)) ∧ Below W.heap.size W w'
set_option maxRecDepth 100000 in
theorem notV (k : Nat) (may : VC → Bool) (v : VC) (g : Nat) (w : World) (he : Ent k) (hg : Whole w g 85 [.func (.func k) #[] #[]]) (hk : ∀ W, Below w.heap.size w W → TellsV k may v W) :
    Calls Tryz.prog 72 #[.agg (vC v).toArray, .pointer (some ⟨g, 0, none⟩)] w fun e w' => e = .returned (.bool (!may v)) ∧ Below w.heap.size w w' := by
  obtain ⟨b, hmy⟩ : ∃ b, may v = b := ⟨_, rfl⟩
  have HK : RowKit.Hid (∀ W, Below w.heap.size w W → Calls Tryz.prog k #[.agg (vC v).toArray] W fun e w' => e = .returned (.bool b) ∧ Below W.heap.size W w') := Lib.hid (by rw [← hmy]; exact hk)
  rw [hmy]
  clear hk hmy
  obtain ⟨⟨i1, i2⟩, ⟨rA, rn, rc, rL⟩, lb, at_⟩ := v
  replace HK : RowKit.Hid (∀ W, Below w.heap.size w W → Calls Tryz.prog k #[.agg #[.int .i64 i1, .int .i64 i2, .slice rA rn rc, .string lb, .int .i64 at_]] W fun e w' => e = .returned (.bool b) ∧ Below W.heap.size W w') := HK
  show Calls Tryz.prog 72 #[.agg #[.int .i64 i1, .int .i64 i2, .slice rA rn rc, .string lb, .int .i64 at_], .pointer (some ⟨g, 0, none⟩)] w _
  have c0 := (hg.below (below1 w (.cells #[.int .i64 i1, .int .i64 i2, .slice rA rn rc, .string lb, .int .i64 at_] 47))).cell (i := 0) rfl
  go_enter Tryz.func72, Tryz.ntmps72
  have HE := Lib.hid he
  clear he
  go_wp2_with fail
  rw [HE.out, Oper.upon_enter]
  refine (HK.out _ (below1 _ _)).mono ?_
  rintro e w3 ⟨rfl, hb⟩
  go_wp2
  go_ret
  exact ⟨rfl, below_after1 hb⟩
set_option maxRecDepth 100000 in
set_option maxHeartbeats 1000000 in
theorem idxfV (k : Nat) (may : VC → Bool) (g : Nat) (A : Option Addr) (n c : Nat) (Vs : List VC) (w : World) (h : RdS w w.heap.size 5 A n c (rowsV vC Vs)) (hn : n ≤ 1000000)
    (he : Ent k) (hg : Whole w g 85 [.func (.func k) #[] #[]]) (hk : ∀ v ∈ Vs, ∀ W, Below w.heap.size w W → TellsV k may v W) :
    Calls Tryz.prog 88 #[.slice A n c, .func (.func 72) #[] #[.pointer (some ⟨g, 0, none⟩)]] w fun e w' => (∃ i : Int, e = .returned (.int .i64 i) ∧ decide (0 ≤ i) = Vs.any (fun v => !may v)) ∧ Below w.heap.size w w' := by
  have hl := h.rlen vC_len (by decide)
  have H := Lib.hid h
  have Hl := Lib.hid hl
  have HN : RowKit.Hid (∀ v ∈ Vs, ∀ W, Below w.heap.size w W → Calls Tryz.prog 72 #[.agg (vC v).toArray, .pointer (some ⟨g, 0, none⟩)] W fun e w' => e = .returned (.bool (!may v)) ∧ Below W.heap.size W w') :=
    Lib.hid (fun v hv W hb => notV k may v g W he (hg.below hb) fun W' hb' => hk v hv W' (bel_bl hb hb'))
  clear h hl hg hk
  go_enter Tryz.func88, Tryz.ntmps88
  go_wp2
  go_loopw [8] (fun si wr => ∃ j : Nat, j ≤ n ∧ si = .int .i64 j ∧ RowKit.Hid (Below w.heap.size w wr) ∧ RowKit.Hid (Vs.any (fun v => !may v) = (Vs.drop j).any (fun v => !may v))) (fun si _ => n - (intOf si).toNat)
  case atStart => exact ⟨0, by omega, rfl, Lib.hid (Below.refl _ _), Lib.hid rfl⟩
  case round =>
    obtain ⟨j, hj, rfl, HB, HE⟩ := hrel
    by_cases hjn : j < n
    · obtain ⟨v, hx⟩ : ∃ v, Vs[j]? = some v := ⟨_, List.getElem?_eq_getElem (by have := Hl.out; omega)⟩
      have hdr : Vs.drop j = v :: Vs.drop (j + 1) := by
        rw [List.drop_eq_getElem_cons (List.getElem?_eq_some_iff.1 hx).1, (List.getElem?_eq_some_iff.1 hx).2]
      have HE2 := HE.out
      rw [hdr] at HE2
      have HE3 := Lib.hid HE2
      have hcn := HN.out v (List.mem_of_getElem? hx)
      obtain ⟨b, hmy⟩ : ∃ b, may v = b := ⟨_, rfl⟩
      rw [hmy] at hcn
      have Hmy := Lib.hid hmy
      obtain ⟨bb, off, rfl, hbB, hpl⟩ := H.out.place vC_len (by decide) (by omega)
      have hbw := HB.out
      have q0 := hpl j _ hx 0 _ rfl
      have q1 := hpl j _ hx 1 _ rfl
      have q2 := hpl j _ hx 2 _ rfl
      have q3 := hpl j _ hx 3 _ rfl
      have q4 := hpl j _ hx 4 _ rfl
      simp only [Addr.add_lit, Nat.add_zero] at q0 q1 q2 q3 q4
      have l0 := (hbw.cell (p := ⟨bb, off + j * 5, none⟩) hbB).trans q0
      have l1 := (hbw.cell (p := ⟨bb, off + j * 5 + 1, none⟩) hbB).trans q1
      have l2 := (hbw.cell (p := ⟨bb, off + j * 5 + 2, none⟩) hbB).trans q2
      have l3 := (hbw.cell (p := ⟨bb, off + j * 5 + 3, none⟩) hbB).trans q3
      have l4 := (hbw.cell (p := ⟨bb, off + j * 5 + 4, none⟩) hbB).trans q4
      obtain ⟨⟨i1, i2⟩, ⟨rA, rn, rc, rL⟩, lb, at_⟩ := v
      replace hcn : ∀ W, Below w.heap.size w W → Calls Tryz.prog 72 #[.agg #[.int .i64 i1, .int .i64 i2, .slice rA rn rc, .string lb, .int .i64 at_], .pointer (some ⟨g, 0, none⟩)] W fun e w' => e = .returned (.bool (!b)) ∧ Below W.heap.size W w' := hcn
      have HC := Lib.hid hcn
      clear hx hdr HE2 hpl hbw q0 q1 q2 q3 q4 hcn hbB HE hmy
      go_wp2_with fail
      refine (HC.out _ HB.out).mono ?_
      rintro e w3 ⟨rfl, hb3⟩
      have HB3 : RowKit.Hid (Below w.heap.size w w3) := Lib.hid (bel_bl HB.out hb3)
      clear hb3 l0 l1 l2 l3 l4
      cases b with
      | false =>
        have hr : Vs.any (fun v => !may v) = true := by rw [HE3.out, List.any_cons, Hmy.out]; rfl
        go_wp2
        go_ret
        exact ⟨⟨_, rfl, by rw [hr]; exact decide_eq_true (by omega)⟩, HB3.out⟩
      | true =>
        have HE4 : RowKit.Hid (Vs.any (fun v => !may v) = (Vs.drop (j + 1)).any (fun v => !may v)) := Lib.hid (by rw [HE3.out, List.any_cons, Hmy.out]; rfl)
        go_wp2
        go_roundw
        case rel => exact ⟨j + 1, by omega, by go_num, HB3, HE4⟩
        case measure => simp [intOf]; omega
    · obtain rfl : n = j := by omega
      have hr : Vs.any (fun v => !may v) = false := by
        rw [HE.out, List.drop_eq_nil_of_le (by have := Hl.out; omega)]; rfl
      go_wp2
      go_ret
      exact ⟨⟨_, rfl, by rw [hr]; rfl⟩, HB.out⟩
set_option maxRecDepth 100000 in
theorem hasV (k : Nat) (may : VC → Bool) (g : Nat) (A : Option Addr) (n c : Nat) (Vs : List VC) (w : World) (h : RdS w w.heap.size 5 A n c (rowsV vC Vs)) (hn : n ≤ 1000000)
    (he : Ent k) (hg : Whole w g 85 [.func (.func k) #[] #[]]) (hk : ∀ v ∈ Vs, ∀ W, Below w.heap.size w W → TellsV k may v W) :
    Calls Tryz.prog 71 #[.slice A n c, .func (.func 72) #[] #[.pointer (some ⟨g, 0, none⟩)]] w fun e w' => e = .returned (.bool (Vs.any (fun v => !may v))) ∧ Below w.heap.size w w' := by
  have HC := Lib.hid (idxfV k may g A n c Vs w h hn he hg hk)
  obtain ⟨b, hb⟩ : ∃ b, Vs.any (fun v => !may v) = b := ⟨_, rfl⟩
  rw [hb] at HC ⊢
  clear h hg hk hb
  go_enter Tryz.func71, Tryz.ntmps71
  go_wp2_with fail
  refine HC.out.mono ?_
  rintro e w3 ⟨⟨i, rfl, hi⟩, hb⟩
  go_wp2
  go_ret
  exact ⟨by first | exact rfl | exact congrArg (fun b => Ending.returned (Value.bool b)) hi, hb⟩
set_option maxRecDepth 100000 in
theorem allV (k : Nat) (may : VC → Bool) (A : Option Addr) (n c : Nat) (Vs : List VC) (w : World) (h : RdS w w.heap.size 5 A n c (rowsV vC Vs)) (hn : n ≤ 1000000)
    (he : Ent k) (hk : ∀ v ∈ Vs, ∀ W, Below w.heap.size w W → TellsV k may v W) :
    Calls Tryz.prog 49 #[.slice A n c, .func (.func k) #[] #[]] w fun e w' => e = .returned (.bool (Vs.all may)) ∧ Below w.heap.size w w' := by
  have HC := Lib.hid (hasV k may w.heap.size A n c Vs (w.alloc (.cells #[.func (.func k) #[] #[]] 85)) (h.al _) hn he (Whole.new_ w 85 [.func (.func k) #[] #[]]) fun v hv W hb => hk v hv W (below_after1 hb))
  obtain ⟨b, hb⟩ : ∃ b, Vs.all may = b := ⟨_, rfl⟩
  have hb2 : Vs.any (fun v => !may v) = !b := by
    rw [← hb]; simp [List.any_eq_not_all_not]
  rw [hb2] at HC
  rw [hb]
  clear h hk hb hb2
  go_enter Tryz.func49, Tryz.ntmps49
  go_wp2_with fail
  refine HC.out.mono ?_
  rintro e w3 ⟨rfl, hb⟩
  go_wp2
  go_ret
  exact ⟨by cases b <;> rfl, below_after1 hb⟩
/-- What a function tells of one. -/
def TellsE (k : Nat) (may : EC → Bool) (v : EC) (W : World) : Prop :=
  Calls Tryz.prog k #[.agg (eC v).toArray] W fun e w' => e = .returned (.bool (may v)) ∧ Below W.heap.size W w'
set_option maxRecDepth 100000 in
theorem notE (k : Nat) (may : EC → Bool) (v : EC) (g : Nat) (w : World) (he : Ent k) (hg : Whole w g 87 [.func (.func k) #[] #[]]) (hk : ∀ W, Below w.heap.size w W → TellsE k may v W) :
    Calls Tryz.prog 75 #[.agg (eC v).toArray, .pointer (some ⟨g, 0, none⟩)] w fun e w' => e = .returned (.bool (!may v)) ∧ Below w.heap.size w w' := by
  obtain ⟨b, hmy⟩ : ∃ b, may v = b := ⟨_, rfl⟩
  have HK : RowKit.Hid (∀ W, Below w.heap.size w W → Calls Tryz.prog k #[.agg (eC v).toArray] W fun e w' => e = .returned (.bool b) ∧ Below W.heap.size W w') := Lib.hid (by rw [← hmy]; exact hk)
  rw [hmy]
  clear hk hmy
  obtain ⟨⟨i1, i2⟩, lb, at_⟩ := v
  replace HK : RowKit.Hid (∀ W, Below w.heap.size w W → Calls Tryz.prog k #[.agg #[.int .i64 i1, .int .i64 i2, .string lb, .int .i64 at_]] W fun e w' => e = .returned (.bool b) ∧ Below W.heap.size W w') := HK
  show Calls Tryz.prog 75 #[.agg #[.int .i64 i1, .int .i64 i2, .string lb, .int .i64 at_], .pointer (some ⟨g, 0, none⟩)] w _
  have c0 := (hg.below (below1 w (.cells #[.int .i64 i1, .int .i64 i2, .string lb, .int .i64 at_] 43))).cell (i := 0) rfl
  go_enter Tryz.func75, Tryz.ntmps75
  have HE := Lib.hid he
  clear he
  go_wp2_with fail
  rw [HE.out, Oper.upon_enter]
  refine (HK.out _ (below1 _ _)).mono ?_
  rintro e w3 ⟨rfl, hb⟩
  go_wp2
  go_ret
  exact ⟨rfl, below_after1 hb⟩
set_option maxRecDepth 100000 in
set_option maxHeartbeats 1000000 in
theorem idxfE (k : Nat) (may : EC → Bool) (g : Nat) (A : Option Addr) (n c : Nat) (Vs : List EC) (w : World) (h : RdS w w.heap.size 4 A n c (rowsV eC Vs)) (hn : n ≤ 1000000)
    (he : Ent k) (hg : Whole w g 87 [.func (.func k) #[] #[]]) (hk : ∀ v ∈ Vs, ∀ W, Below w.heap.size w W → TellsE k may v W) :
    Calls Tryz.prog 89 #[.slice A n c, .func (.func 75) #[] #[.pointer (some ⟨g, 0, none⟩)]] w fun e w' => (∃ i : Int, e = .returned (.int .i64 i) ∧ decide (0 ≤ i) = Vs.any (fun v => !may v)) ∧ Below w.heap.size w w' := by
  have hl := h.rlen eC_len (by decide)
  have H := Lib.hid h
  have Hl := Lib.hid hl
  have HN : RowKit.Hid (∀ v ∈ Vs, ∀ W, Below w.heap.size w W → Calls Tryz.prog 75 #[.agg (eC v).toArray, .pointer (some ⟨g, 0, none⟩)] W fun e w' => e = .returned (.bool (!may v)) ∧ Below W.heap.size W w') :=
    Lib.hid (fun v hv W hb => notE k may v g W he (hg.below hb) fun W' hb' => hk v hv W' (bel_bl hb hb'))
  clear h hl hg hk
  go_enter Tryz.func89, Tryz.ntmps89
  go_wp2
  go_loopw [8] (fun si wr => ∃ j : Nat, j ≤ n ∧ si = .int .i64 j ∧ RowKit.Hid (Below w.heap.size w wr) ∧ RowKit.Hid (Vs.any (fun v => !may v) = (Vs.drop j).any (fun v => !may v))) (fun si _ => n - (intOf si).toNat)
  case atStart => exact ⟨0, by omega, rfl, Lib.hid (Below.refl _ _), Lib.hid rfl⟩
  case round =>
    obtain ⟨j, hj, rfl, HB, HE⟩ := hrel
    by_cases hjn : j < n
    · obtain ⟨v, hx⟩ : ∃ v, Vs[j]? = some v := ⟨_, List.getElem?_eq_getElem (by have := Hl.out; omega)⟩
      have hdr : Vs.drop j = v :: Vs.drop (j + 1) := by
        rw [List.drop_eq_getElem_cons (List.getElem?_eq_some_iff.1 hx).1, (List.getElem?_eq_some_iff.1 hx).2]
      have HE2 := HE.out
      rw [hdr] at HE2
      have HE3 := Lib.hid HE2
      have hcn := HN.out v (List.mem_of_getElem? hx)
      obtain ⟨b, hmy⟩ : ∃ b, may v = b := ⟨_, rfl⟩
      rw [hmy] at hcn
      have Hmy := Lib.hid hmy
      obtain ⟨bb, off, rfl, hbB, hpl⟩ := H.out.place eC_len (by decide) (by omega)
      have hbw := HB.out
      have q0 := hpl j _ hx 0 _ rfl
      have q1 := hpl j _ hx 1 _ rfl
      have q2 := hpl j _ hx 2 _ rfl
      have q3 := hpl j _ hx 3 _ rfl
      simp only [Addr.add_lit, Nat.add_zero] at q0 q1 q2 q3
      have l0 := (hbw.cell (p := ⟨bb, off + j * 4, none⟩) hbB).trans q0
      have l1 := (hbw.cell (p := ⟨bb, off + j * 4 + 1, none⟩) hbB).trans q1
      have l2 := (hbw.cell (p := ⟨bb, off + j * 4 + 2, none⟩) hbB).trans q2
      have l3 := (hbw.cell (p := ⟨bb, off + j * 4 + 3, none⟩) hbB).trans q3
      obtain ⟨⟨i1, i2⟩, lb, at_⟩ := v
      replace hcn : ∀ W, Below w.heap.size w W → Calls Tryz.prog 75 #[.agg #[.int .i64 i1, .int .i64 i2, .string lb, .int .i64 at_], .pointer (some ⟨g, 0, none⟩)] W fun e w' => e = .returned (.bool (!b)) ∧ Below W.heap.size W w' := hcn
      have HC := Lib.hid hcn
      clear hx hdr HE2 hpl hbw q0 q1 q2 q3 hcn hbB HE hmy
      go_wp2_with fail
      refine (HC.out _ HB.out).mono ?_
      rintro e w3 ⟨rfl, hb3⟩
      have HB3 : RowKit.Hid (Below w.heap.size w w3) := Lib.hid (bel_bl HB.out hb3)
      clear hb3 l0 l1 l2 l3
      cases b with
      | false =>
        have hr : Vs.any (fun v => !may v) = true := by rw [HE3.out, List.any_cons, Hmy.out]; rfl
        go_wp2
        go_ret
        exact ⟨⟨_, rfl, by rw [hr]; exact decide_eq_true (by omega)⟩, HB3.out⟩
      | true =>
        have HE4 : RowKit.Hid (Vs.any (fun v => !may v) = (Vs.drop (j + 1)).any (fun v => !may v)) := Lib.hid (by rw [HE3.out, List.any_cons, Hmy.out]; rfl)
        go_wp2
        go_roundw
        case rel => exact ⟨j + 1, by omega, by go_num, HB3, HE4⟩
        case measure => simp [intOf]; omega
    · obtain rfl : n = j := by omega
      have hr : Vs.any (fun v => !may v) = false := by
        rw [HE.out, List.drop_eq_nil_of_le (by have := Hl.out; omega)]; rfl
      go_wp2
      go_ret
      exact ⟨⟨_, rfl, by rw [hr]; rfl⟩, HB.out⟩
set_option maxRecDepth 100000 in
theorem hasE (k : Nat) (may : EC → Bool) (g : Nat) (A : Option Addr) (n c : Nat) (Vs : List EC) (w : World) (h : RdS w w.heap.size 4 A n c (rowsV eC Vs)) (hn : n ≤ 1000000)
    (he : Ent k) (hg : Whole w g 87 [.func (.func k) #[] #[]]) (hk : ∀ v ∈ Vs, ∀ W, Below w.heap.size w W → TellsE k may v W) :
    Calls Tryz.prog 74 #[.slice A n c, .func (.func 75) #[] #[.pointer (some ⟨g, 0, none⟩)]] w fun e w' => e = .returned (.bool (Vs.any (fun v => !may v))) ∧ Below w.heap.size w w' := by
  have HC := Lib.hid (idxfE k may g A n c Vs w h hn he hg hk)
  obtain ⟨b, hb⟩ : ∃ b, Vs.any (fun v => !may v) = b := ⟨_, rfl⟩
  rw [hb] at HC ⊢
  clear h hg hk hb
  go_enter Tryz.func74, Tryz.ntmps74
  go_wp2_with fail
  refine HC.out.mono ?_
  rintro e w3 ⟨⟨i, rfl, hi⟩, hb⟩
  go_wp2
  go_ret
  exact ⟨by first | exact rfl | exact congrArg (fun b => Ending.returned (Value.bool b)) hi, hb⟩
set_option maxRecDepth 100000 in
theorem allE (k : Nat) (may : EC → Bool) (A : Option Addr) (n c : Nat) (Vs : List EC) (w : World) (h : RdS w w.heap.size 4 A n c (rowsV eC Vs)) (hn : n ≤ 1000000)
    (he : Ent k) (hk : ∀ v ∈ Vs, ∀ W, Below w.heap.size w W → TellsE k may v W) :
    Calls Tryz.prog 51 #[.slice A n c, .func (.func k) #[] #[]] w fun e w' => e = .returned (.bool (Vs.all may)) ∧ Below w.heap.size w w' := by
  have HC := Lib.hid (hasE k may w.heap.size A n c Vs (w.alloc (.cells #[.func (.func k) #[] #[]] 87)) (h.al _) hn he (Whole.new_ w 87 [.func (.func k) #[] #[]]) fun v hv W hb => hk v hv W (below_after1 hb))
  obtain ⟨b, hb⟩ : ∃ b, Vs.all may = b := ⟨_, rfl⟩
  have hb2 : Vs.any (fun v => !may v) = !b := by
    rw [← hb]; simp [List.any_eq_not_all_not]
  rw [hb2] at HC
  rw [hb]
  clear h hk hb hb2
  go_enter Tryz.func51, Tryz.ntmps51
  go_wp2_with fail
  refine HC.out.mono ?_
  rintro e w3 ⟨rfl, hb⟩
  go_wp2
  go_ret
  exact ⟨by cases b <;> rfl, below_after1 hb⟩
end Go.Proofs.YtmkflebkifbpfaaGreat
/- turned: each ring begins with its least dart. -/
namespace Go.Proofs.YtmkflebkifbpfaaGreat
open Go.RowKit
theorem entVL : Ent 50 := ent_of Tryz.func50 (by kernel_rfl) rfl
theorem entEL : Ent 52 := ent_of Tryz.func52 (by kernel_rfl) rfl
theorem entVA : Ent 53 := ent_of Tryz.func53 (by kernel_rfl) rfl
theorem entEA : Ent 54 := ent_of Tryz.func54 (by kernel_rfl) rfl
theorem entVT : Ent 68 := ent_of Tryz.func68 (by kernel_rfl) rfl
theorem RgOk.below {w w' : World} {r : Rg} (h : RgOk w r) (hb : Below w.heap.size w w') : RgOk w' r := ⟨h.1, h.2.bl hb⟩
def turnOk (v : VC) : Bool := decide (v.2.1.2.2.2 = turnD v.2.1.2.2.2)
set_option maxRecDepth 100000 in
set_option maxHeartbeats 1000000 in
theorem turnedV (v : VC) (w : World) (h : RgOk w v.2.1) (hn : v.2.1.2.1 ≤ 1000000) : TellsV 68 turnOk v w := by
  unfold TellsV turnOk
  obtain ⟨⟨i1, i2⟩, ⟨rA, rn, rc, rL⟩, lb, at_⟩ := v
  have hr : RdS w w.heap.size 3 rA rn rc (dartsV rL) := h.2
  replace hn : rn ≤ 1000000 := hn
  show Calls Tryz.prog 68 #[.agg #[.int .i64 i1, .int .i64 i2, .slice rA rn rc, .string lb, .int .i64 at_]] w fun e w' => e = .returned (.bool (decide (rL = turnD rL))) ∧ Below w.heap.size w w'
  obtain ⟨b, gb⟩ : ∃ b, decide (rL = turnD rL) = b := ⟨_, rfl⟩
  rw [gb]
  have Gb := Lib.hid gb
  have HR0 := Lib.hid (hr.al (.cells #[.int .i64 i1, .int .i64 i2, .slice rA rn rc, .string lb, .int .i64 at_] 47))
  have HW0 := Lib.hid (Whole.new_ w 47 [.int .i64 i1, .int .i64 i2, .slice rA rn rc, .string lb, .int .i64 at_])
  have HB0 := Lib.hid (below1 w (.cells #[.int .i64 i1, .int .i64 i2, .slice rA rn rc, .string lb, .int .i64 at_] 47))
  clear h hr gb
  go_enter Tryz.func68, Tryz.ntmps68
  go_upto_region 1 with fail
  obtain ⟨W1, gW1⟩ : ∃ x, w.alloc (.cells #[.int .i64 i1, .int .i64 i2, .slice rA rn rc, .string lb, .int .i64 at_] 47) = x := ⟨_, rfl⟩
  obtain ⟨g, gg⟩ : ∃ x, w.heap.size = x := ⟨_, rfl⟩
  have HB1 : RowKit.Hid (Below w.heap.size w W1) := Lib.hid (by rw [← gW1]; exact HB0.out)
  have HR1 : RowKit.Hid (RdS W1 W1.heap.size 3 rA rn rc (dartsV rL)) := Lib.hid (by rw [← gW1]; exact HR0.out)
  have HW1 : RowKit.Hid (Whole W1 g 47 [.int .i64 i1, .int .i64 i2, .slice rA rn rc, .string lb, .int .i64 at_]) := Lib.hid (by rw [← gW1, ← gg]; exact HW0.out)
  have HB1' : RowKit.Hid (Below g w W1) := Lib.hid (by rw [← gg]; exact HB1.out)
  clear HB0 HR0 HW0
  rw [gW1, gg]
  clear HB1 gW1
  have Gg := Lib.hid gg
  clear gg
  have ld1 : ∀ w', Kept Nil_ W1.drew w' → w'.cell? ⟨g, 2, none⟩ = some (.slice rA rn rc) := fun w' hk => hk.nil_cell (HW1.out.dr.cell (i := 2) rfl)
  refine wp_region_reg (Nil_) (by kernel_rfl) ?_
  refine opR_ 0 3 (v := ?_) ?_ ?_; rotate_left
  · intro w' hw'; go_simp; (try with_reducible rfl)
  simp only [st0_, st1_]
  refine opR_ 1 4 (v := ?_) ?_ ?_; rotate_left
  · intro w' hw'; go_simp; (try with_reducible rfl)
  simp only [st0_, st1_]
  refine opR_ 2 5 (v := ?_) ?_ ?_; rotate_left
  · intro w' hw'; go_simp; (try with_reducible rfl)
  simp only [st0_, st1_]
  refine opR_ 3 6 (v := ?_) ?_ ?_; rotate_left
  · intro w' hw'; go_simp; (try with_reducible rfl)
  simp only [st0_, st1_]
  apply wpR_call 4 (some 7)
  · rfl
  · rfl
  · kernel_rfl
  · rfl
  · intro w'; go_simp; first | done | exact ⟨rfl, rfl⟩ | with_reducible rfl
  intro w' hw'
  refine (turn_any rA rn rc rL w' (HR1.out.dr.bl hw') hn).mono ?_
  rintro e w'' ⟨A2, c2, rfl, h2, hbl⟩
  have hr2 := (HR1.out.dr.bl hw').bl hbl
  have HQ : RowKit.Hid (∀ w1, Kept Nil_ w'' w1 → Calls Tryz.prog 69 #[.slice rA rn rc, .slice A2 (turnD rL).length c2] w1 fun e w3 => e = .returned (.bool b) ∧ Below w1.heap.size w1 w3) := Lib.hid (fun w1 hk => by
    have hB : Below w''.heap.size w'' w1 := hk.below (Nat.le_refl _) (fun _ _ h => h)
    have := sequal_any rA A2 rn (turnD rL).length rc c2 rL (turnD rL) w1 (hr2.bl hB) (h2.bl hB) (by omega)
    rw [Gb.out] at this
    exact this)
  refine ⟨_, rfl, Kept.of_below hbl, ?_⟩
  have HX : RowKit.Hid (Ext W1.drew w'') := Lib.hid (Ext.trans hw' hbl)
  obtain ⟨V2, gV2⟩ : ∃ x, w'' = x := ⟨_, rfl⟩
  obtain ⟨m2, gm2⟩ : ∃ x, (turnD rL).length = x := ⟨_, rfl⟩
  rw [gV2, gm2] at HQ
  rw [gV2] at HX ⊢
  rw [gm2]
  clear hw' hbl hr2 h2 gV2 gm2
  simp only [Act.put, stA_, st0_, st1_]
  refine opX_ 5 8 ?_
  apply Exists.intro
  apply And.intro
  · apply yr_call; rfl; rotate_left; intro w' hw'; exact HQ.out w' hw'; intro w'; go_simp
  simp only [st0_, st1_]
  refine opR_ 6 2 (v := ?_) ?_ ?_; rotate_left
  · intro w' hw'; go_simp; (try with_reducible rfl)
  simp only [st0_, st1_]
  refine wpR_done (by kernel_rfl) ?_ _
  intro W3 hw3
  have HB3 : RowKit.Hid (Below w.heap.size w W3) := Lib.hid (bel_bl (bel_dr (show Below w.heap.size w W1 by rw [Gg.out]; exact HB1'.out)) (Ext.trans HX.out hw3))
  clear hw3 ld1
  go_wp2
  go_ret
  exact ⟨rfl, HB3.out⟩
set_option maxRecDepth 100000 in
theorem turned_all (A : Option Addr) (n c : Nat) (Vs : List VC) (B : Option Addr) (m k : Nat) (Es : List EC) (w : World) (h : DgIn w A n c Vs B m k Es) (hn : n ≤ 1000000) (hr : ∀ x ∈ Vs, x.2.1.2.1 ≤ 1000000) :
    Calls Tryz.prog 47 #[.agg #[.slice A n c, .slice B m k]] w fun e w' => e = .returned (.bool (Vs.all turnOk)) ∧ Below w.heap.size w w' := by
  have HC := Lib.hid (allV 68 turnOk A n c Vs (w.alloc (.cells #[.slice A n c, .slice B m k] 25)) (h.v.al _) hn entVT fun v hv W hb => turnedV v W ((h.r v hv).below (below_after1 hb)) (hr v hv))
  obtain ⟨b, hb⟩ : ∃ b, Vs.all turnOk = b := ⟨_, rfl⟩
  rw [hb] at HC ⊢
  clear h hb hr
  go_enter Tryz.func47, Tryz.ntmps47
  go_wp2_with fail
  refine HC.out.mono ?_
  rintro e w3 ⟨rfl, hb⟩
  go_wp2
  go_ret
  exact ⟨rfl, below_after1 hb⟩
end Go.Proofs.YtmkflebkifbpfaaGreat
/- A dart as a key; a set of darts. -/
namespace Go.Proofs.YtmkflebkifbpfaaGreat
open Go.RowKit Go.Maps
def wfD (d : D) : Prop := (Lit.int .i64 d.1).wf = true ∧ (Lit.int .i64 d.2.1).wf = true ∧ (Lit.int .i64 d.2.2).wf = true
def kD (d : D) : Lit := .string (keyBytes [.int .i64 d.1, .int .i64 d.2.1, .int .i64 d.2.2])
theorem wide_dart : (match Tryz.prog.underlying 49 with | some (.array _ _) | some (.struct _) => true | _ => false) = true := by rw [Tryz.underlying49]
theorem laid_prog : laidOutB Tryz.prog = true := by kernel_rfl
set_option maxRecDepth 100000 in
theorem law_dart : WideMaps.KeyLaw Tryz.prog 49 := deep_law_laid laid_prog (m := 3) (by omega) (by show 49 < Tryz.prog.types.size; rw [show Tryz.prog.types.size = Tryz.prog.types.size from rfl]; decide) (by kernel_rfl) wide_dart
theorem keyed_dart : Keyed Tryz.prog 49 := Keyed.of_law law_dart
theorem lits_dart (m : Nat) (d : D) (h : wfD d) : Tryz.prog.keyLits (m + 3) 49 (dC d) = some [.int .i64 d.1, .int .i64 d.2.1, .int .i64 d.2.2] := by
  obtain ⟨h1, h2, h3⟩ := h
  have c1 : Tryz.prog.cellsOf 49 = 3 := by kernel_rfl
  have c2 : Tryz.prog.cellsOf 41 = 2 := by kernel_rfl
  have c3 : Tryz.prog.cellsOf 3 = 1 := by kernel_rfl
  have i1 : ∀ (n : Nat) (x : Int), (Lit.int .i64 x).wf = true → Tryz.prog.keyLits (n + 1) 3 [.int .i64 x] = some [.int .i64 x] := fun n x hx => by simp [Program.keyLits, Tryz.underlying3, hx]
  have i2 : ∀ n, Tryz.prog.keyLits (n + 2) 41 [.int .i64 d.1, .int .i64 d.2.1] = some [.int .i64 d.1, .int .i64 d.2.1] := fun n => by
    unfold Program.keyLits
    simp only [Tryz.underlying41, c2]
    rw [if_pos ⟨rfl, by kernel_rfl⟩]
    simp [c3, i1, h1, h2]
  unfold Program.keyLits
  simp only [Tryz.underlying49, c1]
  rw [if_pos ⟨rfl, by kernel_rfl⟩]
  simp [c2, c3, i1, i2, h3, dC]
theorem key_dart (d : D) (h : wfD d) : keyOf Tryz.prog 49 (.agg (dC d).toArray) = some (kD d) := by
  have hk : Tryz.prog.keyType 49 = true := by kernel_rfl
  have c1 : Tryz.prog.cellsOf 49 = 3 := by kernel_rfl
  have hf : (Value.agg (dC d).toArray).formed Tryz.prog 49 = true := by simp [Value.formed, Tryz.underlying49, c1, dC]
  obtain ⟨m, hm⟩ : ∃ m, Tryz.prog.types.size + 1 = m + 3 := ⟨Tryz.prog.types.size - 2, by kernel_rfl⟩
  have hl := lits_dart m d h
  rw [← hm] at hl
  unfold keyOf
  simp only [Tryz.underlying49, hk, hf, Value.cells, Bool.and_self, if_true]
  rw [hl]
  rfl
theorem kD_inj {a b : D} (ha : wfD a) (hb : wfD b) (h : kD a = kD b) : a = b := by
  have := keyed_dart.inj (key_dart a ha) (by rw [h]; exact key_dart b hb)
  simp [dC] at this
  obtain ⟨a1, a2, a3⟩ := a
  obtain ⟨b1, b2, b3⟩ := b
  simp_all
theorem kD_key {a : D} (ha : wfD a) : WideAt.IsKeyLit (kD a) := keyed_dart.key (key_dart a ha)
/-- The datum is this set of darts. -/
structure SetD {H : Type} (Dt : DataW H) (S : List D) : Prop where
  tidy : Tidy Dt
  nd : S.Nodup
  wf : ∀ d ∈ S, wfD d
  size : Maps.size Dt = S.length
  has : ∀ d, wfD d → Maps.has Dt (kD d) = decide (d ∈ S)
def insD (d : D) (S : List D) : List D := if d ∈ S then S else d :: S
theorem SetD.empty {H : Type} : SetD (.map [] : DataW H) [] := ⟨tidy_empty, List.nodup_nil, by simp, rfl, fun d _ => by simp [Maps.has]⟩
theorem SetD.put {H : Type} {Dt : DataW H} {S : List D} (h : SetD Dt S) (d : D) (hd : wfD d) (u : DataW H) : SetD (Dt.put (kD d) u) (insD d S) := by
  have hm := h.has d hd
  refine ⟨h.tidy.put (kD_key hd) u, ?_, ?_, ?_, ?_⟩
  · unfold insD
    split
    · exact h.nd
    · rename_i hn; exact List.nodup_cons.2 ⟨hn, h.nd⟩
  · intro x hx
    unfold insD at hx
    split at hx
    · exact h.wf x hx
    · rcases List.mem_cons.1 hx with rfl | hx
      · exact hd
      · exact h.wf x hx
  · rw [size_put h.tidy, hm, h.size]
    unfold insD
    split <;> simp_all
  · intro x hx
    by_cases e : x = d
    · subst e
      rw [has_put_same h.tidy.isMap (kD_key hd)]
      unfold insD
      split <;> simp_all
    · rw [has_put_other (fun e' => e (kD_inj hx hd e')), h.has x hx]
      unfold insD
      split <;> simp_all
theorem SetD.del {H : Type} {Dt : DataW H} {S : List D} (h : SetD Dt S) (d : D) (hd : wfD d) (hm : d ∈ S) : SetD (Dt.del (kD d)) (S.erase d) := by
  have hh : Maps.has Dt (kD d) = true := by rw [h.has d hd]; exact decide_eq_true hm
  refine ⟨h.tidy.del _, h.nd.erase _, fun x hx => h.wf x (List.mem_of_mem_erase hx), ?_, ?_⟩
  · have h1 := size_del (k := kD d) h.tidy
    have h2 := List.length_erase_of_mem hm
    have h3 := List.length_pos_of_mem hm
    rw [hh] at h1
    simp only [if_true] at h1
    have := h.size
    omega
  · intro x hx
    by_cases e : x = d
    · subst e
      rw [has_del_same]
      exact (decide_eq_false (fun hc => by have := (h.nd.mem_erase_iff).1 hc; exact this.1 rfl)).symm
    · rw [has_del_other (fun e' => e (kD_inj hx hd e')), h.has x hx]
      rw [decide_eq_decide, h.nd.mem_erase_iff]
      simp [e]
end Go.Proofs.YtmkflebkifbpfaaGreat
/- eachOnce: just the darts of the edges stand in rings, each once. -/
namespace Go.Proofs.YtmkflebkifbpfaaGreat
open Go.RowKit Go.Maps
def onceF : List D → List D → Bool
  | S, [] => decide (S.length = 0)
  | S, x :: r => if x ∈ S then onceF (S.erase x) r else false
def edS : List EC → List D → List D
  | [], S => S
  | e :: r, S => edS r (insD (e.1.1, e.1.2, 1) (insD (e.1.1, e.1.2, 0) S))
def ringsOf (Vs : List VC) : List D := Vs.flatMap (·.2.1.2.2.2)
theorem bel_grown {w W w1 : World} {b : Nat} (h : Below w.heap.size w W) (hg : W.grownBy w1 (some b)) (hb : w.heap.size ≤ b) : Below w.heap.size w w1 :=
  ⟨hg.os.trans h.os, hg.tape.trans h.tape, hg.output.trans h.output, Nat.le_trans h.size hg.size, fun i hi => (hg.block i (Nat.lt_of_lt_of_le hi h.size) (by intro e; cases e; omega)).trans (h.block i hi)⟩
theorem whole_grown {W w1 : World} {b g : Nat} {t : TypeId} {cs : List Value} (h : Whole W g t cs) (hg : W.grownBy w1 (some b)) (hne : g ≠ b) : Whole w1 g t cs :=
  h.at_ (hg.block g h.lt (by intro e; cases e; exact hne rfl))
theorem zero_unit (w : World) : (zeroValue 100).run Tryz.prog w = .ok (.agg #[]) w := by
  obtain ⟨i, hi, hz⟩ : ∃ i, Tryz.prog.info? 100 = some i ∧ i.zero = some (.agg #[]) := by
    have h : (Tryz.prog.info? 100).map (·.zero) = some (some (.agg #[])) := by kernel_rfl
    cases h2 : Tryz.prog.info? 100 with
    | none => rw [h2] at h; cases h
    | some i => rw [h2] at h; exact ⟨i, rfl, by simpa using h⟩
  simp [zeroValue, typeInfo, hi, hz]
/-- The map in block b of wr is this set of darts. -/
def MapS (wr : World) (b n : Nat) (S : List D) : Prop := ∃ Dt : DataW Unit, wr.ownsMap Tryz.prog 49 unitElem b n Dt ∧ SetD Dt S
theorem MapS.alloc {w : World} {b n : Nat} {S : List D} (h : MapS w b n S) (o : Obj) : MapS (w.alloc o) b n S := let ⟨Dt, h1, h2⟩ := h; ⟨Dt, h1.alloc o, h2⟩
theorem MapS.mono {w : World} {b n n' : Nat} {S : List D} (h : MapS w b n S) (hn : n ≤ n') : MapS w b n' S := let ⟨Dt, h1, h2⟩ := h; ⟨Dt, h1.mono hn, h2⟩
theorem MapS.lt {w : World} {b n : Nat} {S : List D} (h : MapS w b n S) : b < w.heap.size := let ⟨_, h1, _⟩ := h; h1.lt
section
variable {ops : Array Oper} {rest : List Oper} {o : Oper} {a : Act} {Q : Exit → Act → World → Prop} {w : World}
theorem wl_put (hg : o.guard = none) (m x v : Operand) (hop : o.op = Op.mapUpdate 99 m x v) (b n : Nat) (S : List D) (hm : a.eval m = .map (some b)) (hS : MapS w b n S) (hn : n < maxLen) (d : D) (hd : wfD d)
    (hx : a.eval x = .agg #[.int .i64 d.1, .int .i64 d.2.1, .int .i64 d.2.2]) (hv : a.eval v = .agg #[])
    (hK : ∀ w', MapS w' b (n + 1) (insD d S) → w.grownBy w' (some b) → wpList Tryz.prog ops Q rest (a.put o.dst undef) w') : wpList Tryz.prog ops Q (o :: rest) a w := by
  obtain ⟨Dt, h1, h2⟩ := hS
  exact wpList_mapUpdate_own w hg m x v 99 hop 49 100 keyed_dart Tryz.underlying99 unitElem b n Dt hm h1 hn _ _ (kD d) hx hv (key_dart d hd) (.agg []) [] unitElem_mk
    fun w' r1 r2 => hK w' ⟨_, r1, h2.put d hd _⟩ r2
theorem wl_has (hg : o.guard = none) (m x : Operand) (hop : o.op = Op.lookup 99 m x true) (b n : Nat) (S : List D) (hm : a.eval m = .map (some b)) (hS : MapS w b n S) (d : D) (hd : wfD d)
    (hx : a.eval x = .agg #[.int .i64 d.1, .int .i64 d.2.1, .int .i64 d.2.2])
    (hK : wpList Tryz.prog ops Q rest (a.put o.dst (.tuple #[.agg #[], .bool (decide (d ∈ S))])) w) : wpList Tryz.prog ops Q (o :: rest) a w := by
  obtain ⟨Dt, h1, h2⟩ := hS
  exact wpList_lookup_own_unit w hg m x 99 hop 49 100 keyed_dart Tryz.underlying99 (zero_unit w) b n Dt hm h1 _ (kD d) hx (key_dart d hd) (by rw [h2.has d hd]; exact hK)
theorem wl_del (hg : o.guard = none) (m x : Operand) (hop : o.op = Op.call { callee := Callee.builtin Builtin.delete, args := #[m, x], argTypes := #[99, 49] }) (b n : Nat) (S : List D) (hm : a.eval m = .map (some b)) (hS : MapS w b n S)
    (d : D) (hd : wfD d) (hmem : d ∈ S) (hx : a.eval x = .agg #[.int .i64 d.1, .int .i64 d.2.1, .int .i64 d.2.2])
    (hK : ∀ w', MapS w' b n (S.erase d) → w.grownBy w' (some b) → wpList Tryz.prog ops Q rest (a.put o.dst (.tuple #[])) w') : wpList Tryz.prog ops Q (o :: rest) a w := by
  obtain ⟨Dt, h1, h2⟩ := hS
  exact wpList_delete_own w hg m x 99 49 hop 100 keyed_dart Tryz.underlying99 unitElem b n Dt hm h1 _ (kD d) hx (key_dart d hd)
    fun w' r1 r2 => hK w' ⟨_, r1, h2.del d hd hmem⟩ r2.grown
theorem wl_size (hg : o.guard = none) (m : Operand) (hop : o.op = Op.call { callee := Callee.builtin Builtin.len, args := #[m], argTypes := #[99] }) (b n : Nat) (S : List D) (hm : a.eval m = .map (some b)) (hS : MapS w b n S)
    (hK : wpList Tryz.prog ops Q rest (a.put o.dst (.int .i64 (S.length : Int))) w) : wpList Tryz.prog ops Q (o :: rest) a w := by
  obtain ⟨Dt, h1, h2⟩ := hS
  refine wpList_len_own w hg m 99 hop 49 100 Tryz.underlying99 unitElem b n Dt hm h1 ?_
  rw [h2.size]
  exact hK
end
end Go.Proofs.YtmkflebkifbpfaaGreat
/- eachOnce: the walk. -/
namespace Go.Proofs.YtmkflebkifbpfaaGreat
open Go.RowKit Go.Maps
theorem wl_has_as {ops : Array Oper} {rest : List Oper} {o : Oper} {a : Act} {Q : Exit → Act → World → Prop} {w : World} (hg : o.guard = none) (m x : Operand) (hop : o.op = Op.lookup 99 m x true) (b n : Nat) (S : List D) (hm : a.eval m = .map (some b)) (hS : MapS w b n S) (d : D) (hd : wfD d) {bb : Bool} (hb : decide (d ∈ S) = bb)
    (hx : a.eval x = .agg #[.int .i64 d.1, .int .i64 d.2.1, .int .i64 d.2.2])
    (hK : wpList Tryz.prog ops Q rest (a.put o.dst (.tuple #[.agg #[], .bool bb])) w) : wpList Tryz.prog ops Q (o :: rest) a w := by
  subst hb
  exact wl_has hg m x hop b n S hm hS d hd hx hK
theorem ringsOf_cons (v : VC) (r : List VC) : ringsOf (v :: r) = v.2.1.2.2.2 ++ ringsOf r := rfl
set_option maxRecDepth 100000 in
set_option maxHeartbeats 4000000 in
theorem once_any (A : Option Addr) (n c : Nat) (Vs : List VC) (B : Option Addr) (m k : Nat) (Es : List EC) (w : World) (h : DgIn w A n c Vs B m k Es) (hn : n ≤ 1000000) (hm : m ≤ 1000000) (hr : ∀ x ∈ Vs, x.2.1.2.1 ≤ 1000000)
    (he : ∀ e ∈ Es, wfD (e.1.1, e.1.2, 0) ∧ wfD (e.1.1, e.1.2, 1)) (hv : ∀ v ∈ Vs, ∀ d ∈ v.2.1.2.2.2, wfD d) :
    Calls Tryz.prog 48 #[.agg #[.slice A n c, .slice B m k]] w fun e w' => e = .returned (.bool (onceF (edS Es []) (ringsOf Vs))) ∧ Below w.heap.size w w' := by
  have HV := Lib.hid h.v
  have HE := Lib.hid h.e
  have HRg := Lib.hid h.r
  have Hlv := Lib.hid (h.v.rlen vC_len (by decide))
  have Hle := Lib.hid (h.e.rlen eC_len (by decide))
  have Hhe := Lib.hid he
  have Hhv := Lib.hid hv
  have Hhr := Lib.hid hr
  obtain ⟨G, gG⟩ : ∃ x, onceF (edS Es []) (ringsOf Vs) = x := ⟨_, rfl⟩
  rw [gG]
  have HG := Lib.hid gG
  clear h he hv hr gG
  have hmm := @run_makeMap Tryz.prog
  go_enter Tryz.func48, Tryz.ntmps48
  go_wp2
  clear hmm
  have hBox := (Whole.new_ w 25 [.slice A n c, .slice B m k]).alloc (.map #[] 0)
  have hMap : MapS ((w.alloc (.cells #[.slice A n c, .slice B m k] 25)).alloc (.map #[] 0)) (w.heap.size + 1) 0 [] := ⟨_, by simpa using World.ownsMap_made (H := Unit) (w.alloc (.cells #[.slice A n c, .slice B m k] 25)) Tryz.prog 49 unitElem, SetD.empty⟩
  have hBel := below2 w (.cells #[.slice A n c, .slice B m k] 25) (.map #[] 0)
  obtain ⟨W0, gW0⟩ : ∃ z, (w.alloc (.cells #[.slice A n c, .slice B m k] 25)).alloc (.map #[] 0) = z := ⟨_, rfl⟩
  have HB0 : RowKit.Hid (Below w.heap.size w W0) := Lib.hid (by rw [← gW0]; exact hBel)
  obtain ⟨b1, gb1⟩ : ∃ z, w.heap.size + 1 = z := ⟨_, rfl⟩
  obtain ⟨b0, gb0⟩ : ∃ z, w.heap.size = z := ⟨_, rfl⟩
  rw [gW0, gb0] at hBox
  rw [gW0, gb1] at hMap
  have HBox := Lib.hid hBox
  have HMap := Lib.hid hMap
  have Gb0 := Lib.hid gb0
  have Gb1 := Lib.hid gb1
  have h01 : b0 ≠ b1 := by omega
  rw [gW0, gb1, gb0]
  clear hBox hMap hBel gW0 gb0 gb1
  go_loopw [16] (fun si wr => ∃ (j : Nat) (S : List D), j ≤ m ∧ si = .int .i64 j ∧ RowKit.Hid (MapS wr b1 (2 * j) S) ∧ RowKit.Hid (Whole wr b0 25 [.slice A n c, .slice B m k]) ∧ RowKit.Hid (Below w.heap.size w wr) ∧ RowKit.Hid (edS Es [] = edS (Es.drop j) S)) (fun si _ => m - (intOf si).toNat)
  case atStart => exact ⟨0, [], by omega, rfl, HMap, HBox, HB0, Lib.hid rfl⟩
  case round =>
    clear HBox HMap HB0
    obtain ⟨j, S, hj, rfl, HM, HW, HB, HS⟩ := hrel
    by_cases hjm : j < m
    · obtain ⟨wo, gwo⟩ : ∃ z, wr = z := ⟨_, rfl⟩
      rw [gwo] at HM HW HB ⊢
      clear gwo
      obtain ⟨v, hx⟩ : ∃ v, Es[j]? = some v := ⟨_, List.getElem?_eq_getElem (by have := Hle.out; omega)⟩
      have hdr : Es.drop j = v :: Es.drop (j + 1) := by
        rw [List.drop_eq_getElem_cons (List.getElem?_eq_some_iff.1 hx).1, (List.getElem?_eq_some_iff.1 hx).2]
      obtain ⟨hw0, hw1⟩ := Hhe.out v (List.mem_of_getElem? hx)
      have HS2 := HS.out
      rw [hdr, edS] at HS2
      have HS3 := Lib.hid HS2
      obtain ⟨bb, off, rfl, hbB, hpl⟩ := HE.out.place eC_len (by decide) (by omega)
      have hbw := HB.out
      have q0 := hpl j _ hx 0 _ rfl
      have q1 := hpl j _ hx 1 _ rfl
      have q2 := hpl j _ hx 2 _ rfl
      have q3 := hpl j _ hx 3 _ rfl
      simp only [Addr.add_lit, Nat.add_zero] at q0 q1 q2 q3
      have l0 := (hbw.cell (p := ⟨bb, off + j * 4, none⟩) hbB).trans q0
      have l1 := (hbw.cell (p := ⟨bb, off + j * 4 + 1, none⟩) hbB).trans q1
      have l2 := (hbw.cell (p := ⟨bb, off + j * 4 + 2, none⟩) hbB).trans q2
      have l3 := (hbw.cell (p := ⟨bb, off + j * 4 + 3, none⟩) hbB).trans q3
      obtain ⟨⟨i1, i2⟩, lb, at_⟩ := v
      have Hw0 := Lib.hid hw0
      have Hw1 := Lib.hid hw1
      have hne : wo.heap.size ≠ b1 := by
        have := HM.out.lt
        omega
      clear hx hdr HS2 hpl hbw q0 q1 q2 q3 hbB HS hw0 hw1
      go_wp2_with (first
        | (at_mapUpdate
           refine wl_put rfl _ _ _ rfl b1 (2 * j) S rfl (by exact HM.out.alloc _) (by unfold maxLen; omega) (i1, i2, 0) Hw0.out rfl rfl ?_
           intro w1 hm1 hg1
           have hx1 := whole_grown (Whole.new_ wo 43 [.int .i64 i1, .int .i64 i2, .string lb, .int .i64 at_]) hg1 hne
           have HW1 := Lib.hid (whole_grown (HW.out.alloc (.cells #[.int .i64 i1, .int .i64 i2, .string lb, .int .i64 at_] 43)) hg1 h01)
           have HB1 := Lib.hid (bel_grown (bel_al HB.out (.cells #[.int .i64 i1, .int .i64 i2, .string lb, .int .i64 at_] 43)) hg1 (by have := Gb1.out; omega))
           have HM1 := Lib.hid hm1
           have c0 := hx1.cell (i := 0) rfl
           have c1 := hx1.cell (i := 1) rfl
           clear hx1 hm1 hg1)
        | (at_mapUpdate
           refine wl_put rfl _ _ _ rfl b1 (2 * j + 1) _ rfl (by exact HM1.out) (by unfold maxLen; omega) (i1, i2, 1) Hw1.out rfl rfl ?_
           intro w2 hm2 hg2
           have HW2 := Lib.hid (whole_grown HW1.out hg2 h01)
           have HB2 := Lib.hid (bel_grown HB1.out hg2 (by have := Gb1.out; omega))
           have HM2 := Lib.hid (hm2.mono (show 2 * j + 1 + 1 ≤ 2 * (j + 1) by omega))
           clear hm2 hg2 c0 c1))
      go_roundw
      case rel => exact ⟨j + 1, _, by omega, by go_num, HM2, HW2, HB2, HS3⟩
      case measure => simp [intOf]; omega
    · obtain rfl : m = j := by omega
      obtain ⟨wo, gwo⟩ : ∃ z, wr = z := ⟨_, rfl⟩
      rw [gwo] at HM HW HB ⊢
      clear gwo
      have hS := HS.out
      rw [List.drop_eq_nil_of_le (by have := Hle.out; omega), edS] at hS
      have HG2 : RowKit.Hid (G = onceF S (ringsOf (Vs.drop 0))) := Lib.hid (by rw [← hS, ← HG.out]; rfl)
      have c0 := HW.out.cell (i := 0) rfl
      have c1 := HW.out.cell (i := 1) rfl
      clear hS HS HG
      go_wp2
      clear c0 c1 HW
      go_loopw [34] (fun si wr => ∃ (i : Nat) (S : List D), i ≤ n ∧ si = .int .i64 i ∧ RowKit.Hid (MapS wr b1 (2 * m) S) ∧ RowKit.Hid (Below w.heap.size w wr) ∧ RowKit.Hid (G = onceF S (ringsOf (Vs.drop i)))) (fun si _ => n - (intOf si).toNat)
      case atStart => exact ⟨0, S, by omega, rfl, HM, HB, HG2⟩
      case round =>
        clear HM HB HG2
        obtain ⟨i, S, hi, rfl, HM, HB, HG⟩ := hrel
        by_cases hin : i < n
        · obtain ⟨wo, gwo⟩ : ∃ z, wr = z := ⟨_, rfl⟩
          rw [gwo] at HM HB ⊢
          clear gwo
          obtain ⟨v, hx⟩ : ∃ v, Vs[i]? = some v := ⟨_, List.getElem?_eq_getElem (by have := Hlv.out; omega)⟩
          have hdr : Vs.drop i = v :: Vs.drop (i + 1) := by
            rw [List.drop_eq_getElem_cons (List.getElem?_eq_some_iff.1 hx).1, (List.getElem?_eq_some_iff.1 hx).2]
          have hvm := List.mem_of_getElem? hx
          have hrg := HRg.out v hvm
          have hrn := Hhr.out v hvm
          have hwf := Hhv.out v hvm
          have HG2 := HG.out
          rw [hdr, ringsOf_cons] at HG2
          have HG3 := Lib.hid HG2
          obtain ⟨bb, off, rfl, hbB, hpl⟩ := HV.out.place vC_len (by decide) (by omega)
          have hbw := HB.out
          have q0 := hpl i _ hx 0 _ rfl
          have q1 := hpl i _ hx 1 _ rfl
          have q2 := hpl i _ hx 2 _ rfl
          have q3 := hpl i _ hx 3 _ rfl
          have q4 := hpl i _ hx 4 _ rfl
          simp only [Addr.add_lit, Nat.add_zero] at q0 q1 q2 q3 q4
          have l0 := (hbw.cell (p := ⟨bb, off + i * 5, none⟩) hbB).trans q0
          have l1 := (hbw.cell (p := ⟨bb, off + i * 5 + 1, none⟩) hbB).trans q1
          have l2 := (hbw.cell (p := ⟨bb, off + i * 5 + 2, none⟩) hbB).trans q2
          have l3 := (hbw.cell (p := ⟨bb, off + i * 5 + 3, none⟩) hbB).trans q3
          have l4 := (hbw.cell (p := ⟨bb, off + i * 5 + 4, none⟩) hbB).trans q4
          obtain ⟨⟨i1, i2⟩, ⟨rA, rn, rc, rL⟩, lb, at_⟩ := v
          have hR : RdS w w.heap.size 3 rA rn rc (dartsV rL) := hrg.2
          replace hrn : rn ≤ 1000000 := hrn
          replace hwf : ∀ d ∈ rL, wfD d := hwf
          have HR := Lib.hid hR
          have Hlr := Lib.hid hR.dlen
          have Hwf := Lib.hid hwf
          obtain ⟨rest, gr⟩ : ∃ x, ringsOf (Vs.drop (i + 1)) = x := ⟨_, rfl⟩
          have HG4 : RowKit.Hid (G = onceF S (rL.drop 0 ++ rest)) := Lib.hid (by rw [← gr]; exact HG2)
          have Gr := Lib.hid gr
          have HMa := Lib.hid (HM.out.alloc (.cells #[.int .i64 i1, .int .i64 i2, .slice rA rn rc, .string lb, .int .i64 at_] 47))
          have HBa := Lib.hid (bel_al HB.out (.cells #[.int .i64 i1, .int .i64 i2, .slice rA rn rc, .string lb, .int .i64 at_] 47))
          clear hx hdr HG2 HG3 hpl hbw q0 q1 q2 q3 q4 hbB HG hvm hrg hR hwf gr
          go_wp2
          clear l0 l1 l2 l3 l4 HM HB
          go_loopw [41] (fun sj wr => ∃ (j : Nat) (S : List D), j ≤ rn ∧ sj = .int .i64 j ∧ RowKit.Hid (MapS wr b1 (2 * m) S) ∧ RowKit.Hid (Below w.heap.size w wr) ∧ RowKit.Hid (G = onceF S (rL.drop j ++ rest))) (fun sj _ => rn - (intOf sj).toNat)
          case atStart => exact ⟨0, S, by omega, rfl, HMa, HBa, HG4⟩
          case round =>
            clear HMa HBa HG4
            obtain ⟨j, S, hj, rfl, HM, HB, HG⟩ := hrel
            by_cases hjr : j < rn
            · obtain ⟨wi, gwi⟩ : ∃ z, wr = z := ⟨_, rfl⟩
              rw [gwi] at HM HB ⊢
              clear gwi
              obtain ⟨b, of2, rfl, hb, hc⟩ := (HR.out.up HB.out HB.out.size).darts (by omega)
              have hjl : j < rL.length := by have := Hlr.out; omega
              obtain ⟨d1, d2, d3⟩ := hc j hjl
              obtain ⟨x, gx⟩ : ∃ v, rL.getD j (0, 0, 0) = v := ⟨_, rfl⟩
              have gx2 : rL[j] = x := by rw [← gx, List.getD_eq_getElem?_getD, List.getElem?_eq_getElem hjl]; rfl
              have hxm : x ∈ rL := by rw [← gx2]; exact List.getElem_mem hjl
              have hdr : rL.drop j = x :: rL.drop (j + 1) := by rw [List.drop_eq_getElem_cons hjl, gx2]
              have Hx := Lib.hid (Hwf.out x hxm)
              rw [gx] at d1 d2 d3
              have HG2 := HG.out
              rw [hdr, List.cons_append, onceF] at HG2
              obtain ⟨x1, x2, x3⟩ := x
              obtain ⟨t, ht⟩ : ∃ t, decide ((x1, x2, x3) ∈ S) = t := ⟨_, rfl⟩
              have Ht := Lib.hid ht
              have HG3 := Lib.hid HG2
              clear hc hb gx gx2 hxm hdr hjl HG HG2 ht
              cases t with
              | false =>
                have hG : G = false := by
                  have := HG3.out
                  rw [if_neg (by simpa using Ht.out)] at this
                  exact this
                go_wp2_with (first
                  | (at_lookup
                     refine wl_has_as rfl _ _ rfl b1 (2 * m) S rfl (by exact HM.out.alloc _) (x1, x2, x3) Hx.out Ht.out rfl ?_))
                go_ret
                exact ⟨by first | exact rfl | (rw [hG]; rfl), by first | exact bel_al (bel_al HB.out _) _ | exact bel_al HB.out _⟩
              | true =>
                have HG4 : RowKit.Hid (G = onceF (S.erase (x1, x2, x3)) (rL.drop (j + 1) ++ rest)) := Lib.hid (by
                  have := HG3.out
                  rw [if_pos (by simpa using Ht.out)] at this
                  exact this)
                have hmem : (x1, x2, x3) ∈ S := by simpa using Ht.out
                have Hmem := Lib.hid hmem
                clear hmem
                go_wp2_with (first
                  | (at_lookup
                     refine wl_has_as rfl _ _ rfl b1 (2 * m) S rfl (by exact HM.out.alloc _) (x1, x2, x3) Hx.out Ht.out rfl ?_)
                  | (at_delete
                     refine wl_del rfl _ _ rfl b1 (2 * m) S rfl (by exact (HM.out.alloc _).alloc _) (x1, x2, x3) Hx.out Hmem.out rfl ?_
                     intro w3 hm3 hg3
                     have HM3 := Lib.hid hm3
                     have HB3 := Lib.hid (bel_grown (bel_al (bel_al HB.out _) _) hg3 (by have := Gb1.out; omega))
                     clear hm3 hg3))
                go_roundw
                case rel => exact ⟨j + 1, _, by omega, by go_num, HM3, HB3, HG4⟩
                case measure => simp [intOf]; omega
            · obtain rfl : rn = j := by omega
              have HG4 : RowKit.Hid (G = onceF S (ringsOf (Vs.drop (i + 1)))) := Lib.hid (by
                have h1 := HG.out
                rw [List.drop_eq_nil_of_le (by have := Hlr.out; omega), List.nil_append, ← Gr.out] at h1
                exact h1)
              clear HG
              go_wp2
              go_roundw
              case rel => exact ⟨i + 1, S, by omega, by go_num, HM, HB, HG4⟩
              case measure => simp [intOf]; omega
        · obtain rfl : n = i := by omega
          have hG := HG.out
          rw [List.drop_eq_nil_of_le (by have := Hlv.out; omega)] at hG
          replace hG : G = decide (S.length = 0) := hG
          clear HG
          obtain ⟨N, gN⟩ : ∃ z, S.length = z := ⟨_, rfl⟩
          rw [gN] at hG
          have HGN := Lib.hid hG
          clear hG
          go_wp2_with (first
            | (at_len
               refine wl_size rfl _ rfl b1 (2 * m) S rfl (by exact HM.out) ?_
               rw [gN]))
          go_ret
          refine ⟨?_, HB.out⟩
          rw [HGN.out]
          have e1 : ((N : Int) == 0) = decide (N = 0) := by rw [Bool.eq_iff_iff]; simp
          rw [← e1]
          rfl
end Go.Proofs.YtmkflebkifbpfaaGreat
/- Form. -/
namespace Go.Proofs.YtmkflebkifbpfaaGreat
open Go.RowKit
def formB (big b0 b1 b2 b3 b4 b5 b6 b7 : Bool) : Int :=
  if big then 3 else if !(b0 && b1 && b2 && b3) then 10 else if !(b4 && b5) then 4 else if !(b6 && b7) then 1 else 0
/-- What is wrong with a diagram. -/
def formD (Vs : List VC) (Es : List EC) : Int :=
  formB (decide (24 < Vs.length ∨ 40 < Es.length)) (riseF none (Vs.map (·.1))) (riseF none (Es.map (·.1))) (Vs.all turnOk) (onceF (edS Es []) (ringsOf Vs))
    (Vs.all (fun v => mayL v.2.2.1)) (Es.all (fun v => mayL v.2.1)) (Vs.all (fun v => mayA v.2.2.2)) (Es.all (fun v => mayA v.2.2))
set_option maxRecDepth 100000 in
set_option maxHeartbeats 4000000 in
theorem form_any (A : Option Addr) (n c : Nat) (Vs : List VC) (B : Option Addr) (m k : Nat) (Es : List EC) (w : World) (h : DgIn w A n c Vs B m k Es) (hr : ∀ x ∈ Vs, x.2.1.2.1 ≤ 1000000)
    (he : ∀ e ∈ Es, wfD (e.1.1, e.1.2, 0) ∧ wfD (e.1.1, e.1.2, 1)) (hv : ∀ v ∈ Vs, ∀ d ∈ v.2.1.2.2.2, wfD d) :
    Calls Tryz.prog 27 #[.agg #[.slice A n c, .slice B m k]] w fun e w' => e = .returned (.int .i64 (formD Vs Es)) ∧ Below w.heap.size w w' := by
  have hlv := h.v.rlen vC_len (by decide)
  have hle := h.e.rlen eC_len (by decide)
  unfold formD
  rw [hlv, hle]
  have k0 : n ≤ 24 → m ≤ 40 → ∀ W, Below w.heap.size w W → Calls Tryz.prog 43 #[.slice A n c, .func (.func 44) #[] #[]] W fun e w' => e = .returned (.bool (riseF none (Vs.map (·.1)))) ∧ Below W.heap.size W w' := fun hn hm W hb => riseV A n c Vs W (h.v.up hb hb.size) (by omega)
  have k1 : n ≤ 24 → m ≤ 40 → ∀ W, Below w.heap.size w W → Calls Tryz.prog 45 #[.slice B m k, .func (.func 46) #[] #[]] W fun e w' => e = .returned (.bool (riseF none (Es.map (·.1)))) ∧ Below W.heap.size W w' := fun hn hm W hb => riseE B m k Es W (h.e.up hb hb.size) (by omega)
  have k2 : n ≤ 24 → m ≤ 40 → ∀ W, Below w.heap.size w W → Calls Tryz.prog 47 #[.agg #[.slice A n c, .slice B m k]] W fun e w' => e = .returned (.bool (Vs.all turnOk)) ∧ Below W.heap.size W w' := fun hn hm W hb => turned_all A n c Vs B m k Es W (h.below hb) (by omega) hr
  have k3 : n ≤ 24 → m ≤ 40 → ∀ W, Below w.heap.size w W → Calls Tryz.prog 48 #[.agg #[.slice A n c, .slice B m k]] W fun e w' => e = .returned (.bool (onceF (edS Es []) (ringsOf Vs))) ∧ Below W.heap.size W w' := fun hn hm W hb => once_any A n c Vs B m k Es W (h.below hb) (by omega) (by omega) hr he hv
  have k4 : n ≤ 24 → m ≤ 40 → ∀ W, Below w.heap.size w W → Calls Tryz.prog 49 #[.slice A n c, .func (.func 50) #[] #[]] W fun e w' => e = .returned (.bool (Vs.all (fun v => mayL v.2.2.1))) ∧ Below W.heap.size W w' := fun hn hm W hb => allV 50 _ A n c Vs W (h.v.up hb hb.size) (by omega) entVL (fun v _ W' _ => labelV v W')
  have k5 : n ≤ 24 → m ≤ 40 → ∀ W, Below w.heap.size w W → Calls Tryz.prog 51 #[.slice B m k, .func (.func 52) #[] #[]] W fun e w' => e = .returned (.bool (Es.all (fun v => mayL v.2.1))) ∧ Below W.heap.size W w' := fun hn hm W hb => allE 52 _ B m k Es W (h.e.up hb hb.size) (by omega) entEL (fun v _ W' _ => labelE v W')
  have k6 : n ≤ 24 → m ≤ 40 → ∀ W, Below w.heap.size w W → Calls Tryz.prog 49 #[.slice A n c, .func (.func 53) #[] #[]] W fun e w' => e = .returned (.bool (Vs.all (fun v => mayA v.2.2.2))) ∧ Below W.heap.size W w' := fun hn hm W hb => allV 53 _ A n c Vs W (h.v.up hb hb.size) (by omega) entVA (fun v _ W' _ => attrV v W')
  have k7 : n ≤ 24 → m ≤ 40 → ∀ W, Below w.heap.size w W → Calls Tryz.prog 51 #[.slice B m k, .func (.func 54) #[] #[]] W fun e w' => e = .returned (.bool (Es.all (fun v => mayA v.2.2))) ∧ Below W.heap.size W w' := fun hn hm W hb => allE 54 _ B m k Es W (h.e.up hb hb.size) (by omega) entEA (fun v _ W' _ => attrE v W')
  obtain ⟨b0, g0⟩ : ∃ b, riseF none (Vs.map (·.1)) = b := ⟨_, rfl⟩
  rw [g0] at k0 ⊢
  clear g0
  obtain ⟨b1, g1⟩ : ∃ b, riseF none (Es.map (·.1)) = b := ⟨_, rfl⟩
  rw [g1] at k1 ⊢
  clear g1
  obtain ⟨b2, g2⟩ : ∃ b, Vs.all turnOk = b := ⟨_, rfl⟩
  rw [g2] at k2 ⊢
  clear g2
  obtain ⟨b3, g3⟩ : ∃ b, onceF (edS Es []) (ringsOf Vs) = b := ⟨_, rfl⟩
  rw [g3] at k3 ⊢
  clear g3
  obtain ⟨b4, g4⟩ : ∃ b, Vs.all (fun v => mayL v.2.2.1) = b := ⟨_, rfl⟩
  rw [g4] at k4 ⊢
  clear g4
  obtain ⟨b5, g5⟩ : ∃ b, Es.all (fun v => mayL v.2.1) = b := ⟨_, rfl⟩
  rw [g5] at k5 ⊢
  clear g5
  obtain ⟨b6, g6⟩ : ∃ b, Vs.all (fun v => mayA v.2.2.2) = b := ⟨_, rfl⟩
  rw [g6] at k6 ⊢
  clear g6
  obtain ⟨b7, g7⟩ : ∃ b, Es.all (fun v => mayA v.2.2) = b := ⟨_, rfl⟩
  rw [g7] at k7 ⊢
  clear g7
  clear h hr he hv hlv hle
  have hw0 := Whole.new_ w 25 [.slice A n c, .slice B m k]
  have hb0 := below1 w (.cells #[.slice A n c, .slice B m k] 25)
  obtain ⟨W0, gW0⟩ : ∃ z, w.alloc (.cells #[.slice A n c, .slice B m k] 25) = z := ⟨_, rfl⟩
  have HB0 : RowKit.Hid (Below w.heap.size w W0) := Lib.hid (by rw [← gW0]; exact hb0)
  obtain ⟨g, gg⟩ : ∃ z, w.heap.size = z := ⟨_, rfl⟩
  rw [gW0, gg] at hw0
  have c0 := hw0.cell (i := 0) rfl
  have c1 := hw0.cell (i := 1) rfl
  have HW0 := Lib.hid hw0
  by_cases hn : n ≤ 24
  · by_cases hm : m ≤ 40
    · have hbig : decide (24 < n ∨ 40 < m) = false := decide_eq_false (by omega)
      rw [hbig]
      have K0 := Lib.hid (k0 hn hm)
      have K1 := Lib.hid (k1 hn hm)
      have K2 := Lib.hid (k2 hn hm)
      have K3 := Lib.hid (k3 hn hm)
      have K4 := Lib.hid (k4 hn hm)
      have K5 := Lib.hid (k5 hn hm)
      have K6 := Lib.hid (k6 hn hm)
      have K7 := Lib.hid (k7 hn hm)
      clear k0 k1 k2 k3 k4 k5 k6 k7 hbig hw0 hb0
      go_enter Tryz.func27, Tryz.ntmps27
      go_wp2_with fail
      clear gW0 gg
      refine (K0.out _ HB0.out).mono ?_
      rintro e W1 ⟨rfl, hb⟩
      have HB1 := Lib.hid (bel_bl HB0.out hb)
      have HW1 := Lib.hid (HW0.out.below hb)
      clear hb c0 c1 HB0 HW0 K0
      have c0 := HW1.out.cell (i := 0) rfl
      have c1 := HW1.out.cell (i := 1) rfl
      cases b0 with
      | false =>
        go_wp2
        go_ret
        exact ⟨rfl, HB1.out⟩
      | true =>
        go_wp2_with fail
        refine (K1.out _ HB1.out).mono ?_
        rintro e W2 ⟨rfl, hb⟩
        have HB2 := Lib.hid (bel_bl HB1.out hb)
        have HW2 := Lib.hid (HW1.out.below hb)
        clear hb c0 c1 HB1 HW1 K1
        have c0 := HW2.out.cell (i := 0) rfl
        have c1 := HW2.out.cell (i := 1) rfl
        cases b1 with
        | false =>
          go_wp2
          go_ret
          exact ⟨rfl, HB2.out⟩
        | true =>
          go_wp2_with fail
          refine (K2.out _ HB2.out).mono ?_
          rintro e W3 ⟨rfl, hb⟩
          have HB3 := Lib.hid (bel_bl HB2.out hb)
          have HW3 := Lib.hid (HW2.out.below hb)
          clear hb c0 c1 HB2 HW2 K2
          have c0 := HW3.out.cell (i := 0) rfl
          have c1 := HW3.out.cell (i := 1) rfl
          cases b2 with
          | false =>
            go_wp2
            go_ret
            exact ⟨rfl, HB3.out⟩
          | true =>
            go_wp2_with fail
            refine (K3.out _ HB3.out).mono ?_
            rintro e W4 ⟨rfl, hb⟩
            have HB4 := Lib.hid (bel_bl HB3.out hb)
            have HW4 := Lib.hid (HW3.out.below hb)
            clear hb c0 c1 HB3 HW3 K3
            have c0 := HW4.out.cell (i := 0) rfl
            have c1 := HW4.out.cell (i := 1) rfl
            cases b3 with
            | false =>
              go_wp2
              go_ret
              exact ⟨rfl, HB4.out⟩
            | true =>
              go_wp2_with fail
              refine (K4.out _ HB4.out).mono ?_
              rintro e W5 ⟨rfl, hb⟩
              have HB5 := Lib.hid (bel_bl HB4.out hb)
              have HW5 := Lib.hid (HW4.out.below hb)
              clear hb c0 c1 HB4 HW4 K4
              have c0 := HW5.out.cell (i := 0) rfl
              have c1 := HW5.out.cell (i := 1) rfl
              cases b4 with
              | false =>
                go_wp2
                go_ret
                exact ⟨rfl, HB5.out⟩
              | true =>
                go_wp2_with fail
                refine (K5.out _ HB5.out).mono ?_
                rintro e W6 ⟨rfl, hb⟩
                have HB6 := Lib.hid (bel_bl HB5.out hb)
                have HW6 := Lib.hid (HW5.out.below hb)
                clear hb c0 c1 HB5 HW5 K5
                have c0 := HW6.out.cell (i := 0) rfl
                have c1 := HW6.out.cell (i := 1) rfl
                cases b5 with
                | false =>
                  go_wp2
                  go_ret
                  exact ⟨rfl, HB6.out⟩
                | true =>
                  go_wp2_with fail
                  refine (K6.out _ HB6.out).mono ?_
                  rintro e W7 ⟨rfl, hb⟩
                  have HB7 := Lib.hid (bel_bl HB6.out hb)
                  have HW7 := Lib.hid (HW6.out.below hb)
                  clear hb c0 c1 HB6 HW6 K6
                  have c0 := HW7.out.cell (i := 0) rfl
                  have c1 := HW7.out.cell (i := 1) rfl
                  cases b6 with
                  | false =>
                    go_wp2
                    go_ret
                    exact ⟨rfl, HB7.out⟩
                  | true =>
                    go_wp2_with fail
                    refine (K7.out _ HB7.out).mono ?_
                    rintro e W8 ⟨rfl, hb⟩
                    have HB8 := Lib.hid (bel_bl HB7.out hb)
                    have HW8 := Lib.hid (HW7.out.below hb)
                    clear hb c0 c1 HB7 HW7 K7
                    have c0 := HW8.out.cell (i := 0) rfl
                    have c1 := HW8.out.cell (i := 1) rfl
                    cases b7 with
                    | false =>
                      go_wp2
                      go_ret
                      exact ⟨rfl, HB8.out⟩
                    | true =>
                      go_wp2
                      go_ret
                      exact ⟨rfl, HB8.out⟩
    · have hbig : decide (24 < n ∨ 40 < m) = true := decide_eq_true (by omega)
      rw [hbig]
      clear k0 k1 k2 k3 k4 k5 k6 k7 hbig hw0 hb0
      go_enter Tryz.func27, Tryz.ntmps27
      go_wp2
      go_ret
      exact ⟨rfl, by first | exact HB0.out | (rw [← gg]; exact HB0.out)⟩
  · have hbig : decide (24 < n ∨ 40 < m) = true := decide_eq_true (by omega)
    rw [hbig]
    clear k0 k1 k2 k3 k4 k5 k6 k7 hbig hw0 hb0
    go_enter Tryz.func27, Tryz.ntmps27
    go_wp2
    go_ret
    exact ⟨rfl, by first | exact HB0.out | (rw [← gg]; exact HB0.out)⟩
end Go.Proofs.YtmkflebkifbpfaaGreat
/- The document's examples: loop, shown. -/
namespace Go.Proofs.YtmkflebkifbpfaaGreat
open Go.RowKit
theorem RdS.of_whole {W : World} {g : Nat} {t : TypeId} {cs : List Value} {n size : Nat} (h : Whole W g t cs) (hl : cs.length = n * size) : RdS W W.heap.size size (some ⟨g, 0, none⟩) n n cs :=
  ⟨hl, fun e => (by cases e), Nat.le_refl _, fun a ha _ => (by obtain rfl := Option.some.inj ha; exact h.lt), fun a ha j u hu => (by
    obtain rfl := Option.some.inj ha
    rw [Addr.add_lit]
    simpa using h.cell hu)⟩
theorem RdS.no (W : World) (B size : Nat) : RdS W B size none 0 0 [] := ⟨by simp, fun _ => ⟨rfl, rfl⟩, Nat.le_refl _, fun a h => (by cases h), fun a h => (by cases h)⟩
end Go.Proofs.YtmkflebkifbpfaaGreat
/- few. -/
namespace Go.Proofs.YtmkflebkifbpfaaGreat
open Go.RowKit
theorem info_vertex : (Tryz.prog.info? 47).map (fun i => (i.zero, i.size, i.bytes)) = some (some (.agg #[.int .i64 0, .int .i64 0, .slice none 0 0, .string { data := #[] }, .int .i64 0]), 5, 64) := by kernel_rfl
theorem info_edge : (Tryz.prog.info? 43).map (fun i => (i.zero, i.size, i.bytes)) = some (some (.agg #[.int .i64 0, .int .i64 0, .string { data := #[] }, .int .i64 0]), 4, 40) := by kernel_rfl
theorem info_partsD {o : Option TypeInfo} {z : Value} {s b : Nat} (h : o.map (fun i => (i.zero, i.size, i.bytes)) = some (some z, s, b)) : ∃ i, o = some i ∧ i.zero = some z ∧ i.size = s ∧ i.bytes = b := by
  cases o with
  | none => simp at h
  | some i => simp at h; exact ⟨i, rfl, h⟩
theorem Ow.low_ne {w W : World} {B size n g : Nat} {e : TypeId} {v : Value} {xs : List Value} (h : Ow w B e size v n xs W) (hg : g < B) : some g ≠ v.ownBlock := fun e => by
  have := (h.own.lt g e.symm).1
  omega
theorem Ow.set_far {w W : World} {B size n g i : Nat} {e : TypeId} {v : Value} {xs : List Value} (h : Ow w B e size v n xs W) (hne : some g ≠ v.ownBlock) (hg : w.heap.size ≤ g) (u : Value) : Ow w B e size v n xs (W.setCell ⟨g, i, none⟩ u) :=
  ⟨h.own.kept (row := some g) ⟨rfl, rfl, rfl, by simp [World.setCell], fun k _ hk => Below.heap_setCell _ _ _ _ (by
    rintro rfl
    exact hk rfl)⟩ (by first | exact hne | exact hne.symm | exact .inr hne | exact .inr hne.symm), h.below.setCell hg u, h.lo, by simpa [World.setCell] using h.hi⟩
theorem Whole.set_far' {W : World} {g h i : Nat} {t : TypeId} {cs : List Value} (hw : Whole W g t cs) (hne : g ≠ h) (u : Value) : Whole (W.setCell ⟨h, i, none⟩ u) g t cs :=
  hw.at_ (Below.heap_setCell _ _ _ _ hne)
def fewV (v : VC) : VC := if 30 < v.2.1.2.1 then (v.1, (v.2.1.1, 30, v.2.1.2.2.1, v.2.1.2.2.2.take 30), v.2.2) else v
theorem fewE_next (Es : List EC) (j : Nat) (v : EC) (h : Es[j]? = some v) : rowsV eC (Es.take j) ++ rowsV eC [v] = rowsV eC (Es.take (j + 1)) := by
  rw [← rowsV_app, List.take_add_one, h]
  simp
/-- Both rows are new, and not too long. -/
def FwNew (w : World) (A : Option Addr) (n c : Nat) (B : Option Addr) (m k : Nat) : Prop :=
  c ≤ maxLen ∧ k ≤ maxLen ∧ (∀ a, A = some a → 0 < n → w.heap.size ≤ a.block) ∧ (∀ a, B = some a → 0 < m → w.heap.size ≤ a.block)
theorem RdS.far_ {W : World} {B size n c g i : Nat} {A : Option Addr} {xs : List Value} (h : RdS W B size A n c xs) (hne : ∀ a, A = some a → 0 < n → a.block ≠ g) (u : Value) : RdS (W.setCell ⟨g, i, none⟩ u) B size A n c xs :=
  ⟨h.len, h.none_, h.le, h.low, fun a ha j x hx => (World.cell?_of_block (Below.heap_setCell _ _ _ _ (by
    rw [add_block]
    first | exact hne a ha (h.pos hx) | exact (hne a ha (h.pos hx)).symm))).trans (h.cell a ha j x hx)⟩
/-- Between two rounds: the edges' row grows. -/
structure FewB (w : World) (Vs : List VC) (Es : List EC) (A B : Option Addr) (n c m k b0 b1 b2 B2 N : Nat) (A1 : Option Addr) (c1 j : Nat) (v u : Value) (wr : World) : Prop where
  ow : Ow w B2 43 4 v j (rowsV eC (Es.take j)) wr
  x0 : Whole wr b0 25 [.slice A n c, .slice B m k]
  x1 : Whole wr b1 25 [.slice none 0 0, .slice none 0 0]
  x2 : Whole wr b2 25 [.slice A1 N c1, u]
  rv : RdS wr B2 5 A1 N c1 (rowsV vC ((Vs.take 30).map fewV))
section
variable {w wr wr' : World} {Vs : List VC} {Es : List EC} {A B A1 : Option Addr} {n c m k b0 b1 b2 B2 N c1 j : Nat} {v u : Value}
theorem FewB.below (h : FewB w Vs Es A B n c m k b0 b1 b2 B2 N A1 c1 j v u wr) (hb : Below wr.heap.size wr wr') : FewB w Vs Es A B n c m k b0 b1 b2 B2 N A1 c1 j v u wr' :=
  ⟨h.ow.up hb, h.x0.below hb, h.x1.below hb, h.x2.below hb, h.rv.up (hb.mono h.ow.hi) (Nat.le_refl _)⟩
/-- The row has grown. -/
theorem FewB.grow (h : FewB w Vs Es A B n c m k b0 b1 b2 B2 N A1 c1 j v u wr) {e : EC} (he : Es[j]? = some e) {v' : Value} (ho : Ow w B2 43 4 v' (j + 1) (rowsV eC (Es.take j) ++ eC e) wr') (hb : Below B2 wr wr') (h0 : b0 < B2) (h1 : b1 < B2) (h2 : b2 < B2) :
    FewB w Vs Es A B n c m k b0 b1 b2 B2 N A1 c1 (j + 1) v' u wr' :=
  ⟨by rw [← fewE_next Es j e he]; simpa [rowsV] using ho, h.x0.at_ (hb.block _ h0), h.x1.at_ (hb.block _ h1), h.x2.at_ (hb.block _ h2), h.rv.up hb (Nat.le_refl _)⟩
theorem FewB.store (h : FewB w Vs Es A B n c m k b0 b1 b2 B2 N A1 c1 j v u wr) (h02 : b0 ≠ b2) (h12 : b1 ≠ b2) (h2 : b2 < B2) (hl : w.heap.size ≤ b2) (hne : ∀ a, A1 = some a → 0 < N → a.block ≠ b2) :
    FewB w Vs Es A B n c m k b0 b1 b2 B2 N A1 c1 j v v (wr.setCell ⟨b2, 1, none⟩ v) :=
  ⟨h.ow.set_far (h.ow.low_ne h2) hl v, h.x0.set_far' h02 v, h.x1.set_far' h12 v, h.x2.set_ 1 v, h.rv.far_ hne v⟩
end
theorem RgOk.few {w : World} {v : VC} (h : RgOk w v.2.1) : RgOk w (fewV v).2.1 := by
  unfold fewV
  split
  · rename_i h30
    refine ⟨h.1, ?_⟩
    have := h.2.take_ 30 (by omega)
    rw [dartsV_rows, ← rowsV_take dC dC_len] at this
    show RdS w w.heap.size 3 v.2.1.1 30 v.2.1.2.2.1 (dartsV (v.2.1.2.2.2.take 30))
    rw [dartsV_rows]
    exact this
  · exact h
end Go.Proofs.YtmkflebkifbpfaaGreat
/- slices.Clone of vertices, edges, darts; cloneVertex. -/
namespace Go.Proofs.YtmkflebkifbpfaaGreat
open Go.RowKit
theorem info_dartD : (Tryz.prog.info? 49).map (fun i => (i.zero, i.size, i.bytes)) = some (some (.agg #[.int .i64 0, .int .i64 0, .int .i64 0]), 3, 24) := by kernel_rfl
end Go.Proofs.YtmkflebkifbpfaaGreat
/- Names. -/
namespace Go.Proofs.YtmkflebkifbpfaaGreat
open Go.RowKit
theorem info_idD : (Tryz.prog.info? 41).map (fun i => (i.zero, i.size, i.bytes)) = some (some (.agg #[.int .i64 0, .int .i64 0]), 2, 16) := by kernel_rfl
def idC (x : Int × Int) : List Value := [.int .i64 x.1, .int .i64 x.2]
theorem idC_len (x : Int × Int) : (idC x).length = 2 := rfl
theorem names_next {α : Type} (g : α → Int × Int) (P : List (Int × Int)) (L : List α) (j : Nat) (x : α) (h : L[j]? = some x) : rowsV idC (P ++ (L.take j).map g) ++ idC (g x) = rowsV idC (P ++ (L.take (j + 1)).map g) := by
  have : (L.take (j + 1)).map g = (L.take j).map g ++ [g x] := by rw [List.take_add_one, h]; simp
  have e : rowsV idC [g x] = idC (g x) := by simp [rowsV]
  rw [this, ← List.append_assoc, rowsV_app idC (P ++ (L.take j).map g) [g x], e]
end Go.Proofs.YtmkflebkifbpfaaGreat
/- At: the vertex in whose ring a dart stands. -/
namespace Go.Proofs.YtmkflebkifbpfaaGreat
open Go.RowKit
theorem ret_whole2 {P : Program} {fn : Func} {R : Ending → World → Prop} {a : Act} {w : World} {p u : Tmp} {t : TypeId} (h : fn.results = #[.cell p t, .tmp u]) (g : Nat) {t' : TypeId} {cs : List Value} {d : TypeDesc} {v : Value}
    (hp : a.tmps.getD p undef = .pointer (some ⟨g, 0, none⟩)) (hv : a.tmps.getD u undef = v) (hW : Whole w g t' cs) (hu : P.underlying t = some d) (hd : d.isRow = true) (hi : (P.info? t).map (·.size) = some cs.length)
    (hdf : a.defers = []) (hR : R (.returned (.tuple #[.agg cs.toArray, v])) w) : bodyPost P fn R .ret a w := by
  refine bodyPost_ret (v := .tuple #[.agg cs.toArray, v]) ?_ hdf hR
  have hl := run_loadVar_mid (P := P) w g 0 t cs d (fun j v hv => by
    have := hW.cell hv
    simpa using this) hu hd hi
  rw [results_cell_tmp h, hp, hv]
  simp [asAddr, Result.andThen, hl]
def atV (Vs : List VC) (x : D) : (Int × Int) × Bool := match Vs.find? (fun v => decide (x ∈ v.2.1.2.2.2)) with | some v => (v.1, true) | none => ((0, 0), false)
theorem atV_yes (v : VC) (r : List VC) (x : D) (h : x ∈ v.2.1.2.2.2) : atV (v :: r) x = (v.1, true) := by simp [atV, h]
theorem atV_no (v : VC) (r : List VC) (x : D) (h : ¬ x ∈ v.2.1.2.2.2) : atV (v :: r) x = atV r x := by simp [atV, h]
end Go.Proofs.YtmkflebkifbpfaaGreat
