/- OpParts' walk. -/
import Derived.Test.YtfbgbljljhgbjaaOp20
import Derived.Test.YtfbgbljljhgbjaaOp16
import Derived.Test.YtfbgbljljhgbjaaSl
namespace Go.Proofs.Ytfbgbljljhgbjaa
open Go.RowKit
set_option linter.unusedSimpArgs false
set_option linter.unusedVariables false

theorem mayEs_all {L : List OpT} (h : ∀ o ∈ L, mayO o = 0) : mayEs L = 0 := by
  induction L with
  | nil => rfl
  | cons x L ih =>
    simp only [mayEs]
    rw [if_pos (h x (by simp)), ih (fun o ho => h o (by simp [ho]))]
theorem less_may {L : List OpT} (h : mayE L = 0) (k : Nat) (hk : k < L.length) : mayE (L.take k ++ L.drop (k + 1)) = if L.length - 1 = 0 then 3 else 0 := by
  obtain ⟨h1, h2, h3⟩ := mayE_mem h
  have hl : (L.take k ++ L.drop (k + 1)).length = L.length - 1 := by simp; omega
  unfold mayE
  rw [hl]
  by_cases h0 : L.length - 1 = 0
  · rw [if_pos (by omega), if_pos h0]
  · rw [if_neg (by omega), if_neg h0]
    refine mayEs_all fun o ho => h1 o ?_
    rcases List.mem_append.1 ho with ho | ho
    · exact List.mem_of_mem_take ho
    · exact List.mem_of_mem_drop ho
theorem less_ne {L : List OpT} (k : Nat) (hk : k < L.length) : decide (L.take k ++ L.drop (k + 1) = L) = false := by
  refine decide_eq_false fun h => ?_
  have := congrArg List.length h
  simp at this
  omega
theorem many_may (o : OpT) : mayE (List.replicate 7 o) = 3 := by
  unfold mayE
  rw [if_pos (by simp)]
theorem Ow.far_ {w W : World} {B size n g i : Nat} {e : TypeId} {v : Value} {xs : List Value} (h : Ow w B e size v n xs W) (hne : some g ≠ v.ownBlock) (hg : B ≤ g) (u : Value) : Ow w B e size v n xs (W.setCell ⟨g, i, none⟩ u) :=
  ⟨h.own.kept (row := some g) ⟨rfl, rfl, rfl, by simp [World.setCell], fun k hk hn => Below.heap_setCell _ _ _ _ (fun e => hn (by rw [e]))⟩ (.inr (Ne.symm hne)),
    h.below.setCell (show w.heap.size ≤ g from Nat.le_trans h.lo hg) u, h.lo, by simpa [World.setCell] using h.hi⟩

set_option maxRecDepth 100000 in
set_option maxHeartbeats 4000000 in
theorem op_a (A : Option Addr) (n c : Nat) (t0 : Int) (L : List OpT) (w : World) (h : RdS w w.heap.size 20 A n c (rowsV opCells L)) (hn : n ≤ maxLen) (hm : mayE (L.take 10) ≠ 0) :
    Calls Try.prog 4 #[.agg #[.slice A n c], .int .i64 t0] w fun e w' => e = .returned (.bool true) ∧ Below w.heap.size w w' := by
  have RA := Lib.hid h
  have LA : RowKit.Hid (∀ a, A = some a → 0 < n → a.block < w.heap.size) := Lib.hid h.low
  have HFA := Lib.hid (fun W h => few_any A n c L W h hn)
  have HSA := Lib.hid (fun (W : World) (h : RdS W W.heap.size 20 A n c (rowsV opCells L)) => h.fewer 10)
  have h10 := few_len L
  obtain ⟨La, gLa⟩ : ∃ x, L.take 10 = x := ⟨_, rfl⟩
  rw [gLa] at HFA HSA h10
  have hMa := fun W h => mayedit_any A La.length c La W h (by unfold maxLen; omega)
  rw [gLa] at hm
  have q : (mayE La == 0) = false := beq_eq_false_iff_ne.2 hm
  have q' : (mayE La != 0) = true := bne_iff_ne.2 hm
  have HMa := Lib.hid hMa
  clear h hn gLa h10 hm hMa
  go_enter Try.func4, Try.ntmps4
  go_wp2_with fail
  refine (shown9 _).mono ?_
  rintro e w1 ⟨rfl, hb1⟩
  have RA_2 := Lib.hid ((RA.out.al (.cells #[.slice A n c] 32)).bl hb1)
  have EA_2 := Lib.hid ((show Whole (w.alloc (.cells #[.slice A n c] 32)) (w.heap.size) (32) ([.slice A n c]) from Whole.new2 (by first | rfl | simp)).bl hb1)
  have Bel_2 := Lib.hid (bel_bl (bel_al (Below.refl _ w) (.cells #[.slice A n c] 32)) hb1)
  clear hb1
  have LO_EA_3 : RowKit.Hid (w.heap.size ≤ w.heap.size) := Lib.hid (by omega)
  have lw4 : (w1).cell? ⟨w.heap.size, 0, none⟩ = some (.slice A n c) := EA_2.out.cell (i := 0) rfl
  go_wp2_with fail
  clear lw4
  refine (HFA.out _ RA_2.out).mono ?_
  rintro e w5 ⟨rfl, hb5⟩
  have RA_6 := Lib.hid (RA_2.out.bl hb5)
  have EA_6 := Lib.hid (EA_2.out.bl hb5)
  have Bel_6 := Lib.hid (bel_bl Bel_2.out hb5)
  clear hb5
  have lw7 : (w5).cell? ⟨w.heap.size, 0, none⟩ = some (.slice A n c) := EA_6.out.cell (i := 0) rfl
  have fr := EA_6.out.free 0
  go_upto_region 3 with fail
  clear fr lw7
  obtain ⟨v8, gv8⟩ : ∃ x, (w5.setCell ⟨w.heap.size, 0, none⟩ (.slice A La.length c)) = x := ⟨_, rfl⟩
  have RA_8 := Lib.hid (show RdS v8 v8.heap.size _ _ _ _ _ from gv8 ▸ (RdS.far RA_6.out (p := ⟨w.heap.size, 0, none⟩) (fun hn a e => by have h1 := LA.out a e hn; have h2 := LO_EA_3.out; show a.block ≠ w.heap.size; omega) _))
  have EA_8 : RowKit.Hid (Whole v8 w.heap.size 32 ([.slice A La.length c])) := Lib.hid (gv8 ▸ (EA_6.out.set_ 0 _))
  have Bel_8 : RowKit.Hid (Below w.heap.size w v8) := Lib.hid (gv8 ▸ (Bel_6.out.setCell (by show w.heap.size ≤ w.heap.size; exact LO_EA_3.out) _))
  rw [gv8]
  clear gv8
  have SA_9 := Lib.hid (HSA.out _ RA_8.out)
  have lw10 : (v8).cell? ⟨w.heap.size, 0, none⟩ = some (.slice A La.length c) := EA_8.out.cell (i := 0) rfl
  go_wp2_with fail
  clear lw10
  refine (HMa.out _ SA_9.out).mono ?_
  rintro e w11 ⟨rfl, hb11⟩
  have EA_12 := Lib.hid (EA_8.out.bl hb11)
  have SA_12 := Lib.hid (SA_9.out.bl hb11)
  have Bel_12 := Lib.hid (bel_bl Bel_8.out hb11)
  clear hb11
  have lw13 : (w11).cell? ⟨w.heap.size, 0, none⟩ = some (.slice A La.length c) := EA_12.out.cell (i := 0) rfl
  go_wp2
  go_ret
  exact ⟨rfl, Bel_12.out⟩

set_option maxRecDepth 100000 in
set_option maxHeartbeats 4000000 in
theorem op_b (A : Option Addr) (n c : Nat) (t0 : Int) (L : List OpT) (w : World) (h : RdS w w.heap.size 20 A n c (rowsV opCells L)) (hn : n ≤ maxLen) (hm : mayE (L.take 10) = 0) (ht : decide (t0 < 0) = true) :
    Calls Try.prog 4 #[.agg #[.slice A n c], .int .i64 t0] w fun e w' => e = .returned (.bool true) ∧ Below w.heap.size w w' := by
  have RA := Lib.hid h
  have LA : RowKit.Hid (∀ a, A = some a → 0 < n → a.block < w.heap.size) := Lib.hid h.low
  have HFA := Lib.hid (fun W h => few_any A n c L W h hn)
  have HSA := Lib.hid (fun (W : World) (h : RdS W W.heap.size 20 A n c (rowsV opCells L)) => h.fewer 10)
  have h10 := few_len L
  obtain ⟨La, gLa⟩ : ∃ x, L.take 10 = x := ⟨_, rfl⟩
  rw [gLa] at HFA HSA h10
  have hMa := fun W h => mayedit_any A La.length c La W h (by unfold maxLen; omega)
  rw [gLa] at hm
  rw [hm] at hMa
  have HMa := Lib.hid hMa
  clear h hn gLa h10 hm hMa
  go_enter Try.func4, Try.ntmps4
  go_wp2_with fail
  refine (shown9 _).mono ?_
  rintro e w1 ⟨rfl, hb1⟩
  have RA_2 := Lib.hid ((RA.out.al (.cells #[.slice A n c] 32)).bl hb1)
  have EA_2 := Lib.hid ((show Whole (w.alloc (.cells #[.slice A n c] 32)) (w.heap.size) (32) ([.slice A n c]) from Whole.new2 (by first | rfl | simp)).bl hb1)
  have Bel_2 := Lib.hid (bel_bl (bel_al (Below.refl _ w) (.cells #[.slice A n c] 32)) hb1)
  clear hb1
  have LO_EA_3 : RowKit.Hid (w.heap.size ≤ w.heap.size) := Lib.hid (by omega)
  have lw4 : (w1).cell? ⟨w.heap.size, 0, none⟩ = some (.slice A n c) := EA_2.out.cell (i := 0) rfl
  go_wp2_with fail
  clear lw4
  refine (HFA.out _ RA_2.out).mono ?_
  rintro e w5 ⟨rfl, hb5⟩
  have RA_6 := Lib.hid (RA_2.out.bl hb5)
  have EA_6 := Lib.hid (EA_2.out.bl hb5)
  have Bel_6 := Lib.hid (bel_bl Bel_2.out hb5)
  clear hb5
  have lw7 : (w5).cell? ⟨w.heap.size, 0, none⟩ = some (.slice A n c) := EA_6.out.cell (i := 0) rfl
  have fr := EA_6.out.free 0
  go_upto_region 3 with fail
  clear fr lw7
  obtain ⟨v8, gv8⟩ : ∃ x, (w5.setCell ⟨w.heap.size, 0, none⟩ (.slice A La.length c)) = x := ⟨_, rfl⟩
  have RA_8 := Lib.hid (show RdS v8 v8.heap.size _ _ _ _ _ from gv8 ▸ (RdS.far RA_6.out (p := ⟨w.heap.size, 0, none⟩) (fun hn a e => by have h1 := LA.out a e hn; have h2 := LO_EA_3.out; show a.block ≠ w.heap.size; omega) _))
  have EA_8 : RowKit.Hid (Whole v8 w.heap.size 32 ([.slice A La.length c])) := Lib.hid (gv8 ▸ (EA_6.out.set_ 0 _))
  have Bel_8 : RowKit.Hid (Below w.heap.size w v8) := Lib.hid (gv8 ▸ (Bel_6.out.setCell (by show w.heap.size ≤ w.heap.size; exact LO_EA_3.out) _))
  rw [gv8]
  clear gv8
  have SA_9 := Lib.hid (HSA.out _ RA_8.out)
  have lw10 : (v8).cell? ⟨w.heap.size, 0, none⟩ = some (.slice A La.length c) := EA_8.out.cell (i := 0) rfl
  go_wp2_with fail
  clear lw10
  refine (HMa.out _ SA_9.out).mono ?_
  rintro e w11 ⟨rfl, hb11⟩
  have EA_12 := Lib.hid (EA_8.out.bl hb11)
  have SA_12 := Lib.hid (SA_9.out.bl hb11)
  have Bel_12 := Lib.hid (bel_bl Bel_8.out hb11)
  clear hb11
  have lw13 : (w11).cell? ⟨w.heap.size, 0, none⟩ = some (.slice A La.length c) := EA_12.out.cell (i := 0) rfl
  go_wp2
  go_ret
  exact ⟨rfl, Bel_12.out⟩

set_option maxRecDepth 100000 in
set_option maxHeartbeats 4000000 in
theorem op_c (A : Option Addr) (n c : Nat) (t0 : Int) (L : List OpT) (w : World) (h : RdS w w.heap.size 20 A n c (rowsV opCells L)) (hn : n ≤ maxLen) (hm : mayE (L.take 10) = 0) (ht : decide (t0 < 0) = false) (ht2 : ((L.take 10).length : Int) ≤ t0) :
    Calls Try.prog 4 #[.agg #[.slice A n c], .int .i64 t0] w fun e w' => e = .returned (.bool true) ∧ Below w.heap.size w w' := by
  have RA := Lib.hid h
  have LA : RowKit.Hid (∀ a, A = some a → 0 < n → a.block < w.heap.size) := Lib.hid h.low
  have HFA := Lib.hid (fun W h => few_any A n c L W h hn)
  have HSA := Lib.hid (fun (W : World) (h : RdS W W.heap.size 20 A n c (rowsV opCells L)) => h.fewer 10)
  have h10 := few_len L
  obtain ⟨La, gLa⟩ : ∃ x, L.take 10 = x := ⟨_, rfl⟩
  rw [gLa] at HFA HSA h10
  have hMa := fun W h => mayedit_any A La.length c La W h (by unfold maxLen; omega)
  rw [gLa] at hm
  rw [gLa] at ht2
  rw [hm] at hMa
  have q : decide ((La.length : Int) ≤ t0) = true := decide_eq_true ht2
  have HMa := Lib.hid hMa
  clear h hn gLa h10 hm hMa ht2
  go_enter Try.func4, Try.ntmps4
  go_wp2_with fail
  refine (shown9 _).mono ?_
  rintro e w1 ⟨rfl, hb1⟩
  have RA_2 := Lib.hid ((RA.out.al (.cells #[.slice A n c] 32)).bl hb1)
  have EA_2 := Lib.hid ((show Whole (w.alloc (.cells #[.slice A n c] 32)) (w.heap.size) (32) ([.slice A n c]) from Whole.new2 (by first | rfl | simp)).bl hb1)
  have Bel_2 := Lib.hid (bel_bl (bel_al (Below.refl _ w) (.cells #[.slice A n c] 32)) hb1)
  clear hb1
  have LO_EA_3 : RowKit.Hid (w.heap.size ≤ w.heap.size) := Lib.hid (by omega)
  have lw4 : (w1).cell? ⟨w.heap.size, 0, none⟩ = some (.slice A n c) := EA_2.out.cell (i := 0) rfl
  go_wp2_with fail
  clear lw4
  refine (HFA.out _ RA_2.out).mono ?_
  rintro e w5 ⟨rfl, hb5⟩
  have RA_6 := Lib.hid (RA_2.out.bl hb5)
  have EA_6 := Lib.hid (EA_2.out.bl hb5)
  have Bel_6 := Lib.hid (bel_bl Bel_2.out hb5)
  clear hb5
  have lw7 : (w5).cell? ⟨w.heap.size, 0, none⟩ = some (.slice A n c) := EA_6.out.cell (i := 0) rfl
  have fr := EA_6.out.free 0
  go_upto_region 3 with fail
  clear fr lw7
  obtain ⟨v8, gv8⟩ : ∃ x, (w5.setCell ⟨w.heap.size, 0, none⟩ (.slice A La.length c)) = x := ⟨_, rfl⟩
  have RA_8 := Lib.hid (show RdS v8 v8.heap.size _ _ _ _ _ from gv8 ▸ (RdS.far RA_6.out (p := ⟨w.heap.size, 0, none⟩) (fun hn a e => by have h1 := LA.out a e hn; have h2 := LO_EA_3.out; show a.block ≠ w.heap.size; omega) _))
  have EA_8 : RowKit.Hid (Whole v8 w.heap.size 32 ([.slice A La.length c])) := Lib.hid (gv8 ▸ (EA_6.out.set_ 0 _))
  have Bel_8 : RowKit.Hid (Below w.heap.size w v8) := Lib.hid (gv8 ▸ (Bel_6.out.setCell (by show w.heap.size ≤ w.heap.size; exact LO_EA_3.out) _))
  rw [gv8]
  clear gv8
  have SA_9 := Lib.hid (HSA.out _ RA_8.out)
  have lw10 : (v8).cell? ⟨w.heap.size, 0, none⟩ = some (.slice A La.length c) := EA_8.out.cell (i := 0) rfl
  go_wp2_with fail
  clear lw10
  refine (HMa.out _ SA_9.out).mono ?_
  rintro e w11 ⟨rfl, hb11⟩
  have EA_12 := Lib.hid (EA_8.out.bl hb11)
  have SA_12 := Lib.hid (SA_9.out.bl hb11)
  have Bel_12 := Lib.hid (bel_bl Bel_8.out hb11)
  clear hb11
  have lw13 : (w11).cell? ⟨w.heap.size, 0, none⟩ = some (.slice A La.length c) := EA_12.out.cell (i := 0) rfl
  go_wp2
  go_ret
  exact ⟨rfl, Bel_12.out⟩

set_option maxRecDepth 100000 in
set_option maxHeartbeats 4000000 in
theorem op_d (A : Option Addr) (n c : Nat) (t0 : Int) (L : List OpT) (w : World) (h : RdS w w.heap.size 20 A n c (rowsV opCells L)) (hn : n ≤ maxLen) (k : Nat) (ht : t0 = (k : Int)) (hm : mayE (L.take 10) = 0) (hk : k < (L.take 10).length) :
    Calls Try.prog 4 #[.agg #[.slice A n c], .int .i64 t0] w fun e w' => e = .returned (.bool true) ∧ Below w.heap.size w w' := by
  have hn0 : 0 < n := by
    have h1 := h.rlen opCells_len' (by decide)
    have h2 : (L.take 10).length ≤ L.length := by rw [List.length_take]; omega
    omega
  obtain ⟨b, off, rfl, -, -⟩ := h.place opCells_len' (by decide) hn0
  subst ht
  clear hn0
  have RA := Lib.hid h
  have LA : RowKit.Hid (∀ a, (some (⟨b, off, none⟩ : Addr)) = some a → 0 < n → a.block < w.heap.size) := Lib.hid h.low
  have HFA := Lib.hid (fun W h => few_any (some ⟨b, off, none⟩) n c L W h hn)
  have HSA := Lib.hid (fun (W : World) (h : RdS W W.heap.size 20 (some ⟨b, off, none⟩) n c (rowsV opCells L)) => h.fewer 10)
  have h10 := few_len L
  obtain ⟨La, gLa⟩ : ∃ x, L.take 10 = x := ⟨_, rfl⟩
  rw [gLa] at HFA HSA h10
  have hMa := fun W h => mayedit_any (some ⟨b, off, none⟩) La.length c La W h (by unfold maxLen; omega)
  rw [gLa] at hm hk
  rw [hm] at hMa
  have HMa := Lib.hid hMa
  obtain ⟨i0, hi, hz0, hz1, hz2⟩ := info_parts_ info_op
  have hle : La.length ≤ c := by
    have h1 := h.rlen opCells_len' (by decide)
    have h2 : La.length ≤ L.length := by rw [← gLa, List.length_take]; omega
    have h3 := h.le
    omega
  have HLE := Lib.hid hle
  have hj := less_may hm k hk
  have hne := less_ne k hk
  obtain ⟨hpa, hpa2, hpa3⟩ := mayE_mem hm
  have HLa : RowKit.Hid (La.length ≤ 6) := Lib.hid hpa3
  have HKL := Lib.hid hk
  have hk0 : La[k]? = some (La[k]'hk) := List.getElem?_eq_getElem _
  obtain ⟨o, go⟩ : ∃ o, La[k]'hk = o := ⟨_, rfl⟩
  rw [go] at hk0
  have HK := Lib.hid hk0
  have hO := mayop_any o
  rw [hpa o (List.mem_of_getElem? hk0)] at hO
  have HO := Lib.hid hO
  obtain ⟨J, gJ⟩ : ∃ x, La.take k ++ La.drop (k + 1) = x := ⟨_, rfl⟩
  obtain ⟨nJ, gnJ⟩ : ∃ x, La.length - 1 = x := ⟨_, rfl⟩
  rw [gJ] at hj hne
  rw [gnJ] at hj
  have HJ := Lib.hid gJ
  have HnJ : RowKit.Hid (0 + k + (La.length - (k + 1)) = nJ) := Lib.hid (by omega)
  have HMj := Lib.hid (fun A1 c1 W (h : RdS W W.heap.size 20 A1 nJ c1 (rowsV opCells J)) => mayedit_any A1 nJ c1 J W h (by unfold maxLen; omega))
  rw [hj] at HMj
  have hS1 := fun A1 c1 W (h : RdS W W.heap.size 20 A1 nJ c1 (rowsV opCells J)) h2 => same_any A1 (some ⟨b, off, none⟩) nJ La.length c1 c J La W h h2 (by unfold maxLen; omega)
  rw [hne] at hS1
  have HS1 := Lib.hid hS1
  have hS2 := fun W h1 h2 => same_any (some ⟨b, off, none⟩) (some ⟨b, off, none⟩) La.length La.length c c La La W h1 h2 (by unfold maxLen; omega)
  rw [decide_eq_true (rfl : La = La)] at hS2
  have HS2 := Lib.hid hS2
  have HMm := Lib.hid (fun A1 c1 W (h : RdS W W.heap.size 20 A1 7 c1 (rowsV opCells (List.replicate 7 o))) => mayedit_any A1 7 c1 (List.replicate 7 o) W h (by unfold maxLen; omega))
  rw [many_may] at HMm
  have qk : ((k : Int) < 0) = False := by simp
  have q1 : decide ((La.length : Int) ≤ (k : Int)) = false := decide_eq_false (by omega)
  have q1' : decide (La.length ≤ k) = false := decide_eq_false (by omega)
  have s1 : IntKind.i64.wrap ((k : Int) + 1) = ((k + 1 : Nat) : Int) := (IntWalk.i64_in _ (by omega)).trans (by omega)
  have hkL : k < La.length := hk
  clear h hn gLa h10 hm hMa hj hne hpa hpa2 hpa3 hk0 go hO gJ gnJ hS1 hS2 hle hk
  by_cases hJ0 : nJ = 0
  all_goals
    first | rw [if_pos hJ0] at HMj | rw [if_neg hJ0] at HMj
    first | (have q6 : ((nJ : Int) == 0) = true := beq_iff_eq.2 (by omega)) | (have q6 : ((nJ : Int) == 0) = false := beq_eq_false_iff_ne.2 (by omega))
    first | (have q6' : decide (nJ = 0) = true := decide_eq_true hJ0) | (have q6' : decide (nJ = 0) = false := decide_eq_false hJ0)
    have HJ0 := Lib.hid hJ0
    clear hJ0
    go_enter Try.func4, Try.ntmps4
    go_wp2_with fail
    refine (shown9 _).mono ?_
    rintro e w1 ⟨rfl, hb1⟩
    have RA_2 := Lib.hid ((RA.out.al (.cells #[.slice (some ⟨b, off, none⟩) n c] 32)).bl hb1)
    have EA_2 := Lib.hid ((show Whole (w.alloc (.cells #[.slice (some ⟨b, off, none⟩) n c] 32)) (w.heap.size) (32) ([.slice (some ⟨b, off, none⟩) n c]) from Whole.new2 (by first | rfl | simp)).bl hb1)
    have Bel_2 := Lib.hid (bel_bl (bel_al (Below.refl _ w) (.cells #[.slice (some ⟨b, off, none⟩) n c] 32)) hb1)
    clear hb1
    have LO_EA_3 : RowKit.Hid (w.heap.size ≤ w.heap.size) := Lib.hid (by omega)
    have lw4 : (w1).cell? ⟨w.heap.size, 0, none⟩ = some (.slice (some ⟨b, off, none⟩) n c) := EA_2.out.cell (i := 0) rfl
    go_wp2_with fail
    clear lw4
    refine (HFA.out _ RA_2.out).mono ?_
    rintro e w5 ⟨rfl, hb5⟩
    have RA_6 := Lib.hid (RA_2.out.bl hb5)
    have EA_6 := Lib.hid (EA_2.out.bl hb5)
    have Bel_6 := Lib.hid (bel_bl Bel_2.out hb5)
    clear hb5
    have lw7 : (w5).cell? ⟨w.heap.size, 0, none⟩ = some (.slice (some ⟨b, off, none⟩) n c) := EA_6.out.cell (i := 0) rfl
    have fr := EA_6.out.free 0
    go_upto_region 3 with fail
    clear fr lw7
    obtain ⟨v8, gv8⟩ : ∃ x, (w5.setCell ⟨w.heap.size, 0, none⟩ (.slice (some ⟨b, off, none⟩) La.length c)) = x := ⟨_, rfl⟩
    have RA_8 := Lib.hid (show RdS v8 v8.heap.size _ _ _ _ _ from gv8 ▸ (RdS.far RA_6.out (p := ⟨w.heap.size, 0, none⟩) (fun hn a e => by have h1 := LA.out a e hn; have h2 := LO_EA_3.out; show a.block ≠ w.heap.size; omega) _))
    have EA_8 : RowKit.Hid (Whole v8 w.heap.size 32 ([.slice (some ⟨b, off, none⟩) La.length c])) := Lib.hid (gv8 ▸ (EA_6.out.set_ 0 _))
    have Bel_8 : RowKit.Hid (Below w.heap.size w v8) := Lib.hid (gv8 ▸ (Bel_6.out.setCell (by show w.heap.size ≤ w.heap.size; exact LO_EA_3.out) _))
    rw [gv8]
    clear gv8
    have SA_9 := Lib.hid (HSA.out _ RA_8.out)
    have lw10 : (v8).cell? ⟨w.heap.size, 0, none⟩ = some (.slice (some ⟨b, off, none⟩) La.length c) := EA_8.out.cell (i := 0) rfl
    go_wp2_with fail
    clear lw10
    refine (HMa.out _ SA_9.out).mono ?_
    rintro e w11 ⟨rfl, hb11⟩
    have EA_12 := Lib.hid (EA_8.out.bl hb11)
    have SA_12 := Lib.hid (SA_9.out.bl hb11)
    have Bel_12 := Lib.hid (bel_bl Bel_8.out hb11)
    clear hb11
    have lw13 : (w11).cell? ⟨w.heap.size, 0, none⟩ = some (.slice (some ⟨b, off, none⟩) La.length c) := EA_12.out.cell (i := 0) rfl
    go_upto_region 5 with fail
    clear lw13
    refine wp_behind2 (fun a a' w' => ∃ (A6 : Option Addr) (c6 g6 : Nat) (u28 u29 u30 u31 u32 u33 u34 u35 u36 u37 u38 u39 u40 : Value), a' = ((((((((((((((a.put (some 28) u28).put (some 29) u29).put (some 30) u30).put (some 31) u31).put (some 32) u32).put (some 33) u33).put (some 34) u34).put (some 35) u35).put (some 36) u36).put (some 37) u37).put (some 38) u38).put (some 39) u39).put (some 40) u40).put (some 6) (.pointer (some ⟨g6, 0, none⟩))) ∧ RowKit.Hid (Ext w11 w' ∧ w.heap.size ≤ g6 ∧ Whole w' g6 32 [.slice A6 nJ c6] ∧ RdS w' w'.heap.size 20 A6 nJ c6 (rowsV opCells J))) ?_ ?_
    · have EA_14 := Lib.hid (EA_12.out.dr)
      have SA_14 := Lib.hid (SA_12.out.dr)
      have Bel_14 := Lib.hid (bel_dr Bel_12.out)
      have EX0 : RowKit.Hid (Ext w11.drew w11.drew) := Lib.hid (Ext.refl _)
      obtain ⟨B0, hB0⟩ : ∃ x, w11.drew.heap.size = x := ⟨_, rfl⟩
      have HB0 := Lib.hid hB0
      clear hB0
      have ldt0 : ∀ w', Kept (From_ B0) w11.drew w' → w'.cell? ⟨w.heap.size, 0, none⟩ = some (.slice (some ⟨b, off, none⟩) La.length c) := fun w' h => h.from_cell (Nat.lt_of_lt_of_eq (EA_14.out.lt) HB0.out) (EA_14.out.cell (i := 0) rfl)
      refine wp_region_reg (From_ B0) (by kernel_rfl) ?_
      apply wpR_next 1 (some 29)
      · simp only [List.getElem?_toArray, List.getElem?_cons_succ, List.getElem?_cons_zero]; exact rfl
      · rfl
      · kernel_rfl
      · kernel_rfl
      · kernel_rfl
      · first | exact fun _ _ _ _ h => Exit.noConfusion h.1 | exact fun _ _ _ _ h => h
      apply Exists.intro
      apply And.intro
      · apply yr_run; rfl; intro w' hw'; go_simp; (try with_reducible rfl)
      simp only [Act.put, List.setIfInBounds_toArray, List.set_cons_zero, List.set_cons_succ]
      apply wpR_next 2 (some 30)
      · simp only [List.getElem?_toArray, List.getElem?_cons_succ, List.getElem?_cons_zero]; exact rfl
      · rfl
      · kernel_rfl
      · kernel_rfl
      · kernel_rfl
      · first | exact fun _ _ _ _ h => Exit.noConfusion h.1 | exact fun _ _ _ _ h => h
      apply Exists.intro
      apply And.intro
      · apply yr_run; rfl; intro w' hw'; go_simp; (try with_reducible rfl)
      simp only [Act.put, List.setIfInBounds_toArray, List.set_cons_zero, List.set_cons_succ]
      apply wpR_next 3 (some 31)
      · simp only [List.getElem?_toArray, List.getElem?_cons_succ, List.getElem?_cons_zero]; exact rfl
      · rfl
      · kernel_rfl
      · kernel_rfl
      · kernel_rfl
      · first | exact fun _ _ _ _ h => Exit.noConfusion h.1 | exact fun _ _ _ _ h => h
      apply Exists.intro
      apply And.intro
      · apply yr_run; rfl; intro w' hw'; go_simp; (try with_reducible rfl)
      simp only [Act.put, List.setIfInBounds_toArray, List.set_cons_zero, List.set_cons_succ]
      apply wpR_next 4 (some 32)
      · simp only [List.getElem?_toArray, List.getElem?_cons_succ, List.getElem?_cons_zero]; exact rfl
      · rfl
      · kernel_rfl
      · kernel_rfl
      · kernel_rfl
      · first | exact fun _ _ _ _ h => Exit.noConfusion h.1 | exact fun _ _ _ _ h => h
      apply Exists.intro
      apply And.intro
      · exact yr_run (by rfl) (fun w' _ => exec_slice_high 30 29 (.tmp 30) (.tmp 31) rfl Try.underlying30 (s := 20) (by kernel_rfl) rfl rfl (by have := HKL.out; have := HLE.out; omega))
      simp only [Act.put, List.setIfInBounds_toArray, List.set_cons_zero, List.set_cons_succ]
      apply wpR_next 6 (some 34)
      · simp only [List.getElem?_toArray, List.getElem?_cons_succ, List.getElem?_cons_zero]; exact rfl
      · rfl
      · kernel_rfl
      · kernel_rfl
      · kernel_rfl
      · first | exact fun _ _ _ _ h => Exit.noConfusion h.1 | exact fun _ _ _ _ h => h
      apply Exists.intro
      apply And.intro
      · apply yr_run; rfl; intro w' hw'; go_simp; (try with_reducible rfl)
      simp only [Act.put, List.setIfInBounds_toArray, List.set_cons_zero, List.set_cons_succ]
      apply wpR_next 7 (some 35)
      · simp only [List.getElem?_toArray, List.getElem?_cons_succ, List.getElem?_cons_zero]; exact rfl
      · rfl
      · kernel_rfl
      · kernel_rfl
      · kernel_rfl
      · first | exact fun _ _ _ _ h => Exit.noConfusion h.1 | exact fun _ _ _ _ h => h
      apply Exists.intro
      apply And.intro
      · apply yr_run; rfl; intro w' hw'; go_simp; (try with_reducible rfl)
      simp only [Act.put, List.setIfInBounds_toArray, List.set_cons_zero, List.set_cons_succ]
      apply wpR_next 8 (some 36)
      · simp only [List.getElem?_toArray, List.getElem?_cons_succ, List.getElem?_cons_zero]; exact rfl
      · rfl
      · kernel_rfl
      · kernel_rfl
      · kernel_rfl
      · first | exact fun _ _ _ _ h => Exit.noConfusion h.1 | exact fun _ _ _ _ h => h
      apply Exists.intro
      apply And.intro
      · apply yr_run; rfl; intro w' hw'; go_simp; (try with_reducible rfl)
      simp only [Act.put, List.setIfInBounds_toArray, List.set_cons_zero, List.set_cons_succ]
      apply wpR_next 9 (some 37)
      · simp only [List.getElem?_toArray, List.getElem?_cons_succ, List.getElem?_cons_zero]; exact rfl
      · rfl
      · kernel_rfl
      · kernel_rfl
      · kernel_rfl
      · first | exact fun _ _ _ _ h => Exit.noConfusion h.1 | exact fun _ _ _ _ h => h
      apply Exists.intro
      apply And.intro
      · apply yr_run; rfl; intro w' hw'; go_simp; (try with_reducible rfl)
      simp only [Act.put, List.setIfInBounds_toArray, List.set_cons_zero, List.set_cons_succ]
      apply wpR_next 10 (some 38)
      · simp only [List.getElem?_toArray, List.getElem?_cons_succ, List.getElem?_cons_zero]; exact rfl
      · rfl
      · kernel_rfl
      · kernel_rfl
      · kernel_rfl
      · first | exact fun _ _ _ _ h => Exit.noConfusion h.1 | exact fun _ _ _ _ h => h
      apply Exists.intro
      apply And.intro
      · exact yr_run (by rfl) (fun w' _ => exec_slice_low 30 29 (.tmp 35) (.tmp 37) rfl Try.underlying30 (s := 20) (by kernel_rfl) rfl (k := k + 1) (by rfl) HKL.out)
      simp only [Act.put, List.setIfInBounds_toArray, List.set_cons_zero, List.set_cons_succ]
      refine wpR_two 0 13 (by kernel_rfl) ?_ ?_
      · apply at_run 0 (some 28)
        · simp only [List.getElem?_toArray, List.getElem?_cons_succ, List.getElem?_cons_zero]; exact rfl
        · rfl
        · rfl
        intro w' hw'
        have E_1_2 := Lib.hid (Ext.trans EX0.out (hw'))
        refine ⟨.slice (some ⟨w'.heap.size, 0, none⟩) 0 0, w'.alloc (.cells #[] 29), ?_, Kept.of_below (below1 _ _), ?_⟩
        · go_simp
        have RR_n1_1 : RowKit.Hid (Ow w11.drew B0 29 20 (.slice (some ⟨w'.heap.size, 0, none⟩) 0 0) 0 [] (w'.alloc (.cells #[] 29))) := Lib.hid (Ow.new_ (e := 29) (size := 20) (cs := #[]) E_1_2.out (Nat.le_of_eq HB0.out) (by have h1 := E_1_2.out.size; have h2 := HB0.out; omega) (n := 0) (Nat.zero_le _) rfl)
        have E_1_3 := Lib.hid (Ext.trans E_1_2.out (below1 w' (.cells #[] 29)))
        have hkk : Kept (From_ B0) w11.drew (w'.alloc (.cells #[] 29)) := (Kept.of_ext hw').trans (Kept.of_below (below1 _ _))
        obtain ⟨v1_4, gv1_4⟩ : ∃ x, w'.alloc (.cells #[] 29) = x := ⟨_, rfl⟩
        rw [gv1_4] at RR_n1_1 E_1_3 hkk ⊢
        have ldt1_5 := fun w'' (h : Kept (From_ B0) v1_4 w'') => ldt0 w'' (hkk.trans h)
        clear ldt0
        clear gv1_4 hkk
        obtain ⟨g1_1, gg1_1⟩ : ∃ x, w'.heap.size = x := ⟨_, rfl⟩
        rw [gg1_1] at RR_n1_1  ⊢
        clear gg1_1 hw'
        try simp only [Act.put, List.setIfInBounds_toArray, List.set_cons_zero, List.set_cons_succ]
        refine wpR_two 5 13 (by kernel_rfl) ?_ ?_
        · apply at_run 5 (some 33)
          · simp only [List.getElem?_toArray, List.getElem?_cons_succ, List.getElem?_cons_zero]; exact rfl
          · rfl
          · rfl
          intro w' hw'
          have RR_2_7 := Lib.hid (Ow.up RR_n1_1.out (hw'))
          have E_2_7 := Lib.hid (Ext.trans E_1_3.out (hw'))
          obtain ⟨vv, w'', hrun, ho, hb, hg, hbk⟩ := Ow.app2 (P := Try.prog) 30 30 29 i0 _ 20 168 _ Try.underlying30 hi hz0 hz1 hz2 rfl (by decide) _ _ _ RR_2_7.out _ _ _ _ _ ((by have h1 := ((SA_14.out.bl E_2_7.out)).take_ k (Nat.le_of_lt HKL.out); rwa [← rowsV_take opCells opCells_len'] at h1)) (rowsOp_one _) (by have := HLa.out; have := HKL.out; unfold maxLen; omega) (by have := HLa.out; have := HKL.out; omega)
          refine ⟨vv, w'', exec_append (by rfl) (by rfl) (by rfl) hrun, Kept.of_from hb, ?_⟩
          have E_2_6 : RowKit.Hid (Ext w11.drew w'') := Lib.hid ho.below
          have hkk : Kept (From_ B0) v1_4 w'' := (Kept.of_ext hw').trans (Kept.of_from hb)
          obtain ⟨AA2_6, cc2_6, rfl, hrr⟩ := ho.rds
          have RR_2_6 := Lib.hid ho
          clear hrr
          obtain ⟨z2_6, gz2_6⟩ : ∃ x, w'' = x := ⟨_, rfl⟩
          rw [gz2_6] at RR_2_6 E_2_6 hkk ⊢
          have ldt2_8 := fun w'' (h : Kept (From_ B0) z2_6 w'') => ldt1_5 w'' (hkk.trans h)
          clear ldt1_5
          clear hkk hrun ho hb hg hbk gz2_6 hw'
          try simp only [Act.put, List.setIfInBounds_toArray, List.set_cons_zero, List.set_cons_succ]
          refine wpR_two 11 13 (by kernel_rfl) ?_ ?_
          · apply at_run 11 (some 39)
            · simp only [List.getElem?_toArray, List.getElem?_cons_succ, List.getElem?_cons_zero]; exact rfl
            · rfl
            · rfl
            intro w' hw'
            have RR_3_10 := Lib.hid (Ow.up RR_2_6.out (hw'))
            have E_3_10 := Lib.hid (Ext.trans E_2_6.out (hw'))
            obtain ⟨vv, w'', hrun, ho, hb, hg, hbk⟩ := Ow.app2 (P := Try.prog) 30 30 29 i0 _ 20 168 _ Try.underlying30 hi hz0 hz1 hz2 rfl (by decide) _ _ _ RR_3_10.out _ _ _ _ _ ((by have h1 := ((SA_14.out.bl E_3_10.out)).low_ (k := k + 1) HKL.out; rwa [← rowsV_drop opCells opCells_len'] at h1)) (rowsOp_one _) (by have := HLa.out; have := HKL.out; unfold maxLen; omega) (by have := HLa.out; have := HKL.out; omega)
            refine ⟨vv, w'', exec_append (by rfl) (by rfl) (by rfl) hrun, Kept.of_from hb, ?_⟩
            have E_3_9 : RowKit.Hid (Ext w11.drew w'') := Lib.hid ho.below
            have hkk : Kept (From_ B0) z2_6 w'' := (Kept.of_ext hw').trans (Kept.of_from hb)
            obtain ⟨AA3_9, cc3_9, rfl, hrr⟩ := ho.rds
            have RR_3_9 := Lib.hid ho
            clear hrr
            obtain ⟨z3_9, gz3_9⟩ : ∃ x, w'' = x := ⟨_, rfl⟩
            rw [gz3_9] at RR_3_9 E_3_9 hkk ⊢
            have ldt3_11 := fun w'' (h : Kept (From_ B0) z3_9 w'') => ldt2_8 w'' (hkk.trans h)
            clear ldt2_8
            clear hkk hrun ho hb hg hbk gz3_9 hw'
            try simp only [Act.put, List.setIfInBounds_toArray, List.set_cons_zero, List.set_cons_succ]
            apply wpR_next 12 (some 40)
            · simp only [List.getElem?_toArray, List.getElem?_cons_succ, List.getElem?_cons_zero]; exact rfl
            · rfl
            · kernel_rfl
            · kernel_rfl
            · kernel_rfl
            · first | exact fun _ _ _ _ h => Exit.noConfusion h.1 | exact fun _ _ _ _ h => h
            apply Exists.intro
            apply And.intro
            · apply yr_run; rfl; intro w' hw'; go_simp; (try with_reducible rfl)
            simp only [Act.put, List.setIfInBounds_toArray, List.set_cons_zero, List.set_cons_succ]
            refine wpR_one 13 (by kernel_rfl) ?_
            apply at_run 13 (some 6)
            · simp only [List.getElem?_toArray, List.getElem?_cons_succ, List.getElem?_cons_zero]; exact rfl
            · rfl
            · rfl
            intro w' hw'
            have RR_3_13 := Lib.hid (Ow.up RR_3_9.out (hw'))
            have E_3_13 := Lib.hid (Ext.trans E_3_9.out (hw'))
            refine ⟨.pointer (some ⟨w'.heap.size, 0, none⟩), w'.alloc (.cells #[.slice none 0 0] 32), ?_, Kept.of_below (below1 _ _), ?_⟩
            · go_simp
            have NE_R_V_3_12 : RowKit.Hid (some w'.heap.size ≠ _) := Lib.hid (Ow.ne_ RR_3_13.out (Nat.le_refl _))
            have LOv3_12 : RowKit.Hid (w11.drew.heap.size ≤ w'.heap.size) := Lib.hid E_3_13.out.size
            have RR_3_14 := Lib.hid (Ow.up RR_3_13.out (below1 w' (.cells #[.slice none 0 0] 32)))
            have E_3_14 := Lib.hid (Ext.trans E_3_13.out (below1 w' (.cells #[.slice none 0 0] 32)))
            have XV_n3_12 : RowKit.Hid (Whole (w'.alloc (.cells #[.slice none 0 0] 32)) w'.heap.size 32 [.slice none 0 0]) := Lib.hid (Whole.new_ _ _ [.slice none 0 0])
            have hkk : Kept (From_ B0) z3_9 (w'.alloc (.cells #[.slice none 0 0] 32)) := (Kept.of_ext hw').trans (Kept.of_below (below1 _ _))
            obtain ⟨v3_15, gv3_15⟩ : ∃ x, w'.alloc (.cells #[.slice none 0 0] 32) = x := ⟨_, rfl⟩
            rw [gv3_15] at RR_3_14 XV_n3_12 E_3_14 hkk ⊢
            have ldt3_16 := fun w'' (h : Kept (From_ B0) v3_15 w'') => ldt3_11 w'' (hkk.trans h)
            clear ldt3_11
            clear gv3_15 hkk
            obtain ⟨g3_12, gg3_12⟩ : ∃ x, w'.heap.size = x := ⟨_, rfl⟩
            rw [gg3_12] at XV_n3_12 LOv3_12 NE_R_V_3_12 ⊢
            clear gg3_12 hw'
            try simp only [Act.put, List.setIfInBounds_toArray, List.set_cons_zero, List.set_cons_succ]
            refine wpR_one 14 (by kernel_rfl) ?_
            apply at_store 14
            · simp only [List.getElem?_toArray, List.getElem?_cons_succ, List.getElem?_cons_zero]; exact rfl
            · rfl
            · rfl
            intro w' hw'
            have RR_3_18 := Lib.hid (Ow.up RR_3_14.out (hw'))
            have XV_3_18 := Lib.hid (Whole.below XV_n3_12.out (hw'))
            have E_3_18 := Lib.hid (Ext.trans E_3_14.out (hw'))
            have hcc := XV_3_18.out.cell (i := 0) rfl
            have hff := XV_3_18.out.free 0
            apply Exists.intro
            apply And.intro
            · go_simp; exact rfl
            apply And.intro
            · exact (Kept.refl _ _).setCell (.inl (show B0 ≤ g3_12 by have h1 := LOv3_12.out; have h2 := HB0.out; omega)) _
            clear hcc hff
            try simp only [Act.put, List.setIfInBounds_toArray, List.set_cons_zero, List.set_cons_succ]
            refine wpR_done (by kernel_rfl) ?_ _
            intro wE hwE
            obtain ⟨A6, c6, hv6, hr6⟩ := Ow.rds_far (i := 0) RR_3_18.out NE_R_V_3_12.out (_)
            obtain ⟨rfl, -, rfl⟩ : _ = A6 ∧ _ = _ ∧ _ = c6 := by injection hv6 with a1 a2 a3; exact ⟨a1, a2, a3⟩
            have hn6 := HnJ.out
            have hn7 : k + (La.length - (k + 1)) = nJ := by omega
            have hx6 := (XV_3_18.out.set_ 0 _).below hwE
            have hy6 := hr6.bl hwE
            rw [hn6, List.nil_append, ← rowsV_app, HJ.out] at hy6
            first | rw [hn6] at hx6 | rw [hn7] at hx6
            refine ⟨rfl, _, _, g3_12, _, _, _, _, _, _, _, _, _, _, _, _, _, rfl, Lib.hid ⟨?_, ?_, hx6, hy6⟩⟩
            · exact Ext.trans ((Below.refl _ _).drew) (Ext.trans (E_3_18.out.setCell LOv3_12.out _) hwE)
            · exact Nat.le_trans Bel_14.out.size LOv3_12.out
          · apply at_run 13 (some 6)
            · simp only [List.getElem?_toArray, List.getElem?_cons_succ, List.getElem?_cons_zero]; exact rfl
            · rfl
            · rfl
            intro w' hw'
            have RR_4_20 := Lib.hid (Ow.up RR_2_6.out (hw'))
            have E_4_20 := Lib.hid (Ext.trans E_2_6.out (hw'))
            refine ⟨.pointer (some ⟨w'.heap.size, 0, none⟩), w'.alloc (.cells #[.slice none 0 0] 32), ?_, Kept.of_below (below1 _ _), ?_⟩
            · go_simp
            have NE_R_V_4_19 : RowKit.Hid (some w'.heap.size ≠ _) := Lib.hid (Ow.ne_ RR_4_20.out (Nat.le_refl _))
            have LOv4_19 : RowKit.Hid (w11.drew.heap.size ≤ w'.heap.size) := Lib.hid E_4_20.out.size
            have RR_4_21 := Lib.hid (Ow.up RR_4_20.out (below1 w' (.cells #[.slice none 0 0] 32)))
            have E_4_21 := Lib.hid (Ext.trans E_4_20.out (below1 w' (.cells #[.slice none 0 0] 32)))
            have XV_n4_19 : RowKit.Hid (Whole (w'.alloc (.cells #[.slice none 0 0] 32)) w'.heap.size 32 [.slice none 0 0]) := Lib.hid (Whole.new_ _ _ [.slice none 0 0])
            have hkk : Kept (From_ B0) z2_6 (w'.alloc (.cells #[.slice none 0 0] 32)) := (Kept.of_ext hw').trans (Kept.of_below (below1 _ _))
            obtain ⟨v4_22, gv4_22⟩ : ∃ x, w'.alloc (.cells #[.slice none 0 0] 32) = x := ⟨_, rfl⟩
            rw [gv4_22] at RR_4_21 XV_n4_19 E_4_21 hkk ⊢
            have ldt4_23 := fun w'' (h : Kept (From_ B0) v4_22 w'') => ldt2_8 w'' (hkk.trans h)
            clear ldt2_8
            clear gv4_22 hkk
            obtain ⟨g4_19, gg4_19⟩ : ∃ x, w'.heap.size = x := ⟨_, rfl⟩
            rw [gg4_19] at XV_n4_19 LOv4_19 NE_R_V_4_19 ⊢
            clear gg4_19 hw'
            try simp only [Act.put, List.setIfInBounds_toArray, List.set_cons_zero, List.set_cons_succ]
            refine wpR_one 11 (by kernel_rfl) ?_
            apply at_run 11 (some 39)
            · simp only [List.getElem?_toArray, List.getElem?_cons_succ, List.getElem?_cons_zero]; exact rfl
            · rfl
            · rfl
            intro w' hw'
            have RR_4_25 := Lib.hid (Ow.up RR_4_21.out (hw'))
            have XV_4_25 := Lib.hid (Whole.below XV_n4_19.out (hw'))
            have E_4_25 := Lib.hid (Ext.trans E_4_21.out (hw'))
            obtain ⟨vv, w'', hrun, ho, hb, hg, hbk⟩ := Ow.app2 (P := Try.prog) 30 30 29 i0 _ 20 168 _ Try.underlying30 hi hz0 hz1 hz2 rfl (by decide) _ _ _ RR_4_25.out _ _ _ _ _ ((by have h1 := ((SA_14.out.bl E_4_25.out)).low_ (k := k + 1) HKL.out; rwa [← rowsV_drop opCells opCells_len'] at h1)) (rowsOp_one _) (by have := HLa.out; have := HKL.out; unfold maxLen; omega) (by have := HLa.out; have := HKL.out; omega)
            refine ⟨vv, w'', exec_append (by rfl) (by rfl) (by rfl) hrun, Kept.of_from hb, ?_⟩
            have XV_4_24 := Lib.hid (Whole.grown XV_4_25.out hg NE_R_V_4_19.out)
            have NE_R_V_4_24 := Lib.hid (Ow.ne2 NE_R_V_4_19.out XV_4_25.out.lt hbk)
            have E_4_24 : RowKit.Hid (Ext w11.drew w'') := Lib.hid ho.below
            have hkk : Kept (From_ B0) v4_22 w'' := (Kept.of_ext hw').trans (Kept.of_from hb)
            obtain ⟨AA4_24, cc4_24, rfl, hrr⟩ := ho.rds
            have RR_4_24 := Lib.hid ho
            clear hrr
            obtain ⟨z4_24, gz4_24⟩ : ∃ x, w'' = x := ⟨_, rfl⟩
            rw [gz4_24] at RR_4_24 XV_4_24 E_4_24 hkk ⊢
            have ldt4_26 := fun w'' (h : Kept (From_ B0) z4_24 w'') => ldt4_23 w'' (hkk.trans h)
            clear ldt4_23
            clear hkk hrun ho hb hg hbk gz4_24 hw'
            try simp only [Act.put, List.setIfInBounds_toArray, List.set_cons_zero, List.set_cons_succ]
            apply wpR_next 12 (some 40)
            · simp only [List.getElem?_toArray, List.getElem?_cons_succ, List.getElem?_cons_zero]; exact rfl
            · rfl
            · kernel_rfl
            · kernel_rfl
            · kernel_rfl
            · first | exact fun _ _ _ _ h => Exit.noConfusion h.1 | exact fun _ _ _ _ h => h
            apply Exists.intro
            apply And.intro
            · apply yr_run; rfl; intro w' hw'; go_simp; (try with_reducible rfl)
            simp only [Act.put, List.setIfInBounds_toArray, List.set_cons_zero, List.set_cons_succ]
            refine wpR_one 14 (by kernel_rfl) ?_
            apply at_store 14
            · simp only [List.getElem?_toArray, List.getElem?_cons_succ, List.getElem?_cons_zero]; exact rfl
            · rfl
            · rfl
            intro w' hw'
            have RR_4_28 := Lib.hid (Ow.up RR_4_24.out (hw'))
            have XV_4_28 := Lib.hid (Whole.below XV_4_24.out (hw'))
            have E_4_28 := Lib.hid (Ext.trans E_4_24.out (hw'))
            have hcc := XV_4_28.out.cell (i := 0) rfl
            have hff := XV_4_28.out.free 0
            apply Exists.intro
            apply And.intro
            · go_simp; exact rfl
            apply And.intro
            · exact (Kept.refl _ _).setCell (.inl (show B0 ≤ g4_19 by have h1 := LOv4_19.out; have h2 := HB0.out; omega)) _
            clear hcc hff
            try simp only [Act.put, List.setIfInBounds_toArray, List.set_cons_zero, List.set_cons_succ]
            refine wpR_done (by kernel_rfl) ?_ _
            intro wE hwE
            obtain ⟨A6, c6, hv6, hr6⟩ := Ow.rds_far (i := 0) RR_4_28.out NE_R_V_4_24.out (_)
            obtain ⟨rfl, -, rfl⟩ : _ = A6 ∧ _ = _ ∧ _ = c6 := by injection hv6 with a1 a2 a3; exact ⟨a1, a2, a3⟩
            have hn6 := HnJ.out
            have hn7 : k + (La.length - (k + 1)) = nJ := by omega
            have hx6 := (XV_4_28.out.set_ 0 _).below hwE
            have hy6 := hr6.bl hwE
            rw [hn6, List.nil_append, ← rowsV_app, HJ.out] at hy6
            first | rw [hn6] at hx6 | rw [hn7] at hx6
            refine ⟨rfl, _, _, g4_19, _, _, _, _, _, _, _, _, _, _, _, _, _, rfl, Lib.hid ⟨?_, ?_, hx6, hy6⟩⟩
            · exact Ext.trans ((Below.refl _ _).drew) (Ext.trans (E_4_28.out.setCell LOv4_19.out _) hwE)
            · exact Nat.le_trans Bel_14.out.size LOv4_19.out
        · apply at_run 13 (some 6)
          · simp only [List.getElem?_toArray, List.getElem?_cons_succ, List.getElem?_cons_zero]; exact rfl
          · rfl
          · rfl
          intro w' hw'
          have RR_5_30 := Lib.hid (Ow.up RR_n1_1.out (hw'))
          have E_5_30 := Lib.hid (Ext.trans E_1_3.out (hw'))
          refine ⟨.pointer (some ⟨w'.heap.size, 0, none⟩), w'.alloc (.cells #[.slice none 0 0] 32), ?_, Kept.of_below (below1 _ _), ?_⟩
          · go_simp
          have NE_R_V_5_29 : RowKit.Hid (some w'.heap.size ≠ _) := Lib.hid (Ow.ne_ RR_5_30.out (Nat.le_refl _))
          have LOv5_29 : RowKit.Hid (w11.drew.heap.size ≤ w'.heap.size) := Lib.hid E_5_30.out.size
          have RR_5_31 := Lib.hid (Ow.up RR_5_30.out (below1 w' (.cells #[.slice none 0 0] 32)))
          have E_5_31 := Lib.hid (Ext.trans E_5_30.out (below1 w' (.cells #[.slice none 0 0] 32)))
          have XV_n5_29 : RowKit.Hid (Whole (w'.alloc (.cells #[.slice none 0 0] 32)) w'.heap.size 32 [.slice none 0 0]) := Lib.hid (Whole.new_ _ _ [.slice none 0 0])
          have hkk : Kept (From_ B0) v1_4 (w'.alloc (.cells #[.slice none 0 0] 32)) := (Kept.of_ext hw').trans (Kept.of_below (below1 _ _))
          obtain ⟨v5_32, gv5_32⟩ : ∃ x, w'.alloc (.cells #[.slice none 0 0] 32) = x := ⟨_, rfl⟩
          rw [gv5_32] at RR_5_31 XV_n5_29 E_5_31 hkk ⊢
          have ldt5_33 := fun w'' (h : Kept (From_ B0) v5_32 w'') => ldt1_5 w'' (hkk.trans h)
          clear ldt1_5
          clear gv5_32 hkk
          obtain ⟨g5_29, gg5_29⟩ : ∃ x, w'.heap.size = x := ⟨_, rfl⟩
          rw [gg5_29] at XV_n5_29 LOv5_29 NE_R_V_5_29 ⊢
          clear gg5_29 hw'
          try simp only [Act.put, List.setIfInBounds_toArray, List.set_cons_zero, List.set_cons_succ]
          refine wpR_one 5 (by kernel_rfl) ?_
          apply at_run 5 (some 33)
          · simp only [List.getElem?_toArray, List.getElem?_cons_succ, List.getElem?_cons_zero]; exact rfl
          · rfl
          · rfl
          intro w' hw'
          have RR_5_35 := Lib.hid (Ow.up RR_5_31.out (hw'))
          have XV_5_35 := Lib.hid (Whole.below XV_n5_29.out (hw'))
          have E_5_35 := Lib.hid (Ext.trans E_5_31.out (hw'))
          obtain ⟨vv, w'', hrun, ho, hb, hg, hbk⟩ := Ow.app2 (P := Try.prog) 30 30 29 i0 _ 20 168 _ Try.underlying30 hi hz0 hz1 hz2 rfl (by decide) _ _ _ RR_5_35.out _ _ _ _ _ ((by have h1 := ((SA_14.out.bl E_5_35.out)).take_ k (Nat.le_of_lt HKL.out); rwa [← rowsV_take opCells opCells_len'] at h1)) (rowsOp_one _) (by have := HLa.out; have := HKL.out; unfold maxLen; omega) (by have := HLa.out; have := HKL.out; omega)
          refine ⟨vv, w'', exec_append (by rfl) (by rfl) (by rfl) hrun, Kept.of_from hb, ?_⟩
          have XV_5_34 := Lib.hid (Whole.grown XV_5_35.out hg NE_R_V_5_29.out)
          have NE_R_V_5_34 := Lib.hid (Ow.ne2 NE_R_V_5_29.out XV_5_35.out.lt hbk)
          have E_5_34 : RowKit.Hid (Ext w11.drew w'') := Lib.hid ho.below
          have hkk : Kept (From_ B0) v5_32 w'' := (Kept.of_ext hw').trans (Kept.of_from hb)
          obtain ⟨AA5_34, cc5_34, rfl, hrr⟩ := ho.rds
          have RR_5_34 := Lib.hid ho
          clear hrr
          obtain ⟨z5_34, gz5_34⟩ : ∃ x, w'' = x := ⟨_, rfl⟩
          rw [gz5_34] at RR_5_34 XV_5_34 E_5_34 hkk ⊢
          have ldt5_36 := fun w'' (h : Kept (From_ B0) z5_34 w'') => ldt5_33 w'' (hkk.trans h)
          clear ldt5_33
          clear hkk hrun ho hb hg hbk gz5_34 hw'
          try simp only [Act.put, List.setIfInBounds_toArray, List.set_cons_zero, List.set_cons_succ]
          refine wpR_one 11 (by kernel_rfl) ?_
          apply at_run 11 (some 39)
          · simp only [List.getElem?_toArray, List.getElem?_cons_succ, List.getElem?_cons_zero]; exact rfl
          · rfl
          · rfl
          intro w' hw'
          have RR_5_38 := Lib.hid (Ow.up RR_5_34.out (hw'))
          have XV_5_38 := Lib.hid (Whole.below XV_5_34.out (hw'))
          have E_5_38 := Lib.hid (Ext.trans E_5_34.out (hw'))
          obtain ⟨vv, w'', hrun, ho, hb, hg, hbk⟩ := Ow.app2 (P := Try.prog) 30 30 29 i0 _ 20 168 _ Try.underlying30 hi hz0 hz1 hz2 rfl (by decide) _ _ _ RR_5_38.out _ _ _ _ _ ((by have h1 := ((SA_14.out.bl E_5_38.out)).low_ (k := k + 1) HKL.out; rwa [← rowsV_drop opCells opCells_len'] at h1)) (rowsOp_one _) (by have := HLa.out; have := HKL.out; unfold maxLen; omega) (by have := HLa.out; have := HKL.out; omega)
          refine ⟨vv, w'', exec_append (by rfl) (by rfl) (by rfl) hrun, Kept.of_from hb, ?_⟩
          have XV_5_37 := Lib.hid (Whole.grown XV_5_38.out hg NE_R_V_5_34.out)
          have NE_R_V_5_37 := Lib.hid (Ow.ne2 NE_R_V_5_34.out XV_5_38.out.lt hbk)
          have E_5_37 : RowKit.Hid (Ext w11.drew w'') := Lib.hid ho.below
          have hkk : Kept (From_ B0) z5_34 w'' := (Kept.of_ext hw').trans (Kept.of_from hb)
          obtain ⟨AA5_37, cc5_37, rfl, hrr⟩ := ho.rds
          have RR_5_37 := Lib.hid ho
          clear hrr
          obtain ⟨z5_37, gz5_37⟩ : ∃ x, w'' = x := ⟨_, rfl⟩
          rw [gz5_37] at RR_5_37 XV_5_37 E_5_37 hkk ⊢
          have ldt5_39 := fun w'' (h : Kept (From_ B0) z5_37 w'') => ldt5_36 w'' (hkk.trans h)
          clear ldt5_36
          clear hkk hrun ho hb hg hbk gz5_37 hw'
          try simp only [Act.put, List.setIfInBounds_toArray, List.set_cons_zero, List.set_cons_succ]
          apply wpR_next 12 (some 40)
          · simp only [List.getElem?_toArray, List.getElem?_cons_succ, List.getElem?_cons_zero]; exact rfl
          · rfl
          · kernel_rfl
          · kernel_rfl
          · kernel_rfl
          · first | exact fun _ _ _ _ h => Exit.noConfusion h.1 | exact fun _ _ _ _ h => h
          apply Exists.intro
          apply And.intro
          · apply yr_run; rfl; intro w' hw'; go_simp; (try with_reducible rfl)
          simp only [Act.put, List.setIfInBounds_toArray, List.set_cons_zero, List.set_cons_succ]
          refine wpR_one 14 (by kernel_rfl) ?_
          apply at_store 14
          · simp only [List.getElem?_toArray, List.getElem?_cons_succ, List.getElem?_cons_zero]; exact rfl
          · rfl
          · rfl
          intro w' hw'
          have RR_5_41 := Lib.hid (Ow.up RR_5_37.out (hw'))
          have XV_5_41 := Lib.hid (Whole.below XV_5_37.out (hw'))
          have E_5_41 := Lib.hid (Ext.trans E_5_37.out (hw'))
          have hcc := XV_5_41.out.cell (i := 0) rfl
          have hff := XV_5_41.out.free 0
          apply Exists.intro
          apply And.intro
          · go_simp; exact rfl
          apply And.intro
          · exact (Kept.refl _ _).setCell (.inl (show B0 ≤ g5_29 by have h1 := LOv5_29.out; have h2 := HB0.out; omega)) _
          clear hcc hff
          try simp only [Act.put, List.setIfInBounds_toArray, List.set_cons_zero, List.set_cons_succ]
          refine wpR_done (by kernel_rfl) ?_ _
          intro wE hwE
          obtain ⟨A6, c6, hv6, hr6⟩ := Ow.rds_far (i := 0) RR_5_41.out NE_R_V_5_37.out (_)
          obtain ⟨rfl, -, rfl⟩ : _ = A6 ∧ _ = _ ∧ _ = c6 := by injection hv6 with a1 a2 a3; exact ⟨a1, a2, a3⟩
          have hn6 := HnJ.out
          have hn7 : k + (La.length - (k + 1)) = nJ := by omega
          have hx6 := (XV_5_41.out.set_ 0 _).below hwE
          have hy6 := hr6.bl hwE
          rw [hn6, List.nil_append, ← rowsV_app, HJ.out] at hy6
          first | rw [hn6] at hx6 | rw [hn7] at hx6
          refine ⟨rfl, _, _, g5_29, _, _, _, _, _, _, _, _, _, _, _, _, _, rfl, Lib.hid ⟨?_, ?_, hx6, hy6⟩⟩
          · exact Ext.trans ((Below.refl _ _).drew) (Ext.trans (E_5_41.out.setCell LOv5_29.out _) hwE)
          · exact Nat.le_trans Bel_14.out.size LOv5_29.out
      · apply at_run 13 (some 6)
        · simp only [List.getElem?_toArray, List.getElem?_cons_succ, List.getElem?_cons_zero]; exact rfl
        · rfl
        · rfl
        intro w' hw'
        have E_6_43 := Lib.hid (Ext.trans EX0.out (hw'))
        refine ⟨.pointer (some ⟨w'.heap.size, 0, none⟩), w'.alloc (.cells #[.slice none 0 0] 32), ?_, Kept.of_below (below1 _ _), ?_⟩
        · go_simp
        have LOv6_42 : RowKit.Hid (w11.drew.heap.size ≤ w'.heap.size) := Lib.hid E_6_43.out.size
        have E_6_44 := Lib.hid (Ext.trans E_6_43.out (below1 w' (.cells #[.slice none 0 0] 32)))
        have XV_n6_42 : RowKit.Hid (Whole (w'.alloc (.cells #[.slice none 0 0] 32)) w'.heap.size 32 [.slice none 0 0]) := Lib.hid (Whole.new_ _ _ [.slice none 0 0])
        have hkk : Kept (From_ B0) w11.drew (w'.alloc (.cells #[.slice none 0 0] 32)) := (Kept.of_ext hw').trans (Kept.of_below (below1 _ _))
        obtain ⟨v6_45, gv6_45⟩ : ∃ x, w'.alloc (.cells #[.slice none 0 0] 32) = x := ⟨_, rfl⟩
        rw [gv6_45] at XV_n6_42 E_6_44 hkk ⊢
        have ldt6_46 := fun w'' (h : Kept (From_ B0) v6_45 w'') => ldt0 w'' (hkk.trans h)
        clear ldt0
        clear gv6_45 hkk
        obtain ⟨g6_42, gg6_42⟩ : ∃ x, w'.heap.size = x := ⟨_, rfl⟩
        rw [gg6_42] at XV_n6_42 LOv6_42  ⊢
        clear gg6_42 hw'
        try simp only [Act.put, List.setIfInBounds_toArray, List.set_cons_zero, List.set_cons_succ]
        refine wpR_one 0 (by kernel_rfl) ?_
        apply at_run 0 (some 28)
        · simp only [List.getElem?_toArray, List.getElem?_cons_succ, List.getElem?_cons_zero]; exact rfl
        · rfl
        · rfl
        intro w' hw'
        have XV_6_48 := Lib.hid (Whole.below XV_n6_42.out (hw'))
        have E_6_48 := Lib.hid (Ext.trans E_6_44.out (hw'))
        refine ⟨.slice (some ⟨w'.heap.size, 0, none⟩) 0 0, w'.alloc (.cells #[] 29), ?_, Kept.of_below (below1 _ _), ?_⟩
        · go_simp
        have RR_n6_47 : RowKit.Hid (Ow w11.drew B0 29 20 (.slice (some ⟨w'.heap.size, 0, none⟩) 0 0) 0 [] (w'.alloc (.cells #[] 29))) := Lib.hid (Ow.new_ (e := 29) (size := 20) (cs := #[]) E_6_48.out (Nat.le_of_eq HB0.out) (by have h1 := E_6_48.out.size; have h2 := HB0.out; omega) (n := 0) (Nat.zero_le _) rfl)
        have NE_R_V_6_47 : RowKit.Hid (some g6_42 ≠ (Value.slice (some ⟨w'.heap.size, 0, none⟩) 0 0).ownBlock) := Lib.hid (fun e => by have h1 := Option.some.inj e; have h2 := XV_6_48.out.lt; have h3 : g6_42 = w'.heap.size := h1; omega)
        have XV_6_49 := Lib.hid (Whole.below XV_6_48.out (below1 w' (.cells #[] 29)))
        have E_6_49 := Lib.hid (Ext.trans E_6_48.out (below1 w' (.cells #[] 29)))
        have hkk : Kept (From_ B0) v6_45 (w'.alloc (.cells #[] 29)) := (Kept.of_ext hw').trans (Kept.of_below (below1 _ _))
        obtain ⟨v6_50, gv6_50⟩ : ∃ x, w'.alloc (.cells #[] 29) = x := ⟨_, rfl⟩
        rw [gv6_50] at RR_n6_47 XV_6_49 E_6_49 hkk ⊢
        have ldt6_51 := fun w'' (h : Kept (From_ B0) v6_50 w'') => ldt6_46 w'' (hkk.trans h)
        clear ldt6_46
        clear gv6_50 hkk
        obtain ⟨g6_47, gg6_47⟩ : ∃ x, w'.heap.size = x := ⟨_, rfl⟩
        rw [gg6_47] at RR_n6_47 NE_R_V_6_47 ⊢
        clear gg6_47 hw'
        try simp only [Act.put, List.setIfInBounds_toArray, List.set_cons_zero, List.set_cons_succ]
        refine wpR_one 5 (by kernel_rfl) ?_
        apply at_run 5 (some 33)
        · simp only [List.getElem?_toArray, List.getElem?_cons_succ, List.getElem?_cons_zero]; exact rfl
        · rfl
        · rfl
        intro w' hw'
        have RR_6_53 := Lib.hid (Ow.up RR_n6_47.out (hw'))
        have XV_6_53 := Lib.hid (Whole.below XV_6_49.out (hw'))
        have E_6_53 := Lib.hid (Ext.trans E_6_49.out (hw'))
        obtain ⟨vv, w'', hrun, ho, hb, hg, hbk⟩ := Ow.app2 (P := Try.prog) 30 30 29 i0 _ 20 168 _ Try.underlying30 hi hz0 hz1 hz2 rfl (by decide) _ _ _ RR_6_53.out _ _ _ _ _ ((by have h1 := ((SA_14.out.bl E_6_53.out)).take_ k (Nat.le_of_lt HKL.out); rwa [← rowsV_take opCells opCells_len'] at h1)) (rowsOp_one _) (by have := HLa.out; have := HKL.out; unfold maxLen; omega) (by have := HLa.out; have := HKL.out; omega)
        refine ⟨vv, w'', exec_append (by rfl) (by rfl) (by rfl) hrun, Kept.of_from hb, ?_⟩
        have XV_6_52 := Lib.hid (Whole.grown XV_6_53.out hg NE_R_V_6_47.out)
        have NE_R_V_6_52 := Lib.hid (Ow.ne2 NE_R_V_6_47.out XV_6_53.out.lt hbk)
        have E_6_52 : RowKit.Hid (Ext w11.drew w'') := Lib.hid ho.below
        have hkk : Kept (From_ B0) v6_50 w'' := (Kept.of_ext hw').trans (Kept.of_from hb)
        obtain ⟨AA6_52, cc6_52, rfl, hrr⟩ := ho.rds
        have RR_6_52 := Lib.hid ho
        clear hrr
        obtain ⟨z6_52, gz6_52⟩ : ∃ x, w'' = x := ⟨_, rfl⟩
        rw [gz6_52] at RR_6_52 XV_6_52 E_6_52 hkk ⊢
        have ldt6_54 := fun w'' (h : Kept (From_ B0) z6_52 w'') => ldt6_51 w'' (hkk.trans h)
        clear ldt6_51
        clear hkk hrun ho hb hg hbk gz6_52 hw'
        try simp only [Act.put, List.setIfInBounds_toArray, List.set_cons_zero, List.set_cons_succ]
        refine wpR_one 11 (by kernel_rfl) ?_
        apply at_run 11 (some 39)
        · simp only [List.getElem?_toArray, List.getElem?_cons_succ, List.getElem?_cons_zero]; exact rfl
        · rfl
        · rfl
        intro w' hw'
        have RR_6_56 := Lib.hid (Ow.up RR_6_52.out (hw'))
        have XV_6_56 := Lib.hid (Whole.below XV_6_52.out (hw'))
        have E_6_56 := Lib.hid (Ext.trans E_6_52.out (hw'))
        obtain ⟨vv, w'', hrun, ho, hb, hg, hbk⟩ := Ow.app2 (P := Try.prog) 30 30 29 i0 _ 20 168 _ Try.underlying30 hi hz0 hz1 hz2 rfl (by decide) _ _ _ RR_6_56.out _ _ _ _ _ ((by have h1 := ((SA_14.out.bl E_6_56.out)).low_ (k := k + 1) HKL.out; rwa [← rowsV_drop opCells opCells_len'] at h1)) (rowsOp_one _) (by have := HLa.out; have := HKL.out; unfold maxLen; omega) (by have := HLa.out; have := HKL.out; omega)
        refine ⟨vv, w'', exec_append (by rfl) (by rfl) (by rfl) hrun, Kept.of_from hb, ?_⟩
        have XV_6_55 := Lib.hid (Whole.grown XV_6_56.out hg NE_R_V_6_52.out)
        have NE_R_V_6_55 := Lib.hid (Ow.ne2 NE_R_V_6_52.out XV_6_56.out.lt hbk)
        have E_6_55 : RowKit.Hid (Ext w11.drew w'') := Lib.hid ho.below
        have hkk : Kept (From_ B0) z6_52 w'' := (Kept.of_ext hw').trans (Kept.of_from hb)
        obtain ⟨AA6_55, cc6_55, rfl, hrr⟩ := ho.rds
        have RR_6_55 := Lib.hid ho
        clear hrr
        obtain ⟨z6_55, gz6_55⟩ : ∃ x, w'' = x := ⟨_, rfl⟩
        rw [gz6_55] at RR_6_55 XV_6_55 E_6_55 hkk ⊢
        have ldt6_57 := fun w'' (h : Kept (From_ B0) z6_55 w'') => ldt6_54 w'' (hkk.trans h)
        clear ldt6_54
        clear hkk hrun ho hb hg hbk gz6_55 hw'
        try simp only [Act.put, List.setIfInBounds_toArray, List.set_cons_zero, List.set_cons_succ]
        apply wpR_next 12 (some 40)
        · simp only [List.getElem?_toArray, List.getElem?_cons_succ, List.getElem?_cons_zero]; exact rfl
        · rfl
        · kernel_rfl
        · kernel_rfl
        · kernel_rfl
        · first | exact fun _ _ _ _ h => Exit.noConfusion h.1 | exact fun _ _ _ _ h => h
        apply Exists.intro
        apply And.intro
        · apply yr_run; rfl; intro w' hw'; go_simp; (try with_reducible rfl)
        simp only [Act.put, List.setIfInBounds_toArray, List.set_cons_zero, List.set_cons_succ]
        refine wpR_one 14 (by kernel_rfl) ?_
        apply at_store 14
        · simp only [List.getElem?_toArray, List.getElem?_cons_succ, List.getElem?_cons_zero]; exact rfl
        · rfl
        · rfl
        intro w' hw'
        have RR_6_59 := Lib.hid (Ow.up RR_6_55.out (hw'))
        have XV_6_59 := Lib.hid (Whole.below XV_6_55.out (hw'))
        have E_6_59 := Lib.hid (Ext.trans E_6_55.out (hw'))
        have hcc := XV_6_59.out.cell (i := 0) rfl
        have hff := XV_6_59.out.free 0
        apply Exists.intro
        apply And.intro
        · go_simp; exact rfl
        apply And.intro
        · exact (Kept.refl _ _).setCell (.inl (show B0 ≤ g6_42 by have h1 := LOv6_42.out; have h2 := HB0.out; omega)) _
        clear hcc hff
        try simp only [Act.put, List.setIfInBounds_toArray, List.set_cons_zero, List.set_cons_succ]
        refine wpR_done (by kernel_rfl) ?_ _
        intro wE hwE
        obtain ⟨A6, c6, hv6, hr6⟩ := Ow.rds_far (i := 0) RR_6_59.out NE_R_V_6_55.out (_)
        obtain ⟨rfl, -, rfl⟩ : _ = A6 ∧ _ = _ ∧ _ = c6 := by injection hv6 with a1 a2 a3; exact ⟨a1, a2, a3⟩
        have hn6 := HnJ.out
        have hn7 : k + (La.length - (k + 1)) = nJ := by omega
        have hx6 := (XV_6_59.out.set_ 0 _).below hwE
        have hy6 := hr6.bl hwE
        rw [hn6, List.nil_append, ← rowsV_app, HJ.out] at hy6
        first | rw [hn6] at hx6 | rw [hn7] at hx6
        refine ⟨rfl, _, _, g6_42, _, _, _, _, _, _, _, _, _, _, _, _, _, rfl, Lib.hid ⟨?_, ?_, hx6, hy6⟩⟩
        · exact Ext.trans ((Below.refl _ _).drew) (Ext.trans (E_6_59.out.setCell LOv6_42.out _) hwE)
        · exact Nat.le_trans Bel_14.out.size LOv6_42.out
    · intro a' w' h9
      obtain ⟨A6, c6, g6, u28, u29, u30, u31, u32, u33, u34, u35, u36, u37, u38, u39, u40, rfl, hφ⟩ := h9
      simp only [Act.put, List.setIfInBounds_toArray, List.set_cons_zero, List.set_cons_succ]
      have EA_14 := Lib.hid (EA_12.out.bl hφ.out.1)
      have SA_14 := Lib.hid (SA_12.out.bl hφ.out.1)
      have Bel_14 := Lib.hid (bel_bl Bel_12.out hφ.out.1)
      have E6_14 := Lib.hid hφ.out.2.2.1
      have J_14 := Lib.hid hφ.out.2.2.2
      obtain ⟨y14, gy14⟩ : ∃ x, w' = x := ⟨_, rfl⟩
      rw [gy14] at EA_14 SA_14 E6_14 J_14 Bel_14 ⊢
      clear hφ gy14
      have lw15 : (y14).cell? ⟨g6, 0, none⟩ = some (.slice A6 nJ c6) := E6_14.out.cell (i := 0) rfl
      go_upto_region 9 with fail
      clear lw15
      refine wp_region_lit ?_
      refine wl_read (v := ?_) (some 45) rfl (by rfl) ?_ ?_
      rotate_left
      · go_simp; (try with_reducible rfl)
      simp only [Act.put, List.setIfInBounds_toArray, List.set_cons_zero, List.set_cons_succ]
      refine wl_new 8 rfl rfl rfl 32 (.tmp 45) rfl rfl #[.slice none 0 0] ?_ #[.slice none 0 0] (by simp) rfl (by kernel_rfl) rfl (by simp [Value.oneCell']) ?_
      · go_simp; (try with_reducible rfl)
      simp only [Act.put, List.setIfInBounds_toArray, List.set_cons_zero, List.set_cons_succ]
      have H0 : RowKit.Hid (Ow y14 y14.heap.size 29 20 (.slice none 0 0) 0 (rowsV opCells (List.replicate 0 o)) (y14.alloc (.cells #[.slice none 0 0] 32)) ∧ Whole (y14.alloc (.cells #[.slice none 0 0] 32)) y14.heap.size 32 [.slice none 0 0] ∧ some y14.heap.size ≠ (Value.slice none 0 0).ownBlock) := Lib.hid ⟨Ow.nil_ (below1 _ _) (Nat.le_refl _) (by simp), Whole.new_ _ _ [_], by simp [Value.ownBlock]⟩
      obtain ⟨Wl, gWl⟩ : ∃ x, y14.alloc (.cells #[.slice none 0 0] 32) = x := ⟨_, rfl⟩
      obtain ⟨B0, gB0⟩ : ∃ x, y14.heap.size = x := ⟨_, rfl⟩
      have HB0 := Lib.hid gB0
      rw [gWl] at H0 ⊢
      rw [gB0] at H0 ⊢
      clear gWl gB0
      go_wp2
      go_loopw [9] (fun i wr => ∃ j : Nat, j ≤ 7 ∧ i = .int .i64 j ∧ RowKit.Hid (∃ v, Ow y14 B0 29 20 v j (rowsV opCells (List.replicate j o)) wr ∧ Whole wr B0 32 [v] ∧ some B0 ≠ v.ownBlock)) (fun i _ => 7 - (intOf i).toNat)
      case atStart => exact ⟨0, by omega, rfl, Lib.hid ⟨_, H0.out⟩⟩
      case round =>
        rename_i wr _
        clear H0
        obtain ⟨j, hj, rfl, hin⟩ := hrel
        obtain ⟨v, how, hV, hne⟩ := hin.out
        obtain ⟨Av, cv, rfl, -⟩ := how.rds
        have XV := Lib.hid hV
        have RR := Lib.hid how
        have NE := Lib.hid hne
        have EX : RowKit.Hid (Ext y14 wr) := Lib.hid how.below
        clear how hV hne hin
        by_cases hlt : j < 7
        · go_upto_region 13 with fail
          have EAd := Lib.hid ((EA_14.out.bl EX.out).dr)
          have XVd := Lib.hid XV.out.drew
          have RRd := Lib.hid (RR.out.up ((Below.refl _ _).drew))
          have EXd : RowKit.Hid (Ext y14 wr.drew) := Lib.hid (EX.out.trans ((Below.refl _ _).drew))
          have LOv : RowKit.Hid (y14.heap.size ≤ B0) := Lib.hid (Nat.le_of_eq HB0.out)
          have ldt0 : ∀ w', Kept (From_ B0) wr.drew w' → w'.cell? ⟨w.heap.size, 0, none⟩ = some (.slice (some ⟨b, off, none⟩) La.length c) := fun w' h => h.from_cell (Nat.lt_of_lt_of_eq (EA_14.out.lt) HB0.out) (EAd.out.cell (i := 0) rfl)
          have hel : ∀ j v, (opCells o)[j]? = some v → wr.drew.cell? (Addr.add ⟨b, off + k * 20, none⟩ j) = some v := RdS.elem opCells_len' ((SA_14.out.bl EX.out).dr) HK.out
          have hbb : b < B0 := Nat.lt_of_lt_of_eq (SA_14.out.low _ rfl (by have := HKL.out; omega)) HB0.out
          have HEL := Lib.hid (fun w' (h : Kept (From_ B0) wr.drew w') j v hj => h.from_cell (by rw [add_block]; exact hbb) (hel j v hj))
          clear hel hbb
          refine wp_region_reg (From_ B0) (by kernel_rfl) ?_
          apply wpR_next 0 (some 50)
          · simp only [List.getElem?_toArray, List.getElem?_cons_succ, List.getElem?_cons_zero]; exact rfl
          · rfl
          · kernel_rfl
          · kernel_rfl
          · kernel_rfl
          · first | exact fun _ _ _ _ h => Exit.noConfusion h.1 | exact fun _ _ _ _ h => h
          apply Exists.intro
          apply And.intro
          · apply yr_run; rfl; intro w' hw'; go_simp; (try with_reducible rfl)
          simp only [Act.put, List.setIfInBounds_toArray, List.set_cons_zero, List.set_cons_succ]
          apply wpR_next 2 (some 52)
          · simp only [List.getElem?_toArray, List.getElem?_cons_succ, List.getElem?_cons_zero]; exact rfl
          · rfl
          · kernel_rfl
          · kernel_rfl
          · kernel_rfl
          · first | exact fun _ _ _ _ h => Exit.noConfusion h.1 | exact fun _ _ _ _ h => h
          apply Exists.intro
          apply And.intro
          · apply yr_run; rfl; intro w' hw'; go_simp; (try with_reducible rfl)
          simp only [Act.put, List.setIfInBounds_toArray, List.set_cons_zero, List.set_cons_succ]
          apply wpR_next 3 (some 53)
          · simp only [List.getElem?_toArray, List.getElem?_cons_succ, List.getElem?_cons_zero]; exact rfl
          · rfl
          · kernel_rfl
          · kernel_rfl
          · kernel_rfl
          · first | exact fun _ _ _ _ h => Exit.noConfusion h.1 | exact fun _ _ _ _ h => h
          apply Exists.intro
          apply And.intro
          · apply yr_run; rfl; intro w' hw'; go_simp; (try with_reducible rfl)
          simp only [Act.put, List.setIfInBounds_toArray, List.set_cons_zero, List.set_cons_succ]
          apply wpR_next 4 (some 54)
          · simp only [List.getElem?_toArray, List.getElem?_cons_succ, List.getElem?_cons_zero]; exact rfl
          · rfl
          · kernel_rfl
          · kernel_rfl
          · kernel_rfl
          · first | exact fun _ _ _ _ h => Exit.noConfusion h.1 | exact fun _ _ _ _ h => h
          apply Exists.intro
          apply And.intro
          · apply yr_run; rfl; intro w' hw'; go_simp; (try with_reducible rfl)
          simp only [Act.put, List.setIfInBounds_toArray, List.set_cons_zero, List.set_cons_succ]
          apply wpR_next 5 (some 55)
          · simp only [List.getElem?_toArray, List.getElem?_cons_succ, List.getElem?_cons_zero]; exact rfl
          · rfl
          · kernel_rfl
          · kernel_rfl
          · kernel_rfl
          · first | exact fun _ _ _ _ h => Exit.noConfusion h.1 | exact fun _ _ _ _ h => h
          apply Exists.intro
          apply And.intro
          · apply yr_run; rfl; intro w' hw'; go_simp; (try with_reducible rfl)
          simp only [Act.put, List.setIfInBounds_toArray, List.set_cons_zero, List.set_cons_succ]
          apply wpR_next 6 (some 56)
          · simp only [List.getElem?_toArray, List.getElem?_cons_succ, List.getElem?_cons_zero]; exact rfl
          · rfl
          · kernel_rfl
          · kernel_rfl
          · kernel_rfl
          · first | exact fun _ _ _ _ h => Exit.noConfusion h.1 | exact fun _ _ _ _ h => h
          apply Exists.intro
          apply And.intro
          · exact yr_load_at (by rfl) 29 (.tmp 55) rfl ⟨b, off + k * 20, none⟩ rfl (opCells o) _ HEL.out Try.underlying29 rfl (by kernel_rfl)
          simp only [Act.put, List.setIfInBounds_toArray, List.set_cons_zero, List.set_cons_succ]
          refine wpR_two 1 7 (by kernel_rfl) ?_ ?_
          · apply at_run 1 (some 51)
            · simp only [List.getElem?_toArray, List.getElem?_cons_succ, List.getElem?_cons_zero]; exact rfl
            · rfl
            · rfl
            intro w' hw'
            have RR_1_2 := Lib.hid (Ow.up RRd.out (hw'))
            have XV_1_2 := Lib.hid (Whole.below XVd.out (hw'))
            have E_1_2 := Lib.hid (Ext.trans EXd.out (hw'))
            have hrd0 := XV_1_2.out.cell (i := 0) rfl
            apply Exists.intro
            apply Exists.intro
            apply And.intro
            · go_simp; exact ⟨rfl, rfl⟩
            apply And.intro
            · exact Kept.refl _ _
            clear hrd0
            have hkk : Kept (From_ B0) wr.drew w' := Kept.of_ext hw'
            obtain ⟨z1_1, gz1_1⟩ : ∃ x, w' = x := ⟨_, rfl⟩
            rw [gz1_1] at RR_1_2 XV_1_2 E_1_2 hkk ⊢
            have ldt1_3 := fun w'' (h : Kept (From_ B0) z1_1 w'') => ldt0 w'' (hkk.trans h)
            clear ldt0
            clear hkk gz1_1 hw'
            try simp only [Act.put, List.setIfInBounds_toArray, List.set_cons_zero, List.set_cons_succ]
            refine wpR_one 7 (by kernel_rfl) ?_
            apply at_run 7 (some 57)
            · simp only [List.getElem?_toArray, List.getElem?_cons_succ, List.getElem?_cons_zero]; exact rfl
            · rfl
            · rfl
            intro w' hw'
            have RR_1_5 := Lib.hid (Ow.up RR_1_2.out (hw'))
            have XV_1_5 := Lib.hid (Whole.below XV_1_2.out (hw'))
            have E_1_5 := Lib.hid (Ext.trans E_1_2.out (hw'))
            refine ⟨.slice (some ⟨w'.heap.size, 0, none⟩) 1 1, w'.alloc (.cells ((opCells o).toArray) 29), exec_buildSlice 30 29 1 #[(0, .tmp 56)] (by rfl) Try.underlying30 _ (by kernel_rfl), Kept.of_below (below1 _ _), ?_⟩
            have NE_R_S_1_4 : RowKit.Hid (some w'.heap.size ≠ _) := Lib.hid (Ow.ne_ RR_1_5.out (Nat.le_refl _))
            have RR_1_6 := Lib.hid (Ow.up RR_1_5.out (below1 w' (.cells ((opCells o).toArray) 29)))
            have XV_1_6 := Lib.hid (Whole.below XV_1_5.out (below1 w' (.cells ((opCells o).toArray) 29)))
            have E_1_6 := Lib.hid (Ext.trans E_1_5.out (below1 w' (.cells ((opCells o).toArray) 29)))
            have US_n1_4 : RowKit.Hid (RdS (w'.alloc (.cells ((opCells o).toArray) 29)) (w'.alloc (.cells ((opCells o).toArray) 29)).heap.size 20 (some ⟨w'.heap.size, 0, none⟩) 1 1 (rowsV opCells [o])) := Lib.hid (RdS.of_whole (Whole.new_ _ _ _) rfl)
            have hkk : Kept (From_ B0) z1_1 (w'.alloc (.cells ((opCells o).toArray) 29)) := (Kept.of_ext hw').trans (Kept.of_below (below1 _ _))
            obtain ⟨v1_7, gv1_7⟩ : ∃ x, w'.alloc (.cells ((opCells o).toArray) 29) = x := ⟨_, rfl⟩
            rw [gv1_7] at RR_1_6 XV_1_6 US_n1_4 E_1_6 hkk ⊢
            have ldt1_8 := fun w'' (h : Kept (From_ B0) v1_7 w'') => ldt1_3 w'' (hkk.trans h)
            clear ldt1_3
            clear gv1_7 hkk
            obtain ⟨g1_4, gg1_4⟩ : ∃ x, w'.heap.size = x := ⟨_, rfl⟩
            rw [gg1_4] at US_n1_4 NE_R_S_1_4 ⊢
            clear gg1_4 hw'
            have NF_NE_R_S_1_4 : RowKit.Hid (∀ a, (some (⟨g1_4, 0, none⟩ : Addr)) = some a → 0 < 1 → some a.block ≠ _) := Lib.hid (fun a ha _ => by obtain rfl := Option.some.inj ha; exact NE_R_S_1_4.out)
            try simp only [Act.put, List.setIfInBounds_toArray, List.set_cons_zero, List.set_cons_succ]
            refine wpR_one 8 (by kernel_rfl) ?_
            apply at_run 8 (some 58)
            · simp only [List.getElem?_toArray, List.getElem?_cons_succ, List.getElem?_cons_zero]; exact rfl
            · rfl
            · rfl
            intro w' hw'
            have RR_1_10 := Lib.hid (Ow.up RR_1_6.out (hw'))
            have XV_1_10 := Lib.hid (Whole.below XV_1_6.out (hw'))
            have US_1_10 := Lib.hid (RdS.bl US_n1_4.out (hw'))
            have E_1_10 := Lib.hid (Ext.trans E_1_6.out (hw'))
            obtain ⟨vv, w'', hrun, ho, hb, hg, hbk⟩ := Ow.app2 (P := Try.prog) 30 30 29 i0 _ 20 168 _ Try.underlying30 hi hz0 hz1 hz2 rfl (by decide) _ _ _ RR_1_10.out _ _ _ _ _ (US_1_10.out) (rowsOp_one [o]) (by unfold maxLen; omega) (by omega)
            refine ⟨vv, w'', exec_append (by rfl) (by rfl) (by rfl) hrun, Kept.of_from hb, ?_⟩
            have XV_1_9 := Lib.hid (Whole.grown XV_1_10.out hg NE.out)
            have NE_R_V_1_9 := Lib.hid (Ow.ne2 NE.out XV_1_10.out.lt hbk)
            have US_1_9 := Lib.hid (RdS.grown US_1_10.out hg NF_NE_R_S_1_4.out)
            have NE_R_S_1_9 : RowKit.Hid (∀ a, (some (⟨g1_4, 0, none⟩ : Addr)) = some a → 0 < 1 → some a.block ≠ _) := Lib.hid (fun a ha hn => Ow.ne2 (NF_NE_R_S_1_4.out a ha hn) (US_1_10.out.low a ha hn) hbk)
            have E_1_9 : RowKit.Hid (Ext y14 w'') := Lib.hid ho.below
            have hkk : Kept (From_ B0) v1_7 w'' := (Kept.of_ext hw').trans (Kept.of_from hb)
            obtain ⟨AA1_9, cc1_9, rfl, hrr⟩ := ho.rds
            have RR_1_9 := Lib.hid ho
            clear hrr
            obtain ⟨z1_9, gz1_9⟩ : ∃ x, w'' = x := ⟨_, rfl⟩
            rw [gz1_9] at RR_1_9 XV_1_9 US_1_9 E_1_9 hkk ⊢
            have ldt1_11 := fun w'' (h : Kept (From_ B0) z1_9 w'') => ldt1_8 w'' (hkk.trans h)
            clear ldt1_8
            clear hkk hrun ho hb hg hbk gz1_9 hw'
            try simp only [Act.put, List.setIfInBounds_toArray, List.set_cons_zero, List.set_cons_succ]
            apply wpR_next 9 (some 59)
            · simp only [List.getElem?_toArray, List.getElem?_cons_succ, List.getElem?_cons_zero]; exact rfl
            · rfl
            · kernel_rfl
            · kernel_rfl
            · kernel_rfl
            · first | exact fun _ _ _ _ h => Exit.noConfusion h.1 | exact fun _ _ _ _ h => h
            apply Exists.intro
            apply And.intro
            · apply yr_run; rfl; intro w' hw'; go_simp; (try with_reducible rfl)
            simp only [Act.put, List.setIfInBounds_toArray, List.set_cons_zero, List.set_cons_succ]
            refine wpR_one 10 (by kernel_rfl) ?_
            apply at_store 10
            · simp only [List.getElem?_toArray, List.getElem?_cons_succ, List.getElem?_cons_zero]; exact rfl
            · rfl
            · rfl
            intro w' hw'
            have RR_1_13 := Lib.hid (Ow.up RR_1_9.out (hw'))
            have XV_1_13 := Lib.hid (Whole.below XV_1_9.out (hw'))
            have US_1_13 := Lib.hid (RdS.bl US_1_9.out (hw'))
            have E_1_13 := Lib.hid (Ext.trans E_1_9.out (hw'))
            have hcc := XV_1_13.out.cell (i := 0) rfl
            have hff := XV_1_13.out.free 0
            apply Exists.intro
            apply And.intro
            · go_simp; exact rfl
            apply And.intro
            · exact (Kept.refl _ _).setCell (.inl (show B0 ≤ B0 by have h1 := LOv.out; have h2 := HB0.out; omega)) _
            clear hcc hff
            try simp only [Act.put, List.setIfInBounds_toArray, List.set_cons_zero, List.set_cons_succ]
            refine wpR_done (by kernel_rfl) ?_ _
            intro wE hwE
            have hx6 := (XV_1_13.out.set_ 0 _).below hwE
            have hy6 := (RR_1_13.out.far_ (i := 0) NE_R_V_1_9.out (Nat.le_refl _) (_)).up hwE
            have hz6 : rowsV opCells (List.replicate j o) ++ rowsV opCells [o] = rowsV opCells (List.replicate (j + 1) o) := by rw [← rowsV_app, List.replicate_succ']
            rw [hz6] at hy6
            have HI : RowKit.Hid (∃ v, Ow y14 B0 29 20 v (j + 1) (rowsV opCells (List.replicate (j + 1) o)) wE ∧ Whole wE B0 32 [v] ∧ some B0 ≠ v.ownBlock) := Lib.hid ⟨_, hy6, hx6, NE_R_V_1_9.out⟩
            clear hx6 hy6 hz6 hwE
            go_wp2
            go_roundw
            case rel => exact ⟨j + 1, by omega, by go_num, HI⟩
            case measure => simp [intOf]; omega
          · apply at_run 7 (some 57)
            · simp only [List.getElem?_toArray, List.getElem?_cons_succ, List.getElem?_cons_zero]; exact rfl
            · rfl
            · rfl
            intro w' hw'
            have RR_2_15 := Lib.hid (Ow.up RRd.out (hw'))
            have XV_2_15 := Lib.hid (Whole.below XVd.out (hw'))
            have E_2_15 := Lib.hid (Ext.trans EXd.out (hw'))
            refine ⟨.slice (some ⟨w'.heap.size, 0, none⟩) 1 1, w'.alloc (.cells ((opCells o).toArray) 29), exec_buildSlice 30 29 1 #[(0, .tmp 56)] (by rfl) Try.underlying30 _ (by kernel_rfl), Kept.of_below (below1 _ _), ?_⟩
            have NE_R_S_2_14 : RowKit.Hid (some w'.heap.size ≠ _) := Lib.hid (Ow.ne_ RR_2_15.out (Nat.le_refl _))
            have RR_2_16 := Lib.hid (Ow.up RR_2_15.out (below1 w' (.cells ((opCells o).toArray) 29)))
            have XV_2_16 := Lib.hid (Whole.below XV_2_15.out (below1 w' (.cells ((opCells o).toArray) 29)))
            have E_2_16 := Lib.hid (Ext.trans E_2_15.out (below1 w' (.cells ((opCells o).toArray) 29)))
            have US_n2_14 : RowKit.Hid (RdS (w'.alloc (.cells ((opCells o).toArray) 29)) (w'.alloc (.cells ((opCells o).toArray) 29)).heap.size 20 (some ⟨w'.heap.size, 0, none⟩) 1 1 (rowsV opCells [o])) := Lib.hid (RdS.of_whole (Whole.new_ _ _ _) rfl)
            have hkk : Kept (From_ B0) wr.drew (w'.alloc (.cells ((opCells o).toArray) 29)) := (Kept.of_ext hw').trans (Kept.of_below (below1 _ _))
            obtain ⟨v2_17, gv2_17⟩ : ∃ x, w'.alloc (.cells ((opCells o).toArray) 29) = x := ⟨_, rfl⟩
            rw [gv2_17] at RR_2_16 XV_2_16 US_n2_14 E_2_16 hkk ⊢
            have ldt2_18 := fun w'' (h : Kept (From_ B0) v2_17 w'') => ldt0 w'' (hkk.trans h)
            clear ldt0
            clear gv2_17 hkk
            obtain ⟨g2_14, gg2_14⟩ : ∃ x, w'.heap.size = x := ⟨_, rfl⟩
            rw [gg2_14] at US_n2_14 NE_R_S_2_14 ⊢
            clear gg2_14 hw'
            have NF_NE_R_S_2_14 : RowKit.Hid (∀ a, (some (⟨g2_14, 0, none⟩ : Addr)) = some a → 0 < 1 → some a.block ≠ _) := Lib.hid (fun a ha _ => by obtain rfl := Option.some.inj ha; exact NE_R_S_2_14.out)
            try simp only [Act.put, List.setIfInBounds_toArray, List.set_cons_zero, List.set_cons_succ]
            refine wpR_one 1 (by kernel_rfl) ?_
            apply at_run 1 (some 51)
            · simp only [List.getElem?_toArray, List.getElem?_cons_succ, List.getElem?_cons_zero]; exact rfl
            · rfl
            · rfl
            intro w' hw'
            have RR_2_20 := Lib.hid (Ow.up RR_2_16.out (hw'))
            have XV_2_20 := Lib.hid (Whole.below XV_2_16.out (hw'))
            have US_2_20 := Lib.hid (RdS.bl US_n2_14.out (hw'))
            have E_2_20 := Lib.hid (Ext.trans E_2_16.out (hw'))
            have hrd0 := XV_2_20.out.cell (i := 0) rfl
            apply Exists.intro
            apply Exists.intro
            apply And.intro
            · go_simp; exact ⟨rfl, rfl⟩
            apply And.intro
            · exact Kept.refl _ _
            clear hrd0
            have hkk : Kept (From_ B0) v2_17 w' := Kept.of_ext hw'
            obtain ⟨z2_19, gz2_19⟩ : ∃ x, w' = x := ⟨_, rfl⟩
            rw [gz2_19] at RR_2_20 XV_2_20 US_2_20 E_2_20 hkk ⊢
            have ldt2_21 := fun w'' (h : Kept (From_ B0) z2_19 w'') => ldt2_18 w'' (hkk.trans h)
            clear ldt2_18
            clear hkk gz2_19 hw'
            try simp only [Act.put, List.setIfInBounds_toArray, List.set_cons_zero, List.set_cons_succ]
            refine wpR_one 8 (by kernel_rfl) ?_
            apply at_run 8 (some 58)
            · simp only [List.getElem?_toArray, List.getElem?_cons_succ, List.getElem?_cons_zero]; exact rfl
            · rfl
            · rfl
            intro w' hw'
            have RR_2_23 := Lib.hid (Ow.up RR_2_20.out (hw'))
            have XV_2_23 := Lib.hid (Whole.below XV_2_20.out (hw'))
            have US_2_23 := Lib.hid (RdS.bl US_2_20.out (hw'))
            have E_2_23 := Lib.hid (Ext.trans E_2_20.out (hw'))
            obtain ⟨vv, w'', hrun, ho, hb, hg, hbk⟩ := Ow.app2 (P := Try.prog) 30 30 29 i0 _ 20 168 _ Try.underlying30 hi hz0 hz1 hz2 rfl (by decide) _ _ _ RR_2_23.out _ _ _ _ _ (US_2_23.out) (rowsOp_one [o]) (by unfold maxLen; omega) (by omega)
            refine ⟨vv, w'', exec_append (by rfl) (by rfl) (by rfl) hrun, Kept.of_from hb, ?_⟩
            have XV_2_22 := Lib.hid (Whole.grown XV_2_23.out hg NE.out)
            have NE_R_V_2_22 := Lib.hid (Ow.ne2 NE.out XV_2_23.out.lt hbk)
            have US_2_22 := Lib.hid (RdS.grown US_2_23.out hg NF_NE_R_S_2_14.out)
            have NE_R_S_2_22 : RowKit.Hid (∀ a, (some (⟨g2_14, 0, none⟩ : Addr)) = some a → 0 < 1 → some a.block ≠ _) := Lib.hid (fun a ha hn => Ow.ne2 (NF_NE_R_S_2_14.out a ha hn) (US_2_23.out.low a ha hn) hbk)
            have E_2_22 : RowKit.Hid (Ext y14 w'') := Lib.hid ho.below
            have hkk : Kept (From_ B0) z2_19 w'' := (Kept.of_ext hw').trans (Kept.of_from hb)
            obtain ⟨AA2_22, cc2_22, rfl, hrr⟩ := ho.rds
            have RR_2_22 := Lib.hid ho
            clear hrr
            obtain ⟨z2_22, gz2_22⟩ : ∃ x, w'' = x := ⟨_, rfl⟩
            rw [gz2_22] at RR_2_22 XV_2_22 US_2_22 E_2_22 hkk ⊢
            have ldt2_24 := fun w'' (h : Kept (From_ B0) z2_22 w'') => ldt2_21 w'' (hkk.trans h)
            clear ldt2_21
            clear hkk hrun ho hb hg hbk gz2_22 hw'
            try simp only [Act.put, List.setIfInBounds_toArray, List.set_cons_zero, List.set_cons_succ]
            apply wpR_next 9 (some 59)
            · simp only [List.getElem?_toArray, List.getElem?_cons_succ, List.getElem?_cons_zero]; exact rfl
            · rfl
            · kernel_rfl
            · kernel_rfl
            · kernel_rfl
            · first | exact fun _ _ _ _ h => Exit.noConfusion h.1 | exact fun _ _ _ _ h => h
            apply Exists.intro
            apply And.intro
            · apply yr_run; rfl; intro w' hw'; go_simp; (try with_reducible rfl)
            simp only [Act.put, List.setIfInBounds_toArray, List.set_cons_zero, List.set_cons_succ]
            refine wpR_one 10 (by kernel_rfl) ?_
            apply at_store 10
            · simp only [List.getElem?_toArray, List.getElem?_cons_succ, List.getElem?_cons_zero]; exact rfl
            · rfl
            · rfl
            intro w' hw'
            have RR_2_26 := Lib.hid (Ow.up RR_2_22.out (hw'))
            have XV_2_26 := Lib.hid (Whole.below XV_2_22.out (hw'))
            have US_2_26 := Lib.hid (RdS.bl US_2_22.out (hw'))
            have E_2_26 := Lib.hid (Ext.trans E_2_22.out (hw'))
            have hcc := XV_2_26.out.cell (i := 0) rfl
            have hff := XV_2_26.out.free 0
            apply Exists.intro
            apply And.intro
            · go_simp; exact rfl
            apply And.intro
            · exact (Kept.refl _ _).setCell (.inl (show B0 ≤ B0 by have h1 := LOv.out; have h2 := HB0.out; omega)) _
            clear hcc hff
            try simp only [Act.put, List.setIfInBounds_toArray, List.set_cons_zero, List.set_cons_succ]
            refine wpR_done (by kernel_rfl) ?_ _
            intro wE hwE
            have hx6 := (XV_2_26.out.set_ 0 _).below hwE
            have hy6 := (RR_2_26.out.far_ (i := 0) NE_R_V_2_22.out (Nat.le_refl _) (_)).up hwE
            have hz6 : rowsV opCells (List.replicate j o) ++ rowsV opCells [o] = rowsV opCells (List.replicate (j + 1) o) := by rw [← rowsV_app, List.replicate_succ']
            rw [hz6] at hy6
            have HI : RowKit.Hid (∃ v, Ow y14 B0 29 20 v (j + 1) (rowsV opCells (List.replicate (j + 1) o)) wE ∧ Whole wE B0 32 [v] ∧ some B0 ≠ v.ownBlock) := Lib.hid ⟨_, hy6, hx6, NE_R_V_2_22.out⟩
            clear hx6 hy6 hz6 hwE
            go_wp2
            go_roundw
            case rel => exact ⟨j + 1, by omega, by go_num, HI⟩
            case measure => simp [intOf]; omega
        · have hj7 : j = 7 := by omega
          subst hj7
          obtain ⟨Am, cm, hvm, hrm⟩ := RR.out.rds
          obtain ⟨rfl, -, rfl⟩ : _ = Am ∧ _ = _ ∧ _ = cm := by injection hvm with a1 a2 a3; exact ⟨a1, a2, a3⟩
          have JM := Lib.hid hrm
          clear hrm hvm
          have EA_16 := Lib.hid (EA_14.out.bl EX.out)
          have SA_16 := Lib.hid (SA_14.out.bl EX.out)
          have E6_16 := Lib.hid (E6_14.out.bl EX.out)
          have J_16 := Lib.hid (J_14.out.bl EX.out)
          have Bel_16 := Lib.hid (bel_bl Bel_14.out EX.out)
          have lw17 : (wr).cell? ⟨w.heap.size, 0, none⟩ = some (.slice (some ⟨b, off, none⟩) La.length c) := EA_16.out.cell (i := 0) rfl
          go_upto_region 14 with fail
          refine wp_region_lit ?_
          refine wl_read (v := ?_) (some 60) rfl (by rfl) ?_ ?_
          rotate_left
          · go_simp; (try with_reducible rfl)
          simp only [Act.put, List.setIfInBounds_toArray, List.set_cons_zero, List.set_cons_succ]
          refine wl_read (v := ?_) (some 61) rfl (by rfl) ?_ ?_
          rotate_left
          · go_simp; (try with_reducible rfl)
          simp only [Act.put, List.setIfInBounds_toArray, List.set_cons_zero, List.set_cons_succ]
          refine wl_read (v := ?_) (some 62) rfl (by rfl) ?_ ?_
          rotate_left
          · go_simp; (try with_reducible rfl)
          simp only [Act.put, List.setIfInBounds_toArray, List.set_cons_zero, List.set_cons_succ]
          refine wl_read (v := ?_) (some 63) rfl (by rfl) ?_ ?_
          rotate_left
          · go_simp; (try with_reducible rfl)
          simp only [Act.put, List.setIfInBounds_toArray, List.set_cons_zero, List.set_cons_succ]
          refine wl_read (v := ?_) (some 64) rfl (by rfl) ?_ ?_
          rotate_left
          · go_simp; (try with_reducible rfl)
          simp only [Act.put, List.setIfInBounds_toArray, List.set_cons_zero, List.set_cons_succ]
          refine wl_read (v := ?_) (some 65) rfl (by rfl) ?_ ?_
          rotate_left
          · go_simp; (try with_reducible rfl)
          simp only [Act.put, List.setIfInBounds_toArray, List.set_cons_zero, List.set_cons_succ]
          refine wl_load_at (some 66) rfl (by rfl) 29 (.tmp 65) rfl ⟨b, off + k * 20, none⟩ rfl (opCells o) _ (RdS.elem opCells_len' SA_16.out HK.out) Try.underlying29 rfl (by kernel_rfl) ?_
          simp only [Act.put, List.setIfInBounds_toArray, List.set_cons_zero, List.set_cons_succ]
          clear lw17
          go_wp2_with fail
          refine (HO.out _).mono ?_
          rintro e w18 ⟨rfl, hb18⟩
          have EA_19 := Lib.hid (EA_16.out.bl hb18)
          have SA_19 := Lib.hid (SA_16.out.bl hb18)
          have E6_19 := Lib.hid (E6_16.out.bl hb18)
          have J_19 := Lib.hid (J_16.out.bl hb18)
          have JM_19 := Lib.hid (JM.out.bl hb18)
          have EM_19 := Lib.hid (XV.out.bl hb18)
          have Bel_19 := Lib.hid (bel_bl Bel_16.out hb18)
          clear hb18
          have lw20 : (w18).cell? ⟨g6, 0, none⟩ = some (.slice A6 nJ c6) := E6_19.out.cell (i := 0) rfl
          go_wp2_with fail
          clear lw20
          refine (HMj.out A6 c6 _ J_19.out).mono ?_
          rintro e w21 ⟨rfl, hb21⟩
          have EA_22 := Lib.hid (EA_19.out.bl hb21)
          have SA_22 := Lib.hid (SA_19.out.bl hb21)
          have E6_22 := Lib.hid (E6_19.out.bl hb21)
          have J_22 := Lib.hid (J_19.out.bl hb21)
          have JM_22 := Lib.hid (JM_19.out.bl hb21)
          have EM_22 := Lib.hid (EM_19.out.bl hb21)
          have Bel_22 := Lib.hid (bel_bl Bel_19.out hb21)
          clear hb21
          have lw23 : (w21).cell? ⟨B0, 0, none⟩ = some (.slice Av 7 cv) := EM_22.out.cell (i := 0) rfl
          go_wp2_with fail
          clear lw23
          refine (HMm.out Av cv _ JM_22.out).mono ?_
          rintro e w24 ⟨rfl, hb24⟩
          have EA_25 := Lib.hid (EA_22.out.bl hb24)
          have SA_25 := Lib.hid (SA_22.out.bl hb24)
          have E6_25 := Lib.hid (E6_22.out.bl hb24)
          have J_25 := Lib.hid (J_22.out.bl hb24)
          have JM_25 := Lib.hid (JM_22.out.bl hb24)
          have EM_25 := Lib.hid (EM_22.out.bl hb24)
          have Bel_25 := Lib.hid (bel_bl Bel_22.out hb24)
          clear hb24
          have lw26 : (w24).cell? ⟨g6, 0, none⟩ = some (.slice A6 nJ c6) := E6_25.out.cell (i := 0) rfl
          have lw27 : (w24).cell? ⟨w.heap.size, 0, none⟩ = some (.slice (some ⟨b, off, none⟩) La.length c) := EA_25.out.cell (i := 0) rfl
          go_wp2_with fail
          clear lw26 lw27
          refine (HS1.out A6 c6 _ J_25.out SA_25.out).mono ?_
          rintro e w28 ⟨rfl, hb28⟩
          have EA_29 := Lib.hid (EA_25.out.bl hb28)
          have SA_29 := Lib.hid (SA_25.out.bl hb28)
          have E6_29 := Lib.hid (E6_25.out.bl hb28)
          have J_29 := Lib.hid (J_25.out.bl hb28)
          have JM_29 := Lib.hid (JM_25.out.bl hb28)
          have EM_29 := Lib.hid (EM_25.out.bl hb28)
          have Bel_29 := Lib.hid (bel_bl Bel_25.out hb28)
          clear hb28
          have lw30 : (w28).cell? ⟨w.heap.size, 0, none⟩ = some (.slice (some ⟨b, off, none⟩) La.length c) := EA_29.out.cell (i := 0) rfl
          go_wp2_with fail
          clear lw30
          refine (HS2.out _ SA_29.out SA_29.out).mono ?_
          rintro e w31 ⟨rfl, hb31⟩
          have EA_32 := Lib.hid (EA_29.out.bl hb31)
          have SA_32 := Lib.hid (SA_29.out.bl hb31)
          have E6_32 := Lib.hid (E6_29.out.bl hb31)
          have J_32 := Lib.hid (J_29.out.bl hb31)
          have JM_32 := Lib.hid (JM_29.out.bl hb31)
          have EM_32 := Lib.hid (EM_29.out.bl hb31)
          have Bel_32 := Lib.hid (bel_bl Bel_29.out hb31)
          clear hb31
          go_wp2
          go_ret
          exact ⟨rfl, Bel_32.out⟩

theorem law_parts (A : Option Addr) (n c : Nat) (t0 : Int) (L : List OpT) (w : World) (h : RdS w w.heap.size 20 A n c (rowsV opCells L)) (hn : n ≤ maxLen) :
    Calls Try.prog 4 #[.agg #[.slice A n c], .int .i64 t0] w fun e w' => e = .returned (.bool true) ∧ Below w.heap.size w w' := by
  by_cases hm : mayE (L.take 10) = 0
  case neg => exact op_a A n c t0 L w h hn hm
  by_cases h0 : t0 < 0
  · exact op_b A n c t0 L w h hn hm (decide_eq_true h0)
  by_cases h1 : ((L.take 10).length : Int) ≤ t0
  · exact op_c A n c t0 L w h hn hm (decide_eq_false h0) h1
  obtain ⟨k, hk⟩ := Int.eq_ofNat_of_zero_le (Int.not_lt.1 h0)
  exact op_d A n c t0 L w h hn k hk hm (by omega)
end Go.Proofs.Ytfbgbljljhgbjaa
