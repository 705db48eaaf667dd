/- The document's Put of an edit. -/
import Derived.Test.YtoiflngpjdghbaaOAH
import Derived.Test.YtoiflngpjdghbaaOAF
import Derived.Test.YtoiflngpjdghbaaOAB
import Derived.Test.YtoiflngpjdghbaaOAC

/- A cell that holds a slice is none of a row's. -/
namespace Go.Proofs.Ytoiflngpjdghbaa
open Go.RowKit
set_option linter.unusedSimpArgs false
set_option linter.unusedVariables false

theorem RdS.far_cell {w : World} {s n c g : Nat} {A : Option Addr} {xs : List Value} {T : TypeId} {v : Value} {vs : List Value} (h : RdS w w.heap.size s A n c xs) (hw : Whole w g T (v :: vs)) (hv : ¬ v ∈ xs) (u : Value) : RdS (w.setCell ⟨g, 0, none⟩ u) (w.setCell ⟨g, 0, none⟩ u).heap.size s A n c xs := by
  have hsz : (w.setCell ⟨g, 0, none⟩ u).heap.size = w.heap.size := by simp [World.setCell]
  rw [hsz]
  exact rds_poke h (hw.cell (i := 0) rfl) hv u
theorem rows_ed {A : Option Addr} {n c : Nat} : ∀ {L : List OpT}, ¬ Value.slice A n c ∈ rowsV opCells L
  | [], h => by cases h
  | o :: L, h => by
    simp only [rowsV] at h
    rcases List.mem_append.1 h with h | h
    · simp [opCells] at h
    · exact rows_ed h
theorem rows_ed8 {A : Option Addr} {n c : Nat} {L : List Nat} : ¬ Value.slice A n c ∈ rowsV f8 L := fun h => by
  rw [rowsV_map8] at h
  obtain ⟨x, -, e⟩ := List.mem_map.1 h
  cases e
theorem rows_op_u8 {x : Int} : ∀ {L : List OpT}, ¬ Value.int .u8 x ∈ rowsV opCells L
  | [], h => by cases h
  | o :: L, h => by
    simp only [rowsV] at h
    rcases List.mem_append.1 h with h | h
    · simp [opCells] at h
    · exact rows_op_u8 h
end Go.Proofs.Ytoiflngpjdghbaa

/- OpcodeBack's walk. -/
namespace Go.Proofs.Ytoiflngpjdghbaa
open Go.RowKit
set_option linter.unusedSimpArgs false
set_option linter.unusedVariables false

theorem edB_inj {L M : List OpT} (hL : mayE L = 0) (hM : mayE M = 0) : decide (edB L = edB M) = decide (L = M) := by
  refine decide_eq_decide.2 ⟨fun h => ?_, fun h => by rw [h]⟩
  have h1 : isE (edB L) L [] := ⟨hL, by rw [List.append_nil]⟩
  have h2 : isE (edB L) M [] := ⟨hM, by rw [List.append_nil, h]⟩
  exact (isE_rd h1).1.symm.trans (isE_rd h2).1
/-- What Take and Whole tell of what was laid down. -/
theorem back_tk {L : List OpT} (hL : mayE L = 0) (R : List Nat) : tkV (edB L ++ R) = L ∧ tkR (edB L ++ R) = R ∧ tkE (edB L ++ R) = 0 := by
  obtain ⟨h1, h2, h3⟩ := is_okEd (B := edB L ++ R) ⟨hL, rfl⟩
  unfold tkV tkR tkE
  rw [if_pos h1, if_pos h1, if_pos h1]
  exact ⟨h2, h3, rfl⟩
theorem back_more {L : List OpT} (hL : mayE L = 0) (b : Nat) : okW (edB L ++ [b]) = false := by
  cases h : okW (edB L ++ [b]) with
  | false => rfl
  | true =>
    obtain ⟨M, hM, e⟩ := okW_is.1 h
    have h1 : isE (edB L ++ [b]) L [b] := ⟨hL, rfl⟩
    have h2 : isE (edB L ++ [b]) M [] := ⟨hM, by rw [List.append_nil]; exact e⟩
    have h3 := (isE_rd h1).2.1.symm.trans (isE_rd h2).2.1
    cases h3
theorem edB_pos (L : List OpT) : 1 ≤ (edB L).length := by simp [edB]
theorem back_less {L : List OpT} (hL : mayE L = 0) {t : Nat} (ht : t < (edB L).length) : okW ((edB L).take t) = false := by
  cases h : okW ((edB L).take t) with
  | false => rfl
  | true =>
    obtain ⟨M, hM, e⟩ := okW_is.1 h
    have h1 : isE (edB L) L [] := ⟨hL, by rw [List.append_nil]⟩
    have h2 : isE (edB L) M ((edB L).drop t) := ⟨hM, by rw [← e, List.take_append_drop]⟩
    have h3 := congrArg List.length ((isE_rd h1).2.1.symm.trans (isE_rd h2).2.1)
    rw [List.length_drop, List.length_nil] at h3
    omega
theorem whE_no {B : List Nat} (h : okW B = false) : whE B = 2 := by unfold whE; rw [h]; rfl
set_option maxRecDepth 100000 in
set_option maxHeartbeats 16000000 in
theorem law_back (A : Option Addr) (n c : Nat) (La : List OpT) (A' : Option Addr) (n' c' : Nat) (Lb : List OpT) (Am : Option Addr) (nm cm : Nat) (M : List Nat) (w : World) (h : RdS w w.heap.size 20 A n c (rowsV opCells La)) (hn : n ≤ maxLen) (h' : RdS w w.heap.size 20 A' n' c' (rowsV opCells Lb)) (hn' : n' ≤ maxLen)
    (hm : RdS w w.heap.size 1 Am nm cm (rowsV f8 M)) (hMb : ∀ b ∈ M, b < 256) :
    Calls Try.prog 5 #[.agg #[.slice A n c], .agg #[.slice A' n' c'], .slice Am nm cm] w fun e w' => e = .returned (.bool true) ∧ Below w.heap.size w w' := by
  have HRa := Lib.hid ((h.al (.cells #[.slice A n c] 25)).al (.cells #[.slice A' n' c'] 25))
  have HRb := Lib.hid ((h'.al (.cells #[.slice A n c] 25)).al (.cells #[.slice A' n' c'] 25))
  have HRm := Lib.hid ((hm.al (.cells #[.slice A n c] 25)).al (.cells #[.slice A' n' c'] 25))
  have HMl : RowKit.Hid (M.length = nm) := Lib.hid (hm.rlen f8_len (by decide))
  have HMb := Lib.hid hMb
  have hmc := hm.le
  have HX0 : RowKit.Hid (Whole ((w.alloc (.cells #[.slice A n c] 25)).alloc (.cells #[.slice A' n' c'] 25)) w.heap.size 25 [.slice A n c]) := Lib.hid ((Whole.new_ w 25 [_]).al _)
  have HY0 : RowKit.Hid (Whole ((w.alloc (.cells #[.slice A n c] 25)).alloc (.cells #[.slice A' n' c'] 25)) (w.heap.size + 1) 25 [.slice A' n' c']) := Lib.hid (Whole.new2 (by simp))
  have HB0 : RowKit.Hid (Below w.heap.size w ((w.alloc (.cells #[.slice A n c] 25)).alloc (.cells #[.slice A' n' c'] 25))) := Lib.hid (below2 w _ _)
  have HFa := Lib.hid (fun W h => few10_any A n c La W h hn)
  have HFb := Lib.hid (fun W h => few10_any A' n' c' Lb W h hn')
  have hal := fewE_len La
  have hbl := fewE_len Lb
  obtain ⟨Ea, gEa⟩ : ∃ z, fewE La = z := ⟨_, rfl⟩
  obtain ⟨Eb, gEb⟩ : ∃ z, fewE Lb = z := ⟨_, rfl⟩
  rw [gEa] at HFa hal
  rw [gEb] at HFb hbl
  obtain ⟨ma, gma⟩ : ∃ z, Ea.length = z := ⟨_, rfl⟩
  obtain ⟨mb, gmb⟩ : ∃ z, Eb.length = z := ⟨_, rfl⟩
  rw [gma] at HFa hal
  rw [gmb] at HFb hbl
  have Gma := Lib.hid gma
  have HPa := Lib.hid (fun A' c' W (h : RdS W W.heap.size 20 A' ma c' (rowsV opCells Ea)) => oput_any none 0 [] A' ma c' Ea W (rds_nil _ _ _) (by simp) h (by omega))
  have HPb := Lib.hid (fun A' c' W (h : RdS W W.heap.size 20 A' mb c' (rowsV opCells Eb)) => oput_any none 0 [] A' mb c' Eb W (rds_nil _ _ _) (by simp) h (by omega))
  clear h h' hm hMb gEa gEb gma gmb
  go_enter Try.func5, Try.ntmps5
  go_upto_region 1 with fail
  obtain ⟨w0, gw0⟩ : ∃ z, (w.alloc (.cells #[.slice A n c] 25)).alloc (.cells #[.slice A' n' c'] 25) = z := ⟨_, rfl⟩
  rw [gw0] at HRa HRb HRm HX0 HY0 HB0 ⊢
  obtain ⟨b4, gb4⟩ : ∃ z, w.heap.size + 1 = z := ⟨_, rfl⟩
  rw [gb4] at HY0 ⊢
  obtain ⟨b3, gb3⟩ : ∃ z, w.heap.size = z := ⟨_, rfl⟩
  rw [gb3] at HX0 ⊢
  have Hb : RowKit.Hid (w.heap.size ≤ b3 ∧ w.heap.size ≤ b4 ∧ b3 ≠ b4) := Lib.hid (by omega)
  clear gw0 gb3 gb4
  go_upto_region 2 with (first
    | (go_at_call 9
       refine (shown10_any _).mono ?_
       rintro e w1 ⟨rfl, hb⟩
       have HRa1 := Lib.hid (HRa.out.bl hb)
       have HRb1 := Lib.hid (HRb.out.bl hb)
       have HRm1 := Lib.hid (HRm.out.bl hb)
       have HX1 := Lib.hid (HX0.out.bl hb)
       have HY1 := Lib.hid (HY0.out.bl hb)
       have HB1 := Lib.hid (bel_bl HB0.out hb)
       clear hb HRa HRb HRm HX0 HY0 HB0))
  have d0 := HX1.out.cell (i := 0) rfl
  go_upto_region 3 with (first
    | (go_at_call 11
       refine (HFa.out _ HRa1.out).mono ?_
       rintro e w2 ⟨A2, c2, rfl, ho, hb⟩
       have HX2 := Lib.hid (HX1.out.bl hb)
       have HY2 := Lib.hid (HY1.out.bl hb)
       have HB2 := Lib.hid (bel_bl HB1.out hb)
       have HRb2 := Lib.hid (HRb1.out.bl hb)
       have HRm2 := Lib.hid (HRm1.out.bl hb)
       have HO2 := Lib.hid ho
       have q0 := HX2.out.cell (i := 0) rfl
       have f0 := HX2.out.free 0
       have Hs1 : RowKit.Hid (w.heap.size ≤ w1.heap.size) := Lib.hid HB1.out.size
       clear hb ho d0))
  clear q0 f0
  have HX3 := Lib.hid (HX2.out.set_ 0 (.slice A2 ma c2))
  have HY3 := Lib.hid (HY2.out.far (p := ⟨b3, 0, none⟩) Hb.out.2.2.symm (.slice A2 ma c2))
  have HB3 := Lib.hid (HB2.out.setCell (p := ⟨b3, 0, none⟩) Hb.out.1 (.slice A2 ma c2))
  have HO3 := Lib.hid (own_cell_far (g := b3) (i := 0) HO2.out (own_ne HO2.out HX2.out (by decide)) (.slice A2 ma c2))
  have HRb3 := Lib.hid (HRb2.out.far_cell HX2.out (fun q => rows_ed q) (.slice A2 ma c2))
  have HRm3 := Lib.hid (HRm2.out.far_cell HX2.out (fun q => rows_ed8 q) (.slice A2 ma c2))
  obtain ⟨w3, gw3⟩ : ∃ z, w2.setCell ⟨b3, 0, none⟩ (.slice A2 ma c2) = z := ⟨_, rfl⟩
  rw [gw3] at HX3 HY3 HB3 HO3 HRb3 HRm3 ⊢
  clear gw3 HX1 HX2 HY1 HY2 HB1 HB2 HRa1 HRb1 HRm1 HRb2 HRm2 HO2
  have d1 := HY3.out.cell (i := 0) rfl
  go_upto_region 4 with (first
    | (go_at_call 11
       refine (HFb.out _ HRb3.out).mono ?_
       rintro e w4 ⟨A4, c4, rfl, ho, hb⟩
       have HX4 := Lib.hid (HX3.out.bl hb)
       have HY4 := Lib.hid (HY3.out.bl hb)
       have HB4 := Lib.hid (bel_bl HB3.out hb)
       have HRm4 := Lib.hid (HRm3.out.bl hb)
       have HO4 := Lib.hid ho
       have HP4 := Lib.hid (own_up HO3.out hb)
       have q0 := HY4.out.cell (i := 0) rfl
       have f0 := HY4.out.free 0
       clear hb ho d1))
  clear q0 f0
  have HX5 := Lib.hid (HX4.out.far (p := ⟨b4, 0, none⟩) Hb.out.2.2 (.slice A4 mb c4))
  have HY5 := Lib.hid (HY4.out.set_ 0 (.slice A4 mb c4))
  have HB5 := Lib.hid (HB4.out.setCell (p := ⟨b4, 0, none⟩) Hb.out.2.1 (.slice A4 mb c4))
  have HRa5 := Lib.hid (own_rds (own_cell_far (g := b4) (i := 0) HP4.out (own_ne HP4.out HY4.out (by decide)) (.slice A4 mb c4)))
  have HRb5 := Lib.hid (own_rds (own_cell_far (g := b4) (i := 0) HO4.out (own_ne HO4.out HY4.out (by decide)) (.slice A4 mb c4)))
  have HRm5 := Lib.hid (HRm4.out.far_cell HY4.out (fun q => rows_ed8 q) (.slice A4 mb c4))
  obtain ⟨w5, gw5⟩ : ∃ z, w4.setCell ⟨b4, 0, none⟩ (.slice A4 mb c4) = z := ⟨_, rfl⟩
  rw [gw5] at HX5 HY5 HB5 HRa5 HRb5 HRm5 ⊢
  clear gw5 HX3 HX4 HY3 HY4 HB3 HB4 HRb3 HRm3 HRm4 HO3 HO4 HP4
  go_upto_if 28 with fail
  go_cut [2] (fun v z => ∃ (n9 : Nat) (M9 : List Nat), v = .slice Am n9 cm ∧ n9 ≤ 50 ∧ M9.length = n9 ∧ (∀ b ∈ M9, b < 256) ∧ RdS w5 w5.heap.size 1 Am n9 cm (rowsV f8 M9) ∧ w5 = z)
  case first =>
    by_cases hq : 50 < nm
    · have ht : (50 : Int) < (nm : Int) := by omega
      have h50 : 50 ≤ cm := by omega
      go_wp2_with fail
      go_meet
      refine ⟨50, M.take 50, rfl, Nat.le_refl _, by rw [List.length_take, HMl.out]; omega, fun b hb => HMb.out b (List.mem_of_mem_take hb), ?_, rfl⟩
      have t1 := HRm5.out.take_ 50 (by omega)
      rw [rowsV_map8] at t1 ⊢
      rw [List.map_take]
      exact t1
    · have ht : ¬ (50 : Int) < (nm : Int) := by omega
      go_wp2_with fail
      go_meet
      exact ⟨nm, M, rfl, by omega, HMl.out, HMb.out, HRm5.out, rfl⟩
  case rest =>
  obtain ⟨n9, M9, rfl, hn9, hM9, hMb9, hr9, hz⟩ := hcut
  subst hz
  have HR9 := Lib.hid hr9
  have HMb9 := Lib.hid hMb9
  have HM9 := Lib.hid hM9
  clear hr9 hMb9 hM9 hmc HRm5 HMl HMb
  have d0 := HX5.out.cell (i := 0) rfl
  have d1 := HY5.out.cell (i := 0) rfl
  by_cases hma : mayE Ea = 0
  case neg =>
    have hp : pE [] Ea = [] := by unfold pE; rw [if_neg hma]
    rw [hp] at HPa
    obtain ⟨x, gx⟩ : ∃ z, mayE Ea = z := ⟨_, rfl⟩
    obtain ⟨y, gy⟩ : ∃ z, mayE Eb = z := ⟨_, rfl⟩
    obtain ⟨P, gP⟩ : ∃ z, pE [] Eb = z := ⟨_, rfl⟩
    rw [gx] at HPa hma
    rw [gy, gP] at HPb
    have q1 : (x == 0) = false := beq_eq_false_iff_ne.2 hma
    have q2 : (x != 0) = true := bne_iff_ne.2 hma
    clear hp gx hma gy gP
    go_upto_region 7 with (first
      | (go_at_call 10
         refine (HPa.out _ _ _ HRa5.out).mono ?_
         rintro e w6 ⟨A6, c6, rfl, -, hb⟩
         have HB6 := Lib.hid (bel_bl HB5.out hb)
         have HRb6 := Lib.hid (HRb5.out.bl hb)
         have HY6 := Lib.hid (HY5.out.bl hb)
         clear hb d0 d1))
    have d1 := HY6.out.cell (i := 0) rfl
    go_wp2_with (first
      | (go_at_call 10
         refine (HPb.out _ _ _ HRb6.out).mono ?_
         rintro e w7 ⟨A7, c7, rfl, -, hb⟩
         have HB7 := Lib.hid (bel_bl HB6.out hb)
         clear hb d1))
    go_ret
    exact ⟨rfl, HB7.out⟩
  case pos =>
    have hpa : pE [] Ea = edB Ea := by unfold pE; rw [if_pos hma, List.nil_append]
    rw [hpa, hma] at HPa
    by_cases hmb : mayE Eb = 0
    case neg =>
      have hp : pE [] Eb = [] := by unfold pE; rw [if_neg hmb]
      rw [hp] at HPb
      obtain ⟨y, gy⟩ : ∃ z, mayE Eb = z := ⟨_, rfl⟩
      obtain ⟨P, gP⟩ : ∃ z, edB Ea = z := ⟨_, rfl⟩
      rw [gP] at HPa
      rw [gy] at HPb hmb
      have q1 : (y == 0) = false := beq_eq_false_iff_ne.2 hmb
      have q2 : (y != 0) = true := bne_iff_ne.2 hmb
      clear hp gy hmb gP hpa hma
      go_upto_region 7 with (first
        | (go_at_call 10
           refine (HPa.out _ _ _ HRa5.out).mono ?_
           rintro e w6 ⟨A6, c6, rfl, -, hb⟩
           have HB6 := Lib.hid (bel_bl HB5.out hb)
           have HRb6 := Lib.hid (HRb5.out.bl hb)
           have HY6 := Lib.hid (HY5.out.bl hb)
           clear hb d0 d1))
      have d1 := HY6.out.cell (i := 0) rfl
      go_wp2_with (first
        | (go_at_call 10
           refine (HPb.out _ _ _ HRb6.out).mono ?_
           rintro e w7 ⟨A7, c7, rfl, -, hb⟩
           have HB7 := Lib.hid (bel_bl HB6.out hb)
           clear hb d1))
      go_ret
      exact ⟨rfl, HB7.out⟩
    case pos =>
      have hpb : pE [] Eb = edB Eb := by unfold pE; rw [if_pos hmb, List.nil_append]
      rw [hpb, hmb] at HPb
      have hPl := edB_len hma
      have hP1 := edB_pos Ea
      have hbk := back_tk hma M9
      have hwm := whE_no (back_more hma 0)
      have hwl := whE_no (back_less hma (t := (edB Ea).length - 1) (by omega))
      have hinj := edB_inj hma hmb
      have hlt := edB_lt Ea
      have hltb := edB_lt Eb
      obtain ⟨P, gP⟩ : ∃ z, edB Ea = z := ⟨_, rfl⟩
      obtain ⟨Q, gQ⟩ : ∃ z, edB Eb = z := ⟨_, rfl⟩
      rw [gP] at HPa hPl hP1 hbk hwm hwl hinj hlt
      rw [gQ] at HPb hinj hltb
      have hte := txt_eq hlt hltb
      rw [hinj] at hte
      obtain ⟨sm, gsm⟩ : ∃ z, decide (Ea = Eb) = z := ⟨_, rfl⟩
      rw [gsm] at hte
      have Gsm := Lib.hid gsm
      have Hte := Lib.hid hte
      have Hbk := Lib.hid hbk
      have Hwm := Lib.hid hwm
      have Hwl := Lib.hid hwl
      have Hlt := Lib.hid hlt
      obtain ⟨np, gnp⟩ : ∃ z, P.length = z := ⟨_, rfl⟩
      obtain ⟨nq, gnq⟩ : ∃ z, Q.length = z := ⟨_, rfl⟩
      rw [gnp] at HPa hPl hP1 Hwl
      rw [gnq] at HPb
      have Gnp := Lib.hid gnp
      clear hpa hpb hma hmb hbk hwm hwl hinj hlt hltb hte gP gQ gsm gnp gnq
      go_upto_region 7 with (first
        | (go_at_call 10
           refine (HPa.out _ _ _ HRa5.out).mono ?_
           rintro e w6 ⟨A6, c6, rfl, ho, hb⟩
           have HB6 := Lib.hid (bel_bl HB5.out hb)
           have HRa6 := Lib.hid (HRa5.out.bl hb)
           have HRb6 := Lib.hid (HRb5.out.bl hb)
           have HR6 := Lib.hid (HR9.out.bl hb)
           have HX6 := Lib.hid (HX5.out.bl hb)
           have HY6 := Lib.hid (HY5.out.bl hb)
           have HP6 := Lib.hid (own_rds ho)
           clear hb ho d0 d1))
      have d1 := HY6.out.cell (i := 0) rfl
      go_upto_region 10 with (first
        | (go_at_call 10
           refine (HPb.out _ _ _ HRb6.out).mono ?_
           rintro e w7 ⟨A7, c7, rfl, ho, hb⟩
           have HB7 := Lib.hid (bel_bl HB6.out hb)
           have HRa7 := Lib.hid (HRa6.out.bl hb)
           have HRb7 := Lib.hid (HRb6.out.bl hb)
           have HR7 := Lib.hid (HR6.out.bl hb)
           have HX7 := Lib.hid (HX6.out.bl hb)
           have HY7 := Lib.hid (HY6.out.bl hb)
           have HP7 := Lib.hid (HP6.out.bl hb)
           have HQ7 := Lib.hid (own_rds ho)
           clear hb ho d1))
      have hO0 : Ow w7 w7.heap.size 5 1 (.slice (some ⟨w7.heap.size, 0, none⟩) 0 0) 0 (rowsV f8 []) (w7.alloc (.cells #[] 5)) := Ow.new_ (cs := #[]) (Below.refl _ _) (Nat.le_refl _) (Nat.le_refl _) (Nat.zero_le _) rfl
      obtain ⟨A8, c8, w8, hrun8, ho8, -⟩ := app8 22 hO0 (HP7.out.al (.cells #[] 5)) (by omega)
      rw [Nat.zero_add, List.nil_append] at ho8
      rw [Nat.zero_add] at hrun8
      obtain ⟨A9, c9, w9, hrun9, ho9, -⟩ := app8 22 ho8 (HR7.out.bl ho8.below) (by omega)
      have HTk := Lib.hid (otake_any A9 c9 (P ++ M9) w9 (by rw [List.length_append, Gnp.out, HM9.out]; exact own_rds ho9.own) (by rw [List.length_append, Gnp.out, HM9.out]; omega) (fun b hb => by
        rcases List.mem_append.1 hb with hb | hb
        · exact Hlt.out b hb
        · exact HMb9.out b hb))
      have HTk2 : RowKit.Hid (Calls Try.prog 13 #[.slice A9 (np + n9) c9] w9 fun e w' => ∃ A1 k1 A2 k2, e = .returned (.tuple #[.agg #[.slice A1 ma k1], .slice A2 n9 k2, .int .i64 0]) ∧ RdS w' w'.heap.size 20 A1 ma k1 (rowsV opCells Ea) ∧ RdS w' w'.heap.size 1 A2 n9 k2 (rowsV f8 M9) ∧ Below w9.heap.size w9 w') := Lib.hid (by
        have h9 := HTk.out
        rw [List.length_append, Gnp.out, HM9.out] at h9
        refine h9.mono ?_
        rintro e w' ⟨A1, k1, A2, k2, m, rfl, h2, h3, h4, h5⟩
        rw [Hbk.out.1, Gma.out] at h3
        rw [Hbk.out.2.1] at h2 h4
        obtain rfl : m = n9 := h2.trans HM9.out
        exact ⟨A1, k1, A2, k2, by rw [Hbk.out.1, Gma.out, Hbk.out.2.2], own_rds h3, own_rds h4, h5⟩)
      have HB9 := Lib.hid (bel_bl HB7.out ho9.below)
      have HRa9 := Lib.hid (HRa7.out.bl ho9.below)
      have HRb9 := Lib.hid (HRb7.out.bl ho9.below)
      have HR99 := Lib.hid (HR7.out.bl ho9.below)
      have HX9 := Lib.hid (HX7.out.bl ho9.below)
      have HY9 := Lib.hid (HY7.out.bl ho9.below)
      have HP9 := Lib.hid (HP7.out.bl ho9.below)
      have HQ9 := Lib.hid (HQ7.out.bl ho9.below)
      clear hO0 ho8 ho9 HTk HPa HPb HRa5 HRb5 HR9 HX5 HY5 HB5 HRa6 HRb6 HR6 HX6 HY6 HP6 HB6
      go_upto_region 11 with (first
        | (at_builtin
           refine wl_run (some 60) rfl (by rfl) (exec_append (by rfl) (by rfl) (by rfl) hrun8) ?_
           clear hrun8)
        | (at_builtin
           refine wl_run (some 62) rfl (by rfl) (exec_append (by rfl) (by rfl) (by rfl) hrun9) ?_
           clear hrun9)
        | (go_at_call 13
           refine HTk2.out.mono ?_
           rintro e w10 ⟨A10, c10, A11, c11, rfl, hr10, hr11, hb⟩
           have HB10 := Lib.hid (bel_al (bel_bl HB9.out hb) (.cells #[.slice A10 ma c10] 25))
           have HRa10 := Lib.hid ((HRa9.out.bl hb).al (.cells #[.slice A10 ma c10] 25))
           have HRb10 := Lib.hid ((HRb9.out.bl hb).al (.cells #[.slice A10 ma c10] 25))
           have HR10 := Lib.hid ((HR99.out.bl hb).al (.cells #[.slice A10 ma c10] 25))
           have HX10 := Lib.hid ((HX9.out.bl hb).al (.cells #[.slice A10 ma c10] 25))
           have HY10 := Lib.hid ((HY9.out.bl hb).al (.cells #[.slice A10 ma c10] 25))
           have HP10 := Lib.hid ((HP9.out.bl hb).al (.cells #[.slice A10 ma c10] 25))
           have HQ10 := Lib.hid ((HQ9.out.bl hb).al (.cells #[.slice A10 ma c10] 25))
           have HRc10 := Lib.hid (hr10.al (.cells #[.slice A10 ma c10] 25))
           have HRm10 := Lib.hid (hr11.al (.cells #[.slice A10 ma c10] 25))
           have HZ10 : RowKit.Hid (Whole (w10.alloc (.cells #[.slice A10 ma c10] 25)) w10.heap.size 25 [.slice A10 ma c10]) := Lib.hid (Whole.new_ _ _ [_])
           clear hr10 hr11 hb HB9 HRa9 HRb9 HR99 HX9 HY9 HP9 HQ9))
      obtain ⟨w11, gw11⟩ : ∃ z, w10.alloc (.cells #[.slice A10 ma c10] 25) = z := ⟨_, rfl⟩
      obtain ⟨b12, gb12⟩ : ∃ z, w10.heap.size = z := ⟨_, rfl⟩
      rw [gw11] at HB10 HRa10 HRb10 HR10 HX10 HY10 HP10 HQ10 HRc10 HRm10 HZ10 ⊢
      rw [gb12] at HZ10 ⊢
      clear gw11 gb12 HTk2 HB7 HRa7 HRb7 HR7 HX7 HY7 HP7 HQ7
      have d0 := HX10.out.cell (i := 0) rfl
      have d2 := HZ10.out.cell (i := 0) rfl
      have HSa := Lib.hid (rsame_any A10 A2 ma ma c10 c2 Ea Ea w11 HRc10.out HRa10.out (by unfold maxLen; omega))
      have hee : decide (Ea = Ea) = true := decide_eq_true rfl
      rw [hee] at HSa
      clear hee
      go_upto_region 12 with (first
        | (go_at_call 17
           refine HSa.out.mono ?_
           rintro e w12 ⟨rfl, hb⟩
           have HB12 := Lib.hid (bel_bl HB10.out hb)
           have HRa12 := Lib.hid (HRa10.out.bl hb)
           have HRb12 := Lib.hid (HRb10.out.bl hb)
           have HR12 := Lib.hid (HR10.out.bl hb)
           have HX12 := Lib.hid (HX10.out.bl hb)
           have HY12 := Lib.hid (HY10.out.bl hb)
           have HP12 := Lib.hid (HP10.out.bl hb)
           have HQ12 := Lib.hid (HQ10.out.bl hb)
           have HRm12 := Lib.hid (HRm10.out.bl hb)
           clear hb d0 d2))
      clear HSa HB10 HRa10 HRb10 HR10 HX10 HY10 HP10 HQ10 HRc10 HRm10 HZ10
      have d0 := HX12.out.cell (i := 0) rfl
      have d1 := HY12.out.cell (i := 0) rfl
      have HSb := Lib.hid (rsame_any A2 A4 ma mb c2 c4 Ea Eb w12 HRa12.out HRb12.out (by unfold maxLen; omega))
      rw [Gsm.out] at HSb
      have hsb : IntKind.i64.wrap ((np : Int) - 1) = ((np - 1 : Nat) : Int) := by rw [IntWalk.i64_in _ (by omega)]; omega
      obtain ⟨np1, gnp1⟩ : ∃ z, np - 1 = z := ⟨_, rfl⟩
      rw [gnp1] at hsb Hwl
      have Gnp1 := Lib.hid gnp1
      have hz0 : ((np : Int) == 0) = false := beq_eq_false_iff_ne.2 (by omega)
      have hz1 : (np == 0) = false := beq_eq_false_iff_ne.2 (by omega)
      clear gnp1
      go_upto_region 15 with (first
        | (go_at_call 17
           refine HSb.out.mono ?_
           rintro e w13 ⟨rfl, hb⟩
           have HB13 := Lib.hid (bel_bl HB12.out hb)
           have HR13 := Lib.hid (HR12.out.bl hb)
           have HP13 := Lib.hid (HP12.out.bl hb)
           have HQ13 := Lib.hid (HQ12.out.bl hb)
           have HRm13 := Lib.hid (HRm12.out.bl hb)
           clear hb d0 d1))
      clear HSb HB12 HRa12 HRb12 HR12 HX12 HY12 HP12 HQ12 HRm12 hz0 hz1
      have hk1 : np1 ≤ np := by have := Gnp1.out; omega
      have hkc : np1 ≤ c6 := Nat.le_trans hk1 HP13.out.le
      have htl : (P.take np1).length = np1 := by rw [List.length_take, Gnp.out]; omega
      have hQ := HP13.out.fewer8 np1
      rw [htl] at hQ
      have HW1 := owhole_any A6 c6 (P.take np1) w13 (by rw [htl]; exact hQ) (by rw [htl]; omega) (fun b hb => Hlt.out b (List.mem_of_mem_take hb))
      rw [Hwl.out, htl] at HW1
      have HW1h := Lib.hid HW1
      clear HW1 htl hQ
      go_upto_region 16 with (first
        | (go_at_call 15
           refine HW1h.out.mono ?_
           rintro e w14 ⟨A14, c14, rfl, -, hb⟩
           have HB14 := Lib.hid (bel_al (bel_bl HB13.out hb) (.cells #[.slice A14 (whV (P.take np1)).length c14] 25))
           have HR14 := Lib.hid ((HR13.out.bl hb).al (.cells #[.slice A14 (whV (P.take np1)).length c14] 25))
           have HP14 := Lib.hid ((HP13.out.bl hb).al (.cells #[.slice A14 (whV (P.take np1)).length c14] 25))
           have HQ14 := Lib.hid ((HQ13.out.bl hb).al (.cells #[.slice A14 (whV (P.take np1)).length c14] 25))
           have HRm14 := Lib.hid ((HRm13.out.bl hb).al (.cells #[.slice A14 (whV (P.take np1)).length c14] 25))
           clear hb))
      clear hsb hkc HW1h HB13 HR13 HP13 HQ13 HRm13
      obtain ⟨w15, gw15⟩ : ∃ z, w14.alloc (.cells #[.slice A14 (whV (P.take np1)).length c14] 25) = z := ⟨_, rfl⟩
      rw [gw15] at HB14 HR14 HP14 HQ14 HRm14 ⊢
      obtain ⟨b17, gb17⟩ : ∃ z, w14.heap.size = z := ⟨_, rfl⟩
      rw [gb17]
      clear gw15 gb17
      have hO0 : Ow w15 w15.heap.size 5 1 (.slice (some ⟨w15.heap.size, 0, none⟩) 0 0) 0 (rowsV f8 []) (w15.alloc (.cells #[] 5)) := Ow.new_ (cs := #[]) (Below.refl _ _) (Nat.le_refl _) (Nat.le_refl _) (Nat.zero_le _) rfl
      obtain ⟨A16, c16, w16, hrun16, ho16, -⟩ := app8 22 hO0 (HP14.out.al (.cells #[] 5)) (by omega)
      rw [Nat.zero_add, List.nil_append] at ho16
      rw [Nat.zero_add] at hrun16
      obtain ⟨A17, c17, w17, hrun17, ho17, -⟩ := app8 22 (ho16.up (below1 w16 (.cells #[.int .u8 ((0 : Nat) : Int)] 5))) (one8 w16 0) (by omega)
      have HW2 := owhole_any A17 c17 (P ++ [0]) w17 (by rw [List.length_append, Gnp.out]; exact own_rds ho17.own) (by rw [List.length_append, Gnp.out]; simp; omega) (fun b hb => by
        rcases List.mem_append.1 hb with hb | hb
        · exact Hlt.out b hb
        · rw [List.mem_singleton.1 hb]; omega)
      rw [Hwm.out, List.length_append, Gnp.out] at HW2
      have HW2h : RowKit.Hid (Calls Try.prog 15 #[.slice A17 (np + 1) c17] w17 fun e w' => ∃ A1 k1, e = .returned (.tuple #[.agg #[.slice A1 (whV (P ++ [0])).length k1], .int .i64 2]) ∧ _ ∧ Below w17.heap.size w17 w') := Lib.hid HW2
      have HB17 := Lib.hid (bel_bl HB14.out ho17.below)
      have HR17 := Lib.hid (HR14.out.bl ho17.below)
      have HP17 := Lib.hid (HP14.out.bl ho17.below)
      have HQ17 := Lib.hid (HQ14.out.bl ho17.below)
      have HRm17 := Lib.hid (HRm14.out.bl ho17.below)
      clear hO0 ho16 ho17 HW2
      go_upto_region 17 with (first
        | (at_builtin
           refine wl_run (some 88) rfl (by rfl) (exec_append (by rfl) (by rfl) (by rfl) hrun16) ?_
           clear hrun16)
        | (at_builtin
           refine wl_run (some 90) rfl (by rfl) (exec_append (by rfl) (by rfl) (by rfl) hrun17) ?_
           clear hrun17)
        | (go_at_call 15
           refine HW2h.out.mono ?_
           rintro e w18 ⟨A18, c18, rfl, -, hb⟩
           have HB18 := Lib.hid (bel_al (bel_bl HB17.out hb) (.cells #[.slice A18 (whV (P ++ [0])).length c18] 25))
           have HR18 := Lib.hid ((HR17.out.bl hb).al (.cells #[.slice A18 (whV (P ++ [0])).length c18] 25))
           have HP18 := Lib.hid ((HP17.out.bl hb).al (.cells #[.slice A18 (whV (P ++ [0])).length c18] 25))
           have HQ18 := Lib.hid ((HQ17.out.bl hb).al (.cells #[.slice A18 (whV (P ++ [0])).length c18] 25))
           have HRm18 := Lib.hid ((HRm17.out.bl hb).al (.cells #[.slice A18 (whV (P ++ [0])).length c18] 25))
           clear hb))
      obtain ⟨w19, gw19⟩ : ∃ z, w18.alloc (.cells #[.slice A18 (whV (P ++ [0])).length c18] 25) = z := ⟨_, rfl⟩
      rw [gw19] at HB18 HR18 HP18 HQ18 HRm18 ⊢
      have hc1 := conv_txt HR18.out
      have hc2 := conv_txt HRm18.out
      have hc3 := conv_txt HP18.out
      have hc4 := conv_txt HQ18.out
      have hte := Hte.out
      clear gw19 HR17 HP17 HQ17 HRm17 HB17 HR14 HP14 HQ14 HRm14 HB14 HW2h
      go_wp2
      go_ret
      exact ⟨by simp, HB18.out⟩

end Go.Proofs.Ytoiflngpjdghbaa

/- Out of XOp13, XOpTy -/
namespace Go.Proofs.Ytoiflngpjdghbaa
open Go.RowKit
set_option linter.unusedSimpArgs false
set_option linter.unusedVariables false

def idCells (p : Int × Int) : List Value := [.int .i64 p.1, .int .i64 p.2]
theorem idCells_len (p : Int × Int) : (idCells p).length = 2 := rfl
theorem row1_id (H : Type) : Row1 H Try.prog 42 idCells (fun _ _ => True) :=
  (row1_struct Try.underlying42 (by kernel_rfl) (fields_cons (k := 1) (row1_int Try.underlying3) rfl (by kernel_rfl) (fields_cons (k := 1) (row1_int Try.underlying3) rfl (by kernel_rfl) (fields_nil _)))).map
    (fun a => (a.1, a.2.1)) (fun _ => rfl) (fun _ _ _ => trivial)
def dCells (d : Int × Int × Int) : List Value := [.int .i64 d.1, .int .i64 d.2.1, .int .i64 d.2.2]
theorem row1_dart (H : Type) : Row1 H Try.prog 44 dCells (fun _ _ => True) :=
  (row1_struct Try.underlying44 (by kernel_rfl) (fields_cons (k := 2) (row1_id H) rfl (by kernel_rfl) (fields_cons (k := 1) (row1_int Try.underlying3) rfl (by kernel_rfl) (fields_nil _)))).map
    (fun a => (a.1.1, a.1.2, a.2.1)) (fun _ => rfl) (fun _ _ _ => trivial)
def cnCells (d : Int × Int × Int × Int × Int) : List Value := [.int .i64 d.1, .int .i64 d.2.1, .int .i64 d.2.2.1, .int .i64 d.2.2.2.1, .int .i64 d.2.2.2.2]
theorem row1_corner (H : Type) : Row1 H Try.prog 46 cnCells (fun _ _ => True) :=
  (row1_struct Try.underlying46 (by kernel_rfl) (fields_cons (k := 2) (row1_id H) rfl (by kernel_rfl) (fields_cons (k := 3) (row1_dart H) rfl (by kernel_rfl) (fields_nil _)))).map
    (fun a => (a.1.1, a.1.2, a.2.1.1, a.2.1.2.1, a.2.1.2.2)) (fun _ => rfl) (fun _ _ _ => trivial)
theorem row1_op (H : Type) : Row1 H Try.prog 48 opCells (fun _ o => o.t.size ≤ maxLen) :=
  (row1_struct Try.underlying48 (by kernel_rfl) (fields_cons (k := 1) (row1_int Try.underlying3) rfl (by kernel_rfl) (fields_cons (k := 2) (row1_id H) rfl (by kernel_rfl) (fields_cons (k := 2) (row1_id H) rfl (by kernel_rfl) (fields_cons (k := 2) (row1_id H) rfl (by kernel_rfl)
    (fields_cons (k := 5) (row1_corner H) rfl (by kernel_rfl) (fields_cons (k := 5) (row1_corner H) rfl (by kernel_rfl) (fields_cons (k := 1) (row1_bool Try.underlying4) rfl (by kernel_rfl) (fields_cons (k := 1) (row1_string Try.underlying9) rfl (by kernel_rfl)
    (fields_cons (k := 1) (row1_int Try.underlying3) rfl (by kernel_rfl) (fields_nil _))))))))))).map
    (fun a => ⟨a.1, a.2.1.1, a.2.1.2, a.2.2.1.1, a.2.2.1.2, a.2.2.2.1.1, a.2.2.2.1.2, a.2.2.2.2.1.1, a.2.2.2.2.1.2.1, a.2.2.2.2.1.2.2.1, a.2.2.2.2.1.2.2.2.1, a.2.2.2.2.1.2.2.2.2,
      a.2.2.2.2.2.1.1, a.2.2.2.2.2.1.2.1, a.2.2.2.2.2.1.2.2.1, a.2.2.2.2.2.1.2.2.2.1, a.2.2.2.2.2.1.2.2.2.2, a.2.2.2.2.2.2.1, a.2.2.2.2.2.2.2.1, a.2.2.2.2.2.2.2.2.1⟩) (fun _ => rfl) (fun _ _ h => h.2.2.2.2.2.2.2.1)
theorem row1_edit (H : Type) : Row1 H Try.prog 25 (slCells (α := OpT)) (SlOk 20 opCells (fun _ o => o.t.size ≤ maxLen)) :=
  (row1_struct Try.underlying25 (by kernel_rfl) (fields_cons (k := 1) (row1_slice (row1_op H) Try.underlying23 (by kernel_rfl) opCells_len' (by decide)) rfl (by kernel_rfl) (fields_nil _))).map
    (fun a => a.1) (fun _ => by simp) (fun _ _ h => h.1)
end Go.Proofs.Ytoiflngpjdghbaa

/- The laws' types of layer 8: bytes. -/
namespace Go.Proofs.Ytoiflngpjdghbaa
open Go.ChangeShapes Go.WideShapes Go.ChangeAt Go.RowKit

theorem row1_byte (H : Type) : Row1 H Try.prog 5 f8 (fun _ b => b < 256) := by
  intro enc w held fuel cs x h
  obtain ⟨n, rfl, _, hw⟩ := DataW.trod_int Try.underlying5 h
  have hb := bounds_u8 hw
  refine ⟨n.toNat, ?_, by omega⟩
  have e : ((n.toNat : Nat) : Int) = n := by omega
  simp [f8, e]
theorem in64_of {x : Int} (h : (Lit.int .i64 x).wf = true) : In64 x := by
  have := bounds_i64 h
  unfold In64
  omega
end Go.Proofs.Ytoiflngpjdghbaa

/- The document's corner and flag. -/
namespace Go.Proofs.Ytoiflngpjdghbaa
open Go.RowKit
set_option linter.unusedSimpArgs false
set_option linter.unusedVariables false

theorem rflag10_any (b : Bool) : Pure 26 #[.bool b] (.int .u8 (fl b : Int)) := fun w => by
  cases b with
  | true =>
    go_enter Try.func26, Try.ntmps26
    go_wp2
    go_ret
    exact ⟨rfl, Below.refl _ _⟩
  | false =>
    go_enter Try.func26, Try.ntmps26
    go_wp2
    go_ret
    exact ⟨rfl, Below.refl _ _⟩
/-- The document's Put of a name, in parts. -/
theorem ridput_4 (A : Option Addr) (n c : Nat) (L : List Nat) (x1 x2 : Int) (w : World) (hl : L.length = n) (h : RdS w w.heap.size 1 A n c (rowsV f8 L)) (hn : n ≤ 900000) (hm : mayI x1 x2 = true) :
    Calls Try.prog 23 #[.slice A n c, .agg #[.int .i64 x1, .int .i64 x2]] w fun e w' => ∃ A c, e = .returned (.slice A (n + 4) c) ∧ RdS w' w'.heap.size 1 A (n + 4) c (rowsV f8 (L ++ idB (x1, x2))) ∧ (∀ a, A = some a → 0 < n + 4 → w.heap.size ≤ a.block) ∧ w'.ownsRow w.heap.size 5 1 (.slice A (n + 4) c) (n + 4) (rowsV f8 (L ++ idB (x1, x2))) ∧ Below w.heap.size w w' := by
  subst hl
  have := ridput_any A c L x1 x2 w h hn hm
  refine g8_parts (by rw [List.length_append]; rfl) this
set_option maxRecDepth 100000 in
set_option maxHeartbeats 4000000 in
theorem rcorner10_any (A : Option Addr) (c : Nat) (L : List Nat) (a0 a1 a2 a3 a4 : Int) (w : World) (h : RdS w w.heap.size 1 A L.length c (rowsV f8 L)) (hn : L.length ≤ 800000) (hm : mayC a0 a1 a2 a3 a4 = true) :
    Calls Try.prog 24 #[.slice A L.length c, .agg #[.int .i64 a0, .int .i64 a1, .int .i64 a2, .int .i64 a3, .int .i64 a4]] w (Gives8 w (L ++ crB (a0, a1, a2, a3, a4))) := by
  obtain ⟨i0, hi, hz0, hz1, hz2⟩ := info_parts_ info_u8
  obtain ⟨hm1, hm2⟩ := Bool.and_eq_true_iff.1 hm
  have HQ := Lib.hid (eq_dartz a2 a3 a4)
  have HR := Lib.hid (h.al (.cells #[.int .i64 a0, .int .i64 a1, .int .i64 a2, .int .i64 a3, .int .i64 a4] 46))
  have HX : RowKit.Hid (Whole (w.alloc (.cells #[.int .i64 a0, .int .i64 a1, .int .i64 a2, .int .i64 a3, .int .i64 a4] 46)) w.heap.size 46 [.int .i64 a0, .int .i64 a1, .int .i64 a2, .int .i64 a3, .int .i64 a4]) := Lib.hid (Whole.new_ _ _ [_, _, _, _, _])
  have HB1 : RowKit.Hid (Below w.heap.size w (w.alloc (.cells #[.int .i64 a0, .int .i64 a1, .int .i64 a2, .int .i64 a3, .int .i64 a4] 46))) := Lib.hid (below1 _ _)
  obtain ⟨n, gn⟩ : ∃ z, L.length = z := ⟨_, rfl⟩
  rw [gn] at HR hn ⊢
  have Gn := Lib.hid gn
  have HN0 := Lib.hid (fun W hr => ridput_4 A n c L a0 a1 W gn hr (by omega) hm1)
  clear h gn hm
  go_enter Try.func24, Try.ntmps24
  go_upto_region 1 with fail
  obtain ⟨w1, gw1⟩ : ∃ z, w.alloc (.cells #[.int .i64 a0, .int .i64 a1, .int .i64 a2, .int .i64 a3, .int .i64 a4] 46) = z := ⟨_, rfl⟩
  rw [gw1] at HX HB1 HR ⊢
  obtain ⟨g0, gg0⟩ : ∃ z, w.heap.size = z := ⟨_, rfl⟩
  rw [gg0] at HX ⊢
  clear gw1 gg0
  have c0 := HX.out.cell (i := 0) rfl
  have c1 := HX.out.cell (i := 1) rfl
  go_upto_region 2 with (first
    | (go_at_call 23
       refine (HN0.out _ HR.out).mono ?_
       rintro e w2 ⟨A2, c2, rfl, -, -, h4, h5⟩
       have HO2 : RowKit.Hid (Ow w1 w1.heap.size 5 1 (.slice A2 (n + 4) c2) (n + 4) (rowsV f8 (L ++ idB (a0, a1))) w2) := Lib.hid ⟨h4, h5, Nat.le_refl _, h5.size⟩
       have HX2 := Lib.hid (HX.out.bl h5)
       clear h4 h5 c0 c1))
  have d2 := HX2.out.cell (i := 2) rfl
  have d3 := HX2.out.cell (i := 3) rfl
  have d4 := HX2.out.cell (i := 4) rfl
  have hq := HQ.out
  by_cases hz : a2 = 0 ∧ a3 = 0 ∧ a4 = 0
  · have HL : RowKit.Hid (crB (a0, a1, a2, a3, a4) = idB (a0, a1) ++ [0]) := Lib.hid (by unfold crB; rw [if_pos hz])
    rw [decide_eq_true hz] at hq
    have HQ2 := Lib.hid hq
    clear hz HX hq hm2
    have hq := HQ2.out
    go_wp2_with (first
      | (at_builtin
         refine wpList_push2 rfl (.tmp 14) (.tmp 15) _ rfl _ 5 i0 _ 1 1 Try.underlying22 hi hz0 hz1 hz2 rfl (by decide) _ _ _ rfl (by exact Ow.up HO2.out (below1 _ _)) _ (some ⟨w2.heap.size, 0, none⟩) 1 1 [.int .u8 0] rfl (by exact RdS.new_ rfl (Nat.lt_succ_self _) rfl rfl) (by simp [Value.oneCell']) (by unfold maxLen; omega) (by omega) ?_
         intro v1 w3 how1 hb1 hgr1
         have HO3 := Lib.hid how1
         clear how1 hb1 hgr1 d2 d3 d4))
    have ho := HO3.out
    rw [show rowsV f8 (L ++ idB (a0, a1)) ++ [.int .u8 0] = rowsV f8 (L ++ (idB (a0, a1) ++ [0])) from by rw [← List.append_assoc, rowsV_app f8 (L ++ _)]; rfl] at ho
    obtain ⟨A9, c9, rfl, hG⟩ := gives8_ow (L := L ++ (idB (a0, a1) ++ [0])) (by rw [List.length_append, Gn.out]; rfl) ho
    rw [← HL.out] at hG
    have HG := Lib.hid (Gives8.from_ hG HB1.out)
    clear ho hG
    go_ret
    exact HG.out
  · have HL : RowKit.Hid (crB (a0, a1, a2, a3, a4) = idB (a0, a1) ++ (((1 + a4) % 256).toNat :: idB (a2, a3))) := Lib.hid (by unfold crB; rw [if_neg hz])
    rw [decide_eq_false hz] at hq
    have HQ2 := Lib.hid hq
    have hmd : mayI a2 a3 = true := by
      rcases Bool.or_eq_true_iff.1 hm2 with q | q
      · exact absurd (of_decide_eq_true q) hz
      · exact (Bool.and_eq_true_iff.1 q).1
    have Hmd := Lib.hid hmd
    clear hz hq hm2 hmd
    have hq := HQ2.out
    go_upto_region 4 with fail
    clear hq d2 d3 d4
    obtain ⟨q, gq⟩ : ∃ q, ((1 + a4) % 256).toNat = q := ⟨_, rfl⟩
    rw [gq] at HL
    obtain ⟨z, gz⟩ : ∃ z, IntKind.i64.wrap (a4 + 1) = z := ⟨_, rfl⟩
    have hu : IntKind.u8.wrap z = (q : Int) := by rw [← gz, IntKind.wrap_u8, IntKind.wrap_i64, ← gq]; omega
    clear gq
    have HD : RowKit.Hid (Ext w2 w2.drew) := Lib.hid (below_drewN w2.heap.size w2 1)
    have Hne : RowKit.Hid (some g0 ≠ (Value.slice A2 (n + 4) c2).ownBlock) := Lib.hid (own_ne HO2.out.own HX2.out (by decide))
    have lC2 : ∀ w', Kept (fun i => some i = (Value.slice A2 (n + 4) c2).ownBlock) w2.drew w' → w'.cell? ⟨g0, 2, none⟩ = some (.int .i64 a2) := fun w' h => h.cell (HX2.out.dr.cell (i := 2) rfl) Hne.out
    have lC3 : ∀ w', Kept (fun i => some i = (Value.slice A2 (n + 4) c2).ownBlock) w2.drew w' → w'.cell? ⟨g0, 3, none⟩ = some (.int .i64 a3) := fun w' h => h.cell (HX2.out.dr.cell (i := 3) rfl) Hne.out
    have lC4 : ∀ w', Kept (fun i => some i = (Value.slice A2 (n + 4) c2).ownBlock) w2.drew w' → w'.cell? ⟨g0, 4, none⟩ = some (.int .i64 a4) := fun w' h => h.cell (HX2.out.dr.cell (i := 4) rfl) Hne.out
    refine wp_region_reg (fun i => some i = (Value.slice A2 (n + 4) c2).ownBlock) (by kernel_rfl) ?_
    apply wpR_next 0 (some 17)
    · simp only [List.getElem?_toArray, List.getElem?_cons_succ, List.getElem?_cons_zero]; exact rfl
    · rfl
    · kernel_rfl
    · kernel_rfl
    · kernel_rfl
    · exact fun _ _ _ _ h => h
    apply Exists.intro
    apply And.intro
    · apply yr_run; rfl; intro w' hw'; go_simp; (try with_reducible rfl)
    simp only [Act.put, List.setIfInBounds_toArray, List.set_cons_zero, List.set_cons_succ]
    apply wpR_next 1 (some 18)
    · simp only [List.getElem?_toArray, List.getElem?_cons_succ, List.getElem?_cons_zero]; exact rfl
    · rfl
    · kernel_rfl
    · kernel_rfl
    · kernel_rfl
    · exact fun _ _ _ _ h => h
    apply Exists.intro
    apply And.intro
    · apply yr_run; rfl; intro w' hw'; go_simp; (try with_reducible rfl)
    simp only [Act.put, List.setIfInBounds_toArray, List.set_cons_zero, List.set_cons_succ]
    apply wpR_next 2 (some 19)
    · simp only [List.getElem?_toArray, List.getElem?_cons_succ, List.getElem?_cons_zero]; exact rfl
    · rfl
    · kernel_rfl
    · kernel_rfl
    · kernel_rfl
    · exact fun _ _ _ _ h => h
    apply Exists.intro
    apply And.intro
    · apply yr_run; rfl; intro w' hw'; go_simp; (try with_reducible rfl)
    simp only [Act.put, List.setIfInBounds_toArray, List.set_cons_zero, List.set_cons_succ]
    apply wpR_next 3 (some 20)
    · simp only [List.getElem?_toArray, List.getElem?_cons_succ, List.getElem?_cons_zero]; exact rfl
    · rfl
    · kernel_rfl
    · kernel_rfl
    · kernel_rfl
    · exact fun _ _ _ _ h => h
    apply Exists.intro
    apply And.intro
    · apply yr_run; rfl; intro w' hw'; go_simp; (try with_reducible rfl)
    simp only [Act.put, List.setIfInBounds_toArray, List.set_cons_zero, List.set_cons_succ]
    apply wpR_next 4 (some 21)
    · simp only [List.getElem?_toArray, List.getElem?_cons_succ, List.getElem?_cons_zero]; exact rfl
    · rfl
    · kernel_rfl
    · kernel_rfl
    · kernel_rfl
    · exact fun _ _ _ _ h => h
    apply Exists.intro
    apply And.intro
    · apply yr_run; rfl; intro w' hw'; go_simp; (try with_reducible rfl)
    simp only [Act.put, List.setIfInBounds_toArray, List.set_cons_zero, List.set_cons_succ]
    apply wpR_next 5 (some 22)
    · simp only [List.getElem?_toArray, List.getElem?_cons_succ, List.getElem?_cons_zero]; exact rfl
    · rfl
    · kernel_rfl
    · kernel_rfl
    · kernel_rfl
    · exact fun _ _ _ _ h => h
    apply Exists.intro
    apply And.intro
    · apply yr_run; rfl; intro w' hw'; go_simp; (try with_reducible rfl)
    simp only [Act.put, List.setIfInBounds_toArray, List.set_cons_zero, List.set_cons_succ]
    apply wpR_next 8 (some 25)
    · simp only [List.getElem?_toArray, List.getElem?_cons_succ, List.getElem?_cons_zero]; exact rfl
    · rfl
    · kernel_rfl
    · kernel_rfl
    · kernel_rfl
    · exact fun _ _ _ _ h => h
    apply Exists.intro
    apply And.intro
    · apply yr_run; rfl; intro w' hw'; go_simp; (try with_reducible rfl)
    simp only [Act.put, List.setIfInBounds_toArray, List.set_cons_zero, List.set_cons_succ]
    apply wpR_next 9 (some 26)
    · simp only [List.getElem?_toArray, List.getElem?_cons_succ, List.getElem?_cons_zero]; exact rfl
    · rfl
    · kernel_rfl
    · kernel_rfl
    · kernel_rfl
    · exact fun _ _ _ _ h => h
    apply Exists.intro
    apply And.intro
    · apply yr_run; rfl; intro w' hw'; go_simp; (try with_reducible rfl)
    simp only [Act.put, List.setIfInBounds_toArray, List.set_cons_zero, List.set_cons_succ]
    apply wpR_next 10 (some 27)
    · simp only [List.getElem?_toArray, List.getElem?_cons_succ, List.getElem?_cons_zero]; exact rfl
    · rfl
    · kernel_rfl
    · kernel_rfl
    · kernel_rfl
    · exact fun _ _ _ _ h => h
    apply Exists.intro
    apply And.intro
    · apply yr_run; rfl; intro w' hw'; go_simp; (try with_reducible rfl)
    simp only [Act.put, List.setIfInBounds_toArray, List.set_cons_zero, List.set_cons_succ]
    apply wpR_run 6 (some 23)
    · simp only [List.getElem?_toArray, List.getElem?_cons_succ, List.getElem?_cons_zero]; exact rfl
    · rfl
    · kernel_rfl
    · rfl
    intro w' hw'
    refine ⟨.slice (some ⟨w'.heap.size, 0, none⟩) 1 1, w'.alloc (.cells #[.int .u8 (q : Int)] 5), exec_buildSlice 22 5 1 #[(0, .tmp 22)] (by rfl) Try.underlying22 _ (by kernel_rfl), Kept.of_below (below1 _ _), ?_⟩
    have hE : Ext w2 (w'.alloc (.cells #[.int .u8 (q : Int)] 5)) := Ext.trans (Ext.trans HD.out hw') (below1 _ _)
    have HO3 := Lib.hid (HO2.out.up hE)
    have HL3 := Lib.hid (one8 w' q)
    have kk : Kept (fun i => some i = (Value.slice A2 (n + 4) c2).ownBlock) w2.drew (w'.alloc (.cells #[.int .u8 (q : Int)] 5)) := (Kept.of_ext hw').trans (Kept.of_below (below1 _ _))
    replace lC2 := fun w'' (h : Kept (fun i => some i = (Value.slice A2 (n + 4) c2).ownBlock) (w'.alloc (.cells #[.int .u8 (q : Int)] 5)) w'') => lC2 w'' (kk.trans h)
    replace lC3 := fun w'' (h : Kept (fun i => some i = (Value.slice A2 (n + 4) c2).ownBlock) (w'.alloc (.cells #[.int .u8 (q : Int)] 5)) w'') => lC3 w'' (kk.trans h)
    obtain ⟨w3, gw3⟩ : ∃ z, w'.alloc (.cells #[.int .u8 (q : Int)] 5) = z := ⟨_, rfl⟩
    obtain ⟨g3, gg3⟩ : ∃ z, w'.heap.size = z := ⟨_, rfl⟩
    rw [gw3] at HO3 HL3 lC2 lC3 ⊢
    rw [gg3] at HL3 ⊢
    clear hw' hE kk gw3 gg3 lC4
    simp only [Act.put, List.setIfInBounds_toArray, List.set_cons_zero, List.set_cons_succ]
    apply wpR_run 7 (some 24)
    · simp only [List.getElem?_toArray, List.getElem?_cons_succ, List.getElem?_cons_zero]; exact rfl
    · rfl
    · kernel_rfl
    · rfl
    intro w' hw'
    obtain ⟨vv, w'', hrun, ho, hb, hg, hbk⟩ := Ow.app2 (P := Try.prog) 22 22 5 i0 _ 1 1 _ Try.underlying22 hi hz0 hz1 hz2 rfl (by decide) _ _ _ (HO3.out.up hw') _ _ _ _ _ (HL3.out.bl hw') (f8_all [q]) (by unfold maxLen; omega) (by omega)
    refine ⟨vv, w'', exec_append (by rfl) (by rfl) (by rfl) hrun, kept_grow hg (fun i e => e), ?_⟩
    rw [← rowsV_app] at ho
    obtain ⟨A4, c4, rfl, hr4⟩ := ho.rds
    have HO4 := Lib.hid ho
    have HR4 := Lib.hid hr4
    have kk : Kept (fun i => some i = (Value.slice A2 (n + 4) c2).ownBlock) w3 w'' := (Kept.of_ext hw').trans (kept_grow hg (fun i e => e))
    replace lC2 := fun w4 (h : Kept (fun i => some i = (Value.slice A2 (n + 4) c2).ownBlock) w'' w4) => lC2 w4 (kk.trans h)
    replace lC3 := fun w4 (h : Kept (fun i => some i = (Value.slice A2 (n + 4) c2).ownBlock) w'' w4) => lC3 w4 (kk.trans h)
    obtain ⟨w4, gw4⟩ : ∃ z, w'' = z := ⟨_, rfl⟩
    rw [gw4] at HO4 HR4 lC2 lC3 ⊢
    clear hw' kk hrun ho hb hg hbk hr4 gw4 HO3 HL3
    simp only [Act.put, List.setIfInBounds_toArray, List.set_cons_zero, List.set_cons_succ]
    apply wpR_call 11 (some 28)
    · simp only [List.getElem?_toArray, List.getElem?_cons_succ, List.getElem?_cons_zero]; exact rfl
    · rfl
    · kernel_rfl
    · rfl
    · intro w'; go_simp; first | done | exact ⟨rfl, rfl⟩ | with_reducible rfl
    intro w' hw'
    refine (ridput_4 A4 (n + 4 + 1) c4 (L ++ idB (a0, a1) ++ [q]) a2 a3 w' (by rw [List.length_append, List.length_append, Gn.out]; rfl) (HR4.out.bl hw') (by omega) Hmd.out).mono ?_
    rintro e w5 ⟨A5, c5, rfl, -, -, h4, h5⟩
    refine ⟨_, rfl, Kept.of_below h5, ?_⟩
    have HO5 : RowKit.Hid (Ow w1 w1.heap.size 5 1 (.slice A5 (n + 4 + 1 + 4) c5) (n + 4 + 1 + 4) (rowsV f8 (L ++ idB (a0, a1) ++ [q] ++ idB (a2, a3))) w5) := Lib.hid ⟨own_lo8 h4 (HO4.out.below.trans (hw'.mono HO4.out.below.size)).size, HO4.out.below.trans ((Ext.trans hw' h5).mono HO4.out.below.size), Nat.le_refl _, ((HO4.out.below.trans ((Ext.trans hw' h5).mono HO4.out.below.size))).size⟩
    clear hw' h4 h5 lC2 lC3 HO4 HR4
    simp only [Act.put, List.setIfInBounds_toArray, List.set_cons_zero, List.set_cons_succ]
    apply wpR_next 12 (some 4)
    · simp only [List.getElem?_toArray, List.getElem?_cons_succ, List.getElem?_cons_zero]; exact rfl
    · rfl
    · kernel_rfl
    · kernel_rfl
    · kernel_rfl
    · exact fun _ _ _ _ h => h
    apply Exists.intro
    apply And.intro
    · apply yr_run; rfl; intro w' hw'; go_simp; (try with_reducible rfl)
    simp only [Act.put, List.setIfInBounds_toArray, List.set_cons_zero, List.set_cons_succ]
    refine wpR_done (by kernel_rfl) ?_ _
    intro wE hwE
    have ho := HO5.out.up hwE
    rw [show L ++ idB (a0, a1) ++ [q] ++ idB (a2, a3) = L ++ (idB (a0, a1) ++ (q :: idB (a2, a3))) from by simp only [List.append_assoc, List.cons_append, List.nil_append], ← HL.out] at ho
    obtain ⟨A9, c9, e9, hG⟩ := gives8_ow (L := L ++ crB (a0, a1, a2, a3, a4)) (by rw [HL.out, List.length_append, Gn.out]; rfl) ho
    have HG := Lib.hid (Gives8.from_ hG HB1.out)
    have HE := Lib.hid e9
    clear ho hG hwE e9
    go_wp2
    go_ret
    exact HE.out ▸ HG.out
end Go.Proofs.Ytoiflngpjdghbaa

/- The document's Put of an edit. -/
namespace Go.Proofs.Ytoiflngpjdghbaa
open Go.RowKit
set_option linter.unusedSimpArgs false
set_option linter.unusedVariables false

/-- What an operation that may be names may be. -/
theorem mayO_parts {o : OpT} (h : mayO o = 0) : (o.k = 3 → mayC o.a0 o.a1 o.a2 o.a3 o.a4 = true ∧ mayC o.b0 o.b1 o.b2 o.b3 o.b4 = true) ∧ (o.k = 5 → mayI o.s1 o.n1 = true ∧ mayI o.s2 o.n2 = true) ∧ (o.k = 6 → mayI o.s2 o.n2 = true) := by
  unfold mayO at h
  by_cases hh : mayI o.s o.n = true ∧ fitsO o = true ∧ o = onlyO o
  case neg => rw [if_neg hh] at h; exact absurd h (by decide)
  have h2 := hh.2.1
  unfold fitsO at h2
  refine ⟨fun k3 => ?_, fun k5 => ?_, fun k6 => ?_⟩
  · rw [if_neg (by omega), if_pos k3] at h2
    exact Bool.and_eq_true_iff.1 h2
  · rw [if_neg (by omega), if_neg (by omega), if_pos k5] at h2
    exact Bool.and_eq_true_iff.1 (Bool.and_eq_true_iff.1 h2).1
  · rw [if_neg (by omega), if_neg (by omega), if_neg (by omega), if_pos k6] at h2
    exact h2
theorem rcorner_p (A : Option Addr) (n c : Nat) (L : List Nat) (c5 : C5) (m : Nat) (w : World) (hl : L.length = n) (hm0 : (crB c5).length = m) (h : RdS w w.heap.size 1 A n c (rowsV f8 L)) (hn : n ≤ 800000) (hm : mayC c5.1 c5.2.1 c5.2.2.1 c5.2.2.2.1 c5.2.2.2.2 = true) :
    Calls Try.prog 24 #[.slice A n c, .agg #[.int .i64 c5.1, .int .i64 c5.2.1, .int .i64 c5.2.2.1, .int .i64 c5.2.2.2.1, .int .i64 c5.2.2.2.2]] w fun e w' => ∃ A c, e = .returned (.slice A (n + m) c) ∧ RdS w' w'.heap.size 1 A (n + m) c (rowsV f8 (L ++ crB c5)) ∧ (∀ a, A = some a → 0 < n + m → w.heap.size ≤ a.block) ∧ w'.ownsRow w.heap.size 5 1 (.slice A (n + m) c) (n + m) (rowsV f8 (L ++ crB c5)) ∧ Below w.heap.size w w' := by
  subst hl
  exact g8_parts (by rw [List.length_append, hm0]) (rcorner10_any A c L c5.1 c5.2.1 c5.2.2.1 c5.2.2.2.1 c5.2.2.2.2 w h hn hm)
theorem rtext_p (A : Option Addr) (n c : Nat) (L : List Nat) (t : ByteArray) (w : World) (hl : L.length = n) (h : RdS w w.heap.size 1 A n c (rowsV f8 L)) (hn : n ≤ 800000) (hs : t.size ≤ 10000) (m : Nat) (hm : (textB t).length = m) :
    Calls Try.prog 25 #[.slice A n c, .string t] w fun e w' => ∃ A c, e = .returned (.slice A (n + m) c) ∧ RdS w' w'.heap.size 1 A (n + m) c (rowsV f8 (L ++ textB t)) ∧ (∀ a, A = some a → 0 < n + m → w.heap.size ≤ a.block) ∧ w'.ownsRow w.heap.size 5 1 (.slice A (n + m) c) (n + m) (rowsV f8 (L ++ textB t)) ∧ Below w.heap.size w w' := by
  subst hl
  exact g8_parts (by rw [List.length_append, hm]) (rtext_any A c L t w h (by omega) hs)
theorem rnum_p (A : Option Addr) (n c : Nat) (L : List Nat) (x : Int) (w : World) (hl : L.length = n) (h : RdS w w.heap.size 1 A n c (rowsV f8 L)) (hn : n ≤ 800000) :
    Calls Try.prog 27 #[.slice A n c, .int .i64 x] w fun e w' => ∃ A c, e = .returned (.slice A (n + 8) c) ∧ RdS w' w'.heap.size 1 A (n + 8) c (rowsV f8 (L ++ be8 x)) ∧ (∀ a, A = some a → 0 < n + 8 → w.heap.size ≤ a.block) ∧ w'.ownsRow w.heap.size 5 1 (.slice A (n + 8) c) (n + 8) (rowsV f8 (L ++ be8 x)) ∧ Below w.heap.size w w' := by
  subst hl
  exact g8_parts (by rw [List.length_append, be8_len]) (rnum_any A c L x w h (by omega))
/-- A row that a call gave is a row over an elder world. -/
theorem ow_call {w V W W' : World} {N : Nat} {v : Value} {X : List Nat} (hV : Below w.heap.size w V) (hW : Ext V W) (ho : W'.ownsRow W.heap.size 5 1 v N (rowsV f8 X)) (hb : Below W.heap.size W W') : Ow w w.heap.size 5 1 v N (rowsV f8 X) W' :=
  ⟨own_lo8 ho (Nat.le_trans hV.size hW.size), bel_bl (bel_bl hV hW) hb, Nat.le_refl _, (bel_bl (bel_bl hV hW) hb).size⟩
set_option maxRecDepth 100000 in
set_option maxHeartbeats 4000000 in
theorem rput_not (A0 : Option Addr) (m0 c0 : Nat) (A : Option Addr) (n c : Nat) (L : List OpT) (w : World) (h : RdS w w.heap.size 20 A n c (rowsV opCells L)) (hn : n ≤ 1000000) (ht : ∀ o ∈ L, o.t.size ≤ maxLen) (hm : mayE L ≠ 0) :
    Calls Try.prog 12 #[.slice A0 m0 c0, .agg #[.slice A n c]] w fun e w' => e = .returned (.tuple #[.slice none 0 0, .int .i64 (mayE L)]) ∧ Below w.heap.size w w' := by
  have HM := Lib.hid (rmayedit_any A n c L (w.alloc (.cells #[.slice A n c] 25)) (h.al _) (by unfold maxLen; omega) ht)
  have hX : Whole (w.alloc (.cells #[.slice A n c] 25)) w.heap.size 25 [.slice A n c] := Whole.new_ _ _ [_]
  have c0 := hX.cell (i := 0) rfl
  obtain ⟨x, gx⟩ : ∃ x, mayE L = x := ⟨_, rfl⟩
  rw [gx] at HM hm ⊢
  have q : (x == 0) = false := beq_eq_false_iff_ne.2 hm
  have q' : (x != 0) = true := bne_iff_ne.2 hm
  clear gx hX h hm hn ht
  go_enter Try.func12, Try.ntmps12
  go_wp2_with (first
    | (go_at_call 22
       refine HM.out.mono ?_
       rintro e w2 ⟨rfl, hb⟩
       have HB := Lib.hid (below_after1 hb)
       clear hb))
  exact bodyPost_ret (v := .tuple #[.slice none 0 0, .int .i64 x]) (by simp [results, Try.results12, go_sem]) rfl ⟨rfl, HB.out⟩

set_option maxRecDepth 100000 in
set_option maxHeartbeats 16000000 in
theorem rput_yes (A0 : Option Addr) (c0 : Nat) (B : List Nat) (A : Option Addr) (n c : Nat) (L : List OpT) (w : World) (h0 : RdS w w.heap.size 1 A0 B.length c0 (rowsV f8 B)) (hB : B.length ≤ 90000) (h : RdS w w.heap.size 20 A n c (rowsV opCells L)) (ht : ∀ o ∈ L, o.t.size ≤ maxLen) (hm : mayE L = 0) :
    Calls Try.prog 12 #[.slice A0 B.length c0, .agg #[.slice A n c]] w fun e w' => ∃ A' c', e = .returned (.tuple #[.slice A' (B ++ edB L).length c', .int .i64 0]) ∧ w'.ownsRow w.heap.size 5 1 (.slice A' (B ++ edB L).length c') (B ++ edB L).length (rowsV f8 (B ++ edB L)) ∧ Below w.heap.size w w' := by
  obtain ⟨i0, hi, hz0, hz1, hz2⟩ := info_parts_ info_u8
  obtain ⟨hm1, hm2, hm3⟩ := mayE_ok hm
  have hl : L.length = n := h.rlen opCells_len' (by decide)
  have hM := fun W h => rmayedit_any A n c L W h (by unfold maxLen; omega) ht
  rw [hm] at hM
  have HM := Lib.hid hM
  have HAll := Lib.hid (mayE_all hm)
  have HPl := Lib.hid (fun k => pT_len (B := B) hm k)
  have HPn := Lib.hid (fun k o (h : L[k]? = some o) => pT_next (B := B) h)
  have HPa := Lib.hid (pT_all B L)
  have HP0 : RowKit.Hid (pT B L 0 = B ++ [n % 256]) := Lib.hid (by unfold pT; rw [hl]; rfl)
  have HRB := Lib.hid (h0.al (.cells #[.slice A n c] 25))
  have HRL := Lib.hid (h.al (.cells #[.slice A n c] 25))
  have HE : RowKit.Hid (Whole (w.alloc (.cells #[.slice A n c] 25)) w.heap.size 25 [.slice A n c]) := Lib.hid (Whole.new_ _ _ [_])
  have HB1 := Lib.hid (below1 w (.cells #[.slice A n c] 25))
  have Hn := Lib.hid hl
  obtain ⟨nB, gnB⟩ : ∃ z, B.length = z := ⟨_, rfl⟩
  rw [gnB] at hB HRB HPl ⊢
  have GnB := Lib.hid gnB
  have hu : IntKind.u8.wrap (n : Int) = ((n % 256 : Nat) : Int) := by rw [IntKind.wrap_u8]; omega
  obtain ⟨q, gq⟩ : ∃ z, n % 256 = z := ⟨_, rfl⟩
  rw [gq] at hu HP0
  have hn6 : n ≤ 6 := by omega
  clear h0 h hm hM gnB hm3 gq hm1 hm2 hl ht
  go_enter Try.func12, Try.ntmps12
  go_upto_region 1 with fail
  obtain ⟨w1, gw1⟩ : ∃ z, w.alloc (.cells #[.slice A n c] 25) = z := ⟨_, rfl⟩
  obtain ⟨g0, gg0⟩ : ∃ z, w.heap.size = z := ⟨_, rfl⟩
  rw [gw1] at HRB HRL HE HB1 ⊢
  rw [gg0] at HE ⊢
  clear gw1 gg0
  have e0 := HE.out.cell (i := 0) rfl
  go_upto_region 4 with (first
    | (go_at_call 22
       refine (HM.out _ HRL.out).mono ?_
       rintro e w2 ⟨rfl, hb2⟩
       have HRB2 := Lib.hid (HRB.out.bl hb2)
       have HRL2 := Lib.hid (HRL.out.bl hb2)
       have HE2 := Lib.hid (HE.out.bl hb2)
       have HB2 := Lib.hid (bel_bl HB1.out hb2)
       clear hb2 e0 HRB HRL HE HB1))
  have hO0 : Ow w2 w2.heap.size 5 1 (.slice (some ⟨w2.heap.size, 0, none⟩) 0 0) 0 (rowsV f8 []) (w2.alloc (.cells #[] 5)) := Ow.new_ (cs := #[]) (Below.refl _ _) (Nat.le_refl _) (Nat.le_refl _) (Nat.zero_le _) rfl
  obtain ⟨A3, c3, w3, hrun3, ho3, -⟩ := app8 22 hO0 (HRB2.out.al (.cells #[] 5)) (by omega)
  rw [Nat.zero_add, List.nil_append] at ho3
  rw [Nat.zero_add] at hrun3
  have HO3 := Lib.hid ho3
  clear hO0 ho3
  go_upto_region 5 with (first
    | (at_builtin
       refine wl_run (some 17) rfl (by rfl) (exec_append (by rfl) (by rfl) (by rfl) hrun3) ?_
       clear hrun3))
  have e0 := (HE2.out.bl HO3.out.below).cell (i := 0) rfl
  go_upto_region 6 with (first
    | (at_builtin
       refine wpList_push2 rfl (.tmp 18) (.tmp 23) _ rfl _ 5 i0 _ 1 1 Try.underlying22 hi hz0 hz1 hz2 rfl (by decide) _ _ _ rfl (by exact Ow.up HO3.out (below1 _ _)) _ (some ⟨w3.heap.size, 0, none⟩) 1 1 (rowsV f8 [q]) rfl (by exact RdS.new_ rfl (Nat.lt_succ_self _) rfl rfl) (f8_all _) (by unfold maxLen; omega) (by omega) ?_
       intro v4 w4 how4 hb4 hgr4
       rw [← rowsV_app, ← HP0.out] at how4
       obtain ⟨A4, c4, rfl, -⟩ := how4.rds
       have HO4 := Lib.hid how4
       clear how4 hb4 hgr4 e0 hu))
  go_upto_region 7 with fail
  go_loopw [7, 8] (fun v i wr => ∃ (k N : Nat) (Ak : Option Addr) (ck : Nat), k ≤ n ∧ i = .int .i64 (k : Int) ∧ v = .slice Ak N ck ∧ N = (pT B L k).length ∧ RowKit.Hid (Ow w2 w2.heap.size 5 1 (.slice Ak N ck) N (rowsV f8 (pT B L k)) wr)) (fun _ i _ => n - (intOf i).toNat)
  case atStart => exact ⟨0, nB + 1, A4, c4, Nat.zero_le _, rfl, rfl, by rw [HP0.out, List.length_append, GnB.out]; rfl, HO4⟩
  case round =>
    clear HO4
    obtain ⟨k, N, Ak, ck, hk, rfl, rfl, hN, hin⟩ := hrel
    have e0 := (HE2.out.bl hin.out.below).cell (i := 0) rfl
    by_cases hlt : k < n
    · have hi1 : (k : Int) < (n : Int) := by omega
      have hk0 : L[k]? = some (L[k]'(by have := Hn.out; omega)) := List.getElem?_eq_getElem _
      obtain ⟨o, go⟩ : ∃ o, L[k]'(by have := Hn.out; omega) = o := ⟨_, rfl⟩
      rw [go] at hk0
      have HNx := Lib.hid (HPn.out k o hk0)
      have HMo := Lib.hid (HAll.out o (List.mem_of_getElem? hk0))
      have HRd2 := Lib.hid (HRL2.out.up hin.out.below hin.out.below.size)
      obtain ⟨b, off, rfl, hbB, hpl⟩ := HRd2.out.place opCells_len' (by decide) (by omega)
      have HP := Lib.hid (hpl k o hk0)
      have hNb : N ≤ nB + 139 := by rw [hN]; exact HPl.out k
      have HN0 := Lib.hid hN
      clear go hk0 hpl hbB hN
      go_upto_region 9 with fail
      refine wp_region_lit ?_
      refine wl_read (v := ?_) (some 32) rfl (by rfl) ?_ ?_
      rotate_left
      · go_simp; (try with_reducible rfl)
      simp only [Act.put, List.setIfInBounds_toArray, List.set_cons_zero, List.set_cons_succ]
      refine wl_read (v := ?_) (some 33) rfl (by rfl) ?_ ?_
      rotate_left
      · go_simp; (try with_reducible rfl)
      simp only [Act.put, List.setIfInBounds_toArray, List.set_cons_zero, List.set_cons_succ]
      refine wl_read (v := ?_) (some 34) rfl (by rfl) ?_ ?_
      rotate_left
      · go_simp; (try with_reducible rfl)
      simp only [Act.put, List.setIfInBounds_toArray, List.set_cons_zero, List.set_cons_succ]
      refine wl_read (v := ?_) (some 35) rfl (by rfl) ?_ ?_
      rotate_left
      · go_simp; (try with_reducible rfl)
      simp only [Act.put, List.setIfInBounds_toArray, List.set_cons_zero, List.set_cons_succ]
      refine wl_load_at (some 36) rfl (by rfl) 48 (.tmp 35) rfl ⟨b, off + k * 20, none⟩ rfl (opCells o) _ HP.out Try.underlying48 rfl (by kernel_rfl) ?_
      simp only [Act.put, List.setIfInBounds_toArray, List.set_cons_zero, List.set_cons_succ]
      refine wl_new 9 rfl rfl rfl 48 (.tmp 36) rfl rfl #[.int .i64 0, .int .i64 0, .int .i64 0, .int .i64 0, .int .i64 0, .int .i64 0, .int .i64 0, .int .i64 0, .int .i64 0, .int .i64 0, .int .i64 0, .int .i64 0, .int .i64 0, .int .i64 0, .int .i64 0, .int .i64 0, .int .i64 0, .bool false, .string ⟨#[]⟩, .int .i64 0] ?_ (opCells o).toArray (by simp) rfl (by kernel_rfl) rfl (opCells_arr _) ?_
      · go_simp; (try with_reducible rfl)
      simp only [Act.put, List.setIfInBounds_toArray, List.set_cons_zero, List.set_cons_succ]
      have HI0 := Lib.hid (hin.out.up (below1 wr (.cells (opCells o).toArray 48)))
      have HX0 : RowKit.Hid (Whole (wr.alloc (.cells (opCells o).toArray 48)) wr.heap.size 48 (opCells o)) := Lib.hid (Whole.new_ _ _ _)
      obtain ⟨W0, gW0⟩ : ∃ x, wr.alloc (.cells (opCells o).toArray 48) = x := ⟨_, rfl⟩
      obtain ⟨g2, gg2⟩ : ∃ x, wr.heap.size = x := ⟨_, rfl⟩
      rw [gW0] at HI0 HX0 ⊢
      rw [gg2] at HX0 ⊢
      clear gW0 gg2 hin HRd2 HP e0
      have hku : IntKind.u8.wrap o.k = (((o.k % 256).toNat : Nat) : Int) := by rw [IntKind.wrap_u8]; omega
      obtain ⟨kb, gkb⟩ : ∃ z, (o.k % 256).toNat = z := ⟨_, rfl⟩
      rw [gkb] at hku HNx
      clear gkb
      have hmO := mayO_head HMo.out
      have HId := Lib.hid hmO.1
      have hts := hmO.2.2.2
      clear hmO
      obtain ⟨X0, gX0⟩ : ∃ z, pT B L k = z := ⟨_, rfl⟩
      rw [gX0] at HI0 HNx HN0
      clear gX0
      go_upto_region 10 with fail
      have HD : RowKit.Hid (Ext W0 W0.drew) := Lib.hid (below_drewN W0.heap.size W0 1)
      have Hne : RowKit.Hid (some g2 ≠ (Value.slice Ak N ck).ownBlock) := Lib.hid (own_ne HI0.out.own HX0.out (by decide))
      have lC0 : ∀ w', Kept (fun i => some i = (Value.slice Ak N ck).ownBlock) W0.drew w' → w'.cell? ⟨g2, 0, none⟩ = some (.int .i64 o.k) := fun w' h => h.cell (HX0.out.dr.cell (i := 0) rfl) Hne.out
      have lC1 : ∀ w', Kept (fun i => some i = (Value.slice Ak N ck).ownBlock) W0.drew w' → w'.cell? ⟨g2, 1, none⟩ = some (.int .i64 o.s) := fun w' h => h.cell (HX0.out.dr.cell (i := 1) rfl) Hne.out
      have lC2 : ∀ w', Kept (fun i => some i = (Value.slice Ak N ck).ownBlock) W0.drew w' → w'.cell? ⟨g2, 2, none⟩ = some (.int .i64 o.n) := fun w' h => h.cell (HX0.out.dr.cell (i := 2) rfl) Hne.out
      refine wp_region_reg (fun i => some i = (Value.slice Ak N ck).ownBlock) (by kernel_rfl) ?_
      apply wpR_next 0 (some 37)
      · simp only [List.getElem?_toArray, List.getElem?_cons_succ, List.getElem?_cons_zero]; exact rfl
      · rfl
      · kernel_rfl
      · kernel_rfl
      · kernel_rfl
      · exact fun _ _ _ _ h => h
      apply Exists.intro
      apply And.intro
      · apply yr_run; rfl; intro w' hw'; go_simp; (try with_reducible rfl)
      simp only [Act.put, List.setIfInBounds_toArray, List.set_cons_zero, List.set_cons_succ]
      apply wpR_next 1 (some 38)
      · simp only [List.getElem?_toArray, List.getElem?_cons_succ, List.getElem?_cons_zero]; exact rfl
      · rfl
      · kernel_rfl
      · kernel_rfl
      · kernel_rfl
      · exact fun _ _ _ _ h => h
      apply Exists.intro
      apply And.intro
      · apply yr_run; rfl; intro w' hw'; go_simp; (try with_reducible rfl)
      simp only [Act.put, List.setIfInBounds_toArray, List.set_cons_zero, List.set_cons_succ]
      apply wpR_next 2 (some 39)
      · simp only [List.getElem?_toArray, List.getElem?_cons_succ, List.getElem?_cons_zero]; exact rfl
      · rfl
      · kernel_rfl
      · kernel_rfl
      · kernel_rfl
      · exact fun _ _ _ _ h => h
      apply Exists.intro
      apply And.intro
      · apply yr_run; rfl; intro w' hw'; go_simp; (try with_reducible rfl)
      simp only [Act.put, List.setIfInBounds_toArray, List.set_cons_zero, List.set_cons_succ]
      apply wpR_next 3 (some 40)
      · simp only [List.getElem?_toArray, List.getElem?_cons_succ, List.getElem?_cons_zero]; exact rfl
      · rfl
      · kernel_rfl
      · kernel_rfl
      · kernel_rfl
      · exact fun _ _ _ _ h => h
      apply Exists.intro
      apply And.intro
      · apply yr_run; rfl; intro w' hw'; go_simp; (try with_reducible rfl)
      simp only [Act.put, List.setIfInBounds_toArray, List.set_cons_zero, List.set_cons_succ]
      apply wpR_next 6 (some 43)
      · simp only [List.getElem?_toArray, List.getElem?_cons_succ, List.getElem?_cons_zero]; exact rfl
      · rfl
      · kernel_rfl
      · kernel_rfl
      · kernel_rfl
      · exact fun _ _ _ _ h => h
      apply Exists.intro
      apply And.intro
      · apply yr_run; rfl; intro w' hw'; go_simp; (try with_reducible rfl)
      simp only [Act.put, List.setIfInBounds_toArray, List.set_cons_zero, List.set_cons_succ]
      apply wpR_next 7 (some 44)
      · simp only [List.getElem?_toArray, List.getElem?_cons_succ, List.getElem?_cons_zero]; exact rfl
      · rfl
      · kernel_rfl
      · kernel_rfl
      · kernel_rfl
      · exact fun _ _ _ _ h => h
      apply Exists.intro
      apply And.intro
      · apply yr_run; rfl; intro w' hw'; go_simp; (try with_reducible rfl)
      simp only [Act.put, List.setIfInBounds_toArray, List.set_cons_zero, List.set_cons_succ]
      apply wpR_run 4 (some 41)
      · simp only [List.getElem?_toArray, List.getElem?_cons_succ, List.getElem?_cons_zero]; exact rfl
      · rfl
      · kernel_rfl
      · rfl
      intro w' hw'
      refine ⟨.slice (some ⟨w'.heap.size, 0, none⟩) 1 1, w'.alloc (.cells #[.int .u8 (kb : Int)] 5), exec_buildSlice 22 5 1 #[(0, .tmp 40)] (by rfl) Try.underlying22 _ (by kernel_rfl), Kept.of_below (below1 _ _), ?_⟩
      have hE : Ext W0 (w'.alloc (.cells #[.int .u8 (kb : Int)] 5)) := Ext.trans (Ext.trans HD.out hw') (below1 _ _)
      have HIa := Lib.hid (HI0.out.up hE)
      have HXa := Lib.hid (HX0.out.bl hE)
      have HLa := Lib.hid (one8 w' kb)
      have hEa : Ext W0 (w'.alloc (.cells #[.int .u8 (kb : Int)] 5)) := hE
      have HEa := Lib.hid hEa
      have kk : Kept (fun i => some i = (Value.slice Ak N ck).ownBlock) W0.drew (w'.alloc (.cells #[.int .u8 (kb : Int)] 5)) := (Kept.of_ext hw').trans (Kept.of_below (below1 _ _))
      replace lC0 := fun w4 (h : Kept (fun i => some i = (Value.slice Ak N ck).ownBlock) ((w'.alloc (.cells #[.int .u8 (kb : Int)] 5))) w4) => lC0 w4 (kk.trans h)
      replace lC1 := fun w4 (h : Kept (fun i => some i = (Value.slice Ak N ck).ownBlock) ((w'.alloc (.cells #[.int .u8 (kb : Int)] 5))) w4) => lC1 w4 (kk.trans h)
      replace lC2 := fun w4 (h : Kept (fun i => some i = (Value.slice Ak N ck).ownBlock) ((w'.alloc (.cells #[.int .u8 (kb : Int)] 5))) w4) => lC2 w4 (kk.trans h)
      obtain ⟨wa, gwa⟩ : ∃ z, (w'.alloc (.cells #[.int .u8 (kb : Int)] 5)) = z := ⟨_, rfl⟩
      obtain ⟨ga, gga⟩ : ∃ z, w'.heap.size = z := ⟨_, rfl⟩
      rw [gwa] at HIa HXa HLa HEa lC0 lC1 lC2 ⊢
      rw [gga] at HLa ⊢
      clear hw' hE hEa kk gwa gga
      simp only [Act.put, List.setIfInBounds_toArray, List.set_cons_zero, List.set_cons_succ]
      apply wpR_run 5 (some 42)
      · simp only [List.getElem?_toArray, List.getElem?_cons_succ, List.getElem?_cons_zero]; exact rfl
      · rfl
      · kernel_rfl
      · rfl
      intro w' hw'
      obtain ⟨vv, w'', hrun, ho, hb, hg, hbk⟩ := Ow.app2 (P := Try.prog) 22 22 5 i0 _ 1 1 _ Try.underlying22 hi hz0 hz1 hz2 rfl (by decide) _ _ _ (HIa.out.up hw') _ _ _ _ _ (HLa.out.bl hw') (f8_all [kb]) (by unfold maxLen; omega) (by omega)
      refine ⟨vv, w'', exec_append (by rfl) (by rfl) (by rfl) hrun, kept_grow hg (fun i e => e), ?_⟩
      rw [← rowsV_app] at ho
      obtain ⟨Ab, cb, rfl, hrb⟩ := ho.rds
      have HIb := Lib.hid ho
      have HXb := Lib.hid (Whole.grown (HXa.out.bl hw') hg Hne.out)
      have HRb := Lib.hid hrb
      have kk : Kept (fun i => some i = (Value.slice Ak N ck).ownBlock) wa w'' := (Kept.of_ext hw').trans (kept_grow hg (fun i e => e))
      replace lC0 := fun w4 (h : Kept (fun i => some i = (Value.slice Ak N ck).ownBlock) (w'') w4) => lC0 w4 (kk.trans h)
      replace lC1 := fun w4 (h : Kept (fun i => some i = (Value.slice Ak N ck).ownBlock) (w'') w4) => lC1 w4 (kk.trans h)
      replace lC2 := fun w4 (h : Kept (fun i => some i = (Value.slice Ak N ck).ownBlock) (w'') w4) => lC2 w4 (kk.trans h)
      obtain ⟨wb, gwb⟩ : ∃ z, w'' = z := ⟨_, rfl⟩
      rw [gwb] at HIb HXb HRb lC0 lC1 lC2 ⊢
      clear hw' kk hrun ho hb hg hbk hrb gwb HIa HXa HLa
      simp only [Act.put, List.setIfInBounds_toArray, List.set_cons_zero, List.set_cons_succ]
      apply wpR_call 8 (some 45)
      · simp only [List.getElem?_toArray, List.getElem?_cons_succ, List.getElem?_cons_zero]; exact rfl
      · rfl
      · kernel_rfl
      · rfl
      · intro w'; go_simp; first | done | exact ⟨rfl, rfl⟩ | with_reducible rfl
      intro w' hw'
      refine (ridput_4 Ab (N + 1) cb (X0 ++ [kb]) o.s o.n w' (by rw [List.length_append, ← HN0.out]; rfl) (HRb.out.bl hw') (by omega) HId.out).mono ?_
      rintro e wc ⟨A1, c1, rfl, -, -, h4, h5⟩
      refine ⟨_, rfl, Kept.of_below h5, ?_⟩
      have HIc := Lib.hid (ow_call HIb.out.below hw' h4 h5)
      have HXc := Lib.hid (HXb.out.bl (Ext.trans hw' h5))
      clear hw' h4 h5 lC0 lC1 lC2 HIb HXb HRb HEa
      simp only [Act.put, List.setIfInBounds_toArray, List.set_cons_zero, List.set_cons_succ]
      apply wpR_next 9 (some 7)
      · simp only [List.getElem?_toArray, List.getElem?_cons_succ, List.getElem?_cons_zero]; exact rfl
      · rfl
      · kernel_rfl
      · kernel_rfl
      · kernel_rfl
      · exact fun _ _ _ _ h => h
      apply Exists.intro
      apply And.intro
      · apply yr_run; rfl; intro w' hw'; go_simp; (try with_reducible rfl)
      simp only [Act.put, List.setIfInBounds_toArray, List.set_cons_zero, List.set_cons_succ]
      refine wpR_done (by kernel_rfl) ?_ _
      intro wE hwE
      have HI1 := Lib.hid (HIc.out.up hwE)
      have HX1 := Lib.hid (HXc.out.bl hwE)
      obtain ⟨W1, gW1⟩ : ∃ z, wE = z := ⟨_, rfl⟩
      rw [gW1] at HI1 HX1 ⊢
      clear hwE gW1 HIc HXc HD Hne HI0 HX0
      have HN1 : RowKit.Hid ((X0 ++ [kb] ++ idB (o.s, o.n)).length = N + 1 + 4) := Lib.hid (by rw [List.length_append, List.length_append, ← HN0.out]; rfl)
      obtain ⟨X1, gX1⟩ : ∃ z, X0 ++ [kb] ++ idB (o.s, o.n) = z := ⟨_, rfl⟩
      obtain ⟨N1, gN1⟩ : ∃ z, N + 1 + 4 = z := ⟨_, rfl⟩
      rw [gX1] at HI1 HNx HN1
      rw [gN1] at HI1 HN1 ⊢
      have hN1 : N1 ≤ nB + 144 := by omega
      clear gX1 gN1 hku hNb HN0
      have l0 := HX1.out.cell (i := 0) rfl
      by_cases k3 : o.k = 3
      · have q3 : (o.k == 3) = true := by rw [k3]; rfl
        have HFd := Lib.hid (fdB3 k3)
        have hC := (mayO_parts HMo.out).1 k3
        have HC1 := Lib.hid hC.1
        have HC2 := Lib.hid hC.2
        obtain ⟨na, gna, na1, na2⟩ := crB_len o.ca
        obtain ⟨nb, gnb, nb1, nb2⟩ := crB_len o.cb
        have Gna := Lib.hid gna
        have Gnb := Lib.hid gnb
        clear k3 hC gna gnb
        go_upto_region 13 with fail
        clear l0 q3
        have HD : RowKit.Hid (Ext W1 W1.drew) := Lib.hid (below_drewN W1.heap.size W1 1)
        have HR1 := Lib.hid (own_rds HI1.out.own)
        have lC7 : ∀ w', Kept Nil_ W1.drew w' → w'.cell? ⟨g2, 7, none⟩ = some (.int .i64 o.a0) := fun w' h => h.nil_cell (HX1.out.dr.cell (i := 7) rfl)
        have lC8 : ∀ w', Kept Nil_ W1.drew w' → w'.cell? ⟨g2, 8, none⟩ = some (.int .i64 o.a1) := fun w' h => h.nil_cell (HX1.out.dr.cell (i := 8) rfl)
        have lC9 : ∀ w', Kept Nil_ W1.drew w' → w'.cell? ⟨g2, 9, none⟩ = some (.int .i64 o.a2) := fun w' h => h.nil_cell (HX1.out.dr.cell (i := 9) rfl)
        have lC10 : ∀ w', Kept Nil_ W1.drew w' → w'.cell? ⟨g2, 10, none⟩ = some (.int .i64 o.a3) := fun w' h => h.nil_cell (HX1.out.dr.cell (i := 10) rfl)
        have lC11 : ∀ w', Kept Nil_ W1.drew w' → w'.cell? ⟨g2, 11, none⟩ = some (.int .i64 o.a4) := fun w' h => h.nil_cell (HX1.out.dr.cell (i := 11) rfl)
        have lC12 : ∀ w', Kept Nil_ W1.drew w' → w'.cell? ⟨g2, 12, none⟩ = some (.int .i64 o.b0) := fun w' h => h.nil_cell (HX1.out.dr.cell (i := 12) rfl)
        have lC13 : ∀ w', Kept Nil_ W1.drew w' → w'.cell? ⟨g2, 13, none⟩ = some (.int .i64 o.b1) := fun w' h => h.nil_cell (HX1.out.dr.cell (i := 13) rfl)
        have lC14 : ∀ w', Kept Nil_ W1.drew w' → w'.cell? ⟨g2, 14, none⟩ = some (.int .i64 o.b2) := fun w' h => h.nil_cell (HX1.out.dr.cell (i := 14) rfl)
        have lC15 : ∀ w', Kept Nil_ W1.drew w' → w'.cell? ⟨g2, 15, none⟩ = some (.int .i64 o.b3) := fun w' h => h.nil_cell (HX1.out.dr.cell (i := 15) rfl)
        have lC16 : ∀ w', Kept Nil_ W1.drew w' → w'.cell? ⟨g2, 16, none⟩ = some (.int .i64 o.b4) := fun w' h => h.nil_cell (HX1.out.dr.cell (i := 16) rfl)
        refine wp_region_reg (Nil_) (by kernel_rfl) ?_
        apply wpR_next 0 (some 50)
        · simp only [List.getElem?_toArray, List.getElem?_cons_succ, List.getElem?_cons_zero]; exact rfl
        · rfl
        · kernel_rfl
        · kernel_rfl
        · kernel_rfl
        · exact fun _ _ _ _ h => h
        apply Exists.intro
        apply And.intro
        · apply yr_run; rfl; intro w' hw'; go_simp; (try with_reducible rfl)
        simp only [Act.put, List.setIfInBounds_toArray, List.set_cons_zero, List.set_cons_succ]
        apply wpR_next 1 (some 51)
        · simp only [List.getElem?_toArray, List.getElem?_cons_succ, List.getElem?_cons_zero]; exact rfl
        · rfl
        · kernel_rfl
        · kernel_rfl
        · kernel_rfl
        · exact fun _ _ _ _ h => h
        apply Exists.intro
        apply And.intro
        · apply yr_run; rfl; intro w' hw'; go_simp; (try with_reducible rfl)
        simp only [Act.put, List.setIfInBounds_toArray, List.set_cons_zero, List.set_cons_succ]
        apply wpR_next 2 (some 52)
        · simp only [List.getElem?_toArray, List.getElem?_cons_succ, List.getElem?_cons_zero]; exact rfl
        · rfl
        · kernel_rfl
        · kernel_rfl
        · kernel_rfl
        · exact fun _ _ _ _ h => h
        apply Exists.intro
        apply And.intro
        · apply yr_run; rfl; intro w' hw'; go_simp; (try with_reducible rfl)
        simp only [Act.put, List.setIfInBounds_toArray, List.set_cons_zero, List.set_cons_succ]
        apply wpR_next 4 (some 54)
        · simp only [List.getElem?_toArray, List.getElem?_cons_succ, List.getElem?_cons_zero]; exact rfl
        · rfl
        · kernel_rfl
        · kernel_rfl
        · kernel_rfl
        · exact fun _ _ _ _ h => h
        apply Exists.intro
        apply And.intro
        · apply yr_run; rfl; intro w' hw'; go_simp; (try with_reducible rfl)
        simp only [Act.put, List.setIfInBounds_toArray, List.set_cons_zero, List.set_cons_succ]
        apply wpR_next 5 (some 55)
        · simp only [List.getElem?_toArray, List.getElem?_cons_succ, List.getElem?_cons_zero]; exact rfl
        · rfl
        · kernel_rfl
        · kernel_rfl
        · kernel_rfl
        · exact fun _ _ _ _ h => h
        apply Exists.intro
        apply And.intro
        · apply yr_run; rfl; intro w' hw'; go_simp; (try with_reducible rfl)
        simp only [Act.put, List.setIfInBounds_toArray, List.set_cons_zero, List.set_cons_succ]
        apply wpR_call 3 (some 53)
        · simp only [List.getElem?_toArray, List.getElem?_cons_succ, List.getElem?_cons_zero]; exact rfl
        · rfl
        · kernel_rfl
        · rfl
        · intro w'; go_simp; first | done | exact ⟨rfl, rfl⟩ | with_reducible rfl
        intro w' hw'
        have hE := Ext.trans HD.out hw'
        refine (rcorner_p A1 N1 c1 X1 o.ca na w' HN1.out Gna.out (HR1.out.bl hE) (by omega) HC1.out).mono ?_
        rintro e wa ⟨Aa, ca, rfl, hra, -, -, hb⟩
        refine ⟨_, rfl, Kept.of_below hb, ?_⟩
        have HRa := Lib.hid hra
        have HEa := Lib.hid (Ext.trans hE hb)
        have kk : Kept Nil_ W1.drew wa := (Kept.of_ext hw').trans (Kept.of_below hb)
        replace lC7 := fun w4 (h : Kept Nil_ (wa) w4) => lC7 w4 (kk.trans h)
        replace lC8 := fun w4 (h : Kept Nil_ (wa) w4) => lC8 w4 (kk.trans h)
        replace lC9 := fun w4 (h : Kept Nil_ (wa) w4) => lC9 w4 (kk.trans h)
        replace lC10 := fun w4 (h : Kept Nil_ (wa) w4) => lC10 w4 (kk.trans h)
        replace lC11 := fun w4 (h : Kept Nil_ (wa) w4) => lC11 w4 (kk.trans h)
        replace lC12 := fun w4 (h : Kept Nil_ (wa) w4) => lC12 w4 (kk.trans h)
        replace lC13 := fun w4 (h : Kept Nil_ (wa) w4) => lC13 w4 (kk.trans h)
        replace lC14 := fun w4 (h : Kept Nil_ (wa) w4) => lC14 w4 (kk.trans h)
        replace lC15 := fun w4 (h : Kept Nil_ (wa) w4) => lC15 w4 (kk.trans h)
        replace lC16 := fun w4 (h : Kept Nil_ (wa) w4) => lC16 w4 (kk.trans h)
        clear hw' hE hra hb kk
        simp only [Act.put, List.setIfInBounds_toArray, List.set_cons_zero, List.set_cons_succ]
        apply wpR_call 6 (some 56)
        · simp only [List.getElem?_toArray, List.getElem?_cons_succ, List.getElem?_cons_zero]; exact rfl
        · rfl
        · kernel_rfl
        · rfl
        · intro w'; go_simp; first | done | exact ⟨rfl, rfl⟩ | with_reducible rfl
        intro w' hw'
        refine (rcorner_p Aa (N1 + na) ca (X1 ++ crB o.ca) o.cb nb w' (by rw [List.length_append, HN1.out, Gna.out]) Gnb.out (HRa.out.bl hw') (by omega) HC2.out).mono ?_
        rintro e wb ⟨Ab, cb, rfl, -, -, h4, h5⟩
        refine ⟨_, rfl, Kept.of_below h5, ?_⟩
        have HIc := Lib.hid (ow_call HI1.out.below (Ext.trans HEa.out hw') h4 h5)
        clear hw' h4 h5 HRa HEa lC7 lC8 lC9 lC10 lC11 lC12 lC13 lC14 lC15 lC16
        simp only [Act.put, List.setIfInBounds_toArray, List.set_cons_zero, List.set_cons_succ]
        apply wpR_next 7 (some 7)
        · simp only [List.getElem?_toArray, List.getElem?_cons_succ, List.getElem?_cons_zero]; exact rfl
        · rfl
        · kernel_rfl
        · kernel_rfl
        · kernel_rfl
        · exact fun _ _ _ _ h => h
        apply Exists.intro
        apply And.intro
        · apply yr_run; rfl; intro w' hw'; go_simp; (try with_reducible rfl)
        simp only [Act.put, List.setIfInBounds_toArray, List.set_cons_zero, List.set_cons_succ]
        refine wpR_done (by kernel_rfl) ?_ _
        intro wE hwE
        have HI2 := Lib.hid (HIc.out.up hwE)
        clear hwE HIc HI1 HX1
        go_wp2
        go_roundw
        case rel => exact ⟨k + 1, N1 + na + nb, Ab, cb, by omega, by go_num, rfl, by rw [HNx.out, HFd.out]; rw [List.length_append, List.length_append, HN1.out, Gna.out, Gnb.out]; omega, Lib.hid (by have := HI2.out; rw [HNx.out, HFd.out]; rw [← List.append_assoc]; exact this)⟩
        case measure => simp [intOf]; omega
      have q3 : (o.k == 3) = false := by simpa using k3
      by_cases k5 : o.k = 5
      · have q5 : (o.k == 5) = true := by rw [k5]; rfl
        have HFd := Lib.hid (fdB5 k5)
        have hC := (mayO_parts HMo.out).2.1 k5
        have HC1 := Lib.hid hC.1
        have HC2 := Lib.hid hC.2
        clear k5 k3 hC
        have hqu : IntKind.u8.wrap o.m = (((o.m % 256).toNat : Nat) : Int) := by rw [IntKind.wrap_u8]; omega
        obtain ⟨q2, gq2⟩ : ∃ z, (o.m % 256).toNat = z := ⟨_, rfl⟩
        rw [gq2] at hqu HFd
        clear gq2
        go_upto_region 15 with fail
        clear l0 q3 q5
        obtain ⟨B0, hB0⟩ : ∃ x, W1.heap.size = x := ⟨_, rfl⟩
        have HB0 := Lib.hid hB0
        have HG1 : RowKit.Hid (g2 < B0) := Lib.hid (by have := HX1.out.lt; omega)
        have EX9 : RowKit.Hid (Ext W1 W1.drew) := Lib.hid ((Below.refl _ _).drew)
        have HR1 := Lib.hid (own_rds HI1.out.own)
        have lC3 : ∀ w', Kept (From_ B0) W1.drew w' → w'.cell? ⟨g2, 3, none⟩ = some (.int .i64 o.s1) := fun w' h => h.from_cell HG1.out (EX9.out.cell (HX1.out.cell (i := 3) rfl))
        have lC4 : ∀ w', Kept (From_ B0) W1.drew w' → w'.cell? ⟨g2, 4, none⟩ = some (.int .i64 o.n1) := fun w' h => h.from_cell HG1.out (EX9.out.cell (HX1.out.cell (i := 4) rfl))
        have lC5 : ∀ w', Kept (From_ B0) W1.drew w' → w'.cell? ⟨g2, 5, none⟩ = some (.int .i64 o.s2) := fun w' h => h.from_cell HG1.out (EX9.out.cell (HX1.out.cell (i := 5) rfl))
        have lC6 : ∀ w', Kept (From_ B0) W1.drew w' → w'.cell? ⟨g2, 6, none⟩ = some (.int .i64 o.n2) := fun w' h => h.from_cell HG1.out (EX9.out.cell (HX1.out.cell (i := 6) rfl))
        have lC19 : ∀ w', Kept (From_ B0) W1.drew w' → w'.cell? ⟨g2, 19, none⟩ = some (.int .i64 o.m) := fun w' h => h.from_cell HG1.out (EX9.out.cell (HX1.out.cell (i := 19) rfl))
        clear hB0
        refine wp_region_reg (From_ B0) (by kernel_rfl) ?_
        apply wpR_next 0 (some 59)
        · simp only [List.getElem?_toArray, List.getElem?_cons_succ, List.getElem?_cons_zero]; exact rfl
        · rfl
        · kernel_rfl
        · kernel_rfl
        · kernel_rfl
        · first | exact fun _ _ _ _ h => Exit.noConfusion h.1 | exact fun _ _ _ _ h => h
        apply Exists.intro
        apply And.intro
        · apply yr_run; rfl; intro w' hw'; go_simp; (try with_reducible rfl)
        simp only [Act.put, List.setIfInBounds_toArray, List.set_cons_zero, List.set_cons_succ]
        apply wpR_next 1 (some 60)
        · simp only [List.getElem?_toArray, List.getElem?_cons_succ, List.getElem?_cons_zero]; exact rfl
        · rfl
        · kernel_rfl
        · kernel_rfl
        · kernel_rfl
        · first | exact fun _ _ _ _ h => Exit.noConfusion h.1 | exact fun _ _ _ _ h => h
        apply Exists.intro
        apply And.intro
        · apply yr_run; rfl; intro w' hw'; go_simp; (try with_reducible rfl)
        simp only [Act.put, List.setIfInBounds_toArray, List.set_cons_zero, List.set_cons_succ]
        apply wpR_next 2 (some 61)
        · simp only [List.getElem?_toArray, List.getElem?_cons_succ, List.getElem?_cons_zero]; exact rfl
        · rfl
        · kernel_rfl
        · kernel_rfl
        · kernel_rfl
        · first | exact fun _ _ _ _ h => Exit.noConfusion h.1 | exact fun _ _ _ _ h => h
        apply Exists.intro
        apply And.intro
        · apply yr_run; rfl; intro w' hw'; go_simp; (try with_reducible rfl)
        simp only [Act.put, List.setIfInBounds_toArray, List.set_cons_zero, List.set_cons_succ]
        apply wpR_next 4 (some 63)
        · simp only [List.getElem?_toArray, List.getElem?_cons_succ, List.getElem?_cons_zero]; exact rfl
        · rfl
        · kernel_rfl
        · kernel_rfl
        · kernel_rfl
        · first | exact fun _ _ _ _ h => Exit.noConfusion h.1 | exact fun _ _ _ _ h => h
        apply Exists.intro
        apply And.intro
        · apply yr_run; rfl; intro w' hw'; go_simp; (try with_reducible rfl)
        simp only [Act.put, List.setIfInBounds_toArray, List.set_cons_zero, List.set_cons_succ]
        apply wpR_next 5 (some 64)
        · simp only [List.getElem?_toArray, List.getElem?_cons_succ, List.getElem?_cons_zero]; exact rfl
        · rfl
        · kernel_rfl
        · kernel_rfl
        · kernel_rfl
        · first | exact fun _ _ _ _ h => Exit.noConfusion h.1 | exact fun _ _ _ _ h => h
        apply Exists.intro
        apply And.intro
        · apply yr_run; rfl; intro w' hw'; go_simp; (try with_reducible rfl)
        simp only [Act.put, List.setIfInBounds_toArray, List.set_cons_zero, List.set_cons_succ]
        apply wpR_next 7 (some 66)
        · simp only [List.getElem?_toArray, List.getElem?_cons_succ, List.getElem?_cons_zero]; exact rfl
        · rfl
        · kernel_rfl
        · kernel_rfl
        · kernel_rfl
        · first | exact fun _ _ _ _ h => Exit.noConfusion h.1 | exact fun _ _ _ _ h => h
        apply Exists.intro
        apply And.intro
        · apply yr_run; rfl; intro w' hw'; go_simp; (try with_reducible rfl)
        simp only [Act.put, List.setIfInBounds_toArray, List.set_cons_zero, List.set_cons_succ]
        apply wpR_next 8 (some 67)
        · simp only [List.getElem?_toArray, List.getElem?_cons_succ, List.getElem?_cons_zero]; exact rfl
        · rfl
        · kernel_rfl
        · kernel_rfl
        · kernel_rfl
        · first | exact fun _ _ _ _ h => Exit.noConfusion h.1 | exact fun _ _ _ _ h => h
        apply Exists.intro
        apply And.intro
        · apply yr_run; rfl; intro w' hw'; go_simp; (try with_reducible rfl)
        simp only [Act.put, List.setIfInBounds_toArray, List.set_cons_zero, List.set_cons_succ]
        apply wpR_next 9 (some 68)
        · simp only [List.getElem?_toArray, List.getElem?_cons_succ, List.getElem?_cons_zero]; exact rfl
        · rfl
        · kernel_rfl
        · kernel_rfl
        · kernel_rfl
        · first | exact fun _ _ _ _ h => Exit.noConfusion h.1 | exact fun _ _ _ _ h => h
        apply Exists.intro
        apply And.intro
        · apply yr_run; rfl; intro w' hw'; go_simp; (try with_reducible rfl)
        simp only [Act.put, List.setIfInBounds_toArray, List.set_cons_zero, List.set_cons_succ]
        refine wpR_two 3 10 (by kernel_rfl) ?_ ?_
        · apply at_call 3 (some 62)
          · simp only [List.getElem?_toArray, List.getElem?_cons_succ, List.getElem?_cons_zero]; exact rfl
          · rfl
          · rfl
          · intro w'; go_simp; first | done | exact ⟨rfl, rfl⟩ | with_reducible rfl
          intro w' hw'
          have E_1_2 := Lib.hid (Ext.trans EX9.out (hw'))
          refine (ridput_4 A1 N1 c1 X1 o.s1 o.n1 _ HN1.out (HR1.out.bl E_1_2.out) (by omega) HC1.out).mono ?_
          rintro e w'' ⟨A3, c3, rfl, hr3, hn3, -, hb⟩
          have E_1_3 := Lib.hid (Ext.trans E_1_2.out (hb))
          have UM_1_1 := Lib.hid hr3
          clear hr3 hn3
          have hkk : Kept (From_ B0) W1.drew w'' := (Kept.of_ext hw').trans (Kept.of_below hb)
          refine ⟨_, rfl, Kept.of_below hb, ?_⟩
          obtain ⟨z1_1, gz1_1⟩ : ∃ x, w'' = x := ⟨_, rfl⟩
          rw [gz1_1] at UM_1_1 E_1_3 hkk ⊢
          have ldt1_4 := fun w'' (h : Kept (From_ B0) z1_1 w'') => lC3 w'' (hkk.trans h)
          have ldt1_5 := fun w'' (h : Kept (From_ B0) z1_1 w'') => lC4 w'' (hkk.trans h)
          have ldt1_6 := fun w'' (h : Kept (From_ B0) z1_1 w'') => lC5 w'' (hkk.trans h)
          have ldt1_7 := fun w'' (h : Kept (From_ B0) z1_1 w'') => lC6 w'' (hkk.trans h)
          have ldt1_8 := fun w'' (h : Kept (From_ B0) z1_1 w'') => lC19 w'' (hkk.trans h)
          clear lC3 lC4 lC5 lC6 lC19
          clear hkk hb gz1_1 hw'
          try simp only [Act.put, List.setIfInBounds_toArray, List.set_cons_zero, List.set_cons_succ]
          refine wpR_two 6 10 (by kernel_rfl) ?_ ?_
          · apply at_call 6 (some 65)
            · simp only [List.getElem?_toArray, List.getElem?_cons_succ, List.getElem?_cons_zero]; exact rfl
            · rfl
            · rfl
            · intro w'; go_simp; first | done | exact ⟨rfl, rfl⟩ | with_reducible rfl
            intro w' hw'
            have UM_2_10 := Lib.hid (RdS.bl UM_1_1.out (hw'))
            have E_2_10 := Lib.hid (Ext.trans E_1_3.out (hw'))
            refine (ridput_4 A3 (N1 + 4) c3 (X1 ++ idB (o.s1, o.n1)) o.s2 o.n2 _ (by rw [List.length_append, HN1.out]; rfl) UM_2_10.out (by omega) HC2.out).mono ?_
            rintro e w'' ⟨AA2_9, cc2_9, rfl, -, -, hown, hb⟩
            have NE_R_M_2_9 : RowKit.Hid (∀ a, A3 = some a → 0 < (N1 + 4) → some a.block ≠ (Value.slice AA2_9 (N1 + 4 + 4) cc2_9).ownBlock) := Lib.hid (fun a ha hn e => by have h1 := (hown.lt _ e.symm).1; have h2 := UM_2_10.out.low a ha hn; omega)
            have UM_2_11 := Lib.hid (RdS.bl UM_2_10.out (hb))
            have E_2_11 := Lib.hid (Ext.trans E_2_10.out (hb))
            have RR_n2_9 : RowKit.Hid (Ow W1 B0 5 1 (.slice AA2_9 (N1 + 4 + 4) cc2_9) (N1 + 4 + 4) (rowsV f8 (X1 ++ idB (o.s1, o.n1) ++ idB (o.s2, o.n2))) w'') := Lib.hid ⟨own_lo8 hown (by have h1 := E_2_10.out.size; have h2 := HB0.out; omega), E_2_11.out, Nat.le_of_eq HB0.out, by have h1 := E_2_11.out.size; have h2 := HB0.out; omega⟩
            have hkk : Kept (From_ B0) z1_1 w'' := (Kept.of_ext hw').trans (Kept.of_below hb)
            refine ⟨_, rfl, Kept.of_below hb, ?_⟩
            obtain ⟨z2_9, gz2_9⟩ : ∃ x, w'' = x := ⟨_, rfl⟩
            rw [gz2_9] at RR_n2_9 UM_2_11 E_2_11 hkk ⊢
            have ldt2_12 := fun w'' (h : Kept (From_ B0) z2_9 w'') => ldt1_4 w'' (hkk.trans h)
            have ldt2_13 := fun w'' (h : Kept (From_ B0) z2_9 w'') => ldt1_5 w'' (hkk.trans h)
            have ldt2_14 := fun w'' (h : Kept (From_ B0) z2_9 w'') => ldt1_6 w'' (hkk.trans h)
            have ldt2_15 := fun w'' (h : Kept (From_ B0) z2_9 w'') => ldt1_7 w'' (hkk.trans h)
            have ldt2_16 := fun w'' (h : Kept (From_ B0) z2_9 w'') => ldt1_8 w'' (hkk.trans h)
            clear ldt1_4 ldt1_5 ldt1_6 ldt1_7 ldt1_8
            clear hkk hown hb gz2_9 hw'
            try simp only [Act.put, List.setIfInBounds_toArray, List.set_cons_zero, List.set_cons_succ]
            refine wpR_one 10 (by kernel_rfl) ?_
            apply at_run 10 (some 69)
            · simp only [List.getElem?_toArray, List.getElem?_cons_succ, List.getElem?_cons_zero]; exact rfl
            · rfl
            · rfl
            intro w' hw'
            have RR_2_18 := Lib.hid (Ow.up RR_n2_9.out (hw'))
            have UM_2_18 := Lib.hid (RdS.bl UM_2_11.out (hw'))
            have E_2_18 := Lib.hid (Ext.trans E_2_11.out (hw'))
            refine ⟨.slice (some ⟨w'.heap.size, 0, none⟩) 1 1, w'.alloc (.cells (#[.int .u8 (q2 : Int)]) 5), exec_buildSlice 22 5 1 #[(0, .tmp 68)] (by rfl) Try.underlying22 _ (by kernel_rfl), Kept.of_below (below1 _ _), ?_⟩
            have NE_R_S_2_17 : RowKit.Hid (some w'.heap.size ≠ _) := Lib.hid (Ow.ne_ RR_2_18.out (Nat.le_refl _))
            have RR_2_19 := Lib.hid (Ow.up RR_2_18.out (below1 w' (.cells (#[.int .u8 (q2 : Int)]) 5)))
            have UM_2_19 := Lib.hid (RdS.bl UM_2_18.out (below1 w' (.cells (#[.int .u8 (q2 : Int)]) 5)))
            have E_2_19 := Lib.hid (Ext.trans E_2_18.out (below1 w' (.cells (#[.int .u8 (q2 : Int)]) 5)))
            have US_n2_17 : RowKit.Hid (RdS (w'.alloc (.cells (#[.int .u8 (q2 : Int)]) 5)) (w'.alloc (.cells (#[.int .u8 (q2 : Int)]) 5)).heap.size 1 (some ⟨w'.heap.size, 0, none⟩) 1 1 (rowsV f8 [q2])) := Lib.hid (RdS.of_whole8 (Whole.new_ _ _ _) rfl)
            have hkk : Kept (From_ B0) z2_9 (w'.alloc (.cells (#[.int .u8 (q2 : Int)]) 5)) := (Kept.of_ext hw').trans (Kept.of_below (below1 _ _))
            obtain ⟨v2_20, gv2_20⟩ : ∃ x, w'.alloc (.cells (#[.int .u8 (q2 : Int)]) 5) = x := ⟨_, rfl⟩
            rw [gv2_20] at RR_2_19 UM_2_19 US_n2_17 E_2_19 hkk ⊢
            have ldt2_21 := fun w'' (h : Kept (From_ B0) v2_20 w'') => ldt2_12 w'' (hkk.trans h)
            have ldt2_22 := fun w'' (h : Kept (From_ B0) v2_20 w'') => ldt2_13 w'' (hkk.trans h)
            have ldt2_23 := fun w'' (h : Kept (From_ B0) v2_20 w'') => ldt2_14 w'' (hkk.trans h)
            have ldt2_24 := fun w'' (h : Kept (From_ B0) v2_20 w'') => ldt2_15 w'' (hkk.trans h)
            have ldt2_25 := fun w'' (h : Kept (From_ B0) v2_20 w'') => ldt2_16 w'' (hkk.trans h)
            clear ldt2_12 ldt2_13 ldt2_14 ldt2_15 ldt2_16
            clear gv2_20 hkk
            obtain ⟨g2_17, gg2_17⟩ : ∃ x, w'.heap.size = x := ⟨_, rfl⟩
            rw [gg2_17] at US_n2_17 NE_R_S_2_17 ⊢
            clear gg2_17 hw'
            have NF_NE_R_S_2_17 : RowKit.Hid (∀ a, (some (⟨g2_17, 0, none⟩ : Addr)) = some a → 0 < 1 → some a.block ≠ _) := Lib.hid (fun a ha _ => by obtain rfl := Option.some.inj ha; exact NE_R_S_2_17.out)
            try simp only [Act.put, List.setIfInBounds_toArray, List.set_cons_zero, List.set_cons_succ]
            refine wpR_one 11 (by kernel_rfl) ?_
            apply at_run 11 (some 70)
            · simp only [List.getElem?_toArray, List.getElem?_cons_succ, List.getElem?_cons_zero]; exact rfl
            · rfl
            · rfl
            intro w' hw'
            have RR_2_27 := Lib.hid (Ow.up RR_2_19.out (hw'))
            have UM_2_27 := Lib.hid (RdS.bl UM_2_19.out (hw'))
            have US_2_27 := Lib.hid (RdS.bl US_n2_17.out (hw'))
            have E_2_27 := Lib.hid (Ext.trans E_2_19.out (hw'))
            obtain ⟨vv, w'', hrun, ho, hb, hg, hbk⟩ := Ow.app2 (P := Try.prog) 22 22 5 i0 _ 1 1 _ Try.underlying22 hi hz0 hz1 hz2 rfl (by decide) _ _ _ RR_2_27.out _ _ _ _ _ (US_2_27.out) (f8_all [q2]) (by unfold maxLen; omega) (by omega)
            refine ⟨vv, w'', exec_append (by rfl) (by rfl) (by rfl) hrun, Kept.of_from hb, ?_⟩
            have UM_2_26 := Lib.hid (RdS.grown UM_2_27.out hg NE_R_M_2_9.out)
            have NE_R_M_2_26 : RowKit.Hid (∀ a, A3 = some a → 0 < (N1 + 4) → some a.block ≠ _) := Lib.hid (fun a ha hn => Ow.ne2 (NE_R_M_2_9.out a ha hn) (UM_2_27.out.low a ha hn) hbk)
            have US_2_26 := Lib.hid (RdS.grown US_2_27.out hg NF_NE_R_S_2_17.out)
            have NE_R_S_2_26 : RowKit.Hid (∀ a, (some (⟨g2_17, 0, none⟩ : Addr)) = some a → 0 < 1 → some a.block ≠ _) := Lib.hid (fun a ha hn => Ow.ne2 (NF_NE_R_S_2_17.out a ha hn) (US_2_27.out.low a ha hn) hbk)
            have E_2_26 : RowKit.Hid (Ext W1 w'') := Lib.hid ho.below
            have hkk : Kept (From_ B0) v2_20 w'' := (Kept.of_ext hw').trans (Kept.of_from hb)
            obtain ⟨AA2_26, cc2_26, rfl, hrr⟩ := ho.rds
            have RR_2_26 := Lib.hid ho
            clear hrr
            obtain ⟨z2_26, gz2_26⟩ : ∃ x, w'' = x := ⟨_, rfl⟩
            rw [gz2_26] at RR_2_26 UM_2_26 US_2_26 E_2_26 hkk ⊢
            have ldt2_28 := fun w'' (h : Kept (From_ B0) z2_26 w'') => ldt2_21 w'' (hkk.trans h)
            have ldt2_29 := fun w'' (h : Kept (From_ B0) z2_26 w'') => ldt2_22 w'' (hkk.trans h)
            have ldt2_30 := fun w'' (h : Kept (From_ B0) z2_26 w'') => ldt2_23 w'' (hkk.trans h)
            have ldt2_31 := fun w'' (h : Kept (From_ B0) z2_26 w'') => ldt2_24 w'' (hkk.trans h)
            have ldt2_32 := fun w'' (h : Kept (From_ B0) z2_26 w'') => ldt2_25 w'' (hkk.trans h)
            clear ldt2_21 ldt2_22 ldt2_23 ldt2_24 ldt2_25
            clear hkk hrun ho hb hg hbk gz2_26 hw'
            try simp only [Act.put, List.setIfInBounds_toArray, List.set_cons_zero, List.set_cons_succ]
            apply wpR_next 12 (some 7)
            · simp only [List.getElem?_toArray, List.getElem?_cons_succ, List.getElem?_cons_zero]; exact rfl
            · rfl
            · kernel_rfl
            · kernel_rfl
            · kernel_rfl
            · first | exact fun _ _ _ _ h => Exit.noConfusion h.1 | exact fun _ _ _ _ h => h
            apply Exists.intro
            apply And.intro
            · apply yr_run; rfl; intro w' hw'; go_simp; (try with_reducible rfl)
            simp only [Act.put, List.setIfInBounds_toArray, List.set_cons_zero, List.set_cons_succ]
            refine wpR_done (by kernel_rfl) ?_ _
            intro wE hwE
            have ho := RR_2_26.out.up hwE
            have HIz : RowKit.Hid (Ow w2 w2.heap.size 5 1 _ _ _ wE) := Lib.hid ⟨own_lo8 ho.own (by have := HB0.out; have := HI1.out.below.size; omega), bel_bl HI1.out.below ho.below, Nat.le_refl _, (bel_bl HI1.out.below ho.below).size⟩
            clear ho hwE ldt2_28 ldt2_29 ldt2_30 ldt2_31 ldt2_32
            go_wp2
            go_roundw
            case rel => exact ⟨k + 1, N1 + 4 + 4 + 1, AA2_26, cc2_26, by omega, by go_num, rfl, by rw [HNx.out, HFd.out]; rw [List.length_append, List.length_append, List.length_append, HN1.out]; simp [idB], Lib.hid (by have := HIz.out; rw [HNx.out, HFd.out]; rw [show X1 ++ (idB (o.s1, o.n1) ++ (idB (o.s2, o.n2) ++ [q2])) = X1 ++ idB (o.s1, o.n1) ++ idB (o.s2, o.n2) ++ [q2] from by simp only [List.append_assoc], rowsV_app f8 (X1 ++ idB (o.s1, o.n1) ++ idB (o.s2, o.n2))]; exact this)⟩
            case measure => simp [intOf]; omega
          · apply at_run 10 (some 69)
            · simp only [List.getElem?_toArray, List.getElem?_cons_succ, List.getElem?_cons_zero]; exact rfl
            · rfl
            · rfl
            intro w' hw'
            have UM_3_34 := Lib.hid (RdS.bl UM_1_1.out (hw'))
            have E_3_34 := Lib.hid (Ext.trans E_1_3.out (hw'))
            refine ⟨.slice (some ⟨w'.heap.size, 0, none⟩) 1 1, w'.alloc (.cells (#[.int .u8 (q2 : Int)]) 5), exec_buildSlice 22 5 1 #[(0, .tmp 68)] (by rfl) Try.underlying22 _ (by kernel_rfl), Kept.of_below (below1 _ _), ?_⟩
            have UM_3_35 := Lib.hid (RdS.bl UM_3_34.out (below1 w' (.cells (#[.int .u8 (q2 : Int)]) 5)))
            have E_3_35 := Lib.hid (Ext.trans E_3_34.out (below1 w' (.cells (#[.int .u8 (q2 : Int)]) 5)))
            have US_n3_33 : RowKit.Hid (RdS (w'.alloc (.cells (#[.int .u8 (q2 : Int)]) 5)) (w'.alloc (.cells (#[.int .u8 (q2 : Int)]) 5)).heap.size 1 (some ⟨w'.heap.size, 0, none⟩) 1 1 (rowsV f8 [q2])) := Lib.hid (RdS.of_whole8 (Whole.new_ _ _ _) rfl)
            have hkk : Kept (From_ B0) z1_1 (w'.alloc (.cells (#[.int .u8 (q2 : Int)]) 5)) := (Kept.of_ext hw').trans (Kept.of_below (below1 _ _))
            obtain ⟨v3_36, gv3_36⟩ : ∃ x, w'.alloc (.cells (#[.int .u8 (q2 : Int)]) 5) = x := ⟨_, rfl⟩
            rw [gv3_36] at UM_3_35 US_n3_33 E_3_35 hkk ⊢
            have ldt3_37 := fun w'' (h : Kept (From_ B0) v3_36 w'') => ldt1_4 w'' (hkk.trans h)
            have ldt3_38 := fun w'' (h : Kept (From_ B0) v3_36 w'') => ldt1_5 w'' (hkk.trans h)
            have ldt3_39 := fun w'' (h : Kept (From_ B0) v3_36 w'') => ldt1_6 w'' (hkk.trans h)
            have ldt3_40 := fun w'' (h : Kept (From_ B0) v3_36 w'') => ldt1_7 w'' (hkk.trans h)
            have ldt3_41 := fun w'' (h : Kept (From_ B0) v3_36 w'') => ldt1_8 w'' (hkk.trans h)
            clear ldt1_4 ldt1_5 ldt1_6 ldt1_7 ldt1_8
            clear gv3_36 hkk
            obtain ⟨g3_33, gg3_33⟩ : ∃ x, w'.heap.size = x := ⟨_, rfl⟩
            rw [gg3_33] at US_n3_33  ⊢
            clear gg3_33 hw'
            try simp only [Act.put, List.setIfInBounds_toArray, List.set_cons_zero, List.set_cons_succ]
            refine wpR_one 6 (by kernel_rfl) ?_
            apply at_call 6 (some 65)
            · simp only [List.getElem?_toArray, List.getElem?_cons_succ, List.getElem?_cons_zero]; exact rfl
            · rfl
            · rfl
            · intro w'; go_simp; first | done | exact ⟨rfl, rfl⟩ | with_reducible rfl
            intro w' hw'
            have UM_3_43 := Lib.hid (RdS.bl UM_3_35.out (hw'))
            have US_3_43 := Lib.hid (RdS.bl US_n3_33.out (hw'))
            have E_3_43 := Lib.hid (Ext.trans E_3_35.out (hw'))
            refine (ridput_4 A3 (N1 + 4) c3 (X1 ++ idB (o.s1, o.n1)) o.s2 o.n2 _ (by rw [List.length_append, HN1.out]; rfl) UM_3_43.out (by omega) HC2.out).mono ?_
            rintro e w'' ⟨AA3_42, cc3_42, rfl, -, -, hown, hb⟩
            have NE_R_M_3_42 : RowKit.Hid (∀ a, A3 = some a → 0 < (N1 + 4) → some a.block ≠ (Value.slice AA3_42 (N1 + 4 + 4) cc3_42).ownBlock) := Lib.hid (fun a ha hn e => by have h1 := (hown.lt _ e.symm).1; have h2 := UM_3_43.out.low a ha hn; omega)
            have NE_R_S_3_42 : RowKit.Hid (∀ a, (some (⟨g3_33, 0, none⟩ : Addr)) = some a → 0 < 1 → some a.block ≠ (Value.slice AA3_42 (N1 + 4 + 4) cc3_42).ownBlock) := Lib.hid (fun a ha hn e => by have h1 := (hown.lt _ e.symm).1; have h2 := US_3_43.out.low a ha hn; omega)
            have UM_3_44 := Lib.hid (RdS.bl UM_3_43.out (hb))
            have US_3_44 := Lib.hid (RdS.bl US_3_43.out (hb))
            have E_3_44 := Lib.hid (Ext.trans E_3_43.out (hb))
            have RR_n3_42 : RowKit.Hid (Ow W1 B0 5 1 (.slice AA3_42 (N1 + 4 + 4) cc3_42) (N1 + 4 + 4) (rowsV f8 (X1 ++ idB (o.s1, o.n1) ++ idB (o.s2, o.n2))) w'') := Lib.hid ⟨own_lo8 hown (by have h1 := E_3_43.out.size; have h2 := HB0.out; omega), E_3_44.out, Nat.le_of_eq HB0.out, by have h1 := E_3_44.out.size; have h2 := HB0.out; omega⟩
            have hkk : Kept (From_ B0) v3_36 w'' := (Kept.of_ext hw').trans (Kept.of_below hb)
            refine ⟨_, rfl, Kept.of_below hb, ?_⟩
            obtain ⟨z3_42, gz3_42⟩ : ∃ x, w'' = x := ⟨_, rfl⟩
            rw [gz3_42] at RR_n3_42 UM_3_44 US_3_44 E_3_44 hkk ⊢
            have ldt3_45 := fun w'' (h : Kept (From_ B0) z3_42 w'') => ldt3_37 w'' (hkk.trans h)
            have ldt3_46 := fun w'' (h : Kept (From_ B0) z3_42 w'') => ldt3_38 w'' (hkk.trans h)
            have ldt3_47 := fun w'' (h : Kept (From_ B0) z3_42 w'') => ldt3_39 w'' (hkk.trans h)
            have ldt3_48 := fun w'' (h : Kept (From_ B0) z3_42 w'') => ldt3_40 w'' (hkk.trans h)
            have ldt3_49 := fun w'' (h : Kept (From_ B0) z3_42 w'') => ldt3_41 w'' (hkk.trans h)
            clear ldt3_37 ldt3_38 ldt3_39 ldt3_40 ldt3_41
            clear hkk hown hb gz3_42 hw'
            try simp only [Act.put, List.setIfInBounds_toArray, List.set_cons_zero, List.set_cons_succ]
            refine wpR_one 11 (by kernel_rfl) ?_
            apply at_run 11 (some 70)
            · simp only [List.getElem?_toArray, List.getElem?_cons_succ, List.getElem?_cons_zero]; exact rfl
            · rfl
            · rfl
            intro w' hw'
            have RR_3_51 := Lib.hid (Ow.up RR_n3_42.out (hw'))
            have UM_3_51 := Lib.hid (RdS.bl UM_3_44.out (hw'))
            have US_3_51 := Lib.hid (RdS.bl US_3_44.out (hw'))
            have E_3_51 := Lib.hid (Ext.trans E_3_44.out (hw'))
            obtain ⟨vv, w'', hrun, ho, hb, hg, hbk⟩ := Ow.app2 (P := Try.prog) 22 22 5 i0 _ 1 1 _ Try.underlying22 hi hz0 hz1 hz2 rfl (by decide) _ _ _ RR_3_51.out _ _ _ _ _ (US_3_51.out) (f8_all [q2]) (by unfold maxLen; omega) (by omega)
            refine ⟨vv, w'', exec_append (by rfl) (by rfl) (by rfl) hrun, Kept.of_from hb, ?_⟩
            have UM_3_50 := Lib.hid (RdS.grown UM_3_51.out hg NE_R_M_3_42.out)
            have NE_R_M_3_50 : RowKit.Hid (∀ a, A3 = some a → 0 < (N1 + 4) → some a.block ≠ _) := Lib.hid (fun a ha hn => Ow.ne2 (NE_R_M_3_42.out a ha hn) (UM_3_51.out.low a ha hn) hbk)
            have US_3_50 := Lib.hid (RdS.grown US_3_51.out hg NE_R_S_3_42.out)
            have NE_R_S_3_50 : RowKit.Hid (∀ a, (some (⟨g3_33, 0, none⟩ : Addr)) = some a → 0 < 1 → some a.block ≠ _) := Lib.hid (fun a ha hn => Ow.ne2 (NE_R_S_3_42.out a ha hn) (US_3_51.out.low a ha hn) hbk)
            have E_3_50 : RowKit.Hid (Ext W1 w'') := Lib.hid ho.below
            have hkk : Kept (From_ B0) z3_42 w'' := (Kept.of_ext hw').trans (Kept.of_from hb)
            obtain ⟨AA3_50, cc3_50, rfl, hrr⟩ := ho.rds
            have RR_3_50 := Lib.hid ho
            clear hrr
            obtain ⟨z3_50, gz3_50⟩ : ∃ x, w'' = x := ⟨_, rfl⟩
            rw [gz3_50] at RR_3_50 UM_3_50 US_3_50 E_3_50 hkk ⊢
            have ldt3_52 := fun w'' (h : Kept (From_ B0) z3_50 w'') => ldt3_45 w'' (hkk.trans h)
            have ldt3_53 := fun w'' (h : Kept (From_ B0) z3_50 w'') => ldt3_46 w'' (hkk.trans h)
            have ldt3_54 := fun w'' (h : Kept (From_ B0) z3_50 w'') => ldt3_47 w'' (hkk.trans h)
            have ldt3_55 := fun w'' (h : Kept (From_ B0) z3_50 w'') => ldt3_48 w'' (hkk.trans h)
            have ldt3_56 := fun w'' (h : Kept (From_ B0) z3_50 w'') => ldt3_49 w'' (hkk.trans h)
            clear ldt3_45 ldt3_46 ldt3_47 ldt3_48 ldt3_49
            clear hkk hrun ho hb hg hbk gz3_50 hw'
            try simp only [Act.put, List.setIfInBounds_toArray, List.set_cons_zero, List.set_cons_succ]
            apply wpR_next 12 (some 7)
            · simp only [List.getElem?_toArray, List.getElem?_cons_succ, List.getElem?_cons_zero]; exact rfl
            · rfl
            · kernel_rfl
            · kernel_rfl
            · kernel_rfl
            · first | exact fun _ _ _ _ h => Exit.noConfusion h.1 | exact fun _ _ _ _ h => h
            apply Exists.intro
            apply And.intro
            · apply yr_run; rfl; intro w' hw'; go_simp; (try with_reducible rfl)
            simp only [Act.put, List.setIfInBounds_toArray, List.set_cons_zero, List.set_cons_succ]
            refine wpR_done (by kernel_rfl) ?_ _
            intro wE hwE
            have ho := RR_3_50.out.up hwE
            have HIz : RowKit.Hid (Ow w2 w2.heap.size 5 1 _ _ _ wE) := Lib.hid ⟨own_lo8 ho.own (by have := HB0.out; have := HI1.out.below.size; omega), bel_bl HI1.out.below ho.below, Nat.le_refl _, (bel_bl HI1.out.below ho.below).size⟩
            clear ho hwE ldt3_52 ldt3_53 ldt3_54 ldt3_55 ldt3_56
            go_wp2
            go_roundw
            case rel => exact ⟨k + 1, N1 + 4 + 4 + 1, AA3_50, cc3_50, by omega, by go_num, rfl, by rw [HNx.out, HFd.out]; rw [List.length_append, List.length_append, List.length_append, HN1.out]; simp [idB], Lib.hid (by have := HIz.out; rw [HNx.out, HFd.out]; rw [show X1 ++ (idB (o.s1, o.n1) ++ (idB (o.s2, o.n2) ++ [q2])) = X1 ++ idB (o.s1, o.n1) ++ idB (o.s2, o.n2) ++ [q2] from by simp only [List.append_assoc], rowsV_app f8 (X1 ++ idB (o.s1, o.n1) ++ idB (o.s2, o.n2))]; exact this)⟩
            case measure => simp [intOf]; omega
        · apply at_run 10 (some 69)
          · simp only [List.getElem?_toArray, List.getElem?_cons_succ, List.getElem?_cons_zero]; exact rfl
          · rfl
          · rfl
          intro w' hw'
          have E_4_58 := Lib.hid (Ext.trans EX9.out (hw'))
          refine ⟨.slice (some ⟨w'.heap.size, 0, none⟩) 1 1, w'.alloc (.cells (#[.int .u8 (q2 : Int)]) 5), exec_buildSlice 22 5 1 #[(0, .tmp 68)] (by rfl) Try.underlying22 _ (by kernel_rfl), Kept.of_below (below1 _ _), ?_⟩
          have E_4_59 := Lib.hid (Ext.trans E_4_58.out (below1 w' (.cells (#[.int .u8 (q2 : Int)]) 5)))
          have US_n4_57 : RowKit.Hid (RdS (w'.alloc (.cells (#[.int .u8 (q2 : Int)]) 5)) (w'.alloc (.cells (#[.int .u8 (q2 : Int)]) 5)).heap.size 1 (some ⟨w'.heap.size, 0, none⟩) 1 1 (rowsV f8 [q2])) := Lib.hid (RdS.of_whole8 (Whole.new_ _ _ _) rfl)
          have hkk : Kept (From_ B0) W1.drew (w'.alloc (.cells (#[.int .u8 (q2 : Int)]) 5)) := (Kept.of_ext hw').trans (Kept.of_below (below1 _ _))
          obtain ⟨v4_60, gv4_60⟩ : ∃ x, w'.alloc (.cells (#[.int .u8 (q2 : Int)]) 5) = x := ⟨_, rfl⟩
          rw [gv4_60] at US_n4_57 E_4_59 hkk ⊢
          have ldt4_61 := fun w'' (h : Kept (From_ B0) v4_60 w'') => lC3 w'' (hkk.trans h)
          have ldt4_62 := fun w'' (h : Kept (From_ B0) v4_60 w'') => lC4 w'' (hkk.trans h)
          have ldt4_63 := fun w'' (h : Kept (From_ B0) v4_60 w'') => lC5 w'' (hkk.trans h)
          have ldt4_64 := fun w'' (h : Kept (From_ B0) v4_60 w'') => lC6 w'' (hkk.trans h)
          have ldt4_65 := fun w'' (h : Kept (From_ B0) v4_60 w'') => lC19 w'' (hkk.trans h)
          clear lC3 lC4 lC5 lC6 lC19
          clear gv4_60 hkk
          obtain ⟨g4_57, gg4_57⟩ : ∃ x, w'.heap.size = x := ⟨_, rfl⟩
          rw [gg4_57] at US_n4_57  ⊢
          clear gg4_57 hw'
          try simp only [Act.put, List.setIfInBounds_toArray, List.set_cons_zero, List.set_cons_succ]
          refine wpR_one 3 (by kernel_rfl) ?_
          apply at_call 3 (some 62)
          · simp only [List.getElem?_toArray, List.getElem?_cons_succ, List.getElem?_cons_zero]; exact rfl
          · rfl
          · rfl
          · intro w'; go_simp; first | done | exact ⟨rfl, rfl⟩ | with_reducible rfl
          intro w' hw'
          have US_4_67 := Lib.hid (RdS.bl US_n4_57.out (hw'))
          have E_4_67 := Lib.hid (Ext.trans E_4_59.out (hw'))
          refine (ridput_4 A1 N1 c1 X1 o.s1 o.n1 _ HN1.out (HR1.out.bl E_4_67.out) (by omega) HC1.out).mono ?_
          rintro e w'' ⟨A3, c3, rfl, hr3, hn3, -, hb⟩
          have US_4_68 := Lib.hid (RdS.bl US_4_67.out (hb))
          have E_4_68 := Lib.hid (Ext.trans E_4_67.out (hb))
          have UM_4_66 := Lib.hid hr3
          clear hr3 hn3
          have hkk : Kept (From_ B0) v4_60 w'' := (Kept.of_ext hw').trans (Kept.of_below hb)
          refine ⟨_, rfl, Kept.of_below hb, ?_⟩
          obtain ⟨z4_66, gz4_66⟩ : ∃ x, w'' = x := ⟨_, rfl⟩
          rw [gz4_66] at US_4_68 UM_4_66 E_4_68 hkk ⊢
          have ldt4_69 := fun w'' (h : Kept (From_ B0) z4_66 w'') => ldt4_61 w'' (hkk.trans h)
          have ldt4_70 := fun w'' (h : Kept (From_ B0) z4_66 w'') => ldt4_62 w'' (hkk.trans h)
          have ldt4_71 := fun w'' (h : Kept (From_ B0) z4_66 w'') => ldt4_63 w'' (hkk.trans h)
          have ldt4_72 := fun w'' (h : Kept (From_ B0) z4_66 w'') => ldt4_64 w'' (hkk.trans h)
          have ldt4_73 := fun w'' (h : Kept (From_ B0) z4_66 w'') => ldt4_65 w'' (hkk.trans h)
          clear ldt4_61 ldt4_62 ldt4_63 ldt4_64 ldt4_65
          clear hkk hb gz4_66 hw'
          try simp only [Act.put, List.setIfInBounds_toArray, List.set_cons_zero, List.set_cons_succ]
          refine wpR_one 6 (by kernel_rfl) ?_
          apply at_call 6 (some 65)
          · simp only [List.getElem?_toArray, List.getElem?_cons_succ, List.getElem?_cons_zero]; exact rfl
          · rfl
          · rfl
          · intro w'; go_simp; first | done | exact ⟨rfl, rfl⟩ | with_reducible rfl
          intro w' hw'
          have US_4_75 := Lib.hid (RdS.bl US_4_68.out (hw'))
          have UM_4_75 := Lib.hid (RdS.bl UM_4_66.out (hw'))
          have E_4_75 := Lib.hid (Ext.trans E_4_68.out (hw'))
          refine (ridput_4 A3 (N1 + 4) c3 (X1 ++ idB (o.s1, o.n1)) o.s2 o.n2 _ (by rw [List.length_append, HN1.out]; rfl) UM_4_75.out (by omega) HC2.out).mono ?_
          rintro e w'' ⟨AA4_74, cc4_74, rfl, -, -, hown, hb⟩
          have NE_R_S_4_74 : RowKit.Hid (∀ a, (some (⟨g4_57, 0, none⟩ : Addr)) = some a → 0 < 1 → some a.block ≠ (Value.slice AA4_74 (N1 + 4 + 4) cc4_74).ownBlock) := Lib.hid (fun a ha hn e => by have h1 := (hown.lt _ e.symm).1; have h2 := US_4_75.out.low a ha hn; omega)
          have NE_R_M_4_74 : RowKit.Hid (∀ a, A3 = some a → 0 < (N1 + 4) → some a.block ≠ (Value.slice AA4_74 (N1 + 4 + 4) cc4_74).ownBlock) := Lib.hid (fun a ha hn e => by have h1 := (hown.lt _ e.symm).1; have h2 := UM_4_75.out.low a ha hn; omega)
          have US_4_76 := Lib.hid (RdS.bl US_4_75.out (hb))
          have UM_4_76 := Lib.hid (RdS.bl UM_4_75.out (hb))
          have E_4_76 := Lib.hid (Ext.trans E_4_75.out (hb))
          have RR_n4_74 : RowKit.Hid (Ow W1 B0 5 1 (.slice AA4_74 (N1 + 4 + 4) cc4_74) (N1 + 4 + 4) (rowsV f8 (X1 ++ idB (o.s1, o.n1) ++ idB (o.s2, o.n2))) w'') := Lib.hid ⟨own_lo8 hown (by have h1 := E_4_75.out.size; have h2 := HB0.out; omega), E_4_76.out, Nat.le_of_eq HB0.out, by have h1 := E_4_76.out.size; have h2 := HB0.out; omega⟩
          have hkk : Kept (From_ B0) z4_66 w'' := (Kept.of_ext hw').trans (Kept.of_below hb)
          refine ⟨_, rfl, Kept.of_below hb, ?_⟩
          obtain ⟨z4_74, gz4_74⟩ : ∃ x, w'' = x := ⟨_, rfl⟩
          rw [gz4_74] at RR_n4_74 US_4_76 UM_4_76 E_4_76 hkk ⊢
          have ldt4_77 := fun w'' (h : Kept (From_ B0) z4_74 w'') => ldt4_69 w'' (hkk.trans h)
          have ldt4_78 := fun w'' (h : Kept (From_ B0) z4_74 w'') => ldt4_70 w'' (hkk.trans h)
          have ldt4_79 := fun w'' (h : Kept (From_ B0) z4_74 w'') => ldt4_71 w'' (hkk.trans h)
          have ldt4_80 := fun w'' (h : Kept (From_ B0) z4_74 w'') => ldt4_72 w'' (hkk.trans h)
          have ldt4_81 := fun w'' (h : Kept (From_ B0) z4_74 w'') => ldt4_73 w'' (hkk.trans h)
          clear ldt4_69 ldt4_70 ldt4_71 ldt4_72 ldt4_73
          clear hkk hown hb gz4_74 hw'
          try simp only [Act.put, List.setIfInBounds_toArray, List.set_cons_zero, List.set_cons_succ]
          refine wpR_one 11 (by kernel_rfl) ?_
          apply at_run 11 (some 70)
          · simp only [List.getElem?_toArray, List.getElem?_cons_succ, List.getElem?_cons_zero]; exact rfl
          · rfl
          · rfl
          intro w' hw'
          have RR_4_83 := Lib.hid (Ow.up RR_n4_74.out (hw'))
          have US_4_83 := Lib.hid (RdS.bl US_4_76.out (hw'))
          have UM_4_83 := Lib.hid (RdS.bl UM_4_76.out (hw'))
          have E_4_83 := Lib.hid (Ext.trans E_4_76.out (hw'))
          obtain ⟨vv, w'', hrun, ho, hb, hg, hbk⟩ := Ow.app2 (P := Try.prog) 22 22 5 i0 _ 1 1 _ Try.underlying22 hi hz0 hz1 hz2 rfl (by decide) _ _ _ RR_4_83.out _ _ _ _ _ (US_4_83.out) (f8_all [q2]) (by unfold maxLen; omega) (by omega)
          refine ⟨vv, w'', exec_append (by rfl) (by rfl) (by rfl) hrun, Kept.of_from hb, ?_⟩
          have US_4_82 := Lib.hid (RdS.grown US_4_83.out hg NE_R_S_4_74.out)
          have NE_R_S_4_82 : RowKit.Hid (∀ a, (some (⟨g4_57, 0, none⟩ : Addr)) = some a → 0 < 1 → some a.block ≠ _) := Lib.hid (fun a ha hn => Ow.ne2 (NE_R_S_4_74.out a ha hn) (US_4_83.out.low a ha hn) hbk)
          have UM_4_82 := Lib.hid (RdS.grown UM_4_83.out hg NE_R_M_4_74.out)
          have NE_R_M_4_82 : RowKit.Hid (∀ a, A3 = some a → 0 < (N1 + 4) → some a.block ≠ _) := Lib.hid (fun a ha hn => Ow.ne2 (NE_R_M_4_74.out a ha hn) (UM_4_83.out.low a ha hn) hbk)
          have E_4_82 : RowKit.Hid (Ext W1 w'') := Lib.hid ho.below
          have hkk : Kept (From_ B0) z4_74 w'' := (Kept.of_ext hw').trans (Kept.of_from hb)
          obtain ⟨AA4_82, cc4_82, rfl, hrr⟩ := ho.rds
          have RR_4_82 := Lib.hid ho
          clear hrr
          obtain ⟨z4_82, gz4_82⟩ : ∃ x, w'' = x := ⟨_, rfl⟩
          rw [gz4_82] at RR_4_82 US_4_82 UM_4_82 E_4_82 hkk ⊢
          have ldt4_84 := fun w'' (h : Kept (From_ B0) z4_82 w'') => ldt4_77 w'' (hkk.trans h)
          have ldt4_85 := fun w'' (h : Kept (From_ B0) z4_82 w'') => ldt4_78 w'' (hkk.trans h)
          have ldt4_86 := fun w'' (h : Kept (From_ B0) z4_82 w'') => ldt4_79 w'' (hkk.trans h)
          have ldt4_87 := fun w'' (h : Kept (From_ B0) z4_82 w'') => ldt4_80 w'' (hkk.trans h)
          have ldt4_88 := fun w'' (h : Kept (From_ B0) z4_82 w'') => ldt4_81 w'' (hkk.trans h)
          clear ldt4_77 ldt4_78 ldt4_79 ldt4_80 ldt4_81
          clear hkk hrun ho hb hg hbk gz4_82 hw'
          try simp only [Act.put, List.setIfInBounds_toArray, List.set_cons_zero, List.set_cons_succ]
          apply wpR_next 12 (some 7)
          · simp only [List.getElem?_toArray, List.getElem?_cons_succ, List.getElem?_cons_zero]; exact rfl
          · rfl
          · kernel_rfl
          · kernel_rfl
          · kernel_rfl
          · first | exact fun _ _ _ _ h => Exit.noConfusion h.1 | exact fun _ _ _ _ h => h
          apply Exists.intro
          apply And.intro
          · apply yr_run; rfl; intro w' hw'; go_simp; (try with_reducible rfl)
          simp only [Act.put, List.setIfInBounds_toArray, List.set_cons_zero, List.set_cons_succ]
          refine wpR_done (by kernel_rfl) ?_ _
          intro wE hwE
          have ho := RR_4_82.out.up hwE
          have HIz : RowKit.Hid (Ow w2 w2.heap.size 5 1 _ _ _ wE) := Lib.hid ⟨own_lo8 ho.own (by have := HB0.out; have := HI1.out.below.size; omega), bel_bl HI1.out.below ho.below, Nat.le_refl _, (bel_bl HI1.out.below ho.below).size⟩
          clear ho hwE ldt4_84 ldt4_85 ldt4_86 ldt4_87 ldt4_88
          go_wp2
          go_roundw
          case rel => exact ⟨k + 1, N1 + 4 + 4 + 1, AA4_82, cc4_82, by omega, by go_num, rfl, by rw [HNx.out, HFd.out]; rw [List.length_append, List.length_append, List.length_append, HN1.out]; simp [idB], Lib.hid (by have := HIz.out; rw [HNx.out, HFd.out]; rw [show X1 ++ (idB (o.s1, o.n1) ++ (idB (o.s2, o.n2) ++ [q2])) = X1 ++ idB (o.s1, o.n1) ++ idB (o.s2, o.n2) ++ [q2] from by simp only [List.append_assoc], rowsV_app f8 (X1 ++ idB (o.s1, o.n1) ++ idB (o.s2, o.n2))]; exact this)⟩
          case measure => simp [intOf]; omega
      have q5 : (o.k == 5) = false := by simpa using k5
      by_cases k6 : o.k = 6
      · have q6 : (o.k == 6) = true := by rw [k6]; rfl
        have HFd := Lib.hid (fdB6 k6)
        have HC1 := Lib.hid ((mayO_parts HMo.out).2.2 k6)
        clear k6 k5 k3
        have l5 := HX1.out.cell (i := 5) rfl
        have l6 := HX1.out.cell (i := 6) rfl
        go_upto_region 8 with (first
          | (go_at_call 23
             refine (ridput_4 A1 N1 c1 X1 o.s2 o.n2 _ HN1.out (own_rds HI1.out.own) (by omega) HC1.out).mono ?_
             rintro e wb ⟨Ab, cb, rfl, -, -, h4, h5⟩
             have HI2 := Lib.hid (ow_call HI1.out.below (Ext.refl _) h4 h5)
             clear h4 h5 l0 l5 l6))
        go_wp2
        go_roundw
        case rel => exact ⟨k + 1, N1 + 4, Ab, cb, by omega, by go_num, rfl, by rw [HNx.out, HFd.out]; rw [List.length_append, HN1.out]; rfl, Lib.hid (by have := HI2.out; rw [HNx.out, HFd.out]; exact this)⟩
        case measure => simp [intOf]; omega
      have q6 : (o.k == 6) = false := by simpa using k6
      by_cases k7 : o.k = 7
      · have q7 : (o.k == 7) = true := by rw [k7]; rfl
        have HFd := Lib.hid (fdB7 k7)
        clear k3 k5 k6 k7
        obtain ⟨nt, gnt⟩ : ∃ z, (textB o.t).length = z := ⟨_, rfl⟩
        have hnt : nt ≤ 17 := by rw [← gnt]; simp [textB, tB_len]; omega
        have Gnt := Lib.hid gnt
        clear gnt
        go_upto_region 19 with fail
        clear l0 q3 q5 q6 q7
        have HD : RowKit.Hid (Ext W1 W1.drew) := Lib.hid (below_drewN W1.heap.size W1 1)
        have Hne : RowKit.Hid (some g2 ≠ (Value.slice A1 N1 c1).ownBlock) := Lib.hid (own_ne HI1.out.own HX1.out (by decide))
        have lC17 : ∀ w', Kept (fun i => some i = (Value.slice A1 N1 c1).ownBlock) W1.drew w' → w'.cell? ⟨g2, 17, none⟩ = some (.bool o.e) := fun w' h => h.cell (HX1.out.dr.cell (i := 17) rfl) Hne.out
        have lC18 : ∀ w', Kept (fun i => some i = (Value.slice A1 N1 c1).ownBlock) W1.drew w' → w'.cell? ⟨g2, 18, none⟩ = some (.string o.t) := fun w' h => h.cell (HX1.out.dr.cell (i := 18) rfl) Hne.out
        refine wp_region_reg (fun i => some i = (Value.slice A1 N1 c1).ownBlock) (by kernel_rfl) ?_
        apply wpR_next 0 (some 79)
        · simp only [List.getElem?_toArray, List.getElem?_cons_succ, List.getElem?_cons_zero]; exact rfl
        · rfl
        · kernel_rfl
        · kernel_rfl
        · kernel_rfl
        · exact fun _ _ _ _ h => h
        apply Exists.intro
        apply And.intro
        · apply yr_run; rfl; intro w' hw'; go_simp; (try with_reducible rfl)
        simp only [Act.put, List.setIfInBounds_toArray, List.set_cons_zero, List.set_cons_succ]
        apply wpR_next 1 (some 80)
        · simp only [List.getElem?_toArray, List.getElem?_cons_succ, List.getElem?_cons_zero]; exact rfl
        · rfl
        · kernel_rfl
        · kernel_rfl
        · kernel_rfl
        · exact fun _ _ _ _ h => h
        apply Exists.intro
        apply And.intro
        · apply yr_run; rfl; intro w' hw'; go_simp; (try with_reducible rfl)
        simp only [Act.put, List.setIfInBounds_toArray, List.set_cons_zero, List.set_cons_succ]
        apply wpR_next 2 (some 81)
        · simp only [List.getElem?_toArray, List.getElem?_cons_succ, List.getElem?_cons_zero]; exact rfl
        · rfl
        · kernel_rfl
        · kernel_rfl
        · kernel_rfl
        · exact fun _ _ _ _ h => h
        apply Exists.intro
        apply And.intro
        · apply yr_run; rfl; intro w' hw'; go_simp; (try with_reducible rfl)
        simp only [Act.put, List.setIfInBounds_toArray, List.set_cons_zero, List.set_cons_succ]
        apply wpR_next 6 (some 85)
        · simp only [List.getElem?_toArray, List.getElem?_cons_succ, List.getElem?_cons_zero]; exact rfl
        · rfl
        · kernel_rfl
        · kernel_rfl
        · kernel_rfl
        · exact fun _ _ _ _ h => h
        apply Exists.intro
        apply And.intro
        · apply yr_run; rfl; intro w' hw'; go_simp; (try with_reducible rfl)
        simp only [Act.put, List.setIfInBounds_toArray, List.set_cons_zero, List.set_cons_succ]
        apply wpR_next 7 (some 86)
        · simp only [List.getElem?_toArray, List.getElem?_cons_succ, List.getElem?_cons_zero]; exact rfl
        · rfl
        · kernel_rfl
        · kernel_rfl
        · kernel_rfl
        · exact fun _ _ _ _ h => h
        apply Exists.intro
        apply And.intro
        · apply yr_run; rfl; intro w' hw'; go_simp; (try with_reducible rfl)
        simp only [Act.put, List.setIfInBounds_toArray, List.set_cons_zero, List.set_cons_succ]
        apply wpR_call 3 (some 82)
        · simp only [List.getElem?_toArray, List.getElem?_cons_succ, List.getElem?_cons_zero]; exact rfl
        · rfl
        · kernel_rfl
        · rfl
        · intro w'; go_simp; first | done | exact ⟨rfl, rfl⟩ | with_reducible rfl
        intro w' hw'
        refine (rflag10_any o.e w').mono ?_
        rintro e wf ⟨rfl, hbf⟩
        refine ⟨_, rfl, Kept.of_below hbf, ?_⟩
        have hEf : Ext W1 wf := Ext.trans (Ext.trans HD.out hw') hbf
        have HIf := Lib.hid (HI1.out.up hEf)
        have HXf := Lib.hid (HX1.out.bl hEf)
        have HEf := Lib.hid hEf
        have kk : Kept (fun i => some i = (Value.slice A1 N1 c1).ownBlock) W1.drew wf := (Kept.of_ext hw').trans (Kept.of_below hbf)
        replace lC17 := fun w4 (h : Kept (fun i => some i = (Value.slice A1 N1 c1).ownBlock) (wf) w4) => lC17 w4 (kk.trans h)
        replace lC18 := fun w4 (h : Kept (fun i => some i = (Value.slice A1 N1 c1).ownBlock) (wf) w4) => lC18 w4 (kk.trans h)
        clear hw' hbf hEf kk
        simp only [Act.put, List.setIfInBounds_toArray, List.set_cons_zero, List.set_cons_succ]
        apply wpR_run 4 (some 83)
        · simp only [List.getElem?_toArray, List.getElem?_cons_succ, List.getElem?_cons_zero]; exact rfl
        · rfl
        · kernel_rfl
        · rfl
        intro w' hw'
        refine ⟨.slice (some ⟨w'.heap.size, 0, none⟩) 1 1, w'.alloc (.cells #[.int .u8 (fl o.e : Int)] 5), exec_buildSlice 22 5 1 #[(0, .tmp 82)] (by rfl) Try.underlying22 _ (by kernel_rfl), Kept.of_below (below1 _ _), ?_⟩
        have hE : Ext wf (w'.alloc (.cells #[.int .u8 (fl o.e : Int)] 5)) := Ext.trans hw' (below1 _ _)
        have HIa := Lib.hid (HIf.out.up hE)
        have HXa := Lib.hid (HXf.out.bl hE)
        have HLa := Lib.hid (one8 w' (fl o.e))
        have hEa : Ext W1 (w'.alloc (.cells #[.int .u8 (fl o.e : Int)] 5)) := Ext.trans HEf.out hE
        have HEa := Lib.hid hEa
        have kk : Kept (fun i => some i = (Value.slice A1 N1 c1).ownBlock) wf (w'.alloc (.cells #[.int .u8 (fl o.e : Int)] 5)) := (Kept.of_ext hw').trans (Kept.of_below (below1 _ _))
        replace lC17 := fun w4 (h : Kept (fun i => some i = (Value.slice A1 N1 c1).ownBlock) ((w'.alloc (.cells #[.int .u8 (fl o.e : Int)] 5))) w4) => lC17 w4 (kk.trans h)
        replace lC18 := fun w4 (h : Kept (fun i => some i = (Value.slice A1 N1 c1).ownBlock) ((w'.alloc (.cells #[.int .u8 (fl o.e : Int)] 5))) w4) => lC18 w4 (kk.trans h)
        obtain ⟨wa, gwa⟩ : ∃ z, (w'.alloc (.cells #[.int .u8 (fl o.e : Int)] 5)) = z := ⟨_, rfl⟩
        obtain ⟨ga, gga⟩ : ∃ z, w'.heap.size = z := ⟨_, rfl⟩
        rw [gwa] at HIa HXa HLa HEa lC17 lC18 ⊢
        rw [gga] at HLa ⊢
        clear hw' hE hEa kk gwa gga
        simp only [Act.put, List.setIfInBounds_toArray, List.set_cons_zero, List.set_cons_succ]
        apply wpR_run 5 (some 84)
        · simp only [List.getElem?_toArray, List.getElem?_cons_succ, List.getElem?_cons_zero]; exact rfl
        · rfl
        · kernel_rfl
        · rfl
        intro w' hw'
        obtain ⟨vv, w'', hrun, ho, hb, hg, hbk⟩ := Ow.app2 (P := Try.prog) 22 22 5 i0 _ 1 1 _ Try.underlying22 hi hz0 hz1 hz2 rfl (by decide) _ _ _ (HIa.out.up hw') _ _ _ _ _ (HLa.out.bl hw') (f8_all [fl o.e]) (by unfold maxLen; omega) (by omega)
        refine ⟨vv, w'', exec_append (by rfl) (by rfl) (by rfl) hrun, kept_grow hg (fun i e => e), ?_⟩
        rw [← rowsV_app] at ho
        obtain ⟨Ab, cb, rfl, hrb⟩ := ho.rds
        have HIb := Lib.hid ho
        have HXb := Lib.hid (Whole.grown (HXa.out.bl hw') hg Hne.out)
        have HRb := Lib.hid hrb
        have kk : Kept (fun i => some i = (Value.slice A1 N1 c1).ownBlock) wa w'' := (Kept.of_ext hw').trans (kept_grow hg (fun i e => e))
        replace lC17 := fun w4 (h : Kept (fun i => some i = (Value.slice A1 N1 c1).ownBlock) (w'') w4) => lC17 w4 (kk.trans h)
        replace lC18 := fun w4 (h : Kept (fun i => some i = (Value.slice A1 N1 c1).ownBlock) (w'') w4) => lC18 w4 (kk.trans h)
        obtain ⟨wb, gwb⟩ : ∃ z, w'' = z := ⟨_, rfl⟩
        rw [gwb] at HIb HXb HRb lC17 lC18 ⊢
        clear hw' kk hrun ho hb hg hbk hrb gwb HIa HXa HLa
        simp only [Act.put, List.setIfInBounds_toArray, List.set_cons_zero, List.set_cons_succ]
        apply wpR_call 8 (some 87)
        · simp only [List.getElem?_toArray, List.getElem?_cons_succ, List.getElem?_cons_zero]; exact rfl
        · rfl
        · kernel_rfl
        · rfl
        · intro w'; go_simp; first | done | exact ⟨rfl, rfl⟩ | with_reducible rfl
        intro w' hw'
        refine (rtext_p Ab (N1 + 1) cb (X1 ++ [fl o.e]) o.t w' (by rw [List.length_append, HN1.out]; rfl) (HRb.out.bl hw') (by omega) (by omega) nt Gnt.out).mono ?_
        rintro e wc ⟨A2, c2, rfl, -, -, h4, h5⟩
        refine ⟨_, rfl, Kept.of_below h5, ?_⟩
        have HIc := Lib.hid (ow_call HIb.out.below hw' h4 h5)
        have HXc := Lib.hid (HXb.out.bl (Ext.trans hw' h5))
        clear hw' h4 h5 lC17 lC18 HIb HXb HRb HEa
        simp only [Act.put, List.setIfInBounds_toArray, List.set_cons_zero, List.set_cons_succ]
        apply wpR_next 9 (some 7)
        · simp only [List.getElem?_toArray, List.getElem?_cons_succ, List.getElem?_cons_zero]; exact rfl
        · rfl
        · kernel_rfl
        · kernel_rfl
        · kernel_rfl
        · exact fun _ _ _ _ h => h
        apply Exists.intro
        apply And.intro
        · apply yr_run; rfl; intro w' hw'; go_simp; (try with_reducible rfl)
        simp only [Act.put, List.setIfInBounds_toArray, List.set_cons_zero, List.set_cons_succ]
        refine wpR_done (by kernel_rfl) ?_ _
        intro wE hwE
        have HI2 := Lib.hid (HIc.out.up hwE)
        have HX2 := Lib.hid (HXc.out.bl hwE)
        obtain ⟨W2, gW2⟩ : ∃ z, wE = z := ⟨_, rfl⟩
        rw [gW2] at HI2 HX2 ⊢
        clear hwE gW2 HIc HXc HD Hne HI1 HX1 HIf HXf HEf
        go_wp2
        go_roundw
        case rel => exact ⟨k + 1, N1 + 1 + nt, A2, c2, by omega, by go_num, rfl, by rw [HNx.out, HFd.out]; rw [List.length_append, List.length_cons, HN1.out, Gnt.out]; try omega, Lib.hid (by have := HI2.out; rw [HNx.out, HFd.out]; rw [show X1 ++ fl o.e :: textB o.t = X1 ++ [fl o.e] ++ textB o.t from by simp only [List.append_assoc, List.cons_append, List.nil_append]]; exact this)⟩
        case measure => simp [intOf]; omega
      have q7 : (o.k == 7) = false := by simpa using k7
      by_cases k8 : o.k = 8
      · have q8 : (o.k == 8) = true := by rw [k8]; rfl
        have HFd := Lib.hid (fdB8 k8)
        clear k3 k5 k6 k7 k8
        go_upto_region 21 with fail
        clear l0 q3 q5 q6 q7 q8
        have HD : RowKit.Hid (Ext W1 W1.drew) := Lib.hid (below_drewN W1.heap.size W1 1)
        have Hne : RowKit.Hid (some g2 ≠ (Value.slice A1 N1 c1).ownBlock) := Lib.hid (own_ne HI1.out.own HX1.out (by decide))
        have lC17 : ∀ w', Kept (fun i => some i = (Value.slice A1 N1 c1).ownBlock) W1.drew w' → w'.cell? ⟨g2, 17, none⟩ = some (.bool o.e) := fun w' h => h.cell (HX1.out.dr.cell (i := 17) rfl) Hne.out
        have lC19 : ∀ w', Kept (fun i => some i = (Value.slice A1 N1 c1).ownBlock) W1.drew w' → w'.cell? ⟨g2, 19, none⟩ = some (.int .i64 o.m) := fun w' h => h.cell (HX1.out.dr.cell (i := 19) rfl) Hne.out
        refine wp_region_reg (fun i => some i = (Value.slice A1 N1 c1).ownBlock) (by kernel_rfl) ?_
        apply wpR_next 0 (some 90)
        · simp only [List.getElem?_toArray, List.getElem?_cons_succ, List.getElem?_cons_zero]; exact rfl
        · rfl
        · kernel_rfl
        · kernel_rfl
        · kernel_rfl
        · exact fun _ _ _ _ h => h
        apply Exists.intro
        apply And.intro
        · apply yr_run; rfl; intro w' hw'; go_simp; (try with_reducible rfl)
        simp only [Act.put, List.setIfInBounds_toArray, List.set_cons_zero, List.set_cons_succ]
        apply wpR_next 1 (some 91)
        · simp only [List.getElem?_toArray, List.getElem?_cons_succ, List.getElem?_cons_zero]; exact rfl
        · rfl
        · kernel_rfl
        · kernel_rfl
        · kernel_rfl
        · exact fun _ _ _ _ h => h
        apply Exists.intro
        apply And.intro
        · apply yr_run; rfl; intro w' hw'; go_simp; (try with_reducible rfl)
        simp only [Act.put, List.setIfInBounds_toArray, List.set_cons_zero, List.set_cons_succ]
        apply wpR_next 2 (some 92)
        · simp only [List.getElem?_toArray, List.getElem?_cons_succ, List.getElem?_cons_zero]; exact rfl
        · rfl
        · kernel_rfl
        · kernel_rfl
        · kernel_rfl
        · exact fun _ _ _ _ h => h
        apply Exists.intro
        apply And.intro
        · apply yr_run; rfl; intro w' hw'; go_simp; (try with_reducible rfl)
        simp only [Act.put, List.setIfInBounds_toArray, List.set_cons_zero, List.set_cons_succ]
        apply wpR_next 6 (some 96)
        · simp only [List.getElem?_toArray, List.getElem?_cons_succ, List.getElem?_cons_zero]; exact rfl
        · rfl
        · kernel_rfl
        · kernel_rfl
        · kernel_rfl
        · exact fun _ _ _ _ h => h
        apply Exists.intro
        apply And.intro
        · apply yr_run; rfl; intro w' hw'; go_simp; (try with_reducible rfl)
        simp only [Act.put, List.setIfInBounds_toArray, List.set_cons_zero, List.set_cons_succ]
        apply wpR_next 7 (some 97)
        · simp only [List.getElem?_toArray, List.getElem?_cons_succ, List.getElem?_cons_zero]; exact rfl
        · rfl
        · kernel_rfl
        · kernel_rfl
        · kernel_rfl
        · exact fun _ _ _ _ h => h
        apply Exists.intro
        apply And.intro
        · apply yr_run; rfl; intro w' hw'; go_simp; (try with_reducible rfl)
        simp only [Act.put, List.setIfInBounds_toArray, List.set_cons_zero, List.set_cons_succ]
        apply wpR_call 3 (some 93)
        · simp only [List.getElem?_toArray, List.getElem?_cons_succ, List.getElem?_cons_zero]; exact rfl
        · rfl
        · kernel_rfl
        · rfl
        · intro w'; go_simp; first | done | exact ⟨rfl, rfl⟩ | with_reducible rfl
        intro w' hw'
        refine (rflag10_any o.e w').mono ?_
        rintro e wf ⟨rfl, hbf⟩
        refine ⟨_, rfl, Kept.of_below hbf, ?_⟩
        have hEf : Ext W1 wf := Ext.trans (Ext.trans HD.out hw') hbf
        have HIf := Lib.hid (HI1.out.up hEf)
        have HXf := Lib.hid (HX1.out.bl hEf)
        have HEf := Lib.hid hEf
        have kk : Kept (fun i => some i = (Value.slice A1 N1 c1).ownBlock) W1.drew wf := (Kept.of_ext hw').trans (Kept.of_below hbf)
        replace lC17 := fun w4 (h : Kept (fun i => some i = (Value.slice A1 N1 c1).ownBlock) (wf) w4) => lC17 w4 (kk.trans h)
        replace lC19 := fun w4 (h : Kept (fun i => some i = (Value.slice A1 N1 c1).ownBlock) (wf) w4) => lC19 w4 (kk.trans h)
        clear hw' hbf hEf kk
        simp only [Act.put, List.setIfInBounds_toArray, List.set_cons_zero, List.set_cons_succ]
        apply wpR_run 4 (some 94)
        · simp only [List.getElem?_toArray, List.getElem?_cons_succ, List.getElem?_cons_zero]; exact rfl
        · rfl
        · kernel_rfl
        · rfl
        intro w' hw'
        refine ⟨.slice (some ⟨w'.heap.size, 0, none⟩) 1 1, w'.alloc (.cells #[.int .u8 (fl o.e : Int)] 5), exec_buildSlice 22 5 1 #[(0, .tmp 93)] (by rfl) Try.underlying22 _ (by kernel_rfl), Kept.of_below (below1 _ _), ?_⟩
        have hE : Ext wf (w'.alloc (.cells #[.int .u8 (fl o.e : Int)] 5)) := Ext.trans hw' (below1 _ _)
        have HIa := Lib.hid (HIf.out.up hE)
        have HXa := Lib.hid (HXf.out.bl hE)
        have HLa := Lib.hid (one8 w' (fl o.e))
        have hEa : Ext W1 (w'.alloc (.cells #[.int .u8 (fl o.e : Int)] 5)) := Ext.trans HEf.out hE
        have HEa := Lib.hid hEa
        have kk : Kept (fun i => some i = (Value.slice A1 N1 c1).ownBlock) wf (w'.alloc (.cells #[.int .u8 (fl o.e : Int)] 5)) := (Kept.of_ext hw').trans (Kept.of_below (below1 _ _))
        replace lC17 := fun w4 (h : Kept (fun i => some i = (Value.slice A1 N1 c1).ownBlock) ((w'.alloc (.cells #[.int .u8 (fl o.e : Int)] 5))) w4) => lC17 w4 (kk.trans h)
        replace lC19 := fun w4 (h : Kept (fun i => some i = (Value.slice A1 N1 c1).ownBlock) ((w'.alloc (.cells #[.int .u8 (fl o.e : Int)] 5))) w4) => lC19 w4 (kk.trans h)
        obtain ⟨wa, gwa⟩ : ∃ z, (w'.alloc (.cells #[.int .u8 (fl o.e : Int)] 5)) = z := ⟨_, rfl⟩
        obtain ⟨ga, gga⟩ : ∃ z, w'.heap.size = z := ⟨_, rfl⟩
        rw [gwa] at HIa HXa HLa HEa lC17 lC19 ⊢
        rw [gga] at HLa ⊢
        clear hw' hE hEa kk gwa gga
        simp only [Act.put, List.setIfInBounds_toArray, List.set_cons_zero, List.set_cons_succ]
        apply wpR_run 5 (some 95)
        · simp only [List.getElem?_toArray, List.getElem?_cons_succ, List.getElem?_cons_zero]; exact rfl
        · rfl
        · kernel_rfl
        · rfl
        intro w' hw'
        obtain ⟨vv, w'', hrun, ho, hb, hg, hbk⟩ := Ow.app2 (P := Try.prog) 22 22 5 i0 _ 1 1 _ Try.underlying22 hi hz0 hz1 hz2 rfl (by decide) _ _ _ (HIa.out.up hw') _ _ _ _ _ (HLa.out.bl hw') (f8_all [fl o.e]) (by unfold maxLen; omega) (by omega)
        refine ⟨vv, w'', exec_append (by rfl) (by rfl) (by rfl) hrun, kept_grow hg (fun i e => e), ?_⟩
        rw [← rowsV_app] at ho
        obtain ⟨Ab, cb, rfl, hrb⟩ := ho.rds
        have HIb := Lib.hid ho
        have HXb := Lib.hid (Whole.grown (HXa.out.bl hw') hg Hne.out)
        have HRb := Lib.hid hrb
        have kk : Kept (fun i => some i = (Value.slice A1 N1 c1).ownBlock) wa w'' := (Kept.of_ext hw').trans (kept_grow hg (fun i e => e))
        replace lC17 := fun w4 (h : Kept (fun i => some i = (Value.slice A1 N1 c1).ownBlock) (w'') w4) => lC17 w4 (kk.trans h)
        replace lC19 := fun w4 (h : Kept (fun i => some i = (Value.slice A1 N1 c1).ownBlock) (w'') w4) => lC19 w4 (kk.trans h)
        obtain ⟨wb, gwb⟩ : ∃ z, w'' = z := ⟨_, rfl⟩
        rw [gwb] at HIb HXb HRb lC17 lC19 ⊢
        clear hw' kk hrun ho hb hg hbk hrb gwb HIa HXa HLa
        simp only [Act.put, List.setIfInBounds_toArray, List.set_cons_zero, List.set_cons_succ]
        apply wpR_call 8 (some 98)
        · simp only [List.getElem?_toArray, List.getElem?_cons_succ, List.getElem?_cons_zero]; exact rfl
        · rfl
        · kernel_rfl
        · rfl
        · intro w'; go_simp; first | done | exact ⟨rfl, rfl⟩ | with_reducible rfl
        intro w' hw'
        refine (rnum_p Ab (N1 + 1) cb (X1 ++ [fl o.e]) o.m w' (by rw [List.length_append, HN1.out]; rfl) (HRb.out.bl hw') (by omega)).mono ?_
        rintro e wc ⟨A2, c2, rfl, -, -, h4, h5⟩
        refine ⟨_, rfl, Kept.of_below h5, ?_⟩
        have HIc := Lib.hid (ow_call HIb.out.below hw' h4 h5)
        have HXc := Lib.hid (HXb.out.bl (Ext.trans hw' h5))
        clear hw' h4 h5 lC17 lC19 HIb HXb HRb HEa
        simp only [Act.put, List.setIfInBounds_toArray, List.set_cons_zero, List.set_cons_succ]
        apply wpR_next 9 (some 7)
        · simp only [List.getElem?_toArray, List.getElem?_cons_succ, List.getElem?_cons_zero]; exact rfl
        · rfl
        · kernel_rfl
        · kernel_rfl
        · kernel_rfl
        · exact fun _ _ _ _ h => h
        apply Exists.intro
        apply And.intro
        · apply yr_run; rfl; intro w' hw'; go_simp; (try with_reducible rfl)
        simp only [Act.put, List.setIfInBounds_toArray, List.set_cons_zero, List.set_cons_succ]
        refine wpR_done (by kernel_rfl) ?_ _
        intro wE hwE
        have HI2 := Lib.hid (HIc.out.up hwE)
        have HX2 := Lib.hid (HXc.out.bl hwE)
        obtain ⟨W2, gW2⟩ : ∃ z, wE = z := ⟨_, rfl⟩
        rw [gW2] at HI2 HX2 ⊢
        clear hwE gW2 HIc HXc HD Hne HI1 HX1 HIf HXf HEf
        go_wp2
        go_roundw
        case rel => exact ⟨k + 1, N1 + 1 + 8, A2, c2, by omega, by go_num, rfl, by rw [HNx.out, HFd.out]; rw [List.length_append, List.length_cons, HN1.out, be8_len]; try omega, Lib.hid (by have := HI2.out; rw [HNx.out, HFd.out]; rw [show X1 ++ fl o.e :: be8 o.m = X1 ++ [fl o.e] ++ be8 o.m from by simp only [List.append_assoc, List.cons_append, List.nil_append]]; exact this)⟩
        case measure => simp [intOf]; omega
      have q8 : (o.k == 8) = false := by simpa using k8
      have HFd := Lib.hid (fdB0 k3 k5 k6 k7 k8)
      clear k3 k5 k6 k7 k8
      go_wp2
      go_roundw
      case rel => exact ⟨k + 1, N1, A1, c1, by omega, by go_num, rfl, by rw [HNx.out, HFd.out]; rw [List.append_nil, HN1.out], Lib.hid (by have := HI1.out; rw [HNx.out, HFd.out]; rw [List.append_nil]; exact this)⟩
      case measure => simp [intOf]; omega
    · obtain rfl : n = k := by omega
      have hi1 : ¬ (n : Int) < (n : Int) := by omega
      have hfull : pT B L n = B ++ edB L := by rw [← Hn.out]; exact HPa.out
      rw [hfull] at hN hin
      have HN9 := Lib.hid hN
      have HI9 := Lib.hid hin.out
      clear hin hfull hN hlt
      go_wp2
      exact bodyPost_ret (v := .tuple #[.slice Ak N ck, .int .i64 0]) (by simp [results, Try.results12, go_sem]) rfl ⟨Ak, ck, by first | rw [← HN9.out] | rw [HN9.out, List.length_append], by first | (rw [← HN9.out]; exact own_lo8 HI9.out.own HB2.out.size) | (rw [← List.length_append, ← HN9.out]; exact own_lo8 HI9.out.own HB2.out.size), bel_bl HB2.out HI9.out.below⟩
end Go.Proofs.Ytoiflngpjdghbaa
