/- 'OpcodeTurned' answers true for every edit, every number and every byte.
   No condition beyond the row's own. -/
import Derived.Test.YtoiflngpjdghbaaOAI
import Derived.Test.YtoiflngpjdghbaaRows
import Derived.Test.YtoiflngpjdghbaaOAB

/- OpcodeTurned's walk. -/
namespace Go.Proofs.Ytoiflngpjdghbaa
open Go.RowKit
set_option linter.unusedSimpArgs false
set_option linter.unusedVariables false

/-- A byte turned by another. -/
theorem xor8 (a : Nat) (y : Int) (ha : a < 256) (hy : 0 ≤ y ∧ y < 256) : ∃ z : Nat, bits .xor .u8 (a : Int) y = (z : Int) ∧ z < 256 ∧ (z = a ↔ y = 0) := by
  have hA : (BitVec.ofInt 8 (a : Int)).toNat = a := by simp [BitVec.toNat_ofInt]; omega
  have hY : (BitVec.ofInt 8 y).toNat = y.toNat := by simp [BitVec.toNat_ofInt]; omega
  obtain ⟨u, gu⟩ : ∃ u, BitVec.ofInt 8 (a : Int) = u := ⟨_, rfl⟩
  obtain ⟨v, gv⟩ : ∃ v, BitVec.ofInt 8 y = v := ⟨_, rfl⟩
  rw [gu] at hA
  rw [gv] at hY
  have hlt := (u ^^^ v).isLt
  refine ⟨(u ^^^ v).toNat, ?_, by simpa using hlt, ?_⟩
  · show IntKind.u8.wrap ((BitVec.ofInt 8 (a : Int) ^^^ BitVec.ofInt 8 y).toNat : Int) = _
    rw [gu, gv, IntKind.wrap_u8]
    omega
  · constructor
    · intro h
      have h1 : u ^^^ v = u := BitVec.eq_of_toNat_eq (by rw [h, hA])
      have h2 : u ^^^ (u ^^^ v) = u ^^^ u := by rw [h1]
      rw [← BitVec.xor_assoc, BitVec.xor_self, BitVec.zero_xor] at h2
      rw [h2] at hY
      have : (0#8).toNat = 0 := rfl
      omega
    · intro h
      have h1 : v = 0#8 := BitVec.eq_of_toNat_eq (by rw [hY, h]; rfl)
      rw [h1, BitVec.xor_zero, hA]
theorem set_same {P : List Nat} {i a : Nat} (h : P[i]? = some a) : P.set i a = P := by
  obtain ⟨hl, e⟩ := List.getElem?_eq_some_iff.1 h
  subst e
  exact List.set_getElem_self hl
theorem set_eq {P : List Nat} {i a z : Nat} (h : P[i]? = some a) : P.set i z = P ↔ z = a := by
  obtain ⟨hl, e⟩ := List.getElem?_eq_some_iff.1 h
  constructor
  · intro q
    have this : (P.set i z)[i]? = P[i]? := by rw [q]
    rw [List.getElem?_set_self hl, h] at this
    exact Option.some.inj this
  · rintro rfl
    exact set_same h
set_option maxRecDepth 100000 in
set_option maxHeartbeats 16000000 in
theorem law_turned (A : Option Addr) (n c : Nat) (L : List OpT) (t y : Int) (w : World) (h : RdS w w.heap.size 20 A n c (rowsV opCells L)) (hn : n ≤ maxLen) (hy : 0 ≤ y ∧ y < 256) :
    Calls Try.prog 8 #[.agg #[.slice A n c], .int .i64 t, .int .u8 y] w fun e w' => e = .returned (.bool true) ∧ Below w.heap.size w w' := by
  have HR := Lib.hid (h.al (.cells #[.slice A n c] 25))
  have HX0 : RowKit.Hid (Whole (w.alloc (.cells #[.slice A n c] 25)) w.heap.size 25 [.slice A n c]) := Lib.hid (Whole.new_ _ _ [_])
  have HB0 : RowKit.Hid (Below w.heap.size w (w.alloc (.cells #[.slice A n c] 25))) := Lib.hid (below1 _ _)
  have HF := Lib.hid (fun W h => few10_any A n c L W h hn)
  have hel := fewE_len L
  obtain ⟨E, gE⟩ : ∃ z, fewE L = z := ⟨_, rfl⟩
  rw [gE] at HF hel
  obtain ⟨m, gm⟩ : ∃ z, E.length = z := ⟨_, rfl⟩
  rw [gm] at HF hel
  have Gm := Lib.hid gm
  have HPu := Lib.hid (fun A' c' W (h : RdS W W.heap.size 20 A' m c' (rowsV opCells E)) => oput_any none 0 [] A' m c' E W (rds_nil _ _ _) (by simp) h (by omega))
  have Hy := Lib.hid hy
  clear h gE gm hy
  go_enter Try.func8, Try.ntmps8
  go_upto_region 1 with fail
  obtain ⟨w0, gw0⟩ : ∃ z, w.alloc (.cells #[.slice A n c] 25) = z := ⟨_, rfl⟩
  obtain ⟨b1, gb1⟩ : ∃ z, w.heap.size = z := ⟨_, rfl⟩
  rw [gw0] at HR HX0 HB0 ⊢
  rw [gb1] at HX0 ⊢
  have Gb1 : RowKit.Hid (w.heap.size ≤ b1) := Lib.hid (Nat.le_of_eq gb1)
  clear gw0 gb1
  go_upto_region 2 with (first
    | (go_at_call 9
       refine (shown10_any _).mono ?_
       rintro e w1 ⟨rfl, hb⟩
       have HR1 := Lib.hid (HR.out.bl hb)
       have HX1 := Lib.hid (HX0.out.bl hb)
       have HB1 := Lib.hid (bel_bl HB0.out hb)
       clear hb HR HX0 HB0))
  have d0 := HX1.out.cell (i := 0) rfl
  go_upto_region 3 with (first
    | (go_at_call 11
       refine (HF.out _ HR1.out).mono ?_
       rintro e w2 ⟨A2, c2, rfl, ho, hb⟩
       have HX2 := Lib.hid (HX1.out.bl hb)
       have HB2 := Lib.hid (bel_bl HB1.out hb)
       have HO2 := Lib.hid ho
       have q0 := HX2.out.cell (i := 0) rfl
       have f0 := HX2.out.free 0
       clear hb ho d0))
  clear q0 f0
  have HX3 := Lib.hid (HX2.out.set_ 0 (.slice A2 m c2))
  have HB3 := Lib.hid (HB2.out.setCell (p := ⟨b1, 0, none⟩) Gb1.out (.slice A2 m c2))
  have HR3 : RowKit.Hid (RdS (w2.setCell ⟨b1, 0, none⟩ (.slice A2 m c2)) (w2.setCell ⟨b1, 0, none⟩ (.slice A2 m c2)).heap.size 20 A2 m c2 (rowsV opCells E)) := Lib.hid (own_rds (own_cell_far HO2.out (own_ne HO2.out HX2.out (by decide)) _))
  obtain ⟨w3, gw3⟩ : ∃ z, w2.setCell ⟨b1, 0, none⟩ (.slice A2 m c2) = z := ⟨_, rfl⟩
  rw [gw3] at HX3 HB3 HR3 ⊢
  clear gw3 HX1 HX2 HB1 HB2 HR1 HO2
  have d0 := HX3.out.cell (i := 0) rfl
  by_cases hm : mayE E = 0
  case neg =>
    have hp : pE [] E = [] := by unfold pE; rw [if_neg hm]
    rw [hp] at HPu
    obtain ⟨x, gx⟩ : ∃ z, mayE E = z := ⟨_, rfl⟩
    rw [gx] at HPu hm
    have q1 : (x == 0) = false := beq_eq_false_iff_ne.2 hm
    have q2 : (x != 0) = true := bne_iff_ne.2 hm
    clear hp gx hm
    go_wp2_with (first
      | (go_at_call 10
         refine (HPu.out _ _ _ HR3.out).mono ?_
         rintro e w4 ⟨A4, c4, rfl, -, hb⟩
         have HB4 := Lib.hid (bel_bl HB3.out hb)
         clear hb d0))
    go_ret
    exact ⟨rfl, HB4.out⟩
  case pos =>
    have hp : pE [] E = edB E := by unfold pE; rw [if_pos hm, List.nil_append]
    rw [hp, hm] at HPu
    have hPl := edB_len hm
    have Hm := Lib.hid hm
    obtain ⟨P, gP⟩ : ∃ z, edB E = z := ⟨_, rfl⟩
    have Hlt : RowKit.Hid (∀ b ∈ P, b < 256) := Lib.hid (by rw [← gP]; exact edB_lt E)
    rw [gP] at HPu hPl
    have GP := Lib.hid gP
    obtain ⟨np, gnp⟩ : ∃ z, P.length = z := ⟨_, rfl⟩
    rw [gnp] at HPu hPl
    have Gnp := Lib.hid gnp
    clear hp hm gP gnp
    go_upto_region 4 with (first
      | (go_at_call 10
         refine (HPu.out _ _ _ HR3.out).mono ?_
         rintro e w4 ⟨A4, c4, rfl, ho, hb⟩
         have HX4 := Lib.hid (HX3.out.bl hb)
         have HB4 := Lib.hid (bel_bl HB3.out hb)
         have HR4 := Lib.hid (HR3.out.bl hb)
         have HO4 := Lib.hid ho
         clear hb ho d0))
    have Hs3 : RowKit.Hid (w.heap.size ≤ w3.heap.size) := Lib.hid HB3.out.size
    by_cases ht0 : t < 0
    · go_wp2
      go_ret
      exact ⟨rfl, HB4.out⟩
    obtain ⟨at_, rfl⟩ : ∃ k : Nat, t = (k : Int) := ⟨t.toNat, by omega⟩
    by_cases htn : np ≤ at_
    · have ht1 : ¬ ((at_ : Int) < 0) := by omega
      have ht2 : (np : Int) ≤ (at_ : Int) := by omega
      clear ht0
      go_wp2
      go_ret
      exact ⟨rfl, HB4.out⟩
    have ht1 : ¬ ((at_ : Int) < 0) := by omega
    have ht2 : ¬ ((np : Int) ≤ (at_ : Int)) := by omega
    have hlt : at_ < np := by omega
    have hlt2 : (at_ : Int) < (np : Int) := by omega
    have hpa0 : P[at_]? = some (P[at_]'(by have := Gnp.out; omega)) := List.getElem?_eq_getElem _
    obtain ⟨pa, gpa⟩ : ∃ z, P[at_]'(by have := Gnp.out; omega) = z := ⟨_, rfl⟩
    rw [gpa] at hpa0
    have hpab : pa < 256 := Hlt.out pa (List.mem_of_getElem? hpa0)
    obtain ⟨z, hz1, hz2, hz3⟩ := xor8 pa y hpab Hy.out
    obtain ⟨g, junk, rfl, hlo, hwg, hjl, hnc, hcm, hxl⟩ := own_place HO4.out (by omega)
    have hcell : (rowsV f8 P ++ junk)[at_]? = some (.int .u8 (pa : Int)) := by
      rw [List.getElem?_append_left (by rw [rows8_len, Gnp.out]; exact hlt), rows_get, hpa0]
      rfl
    have l0 := hwg.cell hcell
    have f0 := hwg.free at_
    have hset : (rowsV f8 P ++ junk).set at_ (.int .u8 (z : Int)) = rowsV f8 (P.set at_ z) ++ junk := by
      rw [List.set_append_left _ _ (by rw [rows8_len, Gnp.out]; exact hlt), rows8_set]
    have hwg2 := hwg.set_ at_ (.int .u8 (z : Int))
    rw [hset] at hwg2
    have HO5 : RowKit.Hid ((w4.setCell ⟨g, at_, none⟩ (.int .u8 (z : Int))).ownsRow w3.heap.size 5 1 (.slice (some ⟨g, 0, none⟩) np c4) np (rowsV f8 (P.set at_ z))) := Lib.hid (own_mk hwg2 hlo (by rw [← hset, List.length_set]; exact hjl) hnc hcm (by rw [rows8_len, List.length_set, Gnp.out, Nat.mul_one]))
    have hgb : g ≠ b1 := fun e => by
      subst e
      exact absurd rfl (hwg.ne_ HX4.out (by decide))
    have HX5 := Lib.hid (HX4.out.far (p := ⟨g, at_, none⟩) hgb.symm (.int .u8 (z : Int)))
    have HB5 := Lib.hid (HB4.out.setCell (p := ⟨g, at_, none⟩) (by have := Hs3.out; show w.heap.size ≤ g; omega) (.int .u8 (z : Int)))
    have HR5 : RowKit.Hid (RdS (w4.setCell ⟨g, at_, none⟩ (.int .u8 (z : Int))) (w4.setCell ⟨g, at_, none⟩ (.int .u8 (z : Int))).heap.size 20 A2 m c2 (rowsV opCells E)) := Lib.hid (by
      have hsz : (w4.setCell ⟨g, at_, none⟩ (.int .u8 (z : Int))).heap.size = w4.heap.size := by simp [World.setCell]
      rw [hsz]
      exact rds_poke HR4.out l0 (fun q => rows_op_u8 q) _)
    have HP5l : RowKit.Hid ((P.set at_ z).length = np) := Lib.hid (by rw [List.length_set]; exact Gnp.out)
    have HP5b : RowKit.Hid (∀ b ∈ P.set at_ z, b < 256) := Lib.hid (fun b hb => by
      rcases List.mem_or_eq_of_mem_set hb with hb | rfl
      · exact Hlt.out b hb
      · exact hz2)
    have HSe : RowKit.Hid (P.set at_ z = P ↔ y = 0) := Lib.hid ((set_eq hpa0).trans hz3)
    obtain ⟨P', gP'⟩ : ∃ q, P.set at_ z = q := ⟨_, rfl⟩
    rw [gP'] at HO5 HP5l HP5b HSe
    clear ht0 htn hpa0 gpa hpab hz2 hz3 hlo hwg hwg2 hjl hnc hcm hxl hcell hset hgb gP' HO4
    go_upto_region 7 with fail
    clear l0 f0 hz1 ht1 ht2 hlt hlt2
    obtain ⟨w5, gw5⟩ : ∃ q, w4.setCell ⟨g, at_, none⟩ (.int .u8 (z : Int)) = q := ⟨_, rfl⟩
    rw [gw5] at HO5 HX5 HB5 HR5 ⊢
    clear gw5 HX4 HB4 HR4 HX3 HB3 HR3
    have HW := Lib.hid (owhole_any (some ⟨g, 0, none⟩) c4 P' w5 (by rw [HP5l.out]; exact own_rds HO5.out) (by rw [HP5l.out]; omega) HP5b.out)
    rw [HP5l.out] at HW
    cases hok : okW P' with
    | false =>
      have hv : whV P' = [] ∧ whE P' = 2 := by unfold whV whE; rw [hok]; exact ⟨rfl, rfl⟩
      rw [hv.1, hv.2] at HW
      have hy0 : y ≠ 0 := fun e => by
        have e1 := HSe.out.2 e
        rw [e1, ← GP.out] at hok
        have : okW (edB E) = true := okW_is.2 ⟨E, Hm.out, rfl⟩
        rw [this] at hok
        cases hok
      have hyb : (y != 0) = true := bne_iff_ne.2 hy0
      have hyc : (y == 0) = false := beq_eq_false_iff_ne.2 hy0
      clear hv hok hy0
      go_upto_region 8 with (first
        | (go_at_call 15
           refine HW.out.mono ?_
           rintro e w6 ⟨A6, c6, rfl, -, hb⟩
           have HB6 := Lib.hid (bel_al (bel_bl HB5.out hb) (.cells #[.slice A6 0 c6] 25))
           have HZ6 : RowKit.Hid (Whole (w6.alloc (.cells #[.slice A6 0 c6] 25)) w6.heap.size 25 [.slice A6 0 c6]) := Lib.hid (Whole.new_ _ _ [_])
           clear hb))
      obtain ⟨w7, gw7⟩ : ∃ q, w6.alloc (.cells #[.slice A6 0 c6] 25) = q := ⟨_, rfl⟩
      obtain ⟨b9, gb9⟩ : ∃ q, w6.heap.size = q := ⟨_, rfl⟩
      rw [gw7] at HB6 HZ6 ⊢
      rw [gb9] at HZ6 ⊢
      have d0 : w7.cell? ⟨b9, 0, none⟩ = some (.slice A6 0 c6) := HZ6.out.cell (i := 0) rfl
      clear gw7 gb9
      go_wp2
      go_ret
      exact ⟨rfl, HB6.out⟩
    | true =>
      obtain ⟨L', hL', hPL⟩ := okW_is.1 hok
      have hv : whV P' = L' ∧ whE P' = 0 := by
        have h9 : isE P' L' [] := ⟨hL', by rw [List.append_nil]; exact hPL⟩
        unfold whV whE
        rw [hok]
        exact ⟨(isE_rd h9).1, rfl⟩
      rw [hv.1, hv.2] at HW
      have hse : decide (L' = E) = (y == 0) := by
        rw [← edB_inj hL' Hm.out, ← hPL, GP.out]
        by_cases e : y = 0
        · rw [decide_eq_true (HSe.out.2 e), e]; rfl
        · rw [decide_eq_false (fun q => e (HSe.out.1 q)), beq_eq_false_iff_ne.2 e]
      have hml := (mayE_ok hL').2.1
      obtain ⟨l', gl'⟩ : ∃ q, L'.length = q := ⟨_, rfl⟩
      rw [gl'] at HW hml
      have hpu := fun A' c' W (h : RdS W W.heap.size 20 A' l' c' (rowsV opCells L')) => oput_any none 0 [] A' l' c' L' W (rds_nil _ _ _) (by simp) h (by omega)
      rw [show pE [] L' = P' from by unfold pE; rw [if_pos hL', List.nil_append]; exact hPL.symm, hL', HP5l.out] at hpu
      have HPv := Lib.hid hpu
      have HSv := Lib.hid (fun A' c' W h1 h2 => rsame_any A' A2 l' m c' c2 L' E W h1 h2 (by unfold maxLen; omega))
      rw [hse] at HSv
      have hte := txt_eq HP5b.out HP5b.out
      rw [decide_eq_true rfl] at hte
      have Hte := Lib.hid hte
      clear hv hok hL' hPL hse gl' hpu hte
      obtain ⟨yb, gyb⟩ : ∃ q, (y == 0) = q := ⟨_, rfl⟩
      rw [gyb] at HSv
      have Gyb := Lib.hid gyb
      clear gyb
      go_upto_region 8 with (first
        | (go_at_call 15
           refine HW.out.mono ?_
           rintro e w6 ⟨A6, c6, rfl, ho, hb⟩
           have HB6 := Lib.hid (bel_al (bel_bl HB5.out hb) (.cells #[.slice A6 l' c6] 25))
           have HZ6 : RowKit.Hid (Whole (w6.alloc (.cells #[.slice A6 l' c6] 25)) w6.heap.size 25 [.slice A6 l' c6]) := Lib.hid (Whole.new_ _ _ [_])
           have HX6 := Lib.hid ((HX5.out.bl hb).al (.cells #[.slice A6 l' c6] 25))
           have HR6 := Lib.hid ((HR5.out.bl hb).al (.cells #[.slice A6 l' c6] 25))
           have HV6 := Lib.hid ((own_rds ho).al (.cells #[.slice A6 l' c6] 25))
           have HP6 := Lib.hid (((own_rds HO5.out).bl hb).al (.cells #[.slice A6 l' c6] 25))
           clear hb ho))
      obtain ⟨w7, gw7⟩ : ∃ q, w6.alloc (.cells #[.slice A6 l' c6] 25) = q := ⟨_, rfl⟩
      obtain ⟨b9, gb9⟩ : ∃ q, w6.heap.size = q := ⟨_, rfl⟩
      rw [gw7] at HB6 HZ6 HX6 HR6 HV6 HP6 ⊢
      rw [gb9] at HZ6 ⊢
      clear gw7 gb9 HW HB5 HX5 HR5 HO5
      have d0 : w7.cell? ⟨b9, 0, none⟩ = some (.slice A6 l' c6) := HZ6.out.cell (i := 0) rfl
      go_upto_region 11 with (first
        | (go_at_call 10
           refine (HPv.out _ _ _ HV6.out).mono ?_
           rintro e w8 ⟨A8, c8, rfl, ho, hb⟩
           have HB8 := Lib.hid (bel_bl HB6.out hb)
           have HZ8 := Lib.hid (HZ6.out.bl hb)
           have HX8 := Lib.hid (HX6.out.bl hb)
           have HR8 := Lib.hid (HR6.out.bl hb)
           have HV8 := Lib.hid (HV6.out.bl hb)
           have HP8 := Lib.hid (HP6.out.bl hb)
           have HQ8 := Lib.hid (own_rds ho)
           clear hb ho d0))
      have d0 := HZ8.out.cell (i := 0) rfl
      have d1 := HX8.out.cell (i := 0) rfl
      go_upto_region 12 with (first
        | (go_at_call 17
           refine (HSv.out _ _ _ HV8.out HR8.out).mono ?_
           rintro e w9 ⟨rfl, hb⟩
           have HB9 := Lib.hid (bel_bl HB8.out hb)
           have HP9 := Lib.hid (HP8.out.bl hb)
           have HQ9 := Lib.hid (HQ8.out.bl hb)
           clear hb d0 d1))
      have hc1 := conv_txt HP9.out
      have hc2 := conv_txt HQ9.out
      have hte := Hte.out
      have hyb := Gyb.out
      go_wp2
      go_ret
      exact ⟨by simp, HB9.out⟩

end Go.Proofs.Ytoiflngpjdghbaa

/- 'OpcodeTurned' answers true for every edit, every number and every byte.
   No condition beyond the row's own. -/
namespace Go.Proofs.Ytoiflngpjdghbaa
open Go.ChangeShapes Go.WideShapes Go.ChangeAt Go.RowKit
namespace lawOpcodeTurned

set_option maxRecDepth 100000 in
theorem contract (H : Type) (enc : TypeId × Value → H) (W : World) (base : Nat) (args : Array Value) (ds gs : List (DataW H)) (before : List MemPlace)
    (hval : ∀ (j : Nat) t v, Try.f8.params[j]? = some t → args[j]? = some v → Value.okWide Try.prog W .any base t v)
    (hW : DataW.Whole enc Try.prog Try.f8.params.toList Rows.opcodeTurnedSpec.vars false W args.toList ds gs before) :
    Calls Try.prog 8 args W fun e W' => ∃ v, e = .returned v ∧ Rows.opcodeTurnedSpec.post enc Try.prog Try.f8 false true false false W args v W' := by
  have hW' := hW
  obtain ⟨p, q, hA, hV, rfl, hfz, hnd⟩ := hW
  obtain ⟨rfl, rfl⟩ := trodVars_none hV
  rw [Try.params8] at hA hval
  obtain ⟨v0, v1, v2, d0, d1, d2, p0, p1, p2, rfl, rfl, rfl, h0, h1, h2⟩ := trodAll_three hA
  obtain ⟨a, rfl, hx0⟩ := open_row1_struct (row1_edit H) Try.underlying25 (hval 0 25 v0 rfl rfl) h0
  obtain ⟨t, rfl, h1b, -⟩ := open_int Try.underlying3 (hval 1 3 v1 rfl rfl) h1
  obtain ⟨y, rfl, h2b, -, hy2⟩ := open_int Try.underlying5 (hval 2 5 v2 rfl rfl) h2
  refine (law_turned a.1 a.2.1 a.2.2.1 a.2.2.2 t y W hx0.2.1 (Nat.le_trans hx0.2.1.le hx0.1) (by have := bounds_u8 hy2; omega)).mono fun e W' ⟨he, hb⟩ => ⟨_, he, ?_⟩
  exact law_post Try.laidOut (by kernel_rfl) (tb := 4) (by kernel_rfl) Try.underlying4 rfl ⟨rfl, rfl, rfl⟩ hW' hb

set_option maxRecDepth 100000 in
theorem lifted (os : Os) (started : os.Started) (H : Type) (enc : TypeId × Value → H) :
    ReturnsInHanded {} Try.checked os 8 .any (Rows.opcodeTurnedSpec.pre6 enc Try.prog Try.f8 Rows.opcodeTurnedRow.domain false) (Rows.opcodeTurnedSpec.post enc Try.prog Try.f8 false true false false) := by
  refine returnsInHanded_of_change (C := Try.checked) Try.own started (by kernel_rfl) Try.func8
    (ChangeSpec.witness6 (enc := enc) (C := Try.checked) false ⟨#[], #[.agg #[.slice none 0 0], .int .i64 0, .int .u8 0], []⟩ 8 (by kernel_rfl) (by kernel_rfl) (by kernel_rfl) (by kernel_rfl)) ?_
  intro W base args ds gs before hval hW _ _
  exact contract H enc W base args ds gs before hval hW

theorem proved : Rows.OpcodeTurnedSaid :=
  OpenClaim.holds_of_wide 8 Try.f8 rfl rfl rfl rfl rfl rfl rfl ⟨rfl, rfl, rfl, rfl, rfl⟩ rfl rfl rfl rfl rfl (by kernel_rfl) Try.func8 (by kernel_rfl)
    (of_decide_eq_true (by kernel_rfl)) (by unfold Func.isWrapper; first | (rw [if_pos (by decide +kernel)]; kernel_rfl) | (rw [if_neg (by decide +kernel)]; exact ⟨rfl, rfl⟩))
    (fun os started H enc _ => lifted os started H enc)
end lawOpcodeTurned
end Go.Proofs.Ytoiflngpjdghbaa
