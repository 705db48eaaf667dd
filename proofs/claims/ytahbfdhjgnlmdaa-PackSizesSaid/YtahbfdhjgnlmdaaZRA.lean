/- 'PackSizes' answers true for every diagram.
   No condition beyond the row's own. -/
import Derived.Test.YtahbfdhjgnlmdaaZPJ
import Derived.Test.YtahbfdhjgnlmdaaRows
import Derived.Test.YtahbfdhjgnlmdaaZPF
import Derived.Test.YtahbfdhjgnlmdaaZPB

/- PackSizes' walk. -/
namespace Go.Proofs.Ytahbfdhjgnlmdaa
open Go.RowKit
set_option linter.unusedSimpArgs false
set_option linter.unusedVariables false

def szE (L : List EC) : Nat := (L.map (fun e => e.2.1.size)).sum
def szV (L : List VC) : Nat := (L.map (fun v => v.2.2.1.size)).sum
theorem szE_next {L : List EC} {i : Nat} {e : EC} (h : L[i]? = some e) : szE (L.take (i + 1)) = szE (L.take i) + e.2.1.size := by
  unfold szE
  rw [List.take_add_one, h, List.map_append, List.sum_append]
  simp
theorem szV_next {L : List VC} {i : Nat} {e : VC} (h : L[i]? = some e) : szV (L.take (i + 1)) = szV (L.take i) + e.2.2.1.size := by
  unfold szV
  rw [List.take_add_one, h, List.map_append, List.sum_append]
  simp
theorem len_edges : ∀ L : List EC, (L.flatMap edB).length = 13 * L.length + szE L
  | [] => rfl
  | e :: L => by
    rw [List.flatMap_cons, List.length_append, len_edges L, edB, headB_len, List.length_cons]
    simp only [szE, List.map_cons, List.sum_cons]
    omega
theorem len_verts (Es : List EC) : ∀ L : List VC, ((L.map vS).flatMap (vtB Es)).length = 14 * L.length + szV L + (ringsOf L).length
  | [] => rfl
  | v :: L => by
    have h1 := len_verts Es L
    rw [List.map_cons, List.flatMap_cons, List.length_append, h1, vtB, List.length_append, headB_len, List.length_cons, List.length_map, List.length_cons, ringsOf_one, List.length_append]
    simp only [szV, List.map_cons, List.sum_cons, vS]
    omega
theorem putD_len {Vs : List VC} {Es : List EC} (h : Formed Vs Es) : (putD (Vs.map vS) Es).length = 2 + 13 * Es.length + 14 * Vs.length + 2 * Es.length + szE Es + szV Vs := by
  have h1 := h.len
  unfold putD
  rw [List.length_cons, List.length_append, List.length_cons, len_edges, len_verts, h1]
  omega
set_option maxRecDepth 100000 in
set_option maxHeartbeats 4000000 in
theorem law_sizes (A : Option Addr) (n c : Nat) (Vs : List VC) (B : Option Addr) (m k : Nat) (Es : List EC) (w : World) (h : DgIn w A n c Vs B m k Es) (hg : GoodD Vs Es) (hn : n ≤ maxLen) (hm : m ≤ maxLen) :
    Calls Try.prog 7 #[.agg #[.slice A n c, .slice B m k]] w fun e w' => e = .returned (.bool true) ∧ Below w.heap.size w w' := by
  have HW := Lib.hid (fun W hb => few8_step h hg hn hm W hb)
  obtain ⟨Va, gVa⟩ : ∃ z, (Vs.take 26).map few7V = z := ⟨_, rfl⟩
  obtain ⟨Ea, gEa⟩ : ∃ z, Es.take 42 = z := ⟨_, rfl⟩
  rw [gVa, gEa] at HW
  clear h hg hn hm gVa gEa
  go_enter Try.func7, Try.ntmps7
  go_wp2_with fail
  refine (shown08_any _).mono ?_
  rintro e w1 ⟨rfl, hb1⟩
  have D0_2 := Lib.hid ((show Whole (w.alloc (.cells #[.slice A n c, .slice B m k] 25)) (w.heap.size) (25) ([.slice A n c, .slice B m k]) from Whole.new2 (by first | rfl | simp)).bl hb1)
  have Bel_2 := Lib.hid (bel_bl (bel_al (Below.refl _ w) (.cells #[.slice A n c, .slice B m k] 25)) hb1)
  clear hb1
  have LO_D0_3 : RowKit.Hid (w.heap.size ≤ w.heap.size) := Lib.hid (by omega)
  have lw4 : (w1).cell? ⟨w.heap.size, 0, none⟩ = some (.slice A n c) := D0_2.out.cell (i := 0) rfl
  have lw5 : (w1).cell? ⟨w.heap.size, 1, none⟩ = some (.slice B m k) := D0_2.out.cell (i := 1) rfl
  go_wp2_with fail
  clear lw4 lw5
  have LTN_a_D0 : RowKit.Hid (w.heap.size < w1.heap.size) := Lib.hid (D0_2.out).lt
  refine (HW.out _ Bel_2.out).mono ?_
  rintro e w6 ⟨Aa, na, ca, Ba, ma, ka, rfl, hF, hb6⟩
  have Fa := Lib.hid hF
  clear hF
  have D0_7 := Lib.hid (D0_2.out.bl hb6)
  have Bel_7 := Lib.hid (bel_bl Bel_2.out hb6)
  clear D0_2 Bel_2
  clear hb6
  have lw8 : (w6).cell? ⟨w.heap.size, 0, none⟩ = some (.slice A n c) := D0_7.out.cell (i := 0) rfl
  have lw9 : (w6).cell? ⟨w.heap.size, 1, none⟩ = some (.slice B m k) := D0_7.out.cell (i := 1) rfl
  have fr0 := D0_7.out.free 0
  have fr1 := D0_7.out.free 1
  go_upto_region 3 with fail
  clear fr0 fr1 lw8 lw9
  obtain ⟨v10, gv10⟩ : ∃ x, (w6.setCell ⟨w.heap.size, 0, none⟩ (.slice Aa na ca)).setCell ⟨w.heap.size, 1, none⟩ (.slice Ba ma ka) = x := ⟨_, rfl⟩
  have D0_10 : RowKit.Hid (Whole v10 w.heap.size 25 [.slice Aa na ca, .slice Ba ma ka]) := Lib.hid (gv10 ▸ ((D0_7.out.set_ 0 (.slice Aa na ca)).set_ 1 (.slice Ba ma ka)))
  have Bel_10 : RowKit.Hid (Below w.heap.size w v10) := Lib.hid (gv10 ▸ ((Bel_7.out.setCell (p := ⟨w.heap.size, 0, none⟩) (by show w.heap.size ≤ w.heap.size; exact LO_D0_3.out) _).setCell (p := ⟨w.heap.size, 1, none⟩) (by show w.heap.size ≤ w.heap.size; exact LO_D0_3.out) _))
  have Da_10 : RowKit.Hid (DgIn v10 Aa na ca Va Ba ma ka Ea) := Lib.hid (gv10 ▸ Fa.out.put (g := w.heap.size) (by show w.heap.size ≤ w.heap.size; exact LO_D0_3.out) LTN_a_D0.out _ _)
  rw [gv10]
  clear gv10
  clear D0_7 Bel_7
  have Hr0 : RowKit.Hid (∀ x ∈ Va, x.2.1.2.1 ≤ 1000000) := Lib.hid (fun x hx => by have := Fa.out.r30 x hx; omega)
  have HLn : RowKit.Hid (Va.length = na ∧ Ea.length = ma) := Lib.hid (dg_lens Da_10.out)
  by_cases hmy : mayF7 Va Ea = 0
  case neg =>
    have HPn := Lib.hid (fun W h => put_not Aa na ca Va Ba ma ka Ea W h Fa.out.good Hr0.out hmy)
    obtain ⟨my, gmy⟩ : ∃ z, mayF7 Va Ea = z := ⟨_, rfl⟩
    rw [gmy] at HPn hmy
    have hne : (my != 0) = true := by simp [hmy]
    clear gmy
    have lw11 : (v10).cell? ⟨w.heap.size, 0, none⟩ = some (.slice Aa na ca) := D0_10.out.cell (i := 0) rfl
    have lw12 : (v10).cell? ⟨w.heap.size, 1, none⟩ = some (.slice Ba ma ka) := D0_10.out.cell (i := 1) rfl
    go_wp2_with fail
    clear lw11 lw12
    refine (HPn.out _ Da_10.out).mono ?_
    rintro e w13 ⟨rfl, hb13⟩
    have D0_14 := Lib.hid (D0_10.out.bl hb13)
    have Da_14 := Lib.hid (Da_10.out.bl hb13)
    have Bel_14 := Lib.hid (bel_bl Bel_10.out hb13)
    clear D0_10 Da_10 Bel_10
    clear hb13
    go_wp2
    go_ret
    exact ⟨by first | rfl | simp, Bel_14.out⟩
  have hf := may7_formed hmy
  have hlen := putD_len hf
  rw [HLn.out.1, HLn.out.2] at hlen
  have hmx := putD_max hf
  obtain ⟨pl, gpl⟩ : ∃ z, (putD (Va.map vS) Ea).length = z := ⟨_, rfl⟩
  have HPy : RowKit.Hid (∀ W, DgIn W Aa na ca Va Ba ma ka Ea → Calls Try.prog 25 #[.agg #[.slice Aa na ca, .slice Ba ma ka]] W fun e w' => ∃ A' c', e = .returned (.tuple #[.slice A' pl c', .int .i64 0]) ∧ Below W.heap.size W w') := Lib.hid (fun W h => by
    refine (put_yes Aa na ca Va Ba ma ka Ea W h Fa.out.good Hr0.out hmy).mono ?_
    rintro e w' ⟨A', c', rfl, ho, hb⟩
    rw [gpl]
    exact ⟨A', c', rfl, hb⟩)
  rw [gpl] at hlen hmx
  have hm40 : ma ≤ 40 := by have := hf.e40; have := HLn.out.2; omega
  have hn24 : na ≤ 24 := by have := hf.v24; have := HLn.out.1; omega
  clear gpl hmy hf
  have lw11 : (v10).cell? ⟨w.heap.size, 0, none⟩ = some (.slice Aa na ca) := D0_10.out.cell (i := 0) rfl
  have lw12 : (v10).cell? ⟨w.heap.size, 1, none⟩ = some (.slice Ba ma ka) := D0_10.out.cell (i := 1) rfl
  go_wp2_with fail
  clear lw11 lw12
  refine (HPy.out _ Da_10.out).mono ?_
  rintro e w13 ⟨A5, c5, rfl, hb13⟩
  have D0_14 := Lib.hid (D0_10.out.bl hb13)
  have Da_14 := Lib.hid (Da_10.out.bl hb13)
  have Bel_14 := Lib.hid (bel_bl Bel_10.out hb13)
  clear D0_10 Da_10 Bel_10
  clear hb13
  obtain ⟨k0, gk0⟩ : ∃ z, 2 + 13 * ma + 14 * na + 2 * ma = z := ⟨_, rfl⟩
  have w1 : IntKind.i64.wrap (13 * (ma : Int)) = 13 * (ma : Int) := IntWalk.i64_in _ (by omega)
  have w2 : IntKind.i64.wrap (2 + 13 * (ma : Int)) = 2 + 13 * (ma : Int) := IntWalk.i64_in _ (by omega)
  have w3 : IntKind.i64.wrap (14 * (na : Int)) = 14 * (na : Int) := IntWalk.i64_in _ (by omega)
  have w4 : IntKind.i64.wrap (2 + 13 * (ma : Int) + 14 * (na : Int)) = 2 + 13 * (ma : Int) + 14 * (na : Int) := IntWalk.i64_in _ (by omega)
  have w5 : IntKind.i64.wrap (2 * (ma : Int)) = 2 * (ma : Int) := IntWalk.i64_in _ (by omega)
  have w6 : IntKind.i64.wrap (2 + 13 * (ma : Int) + 14 * (na : Int) + 2 * (ma : Int)) = (k0 : Int) := by rw [IntWalk.i64_in _ (by omega)]; omega
  have Hk0 : RowKit.Hid (pl = k0 + szE Ea + szV Va ∧ k0 ≤ 1000 ∧ pl ≤ 4000) := Lib.hid (by omega)
  have HDz := Lib.hid (Da_14.out)
  have HXz := Lib.hid (D0_14.out)
  clear hlen hmx gk0
  have lw15 : (w13).cell? ⟨w.heap.size, 0, none⟩ = some (.slice Aa na ca) := D0_14.out.cell (i := 0) rfl
  have lw16 : (w13).cell? ⟨w.heap.size, 1, none⟩ = some (.slice Ba ma ka) := D0_14.out.cell (i := 1) rfl
  go_upto_region 7 with fail
  clear w1 w2 w3 w4 w5 w6
  go_wp2
  go_loop [6, 7] (fun v si => ∃ i : Nat, i ≤ ma ∧ si = .int .i64 i ∧ v = .int .i64 ((k0 + szE (Ea.take i) : Nat) : Int)) (fun _ si => ma - (intOf si).toNat)
  case atStart => exact ⟨0, by omega, rfl, rfl⟩
  case round =>
    obtain ⟨i, hi_, rfl, rfl⟩ := hrel
    by_cases him : i < ma
    · obtain ⟨e, hx⟩ : ∃ e, Ea[i]? = some e := ⟨_, List.getElem?_eq_getElem (by have := HLn.out.2; omega)⟩
      have hnx := szE_next hx
      have hle : szE (Ea.take (i + 1)) ≤ szE Ea := by
        conv => rhs; rw [← List.take_append_drop (i + 1) Ea]
        unfold szE
        rw [List.map_append, List.sum_append]
        omega
      obtain ⟨eb, eo, gB, -, -⟩ := HDz.out.e.place eC_len (by decide) (by omega)
      subst gB
      have l2 := HDz.out.e.elem eC_len hx 2 _ rfl
      simp only [Addr.add_lit, Nat.add_zero] at l2
      obtain ⟨⟨e1, e2⟩, el, et⟩ := e
      simp only at hnx
      obtain ⟨z0, g0⟩ : ∃ z, szE (Ea.take i) = z := ⟨_, rfl⟩
      obtain ⟨z1, g1⟩ : ∃ z, el.size = z := ⟨_, rfl⟩
      have hz : (el.size : Int) = (z1 : Int) := by rw [g1]
      rw [g0, g1] at hnx
      rw [hnx] at hle
      rw [g0]
      obtain ⟨z2, g2⟩ : ∃ z, k0 + z0 = z := ⟨_, rfl⟩
      have hw : IntKind.i64.wrap ((z2 : Int) + (z1 : Int)) = ((z2 + z1 : Nat) : Int) := by rw [IntWalk.i64_in _ (by have := Hk0.out; omega)]; omega
      obtain ⟨z3, g3⟩ : ∃ z, z2 + z1 = z := ⟨_, rfl⟩
      rw [g2]
      rw [g3] at hw
      have Hnx : RowKit.Hid (k0 + szE (Ea.take (i + 1)) = z3) := Lib.hid (by rw [hnx]; omega)
      clear hnx hle g0 g2 g3 hx
      go_wp2
      refine ⟨⟨i + 1, by omega, by go_num, ?_⟩, by simp [intOf] <;> omega⟩
      rw [Hnx.out]
    · obtain rfl : ma = i := by omega
      rw [List.take_of_length_le (by have := HLn.out.2; omega)]
      obtain ⟨k1, gk1⟩ : ∃ z, k0 + szE Ea = z := ⟨_, rfl⟩
      have Hk1 : RowKit.Hid (pl = k1 + szV Va ∧ pl ≤ 4000) := Lib.hid (by have := Hk0.out; omega)
      rw [gk1]
      clear gk1
      go_wp2
      go_loop [6, 8] (fun v si => ∃ i : Nat, i ≤ na ∧ si = .int .i64 i ∧ v = .int .i64 ((k1 + szV (Va.take i) : Nat) : Int)) (fun _ si => na - (intOf si).toNat)
      case atStart => exact ⟨0, by omega, rfl, rfl⟩
      case round =>
        obtain ⟨i, hi_, rfl, rfl⟩ := hrel
        by_cases hin : i < na
        · obtain ⟨e, hx⟩ : ∃ e, Va[i]? = some e := ⟨_, List.getElem?_eq_getElem (by have := HLn.out.1; omega)⟩
          have hnx := szV_next hx
          have hle : szV (Va.take (i + 1)) ≤ szV Va := by
            conv => rhs; rw [← List.take_append_drop (i + 1) Va]
            unfold szV
            rw [List.map_append, List.sum_append]
            omega
          obtain ⟨eb, eo, gA, -, -⟩ := HDz.out.v.place vC_len (by decide) (by omega)
          subst gA
          have l3 := HDz.out.v.elem vC_len hx 3 _ rfl
          simp only [Addr.add_lit, Nat.add_zero] at l3
          obtain ⟨⟨e1, e2⟩, ⟨rA, rn, rc, rL⟩, el, et⟩ := e
          simp only at hnx
          obtain ⟨z0, g0⟩ : ∃ z, szV (Va.take i) = z := ⟨_, rfl⟩
          obtain ⟨z1, g1⟩ : ∃ z, el.size = z := ⟨_, rfl⟩
          have hz : (el.size : Int) = (z1 : Int) := by rw [g1]
          rw [g0, g1] at hnx
          rw [hnx] at hle
          rw [g0]
          obtain ⟨z2, g2⟩ : ∃ z, k1 + z0 = z := ⟨_, rfl⟩
          have hw : IntKind.i64.wrap ((z2 : Int) + (z1 : Int)) = ((z2 + z1 : Nat) : Int) := by rw [IntWalk.i64_in _ (by have := Hk1.out; omega)]; omega
          obtain ⟨z3, g3⟩ : ∃ z, z2 + z1 = z := ⟨_, rfl⟩
          rw [g2]
          rw [g3] at hw
          have Hnx : RowKit.Hid (k1 + szV (Va.take (i + 1)) = z3) := Lib.hid (by rw [hnx]; omega)
          clear hnx hle g0 g2 g3 hx
          go_wp2
          refine ⟨⟨i + 1, by omega, by go_num, ?_⟩, by simp [intOf] <;> omega⟩
          rw [Hnx.out]
        · obtain rfl : na = i := by omega
          rw [List.take_of_length_le (by have := HLn.out.1; omega), ← Hk1.out.1]
          go_wp2
          go_ret
          exact ⟨by first | rfl | simp, Bel_14.out⟩
end Go.Proofs.Ytahbfdhjgnlmdaa

/- 'PackSizes' answers true for every diagram.
   No condition beyond the row's own. -/
namespace Go.Proofs.Ytahbfdhjgnlmdaa
open Go.ChangeShapes Go.WideShapes Go.ChangeAt Go.RowKit
namespace lawPackSizes

set_option maxRecDepth 100000 in
theorem contract (H : Type) (enc : TypeId × Value → H) (W : World) (base : Nat) (args : Array Value) (ds gs : List (DataW H)) (before : List MemPlace)
    (hval : ∀ (j : Nat) t v, Try.f7.params[j]? = some t → args[j]? = some v → Value.okWide Try.prog W .any base t v)
    (hW : DataW.Whole enc Try.prog Try.f7.params.toList Rows.packSizesSpec.vars false W args.toList ds gs before) :
    Calls Try.prog 7 args W fun e W' => ∃ v, e = .returned v ∧ Rows.packSizesSpec.post enc Try.prog Try.f7 false true false false W args v W' := by
  have hW' := hW
  obtain ⟨p, q, hA, hV, rfl, hfz, hnd⟩ := hW
  obtain ⟨rfl, rfl⟩ := trodVars_none hV
  rw [Try.params7] at hA hval
  obtain ⟨v0, d0, rfl, rfl, h0⟩ := trodAll_one hA
  obtain ⟨d, rfl, hx0⟩ := open_row1_struct (row1_diagram H) Try.underlying25 (hval 0 25 v0 rfl rfl) h0
  refine (law_sizes d.1.1 d.1.2.1 d.1.2.2.1 d.1.2.2.2 d.2.1 d.2.2.1 d.2.2.2.1 d.2.2.2.2 W hx0.dg hx0.good hx0.max.1 hx0.max.2).mono fun e W' ⟨he, hb⟩ => ⟨_, he, ?_⟩
  exact law_post Try.laidOut (by kernel_rfl) (tb := 4) (by kernel_rfl) Try.underlying4 rfl ⟨rfl, rfl, rfl⟩ hW' hb

set_option maxRecDepth 100000 in
theorem lifted (os : Os) (started : os.Started) (H : Type) (enc : TypeId × Value → H) :
    ReturnsInHanded {} Try.checked os 7 .any (Rows.packSizesSpec.pre6 enc Try.prog Try.f7 Rows.packSizesRow.domain false) (Rows.packSizesSpec.post enc Try.prog Try.f7 false true false false) := by
  refine returnsInHanded_of_change (C := Try.checked) Try.own started (by kernel_rfl) Try.func7
    (ChangeSpec.witness6 (enc := enc) (C := Try.checked) false ⟨#[], #[.agg #[.slice none 0 0, .slice none 0 0]], []⟩ 8 (by kernel_rfl) (by kernel_rfl) (by kernel_rfl) (by kernel_rfl)) ?_
  intro W base args ds gs before hval hW _ _
  exact contract H enc W base args ds gs before hval hW

theorem proved : Rows.PackSizesSaid :=
  OpenClaim.holds_of_wide 7 Try.f7 rfl rfl rfl rfl rfl rfl rfl ⟨rfl, rfl, rfl, rfl, rfl⟩ rfl rfl rfl rfl rfl (by kernel_rfl) Try.func7 (by kernel_rfl)
    (of_decide_eq_true (by kernel_rfl)) (by unfold Func.isWrapper; first | (rw [if_pos (by decide +kernel)]; kernel_rfl) | (rw [if_neg (by decide +kernel)]; exact ⟨rfl, rfl⟩))
    (fun os started H enc _ => lifted os started H enc)
end lawPackSizes
end Go.Proofs.Ytahbfdhjgnlmdaa
