/- 'PackOwn' answers true for every diagram.
   No condition beyond the row's own. -/
import Derived.Test.YtahbfdhjgnlmdaaZUK
import Derived.Test.YtahbfdhjgnlmdaaZUJ
import Derived.Test.YtahbfdhjgnlmdaaRows
import Derived.Test.YtahbfdhjgnlmdaaZUF
import Derived.Test.YtahbfdhjgnlmdaaZUB

/- PackOwn's walk. -/
namespace Go.Proofs.Ytahbfdhjgnlmdaa
open Go.RowKit
set_option linter.unusedSimpArgs false
set_option linter.unusedVariables false

theorem no8_v {Vs : List VC} {q : Int} : ¬ Value.int .u8 q ∈ rowsV vC Vs := fun h => by
  obtain ⟨x, _, hx⟩ := rowsV_mem h
  simp [vC] at hx
theorem no8_e {Es : List EC} {q : Int} : ¬ Value.int .u8 q ∈ rowsV eC Es := fun h => by
  obtain ⟨x, _, hx⟩ := rowsV_mem h
  simp [eC] at hx
theorem no8_d {L : List D} {q : Int} : ¬ Value.int .u8 q ∈ dartsV L := fun h => by
  rw [dartsV_rows] at h
  obtain ⟨x, _, hx⟩ := rowsV_mem h
  simp [dC] at hx
/-- A byte that turns is none of a diagram's. -/
theorem DgIn.byte {W : World} {A : Option Addr} {n c : Nat} {Vs : List VC} {B : Option Addr} {m k : Nat} {Es : List EC} (h : DgIn W A n c Vs B m k Es) {p : Addr} {q : Int} (hp : W.cell? p = some (.int .u8 q)) (u : Value) : DgIn (W.setCell p u) A n c Vs B m k Es :=
  ⟨by rw [size_setCell]; exact rds_poke h.v hp no8_v u, by rw [size_setCell]; exact rds_poke h.e hp no8_e u, fun x hx => ⟨(h.r x hx).1, by rw [size_setCell]; exact rds_poke (h.r x hx).2 hp no8_d u⟩⟩
structure Od (w W : World) (g0 : Nat) (Aa : Option Addr) (na ca : Nat) (Va : List VC) (Ba : Option Addr) (ma ka : Nat) (Ea : List EC) : Prop where
  b : Below w.heap.size w W
  x0 : Whole W g0 25 [.slice Aa na ca, .slice Ba ma ka]
  da : DgIn W Aa na ca Va Ba ma ka Ea
structure Cx (W : World) (lo g : Nat) (A : Option Addr) (n c : Nat) (Ws : List VC) (B : Option Addr) (m k : Nat) (Es : List EC) : Prop where
  x : Whole W g 25 [.slice A n c, .slice B m k]
  c : ClS W lo A n c Ws B m k Es
section
variable {w W W' : World} {g0 g lo : Nat} {A : Option Addr} {n c : Nat} {Ws : List VC} {B : Option Addr} {m k : Nat} {Es : List EC}
theorem Od.bl (h : Od w W g0 A n c Ws B m k Es) (hb : Ext W W') : Od w W' g0 A n c Ws B m k Es := ⟨bel_bl h.b hb, h.x0.bl hb, h.da.below hb⟩
theorem Cx.bl (h : Cx W lo g A n c Ws B m k Es) (hb : Ext W W') : Cx W' lo g A n c Ws B m k Es := ⟨h.x.bl hb, h.c.bl hb⟩
theorem Od.byte (h : Od w W g0 A n c Ws B m k Es) {q : Nat} {i : Nat} {cs : List Value} (hw : Whole W q 5 cs) (hlo : w.heap.size ≤ q) {z : Int} (hp : W.cell? ⟨q, i, none⟩ = some (.int .u8 z)) (u : Value) : Od w (W.setCell ⟨q, i, none⟩ u) g0 A n c Ws B m k Es :=
  ⟨h.b.setCell (p := ⟨q, i, none⟩) hlo u, h.x0.set_far' (h.x0.ne_ hw (by decide)) u, h.da.byte hp u⟩
theorem Cx.byte (h : Cx W lo g A n c Ws B m k Es) {q : Nat} {i : Nat} {cs : List Value} (hw : Whole W q 5 cs) (u : Value) : Cx (W.setCell ⟨q, i, none⟩ u) lo g A n c Ws B m k Es :=
  ⟨h.x.set_far' (h.x.ne_ hw (by decide)) u, h.c.far hw (by decide) (by decide) (by decide) u⟩
theorem Cx.vert (h : Cx W lo g A n c Ws B m k Es) {q : Nat} {i : Nat} {cs : List Value} (hw : Whole W q 38 cs) (hv : some q ≠ (Value.slice A n c).ownBlock) (u : Value) : Cx (W.setCell ⟨q, i, none⟩ u) lo g A n c Ws B m k Es :=
  ⟨h.x.set_far' (h.x.ne_ hw (by decide)) u, h.c.far2 hw hv u⟩
end
set_option maxRecDepth 100000 in
set_option maxHeartbeats 4000000 in
theorem law_own8 (A : Option Addr) (n c : Nat) (Vs : List VC) (B : Option Addr) (m k : Nat) (Es : List EC) (w : World) (h : DgIn w A n c Vs B m k Es) (hg : GoodD Vs Es) (hn : n ≤ maxLen) (hm : m ≤ maxLen) :
    Calls Try.prog 6 #[.agg #[.slice A n c, .slice B m k]] w fun e w' => e = .returned (.bool true) ∧ Below w.heap.size w w' := by
  have HW := Lib.hid (fun W hb => few8_step h hg hn hm W hb)
  obtain ⟨Va, gVa⟩ : ∃ z, (Vs.take 26).map few7V = z := ⟨_, rfl⟩
  obtain ⟨Ea, gEa⟩ : ∃ z, Es.take 42 = z := ⟨_, rfl⟩
  rw [gVa, gEa] at HW
  clear h hg hn hm gVa gEa
  go_enter Try.func6, Try.ntmps6
  go_wp2_with fail
  refine (shown08_any _).mono ?_
  rintro e w1 ⟨rfl, hb1⟩
  have D0_2 := Lib.hid ((show Whole (w.alloc (.cells #[.slice A n c, .slice B m k] 25)) (w.heap.size) (25) ([.slice A n c, .slice B m k]) from Whole.new2 (by first | rfl | simp)).bl hb1)
  have Bel_2 := Lib.hid (bel_bl (bel_al (Below.refl _ w) (.cells #[.slice A n c, .slice B m k] 25)) hb1)
  clear hb1
  have LO_D0_3 : RowKit.Hid (w.heap.size ≤ w.heap.size) := Lib.hid (by omega)
  have lw4 : (w1).cell? ⟨w.heap.size, 0, none⟩ = some (.slice A n c) := D0_2.out.cell (i := 0) rfl
  have lw5 : (w1).cell? ⟨w.heap.size, 1, none⟩ = some (.slice B m k) := D0_2.out.cell (i := 1) rfl
  go_wp2_with fail
  clear lw4 lw5
  have LTN_a_D0 : RowKit.Hid (w.heap.size < w1.heap.size) := Lib.hid (D0_2.out).lt
  refine (HW.out _ Bel_2.out).mono ?_
  rintro e w6 ⟨Aa, na, ca, Ba, ma, ka, rfl, hF, hb6⟩
  have Fa := Lib.hid hF
  clear hF
  have D0_7 := Lib.hid (D0_2.out.bl hb6)
  have Bel_7 := Lib.hid (bel_bl Bel_2.out hb6)
  clear D0_2 Bel_2
  clear hb6
  have lw8 : (w6).cell? ⟨w.heap.size, 0, none⟩ = some (.slice A n c) := D0_7.out.cell (i := 0) rfl
  have lw9 : (w6).cell? ⟨w.heap.size, 1, none⟩ = some (.slice B m k) := D0_7.out.cell (i := 1) rfl
  have fr0 := D0_7.out.free 0
  have fr1 := D0_7.out.free 1
  go_upto_region 3 with fail
  clear fr0 fr1 lw8 lw9
  obtain ⟨v10, gv10⟩ : ∃ x, (w6.setCell ⟨w.heap.size, 0, none⟩ (.slice Aa na ca)).setCell ⟨w.heap.size, 1, none⟩ (.slice Ba ma ka) = x := ⟨_, rfl⟩
  have D0_10 : RowKit.Hid (Whole v10 w.heap.size 25 [.slice Aa na ca, .slice Ba ma ka]) := Lib.hid (gv10 ▸ ((D0_7.out.set_ 0 (.slice Aa na ca)).set_ 1 (.slice Ba ma ka)))
  have Bel_10 : RowKit.Hid (Below w.heap.size w v10) := Lib.hid (gv10 ▸ ((Bel_7.out.setCell (p := ⟨w.heap.size, 0, none⟩) (by show w.heap.size ≤ w.heap.size; exact LO_D0_3.out) _).setCell (p := ⟨w.heap.size, 1, none⟩) (by show w.heap.size ≤ w.heap.size; exact LO_D0_3.out) _))
  have Da_10 : RowKit.Hid (DgIn v10 Aa na ca Va Ba ma ka Ea) := Lib.hid (gv10 ▸ Fa.out.put (g := w.heap.size) (by show w.heap.size ≤ w.heap.size; exact LO_D0_3.out) LTN_a_D0.out _ _)
  rw [gv10]
  clear gv10
  clear D0_7 Bel_7
  have Hn30 : RowKit.Hid (na ≤ 1000000 ∧ ma ≤ 1000000) := Lib.hid ⟨by have := Fa.out.n30; omega, by have := Fa.out.m50; omega⟩
  have hn26 : na ≤ 26 := Fa.out.n30
  have hr0 : ∀ y ∈ Va, y.2.1.2.1 ≤ 1000000 := fun y hy => by have := Fa.out.r30 y hy; omega
  have hga := Fa.out.good
  have HPa := Lib.hid (fun W h => put8_any Aa na ca Va Ba ma ka Ea W h hga hr0)
  have HCl := Lib.hid (fun W h => rclone_any Aa na ca Va Ba ma ka Ea W h Hn30.out.1 Hn30.out.2 hr0)
  have HSm : RowKit.Hid (∀ (A : Option Addr) (n c : Nat) (Ws : List VC) (B : Option Addr) (m k : Nat) (A' : Option Addr) (n' c' : Nat) (Ws' : List VC) (B' : Option Addr) (m' k' : Nat) W, DgIn W A n c Ws B m k Ea → DgIn W A' n' c' Ws' B' m' k' Ea → Ws.map vS = Va.map vS → Ws'.map vS = Va.map vS → Va.length = na → Ea.length = ma → Calls Try.prog 27 #[.agg #[.slice A n c, .slice B m k], .agg #[.slice A' n' c', .slice B' m' k']] W fun e w' => e = .returned (.bool true) ∧ Below W.heap.size W w') := Lib.hid (fun A n c Ws B m k A' n' c' Ws' B' m' k' W h1 h2 hw hw' hlv hle => by
    have q1 : n ≤ 1000000 := by
      have e1 := h1.v.rlen vC_len (by decide)
      have e3 := congrArg List.length hw
      rw [List.length_map, List.length_map] at e3
      have := Hn30.out.1
      omega
    have q2 : m ≤ 1000000 := by
      have e1 := h1.e.rlen eC_len (by decide)
      have := Hn30.out.2
      omega
    have h9 := rsame_any A n c Ws B m k Ea A' n' c' Ws' B' m' k' Ea W h1 h2 q1 q2
    rwa [decide_eq_true ⟨hw.trans hw'.symm, rfl⟩] at h9)
  have HCa : RowKit.Hid ((mayF7 Va Ea = 0 ∧ PbOk (pb Va Ea) Va Ea) ∨ (mayF7 Va Ea ≠ 0 ∧ (pb Va Ea).length = 0)) := Lib.hid (by
    by_cases hm : mayF7 Va Ea = 0
    · exact .inl ⟨hm, pbOk hm⟩
    · exact .inr ⟨hm, by unfold pb; rw [if_neg hm]; rfl⟩)
  obtain ⟨P, gP⟩ : ∃ z, pb Va Ea = z := ⟨_, rfl⟩
  obtain ⟨ea, gea⟩ : ∃ z, mayF7 Va Ea = z := ⟨_, rfl⟩
  rw [gP, gea] at HPa HCa
  obtain ⟨la, gla⟩ : ∃ z, P.length = z := ⟨_, rfl⟩
  rw [gla] at HPa HCa
  have Hla := Lib.hid gla
  have HK : RowKit.Hid (Od w v10 (w.heap.size) Aa na ca Va Ba ma ka Ea) := Lib.hid ⟨Bel_10.out, D0_10.out, Da_10.out⟩
  have HL : RowKit.Hid (Va.length = na ∧ Ea.length = ma) := Lib.hid (dg_lens Da_10.out)
  obtain ⟨g0, gg0⟩ : ∃ z, w.heap.size = z := ⟨_, rfl⟩
  obtain ⟨w0, gw0⟩ : ∃ z, v10 = z := ⟨_, rfl⟩
  rw [gg0, gw0] at HK
  try rw [gg0]
  rw [gw0]
  clear gg0 gw0 hr0 hga gP gea gla D0_10 Da_10 Bel_10
  have d0 := HK.out.x0.cell (i := 0) rfl
  have d1 := HK.out.x0.cell (i := 1) rfl
  go_upto_region 4 with (first
    | (go_at_call 28
       refine (HCl.out _ HK.out.da).mono ?_
       rintro e w3 ⟨A3, c3, B3, k3, Vw, rfl, hc3, hs3, hb3⟩
       have hE : Ext w3 (w3.alloc (.cells #[.slice A3 na c3, .slice B3 ma k3] 25)) := below1 w3 _
       have HK3 := Lib.hid ((HK.out.bl hb3).bl hE)
       have HW3 : RowKit.Hid (Cx (w3.alloc (.cells #[.slice A3 na c3, .slice B3 ma k3] 25)) 0 w3.heap.size A3 na c3 Vw B3 ma k3 Ea) := Lib.hid ⟨Whole.new_ _ _ [_, _], (hc3.lo_ (Nat.zero_le _)).bl hE⟩
       have HSw := Lib.hid hs3
       clear hc3 hs3 hb3 hE))
  clear HK HCl d0 d1
  obtain ⟨w4, gw4⟩ : ∃ z, w3.alloc (.cells #[.slice A3 na c3, .slice B3 ma k3] 25) = z := ⟨_, rfl⟩
  obtain ⟨g4, gg4⟩ : ∃ z, w3.heap.size = z := ⟨_, rfl⟩
  rw [gw4] at HK3 HW3 ⊢
  rw [gg4] at HW3 ⊢
  clear gw4 gg4
  have d0 := HK3.out.x0.cell (i := 0) rfl
  have d1 := HK3.out.x0.cell (i := 1) rfl
  go_upto_region 5 with (first
    | (go_at_call 25
       refine (HPa.out _ HK3.out.da).mono ?_
       rintro e w5 ⟨A5, c5, rfl, hr5, hb5⟩
       have HK5 := Lib.hid (HK3.out.bl hb5)
       have HW5 := Lib.hid (HW3.out.bl hb5)
       have HO5 := Lib.hid (own_lo8 hr5 HK3.out.b.size)
       clear hr5 hb5 d0 d1))
  clear HK3 HW3
  rcases HCa.out with ⟨rfl, hoa⟩ | ⟨hea, rfl⟩
  case inr =>
    have hq1 : (ea != 0) = true := by simp [hea]
    clear HCa
    go_wp2
    go_ret
    exact ⟨by first | rfl | simp, HK5.out.b⟩
  have hl4 : la ≤ 4000 := by have := hoa.max; have := Hla.out; omega
  have HTy : RowKit.Hid (∀ (A : Option Addr) (c : Nat) W, RdS W W.heap.size 1 A la c (rowsV f8 P) → Calls Try.prog 26 #[.slice A la c] W fun e w' => ∃ A' n' c' B' m' k' Ws, e = .returned (.tuple #[.agg #[.slice A' n' c', .slice B' m' k'], .int .i64 0]) ∧ ClS w' W.heap.size A' n' c' Ws B' m' k' Ea ∧ Ws.map vS = Va.map vS ∧ Below W.heap.size W w') := Lib.hid (fun A c W h => by
    have h9 := take_yes A la c P W h hoa.lt (by omega) hoa.ok
    rw [hoa.e, hoa.v] at h9
    exact h9)
  clear hoa HCa
  have HLw : RowKit.Hid (∀ q, (Value.slice A3 na c3).ownBlock = some q → q < w5.heap.size) := Lib.hid (fun q e => (HW5.out.c.v.lt q e).2)
  go_upto_region 8 with (first
    | (go_at_call 26
       refine (HTy.out _ _ _ (own_rds HO5.out)).mono ?_
       rintro e w7 ⟨A7, n7, c7, B7, m7, k7, Wx, rfl, hc7, hs7, hb7⟩
       have hE : Ext w7 (w7.alloc (.cells #[.slice A7 n7 c7, .slice B7 m7 k7] 25)) := below1 w7 _
       have HK7 := Lib.hid ((HK5.out.bl hb7).bl hE)
       have HW7 := Lib.hid ((HW5.out.bl hb7).bl hE)
       have HO7 := Lib.hid (own_up (own_up HO5.out hb7) hE)
       have HX7 : RowKit.Hid (Cx (w7.alloc (.cells #[.slice A7 n7 c7, .slice B7 m7 k7] 25)) w5.heap.size w7.heap.size A7 n7 c7 Wx B7 m7 k7 Ea) := Lib.hid ⟨Whole.new_ _ _ [_, _], hc7.bl hE⟩
       have HSx := Lib.hid hs7
       clear hc7 hs7 hb7 hE))
  obtain ⟨lo7, glo7⟩ : ∃ z, w5.heap.size = z := ⟨_, rfl⟩
  have Hlo7 : RowKit.Hid (w.heap.size ≤ lo7) := Lib.hid (by rw [← glo7]; exact HK5.out.b.size)
  rw [glo7] at HX7 HLw
  clear HK5 HW5 HO5 glo7
  obtain ⟨w8, gw8⟩ : ∃ z, w7.alloc (.cells #[.slice A7 n7 c7, .slice B7 m7 k7] 25) = z := ⟨_, rfl⟩
  obtain ⟨g7, gg7⟩ : ∃ z, w7.heap.size = z := ⟨_, rfl⟩
  rw [gw8] at HK7 HW7 HO7 HX7 ⊢
  rw [gg7] at HX7 ⊢
  clear gw8 gg7
  have hn7 : na = n7 := by
    have e1 := HX7.out.c.wr.dg.v.rlen vC_len (by decide)
    have e3 := congrArg List.length HSx.out
    rw [List.length_map, List.length_map] at e3
    have := HL.out.1
    omega
  subst hn7
  go_wp2
  go_loopw [9] (fun si wr => ∃ (i : Nat) (L : List Nat), i ≤ la ∧ si = .int .i64 i ∧ RowKit.Hid (L.length = la) ∧ RowKit.Hid (Od w wr g0 Aa na ca Va Ba ma ka Ea) ∧ RowKit.Hid (Cx wr 0 g4 A3 na c3 Vw B3 ma k3 Ea) ∧ RowKit.Hid (Cx wr lo7 g7 A7 na c7 Wx B7 m7 k7 Ea) ∧ RowKit.Hid (wr.ownsRow w.heap.size 5 1 (.slice A5 la c5) la (rowsV f8 L))) (fun si _ => la - (intOf si).toNat)
  case atStart => exact ⟨0, P, by omega, rfl, Hla, HK7, HW7, HX7, HO7⟩
  case round =>
  clear HK7 HW7 HX7 HO7
  obtain ⟨i, L, hi_, rfl, HLl, HK, HW, HX, HO⟩ := hrel
  obtain ⟨wo, gwo⟩ : ∃ z, wr = z := ⟨_, rfl⟩
  rw [gwo] at HK HW HX HO ⊢
  clear gwo
  by_cases hil : i < la
  · obtain ⟨y, hy⟩ : ∃ y, L[i]? = some y := ⟨_, List.getElem?_eq_getElem (by have := HLl.out; omega)⟩
    obtain ⟨gb, junk, eA, hlo, hwb, hcb, hfb, hob⟩ := own_poke (i := 0) (y := 7) (u := .int .u8 7) f8_len HO.out hy hil (by decide) rfl
    subst eA
    rw [Nat.mul_one, Nat.add_zero] at hcb hfb hob
    replace hcb : wo.cell? ⟨gb, i, none⟩ = some (.int .u8 (y : Int)) := hcb
    have HKs := Lib.hid (HK.out.byte hwb hlo hcb (.int .u8 7))
    have HWs := Lib.hid (HW.out.byte (i := i) hwb (.int .u8 7))
    have HXs := Lib.hid (HX.out.byte (i := i) hwb (.int .u8 7))
    have HOs := Lib.hid hob
    have HLs : RowKit.Hid ((L.set i 7).length = la) := Lib.hid (by rw [List.length_set]; exact HLl.out)
    clear hy hlo hwb hob HK HW HX HO HLl
    go_wp2
    go_roundw
    case rel => exact ⟨i + 1, _, by omega, by go_num, HLs, HKs, HWs, HXs, HOs⟩
    case measure => simp [intOf] <;> omega
  obtain rfl : la = i := by omega
  clear HO HLl hil hi_
  go_upto_region 12 with fail
  have d0 := HW.out.x.cell (i := 0) rfl
  have d1 := HW.out.x.cell (i := 1) rfl
  have q0 := HX.out.x.cell (i := 0) rfl
  have q1 := HX.out.x.cell (i := 1) rfl
  go_upto_region 13 with (first
    | (go_at_call 27
       refine (HSm.out _ _ _ _ _ _ _ _ _ _ _ _ _ _ _ HX.out.c.wr.dg HW.out.c.wr.dg HSx.out HSw.out HL.out.1 HL.out.2).mono ?_
       rintro e w12 ⟨rfl, hb12⟩
       have HK12 := Lib.hid (HK.out.bl hb12)
       have HW12 := Lib.hid (HW.out.bl hb12)
       have HX12 := Lib.hid (HX.out.bl hb12)
       clear hb12 d0 d1 q0 q1))
  clear HK HW HX
  have d0 := HW12.out.x.cell (i := 0) rfl
  have d1 := HW12.out.x.cell (i := 1) rfl
  have q0 := HK12.out.x0.cell (i := 0) rfl
  have q1 := HK12.out.x0.cell (i := 1) rfl
  go_upto_region 14 with (first
    | (go_at_call 27
       refine (HSm.out _ _ _ _ _ _ _ _ _ _ _ _ _ _ _ HK12.out.da HW12.out.c.wr.dg rfl HSw.out HL.out.1 HL.out.2).mono ?_
       rintro e w13 ⟨rfl, hb13⟩
       have HK13 := Lib.hid (HK12.out.bl hb13)
       have HW13 := Lib.hid (HW12.out.bl hb13)
       have HX13 := Lib.hid (HX12.out.bl hb13)
       clear hb13 d0 d1 q0 q1))
  clear HK12 HW12 HX12
  have q0 := HK13.out.x0.cell (i := 0) rfl
  have q1 := HK13.out.x0.cell (i := 1) rfl
  go_upto_region 15 with (first
    | (go_at_call 25
       refine (HPa.out _ HK13.out.da).mono ?_
       rintro e w14 ⟨A9, c9, rfl, hr9, hb9⟩
       have HB14 : RowKit.Hid (Below w.heap.size w w14) := Lib.hid (bel_bl HK13.out.b hb9)
       have HW14 := Lib.hid (HW13.out.bl hb9)
       have HY14 := Lib.hid (HX13.out.x.bl hb9)
       have HX14 := Lib.hid ((HX13.out.c.bl hb9).wro)
       have HO14 := Lib.hid (own_lo8 hr9 HK13.out.b.size)
       clear hr9 hb9 q0 q1))
  clear HK13 HW13 HX13 HPa
  have HUl : RowKit.Hid (Wx.length = na) := Lib.hid (HX14.out.dg.v.rlen vC_len (by decide))
  go_wp2
  go_loopw [14] (fun si wr => ∃ (i : Nat) (Us : List VC), i ≤ na ∧ si = .int .i64 i ∧ RowKit.Hid (Us.length = na) ∧ RowKit.Hid (Below w.heap.size w wr) ∧ RowKit.Hid (Cx wr 0 g4 A3 na c3 Vw B3 ma k3 Ea) ∧ RowKit.Hid (Whole wr g7 25 [.slice A7 na c7, .slice B7 m7 k7]) ∧ RowKit.Hid (Wro wr lo7 A7 na c7 Us B7 m7 k7 Ea) ∧ RowKit.Hid (wr.ownsRow w.heap.size 5 1 (.slice A9 la c9) la (rowsV f8 P))) (fun si _ => na - (intOf si).toNat)
  case atStart => exact ⟨0, Wx, by omega, rfl, HUl, HB14, HW14, HY14, HX14, HO14⟩
  case round =>
  clear HB14 HW14 HY14 HX14 HO14 HUl
  obtain ⟨i, Us, hi_, rfl, HUl, HB, HW, HY, HX, HO⟩ := hrel
  obtain ⟨wo, gwo⟩ : ∃ z, wr = z := ⟨_, rfl⟩
  rw [gwo] at HB HW HY HX HO ⊢
  clear gwo
  have q0 := HY.out.cell (i := 0) rfl
  by_cases hin : i < na
  · obtain ⟨y, hy⟩ : ∃ y, Us[i]? = some y := ⟨_, List.getElem?_eq_getElem (by have := HUl.out; omega)⟩
    obtain ⟨gq, eA, hlo, ⟨csq, hwq⟩, hcq, hfq, hMq⟩ := HX.out.lab hy hin { data := #[115, 112, 111, 105, 108, 116] }
    subst eA
    have HWs := Lib.hid (HW.out.vert (i := i * 5 + 3) hwq (fun e => by have h1 := HLw.out gq e.symm; omega) (.string { data := #[115, 112, 111, 105, 108, 116] }))
    have HYs := Lib.hid (HY.out.set_far' (i := i * 5 + 3) (HY.out.ne_ hwq (by decide)) (.string { data := #[115, 112, 111, 105, 108, 116] }))
    have HBs := Lib.hid (HB.out.setCell (p := ⟨gq, i * 5 + 3, none⟩) (show w.heap.size ≤ gq by have := Hlo7.out; omega) (.string { data := #[115, 112, 111, 105, 108, 116] }))
    have HOs := Lib.hid (own_cell_far (i := i * 5 + 3) HO.out (own_ne HO.out hwq (by decide)) (.string { data := #[115, 112, 111, 105, 108, 116] }))
    have HXs := Lib.hid hMq
    have HUs : RowKit.Hid ((Us.set i (setLab y { data := #[115, 112, 111, 105, 108, 116] })).length = na) := Lib.hid (by rw [List.length_set]; exact HUl.out)
    clear hy hlo hwq hMq HB HW HY HX HO HUl
    go_wp2
    go_roundw
    case rel => exact ⟨i + 1, _, by omega, by go_num, HUs, HBs, HWs, HYs, HXs, HOs⟩
    case measure => simp [intOf] <;> omega
  obtain rfl : na = i := by omega
  clear hin hi_ HX HUl
  go_upto_region 19 with fail
  clear q0 HY
  go_upto_region 20 with (first
    | (go_at_call 26
       refine (HTy.out _ _ _ (own_rds HO.out)).mono ?_
       rintro e w20 ⟨A8, n8, c8, B8, m8, k8, Wy, rfl, hc8, hs8, hb8⟩
       have hE : Ext w20 (w20.alloc (.cells #[.slice A8 n8 c8, .slice B8 m8 k8] 25)) := below1 w20 _
       have HB20 := Lib.hid (bel_bl (bel_bl HB.out hb8) hE)
       have HW20 := Lib.hid ((HW.out.bl hb8).bl hE)
       have HY20 : RowKit.Hid (Cx (w20.alloc (.cells #[.slice A8 n8 c8, .slice B8 m8 k8] 25)) wo.heap.size w20.heap.size A8 n8 c8 Wy B8 m8 k8 Ea) := Lib.hid ⟨Whole.new_ _ _ [_, _], hc8.bl hE⟩
       have HSy := Lib.hid hs8
       clear hc8 hs8 hb8 hE))
  clear HB HW HO HTy
  obtain ⟨w21, gw21⟩ : ∃ z, w20.alloc (.cells #[.slice A8 n8 c8, .slice B8 m8 k8] 25) = z := ⟨_, rfl⟩
  obtain ⟨g8, gg8⟩ : ∃ z, w20.heap.size = z := ⟨_, rfl⟩
  rw [gw21] at HB20 HW20 HY20 ⊢
  rw [gg8] at HY20 ⊢
  clear gw21 gg8
  have d0 := HW20.out.x.cell (i := 0) rfl
  have d1 := HW20.out.x.cell (i := 1) rfl
  have q0 := HY20.out.x.cell (i := 0) rfl
  have q1 := HY20.out.x.cell (i := 1) rfl
  go_wp2_with (first
    | (go_at_call 27
       refine (HSm.out _ _ _ _ _ _ _ _ _ _ _ _ _ _ _ HY20.out.c.wr.dg HW20.out.c.wr.dg HSy.out HSw.out HL.out.1 HL.out.2).mono ?_
       rintro e w22 ⟨rfl, hb22⟩
       have HB22 := Lib.hid (bel_bl HB20.out hb22)
       clear hb22 d0 d1 q0 q1))
  go_ret
  exact ⟨by first | rfl | simp, HB22.out⟩
end Go.Proofs.Ytahbfdhjgnlmdaa

/- 'PackOwn' answers true for every diagram.
   No condition beyond the row's own. -/
namespace Go.Proofs.Ytahbfdhjgnlmdaa
open Go.ChangeShapes Go.WideShapes Go.ChangeAt Go.RowKit
namespace lawPackOwn

set_option maxRecDepth 100000 in
theorem contract (H : Type) (enc : TypeId × Value → H) (W : World) (base : Nat) (args : Array Value) (ds gs : List (DataW H)) (before : List MemPlace)
    (hval : ∀ (j : Nat) t v, Try.f6.params[j]? = some t → args[j]? = some v → Value.okWide Try.prog W .any base t v)
    (hW : DataW.Whole enc Try.prog Try.f6.params.toList Rows.packOwnSpec.vars false W args.toList ds gs before) :
    Calls Try.prog 6 args W fun e W' => ∃ v, e = .returned v ∧ Rows.packOwnSpec.post enc Try.prog Try.f6 false true false false W args v W' := by
  have hW' := hW
  obtain ⟨p, q, hA, hV, rfl, hfz, hnd⟩ := hW
  obtain ⟨rfl, rfl⟩ := trodVars_none hV
  rw [Try.params6] at hA hval
  obtain ⟨v0, d0, rfl, rfl, h0⟩ := trodAll_one hA
  obtain ⟨d, rfl, hx0⟩ := open_row1_struct (row1_diagram H) Try.underlying25 (hval 0 25 v0 rfl rfl) h0
  refine (law_own8 d.1.1 d.1.2.1 d.1.2.2.1 d.1.2.2.2 d.2.1 d.2.2.1 d.2.2.2.1 d.2.2.2.2 W hx0.dg hx0.good hx0.max.1 hx0.max.2).mono fun e W' ⟨he, hb⟩ => ⟨_, he, ?_⟩
  exact law_post Try.laidOut (by kernel_rfl) (tb := 4) (by kernel_rfl) Try.underlying4 rfl ⟨rfl, rfl, rfl⟩ hW' hb

set_option maxRecDepth 100000 in
theorem lifted (os : Os) (started : os.Started) (H : Type) (enc : TypeId × Value → H) :
    ReturnsInHanded {} Try.checked os 6 .any (Rows.packOwnSpec.pre6 enc Try.prog Try.f6 Rows.packOwnRow.domain false) (Rows.packOwnSpec.post enc Try.prog Try.f6 false true false false) := by
  refine returnsInHanded_of_change (C := Try.checked) Try.own started (by kernel_rfl) Try.func6
    (ChangeSpec.witness6 (enc := enc) (C := Try.checked) false ⟨#[], #[.agg #[.slice none 0 0, .slice none 0 0]], []⟩ 8 (by kernel_rfl) (by kernel_rfl) (by kernel_rfl) (by kernel_rfl)) ?_
  intro W base args ds gs before hval hW _ _
  exact contract H enc W base args ds gs before hval hW

theorem proved : Rows.PackOwnSaid :=
  OpenClaim.holds_of_wide 6 Try.f6 rfl rfl rfl rfl rfl rfl rfl ⟨rfl, rfl, rfl, rfl, rfl⟩ rfl rfl rfl rfl rfl (by kernel_rfl) Try.func6 (by kernel_rfl)
    (of_decide_eq_true (by kernel_rfl)) (by unfold Func.isWrapper; first | (rw [if_pos (by decide +kernel)]; kernel_rfl) | (rw [if_neg (by decide +kernel)]; exact ⟨rfl, rfl⟩))
    (fun os started H enc _ => lifted os started H enc)
end lawPackOwn
end Go.Proofs.Ytahbfdhjgnlmdaa
