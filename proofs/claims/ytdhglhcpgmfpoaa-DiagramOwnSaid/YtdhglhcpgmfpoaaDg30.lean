/- DiagramOwn's walk. -/
import Derived.Test.YtdhglhcpgmfpoaaDg29
import Derived.Test.YtdhglhcpgmfpoaaIn3
namespace Go.Proofs.Ytdhglhcpgmfpoaa
open Go.RowKit
set_option linter.unusedSimpArgs false
set_option linter.unusedVariables false


/-- Rows of darts of one's own, whatever they hold. -/
def RgsAny (W : World) (lo : Nat) (Ws : List VC) : Prop := ∀ x ∈ Ws, ∃ L : List D, W.ownsRow lo 36 3 (.slice x.2.1.1 x.2.1.2.1 x.2.1.2.2.1) x.2.1.2.1 (dartsV L)
theorem RgsAny.up {W W' : World} {lo : Nat} {Ws : List VC} (h : RgsAny W lo Ws) (hb : Below W.heap.size W W') : RgsAny W' lo Ws := fun x hx => let ⟨L, h1⟩ := h x hx; ⟨L, own_up h1 hb⟩
theorem RgsAny.far {W : World} {lo g i : Nat} {Ws : List VC} {T : TypeId} {cs : List Value} (h : RgsAny W lo Ws) (hw : Whole W g T cs) (hT : T ≠ 36) (u : Value) : RgsAny (W.setCell ⟨g, i, none⟩ u) lo Ws := fun x hx =>
  let ⟨L, h1⟩ := h x hx; ⟨L, own_cell_far h1 (own_ne h1 hw hT) u⟩
theorem dart_side (L : List D) (q : Nat) (d : D) (n : Int) (hd : L[q]? = some d) : dC (d.1, d.2.1, n) = (dC d).set 2 (.int .i64 n) := rfl
/-- A dart's side is set: where, and what stands then. -/
theorem own_side {W : World} {lo n c : Nat} {A : Option Addr} {L : List D} (h : W.ownsRow lo 36 3 (.slice A n c) n (dartsV L)) {q : Nat} (hq : q < n) (u : Int) :
    ∃ g, A = some ⟨g, 0, none⟩ ∧ lo ≤ g ∧ (∃ cs, Whole W g 36 cs) ∧ (∃ v, W.cell? ⟨g, q * 3 + 2, none⟩ = some v) ∧ W.frozen? ⟨g, q * 3 + 2, none⟩ = false ∧
      ∃ L', (W.setCell ⟨g, q * 3 + 2, none⟩ (.int .i64 u)).ownsRow lo 36 3 (.slice A n c) n (dartsV L') := by
  have hl := (own_rds h).dlen
  obtain ⟨d, hd⟩ : ∃ d, L[q]? = some d := ⟨_, List.getElem?_eq_getElem (by omega)⟩
  rw [dartsV_rows] at h
  obtain ⟨g, junk, e, hlo, hw, hc, hf, ho⟩ := own_poke (i := 2) (y := (d.1, d.2.1, u)) (u := .int .i64 u) dC_len h hd hq (by omega) rfl
  exact ⟨g, e, hlo, ⟨_, hw⟩, ⟨_, hc.trans rfl⟩, hf, L.set q (d.1, d.2.1, u), by rw [dartsV_rows]; exact ho⟩
/-- Another row of darts, behind that. -/
theorem own_side_far {W : World} {lo g q : Nat} {A : Option Addr} {n c : Nat} {L : List D} {u : Int} {cs : List Value} (h : W.ownsRow lo 36 3 (.slice A n c) n (dartsV L)) (hw : Whole W g 36 cs) :
    ∃ L', (W.setCell ⟨g, q * 3 + 2, none⟩ (.int .i64 u)).ownsRow lo 36 3 (.slice A n c) n (dartsV L') := by
  rcases h.2 with ⟨h1, h2⟩ | ⟨g', cap, cur, h1, hb, hg, hnc, hcm, hcs, ht⟩
  · refine ⟨L, own_cell_far h ?_ _⟩
    rw [h1]
    intro e
    cases e
  · by_cases hgg : g = g'
    · subst hgg
      injection h1 with a1 a2 a3
      subst a1 a3
      by_cases hq : q < n
      · obtain ⟨g2, e, _, _, _, _, L', hL⟩ := own_side h hq u
        injection e with e
        injection e with e
        subst e
        exact ⟨L', hL⟩
      · have hl := h.1
        obtain ⟨g2, junk, e, hlo, hw2, hjl, hnc2, hcm2, hxl⟩ | h0 : (∃ g2 junk, (some (⟨g, 0, none⟩ : Addr)) = some ⟨g2, 0, none⟩ ∧ lo ≤ g2 ∧ Whole W g2 36 (dartsV L ++ junk) ∧ (dartsV L ++ junk).length = c * 3 ∧ n ≤ c ∧ c ≤ maxLen ∧ (dartsV L).length = n * 3) ∨ n = 0 := by
          rcases Nat.eq_zero_or_pos n with h0 | h0
          · exact .inr h0
          · exact .inl (own_place h h0)
        · injection e with e
          injection e with e
          subst e
          have hw3 := hw2.set_ (q * 3 + 2) (.int .i64 u)
          rw [List.set_append_right _ _ (by omega)] at hw3
          refine ⟨L, own_mk hw3 hlo ?_ hnc2 hcm2 hxl⟩
          rw [List.length_append, List.length_set, ← List.length_append]
          exact hjl
        · subst h0
          have hL : dartsV L = [] := List.eq_nil_of_length_eq_zero (by omega)
          refine ⟨L, h.1, .inr ⟨g, c, _, rfl, hb, ((show Whole W g 36 cur.toList by unfold Whole; simpa using hg).set_ (q * 3 + 2) (.int .i64 u)), hnc, hcm, ?_, ?_⟩⟩
          · simpa using hcs
          · rw [hL]; simp
    · exact ⟨L, own_cell_far h (by rw [h1]; intro e; exact hgg (Option.some.inj e)) _⟩
theorem RgsAny.side {W : World} {lo g q : Nat} {Ws : List VC} {u : Int} {cs : List Value} (h : RgsAny W lo Ws) (hw : Whole W g 36 cs) : RgsAny (W.setCell ⟨g, q * 3 + 2, none⟩ (.int .i64 u)) lo Ws := fun x hx =>
  let ⟨L, h1⟩ := h x hx; own_side_far h1 hw
/-- The new vertex, among what the second region's operations come to. -/
def gamO (base : Nat) (g6 gv off kx : Nat) (Sa Sb Sv : Value) (y1 y2 i1 i2 : Int) (rn : Nat) (rL : List D) (lb : ByteArray) (at_ : Int) : Nat → Value → World → Prop
  | 0, v, _ => v = .agg #[Sa, Sb]
  | 1, v, _ => v = .pointer (some ⟨g6, 0, none⟩)
  | 2, v, _ => v = Sv
  | 3, v, _ => v = .int .i64 (kx : Int)
  | 4, v, _ => v = .pointer (some ⟨gv, off + kx * 5, none⟩)
  | 5, v, _ => v = .pointer (some ⟨gv, off + kx * 5, none⟩)
  | 6, v, _ => v = .agg #[.int .i64 y1, .int .i64 y2]
  | 7, v, W => ∃ A1 c1, v = .tuple #[.agg #[.int .i64 i1, .int .i64 i2, .slice A1 rn c1, .string lb, .int .i64 at_], .bool true] ∧ W.ownsRow base 36 3 (.slice A1 rn c1) rn (dartsV rL)
  | 8, v, W => ∃ A1 c1, v = .tuple #[.agg #[.int .i64 i1, .int .i64 i2, .slice A1 rn c1, .string lb, .int .i64 at_], .bool true] ∧ W.ownsRow base 36 3 (.slice A1 rn c1) rn (dartsV rL)
  | 9, v, W => ∃ A1 c1, v = .agg #[.int .i64 i1, .int .i64 i2, .slice A1 rn c1, .string lb, .int .i64 at_] ∧ W.ownsRow base 36 3 (.slice A1 rn c1) rn (dartsV rL)
  | 10, v, _ => v = .bool true
  | 11, v, W => ∃ g, v = .pointer (some ⟨g, 0, none⟩) ∧ base ≤ g ∧ Whole W g 39 [.int .i64 0, .int .i64 0, .slice none 0 0, .string { data := #[] }, .int .i64 0]
  | _, _, _ => True
theorem gamO_up {base : Nat} {g6 gv off kx : Nat} {Sa Sb Sv : Value} {y1 y2 i1 i2 : Int} {rn : Nat} {rL : List D} {lb : ByteArray} {at_ : Int} : ∀ (i : Nat) (v : Value) (W W' : World), gamO base g6 gv off kx Sa Sb Sv y1 y2 i1 i2 rn rL lb at_ i v W → Ext W W' → gamO base g6 gv off kx Sa Sb Sv y1 y2 i1 i2 rn rL lb at_ i v W'
  | 0, _, _, _, h, _ => h
  | 1, _, _, _, h, _ => h
  | 2, _, _, _, h, _ => h
  | 3, _, _, _, h, _ => h
  | 4, _, _, _, h, _ => h
  | 5, _, _, _, h, _ => h
  | 6, _, _, _, h, _ => h
  | 7, _, _, _, ⟨A, c, e, h⟩, hx => ⟨A, c, e, own_up h hx⟩
  | 8, _, _, _, ⟨A, c, e, h⟩, hx => ⟨A, c, e, own_up h hx⟩
  | 9, _, _, _, ⟨A, c, e, h⟩, hx => ⟨A, c, e, own_up h hx⟩
  | 10, _, _, _, h, _ => h
  | 11, _, _, _, ⟨g, e, h1, h2⟩, hx => ⟨g, e, h1, h2.bl hx⟩
  | _ + 12, _, _, _, _, _ => trivial
set_option maxRecDepth 100000 in
set_option maxHeartbeats 4000000 in
theorem law_own (A : Option Addr) (n c : Nat) (Vs : List VC) (B : Option Addr) (m k : Nat) (Es : List EC) (x : Int) (w : World) (h : DgIn w A n c Vs B m k Es) (hg : GoodD Vs Es) (hn : n ≤ maxLen) (hm : m ≤ maxLen) :
    Calls Try.prog 9 #[.agg #[.slice A n c, .slice B m k], .int .i64 x] w fun e w' => e = .returned (.bool true) ∧ Below w.heap.size w w' := by
  have HW := Lib.hid (fun W hb => few_step h hg hn hm W hb)
  obtain ⟨Va, gVa⟩ : ∃ z, (Vs.take 30).map fewV = z := ⟨_, rfl⟩
  obtain ⟨Ea, gEa⟩ : ∃ z, Es.take 50 = z := ⟨_, rfl⟩
  rw [gVa, gEa] at HW
  clear h hg hn hm gVa gEa
  go_enter Try.func9, Try.ntmps9
  go_wp2_with fail
  refine (shown_any _).mono ?_
  rintro e w1 ⟨rfl, hb1⟩
  have D0_2 := Lib.hid ((show Whole (w.alloc (.cells #[.slice A n c, .slice B m k] 25)) (w.heap.size) (25) ([.slice A n c, .slice B m k]) from Whole.new2 (by first | rfl | simp)).bl hb1)
  have Bel_2 := Lib.hid (bel_bl (bel_al (Below.refl _ w) (.cells #[.slice A n c, .slice B m k] 25)) hb1)
  clear hb1
  have LO_D0_3 : RowKit.Hid (w.heap.size ≤ w.heap.size) := Lib.hid (by omega)
  have lw4 : (w1).cell? ⟨w.heap.size, 0, none⟩ = some (.slice A n c) := D0_2.out.cell (i := 0) rfl
  have lw5 : (w1).cell? ⟨w.heap.size, 1, none⟩ = some (.slice B m k) := D0_2.out.cell (i := 1) rfl
  go_wp2_with fail
  clear lw4 lw5
  have LTN_a_D0 : RowKit.Hid (w.heap.size < w1.heap.size) := Lib.hid (D0_2.out).lt
  refine (HW.out _ Bel_2.out).mono ?_
  rintro e w6 ⟨Aa, na, ca, Ba, ma, ka, rfl, hF, hb6⟩
  have Fa := Lib.hid hF
  clear hF
  have D0_7 := Lib.hid (D0_2.out.bl hb6)
  have Bel_7 := Lib.hid (bel_bl Bel_2.out hb6)
  clear D0_2 Bel_2
  clear hb6
  have lw8 : (w6).cell? ⟨w.heap.size, 0, none⟩ = some (.slice A n c) := D0_7.out.cell (i := 0) rfl
  have lw9 : (w6).cell? ⟨w.heap.size, 1, none⟩ = some (.slice B m k) := D0_7.out.cell (i := 1) rfl
  have fr0 := D0_7.out.free 0
  have fr1 := D0_7.out.free 1
  go_upto_region 3 with fail
  clear fr0 fr1 lw8 lw9
  obtain ⟨v10, gv10⟩ : ∃ x, (w6.setCell ⟨w.heap.size, 0, none⟩ (.slice Aa na ca)).setCell ⟨w.heap.size, 1, none⟩ (.slice Ba ma ka) = x := ⟨_, rfl⟩
  have D0_10 : RowKit.Hid (Whole v10 w.heap.size 25 [.slice Aa na ca, .slice Ba ma ka]) := Lib.hid (gv10 ▸ ((D0_7.out.set_ 0 (.slice Aa na ca)).set_ 1 (.slice Ba ma ka)))
  have Bel_10 : RowKit.Hid (Below w.heap.size w v10) := Lib.hid (gv10 ▸ ((Bel_7.out.setCell (p := ⟨w.heap.size, 0, none⟩) (by show w.heap.size ≤ w.heap.size; exact LO_D0_3.out) _).setCell (p := ⟨w.heap.size, 1, none⟩) (by show w.heap.size ≤ w.heap.size; exact LO_D0_3.out) _))
  have Da_10 : RowKit.Hid (DgIn v10 Aa na ca Va Ba ma ka Ea) := Lib.hid (gv10 ▸ Fa.out.put (g := w.heap.size) (by show w.heap.size ≤ w.heap.size; exact LO_D0_3.out) LTN_a_D0.out _ _)
  rw [gv10]
  clear gv10
  clear D0_7 Bel_7
  have hr30 : ∀ x ∈ Va, x.2.1.2.1 ≤ 1000000 := fun x hx => by have := Fa.out.r30 x hx; omega
  have hn30 : na ≤ 1000000 := by have := Fa.out.n30; omega
  have hm50 : ma ≤ 1000000 := by have := Fa.out.m50; omega
  have HR30 := Lib.hid hr30
  have HCl : RowKit.Hid (∀ W, DgIn W Aa na ca Va Ba ma ka Ea → Calls Try.prog 28 #[.agg #[.slice Aa na ca, .slice Ba ma ka]] W fun e w' => ∃ A2 c2 B2 k2 Wc, e = .returned (.agg #[.slice A2 na c2, .slice B2 ma k2]) ∧ Cl w' W.heap.size A2 na c2 Wc B2 ma k2 Ea ∧ Wc.map vS = Va.map vS ∧ Below W.heap.size W w') := Lib.hid (fun W h => by
    refine (clone_any Aa na ca Va Ba ma ka Ea W h hn30 hm50 HR30.out).mono ?_
    rintro e w' ⟨A2, c2, B2, k2, Wc, rfl, hc, hs, hb⟩
    exact ⟨A2, c2, B2, k2, Wc, rfl, hc, hs, hb⟩)
  clear hr30
  have lw11 : (v10).cell? ⟨w.heap.size, 0, none⟩ = some (.slice Aa na ca) := D0_10.out.cell (i := 0) rfl
  have lw12 : (v10).cell? ⟨w.heap.size, 1, none⟩ = some (.slice Ba ma ka) := D0_10.out.cell (i := 1) rfl
  go_wp2_with fail
  clear lw11 lw12
  refine (HCl.out _ Da_10.out).mono ?_
  rintro e w13 ⟨A2, c2, B2, k2, Wc, rfl, hcl, hsm, hb13⟩
  have hcd := hcl.dg
  have HSm := Lib.hid hsm
  clear hsm
  have D0_14 := Lib.hid (D0_10.out.bl hb13)
  have Da_14 := Lib.hid (Da_10.out.bl hb13)
  have Bel_14 := Lib.hid (bel_bl Bel_10.out hb13)
  clear D0_10 Da_10 Bel_10
  clear hb13
  have Dc_14 := Lib.hid hcd
  clear hcd
  clear hcl
  have lw15 : ((w13.alloc (.cells #[.slice A2 na c2, .slice B2 ma k2] 25))).cell? ⟨w.heap.size, 0, none⟩ = some (.slice Aa na ca) := (D0_14.out.al (.cells #[.slice A2 na c2, .slice B2 ma k2] 25)).cell (i := 0) rfl
  have lw16 : ((w13.alloc (.cells #[.slice A2 na c2, .slice B2 ma k2] 25))).cell? ⟨w.heap.size, 1, none⟩ = some (.slice Ba ma ka) := (D0_14.out.al (.cells #[.slice A2 na c2, .slice B2 ma k2] 25)).cell (i := 1) rfl
  go_wp2_with fail
  clear lw15 lw16
  have D0_17 := Lib.hid ((D0_14.out.al (.cells #[.slice A2 na c2, .slice B2 ma k2] 25)))
  have Da_17 := Lib.hid ((Da_14.out.al (.cells #[.slice A2 na c2, .slice B2 ma k2] 25)))
  have Dc_17 := Lib.hid ((Dc_14.out.al (.cells #[.slice A2 na c2, .slice B2 ma k2] 25)))
  have C1_17 := Lib.hid ((show Whole (w13.alloc (.cells #[.slice A2 na c2, .slice B2 ma k2] 25)) (w13.heap.size) (25) ([.slice A2 na c2, .slice B2 ma k2]) from Whole.new2 (by first | rfl | simp)))
  have Bel_17 := Lib.hid (bel_al Bel_14.out (.cells #[.slice A2 na c2, .slice B2 ma k2] 25))
  obtain ⟨v17, gv17⟩ : ∃ x, (w13.alloc (.cells #[.slice A2 na c2, .slice B2 ma k2] 25)) = x := ⟨_, rfl⟩
  rw [gv17] at D0_17 Da_17 Dc_17 C1_17 Bel_17 ⊢
  clear gv17
  clear D0_14 Da_14 Dc_14 Bel_14
  obtain ⟨g6, gg6⟩ : ∃ z, w13.heap.size = z := ⟨_, rfl⟩
  rw [gg6] at C1_17
  try rw [gg6]
  clear gg6
  refine (HCl.out _ Da_17.out).mono ?_
  rintro e w18 ⟨A3, c3, B3, k3, We, rfl, hce, hse, hb18⟩
  have HWL : RowKit.Hid (We.length = na) := Lib.hid (by have := congrArg List.length hse; simp at this; have := Fa.out.lenv; omega)
  have HEl : RowKit.Hid (Ea.length = ma) := Lib.hid Fa.out.lene
  have HD0 : RowKit.Hid (DgIn v17 Aa na ca Va Ba ma ka Ea) := Lib.hid Da_17.out
  have HC0 : RowKit.Hid (DgIn v17 A2 na c2 Wc B2 ma k2 Ea) := Lib.hid Dc_17.out
  have HX0 : RowKit.Hid (Whole v17 w.heap.size 25 [.slice Aa na ca, .slice Ba ma ka]) := Lib.hid D0_17.out
  have HX6 : RowKit.Hid (Whole v17 g6 25 [.slice A2 na c2, .slice B2 ma k2]) := Lib.hid C1_17.out
  have HBd : RowKit.Hid (Below w.heap.size w v17) := Lib.hid Bel_17.out
  have HZ0 : RowKit.Hid (Below v17.heap.size v17 (w18.alloc (.cells #[.slice A3 na c3, .slice B3 ma k3] 25))) := Lib.hid (bel_al hb18 _)
  have HY0 : RowKit.Hid (Whole (w18.alloc (.cells #[.slice A3 na c3, .slice B3 ma k3] 25)) w18.heap.size 25 [.slice A3 na c3, .slice B3 ma k3]) := Lib.hid (Whole.new_ _ _ [_, _])
  have HL7 : RowKit.Hid (v17.heap.size ≤ w18.heap.size) := Lib.hid hb18.size
  have hce2 := hce.up (below1 _ (.cells #[.slice A3 na c3, .slice B3 ma k3] 25))
  have HV0 := Lib.hid hce2.v
  have HEe0 := Lib.hid hce2.e
  have HR0 : RowKit.Hid (RgsAny (w18.alloc (.cells #[.slice A3 na c3, .slice B3 ma k3] 25)) v17.heap.size We) := Lib.hid (fun y hy => ⟨_, hce2.r.own y hy⟩)
  clear hce hce2 hse hb18 HCl
  go_wp2
  obtain ⟨W0, gW0⟩ : ∃ z, w18.alloc (.cells #[.slice A3 na c3, .slice B3 ma k3] 25) = z := ⟨_, rfl⟩
  obtain ⟨g7, gg7⟩ : ∃ z, w18.heap.size = z := ⟨_, rfl⟩
  obtain ⟨lo, glo⟩ : ∃ z, v17.heap.size = z := ⟨_, rfl⟩
  have Glo := Lib.hid glo
  rw [gW0] at HZ0 HY0 HV0 HEe0 HR0 ⊢
  rw [gg7] at HY0 HL7 ⊢
  rw [glo] at HZ0 HV0 HEe0 HR0 HL7
  clear gW0 gg7 glo
  obtain ⟨Wd, gWd⟩ : ∃ z, v17 = z := ⟨_, rfl⟩
  rw [gWd] at HD0 HC0 HX0 HX6 HBd HZ0 Glo
  clear D0_17 Da_17 Dc_17 C1_17 Bel_17
  clear gWd
  go_loopw [8] (fun si wr => ∃ (j : Nat) (Us : List VC) (Fs : List EC), j ≤ na ∧ si = .int .i64 j ∧ RowKit.Hid (Us.length = na) ∧ RowKit.Hid (Fs.length = ma) ∧ RowKit.Hid (Below lo Wd wr) ∧ RowKit.Hid (Whole wr g7 25 [.slice A3 na c3, .slice B3 ma k3]) ∧ RowKit.Hid (wr.ownsRow lo 43 4 (.slice B3 ma k3) ma (rowsV eC Fs)) ∧ RowKit.Hid (wr.ownsRow lo 39 5 (.slice A3 na c3) na (rowsV vC Us)) ∧ RowKit.Hid (RgsAny wr lo Us)) (fun si _ => na - (intOf si).toNat)
  case atStart => exact ⟨0, We, Ea, by omega, rfl, HWL, HEl, HZ0, HY0, HEe0, HV0, HR0⟩
  case round =>
    clear HZ0 HY0 HV0 HEe0 HR0
    obtain ⟨j, Us, Fs, hj, rfl, HUl, HFl, HZ, HY, HE, HV, HR⟩ := hrel
    obtain ⟨wo, gwo⟩ : ∃ z, wr = z := ⟨_, rfl⟩
    rw [gwo] at HZ HY HE HV HR ⊢
    clear gwo
    have cb := HY.out.cell (i := 0) rfl
    by_cases hjn : j < na
    · obtain ⟨y, hy⟩ : ∃ y, Us[j]? = some y := ⟨_, List.getElem?_eq_getElem (by have := HUl.out; omega)⟩
      obtain ⟨gv, junk, rfl, hlo, hw, hc, hf, ho⟩ := own_poke (i := 3) (y := setLab y { data := #[115, 112, 111, 105, 108, 116] }) (u := .string { data := #[115, 112, 111, 105, 108, 116] }) vC_len HV.out hy hjn (by omega) rfl
      obtain ⟨u0, hc0⟩ : ∃ u, wo.cell? ⟨gv, j * 5 + 3, none⟩ = some u := ⟨_, hc.trans rfl⟩
      have hne7 : g7 ≠ gv := (HY.out.ne_ hw (by decide))
      have HY1 := Lib.hid (HY.out.set_far' (i := j * 5 + 3) hne7 (.string { data := #[115, 112, 111, 105, 108, 116] }))
      have HE1 := Lib.hid (own_cell_far (i := j * 5 + 3) HE.out (own_ne HE.out hw (by decide)) (.string { data := #[115, 112, 111, 105, 108, 116] }))
      have HZ1 := Lib.hid (HZ.out.setCell (p := ⟨gv, j * 5 + 3, none⟩) hlo (.string { data := #[115, 112, 111, 105, 108, 116] }))
      have hR1 := HR.out.far (i := j * 5 + 3) hw (by decide) (.string { data := #[115, 112, 111, 105, 108, 116] })
      have hmy : setLab y { data := #[115, 112, 111, 105, 108, 116] } ∈ Us.set j (setLab y { data := #[115, 112, 111, 105, 108, 116] }) := List.mem_of_getElem? (i := j) (by rw [List.getElem?_set, if_pos rfl, if_pos (by have := HUl.out; omega)])
      have HR1 : RowKit.Hid (RgsAny (wo.setCell ⟨gv, j * 5 + 3, none⟩ (.string { data := #[115, 112, 111, 105, 108, 116] })) lo (Us.set j (setLab y { data := #[115, 112, 111, 105, 108, 116] }))) := Lib.hid (fun z hz => by
        rcases List.mem_or_eq_of_mem_set hz with hz | rfl
        · exact hR1 z hz
        · exact hR1 y (List.mem_of_getElem? hy))
      have HUl1 : RowKit.Hid ((Us.set j (setLab y { data := #[115, 112, 111, 105, 108, 116] })).length = na) := Lib.hid (by rw [List.length_set]; exact HUl.out)
      have hget : (Us.set j (setLab y { data := #[115, 112, 111, 105, 108, 116] }))[j]? = some (setLab y { data := #[115, 112, 111, 105, 108, 116] }) := by rw [List.getElem?_set, if_pos rfl, if_pos (by have := HUl.out; omega)]
      have HV1 := Lib.hid ho
      obtain ⟨U1, gU1⟩ : ∃ z, Us.set j (setLab y { data := #[115, 112, 111, 105, 108, 116] }) = z := ⟨_, rfl⟩
      rw [gU1] at HR1 HUl1 HV1 hmy hget
      have q2 := (own_rds HV1.out).elem vC_len hget 2 _ rfl
      simp only [Addr.add_lit, Nat.add_zero, Nat.zero_add] at q2
      obtain ⟨⟨i1, i2⟩, ⟨rA, rn, rc, rL⟩, lb, at_⟩ := y
      replace q2 : (wo.setCell ⟨gv, j * 5 + 3, none⟩ (.string { data := #[115, 112, 111, 105, 108, 116] })).cell? ⟨gv, j * 5 + 2, none⟩ = some (.slice rA rn rc) := q2
      have HmU : RowKit.Hid (∃ z ∈ U1, z.2.1.1 = rA ∧ z.2.1.2.1 = rn ∧ z.2.1.2.2.1 = rc) := Lib.hid ⟨_, hmy, rfl, rfl, rfl⟩
      have HgU : RowKit.Hid (∃ z : VC, U1[j]? = some z ∧ (vC z)[2]? = some (.slice rA rn rc)) := Lib.hid ⟨_, hget, rfl⟩
      clear hy hw hc ho hlo hne7 hR1 hmy hget gU1 HV HR HY HE HZ HUl
      go_upto_region 9 with fail
      clear cb hc0 hf q2
      obtain ⟨W1, gW1⟩ : ∃ z, wo.setCell ⟨gv, j * 5 + 3, none⟩ (.string { data := #[115, 112, 111, 105, 108, 116] }) = z := ⟨_, rfl⟩
      rw [gW1] at HV1 HR1 HY1 HE1 HZ1 ⊢
      clear gW1
      go_wp2
      go_loopw [9] (fun si wr => ∃ q : Nat, q ≤ rn ∧ si = .int .i64 q ∧ RowKit.Hid (Below lo Wd wr) ∧ RowKit.Hid (Whole wr g7 25 [.slice (some ⟨gv, 0, none⟩) na c3, .slice B3 ma k3]) ∧ RowKit.Hid (wr.ownsRow lo 43 4 (.slice B3 ma k3) ma (rowsV eC Fs)) ∧ RowKit.Hid (wr.ownsRow lo 39 5 (.slice (some ⟨gv, 0, none⟩) na c3) na (rowsV vC U1)) ∧ RowKit.Hid (RgsAny wr lo U1)) (fun si _ => rn - (intOf si).toNat)
      case atStart => exact ⟨0, by omega, rfl, HZ1, HY1, HE1, HV1, HR1⟩
      case round =>
        clear HZ1 HY1 HE1 HV1 HR1
        obtain ⟨q, hq, rfl, HZ, HY, HE, HV, HR⟩ := hrel
        obtain ⟨wi, gwi⟩ : ∃ z, wr = z := ⟨_, rfl⟩
        rw [gwi] at HZ HY HE HV HR ⊢
        clear gwi
        have cb := HY.out.cell (i := 0) rfl
        obtain ⟨zz, hz1, hz2⟩ := HgU.out
        have q2 := (own_rds HV.out).elem vC_len hz1 2 _ hz2
        simp only [Addr.add_lit, Nat.add_zero, Nat.zero_add] at q2
        clear hz1 hz2
        by_cases hqn : q < rn
        · obtain ⟨z, hzm, e1, e2, e3⟩ := HmU.out
          obtain ⟨L, hL⟩ := HR.out z hzm
          rw [e1, e2, e3] at hL
          obtain ⟨g2p, jkp, ep, _, _, _, hnc, hcm, _⟩ := own_place hL (by omega)
          have hrm : rn ≤ 9223372036854775807 := by unfold maxLen at hcm; omega
          clear ep hnc hcm
          obtain ⟨gr, rfl, hlo, ⟨cs, hwr⟩, ⟨v0, hcv⟩, hfr, L', hL'⟩ := own_side hL hqn 7
          obtain ⟨jk, hwv⟩ : ∃ jk, Whole wi gv 39 (rowsV vC U1 ++ jk) := by
            obtain ⟨g2, jk, e, _, h2, _⟩ := own_place HV.out (by omega)
            injection e with e
            injection e with e
            subst e
            exact ⟨jk, h2⟩
          have HV2 := Lib.hid (own_cell_far (i := q * 3 + 2) HV.out (own_ne HV.out hwr (by decide)) (.int .i64 7))
          have HE2 := Lib.hid (own_cell_far (i := q * 3 + 2) HE.out (own_ne HE.out hwr (by decide)) (.int .i64 7))
          have HY2 := Lib.hid (HY.out.set_far' (i := q * 3 + 2) (HY.out.ne_ hwr (by decide)) (.int .i64 7))
          have HZ2 := Lib.hid (HZ.out.setCell (p := ⟨gr, q * 3 + 2, none⟩) hlo (.int .i64 7))
          have HR2 := Lib.hid (HR.out.side (q := q) (u := 7) hwr)
          clear hzm e1 e2 e3 hL hlo hwr hL' hwv HV HE HY HZ HR
          go_wp2
          go_roundw
          case rel => exact ⟨q + 1, by omega, by go_num, HZ2, HY2, HE2, HV2, HR2⟩
          case measure => simp [intOf]; omega
        · obtain rfl : rn = q := by omega
          go_wp2
          go_roundw
          case rel => exact ⟨j + 1, U1, Fs, by omega, by go_num, HUl1, HFl, HZ, HY, HE, HV, HR⟩
          case measure => simp [intOf]; omega
    · obtain rfl : na = j := by omega
      clear HV HR
      go_wp2
      clear cb
      go_loopw [10] (fun si wr => ∃ (j : Nat) (Fs : List EC), j ≤ ma ∧ si = .int .i64 j ∧ RowKit.Hid (Fs.length = ma) ∧ RowKit.Hid (Below lo Wd wr) ∧ RowKit.Hid (Whole wr g7 25 [.slice A3 na c3, .slice B3 ma k3]) ∧ RowKit.Hid (wr.ownsRow lo 43 4 (.slice B3 ma k3) ma (rowsV eC Fs))) (fun si _ => ma - (intOf si).toNat)
      case atStart => exact ⟨0, Fs, by omega, rfl, HFl, HZ, HY, HE⟩
      case round =>
        clear HZ HY HE HFl
        obtain ⟨q, Fs, hq, rfl, HFl, HZ, HY, HE⟩ := hrel
        obtain ⟨wi, gwi⟩ : ∃ z, wr = z := ⟨_, rfl⟩
        rw [gwi] at HZ HY HE ⊢
        clear gwi
        have cb := HY.out.cell (i := 1) rfl
        by_cases hqm : q < ma
        · obtain ⟨y, hy⟩ : ∃ y, Fs[q]? = some y := ⟨_, List.getElem?_eq_getElem (by have := HFl.out; omega)⟩
          obtain ⟨ge, junk, rfl, hlo, hw, hc, hf, ho⟩ := own_poke (i := 3) (y := (y.1, y.2.1, (7 : Int))) (u := .int .i64 7) eC_len HE.out hy hqm (by omega) rfl
          obtain ⟨u0, hc0⟩ : ∃ u, wi.cell? ⟨ge, q * 4 + 3, none⟩ = some u := ⟨_, hc.trans rfl⟩
          have HY1 := Lib.hid (HY.out.set_far' (i := q * 4 + 3) (HY.out.ne_ hw (by decide)) (.int .i64 7))
          have HZ1 := Lib.hid (HZ.out.setCell (p := ⟨ge, q * 4 + 3, none⟩) hlo (.int .i64 7))
          have HE1 := Lib.hid ho
          have HFl1 : RowKit.Hid ((Fs.set q (y.1, y.2.1, (7 : Int))).length = ma) := Lib.hid (by rw [List.length_set]; exact HFl.out)
          clear hy hw hc ho hlo HY HZ HE
          go_wp2
          go_roundw
          case rel => exact ⟨q + 1, _, by omega, by go_num, HFl1, HZ1, HY1, HE1⟩
          case measure => simp [intOf]; omega
        · obtain rfl : ma = q := by omega
          clear HE
          by_cases hx0 : 0 ≤ x
          · obtain ⟨kx, rfl⟩ : ∃ kx : Nat, x = (kx : Int) := ⟨x.toNat, by omega⟩
            have HZd : RowKit.Hid (Below Wd.heap.size Wd wi) := Lib.hid (by rw [Glo.out]; exact HZ.out)
            have H6i := Lib.hid (HX6.out.bl HZd.out)
            have cc := H6i.out.cell (i := 0) rfl
            by_cases hxn : kx < na
            · have hxI : (kx : Int) < (na : Int) := by omega
              obtain ⟨y, hy⟩ : ∃ y, Wc[kx]? = some y := ⟨_, List.getElem?_eq_getElem (by have := congrArg List.length HSm.out; simp at this; have := Fa.out.lenv; omega)⟩
              have hC1 := HC0.out.bl HZd.out
              have hgd := same_good HSm.out HC0.out HD0.out Fa.out.good 1000000 HR30.out
              obtain ⟨gv, off, rfl, hbB, hpl⟩ := hC1.v.place vC_len (by decide) (by omega)
              have q0 := hpl kx _ hy 0 _ rfl
              have q1 := hpl kx _ hy 1 _ rfl
              simp only [Addr.add_lit, Nat.add_zero] at q0 q1
              have hfv := fndV_some Wc y.1
              rw [decide_eq_true (List.mem_map.2 ⟨y, List.mem_of_getElem? hy, rfl⟩)] at hfv
              obtain ⟨⟨⟨⟨i1, i2⟩, ⟨rA, rn, rc, rL⟩, lb, at_⟩, ok⟩, gr⟩ : ∃ z, fndV Wc y.1 = z := ⟨_, rfl⟩
              rw [gr] at hfv
              obtain rfl : ok = true := hfv
              obtain ⟨⟨y1, y2⟩, yr⟩ := y
              have HVx : RowKit.Hid (∀ W, DgIn W (some ⟨gv, off, none⟩) na c2 Wc B2 ma k2 Ea → Calls Try.prog 18 #[.agg #[.slice (some ⟨gv, off, none⟩) na c2, .slice B2 ma k2], .agg #[.int .i64 y1, .int .i64 y2]] W fun e w' => ∃ A1 c1, e = .returned (.tuple #[.agg #[.int .i64 i1, .int .i64 i2, .slice A1 rn c1, .string lb, .int .i64 at_], .bool true]) ∧ Ow W W.heap.size 36 3 (.slice A1 rn c1) rn (dartsV rL) w') := Lib.hid (fun W h => vertex_any _ na c2 Wc B2 ma k2 Ea y1 y2 W h hn30 hgd.2 _ true gr)
              have HQ1 : RowKit.Hid (∀ W, Ext wi.drew W → W.cell? ⟨gv, off + kx * 5, none⟩ = some (.int .i64 y1) ∧ W.cell? ⟨gv, off + kx * 5 + 1, none⟩ = some (.int .i64 y2)) := Lib.hid (fun W hb => ⟨hb.cell (p := ⟨gv, off + kx * 5, none⟩) q0, hb.cell (p := ⟨gv, off + kx * 5 + 1, none⟩) q1⟩)
              have HCi := Lib.hid hC1
              clear hy hgd hbB hpl q0 q1 gr hC1
              go_upto_region 18 with fail
              clear cc cb
              refine wp_region_in3 12 10 (From_ w.heap.size) (gamO wi.drew.heap.size g6 gv off kx (.slice (some ⟨gv, off, none⟩) na c2) (.slice B2 ma k2) (.slice (some ⟨gv, off, none⟩) na c2) y1 y2 i1 i2 rn rL lb at_) (Ext wi.drew) (by kernel_rfl) (by kernel_rfl) (by kernel_rfl) (by kernel_rfl) (by kernel_rfl) (by kernel_rfl) (by simp only [List.getElem?_toArray, List.getElem?_cons_succ, List.getElem?_cons_zero]; exact rfl) (by kernel_rfl) (by kernel_rfl) (by kernel_rfl) ?_ (fun i v w1 w2 h hx => gamO_up i v w1 w2 h hx) (fun _ _ h k => h.trans k) (Ext.refl _) ?_ ?_ ?_
              · exact fun _ _ _ _ h => h
              · intro i hi9
                have hcase : i = 0 ∨ i = 1 ∨ i = 2 ∨ i = 3 ∨ i = 4 ∨ i = 5 ∨ i = 6 ∨ i = 7 ∨ i = 8 ∨ i = 9 ∨ i = 10 ∨ i = 11 := by omega
                rcases hcase with rfl | rfl | rfl | rfl | rfl | rfl | rfl | rfl | rfl | rfl | rfl | rfl
                · intro o ho x y hg hdep
                  simp only [List.getElem?_toArray, List.getElem?_cons_succ, List.getElem?_cons_zero, Option.some.injEq] at ho
                  subst ho
                  have hc0 := (H6i.out.dr.bl hg).cell (i := 0) rfl
                  have hc1 := (H6i.out.dr.bl hg).cell (i := 1) rfl
                  simp only [dsts, List.map_cons, List.map_nil, putAll, Act.put, List.setIfInBounds_toArray, List.set_cons_zero, List.set_cons_succ]
                  refine .inl ⟨by rfl, ?_⟩
                  go_simp
                  exact ⟨Ext.refl _, rfl⟩
                · intro o ho x y hg hdep
                  simp only [List.getElem?_toArray, List.getElem?_cons_succ, List.getElem?_cons_zero, Option.some.injEq] at ho
                  subst ho
                  simp only [dsts, List.map_cons, List.map_nil, putAll, Act.put, List.setIfInBounds_toArray, List.set_cons_zero, List.set_cons_succ]
                  refine .inl ⟨by rfl, ?_⟩
                  go_simp
                  exact ⟨Ext.refl _, rfl⟩
                · intro o ho x y hg hdep
                  simp only [List.getElem?_toArray, List.getElem?_cons_succ, List.getElem?_cons_zero, Option.some.injEq] at ho
                  subst ho
                  have d1 : x 1 = .pointer (some ⟨g6, 0, none⟩) := hdep 1 (by decide)
                  have hc0 := (H6i.out.dr.bl hg).cell (i := 0) rfl
                  simp only [dsts, List.map_cons, List.map_nil, putAll, Act.put, List.setIfInBounds_toArray, List.set_cons_zero, List.set_cons_succ]
                  simp only [d1]
                  refine .inl ⟨by rfl, ?_⟩
                  go_simp
                  exact ⟨Ext.refl _, rfl⟩
                · intro o ho x y hg hdep
                  simp only [List.getElem?_toArray, List.getElem?_cons_succ, List.getElem?_cons_zero, Option.some.injEq] at ho
                  subst ho
                  simp only [dsts, List.map_cons, List.map_nil, putAll, Act.put, List.setIfInBounds_toArray, List.set_cons_zero, List.set_cons_succ]
                  refine .inl ⟨by rfl, ?_⟩
                  go_simp
                  exact ⟨Ext.refl _, rfl⟩
                · intro o ho x y hg hdep
                  simp only [List.getElem?_toArray, List.getElem?_cons_succ, List.getElem?_cons_zero, Option.some.injEq] at ho
                  subst ho
                  have d2 : x 2 = .slice (some ⟨gv, off, none⟩) na c2 := hdep 2 (by decide)
                  have d3 : x 3 = .int .i64 (kx : Int) := hdep 3 (by decide)
                  simp only [dsts, List.map_cons, List.map_nil, putAll, Act.put, List.setIfInBounds_toArray, List.set_cons_zero, List.set_cons_succ]
                  simp only [d2, d3]
                  refine .inl ⟨by rfl, ?_⟩
                  go_simp
                  exact ⟨Ext.refl _, rfl⟩
                · intro o ho x y hg hdep
                  simp only [List.getElem?_toArray, List.getElem?_cons_succ, List.getElem?_cons_zero, Option.some.injEq] at ho
                  subst ho
                  have d4 : x 4 = .pointer (some ⟨gv, off + kx * 5, none⟩) := hdep 4 (by decide)
                  simp only [dsts, List.map_cons, List.map_nil, putAll, Act.put, List.setIfInBounds_toArray, List.set_cons_zero, List.set_cons_succ]
                  simp only [d4]
                  refine .inl ⟨by rfl, ?_⟩
                  go_simp
                  exact ⟨Ext.refl _, rfl⟩
                · intro o ho x y hg hdep
                  simp only [List.getElem?_toArray, List.getElem?_cons_succ, List.getElem?_cons_zero, Option.some.injEq] at ho
                  subst ho
                  have d5 : x 5 = .pointer (some ⟨gv, off + kx * 5, none⟩) := hdep 5 (by decide)
                  have hq0 := (HQ1.out _ hg).1
                  have hq1 := (HQ1.out _ hg).2
                  simp only [dsts, List.map_cons, List.map_nil, putAll, Act.put, List.setIfInBounds_toArray, List.set_cons_zero, List.set_cons_succ]
                  simp only [d5]
                  refine .inl ⟨by rfl, ?_⟩
                  go_simp
                  exact ⟨Ext.refl _, rfl⟩
                · intro o ho x y hg hdep
                  simp only [List.getElem?_toArray, List.getElem?_cons_succ, List.getElem?_cons_zero, Option.some.injEq] at ho
                  subst ho
                  have d0 : x 0 = .agg #[.slice (some ⟨gv, off, none⟩) na c2, .slice B2 ma k2] := hdep 0 (by decide)
                  have d6 : x 6 = .agg #[.int .i64 y1, .int .i64 y2] := hdep 6 (by decide)
                  simp only [dsts, List.map_cons, List.map_nil, putAll, Act.put, List.setIfInBounds_toArray, List.set_cons_zero, List.set_cons_succ]
                  simp only [d0, d6]
                  refine .inl ⟨by rfl, outT_call (by go_simp; first | done | exact ⟨rfl, rfl⟩ | with_reducible rfl) ?_⟩
                  refine (HVx.out y (HCi.out.dr.bl hg)).mono ?_
                  rintro e w2 ⟨A1, c1, rfl, ho⟩
                  exact ⟨_, rfl, ho.below, A1, c1, rfl, own_lo' ho.own hg.size⟩
                · intro o ho x y hg hdep
                  simp only [List.getElem?_toArray, List.getElem?_cons_succ, List.getElem?_cons_zero, Option.some.injEq] at ho
                  subst ho
                  obtain ⟨A1, c1, d7, ho1⟩ : gamO wi.drew.heap.size g6 gv off kx (.slice (some ⟨gv, off, none⟩) na c2) (.slice B2 ma k2) (.slice (some ⟨gv, off, none⟩) na c2) y1 y2 i1 i2 rn rL lb at_ 7 (x 7) y := hdep 7 (by decide)
                  simp only [dsts, List.map_cons, List.map_nil, putAll, Act.put, List.setIfInBounds_toArray, List.set_cons_zero, List.set_cons_succ]
                  simp only [d7]
                  refine .inl ⟨by rfl, ?_⟩
                  go_simp
                  exact ⟨Ext.refl _, A1, c1, rfl, ho1⟩
                · intro o ho x y hg hdep
                  simp only [List.getElem?_toArray, List.getElem?_cons_succ, List.getElem?_cons_zero, Option.some.injEq] at ho
                  subst ho
                  obtain ⟨A1, c1, d8, ho1⟩ : gamO wi.drew.heap.size g6 gv off kx (.slice (some ⟨gv, off, none⟩) na c2) (.slice B2 ma k2) (.slice (some ⟨gv, off, none⟩) na c2) y1 y2 i1 i2 rn rL lb at_ 8 (x 8) y := hdep 8 (by decide)
                  simp only [dsts, List.map_cons, List.map_nil, putAll, Act.put, List.setIfInBounds_toArray, List.set_cons_zero, List.set_cons_succ]
                  simp only [d8]
                  refine .inl ⟨by rfl, ?_⟩
                  go_simp
                  exact ⟨Ext.refl _, A1, c1, rfl, ho1⟩
                · intro o ho x y hg hdep
                  simp only [List.getElem?_toArray, List.getElem?_cons_succ, List.getElem?_cons_zero, Option.some.injEq] at ho
                  subst ho
                  obtain ⟨A1, c1, d8, ho1⟩ : gamO wi.drew.heap.size g6 gv off kx (.slice (some ⟨gv, off, none⟩) na c2) (.slice B2 ma k2) (.slice (some ⟨gv, off, none⟩) na c2) y1 y2 i1 i2 rn rL lb at_ 8 (x 8) y := hdep 8 (by decide)
                  simp only [dsts, List.map_cons, List.map_nil, putAll, Act.put, List.setIfInBounds_toArray, List.set_cons_zero, List.set_cons_succ]
                  simp only [d8]
                  refine .inl ⟨by rfl, ?_⟩
                  go_simp
                  exact ⟨Ext.refl _, rfl⟩
                · intro o ho x y hg hdep
                  simp only [List.getElem?_toArray, List.getElem?_cons_succ, List.getElem?_cons_zero, Option.some.injEq] at ho
                  subst ho
                  simp only [dsts, List.map_cons, List.map_nil, putAll, Act.put, List.setIfInBounds_toArray, List.set_cons_zero, List.set_cons_succ]
                  refine .inl ⟨by rfl, outT_run (w' := y.alloc (.cells #[.int .i64 0, .int .i64 0, .slice none 0 0, .string { data := #[] }, .int .i64 0] 39)) (by go_simp; first | done | exact rfl | exact ⟨rfl, rfl⟩) (below1 _ _) ?_⟩
                  exact ⟨y.heap.size, rfl, hg.size, Whole.new_ _ _ [.int .i64 0, .int .i64 0, .slice none 0 0, .string { data := #[] }, .int .i64 0]⟩
              · intro x y hg hall
                obtain ⟨A1, c1, d8, ho1⟩ : gamO wi.drew.heap.size g6 gv off kx (.slice (some ⟨gv, off, none⟩) na c2) (.slice B2 ma k2) (.slice (some ⟨gv, off, none⟩) na c2) y1 y2 i1 i2 rn rL lb at_ 8 (x 8) y := hall 8 (by decide) (by decide)
                simp only [dsts, List.map_cons, List.map_nil, putAll, Act.put, List.setIfInBounds_toArray, List.set_cons_zero, List.set_cons_succ]
                simp only [d8]
                refine ⟨.bool true, ?_, rfl⟩
                apply yr_run; rfl; intro w' hw'; go_simp; (try with_reducible rfl)
              intro x y hg hall
              obtain ⟨A1, c1, d9, ho9⟩ : gamO wi.drew.heap.size g6 gv off kx (.slice (some ⟨gv, off, none⟩) na c2) (.slice B2 ma k2) (.slice (some ⟨gv, off, none⟩) na c2) y1 y2 i1 i2 rn rL lb at_ 9 (x 9) y := hall 9 (by decide)
              have d10 : x 10 = .bool true := hall 10 (by decide)
              obtain ⟨g11, d11, hl11, hw11⟩ : gamO wi.drew.heap.size g6 gv off kx (.slice (some ⟨gv, off, none⟩) na c2) (.slice B2 ma k2) (.slice (some ⟨gv, off, none⟩) na c2) y1 y2 i1 i2 rn rL lb at_ 11 (x 11) y := hall 11 (by decide)
              simp only [dsts, List.map_cons, List.map_nil, putAll, Act.put, List.setIfInBounds_toArray, List.set_cons_zero, List.set_cons_succ]
              simp only [d9, d10, d11]
              have hdl : wi.heap.size ≤ g11 := hl11
              have HO9 := Lib.hid ho9
              have HW11 := Lib.hid hw11
              have Hdl := Lib.hid hdl
              have HZy := Lib.hid (bel_bl (bel_dr HZd.out) hg)
              have HSz : RowKit.Hid (Wd.heap.size ≤ wi.heap.size) := Lib.hid HZd.out.size
              have HWd : RowKit.Hid (w.heap.size ≤ Wd.heap.size) := Lib.hid HBd.out.size
              obtain ⟨lo2, glo2⟩ : ∃ z, wi.drew.heap.size = z := ⟨_, rfl⟩
              have HLo2 : RowKit.Hid (Wd.heap.size ≤ lo2) := Lib.hid (by rw [← glo2]; exact HSz.out)
              rw [glo2] at HO9
              clear hg hall d9 d10 d11 ho9 hl11 hw11 hdl HVx HQ1 HCi glo2
              apply wpR_store 12
              · simp only [List.getElem?_toArray, List.getElem?_cons_succ, List.getElem?_cons_zero]; exact rfl
              · rfl
              · kernel_rfl
              · rfl
              intro w' hw'
              refine ⟨w'.setRow g11 #[.int .i64 i1, .int .i64 i2, .slice A1 rn c1, .string lb, .int .i64 at_], store_row_run 39 (.tmp 11) (.tmp 83) rfl g11 rfl [.int .i64 i1, .int .i64 i2, .slice A1 rn c1, .string lb, .int .i64 at_] rfl 39 [.int .i64 0, .int .i64 0, .slice none 0 0, .string { data := #[] }, .int .i64 0] (HW11.out.bl hw') (by kernel_rfl) rfl (by simp [Value.oneCell']), kept_row (show w.heap.size ≤ g11 by have := Hdl.out; have := HSz.out; have := HWd.out; omega) _, ?_⟩
              have hne := own_ne (own_up HO9.out hw') (HW11.out.bl hw') (by decide)
              have hkr : Kept (· = g11) w' (w'.setRow g11 #[.int .i64 i1, .int .i64 i2, .slice A1 rn c1, .string lb, .int .i64 at_]) := kept_row (S := fun x => x = g11) rfl _
              have HO10 : RowKit.Hid ((w'.setRow g11 #[.int .i64 i1, .int .i64 i2, .slice A1 rn c1, .string lb, .int .i64 at_]).ownsRow lo2 36 3 (.slice A1 rn c1) rn (dartsV rL)) := Lib.hid ((own_up HO9.out hw').kept (row := some g11) ⟨hkr.os, hkr.tape, hkr.output, hkr.size, fun i hi hk => hkr.block i hi (fun e => hk (by rw [e]))⟩ (by first | exact hne | exact hne.symm | exact .inr hne | exact .inr hne.symm))
              have HW12 : RowKit.Hid (Whole (w'.setRow g11 #[.int .i64 i1, .int .i64 i2, .slice A1 rn c1, .string lb, .int .i64 at_]) g11 39 [.int .i64 i1, .int .i64 i2, .slice A1 rn c1, .string lb, .int .i64 at_]) := Lib.hid (Whole.row (HW11.out.bl hw') [.int .i64 i1, .int .i64 i2, .slice A1 rn c1, .string lb, .int .i64 at_])
              have HZ12 : RowKit.Hid (Below Wd.heap.size Wd (w'.setRow g11 #[.int .i64 i1, .int .i64 i2, .slice A1 rn c1, .string lb, .int .i64 at_])) := Lib.hid (below_row (bel_bl HZy.out hw') (by have := Hdl.out; have := HSz.out; omega) _)
              obtain ⟨V1, gV1⟩ : ∃ z, w'.setRow g11 #[.int .i64 i1, .int .i64 i2, .slice A1 rn c1, .string lb, .int .i64 at_] = z := ⟨_, rfl⟩
              rw [gV1] at HO10 HW12 HZ12 ⊢
              clear hw' hne hkr gV1 HO9 HW11 HZy
              apply wpR_next 13 (some 12)
              · simp only [List.getElem?_toArray, List.getElem?_cons_succ, List.getElem?_cons_zero]; exact rfl
              · rfl
              · kernel_rfl
              · kernel_rfl
              · kernel_rfl
              · exact fun _ _ _ _ h => h
              apply Exists.intro
              apply And.intro
              · apply yr_run; rfl; intro w' hw'; go_simp; (try with_reducible rfl)
              simp only [Act.put, List.setIfInBounds_toArray, List.set_cons_zero, List.set_cons_succ]
              refine wpR_done (by kernel_rfl) ?_ _
              intro W8 hw8
              have HO8 : RowKit.Hid (∃ L : List D, W8.ownsRow lo2 36 3 (.slice A1 rn c1) rn (dartsV L)) := Lib.hid ⟨rL, own_up HO10.out hw8⟩
              have HW8 := Lib.hid (HW12.out.bl hw8)
              have HZ8 := Lib.hid (bel_bl HZ12.out hw8)
              clear hw8 HO10 HW12 HZ12
              go_wp2
              go_loopw [13] (fun si wr => ∃ q : Nat, q ≤ rn ∧ si = .int .i64 q ∧ RowKit.Hid (Below Wd.heap.size Wd wr) ∧ RowKit.Hid (Whole wr g11 39 [.int .i64 i1, .int .i64 i2, .slice A1 rn c1, .string lb, .int .i64 at_]) ∧ RowKit.Hid (∃ L : List D, wr.ownsRow lo2 36 3 (.slice A1 rn c1) rn (dartsV L))) (fun si _ => rn - (intOf si).toNat)
              case atStart => exact ⟨0, by omega, rfl, HZ8, HW8, HO8⟩
              case round =>
                clear HZ8 HW8 HO8 HZd HZ
                obtain ⟨q, hq, rfl, HZ, HY, HO⟩ := hrel
                obtain ⟨wj, gwj⟩ : ∃ z, wr = z := ⟨_, rfl⟩
                rw [gwj] at HZ HY HO ⊢
                clear gwj
                have cb := HY.out.cell (i := 2) rfl
                by_cases hqn : q < rn
                · obtain ⟨L, hL⟩ := HO.out
                  obtain ⟨g2p, jkp, ep, _, _, _, hnc, hcm, _⟩ := own_place hL (by omega)
                  have hrm : rn ≤ 9223372036854775807 := by unfold maxLen at hcm; omega
                  clear ep hnc hcm
                  obtain ⟨gr, rfl, hlo, ⟨cs, hwr⟩, ⟨v0, hcv⟩, hfr, L', hL'⟩ := own_side hL hqn 7
                  have HY2 := Lib.hid (HY.out.set_far' (i := q * 3 + 2) (HY.out.ne_ hwr (by decide)) (.int .i64 7))
                  have HZ2 := Lib.hid (HZ.out.setCell (p := ⟨gr, q * 3 + 2, none⟩) (Nat.le_trans HLo2.out hlo) (.int .i64 7))
                  have HO2 : RowKit.Hid (∃ L : List D, (wj.setCell ⟨gr, q * 3 + 2, none⟩ (.int .i64 7)).ownsRow lo2 36 3 (.slice (some ⟨gr, 0, none⟩) rn c1) rn (dartsV L)) := Lib.hid ⟨L', hL'⟩
                  clear hL hlo hwr hL' HZ HY HO
                  go_wp2
                  go_roundw
                  case rel => exact ⟨q + 1, by omega, by go_num, HZ2, HY2, HO2⟩
                  case measure => simp [intOf]; omega
                · obtain rfl : rn = q := by omega
                  have HZw := HZ
                  clear HO
                  go_upto_region 25 with fail
                  clear cb
                  have HXw := Lib.hid (HX0.out.bl HZw.out)
                  have H6w := Lib.hid (HX6.out.bl HZw.out)
                  have HDw := Lib.hid (HD0.out.bl HZw.out)
                  have HCw := Lib.hid (HC0.out.bl HZw.out)
                  have hs3 := rsame_any (some ⟨gv, off, none⟩) na c2 Wc B2 ma k2 Ea Aa na ca Va Ba ma ka Ea _ HCw.out HDw.out hn30 hm50
                  rw [decide_eq_true ⟨HSm.out, rfl⟩] at hs3
                  have HS3 := Lib.hid hs3
                  have HBw := Lib.hid (bel_bl HBd.out HZw.out)
                  have m0 := HXw.out.cell (i := 0) rfl
                  have m1 := HXw.out.cell (i := 1) rfl
                  have m2 := H6w.out.cell (i := 0) rfl
                  have m3 := H6w.out.cell (i := 1) rfl
                  clear hs3
                  try go_wp2_with fail
                  refine HS3.out.mono ?_
                  rintro e w99 ⟨rfl, hb⟩
                  have HB99 := Lib.hid (bel_bl HBw.out hb)
                  clear hb m0 m1 m2 m3
                  go_wp2
                  go_ret
                  exact ⟨rfl, HB99.out⟩
            · have hxI : ¬ ((kx : Int) < (na : Int)) := by omega
              have HZw := HZd
              go_upto_region 25 with fail
              clear cc cb
              have HXw := Lib.hid (HX0.out.bl HZw.out)
              have H6w := Lib.hid (HX6.out.bl HZw.out)
              have HDw := Lib.hid (HD0.out.bl HZw.out)
              have HCw := Lib.hid (HC0.out.bl HZw.out)
              have hs3 := rsame_any A2 na c2 Wc B2 ma k2 Ea Aa na ca Va Ba ma ka Ea _ HCw.out HDw.out hn30 hm50
              rw [decide_eq_true ⟨HSm.out, rfl⟩] at hs3
              have HS3 := Lib.hid hs3
              have HBw := Lib.hid (bel_bl HBd.out HZw.out)
              have m0 := HXw.out.cell (i := 0) rfl
              have m1 := HXw.out.cell (i := 1) rfl
              have m2 := H6w.out.cell (i := 0) rfl
              have m3 := H6w.out.cell (i := 1) rfl
              clear hs3
              try go_wp2_with fail
              refine HS3.out.mono ?_
              rintro e w99 ⟨rfl, hb⟩
              have HB99 := Lib.hid (bel_bl HBw.out hb)
              clear hb m0 m1 m2 m3
              go_wp2
              go_ret
              exact ⟨rfl, HB99.out⟩
          · have HZw : RowKit.Hid (Below Wd.heap.size Wd wi) := Lib.hid (by rw [Glo.out]; exact HZ.out)
            go_upto_region 25 with fail
            clear cb
            have HXw := Lib.hid (HX0.out.bl HZw.out)
            have H6w := Lib.hid (HX6.out.bl HZw.out)
            have HDw := Lib.hid (HD0.out.bl HZw.out)
            have HCw := Lib.hid (HC0.out.bl HZw.out)
            have hs3 := rsame_any A2 na c2 Wc B2 ma k2 Ea Aa na ca Va Ba ma ka Ea _ HCw.out HDw.out hn30 hm50
            rw [decide_eq_true ⟨HSm.out, rfl⟩] at hs3
            have HS3 := Lib.hid hs3
            have HBw := Lib.hid (bel_bl HBd.out HZw.out)
            have m0 := HXw.out.cell (i := 0) rfl
            have m1 := HXw.out.cell (i := 1) rfl
            have m2 := H6w.out.cell (i := 0) rfl
            have m3 := H6w.out.cell (i := 1) rfl
            clear hs3
            try go_wp2_with fail
            refine HS3.out.mono ?_
            rintro e w99 ⟨rfl, hb⟩
            have HB99 := Lib.hid (bel_bl HBw.out hb)
            clear hb m0 m1 m2 m3
            go_wp2
            go_ret
            exact ⟨rfl, HB99.out⟩
end Go.Proofs.Ytdhglhcpgmfpoaa
