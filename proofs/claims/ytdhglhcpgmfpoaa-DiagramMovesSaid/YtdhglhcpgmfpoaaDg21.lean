/- The document's Form. -/
import Derived.Test.YtdhglhcpgmfpoaaDg20
import Derived.Test.YtdhglhcpgmfpoaaBase
namespace Go.Proofs.Ytdhglhcpgmfpoaa
open Go.RowKit
set_option linter.unusedSimpArgs false
set_option linter.unusedVariables false


/-- What the document says is wrong with a diagram. -/
def formR (Vs : List VC) (Es : List EC) : Int :=
  if decide (24 < Vs.length ∨ 40 < Es.length) then 3 else if !(riseF none (Vs.map (·.1)) && riseF none (Es.map (·.1)) && ringsF Vs Es) then 10
  else if !(Vs.all (fun v => mayL v.2.2.1) && Es.all (fun v => mayL v.2.1)) then 4 else if !(Vs.all (fun v => mayA v.2.2.2) && Es.all (fun v => mayA v.2.2)) then 1 else 0
theorem all_next {α : Type} (p : α → Bool) (L : List α) (j : Nat) (x : α) (h : L[j]? = some x) : (L.take (j + 1)).all p = ((L.take j).all p && p x) := by
  have : L.take (j + 1) = L.take j ++ [x] := by rw [List.take_add_one, h]; rfl
  rw [this, List.all_append]
  simp
theorem own_parts {w W : World} {B : Nat} {A : Option Addr} {n m c : Nat} {T : TypeId} {L M : List (Int × Int)} (h : Ow w B T 2 (.slice A (n + m) c) (n + m) (rowsV idC (L ++ M)) W) (hL : L.length = n) (hM : M.length = m) :
    RdS W W.heap.size 2 A n c (rowsV idC L) ∧ RdS W W.heap.size 2 (if c = n then A else A.map (·.add (n * 2))) m (c - n) (rowsV idC M) ∧ n + m ≤ c ∧ c ≤ maxLen := by
  have hr := own_rds h.own
  have h1 := hr.take_ n (by omega)
  have h2 := hr.low_ (k := n) (by omega)
  rw [← rowsV_take idC idC_len, ← hL, List.take_left] at h1
  rw [← rowsV_drop idC idC_len, ← hL, List.drop_left] at h2
  rw [hL] at h1 h2
  rw [Nat.add_sub_cancel_left] at h2
  exact ⟨h1, h2, hr.le, own_cap h.own⟩
set_option maxRecDepth 100000 in
set_option maxHeartbeats 4000000 in
theorem rform_any (A : Option Addr) (n c : Nat) (Vs : List VC) (B : Option Addr) (m k : Nat) (Es : List EC) (w : World) (h : DgIn w A n c Vs B m k Es) (hr : ∀ y ∈ Vs, y.2.1.2.1 ≤ 1000000)
    (hsv : ∀ x ∈ Vs, x.2.2.1.size ≤ maxLen) (hse : ∀ x ∈ Es, x.2.1.size ≤ maxLen) :
    Calls Try.prog 13 #[.agg #[.slice A n c, .slice B m k]] w fun e w' => e = .returned (.int .i64 (formR Vs Es)) ∧ Below w.heap.size w w' := by
  have H := Lib.hid h.v
  have HE := Lib.hid h.e
  have hl := h.v.rlen vC_len (by decide)
  have hle := h.e.rlen eC_len (by decide)
  have Hl := Lib.hid hl
  have Hle := Lib.hid hle
  have HSv := Lib.hid hsv
  have HSe := Lib.hid hse
  obtain ⟨r, gr⟩ : ∃ z, formR Vs Es = z := ⟨_, rfl⟩
  rw [gr]
  unfold formR at gr
  rw [hl, hle] at gr
  by_cases hbig : 24 < n ∨ 40 < m
  · rw [decide_eq_true hbig] at gr
    replace gr : (3 : Int) = r := gr
    subst gr
    clear h hr hsv hse hl hle
    have HB1 := Lib.hid (below1 w (.cells #[.slice A n c, .slice B m k] 25))
    by_cases h24 : 24 < n
    · have q : (24 : Int) < (n : Int) := by omega
      clear hbig
      go_enter Try.func13, Try.ntmps13
      go_wp2
      go_ret
      exact ⟨rfl, HB1.out⟩
    · have q : ¬ (24 : Int) < (n : Int) := by omega
      have q2 : (40 : Int) < (m : Int) := by omega
      clear hbig
      go_enter Try.func13, Try.ntmps13
      go_wp2
      go_ret
      exact ⟨rfl, HB1.out⟩
  rw [decide_eq_false hbig] at gr
  have hn24 : n ≤ 24 := by omega
  have hm40 : m ≤ 40 := by omega
  have HNm := Lib.hid (fun W (hb : Below w.heap.size w W) => rnames_any A n c Vs B m k Es W (h.below hb) (by omega) (by omega))
  have HRg := Lib.hid (fun W (hb : Below w.heap.size w W) => rrings_any A n c Vs B m k Es W (h.below hb) (by omega) (by omega) hr)
  have hl1 : (Vs.map (·.1)).length = n := by rw [List.length_map]; exact hl
  have hl2 : (Es.map (·.1)).length = m := by rw [List.length_map]; exact hle
  obtain ⟨L1, gL1⟩ : ∃ z, Vs.map (·.1) = z := ⟨_, rfl⟩
  obtain ⟨L2, gL2⟩ : ∃ z, Es.map (·.1) = z := ⟨_, rfl⟩
  rw [gL1, gL2] at HNm
  rw [gL1, gL2] at gr
  rw [gL1] at hl1
  rw [gL2] at hl2
  have HR1 := Lib.hid (fun A1 c1 W (h1 : RdS W W.heap.size 2 A1 n c1 (rowsV idC L1)) => rrise_any A1 n c1 L1 W h1 (by omega))
  have HR2 := Lib.hid (fun A1 c1 W (h1 : RdS W W.heap.size 2 A1 m c1 (rowsV idC L2)) => rrise_any A1 m c1 L2 W h1 (by omega))
  obtain ⟨r1, gr1⟩ : ∃ z, riseF none L1 = z := ⟨_, rfl⟩
  obtain ⟨r2, gr2⟩ : ∃ z, riseF none L2 = z := ⟨_, rfl⟩
  obtain ⟨r3, gr3⟩ : ∃ z, ringsF Vs Es = z := ⟨_, rfl⟩
  rw [gr1] at HR1 gr
  rw [gr2] at HR2 gr
  rw [gr3] at HRg gr
  have HGr := Lib.hid gr
  have Hln := Lib.hid (And.intro hl1 hl2)
  clear h hr hsv hse hl hle hbig gr gr1 gr2 gr3 gL1 gL2 hl1 hl2
  have qn : ¬ (24 : Int) < (n : Int) := by omega
  have qm : ¬ (40 : Int) < (m : Int) := by omega
  go_enter Try.func13, Try.ntmps13
  go_wp2_with fail
  have hx0 : Whole (w.alloc (.cells #[.slice A n c, .slice B m k] 25)) (w.heap.size) 25 [.slice A n c, .slice B m k] := (Whole.new_ w 25 [.slice A n c, .slice B m k])
  have hbl : Below w.heap.size w (w.alloc (.cells #[.slice A n c, .slice B m k] 25)) := (below1 w (.cells #[.slice A n c, .slice B m k] 25))
  have hsz : w.heap.size + 1 ≤ ((w.alloc (.cells #[.slice A n c, .slice B m k] 25))).heap.size := by simp
  obtain ⟨W0, gW0⟩ : ∃ z, (w.alloc (.cells #[.slice A n c, .slice B m k] 25)) = z := ⟨_, rfl⟩
  rw [gW0] at hx0 hbl hsz
  obtain ⟨b0, gb0⟩ : ∃ z, w.heap.size = z := ⟨_, rfl⟩
  rw [gb0] at hx0
  have HX0 := Lib.hid hx0
  have HB0 := Lib.hid hbl
  have HS0 := Lib.hid hsz
  have Gb0 := Lib.hid gb0
  have Lb0 : RowKit.Hid (w.heap.size ≤ b0) := Lib.hid (by omega)
  rw [gW0]
  try rw [gb0]
  clear gW0 hbl hsz hx0 gb0
  refine (HNm.out _ HB0.out).mono ?_
  rintro e W1 ⟨A1, c1, rfl, ho⟩
  have HB1 := Lib.hid (bel_bl HB0.out ho.below)
  have HX1 := Lib.hid (HX0.out.bl ho.below)
  obtain ⟨hp1, hp2, hc1, hc2⟩ := own_parts ho Hln.out.1 Hln.out.2
  have HP1 := Lib.hid hp1
  have HP2 := Lib.hid hp2
  obtain ⟨A2, gA2⟩ : ∃ z, (if c1 = n then A1 else A1.map (·.add (n * 2))) = z := ⟨_, rfl⟩
  obtain ⟨c2, gc2⟩ : ∃ z, c1 - n = z := ⟨_, rfl⟩
  rw [gA2, gc2] at HP2
  have GA2 := Lib.hid gA2
  have Gc2 := Lib.hid gc2
  have hc63 : c1 ≤ 9223372036854775807 := by unfold maxLen at hc2; omega
  have cb := HX1.out.cell (i := 0) rfl
  clear ho hp1 hp2 hc2 gA2 gc2 HB0 HX0 HNm
  go_wp2_with fail
  refine (HR1.out _ _ _ HP1.out).mono ?_
  rintro e W2 ⟨rfl, hb⟩
  have HB2 := Lib.hid (bel_bl HB1.out hb)
  have HX2 := Lib.hid (HX1.out.bl hb)
  have HQ2 := Lib.hid (HP2.out.bl hb)
  clear hb cb HB1 HX1 HP1 HP2 HR1
  go_upto_region 6 with fail
  refine wp_region_lit ?_
  refine wl_read (v := ?_) (some 30) rfl (by rfl) ?_ ?_
  rotate_left
  · go_simp; (try with_reducible rfl)
  simp only [Act.put, List.setIfInBounds_toArray, List.set_cons_zero, List.set_cons_succ]
  refine wl_read (v := ?_) (some 31) rfl (by rfl) ?_ ?_
  rotate_left
  · go_simp; (try with_reducible rfl)
  simp only [Act.put, List.setIfInBounds_toArray, List.set_cons_zero, List.set_cons_succ]
  refine wl_read (some 32) rfl (by rfl) (exec_slice_low_as 50 34 (.tmp 30) (.tmp 31) rfl Try.underlying50 (s := 2) (by kernel_rfl) rfl rfl (by omega) GA2.out (Nat.add_sub_cancel_left _ _) Gc2.out) ?_
  simp only [Act.put, List.setIfInBounds_toArray, List.set_cons_zero, List.set_cons_succ]
  go_wp2_with fail
  refine (HR2.out _ _ _ HQ2.out).mono ?_
  rintro e W3 ⟨rfl, hb⟩
  have HB3 := Lib.hid (bel_bl HB2.out hb)
  have HX3 := Lib.hid (HX2.out.bl hb)
  clear hb HB2 HX2 HQ2 HR2
  cases r1 with
  | false =>
    have hr : r = 10 := by rw [← HGr.out]; rfl
    subst hr
    go_wp2
    go_ret
    exact ⟨rfl, HB3.out⟩
  | true =>
    cases r2 with
    | false =>
      have hr : r = 10 := by rw [← HGr.out]; rfl
      subst hr
      go_wp2
      go_ret
      exact ⟨rfl, HB3.out⟩
    | true =>
      have hx3 := HX3.out.cell (i := 0) rfl
      have hx4 := HX3.out.cell (i := 1) rfl
      go_wp2_with fail
      refine (HRg.out _ HB3.out).mono ?_
      rintro e W4 ⟨rfl, hb⟩
      have HBs := Lib.hid (bel_bl HB3.out hb)
      have HXs := Lib.hid (HX3.out.bl hb)
      clear hb hx3 hx4 HB3 HX3 HRg
      cases r3 with
      | false =>
        have hr : r = 10 := by rw [← HGr.out]; rfl
        subst hr
        go_wp2
        go_ret
        exact ⟨rfl, HBs.out⟩
      | true =>
        have HG : RowKit.Hid ((if !(Vs.all (fun v => mayL v.2.2.1) && Es.all (fun v => mayL v.2.1)) then 4 else if !(Vs.all (fun v => mayA v.2.2.2) && Es.all (fun v => mayA v.2.2)) then 1 else 0) = r) := HGr
        clear HGr qn qm hc1 hc63
        go_wp2
        go_loopw [7, 8, 9] (fun sl sa si wr => ∃ (j : Nat) (p q : Bool), j ≤ n ∧ si = .int .i64 j ∧ sl = .bool p ∧ sa = .bool q ∧ RowKit.Hid (Below w.heap.size w wr) ∧ RowKit.Hid (Whole wr b0 25 [.slice A n c, .slice B m k]) ∧ RowKit.Hid ((Vs.take j).all (fun v => mayL v.2.2.1) = p) ∧ RowKit.Hid ((Vs.take j).all (fun v => mayA v.2.2.2) = q)) (fun _ _ si _ => n - (intOf si).toNat)
        case atStart => exact ⟨0, true, true, by omega, rfl, rfl, rfl, HBs, HXs, Lib.hid (rfl), Lib.hid (rfl)⟩
        case round =>
          clear HBs HXs
          obtain ⟨j, p, q, hj, rfl, rfl, rfl, HB, HX0, HP, HQ⟩ := hrel
          obtain ⟨wo, gwo⟩ : ∃ z, wr = z := ⟨_, rfl⟩
          rw [gwo] at HB HX0 ⊢
          clear gwo
          have cb := HX0.out.cell (i := 0) rfl
          by_cases hjn : j < n
          · obtain ⟨x, hx⟩ : ∃ x, Vs[j]? = some x := ⟨_, List.getElem?_eq_getElem (by have := Hl.out; omega)⟩
            have hnl := all_next (fun v => mayL v.2.2.1) Vs j x hx
            have hna := all_next (fun v => mayA v.2.2.2) Vs j x hx
            have hsz := HSv.out x (List.mem_of_getElem? hx)
            obtain ⟨bb, off, rfl, hbB, hpl⟩ := H.out.place vC_len (by decide) (by omega)
            have HbB := Lib.hid hbB
            have q2 := hpl j _ hx 3 _ rfl
            have q3 := hpl j _ hx 4 _ rfl
            simp only [Addr.add_lit, Nat.add_zero] at q2 q3
            obtain ⟨⟨i1, i2⟩, ⟨rA, rn, rc, rL⟩, lb, at_⟩ := x
            replace hsz : lb.size ≤ maxLen := hsz
            replace q2 : w.cell? ⟨bb, off + j * 5 + 3, none⟩ = some (.string lb) := q2
            replace q3 : w.cell? ⟨bb, off + j * 5 + 4, none⟩ = some (.int .i64 at_) := q3
            have HML := Lib.hid (rmaylabel_any lb hsz)
            have HMA := Lib.hid (rmayattr_any at_)
            have Q2 : RowKit.Hid (∀ W, Below w.heap.size w W → W.cell? ⟨bb, off + j * 5 + 3, none⟩ = some (.string lb)) := Lib.hid (fun W hb => (hb.cell (p := ⟨bb, off + j * 5 + 3, none⟩) hbB).trans q2)
            have Q3 : RowKit.Hid (∀ W, Below w.heap.size w W → W.cell? ⟨bb, off + j * 5 + 4, none⟩ = some (.int .i64 at_)) := Lib.hid (fun W hb => (hb.cell (p := ⟨bb, off + j * 5 + 4, none⟩) hbB).trans q3)
            obtain ⟨bl, gbl⟩ : ∃ z, mayL lb = z := ⟨_, rfl⟩
            obtain ⟨ba, gba⟩ : ∃ z, mayA at_ = z := ⟨_, rfl⟩
            have hml : ∀ W, Calls Try.prog 15 #[.string lb] W fun e w' => e = .returned (.bool bl) ∧ Below W.heap.size W w' := by rw [← gbl]; exact HML.out
            have hma : ∀ W, Calls Try.prog 17 #[.int .i64 at_] W fun e w' => e = .returned (.bool ba) ∧ Below W.heap.size W w' := by rw [← gba]; exact HMA.out
            replace HML := Lib.hid hml
            replace HMA := Lib.hid hma
            have HP2 : RowKit.Hid ((Vs.take (j + 1)).all (fun v => mayL v.2.2.1) = (p && bl)) := Lib.hid (by
              have h1 := HP.out
              rw [hnl, ← gbl, ← h1]
              try rw [Bool.and_assoc])
            have HQ2 : RowKit.Hid ((Vs.take (j + 1)).all (fun v => mayA v.2.2.2) = (q && ba)) := Lib.hid (by
              have h1 := HQ.out
              rw [hna, ← gba, ← h1]
              try rw [Bool.and_assoc])
            clear hx hnl hna hsz hbB hpl q2 q3 gbl gba hml hma HP HQ
            cases p with
            | false =>
              cases q with
              | false =>
                go_wp2
                go_roundw
                case rel => exact ⟨j + 1, false, false, by omega, by go_num, rfl, rfl, HB, HX0, by first | exact HP2 | (have h := HP2; simpa using h), by first | exact HQ2 | (have h := HQ2; simpa using h)⟩
                case measure => simp [intOf]; omega
              | true =>
                have l3 := Q3.out _ HB.out
                go_wp2_with fail
                refine (HMA.out _).mono ?_
                rintro e W3 ⟨rfl, hb⟩
                have HB3 := Lib.hid (bel_bl HB.out hb)
                have HX3 := Lib.hid (HX0.out.bl hb)
                clear hb l3 cb
                go_wp2
                go_roundw
                case rel => exact ⟨j + 1, false, ba, by omega, by go_num, rfl, rfl, HB3, HX3, by first | exact HP2 | (have h := HP2; simpa using h), by first | exact HQ2 | (have h := HQ2; simpa using h)⟩
                case measure => simp [intOf]; omega
            | true =>
              cases q with
              | false =>
                have l2 := Q2.out _ HB.out
                go_wp2_with fail
                refine (HML.out _).mono ?_
                rintro e W2 ⟨rfl, hb⟩
                have HB2 := Lib.hid (bel_bl HB.out hb)
                have HX2 := Lib.hid (HX0.out.bl hb)
                clear hb l2 cb
                go_wp2
                go_roundw
                case rel => exact ⟨j + 1, bl, false, by omega, by go_num, rfl, rfl, HB2, HX2, by first | exact HP2 | (have h := HP2; simpa using h), by first | exact HQ2 | (have h := HQ2; simpa using h)⟩
                case measure => simp [intOf]; omega
              | true =>
                have l2 := Q2.out _ HB.out
                go_wp2_with fail
                refine (HML.out _).mono ?_
                rintro e W2 ⟨rfl, hb⟩
                have HB2 := Lib.hid (bel_bl HB.out hb)
                have HX2 := Lib.hid (HX0.out.bl hb)
                clear hb l2 cb
                have l3 := Q3.out _ HB2.out
                have cb := HX2.out.cell (i := 0) rfl
                go_wp2_with fail
                refine (HMA.out _).mono ?_
                rintro e W3 ⟨rfl, hb⟩
                have HB3 := Lib.hid (bel_bl HB2.out hb)
                have HX3 := Lib.hid (HX2.out.bl hb)
                clear hb l3 cb
                go_wp2
                go_roundw
                case rel => exact ⟨j + 1, bl, ba, by omega, by go_num, rfl, rfl, HB3, HX3, by first | exact HP2 | (have h := HP2; simpa using h), by first | exact HQ2 | (have h := HQ2; simpa using h)⟩
                case measure => simp [intOf]; omega
          · obtain rfl : n = j := by omega
            have HPv : RowKit.Hid (Vs.all (fun v => mayL v.2.2.1) = p) := Lib.hid (by have h1 := HP.out; rwa [List.take_of_length_le (by have := Hl.out; omega)] at h1)
            have HQv : RowKit.Hid (Vs.all (fun v => mayA v.2.2.2) = q) := Lib.hid (by have h1 := HQ.out; rwa [List.take_of_length_le (by have := Hl.out; omega)] at h1)
            clear HP HQ
            go_wp2
            clear cb
            obtain ⟨pv, gpv⟩ : ∃ z, p = z := ⟨_, rfl⟩
            obtain ⟨qv, gqv⟩ : ∃ z, q = z := ⟨_, rfl⟩
            rw [gpv] at HPv ⊢
            rw [gqv] at HQv ⊢
            clear gpv gqv
            have HBs := HB
            have HXs := HX0
            clear HB HX0
            go_loopw [7, 8, 10] (fun sl sa si wr => ∃ (j : Nat) (p q : Bool), j ≤ m ∧ si = .int .i64 j ∧ sl = .bool p ∧ sa = .bool q ∧ RowKit.Hid (Below w.heap.size w wr) ∧ RowKit.Hid (Whole wr b0 25 [.slice A n c, .slice B m k]) ∧ RowKit.Hid (((Vs.all (fun v => mayL v.2.2.1)) && (Es.take j).all (fun v => mayL v.2.1)) = p) ∧ RowKit.Hid (((Vs.all (fun v => mayA v.2.2.2)) && (Es.take j).all (fun v => mayA v.2.2)) = q)) (fun _ _ si _ => m - (intOf si).toNat)
            case atStart => exact ⟨0, pv, qv, by omega, rfl, rfl, rfl, HBs, HXs, Lib.hid (by rw [HPv.out]; simp), Lib.hid (by rw [HQv.out]; simp)⟩
            case round =>
              clear HBs HXs
              obtain ⟨j, p, q, hj, rfl, rfl, rfl, HB, HX0, HP, HQ⟩ := hrel
              obtain ⟨wo, gwo⟩ : ∃ z, wr = z := ⟨_, rfl⟩
              rw [gwo] at HB HX0 ⊢
              clear gwo
              have cb := HX0.out.cell (i := 1) rfl
              by_cases hjn : j < m
              · obtain ⟨x, hx⟩ : ∃ x, Es[j]? = some x := ⟨_, List.getElem?_eq_getElem (by have := Hle.out; omega)⟩
                have hnl := all_next (fun v => mayL v.2.1) Es j x hx
                have hna := all_next (fun v => mayA v.2.2) Es j x hx
                have hsz := HSe.out x (List.mem_of_getElem? hx)
                obtain ⟨bb, off, rfl, hbB, hpl⟩ := HE.out.place eC_len (by decide) (by omega)
                have HbB := Lib.hid hbB
                have q2 := hpl j _ hx 2 _ rfl
                have q3 := hpl j _ hx 3 _ rfl
                simp only [Addr.add_lit, Nat.add_zero] at q2 q3
                obtain ⟨⟨i1, i2⟩, lb, at_⟩ := x
                replace hsz : lb.size ≤ maxLen := hsz
                replace q2 : w.cell? ⟨bb, off + j * 4 + 2, none⟩ = some (.string lb) := q2
                replace q3 : w.cell? ⟨bb, off + j * 4 + 3, none⟩ = some (.int .i64 at_) := q3
                have HML := Lib.hid (rmaylabel_any lb hsz)
                have HMA := Lib.hid (rmayattr_any at_)
                have Q2 : RowKit.Hid (∀ W, Below w.heap.size w W → W.cell? ⟨bb, off + j * 4 + 2, none⟩ = some (.string lb)) := Lib.hid (fun W hb => (hb.cell (p := ⟨bb, off + j * 4 + 2, none⟩) hbB).trans q2)
                have Q3 : RowKit.Hid (∀ W, Below w.heap.size w W → W.cell? ⟨bb, off + j * 4 + 3, none⟩ = some (.int .i64 at_)) := Lib.hid (fun W hb => (hb.cell (p := ⟨bb, off + j * 4 + 3, none⟩) hbB).trans q3)
                obtain ⟨bl, gbl⟩ : ∃ z, mayL lb = z := ⟨_, rfl⟩
                obtain ⟨ba, gba⟩ : ∃ z, mayA at_ = z := ⟨_, rfl⟩
                have hml : ∀ W, Calls Try.prog 15 #[.string lb] W fun e w' => e = .returned (.bool bl) ∧ Below W.heap.size W w' := by rw [← gbl]; exact HML.out
                have hma : ∀ W, Calls Try.prog 17 #[.int .i64 at_] W fun e w' => e = .returned (.bool ba) ∧ Below W.heap.size W w' := by rw [← gba]; exact HMA.out
                replace HML := Lib.hid hml
                replace HMA := Lib.hid hma
                have HP2 : RowKit.Hid (((Vs.all (fun v => mayL v.2.2.1)) && (Es.take (j + 1)).all (fun v => mayL v.2.1)) = (p && bl)) := Lib.hid (by
                  have h1 := HP.out
                  rw [hnl, ← gbl, ← h1]
                  try rw [Bool.and_assoc])
                have HQ2 : RowKit.Hid (((Vs.all (fun v => mayA v.2.2.2)) && (Es.take (j + 1)).all (fun v => mayA v.2.2)) = (q && ba)) := Lib.hid (by
                  have h1 := HQ.out
                  rw [hna, ← gba, ← h1]
                  try rw [Bool.and_assoc])
                clear hx hnl hna hsz hbB hpl q2 q3 gbl gba hml hma HP HQ
                cases p with
                | false =>
                  cases q with
                  | false =>
                    go_wp2
                    go_roundw
                    case rel => exact ⟨j + 1, false, false, by omega, by go_num, rfl, rfl, HB, HX0, by first | exact HP2 | (have h := HP2; simpa using h), by first | exact HQ2 | (have h := HQ2; simpa using h)⟩
                    case measure => simp [intOf]; omega
                  | true =>
                    have l3 := Q3.out _ HB.out
                    go_wp2_with fail
                    refine (HMA.out _).mono ?_
                    rintro e W3 ⟨rfl, hb⟩
                    have HB3 := Lib.hid (bel_bl HB.out hb)
                    have HX3 := Lib.hid (HX0.out.bl hb)
                    clear hb l3 cb
                    go_wp2
                    go_roundw
                    case rel => exact ⟨j + 1, false, ba, by omega, by go_num, rfl, rfl, HB3, HX3, by first | exact HP2 | (have h := HP2; simpa using h), by first | exact HQ2 | (have h := HQ2; simpa using h)⟩
                    case measure => simp [intOf]; omega
                | true =>
                  cases q with
                  | false =>
                    have l2 := Q2.out _ HB.out
                    go_wp2_with fail
                    refine (HML.out _).mono ?_
                    rintro e W2 ⟨rfl, hb⟩
                    have HB2 := Lib.hid (bel_bl HB.out hb)
                    have HX2 := Lib.hid (HX0.out.bl hb)
                    clear hb l2 cb
                    go_wp2
                    go_roundw
                    case rel => exact ⟨j + 1, bl, false, by omega, by go_num, rfl, rfl, HB2, HX2, by first | exact HP2 | (have h := HP2; simpa using h), by first | exact HQ2 | (have h := HQ2; simpa using h)⟩
                    case measure => simp [intOf]; omega
                  | true =>
                    have l2 := Q2.out _ HB.out
                    go_wp2_with fail
                    refine (HML.out _).mono ?_
                    rintro e W2 ⟨rfl, hb⟩
                    have HB2 := Lib.hid (bel_bl HB.out hb)
                    have HX2 := Lib.hid (HX0.out.bl hb)
                    clear hb l2 cb
                    have l3 := Q3.out _ HB2.out
                    have cb := HX2.out.cell (i := 1) rfl
                    go_wp2_with fail
                    refine (HMA.out _).mono ?_
                    rintro e W3 ⟨rfl, hb⟩
                    have HB3 := Lib.hid (bel_bl HB2.out hb)
                    have HX3 := Lib.hid (HX2.out.bl hb)
                    clear hb l3 cb
                    go_wp2
                    go_roundw
                    case rel => exact ⟨j + 1, bl, ba, by omega, by go_num, rfl, rfl, HB3, HX3, by first | exact HP2 | (have h := HP2; simpa using h), by first | exact HQ2 | (have h := HQ2; simpa using h)⟩
                    case measure => simp [intOf]; omega
              · obtain rfl : m = j := by omega
                have h1 := HP.out
                have h2 := HQ.out
                rw [List.take_of_length_le (by have := Hle.out; omega)] at h1 h2
                cases p with
                | false =>
                  have hr : r = 4 := by
                    rw [← HG.out]
                    simp [h1]
                  subst hr
                  clear h1 h2 HP HQ
                  go_wp2
                  go_ret
                  exact ⟨rfl, HB.out⟩
                | true =>
                  cases q with
                  | false =>
                    have hr : r = 1 := by
                      rw [← HG.out]
                      simp [h1, h2]
                    subst hr
                    clear h1 h2 HP HQ
                    go_wp2
                    go_ret
                    exact ⟨rfl, HB.out⟩
                  | true =>
                    have hr : r = 0 := by
                      rw [← HG.out]
                      simp [h1, h2]
                    subst hr
                    clear h1 h2 HP HQ
                    go_wp2
                    go_ret
                    exact ⟨rfl, HB.out⟩
end Go.Proofs.Ytdhglhcpgmfpoaa
