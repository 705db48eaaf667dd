/- 'AnchorAdds' answers true for every row of darts that are gone.
   No condition beyond the row's own. -/
import Derived.Test.YtkhklhipiiehbaaADB
import Derived.Deep.CutBlock
import Derived.ProofKit
import Derived.Below
import Derived.Carry
import Derived.WideKeyArgs
import Derived.OpenShut
import Derived.Deep.Slices
import Derived.Test.YtkhklhipiiehbaaProg
import Derived.KernelRfl
import Derived.Test.YtkhklhipiiehbaaADA
import Derived.Test.YtkhklhipiiehbaaRows

/- AnchorAdds. -/
namespace Go.Proofs.Ytkhklhipiiehbaa
open Go.RowKit
set_option linter.unusedSimpArgs false
set_option linter.unusedVariables false

theorem rds_empty (w : World) (t : TypeId) (s : Nat) : RdS (w.alloc (.cells #[] t)) (w.alloc (.cells #[] t)).heap.size s (some ⟨w.heap.size, 0, none⟩) 0 0 [] :=
  (RdS.of_new (cs := #[]) (t := t) w (n := 0) (size := s) (by simp)).up (Below.refl _ _) (by simp)
structure AdIn (w : World) (O : List Gn) (n : Nat) (A : Option Addr) (c : Nat) (i : Nat) (Aa : Option Addr) (ca : Nat) (L : List Gn) (Ab : Option Addr) (cb : Nat) (M : List Gn) (wr : World) : Prop where
  own : RdS wr wr.heap.size 6 A n c (rowsV gnC O)
  a : RdS wr wr.heap.size 6 Aa i ca (rowsV gnC L)
  b : RdS wr wr.heap.size 6 Ab i cb (rowsV gnC M)
  bel : Below w.heap.size w wr
theorem AdIn.below {w wr wr' : World} {O L M : List Gn} {n c i ca cb : Nat} {A Aa Ab : Option Addr} (h : AdIn w O n A c i Aa ca L Ab cb M wr) (hb : Below wr.heap.size wr wr') : AdIn w O n A c i Aa ca L Ab cb M wr' :=
  ⟨h.own.bl hb, h.a.bl hb, h.b.bl hb, bel_bl h.bel hb⟩
set_option maxRecDepth 100000 in
set_option maxHeartbeats 4000000 in
theorem law_adds (C : Option Addr) (g gc : Nat) (G : List Gn) (w : World) (hg : RdS w w.heap.size 6 C g gc (rowsV gnC G)) (hgl : g ≤ maxLen) :
    Calls Try.prog 4 #[.slice C g gc] w fun e w' => e = .returned (.bool true) ∧ Below w.heap.size w w' := by
  have HGn := Lib.hid hg
  have HGnl := Lib.hid (hg.rlen gnC_len (by decide))
  obtain ⟨iG, hiG, z0iG, z1iG, z2iG⟩ := info_partsD info_gone
  unfold maxLen at hgl
  clear hg
  go_enter Try.func4, Try.ntmps4
  go_wp2_with fail
  refine (shown11_any w).mono ?_
  rintro e w1 ⟨rfl, hb1⟩
  have HB1 := Lib.hid hb1
  clear hb1
  go_upto_region 4 with fail
  obtain ⟨wS, gwS⟩ : ∃ z, w1.alloc (.cells #[] 36) = z := ⟨_, rfl⟩
  have HO0 : RowKit.Hid (Ow w1 w1.heap.size 36 6 (.slice (some ⟨w1.heap.size, 0, none⟩) 0 0) 0 (rowsV gnC []) wS) := Lib.hid (gwS ▸ Ow.new_ (cs := #[]) (Below.refl _ _) (Nat.le_refl _) (Nat.le_refl _) (Nat.zero_le _) rfl)
  obtain ⟨v0, gv0⟩ : ∃ z : Value, .slice (some ⟨w1.heap.size, 0, none⟩) 0 0 = z := ⟨_, rfl⟩
  rw [gwS, gv0]
  rw [gv0] at HO0
  clear gwS gv0
  go_loopw [4, 5] (fun v i wr => ∃ (k : Nat) (O : List Gn) (OL : Nat), k ≤ g ∧ k ≤ 60 ∧ OL ≤ k ∧ O.length = OL ∧ i = .int .i64 (k : Int) ∧ RowKit.Hid (Ow w1 w1.heap.size 36 6 v OL (rowsV gnC O) wr) ∧ RowKit.Hid (OnceG O)) (fun _ i _ => g - (intOf i).toNat)
  case atStart => exact ⟨0, [], 0, Nat.zero_le _, Nat.zero_le _, Nat.le_refl _, rfl, rfl, HO0, Lib.hid List.Pairwise.nil⟩
  case round =>
    clear HO0
    obtain ⟨k, O, OL, hkg, hk60, hOk, hOl, rfl, HO, HOn⟩ := hrel
    have HOl := Lib.hid hOl
    clear hOl
    obtain ⟨wo, gwo⟩ : ∃ z, wr = z := ⟨_, rfl⟩
    rw [gwo] at HO ⊢
    clear gwo
    obtain ⟨Ac, cc, rfl, hrd⟩ := HO.out.rds
    by_cases hlt : k < g ∧ k < 60
    · obtain ⟨hl1, hl2⟩ := hlt
      have hi1 : (k : Int) < (g : Int) := by omega
      have hi2 : (k : Int) < 60 := by omega
      obtain ⟨x, hx⟩ : ∃ x, G[k]? = some x := ⟨_, List.getElem?_eq_getElem (by have := HGnl.out; omega)⟩
      obtain ⟨b, off, rfl, hbB, hpl⟩ := HGn.out.place gnC_len (by decide) (by omega)
      have HP0 := Lib.hid (hpl k x hx)
      have HbB := Lib.hid hbB
      have hbk := bel_bl HB1.out HO.out.below
      have n0 := (hbk.cell (p := (⟨b, off + k * 6, none⟩ : Addr).add 0) HbB.out).trans (HP0.out 0 _ rfl)
      have n1 := (hbk.cell (p := (⟨b, off + k * 6, none⟩ : Addr).add 1) HbB.out).trans (HP0.out 1 _ rfl)
      have n2 := (hbk.cell (p := (⟨b, off + k * 6, none⟩ : Addr).add 2) HbB.out).trans (HP0.out 2 _ rfl)
      simp only [Addr.add_lit, Nat.add_zero] at n0 n1 n2
      obtain ⟨⟨⟨r1, r2, r3⟩, ok⟩, gr⟩ : ∃ z, findG O x.1 = z := ⟨_, rfl⟩
      have hfd := rfind_any Ac OL cc O x.1
      rw [gr] at hfd
      have HFd := Lib.hid hfd
      have GR := Lib.hid gr
      have HRd := Lib.hid hrd
      clear hx hpl hbB hfd gr hrd hbk
      go_wp2_with fail
      refine (HFd.out _ HRd.out (by omega)).mono ?_
      rintro e w3 ⟨rfl, hb3⟩
      have HO1 := Lib.hid (HO.out.up hb3)
      have HB3 := Lib.hid (bel_bl (bel_bl HB1.out HO.out.below) hb3)
      clear hb3 HFd HRd HO n0 n1 n2
      cases ok with
      | true =>
        have HO3 := Lib.hid (HO1.out.up (below1 w3 (.cells #[.int .i64 r1, .int .i64 r2, .int .i64 r3] 32)))
        clear HO1 HB3 GR HP0
        go_wp2
        go_roundw
        case rel => exact ⟨k + 1, O, OL, by omega, by omega, by omega, HOl.out, by go_num, HO3, HOn⟩
        case measure => simp [intOf]; omega
      | false =>
        have HOn2 : RowKit.Hid (OnceG (O ++ [x])) := Lib.hid (once_snoc HOn.out (by rw [GR.out]; exact Bool.false_ne_true))
        have HO3 := Lib.hid (HO1.out.up (below1 w3 (.cells #[.int .i64 r1, .int .i64 r2, .int .i64 r3] 32)))
        have HP := Lib.hid (fun j' v (hv : (gnC x)[j']? = some v) => (Below.cell (bel_al HB3.out (.cells #[.int .i64 r1, .int .i64 r2, .int .i64 r3] 32)) (p := (⟨b, off + k * 6, none⟩ : Addr).add j') (by rw [add_block]; exact HbB.out)).trans (HP0.out j' v hv))
        clear HO1 HB3 GR HP0 HOn
        go_upto_region 8 with fail
        obtain ⟨WW, gWW⟩ : ∃ z, w3.alloc (.cells #[.int .i64 r1, .int .i64 r2, .int .i64 r3] 32) = z := ⟨_, rfl⟩
        rw [gWW] at HO3 HP ⊢
        clear gWW
        refine wp_region_lit ?_
        refine wl_read (v := ?_) (some 41) rfl (by rfl) ?_ ?_
        rotate_left
        · go_simp; (try with_reducible rfl)
        simp only [Act.put, List.setIfInBounds_toArray, List.set_cons_zero, List.set_cons_succ]
        refine wl_read (v := ?_) (some 42) rfl (by rfl) ?_ ?_
        rotate_left
        · go_simp; (try with_reducible rfl)
        simp only [Act.put, List.setIfInBounds_toArray, List.set_cons_zero, List.set_cons_succ]
        refine wl_read (v := ?_) (some 43) rfl (by rfl) ?_ ?_
        rotate_left
        · go_simp; (try with_reducible rfl)
        simp only [Act.put, List.setIfInBounds_toArray, List.set_cons_zero, List.set_cons_succ]
        refine wl_read (v := ?_) (some 44) rfl (by rfl) ?_ ?_
        rotate_left
        · go_simp; (try with_reducible rfl)
        simp only [Act.put, List.setIfInBounds_toArray, List.set_cons_zero, List.set_cons_succ]
        refine wl_load_at (some 45) rfl (by rfl) 36 (.tmp 44) rfl ⟨b, off + k * 6, none⟩ rfl (gnC x) _ HP.out Try.underlying36 rfl (by kernel_rfl) ?_
        simp only [Act.put, List.setIfInBounds_toArray, List.set_cons_zero, List.set_cons_succ]
        refine wl_buildSlice (some 46) rfl (by rfl) 26 36 1 #[(0, .tmp 45)] rfl Try.underlying26 (gnC x).toArray (by kernel_rfl) ?_
        simp only [Act.put, List.setIfInBounds_toArray, List.set_cons_zero, List.set_cons_succ]
        have HL4 : RowKit.Hid (RdS (WW.alloc (.cells (gnC x).toArray 36)) (WW.alloc (.cells (gnC x).toArray 36)).heap.size 6 (some ⟨WW.heap.size, 0, none⟩) 1 1 (rowsV gnC [x])) := Lib.hid (by rw [rows_one11]; exact RdS.of_whole (Whole.new_ _ _ _) rfl)
        have HO4 := Lib.hid (HO3.out.up (below1 WW (.cells (gnC x).toArray 36)))
        obtain ⟨W4, gW4⟩ : ∃ z, WW.alloc (.cells (gnC x).toArray 36) = z := ⟨_, rfl⟩
        obtain ⟨g8, gg8⟩ : ∃ z, WW.heap.size = z := ⟨_, rfl⟩
        rw [gW4] at HL4 HO4 ⊢
        rw [gg8] at HL4 ⊢
        clear gW4 gg8 HO3 HP
        go_wp2_with (first
          | (at_builtin
             refine wpList_push2 rfl (.tmp 41) (.tmp 46) _ rfl _ 36 iG _ 6 48 Try.underlying26 hiG z0iG z1iG z2iG rfl (by decide) _ _ _ rfl HO4.out _ _ _ _ _ rfl HL4.out (rowsV_one11 gnC gnC_one [x]) (by unfold maxLen; omega) (by omega) ?_
             intro v5 W5 how5 hb5 hgr5
             obtain ⟨A5, c5, rfl, -⟩ := how5.rds
             have HO5 := Lib.hid how5
             clear how5 hb5 hgr5))
        go_roundw
        case rel =>
          refine ⟨k + 1, O ++ [x], OL + 1, by omega, by omega, by omega, by rw [List.length_append, HOl.out]; rfl, by go_num, Lib.hid ?_, HOn2⟩
          rw [rowsV_app]
          exact HO5.out
        case measure => simp [intOf]; omega
    · have HRd := Lib.hid hrd
      have HBw := Lib.hid (bel_bl HB1.out HO.out.below)
      clear hrd HO
      go_upto_region 4 with fail
      go_cut [26] (fun v z => v = .bool false ∧ z = wo)
      case first =>
        by_cases hkn2 : (k : Int) < (g : Int)
        · have hk6b : decide ((k : Int) < 60) = false := decide_eq_false (fun q => hlt ⟨by omega, by omega⟩)
          clear hlt
          go_wp2
          go_meet
          exact ⟨rfl, rfl⟩
        · have hk6b : decide ((k : Int) < (g : Int)) = false := decide_eq_false hkn2
          clear hlt
          go_wp2
          go_meet
          exact ⟨rfl, rfl⟩
      case rest =>
        obtain ⟨rfl, hwc⟩ := hcut
        replace hwc := hwc.symm
        subst hwc
        obtain ⟨n, gn⟩ : ∃ z, OL = z := ⟨_, rfl⟩
        have hn60 : n ≤ 60 := by omega
        rw [gn] at HOl HRd ⊢
        obtain ⟨A, gA⟩ : ∃ z, Ac = z := ⟨_, rfl⟩
        obtain ⟨c, gc'⟩ : ∃ z, cc = z := ⟨_, rfl⟩
        rw [gA, gc'] at HRd ⊢
        clear gn gA gc' hlt hkg hk60 hOk HGn HGnl hgl
        go_upto_region 12 with fail
        have hz0 := (rds_empty wo 36 6).al (.cells #[] 36)
        have hz1 := rds_empty (wo.alloc (.cells #[] 36)) 36 6
        have hr2 := (HRd.out.al (.cells #[] 36)).al (.cells #[] 36)
        have hb2 := bel_al (bel_al HBw.out (.cells #[] 36)) (.cells #[] 36)
        have hsz : (wo.alloc (.cells #[] 36)).heap.size = wo.heap.size + 1 := by simp
        rw [hsz] at hz1
        obtain ⟨A0, gA0⟩ : ∃ z : Option Addr, some (⟨wo.heap.size, 0, none⟩ : Addr) = z := ⟨_, rfl⟩
        obtain ⟨B0, gB0⟩ : ∃ z : Option Addr, some (⟨wo.heap.size + 1, 0, none⟩ : Addr) = z := ⟨_, rfl⟩
        obtain ⟨W0, gW0⟩ : ∃ z, (wo.alloc (.cells #[] 36)).alloc (.cells #[] 36) = z := ⟨_, rfl⟩
        rw [gW0] at hz0 hz1 hr2 hb2 ⊢
        rw [gA0] at hz0 ⊢
        rw [gB0] at hz1 ⊢
        have HI0 : RowKit.Hid (AdIn w O n A c 0 A0 0 (addsG [] (O.take 0)) B0 0 (addsG [] (O.reverse.take 0)) W0) := Lib.hid ⟨hr2, hz0, hz1, hb2⟩
        clear hz0 hz1 hr2 hb2 hsz gA0 gB0 gW0 HRd HBw
        go_loopw [8, 9, 10] (fun va vb si wr => ∃ (i : Nat) (Aa Ab : Option Addr) (ca cb : Nat), i ≤ n ∧ va = .slice Aa i ca ∧ vb = .slice Ab i cb ∧ si = .int .i64 (i : Int) ∧ RowKit.Hid (AdIn w O n A c i Aa ca (addsG [] (O.take i)) Ab cb (addsG [] (O.reverse.take i)) wr)) (fun _ _ si _ => n - (intOf si).toNat)
        case atStart => exact ⟨0, A0, B0, 0, 0, Nat.zero_le _, rfl, rfl, rfl, HI0⟩
        case round =>
          clear HI0 wo
          obtain ⟨i, Aa, Ab, ca, cb, hin, rfl, rfl, rfl, HI⟩ := hrel
          obtain ⟨wo, gwo⟩ : ∃ z, wr = z := ⟨_, rfl⟩
          rw [gwo] at HI ⊢
          clear gwo
          by_cases hlt : i < n
          · have hltI : (i : Int) < (n : Int) := by omega
            obtain ⟨x, hx⟩ : ∃ x, O[i]? = some x := ⟨_, List.getElem?_eq_getElem (by have := HOl.out; omega)⟩
            obtain ⟨q, gq⟩ : ∃ q, n - 1 - i = q := ⟨_, rfl⟩
            obtain ⟨y, hy⟩ : ∃ y, O[q]? = some y := ⟨_, List.getElem?_eq_getElem (by have := HOl.out; omega)⟩
            have hyr : O.reverse[i]? = some y := by rw [List.getElem?_reverse (by have := HOl.out; omega), HOl.out, gq]; exact hy
            have hqn : q < n := by omega
            have hqI : (q : Int) < (n : Int) := by omega
            obtain ⟨n1, gn1⟩ : ∃ z, n - 1 = z := ⟨_, rfl⟩
            have e1 : (n : Int) - 1 = (n1 : Int) := by omega
            have e2 : IntKind.i64.wrap (n1 : Int) = (n1 : Int) := IntWalk.i64_in _ (by omega)
            have e3 : (n1 : Int) - (i : Int) = (q : Int) := by omega
            have e4 : IntKind.i64.wrap (q : Int) = (q : Int) := IntWalk.i64_in _ (by omega)
            obtain ⟨i1, gi1⟩ : ∃ z, i + 1 = z := ⟨_, rfl⟩
            have e5 : (i : Int) + 1 = (i1 : Int) := by omega
            have e6 : IntKind.i64.wrap (i1 : Int) = (i1 : Int) := IntWalk.i64_in _ (by omega)
            have e7 : IntKind.i64.wrap ((i : Int) + 1) = (i1 : Int) := by rw [e5]; exact e6
            have HM1 : RowKit.Hid ((addG (addsG [] (O.take i)) x).length = i1) := Lib.hid (gi1 ▸ adds_more HOn.out HOl.out hlt hx)
            have HM2 : RowKit.Hid ((addG (addsG [] (O.reverse.take i)) y).length = i1) := Lib.hid (gi1 ▸ adds_more (onceG_rev HOn.out) (by rw [List.length_reverse]; exact HOl.out) hlt hyr)
            have HT1 : RowKit.Hid (addsG [] (O.take i1) = addG (addsG [] (O.take i)) x) := Lib.hid (gi1 ▸ adds_take hx)
            have HT2 : RowKit.Hid (addsG [] (O.reverse.take i1) = addG (addsG [] (O.reverse.take i)) y) := Lib.hid (gi1 ▸ adds_take hyr)
            have HX := Lib.hid hx
            have HY := Lib.hid hy
            have hi1n : i1 ≤ n := by omega
            have hme : n - i1 < n - i := by omega
            clear hx hy hyr gq gn1 gi1
            go_upto_region 15 with (first
              | (at_builtin
                 refine wpList_push2 rfl (.tmp 56) (.tmp 57) _ rfl _ 36 iG _ 6 48 Try.underlying26 hiG z0iG z1iG z2iG rfl (by decide) _ _ _ rfl (Ow.new_ (cs := #[]) (Below.refl wo.heap.size wo) (Nat.le_refl _) (Nat.le_refl _) (Nat.zero_le _) rfl) _ Aa i ca _ rfl (HI.out.a.al _) (rowsV_one11 gnC gnC_one _) (by unfold maxLen; omega) (by omega) ?_
                 intro v5 W5 how5 hb5 hgr5
                 have HW5 := Lib.hid how5
                 clear how5 hb5 hgr5))
            obtain ⟨A5, c5, h5, hr5⟩ := HW5.out.rds
            have hb5 := HW5.out.below
            rw [Nat.zero_add] at h5 hr5
            subst h5
            have HI5 := Lib.hid (HI.out.below hb5)
            have HR5 : RowKit.Hid (RdS W5 W5.heap.size 6 A5 i c5 (rowsV gnC (addsG [] (O.take i)))) := Lib.hid hr5
            clear hb5 hr5 HW5 HI
            obtain ⟨bo, oo, rfl, hbo, hplm⟩ := HI5.out.own.place gnC_len (by decide) (by omega)
            have m0 := hplm i x HX.out 0 _ rfl
            have m1 := hplm i x HX.out 1 _ rfl
            have m2 := hplm i x HX.out 2 _ rfl
            have m3 := hplm i x HX.out 3 _ rfl
            have m4 := hplm i x HX.out 4 _ rfl
            have m5 := hplm i x HX.out 5 _ rfl
            simp only [Addr.add_lit, Nat.add_zero] at m0 m1 m2 m3 m4 m5
            clear hplm
            go_wp2_with fail
            refine (add_rises Aa i ca (addsG [] (O.take i)) x _ HI5.out.a (by omega) (rises_adds _ _ trivial)).mono ?_
            rintro e w6 ⟨A6, N6, c6, -, hl6, rfl, hr6, hb6⟩
            obtain rfl : i1 = N6 := HM1.out.symm.trans hl6
            rw [← HT1.out] at hr6
            have HR6 := Lib.hid hr6
            have HI6 := Lib.hid (HI5.out.below hb6)
            have HR5b := Lib.hid (HR5.out.bl hb6)
            clear hr6 hb6 hl6 HI5 HR5 m0 m1 m2 m3 m4 m5
            go_wp2_with fail
            refine (rsame_self Aa ca A5 c5 i _ _ HI6.out.a HR5b.out (by omega)).mono ?_
            rintro e w7 ⟨rfl, hb7⟩
            have HI7 := Lib.hid (HI6.out.below hb7)
            have HR7 := Lib.hid (HR6.out.bl hb7)
            clear hb7 HI6 HR5b HR6
            obtain ⟨bo2, oo2, hAe, -, hplm⟩ := HI7.out.own.place gnC_len (by decide) (by omega)
            injection hAe with hAe2
            injection hAe2 with hAe3 hAe4
            subst hAe3 hAe4
            have m0 := hplm q y HY.out 0 _ rfl
            have m1 := hplm q y HY.out 1 _ rfl
            have m2 := hplm q y HY.out 2 _ rfl
            have m3 := hplm q y HY.out 3 _ rfl
            have m4 := hplm q y HY.out 4 _ rfl
            have m5 := hplm q y HY.out 5 _ rfl
            simp only [Addr.add_lit, Nat.add_zero] at m0 m1 m2 m3 m4 m5
            clear hplm
            go_wp2_with fail
            refine (add_rises Ab i cb (addsG [] (O.reverse.take i)) y _ HI7.out.b (by omega) (rises_adds _ _ trivial)).mono ?_
            rintro e w8 ⟨A8, N8, c8, -, hl8, rfl, hr8, hb8⟩
            obtain rfl : i1 = N8 := HM2.out.symm.trans hl8
            rw [← HT2.out] at hr8
            have HI9 : RowKit.Hid (AdIn w O n _ c i1 A6 c6 (addsG [] (O.take i1)) A8 c8 (addsG [] (O.reverse.take i1)) w8) := Lib.hid ⟨HI7.out.own.bl hb8, HR7.out.bl hb8, hr8, bel_bl HI7.out.bel hb8⟩
            clear hr8 hb8 hl8 HI7 HR7 m0 m1 m2 m3 m4 m5 HM1 HM2 HT1 HT2 HX HY
            go_wp2
            go_roundw
            case rel => exact ⟨i1, A6, A8, c6, c8, hi1n, rfl, rfl, by first | rfl | go_num, HI9⟩
            case measure => simp [intOf]; omega
          · obtain rfl : n = i := by omega
            have htk : O.take n = O := List.take_of_length_le (by rw [HOl.out]; exact Nat.le_refl _)
            have htr : O.reverse.take n = O.reverse := List.take_of_length_le (by rw [List.length_reverse, HOl.out]; exact Nat.le_refl _)
            have hI := HI.out
            rw [htk, htr, adds_rev HOn.out] at hI
            have HFi : RowKit.Hid (∀ x ∈ O, findG (addsG [] O) x.1 = (x.2, true)) := Lib.hid (fun x hx => adds_find HOn.out hx)
            have HRi : RowKit.Hid (Rises (addsG [] O)) := Lib.hid (rises_adds _ _ trivial)
            have HLa : RowKit.Hid ((addsG [] O).length = n) := Lib.hid ((adds_len HOn.out).trans HOl.out)
            obtain ⟨L, gL⟩ : ∃ z, addsG [] O = z := ⟨_, rfl⟩
            rw [gL] at hI HFi HRi HLa
            have HJ0 := Lib.hid hI
            clear hI htk htr gL HI
            go_upto_region 22 with fail
            go_loopw [14] (fun si wr => ∃ i : Nat, i ≤ n ∧ si = .int .i64 (i : Int) ∧ RowKit.Hid (AdIn w O n A c n Aa ca L Ab cb L wr)) (fun si _ => n - (intOf si).toNat)
            case atStart => exact ⟨0, Nat.zero_le _, rfl, HJ0⟩
            case round =>
              clear HJ0 wo
              obtain ⟨i, hin, rfl, HI⟩ := hrel
              obtain ⟨wo, gwo⟩ : ∃ z, wr = z := ⟨_, rfl⟩
              rw [gwo] at HI ⊢
              clear gwo
              by_cases hlt : i < n
              · have hltI : (i : Int) < (n : Int) := by omega
                obtain ⟨x, hx⟩ : ∃ x, O[i]? = some x := ⟨_, List.getElem?_eq_getElem (by have := HOl.out; omega)⟩
                obtain ⟨z, hz⟩ : ∃ z, L[i]? = some z := ⟨_, List.getElem?_eq_getElem (by have := HLa.out; omega)⟩
                have hfd := find_any Aa n ca L x.1
                rw [HFi.out x (List.mem_of_getElem? hx)] at hfd
                have HFd := Lib.hid hfd
                obtain ⟨bo, oo, rfl, hbo, hplm⟩ := HI.out.own.place gnC_len (by decide) (by omega)
                have m0 := hplm i x hx 0 _ rfl
                have m1 := hplm i x hx 1 _ rfl
                have m2 := hplm i x hx 2 _ rfl
                simp only [Addr.add_lit, Nat.add_zero] at m0 m1 m2
                clear hplm hfd
                go_wp2_with fail
                refine (HFd.out _ HI.out.a (by omega)).mono ?_
                rintro e w3 ⟨rfl, hb3⟩
                have HI2 := Lib.hid (HI.out.below hb3)
                clear hb3 HFd HI m0 m1 m2
                go_upto_region 25 with fail
                have HI3 := Lib.hid (HI2.out.below (below1 w3 (.cells #[.int .i64 x.2.1, .int .i64 x.2.2.1, .int .i64 x.2.2.2] 32)))
                have HT : RowKit.Hid (Whole (w3.alloc (.cells #[.int .i64 x.2.1, .int .i64 x.2.2.1, .int .i64 x.2.2.2] 32)) w3.heap.size 32 [.int .i64 x.2.1, .int .i64 x.2.2.1, .int .i64 x.2.2.2]) := Lib.hid (Whole.new_ _ _ _)
                obtain ⟨Wd, gWd⟩ : ∃ z, w3.alloc (.cells #[.int .i64 x.2.1, .int .i64 x.2.2.1, .int .i64 x.2.2.2] 32) = z := ⟨_, rfl⟩
                obtain ⟨gt, ggt⟩ : ∃ z, w3.heap.size = z := ⟨_, rfl⟩
                rw [gWd] at HI3 HT ⊢
                rw [ggt] at HT ⊢
                clear gWd ggt HI2
                obtain ⟨bo2, oo2, hAe, -, hplm⟩ := HI3.out.own.place gnC_len (by decide) (by omega)
                injection hAe with hAe2
                injection hAe2 with hAe3 hAe4
                subst hAe3 hAe4
                have m3 := hplm i x hx 3 _ rfl
                have m4 := hplm i x hx 4 _ rfl
                have m5 := hplm i x hx 5 _ rfl
                simp only [Addr.add_lit, Nat.add_zero] at m3 m4 m5
                clear hplm
                have lo3 : ∀ w', Kept Nil_ Wd.drew w' → w'.cell? ⟨bo, oo + i * 6 + 3, none⟩ = some (.int .i64 x.2.1) := fun w' h => h.nil_cell (m3)
                have lo4 : ∀ w', Kept Nil_ Wd.drew w' → w'.cell? ⟨bo, oo + i * 6 + 4, none⟩ = some (.int .i64 x.2.2.1) := fun w' h => h.nil_cell (m4)
                have lo5 : ∀ w', Kept Nil_ Wd.drew w' → w'.cell? ⟨bo, oo + i * 6 + 5, none⟩ = some (.int .i64 x.2.2.2) := fun w' h => h.nil_cell (m5)
                have lt0 : ∀ w', Kept Nil_ Wd.drew w' → w'.cell? ⟨gt, 0, none⟩ = some (.int .i64 x.2.1) := fun w' h => h.nil_cell (HT.out.dr.cell (i := 0) rfl)
                have lt1 : ∀ w', Kept Nil_ Wd.drew w' → w'.cell? ⟨gt, 1, none⟩ = some (.int .i64 x.2.2.1) := fun w' h => h.nil_cell (HT.out.dr.cell (i := 1) rfl)
                have lt2 : ∀ w', Kept Nil_ Wd.drew w' → w'.cell? ⟨gt, 2, none⟩ = some (.int .i64 x.2.2.2) := fun w' h => h.nil_cell (HT.out.dr.cell (i := 2) rfl)
                have hq : ∀ W, (binOp .neq 32 (.agg #[.int .i64 x.2.1, .int .i64 x.2.2.1, .int .i64 x.2.2.2]) (.agg #[.int .i64 x.2.1, .int .i64 x.2.2.1, .int .i64 x.2.2.2])).run Try.prog W = .ok (.bool false) W := fun W => by
                  have e := neq_dart_run x.2 x.2 W
                  rw [decide_eq_true rfl] at e
                  exact e
                clear m3 m4 m5
                by_cases hi0 : i = 0
                · have hg1 : decide ((0 : Int) < (i : Int)) = false := decide_eq_false (by omega)
                  have hg2 : decide (0 < i) = false := decide_eq_false (by omega)
                  clear hz hi0
                  refine wp_region_reg (Nil_) (by kernel_rfl) ?_
                  apply wpR_next 0 (some 105)
                  · simp only [List.getElem?_toArray, List.getElem?_cons_succ, List.getElem?_cons_zero]; exact rfl
                  · rfl
                  · kernel_rfl
                  · kernel_rfl
                  · kernel_rfl
                  · exact fun _ _ _ _ h => h
                  apply Exists.intro
                  apply And.intro
                  · apply yr_run; rfl; intro w' hw'; go_simp; (try with_reducible rfl)
                  simp only [Act.put, List.setIfInBounds_toArray, List.set_cons_zero, List.set_cons_succ]
                  apply wpR_next 1 (some 106)
                  · simp only [List.getElem?_toArray, List.getElem?_cons_succ, List.getElem?_cons_zero]; exact rfl
                  · rfl
                  · kernel_rfl
                  · kernel_rfl
                  · kernel_rfl
                  · exact fun _ _ _ _ h => h
                  apply Exists.intro
                  apply And.intro
                  · apply yr_run; rfl; intro w' hw'; go_simp; (try with_reducible rfl)
                  simp only [Act.put, List.setIfInBounds_toArray, List.set_cons_zero, List.set_cons_succ]
                  apply wpR_next 2 (some 107)
                  · simp only [List.getElem?_toArray, List.getElem?_cons_succ, List.getElem?_cons_zero]; exact rfl
                  · rfl
                  · kernel_rfl
                  · kernel_rfl
                  · kernel_rfl
                  · exact fun _ _ _ _ h => h
                  apply Exists.intro
                  apply And.intro
                  · apply yr_run; rfl; intro w' hw'; go_simp; (try with_reducible rfl)
                  simp only [Act.put, List.setIfInBounds_toArray, List.set_cons_zero, List.set_cons_succ]
                  apply wpR_next 3 (some 108)
                  · simp only [List.getElem?_toArray, List.getElem?_cons_succ, List.getElem?_cons_zero]; exact rfl
                  · rfl
                  · kernel_rfl
                  · kernel_rfl
                  · kernel_rfl
                  · exact fun _ _ _ _ h => h
                  apply Exists.intro
                  apply And.intro
                  · apply yr_run; rfl; intro w' hw'; go_simp; (try with_reducible rfl)
                  simp only [Act.put, List.setIfInBounds_toArray, List.set_cons_zero, List.set_cons_succ]
                  apply wpR_next 4 (some 109)
                  · simp only [List.getElem?_toArray, List.getElem?_cons_succ, List.getElem?_cons_zero]; exact rfl
                  · rfl
                  · kernel_rfl
                  · kernel_rfl
                  · kernel_rfl
                  · exact fun _ _ _ _ h => h
                  apply Exists.intro
                  apply And.intro
                  · apply yr_run; rfl; intro w' hw'; go_simp; (try with_reducible rfl)
                  simp only [Act.put, List.setIfInBounds_toArray, List.set_cons_zero, List.set_cons_succ]
                  apply wpR_next 5 (some 110)
                  · simp only [List.getElem?_toArray, List.getElem?_cons_succ, List.getElem?_cons_zero]; exact rfl
                  · rfl
                  · kernel_rfl
                  · kernel_rfl
                  · kernel_rfl
                  · exact fun _ _ _ _ h => h
                  apply Exists.intro
                  apply And.intro
                  · apply yr_run; rfl; intro w' hw'; go_simp; (try with_reducible rfl)
                  simp only [Act.put, List.setIfInBounds_toArray, List.set_cons_zero, List.set_cons_succ]
                  apply wpR_next 6 (some 111)
                  · simp only [List.getElem?_toArray, List.getElem?_cons_succ, List.getElem?_cons_zero]; exact rfl
                  · rfl
                  · kernel_rfl
                  · kernel_rfl
                  · kernel_rfl
                  · exact fun _ _ _ _ h => h
                  apply Exists.intro
                  apply And.intro
                  · apply yr_run; rfl; intro w' hw'; go_simp; (try with_reducible rfl)
                  simp only [Act.put, List.setIfInBounds_toArray, List.set_cons_zero, List.set_cons_succ]
                  apply wpR_next 7 (some 112)
                  · simp only [List.getElem?_toArray, List.getElem?_cons_succ, List.getElem?_cons_zero]; exact rfl
                  · rfl
                  · kernel_rfl
                  · kernel_rfl
                  · kernel_rfl
                  · exact fun _ _ _ _ h => h
                  apply Exists.intro
                  apply And.intro
                  · apply yr_run; rfl; intro w' hw'; go_simp; (try with_reducible rfl)
                  simp only [Act.put, List.setIfInBounds_toArray, List.set_cons_zero, List.set_cons_succ]
                  apply wpR_next 8 (some 113)
                  · simp only [List.getElem?_toArray, List.getElem?_cons_succ, List.getElem?_cons_zero]; exact rfl
                  · rfl
                  · kernel_rfl
                  · kernel_rfl
                  · kernel_rfl
                  · exact fun _ _ _ _ h => h
                  apply Exists.intro
                  apply And.intro
                  · apply yr_run; rfl; intro w' hw'; go_simp; (try with_reducible rfl)
                  simp only [Act.put, List.setIfInBounds_toArray, List.set_cons_zero, List.set_cons_succ]
                  apply wpR_next 9 (some 114)
                  · simp only [List.getElem?_toArray, List.getElem?_cons_succ, List.getElem?_cons_zero]; exact rfl
                  · rfl
                  · kernel_rfl
                  · kernel_rfl
                  · kernel_rfl
                  · exact fun _ _ _ _ h => h
                  apply Exists.intro
                  apply And.intro
                  · exact yr_run (by rfl) (fun w' hw' => exec_binop_agg .neq 32 (.tmp 108) (.tmp 113) 32 rfl rfl rfl (by kernel_rfl) (hq w'))
                  simp only [Act.put, List.setIfInBounds_toArray, List.set_cons_zero, List.set_cons_succ]
                  apply wpR_next 10 (some 115)
                  · simp only [List.getElem?_toArray, List.getElem?_cons_succ, List.getElem?_cons_zero]; exact rfl
                  · rfl
                  · kernel_rfl
                  · kernel_rfl
                  · kernel_rfl
                  · exact fun _ _ _ _ h => h
                  apply Exists.intro
                  apply And.intro
                  · apply yr_run; rfl; intro w' hw'; go_simp; (try with_reducible rfl)
                  simp only [Act.put, List.setIfInBounds_toArray, List.set_cons_zero, List.set_cons_succ]
                  apply wpR_next 11 (some 116)
                  · simp only [List.getElem?_toArray, List.getElem?_cons_succ, List.getElem?_cons_zero]; exact rfl
                  · rfl
                  · kernel_rfl
                  · kernel_rfl
                  · kernel_rfl
                  · exact fun _ _ _ _ h => h
                  apply Exists.intro
                  apply And.intro
                  · apply yr_run; rfl; intro w' hw'; go_simp; (try with_reducible rfl)
                  simp only [Act.put, List.setIfInBounds_toArray, List.set_cons_zero, List.set_cons_succ]
                  apply wpR_next 12 (some 117)
                  · simp only [List.getElem?_toArray, List.getElem?_cons_succ, List.getElem?_cons_zero]; exact rfl
                  · rfl
                  · kernel_rfl
                  · kernel_rfl
                  · kernel_rfl
                  · exact fun _ _ _ _ h => h
                  apply Exists.intro
                  apply And.intro
                  · apply yr_run; rfl; intro w' hw'; go_simp; (try with_reducible rfl)
                  simp only [Act.put, List.setIfInBounds_toArray, List.set_cons_zero, List.set_cons_succ]
                  apply wpR_next 13 (some 118)
                  · simp only [List.getElem?_toArray, List.getElem?_cons_succ, List.getElem?_cons_zero]; exact rfl
                  · rfl
                  · kernel_rfl
                  · kernel_rfl
                  · kernel_rfl
                  · exact fun _ _ _ _ h => h
                  apply Exists.intro
                  apply And.intro
                  · apply yr_run; rfl; intro w' hw'; go_simp; (try with_reducible rfl)
                  simp only [Act.put, List.setIfInBounds_toArray, List.set_cons_zero, List.set_cons_succ]
                  apply wpR_next 14 (some 119)
                  · simp only [List.getElem?_toArray, List.getElem?_cons_succ, List.getElem?_cons_zero]; exact rfl
                  · rfl
                  · kernel_rfl
                  · kernel_rfl
                  · kernel_rfl
                  · exact fun _ _ _ _ h => h
                  apply Exists.intro
                  apply And.intro
                  · apply yr_run; rfl; intro w' hw'; go_simp; (try with_reducible rfl)
                  simp only [Act.put, List.setIfInBounds_toArray, List.set_cons_zero, List.set_cons_succ]
                  apply wpR_next 15 (some 120)
                  · simp only [List.getElem?_toArray, List.getElem?_cons_succ, List.getElem?_cons_zero]; exact rfl
                  · rfl
                  · kernel_rfl
                  · kernel_rfl
                  · kernel_rfl
                  · exact fun _ _ _ _ h => h
                  apply Exists.intro
                  apply And.intro
                  · exact yr_skip (by rfl)
                  simp only [Act.put, List.setIfInBounds_toArray, List.set_cons_zero, List.set_cons_succ]
                  apply wpR_next 16 (some 121)
                  · simp only [List.getElem?_toArray, List.getElem?_cons_succ, List.getElem?_cons_zero]; exact rfl
                  · rfl
                  · kernel_rfl
                  · kernel_rfl
                  · kernel_rfl
                  · exact fun _ _ _ _ h => h
                  apply Exists.intro
                  apply And.intro
                  · exact yr_skip (by rfl)
                  simp only [Act.put, List.setIfInBounds_toArray, List.set_cons_zero, List.set_cons_succ]
                  apply wpR_next 17 (some 122)
                  · simp only [List.getElem?_toArray, List.getElem?_cons_succ, List.getElem?_cons_zero]; exact rfl
                  · rfl
                  · kernel_rfl
                  · kernel_rfl
                  · kernel_rfl
                  · exact fun _ _ _ _ h => h
                  apply Exists.intro
                  apply And.intro
                  · exact yr_skip (by rfl)
                  simp only [Act.put, List.setIfInBounds_toArray, List.set_cons_zero, List.set_cons_succ]
                  apply wpR_next 18 (some 123)
                  · simp only [List.getElem?_toArray, List.getElem?_cons_succ, List.getElem?_cons_zero]; exact rfl
                  · rfl
                  · kernel_rfl
                  · kernel_rfl
                  · kernel_rfl
                  · exact fun _ _ _ _ h => h
                  apply Exists.intro
                  apply And.intro
                  · exact yr_skip (by rfl)
                  simp only [Act.put, List.setIfInBounds_toArray, List.set_cons_zero, List.set_cons_succ]
                  apply wpR_next 19 (some 124)
                  · simp only [List.getElem?_toArray, List.getElem?_cons_succ, List.getElem?_cons_zero]; exact rfl
                  · rfl
                  · kernel_rfl
                  · kernel_rfl
                  · kernel_rfl
                  · exact fun _ _ _ _ h => h
                  apply Exists.intro
                  apply And.intro
                  · exact yr_skip (by rfl)
                  simp only [Act.put, List.setIfInBounds_toArray, List.set_cons_zero, List.set_cons_succ]
                  apply wpR_next 20 (some 125)
                  · simp only [List.getElem?_toArray, List.getElem?_cons_succ, List.getElem?_cons_zero]; exact rfl
                  · rfl
                  · kernel_rfl
                  · kernel_rfl
                  · kernel_rfl
                  · exact fun _ _ _ _ h => h
                  apply Exists.intro
                  apply And.intro
                  · exact yr_skip (by rfl)
                  simp only [Act.put, List.setIfInBounds_toArray, List.set_cons_zero, List.set_cons_succ]
                  apply wpR_next 21 (some 126)
                  · simp only [List.getElem?_toArray, List.getElem?_cons_succ, List.getElem?_cons_zero]; exact rfl
                  · rfl
                  · kernel_rfl
                  · kernel_rfl
                  · kernel_rfl
                  · exact fun _ _ _ _ h => h
                  apply Exists.intro
                  apply And.intro
                  · exact yr_skip (by rfl)
                  simp only [Act.put, List.setIfInBounds_toArray, List.set_cons_zero, List.set_cons_succ]
                  apply wpR_next 22 (some 127)
                  · simp only [List.getElem?_toArray, List.getElem?_cons_succ, List.getElem?_cons_zero]; exact rfl
                  · rfl
                  · kernel_rfl
                  · kernel_rfl
                  · kernel_rfl
                  · exact fun _ _ _ _ h => h
                  apply Exists.intro
                  apply And.intro
                  · exact yr_skip (by rfl)
                  simp only [Act.put, List.setIfInBounds_toArray, List.set_cons_zero, List.set_cons_succ]
                  apply wpR_next 23 (some 128)
                  · simp only [List.getElem?_toArray, List.getElem?_cons_succ, List.getElem?_cons_zero]; exact rfl
                  · rfl
                  · kernel_rfl
                  · kernel_rfl
                  · kernel_rfl
                  · exact fun _ _ _ _ h => h
                  apply Exists.intro
                  apply And.intro
                  · exact yr_skip (by rfl)
                  simp only [Act.put, List.setIfInBounds_toArray, List.set_cons_zero, List.set_cons_succ]
                  apply wpR_next 24 (some 129)
                  · simp only [List.getElem?_toArray, List.getElem?_cons_succ, List.getElem?_cons_zero]; exact rfl
                  · rfl
                  · kernel_rfl
                  · kernel_rfl
                  · kernel_rfl
                  · exact fun _ _ _ _ h => h
                  apply Exists.intro
                  apply And.intro
                  · exact yr_skip (by rfl)
                  simp only [Act.put, List.setIfInBounds_toArray, List.set_cons_zero, List.set_cons_succ]
                  apply wpR_next 25 (some 130)
                  · simp only [List.getElem?_toArray, List.getElem?_cons_succ, List.getElem?_cons_zero]; exact rfl
                  · rfl
                  · kernel_rfl
                  · kernel_rfl
                  · kernel_rfl
                  · exact fun _ _ _ _ h => h
                  apply Exists.intro
                  apply And.intro
                  · exact yr_skip (by rfl)
                  simp only [Act.put, List.setIfInBounds_toArray, List.set_cons_zero, List.set_cons_succ]
                  apply wpR_next 26 (some 131)
                  · simp only [List.getElem?_toArray, List.getElem?_cons_succ, List.getElem?_cons_zero]; exact rfl
                  · rfl
                  · kernel_rfl
                  · kernel_rfl
                  · kernel_rfl
                  · exact fun _ _ _ _ h => h
                  apply Exists.intro
                  apply And.intro
                  · exact yr_skip (by rfl)
                  simp only [Act.put, List.setIfInBounds_toArray, List.set_cons_zero, List.set_cons_succ]
                  apply wpR_next 27 (some 132)
                  · simp only [List.getElem?_toArray, List.getElem?_cons_succ, List.getElem?_cons_zero]; exact rfl
                  · rfl
                  · kernel_rfl
                  · kernel_rfl
                  · kernel_rfl
                  · exact fun _ _ _ _ h => h
                  apply Exists.intro
                  apply And.intro
                  · exact yr_skip (by rfl)
                  simp only [Act.put, List.setIfInBounds_toArray, List.set_cons_zero, List.set_cons_succ]
                  apply wpR_next 28 (some 133)
                  · simp only [List.getElem?_toArray, List.getElem?_cons_succ, List.getElem?_cons_zero]; exact rfl
                  · rfl
                  · kernel_rfl
                  · kernel_rfl
                  · kernel_rfl
                  · exact fun _ _ _ _ h => h
                  apply Exists.intro
                  apply And.intro
                  · apply yr_run; rfl; intro w' hw'; go_simp; (try with_reducible rfl)
                  simp only [Act.put, List.setIfInBounds_toArray, List.set_cons_zero, List.set_cons_succ]
                  apply wpR_next 29 (some 134)
                  · simp only [List.getElem?_toArray, List.getElem?_cons_succ, List.getElem?_cons_zero]; exact rfl
                  · rfl
                  · kernel_rfl
                  · kernel_rfl
                  · kernel_rfl
                  · exact fun _ _ _ _ h => h
                  apply Exists.intro
                  apply And.intro
                  · apply yr_run; rfl; intro w' hw'; go_simp; (try with_reducible rfl)
                  simp only [Act.put, List.setIfInBounds_toArray, List.set_cons_zero, List.set_cons_succ]
                  refine wpR_done (by kernel_rfl) ?_ _
                  intro W9 hw9
                  have HI9 := Lib.hid (HI3.out.below (bel_bl (bel_dr (Below.refl Wd.heap.size Wd)) hw9))
                  clear hw9 HI3 HT hq hg1 hg2 lo3 lo4 lo5 lt0 lt1 lt2
                  go_wp2
                  go_roundw
                  case rel => exact ⟨i + 1, by omega, by go_num, HI9⟩
                  case measure => simp [intOf]; omega
                · obtain ⟨i0, rfl⟩ : ∃ i0, i = i0 + 1 := ⟨i - 1, by omega⟩
                  obtain ⟨y, hy⟩ : ∃ y, L[i0]? = some y := ⟨_, List.getElem?_eq_getElem (by have := HLa.out; omega)⟩
                  have hord := rises_at HRi.out hy hz
                  obtain ⟨i, gi⟩ : ∃ z, i0 + 1 = z := ⟨_, rfl⟩
                  have e1 : (i : Int) - 1 = (i0 : Int) := by omega
                  have e2 : IntKind.i64.wrap (i0 : Int) = (i0 : Int) := IntWalk.i64_in _ (by omega)
                  rw [gi] at hz hltI hin hlt hi0 lo3 lo4 lo5 ⊢
                  have hg1 : decide ((0 : Int) < (i : Int)) = true := decide_eq_true (by omega)
                  have hg2 : decide (0 < i) = true := decide_eq_true (by omega)
                  have e3 : (i0 : Int) < (n : Int) := by omega
                  have hor := rorderdart_any y.1.1 y.1.2.1 y.1.2.2 z.1.1 z.1.2.1 z.1.2.2
                  obtain ⟨ov, gov⟩ : ∃ v, ordG y z = v := ⟨_, rfl⟩
                  rw [gov] at hord
                  replace hor : Pure 19 #[.agg #[.int .i64 y.1.1, .int .i64 y.1.2.1, .int .i64 y.1.2.2], .agg #[.int .i64 z.1.1, .int .i64 z.1.2.1, .int .i64 z.1.2.2]] (.int .i64 ov) := gov ▸ hor
                  have HOr := Lib.hid hor
                  have hq2 : decide (0 ≤ ov) = false := decide_eq_false (by omega)
                  obtain ⟨ba, oa, rfl, hba, hplm⟩ := HI3.out.a.place gnC_len (by decide) (by omega)
                  have m0 := hplm i0 y hy 0 _ rfl
                  have m1 := hplm i0 y hy 1 _ rfl
                  have m2 := hplm i0 y hy 2 _ rfl
                  simp only [Addr.add_lit, Nat.add_zero] at m0 m1 m2
                  have k0 := hplm i z hz 0 _ rfl
                  have k1 := hplm i z hz 1 _ rfl
                  have k2 := hplm i z hz 2 _ rfl
                  simp only [Addr.add_lit, Nat.add_zero] at k0 k1 k2
                  have GI := Lib.hid gi
                  clear hplm hor gov hord gi hz hy
                  have ly0 : ∀ w', Kept Nil_ Wd.drew w' → w'.cell? ⟨ba, oa + i0 * 6, none⟩ = some (.int .i64 y.1.1) := fun w' h => h.nil_cell (m0)
                  have ly1 : ∀ w', Kept Nil_ Wd.drew w' → w'.cell? ⟨ba, oa + i0 * 6 + 1, none⟩ = some (.int .i64 y.1.2.1) := fun w' h => h.nil_cell (m1)
                  have ly2 : ∀ w', Kept Nil_ Wd.drew w' → w'.cell? ⟨ba, oa + i0 * 6 + 2, none⟩ = some (.int .i64 y.1.2.2) := fun w' h => h.nil_cell (m2)
                  have lz0 : ∀ w', Kept Nil_ Wd.drew w' → w'.cell? ⟨ba, oa + i * 6, none⟩ = some (.int .i64 z.1.1) := fun w' h => h.nil_cell (k0)
                  have lz1 : ∀ w', Kept Nil_ Wd.drew w' → w'.cell? ⟨ba, oa + i * 6 + 1, none⟩ = some (.int .i64 z.1.2.1) := fun w' h => h.nil_cell (k1)
                  have lz2 : ∀ w', Kept Nil_ Wd.drew w' → w'.cell? ⟨ba, oa + i * 6 + 2, none⟩ = some (.int .i64 z.1.2.2) := fun w' h => h.nil_cell (k2)
                  clear m0 m1 m2 k0 k1 k2
                  refine wp_region_reg (Nil_) (by kernel_rfl) ?_
                  apply wpR_next 0 (some 105)
                  · simp only [List.getElem?_toArray, List.getElem?_cons_succ, List.getElem?_cons_zero]; exact rfl
                  · rfl
                  · kernel_rfl
                  · kernel_rfl
                  · kernel_rfl
                  · exact fun _ _ _ _ h => h
                  apply Exists.intro
                  apply And.intro
                  · apply yr_run; rfl; intro w' hw'; go_simp; (try with_reducible rfl)
                  simp only [Act.put, List.setIfInBounds_toArray, List.set_cons_zero, List.set_cons_succ]
                  apply wpR_next 1 (some 106)
                  · simp only [List.getElem?_toArray, List.getElem?_cons_succ, List.getElem?_cons_zero]; exact rfl
                  · rfl
                  · kernel_rfl
                  · kernel_rfl
                  · kernel_rfl
                  · exact fun _ _ _ _ h => h
                  apply Exists.intro
                  apply And.intro
                  · apply yr_run; rfl; intro w' hw'; go_simp; (try with_reducible rfl)
                  simp only [Act.put, List.setIfInBounds_toArray, List.set_cons_zero, List.set_cons_succ]
                  apply wpR_next 2 (some 107)
                  · simp only [List.getElem?_toArray, List.getElem?_cons_succ, List.getElem?_cons_zero]; exact rfl
                  · rfl
                  · kernel_rfl
                  · kernel_rfl
                  · kernel_rfl
                  · exact fun _ _ _ _ h => h
                  apply Exists.intro
                  apply And.intro
                  · apply yr_run; rfl; intro w' hw'; go_simp; (try with_reducible rfl)
                  simp only [Act.put, List.setIfInBounds_toArray, List.set_cons_zero, List.set_cons_succ]
                  apply wpR_next 3 (some 108)
                  · simp only [List.getElem?_toArray, List.getElem?_cons_succ, List.getElem?_cons_zero]; exact rfl
                  · rfl
                  · kernel_rfl
                  · kernel_rfl
                  · kernel_rfl
                  · exact fun _ _ _ _ h => h
                  apply Exists.intro
                  apply And.intro
                  · apply yr_run; rfl; intro w' hw'; go_simp; (try with_reducible rfl)
                  simp only [Act.put, List.setIfInBounds_toArray, List.set_cons_zero, List.set_cons_succ]
                  apply wpR_next 4 (some 109)
                  · simp only [List.getElem?_toArray, List.getElem?_cons_succ, List.getElem?_cons_zero]; exact rfl
                  · rfl
                  · kernel_rfl
                  · kernel_rfl
                  · kernel_rfl
                  · exact fun _ _ _ _ h => h
                  apply Exists.intro
                  apply And.intro
                  · apply yr_run; rfl; intro w' hw'; go_simp; (try with_reducible rfl)
                  simp only [Act.put, List.setIfInBounds_toArray, List.set_cons_zero, List.set_cons_succ]
                  apply wpR_next 5 (some 110)
                  · simp only [List.getElem?_toArray, List.getElem?_cons_succ, List.getElem?_cons_zero]; exact rfl
                  · rfl
                  · kernel_rfl
                  · kernel_rfl
                  · kernel_rfl
                  · exact fun _ _ _ _ h => h
                  apply Exists.intro
                  apply And.intro
                  · apply yr_run; rfl; intro w' hw'; go_simp; (try with_reducible rfl)
                  simp only [Act.put, List.setIfInBounds_toArray, List.set_cons_zero, List.set_cons_succ]
                  apply wpR_next 6 (some 111)
                  · simp only [List.getElem?_toArray, List.getElem?_cons_succ, List.getElem?_cons_zero]; exact rfl
                  · rfl
                  · kernel_rfl
                  · kernel_rfl
                  · kernel_rfl
                  · exact fun _ _ _ _ h => h
                  apply Exists.intro
                  apply And.intro
                  · apply yr_run; rfl; intro w' hw'; go_simp; (try with_reducible rfl)
                  simp only [Act.put, List.setIfInBounds_toArray, List.set_cons_zero, List.set_cons_succ]
                  apply wpR_next 7 (some 112)
                  · simp only [List.getElem?_toArray, List.getElem?_cons_succ, List.getElem?_cons_zero]; exact rfl
                  · rfl
                  · kernel_rfl
                  · kernel_rfl
                  · kernel_rfl
                  · exact fun _ _ _ _ h => h
                  apply Exists.intro
                  apply And.intro
                  · apply yr_run; rfl; intro w' hw'; go_simp; (try with_reducible rfl)
                  simp only [Act.put, List.setIfInBounds_toArray, List.set_cons_zero, List.set_cons_succ]
                  apply wpR_next 8 (some 113)
                  · simp only [List.getElem?_toArray, List.getElem?_cons_succ, List.getElem?_cons_zero]; exact rfl
                  · rfl
                  · kernel_rfl
                  · kernel_rfl
                  · kernel_rfl
                  · exact fun _ _ _ _ h => h
                  apply Exists.intro
                  apply And.intro
                  · apply yr_run; rfl; intro w' hw'; go_simp; (try with_reducible rfl)
                  simp only [Act.put, List.setIfInBounds_toArray, List.set_cons_zero, List.set_cons_succ]
                  apply wpR_next 9 (some 114)
                  · simp only [List.getElem?_toArray, List.getElem?_cons_succ, List.getElem?_cons_zero]; exact rfl
                  · rfl
                  · kernel_rfl
                  · kernel_rfl
                  · kernel_rfl
                  · exact fun _ _ _ _ h => h
                  apply Exists.intro
                  apply And.intro
                  · exact yr_run (by rfl) (fun w' hw' => exec_binop_agg .neq 32 (.tmp 108) (.tmp 113) 32 rfl rfl rfl (by kernel_rfl) (hq w'))
                  simp only [Act.put, List.setIfInBounds_toArray, List.set_cons_zero, List.set_cons_succ]
                  apply wpR_next 10 (some 115)
                  · simp only [List.getElem?_toArray, List.getElem?_cons_succ, List.getElem?_cons_zero]; exact rfl
                  · rfl
                  · kernel_rfl
                  · kernel_rfl
                  · kernel_rfl
                  · exact fun _ _ _ _ h => h
                  apply Exists.intro
                  apply And.intro
                  · apply yr_run; rfl; intro w' hw'; go_simp; (try with_reducible rfl)
                  simp only [Act.put, List.setIfInBounds_toArray, List.set_cons_zero, List.set_cons_succ]
                  apply wpR_next 11 (some 116)
                  · simp only [List.getElem?_toArray, List.getElem?_cons_succ, List.getElem?_cons_zero]; exact rfl
                  · rfl
                  · kernel_rfl
                  · kernel_rfl
                  · kernel_rfl
                  · exact fun _ _ _ _ h => h
                  apply Exists.intro
                  apply And.intro
                  · apply yr_run; rfl; intro w' hw'; go_simp; (try with_reducible rfl)
                  simp only [Act.put, List.setIfInBounds_toArray, List.set_cons_zero, List.set_cons_succ]
                  apply wpR_next 12 (some 117)
                  · simp only [List.getElem?_toArray, List.getElem?_cons_succ, List.getElem?_cons_zero]; exact rfl
                  · rfl
                  · kernel_rfl
                  · kernel_rfl
                  · kernel_rfl
                  · exact fun _ _ _ _ h => h
                  apply Exists.intro
                  apply And.intro
                  · apply yr_run; rfl; intro w' hw'; go_simp; (try with_reducible rfl)
                  simp only [Act.put, List.setIfInBounds_toArray, List.set_cons_zero, List.set_cons_succ]
                  apply wpR_next 13 (some 118)
                  · simp only [List.getElem?_toArray, List.getElem?_cons_succ, List.getElem?_cons_zero]; exact rfl
                  · rfl
                  · kernel_rfl
                  · kernel_rfl
                  · kernel_rfl
                  · exact fun _ _ _ _ h => h
                  apply Exists.intro
                  apply And.intro
                  · apply yr_run; rfl; intro w' hw'; go_simp; (try with_reducible rfl)
                  simp only [Act.put, List.setIfInBounds_toArray, List.set_cons_zero, List.set_cons_succ]
                  apply wpR_next 14 (some 119)
                  · simp only [List.getElem?_toArray, List.getElem?_cons_succ, List.getElem?_cons_zero]; exact rfl
                  · rfl
                  · kernel_rfl
                  · kernel_rfl
                  · kernel_rfl
                  · exact fun _ _ _ _ h => h
                  apply Exists.intro
                  apply And.intro
                  · apply yr_run; rfl; intro w' hw'; go_simp; (try with_reducible rfl)
                  simp only [Act.put, List.setIfInBounds_toArray, List.set_cons_zero, List.set_cons_succ]
                  apply wpR_next 15 (some 120)
                  · simp only [List.getElem?_toArray, List.getElem?_cons_succ, List.getElem?_cons_zero]; exact rfl
                  · rfl
                  · kernel_rfl
                  · kernel_rfl
                  · kernel_rfl
                  · exact fun _ _ _ _ h => h
                  apply Exists.intro
                  apply And.intro
                  · apply yr_run; rfl; intro w' hw'; go_simp; (try with_reducible rfl)
                  simp only [Act.put, List.setIfInBounds_toArray, List.set_cons_zero, List.set_cons_succ]
                  apply wpR_next 16 (some 121)
                  · simp only [List.getElem?_toArray, List.getElem?_cons_succ, List.getElem?_cons_zero]; exact rfl
                  · rfl
                  · kernel_rfl
                  · kernel_rfl
                  · kernel_rfl
                  · exact fun _ _ _ _ h => h
                  apply Exists.intro
                  apply And.intro
                  · apply yr_run; rfl; intro w' hw'; go_simp; (try with_reducible rfl)
                  simp only [Act.put, List.setIfInBounds_toArray, List.set_cons_zero, List.set_cons_succ]
                  apply wpR_next 17 (some 122)
                  · simp only [List.getElem?_toArray, List.getElem?_cons_succ, List.getElem?_cons_zero]; exact rfl
                  · rfl
                  · kernel_rfl
                  · kernel_rfl
                  · kernel_rfl
                  · exact fun _ _ _ _ h => h
                  apply Exists.intro
                  apply And.intro
                  · apply yr_run; rfl; intro w' hw'; go_simp; (try with_reducible rfl)
                  simp only [Act.put, List.setIfInBounds_toArray, List.set_cons_zero, List.set_cons_succ]
                  apply wpR_next 18 (some 123)
                  · simp only [List.getElem?_toArray, List.getElem?_cons_succ, List.getElem?_cons_zero]; exact rfl
                  · rfl
                  · kernel_rfl
                  · kernel_rfl
                  · kernel_rfl
                  · exact fun _ _ _ _ h => h
                  apply Exists.intro
                  apply And.intro
                  · apply yr_run; rfl; intro w' hw'; go_simp; (try with_reducible rfl)
                  simp only [Act.put, List.setIfInBounds_toArray, List.set_cons_zero, List.set_cons_succ]
                  apply wpR_next 19 (some 124)
                  · simp only [List.getElem?_toArray, List.getElem?_cons_succ, List.getElem?_cons_zero]; exact rfl
                  · rfl
                  · kernel_rfl
                  · kernel_rfl
                  · kernel_rfl
                  · exact fun _ _ _ _ h => h
                  apply Exists.intro
                  apply And.intro
                  · apply yr_run; rfl; intro w' hw'; go_simp; (try with_reducible rfl)
                  simp only [Act.put, List.setIfInBounds_toArray, List.set_cons_zero, List.set_cons_succ]
                  apply wpR_next 20 (some 125)
                  · simp only [List.getElem?_toArray, List.getElem?_cons_succ, List.getElem?_cons_zero]; exact rfl
                  · rfl
                  · kernel_rfl
                  · kernel_rfl
                  · kernel_rfl
                  · exact fun _ _ _ _ h => h
                  apply Exists.intro
                  apply And.intro
                  · apply yr_run; rfl; intro w' hw'; go_simp; (try with_reducible rfl)
                  simp only [Act.put, List.setIfInBounds_toArray, List.set_cons_zero, List.set_cons_succ]
                  apply wpR_next 21 (some 126)
                  · simp only [List.getElem?_toArray, List.getElem?_cons_succ, List.getElem?_cons_zero]; exact rfl
                  · rfl
                  · kernel_rfl
                  · kernel_rfl
                  · kernel_rfl
                  · exact fun _ _ _ _ h => h
                  apply Exists.intro
                  apply And.intro
                  · apply yr_run; rfl; intro w' hw'; go_simp; (try with_reducible rfl)
                  simp only [Act.put, List.setIfInBounds_toArray, List.set_cons_zero, List.set_cons_succ]
                  apply wpR_next 22 (some 127)
                  · simp only [List.getElem?_toArray, List.getElem?_cons_succ, List.getElem?_cons_zero]; exact rfl
                  · rfl
                  · kernel_rfl
                  · kernel_rfl
                  · kernel_rfl
                  · exact fun _ _ _ _ h => h
                  apply Exists.intro
                  apply And.intro
                  · apply yr_run; rfl; intro w' hw'; go_simp; (try with_reducible rfl)
                  simp only [Act.put, List.setIfInBounds_toArray, List.set_cons_zero, List.set_cons_succ]
                  apply wpR_next 23 (some 128)
                  · simp only [List.getElem?_toArray, List.getElem?_cons_succ, List.getElem?_cons_zero]; exact rfl
                  · rfl
                  · kernel_rfl
                  · kernel_rfl
                  · kernel_rfl
                  · exact fun _ _ _ _ h => h
                  apply Exists.intro
                  apply And.intro
                  · apply yr_run; rfl; intro w' hw'; go_simp; (try with_reducible rfl)
                  simp only [Act.put, List.setIfInBounds_toArray, List.set_cons_zero, List.set_cons_succ]
                  apply wpR_next 24 (some 129)
                  · simp only [List.getElem?_toArray, List.getElem?_cons_succ, List.getElem?_cons_zero]; exact rfl
                  · rfl
                  · kernel_rfl
                  · kernel_rfl
                  · kernel_rfl
                  · exact fun _ _ _ _ h => h
                  apply Exists.intro
                  apply And.intro
                  · apply yr_run; rfl; intro w' hw'; go_simp; (try with_reducible rfl)
                  simp only [Act.put, List.setIfInBounds_toArray, List.set_cons_zero, List.set_cons_succ]
                  apply wpR_next 25 (some 130)
                  · simp only [List.getElem?_toArray, List.getElem?_cons_succ, List.getElem?_cons_zero]; exact rfl
                  · rfl
                  · kernel_rfl
                  · kernel_rfl
                  · kernel_rfl
                  · exact fun _ _ _ _ h => h
                  apply Exists.intro
                  apply And.intro
                  · apply yr_run; rfl; intro w' hw'; go_simp; (try with_reducible rfl)
                  simp only [Act.put, List.setIfInBounds_toArray, List.set_cons_zero, List.set_cons_succ]
                  apply wpR_next 26 (some 131)
                  · simp only [List.getElem?_toArray, List.getElem?_cons_succ, List.getElem?_cons_zero]; exact rfl
                  · rfl
                  · kernel_rfl
                  · kernel_rfl
                  · kernel_rfl
                  · exact fun _ _ _ _ h => h
                  apply Exists.intro
                  apply And.intro
                  · apply yr_call; rfl; rotate_left; intro w' hw'; exact HOr.out w'; intro w'; go_simp
                  simp only [Act.put, List.setIfInBounds_toArray, List.set_cons_zero, List.set_cons_succ]
                  apply wpR_next 27 (some 132)
                  · simp only [List.getElem?_toArray, List.getElem?_cons_succ, List.getElem?_cons_zero]; exact rfl
                  · rfl
                  · kernel_rfl
                  · kernel_rfl
                  · kernel_rfl
                  · exact fun _ _ _ _ h => h
                  apply Exists.intro
                  apply And.intro
                  · apply yr_run; rfl; intro w' hw'; go_simp; (try with_reducible rfl)
                  simp only [Act.put, List.setIfInBounds_toArray, List.set_cons_zero, List.set_cons_succ]
                  apply wpR_next 28 (some 133)
                  · simp only [List.getElem?_toArray, List.getElem?_cons_succ, List.getElem?_cons_zero]; exact rfl
                  · rfl
                  · kernel_rfl
                  · kernel_rfl
                  · kernel_rfl
                  · exact fun _ _ _ _ h => h
                  apply Exists.intro
                  apply And.intro
                  · apply yr_run; rfl; intro w' hw'; go_simp; (try with_reducible rfl)
                  simp only [Act.put, List.setIfInBounds_toArray, List.set_cons_zero, List.set_cons_succ]
                  apply wpR_next 29 (some 134)
                  · simp only [List.getElem?_toArray, List.getElem?_cons_succ, List.getElem?_cons_zero]; exact rfl
                  · rfl
                  · kernel_rfl
                  · kernel_rfl
                  · kernel_rfl
                  · exact fun _ _ _ _ h => h
                  apply Exists.intro
                  apply And.intro
                  · apply yr_run; rfl; intro w' hw'; go_simp; (try with_reducible rfl)
                  simp only [Act.put, List.setIfInBounds_toArray, List.set_cons_zero, List.set_cons_succ]
                  refine wpR_done (by kernel_rfl) ?_ _
                  intro W9 hw9
                  have HI9 := Lib.hid (HI3.out.below (bel_bl (bel_dr (Below.refl Wd.heap.size Wd)) hw9))
                  clear hw9 HI3 HT hq hg1 hg2 hq2 e1 e2 e3 HOr lo3 lo4 lo5 lt0 lt1 lt2 ly0 ly1 ly2 lz0 lz1 lz2
                  go_wp2
                  go_roundw
                  case rel => exact ⟨i + 1, by omega, by go_num, HI9⟩
                  case measure => have hgi := GI.out; simp [intOf]; omega
              · have hni : ¬ (i : Int) < (n : Int) := by omega
                go_wp2_with fail
                refine (rsame_self Aa ca Ab cb n L _ HI.out.a HI.out.b (by omega)).mono ?_
                rintro e w9 ⟨rfl, hb9⟩
                have HBz := Lib.hid (bel_bl HI.out.bel hb9)
                clear hb9 HI
                go_wp2
                go_ret
                exact ⟨rfl, HBz.out⟩
end Go.Proofs.Ytkhklhipiiehbaa

/- Words for all layers, in one text. -/
namespace Go.Proofs.Ytkhklhipiiehbaa
open Go.ChangeShapes Go.WideShapes Go.ChangeAt Go.RowKit

section
variable {H : Type} {enc : TypeId × Value → H} {P : Program}

/-- A row of arguments reads as it did where below the old heap's end nothing has turned. -/
theorem trodAll_stays (hl : laidOutB P = true) {W W' : World} (hb : Below W.heap.size W W') : ∀ (ts : List TypeId) (vs : List Value) (ds : List (DataW H)) (ps : List MemPlace) (sp : Nat → Bool),
    (∀ t ∈ ts, P.readableRec t = true ∧ t < P.types.size) → DataW.TrodAll enc P W 0 (fun _ => true) true ts vs ds ps →
    (∀ p ∈ ps, p.block < W.heap.size) → (∀ p ∈ ps, sp p.block = true) → DataW.TrodAll enc P W' 0 sp true ts vs ds ps
  | [], _, _, _, _, _, h, _, _ => by
    obtain ⟨rfl, rfl, rfl⟩ := trodAll_nil h
    exact rfl
  | t :: ts, vs, ds, ps, sp, ht, h, hlt, hs => by
    obtain ⟨v, vs', d, ds', p, q, rfl, rfl, rfl, h1, h2⟩ := trodAll_cons h
    have ⟨hr, hrow⟩ := ht t (by simp)
    refine ⟨p, q, WideElems.Trod_stays hl hr hrow h1 (fun x hx => hb.same (hlt x (by simp [hx]))) (fun x hx => hs x (by simp [hx])), ?_, rfl⟩
    exact trodAll_stays hl hb ts vs' ds' q sp (fun t' h' => ht t' (by simp [h'])) h2 (fun x hx => hlt x (by simp [hx])) (fun x hx => hs x (by simp [hx]))

/-- A law's post. -/
theorem law_post {f : Func} {s : ChangeSpec} {tb : TypeId} {W W' : World} {args : Array Value} {ds gs : List (DataW H)} {before : List MemPlace}
    (hl : laidOutB P = true) (hts : f.params.toList.all (fun t => P.readableRec t && decide (t < P.types.size)) = true) (hr : f.resultTypes = #[tb]) (htb : P.underlying tb = some .bool) (hv : s.vars = [])
    (hfn : (s.fn H (ds ++ gs)).results = [.lit (.bool true)] ∧ (s.fn H (ds ++ gs)).args = ds ∧ (s.fn H (ds ++ gs)).vars = [])
    (hW : DataW.Whole enc P f.params.toList s.vars false W args.toList ds gs before) (hb : Below W.heap.size W W') :
    s.post enc P f false true false false W args (.bool true) W' := by
  have hts' : ∀ t ∈ f.params.toList, P.readableRec t = true ∧ t < P.types.size := fun t ht => by
    have h := List.all_eq_true.1 hts t ht
    simpa using h
  have hlt : ∀ p ∈ before, p.block < W.heap.size := fun p hp => hW.lt p hp
  have hW' := hW
  obtain ⟨p, q, hA, hV, rfl, hfz, hnd⟩ := hW
  rw [hv] at hV
  obtain ⟨rfl, rfl⟩ := trodVars_none hV
  obtain ⟨e1, e2, e3⟩ := hfn
  refine ⟨ds, [], p ++ [], [], p, [], hW', ?_, ?_, ?_, ?_, fun h => by cases h⟩
  · rw [e1, hr]
    exact trodAll_mk1 (shut_bool htb _)
  · rw [e2]
    exact trodAll_stays hl hb _ _ _ _ _ hts' hA (fun x hx => hlt x (by simp [hx])) (fun x hx => by simpa using hlt x (by simp [hx]))
  · rw [e3, hv]
    rfl
  · exact World.keptBut_mono (fun x hx => ⟨hx, by simpa using hx⟩) (hb.frame (· ∈ p ++ []))
end
end Go.Proofs.Ytkhklhipiiehbaa

/- A law's arguments opened: types that are flat rows of int; what such a value is. -/
namespace Go.Proofs.Ytkhklhipiiehbaa
open Go.ChangeShapes Go.WideShapes Go.ChangeAt Go.RowKit

section
variable {H : Type} {P : Program}

def In64 (n : Int) : Prop := -9223372036854775808 ≤ n ∧ n ≤ 9223372036854775807
end
end Go.Proofs.Ytkhklhipiiehbaa

/- The laws' types as rows of int; what the row's shutting asks of the program. -/
namespace Go.Proofs.Ytkhklhipiiehbaa
open Go.ChangeShapes Go.WideShapes Go.ChangeAt Go.RowKit

theorem Try.own : ownKnob Try.prog.godebug = none := by kernel_rfl
theorem Try.laidOut : laidOutB Try.prog = true := by kernel_rfl

end Go.Proofs.Ytkhklhipiiehbaa

/- A law's slice argument opened: its elements are rows of ints, or bytes. -/
namespace Go.Proofs.Ytkhklhipiiehbaa
open Go.ChangeShapes Go.WideShapes Go.ChangeAt Go.RowKit Go.Deep

section
variable {H : Type} {P : Program}

end
end Go.Proofs.Ytkhklhipiiehbaa

/- A law's arguments opened, by the type: ints, bools, texts, slices, structs of these. -/
namespace Go.Proofs.Ytkhklhipiiehbaa
open Go.ChangeShapes Go.WideShapes Go.ChangeAt Go.RowKit Go.Deep

section
variable {H : Type} {P : Program} {α β : Type}

/-- What reads as data at type t is the cells of some a with p. -/
def Row1 (H : Type) (P : Program) (t : TypeId) (f : α → List Value) (p : World → α → Prop) : Prop :=
  ∀ (enc : TypeId × Value → H) (w : World) (held : Bool) (fuel : Nat) (cs : List Value) (x : DataW H × List MemPlace),
    DataW.trod enc P w 0 (fun _ => true) held fuel t cs = some x → ∃ a, cs = f a ∧ p w a

theorem row1_int {t : TypeId} (ht : P.underlying t = some (.int .i64)) : Row1 H P t (fun n : Int => [.int .i64 n]) (fun _ n => In64 n) := by
  intro enc w held fuel cs x h
  obtain ⟨n, rfl, _, hw⟩ := DataW.trod_int ht h
  exact ⟨n, rfl, bounds_i64 hw⟩
theorem Row1.map {t : TypeId} {f : α → List Value} {p : World → α → Prop} (h : Row1 H P t f p) (g : α → β) {f' : β → List Value} {p' : World → β → Prop} (hf : ∀ a, f a = f' (g a)) (hp : ∀ w a, p w a → p' w (g a)) : Row1 H P t f' p' := by
  intro enc w held fuel cs x hx
  obtain ⟨a, rfl, ha⟩ := h enc w held fuel cs x hx
  exact ⟨g a, hf a, hp w a ha⟩

/-- What the fields from cell off on read as. -/
def Fields_ (H : Type) (P : Program) (fs : List Field) (off m : Nat) (g : α → List Value) (q : World → α → Prop) : Prop :=
  ∀ (enc : TypeId × Value → H) (w : World) (held : Bool) (n : Nat) (cs : List Value),
    (∀ fl ∈ fs, ∃ y, DataW.trod enc P w 0 (fun _ => true) held n fl.type ((cs.drop fl.offset).take (P.cellsOf fl.type)) = some y) → ∃ a, (cs.drop off).take m = g a ∧ q w a
theorem fields_nil (off : Nat) : Fields_ H P [] off 0 (fun _ : Unit => []) (fun _ _ => True) := fun _ _ _ _ cs _ => ⟨(), by simp, trivial⟩
theorem fields_cons {fl : Field} {fs : List Field} {off k m : Nat} {f : α → List Value} {p : World → α → Prop} {g : β → List Value} {q : World → β → Prop}
    (h : Row1 H P fl.type f p) (ho : fl.offset = off) (hc : P.cellsOf fl.type = k) (hr : Fields_ H P fs (off + k) m g q) :
    Fields_ H P (fl :: fs) off (k + m) (fun ab : α × β => f ab.1 ++ g ab.2) (fun w ab => p w ab.1 ∧ q w ab.2) := by
  intro enc w held n cs hall
  obtain ⟨y, hy⟩ := hall fl (by simp)
  obtain ⟨a, ha, pa⟩ := h _ _ _ _ _ _ hy
  obtain ⟨b, hb, qb⟩ := hr enc w held n cs (fun fl' h' => hall fl' (by simp [h']))
  rw [ho, hc] at ha
  refine ⟨(a, b), ?_, pa, qb⟩
  show _ = f a ++ g b
  rw [← ha, ← hb, List.take_add, List.drop_drop]
theorem row1_struct {t : TypeId} {fs : List Field} {m : Nat} {g : α → List Value} {q : World → α → Prop} (ht : P.underlying t = some (.struct fs.toArray)) (hc : P.cellsOf t = m) (h : Fields_ H P fs 0 m g q) : Row1 H P t g q := by
  intro enc w held fuel cs x hx
  obtain ⟨xs, n, _, _, hl, hlen, hg⟩ := DataW.trod_struct ht hx
  obtain ⟨a, ha, qa⟩ := h enc w held n cs (fun fl hfl => by
    obtain ⟨i, hi⟩ := List.getElem?_of_mem hfl
    have h1 := hg i fl (by simpa using hi)
    have hlt : i < xs.length := by
      rw [hlen]
      simpa using (List.getElem?_eq_some_iff.1 hi).1
    exact ⟨xs[i], by rw [h1, List.getElem?_eq_getElem hlt]⟩)
  refine ⟨a, ?_, qa⟩
  rw [← ha, List.drop_zero, List.take_of_length_le (by omega)]

theorem row1_rows {e : TypeId} {k : Nat} {f : α → List Value} {p : World → α → Prop} (hi : Row1 H P e f p) (hc : P.cellsOf e = k) (hk : ∀ a, (f a).length = k) (enc : TypeId × Value → H) (W : World) (held : Bool) (a : Addr) (nn : Nat) :
    ∀ n : Nat, (∀ i, i < n → ∃ cs' D, W.cells? 0 (a.add (i * P.cellsOf e)) (P.cellsOf e) = some cs' ∧ DataW.trod enc P W 0 (fun _ => true) held nn e cs' = some D) →
      ∃ l : List α, l.length = n ∧ (∀ j u, (rowsV f l)[j]? = some u → W.cell? (a.add j) = some u) ∧ ∀ x ∈ l, p W x
  | 0, _ => ⟨[], rfl, fun j u h => (by simp [rowsV] at h), fun x h => (by cases h)⟩
  | n + 1, h => by
    obtain ⟨l, hl, hq, hp⟩ := row1_rows hi hc hk enc W held a nn n (fun i hi => h i (by omega))
    obtain ⟨cs', D, h1, h2⟩ := h n (by omega)
    obtain ⟨x, rfl, hx⟩ := hi _ _ _ _ _ _ h2
    rw [hc] at h1
    obtain ⟨_, hln, hat⟩ := World.cells?_some h1
    have hlen : (rowsV f l).length = n * k := by rw [rowsV_length f hk, hl]
    refine ⟨l ++ [x], by simp [hl], fun j u hj => ?_, fun y hy => ?_⟩
    · rw [rowsV_app] at hj
      rcases Nat.lt_or_ge j (n * k) with hlt | hge
      · rw [List.getElem?_append_left (by omega)] at hj
        exact hq j u hj
      · rw [List.getElem?_append_right (by omega), hlen] at hj
        simp only [rowsV, List.append_nil] at hj
        have hjk : j - n * k < k := by
          rcases Nat.lt_or_ge (j - n * k) k with h3 | h3
          · exact h3
          · rw [List.getElem?_eq_none (by rw [hk]; exact h3)] at hj
            cases hj
        have h4 := hat (j - n * k) hjk
        rw [hj, add_add, show n * k + (j - n * k) = j by omega] at h4
        exact h4
    · rcases List.mem_append.1 hy with hy | hy
      · exact hp y hy
      · obtain rfl := List.mem_singleton.1 hy
        exact hx

/-- What a slice reads as. -/
def SlOk (k : Nat) (f : α → List Value) (p : World → α → Prop) (w : World) (s : Option Addr × Nat × Nat × List α) : Prop :=
  s.2.2.1 ≤ maxLen ∧ RdS w w.heap.size k s.1 s.2.1 s.2.2.1 (rowsV f s.2.2.2) ∧ ∀ x ∈ s.2.2.2, p w x
def slCells (s : Option Addr × Nat × Nat × List α) : List Value := [.slice s.1 s.2.1 s.2.2.1]
theorem row1_slice {t e : TypeId} {k : Nat} {f : α → List Value} {p : World → α → Prop} (hi : Row1 H P e f p) (ht : P.underlying t = some (.slice e)) (hc : P.cellsOf e = k) (hk : ∀ a, (f a).length = k) (h0 : 0 < k) :
    Row1 H P t (slCells (α := α)) (SlOk k f p) := by
  intro enc W held fuel cs x hf
  rcases open_slice ht hf with ⟨rfl, _⟩ | ⟨a, n, c, m, q, D, Pl, rfl, hb, hl, hm, hmm, hx, hel⟩
  · exact ⟨(none, 0, 0, []), rfl, Nat.zero_le _, ⟨by simp [rowsV], fun _ => ⟨rfl, rfl⟩, Nat.le_refl _, fun a ha => (by cases ha), fun a ha => (by cases ha)⟩, fun x hx => (by cases hx)⟩
  · have hmc : m = c := by simpa using hmm
    clear hmm
    subst m
    obtain ⟨l, hlen, hcell, hp⟩ := row1_rows hi hc hk enc W held a q n (fun i him => by
      obtain ⟨cs', h1, h2⟩ := hel i (by omega)
      exact ⟨cs', _, h1, h2⟩)
    refine ⟨(some a, n, c, l), rfl, hm, ⟨by rw [rowsV_length f hk, hlen], fun e => (by cases e), hl, fun a' ha hn => ?_, fun a' ha j u hu => ?_⟩, hp⟩
    · obtain rfl := Option.some.inj ha
      have h0' : 0 < (rowsV f l).length := by rw [rowsV_length f hk, hlen]; exact Nat.mul_pos hn h0
      have := World.block_lt_of_cell? W _ (hcell 0 _ (List.getElem?_eq_getElem h0'))
      simpa [Addr.add] using this
    · obtain rfl := Option.some.inj ha
      exact hcell j u hu

theorem open_row1_slice {w W : World} {t e : TypeId} {k : Nat} {f : α → List Value} {p : World → α → Prop} {r : Reach} {b0 : Nat} {enc : TypeId × Value → H} {held : Bool} {v : Value} {d : DataW H} {ps : List MemPlace}
    (hi : Row1 H P e f p) (ht : P.underlying t = some (.slice e)) (hc : P.cellsOf e = k) (hk : ∀ a, (f a).length = k) (h0 : 0 < k)
    (hv : Value.okWide P w r b0 t v) (hd : DataW.Trod enc P W 0 (fun _ => true) held t v d ps) :
    ∃ s : Option Addr × Nat × Nat × List α, v = .slice s.1 s.2.1 s.2.2.1 ∧ SlOk k f p W s := by
  obtain ⟨A0, n0, c0, rfl⟩ := okWide_slice ht hv
  obtain ⟨fuel, hf⟩ := hd
  obtain ⟨s, q, hs⟩ := row1_slice hi ht hc hk h0 _ _ _ _ _ _ hf
  refine ⟨s, ?_, hs⟩
  simpa [Value.cells, slCells] using q
end
end Go.Proofs.Ytkhklhipiiehbaa

/- The laws' types of the diagram layers: names, darts, vertices, edges, diagrams. -/
namespace Go.Proofs.Ytkhklhipiiehbaa
open Go.ChangeShapes Go.WideShapes Go.ChangeAt Go.RowKit

theorem row1_id (H : Type) : Row1 H Try.prog 30 idC (fun _ x => In64 x.1 ∧ In64 x.2) :=
  (row1_struct Try.underlying30 (by kernel_rfl) (fields_cons (k := 1) (row1_int Try.underlying3) rfl (by kernel_rfl) (fields_cons (k := 1) (row1_int Try.underlying3) rfl (by kernel_rfl) (fields_nil _)))).map
    (fun a => (a.1, a.2.1)) (fun _ => rfl) (fun _ _ h => ⟨h.1, h.2.1⟩)
theorem row1_dart (H : Type) : Row1 H Try.prog 32 dC (fun _ x => In64 x.1 ∧ In64 x.2.1 ∧ In64 x.2.2) :=
  (row1_struct Try.underlying32 (by kernel_rfl) (fields_cons (k := 2) (row1_id H) rfl (by kernel_rfl) (fields_cons (k := 1) (row1_int Try.underlying3) rfl (by kernel_rfl) (fields_nil _)))).map
    (fun a => (a.1.1, a.1.2, a.2.1)) (fun _ => rfl) (fun _ _ h => ⟨h.1.1, h.1.2, h.2.1⟩)
end Go.Proofs.Ytkhklhipiiehbaa

/- Types of layer 11 as data. -/
namespace Go.Proofs.Ytkhklhipiiehbaa
open Go.ChangeShapes Go.WideShapes Go.ChangeAt Go.RowKit
set_option linter.unusedSimpArgs false
set_option linter.unusedVariables false

def GnOk (_ : World) (x : Gn) : Prop := In64 x.1.1 ∧ In64 x.1.2.1 ∧ In64 x.1.2.2
theorem row1_gone (H : Type) : Row1 H Try.prog 36 gnC GnOk :=
  (row1_struct Try.underlying36 (by kernel_rfl) (fields_cons (k := 3) (row1_dart H) rfl (by kernel_rfl) (fields_cons (k := 3) (row1_dart H) rfl (by kernel_rfl) (fields_nil _)))).map
    (fun a => (a.1, a.2.1)) (fun _ => rfl) (fun _ _ h => h.1)
end Go.Proofs.Ytkhklhipiiehbaa

/- 'AnchorAdds' answers true for every row of darts that are gone.
   No condition beyond the row's own. -/
namespace Go.Proofs.Ytkhklhipiiehbaa
open Go.ChangeShapes Go.WideShapes Go.ChangeAt Go.RowKit
namespace lawAnchorAdds

set_option maxRecDepth 100000 in
theorem contract (H : Type) (enc : TypeId × Value → H) (W : World) (base : Nat) (args : Array Value) (ds gs : List (DataW H)) (before : List MemPlace)
    (hval : ∀ (j : Nat) t v, Try.f4.params[j]? = some t → args[j]? = some v → Value.okWide Try.prog W .any base t v)
    (hW : DataW.Whole enc Try.prog Try.f4.params.toList Rows.anchorAddsSpec.vars false W args.toList ds gs before) :
    Calls Try.prog 4 args W fun e W' => ∃ v, e = .returned v ∧ Rows.anchorAddsSpec.post enc Try.prog Try.f4 false true false false W args v W' := by
  have hW' := hW
  obtain ⟨p, q, hA, hV, rfl, hfz, hnd⟩ := hW
  obtain ⟨rfl, rfl⟩ := trodVars_none hV
  rw [Try.params4] at hA hval
  obtain ⟨v0, d0, rfl, rfl, h0⟩ := trodAll_one hA
  obtain ⟨s, rfl, hx0⟩ := open_row1_slice (row1_gone H) Try.underlying26 (by kernel_rfl) gnC_len (by decide) (hval 0 26 v0 rfl rfl) h0
  refine (law_adds s.1 s.2.1 s.2.2.1 s.2.2.2 W hx0.2.1 (Nat.le_trans hx0.2.1.le hx0.1)).mono fun e W' ⟨he, hb⟩ => ⟨_, he, ?_⟩
  exact law_post Try.laidOut (by kernel_rfl) (tb := 4) (by kernel_rfl) Try.underlying4 rfl ⟨rfl, rfl, rfl⟩ hW' hb

set_option maxRecDepth 100000 in
theorem lifted (os : Os) (started : os.Started) (H : Type) (enc : TypeId × Value → H) :
    ReturnsInHanded {} Try.checked os 4 .any (Rows.anchorAddsSpec.pre6 enc Try.prog Try.f4 Rows.anchorAddsRow.domain false) (Rows.anchorAddsSpec.post enc Try.prog Try.f4 false true false false) := by
  refine returnsInHanded_of_change (C := Try.checked) Try.own started (by kernel_rfl) Try.func4
    (ChangeSpec.witness6 (enc := enc) (C := Try.checked) false ⟨#[], #[.slice none 0 0], []⟩ 8 (by kernel_rfl) (by kernel_rfl) (by kernel_rfl) (by kernel_rfl)) ?_
  intro W base args ds gs before hval hW _ _
  exact contract H enc W base args ds gs before hval hW

theorem proved : Rows.AnchorAddsSaid :=
  OpenClaim.holds_of_wide 4 Try.f4 rfl rfl rfl rfl rfl rfl rfl ⟨rfl, rfl, rfl, rfl, rfl⟩ rfl rfl rfl rfl rfl (by kernel_rfl) Try.func4 (by kernel_rfl)
    (of_decide_eq_true (by kernel_rfl)) (by unfold Func.isWrapper; first | (rw [if_pos (by decide +kernel)]; kernel_rfl) | (rw [if_neg (by decide +kernel)]; exact ⟨rfl, rfl⟩))
    (fun os started H enc _ => lifted os started H enc)
end lawAnchorAdds
end Go.Proofs.Ytkhklhipiiehbaa
