/- EulerMirror' walk. -/
import Derived.Test.YtpindjknngcccaaEu7n
namespace Go.Proofs.Ytpindjknngcccaa
open Go.RowKit
set_option linter.unusedSimpArgs false
set_option linter.unusedVariables false

def gT (v : VC) : (Int × Int) × List D × ByteArray × Int := vS (mV v)
set_option maxRecDepth 100000 in
set_option maxHeartbeats 4000000 in
theorem law_mirror (A : Option Addr) (n c : Nat) (Vs : List VC) (B : Option Addr) (m k : Nat) (Es : List EC) (w : World) (h : DgIn w A n c Vs B m k Es) (hg : GoodD Vs Es) (hn : n ≤ maxLen) (hm : m ≤ maxLen) :
    Calls Try.prog 9 #[.agg #[.slice A n c, .slice B m k]] w fun e w' => e = .returned (.bool true) ∧ Below w.heap.size w w' := by
  have HW := Lib.hid (fun W hb => few7_step h hg hn hm W hb)
  obtain ⟨Va, gVa⟩ : ∃ z, (Vs.take 26).map few7V = z := ⟨_, rfl⟩
  obtain ⟨Ea, gEa⟩ : ∃ z, Es.take 42 = z := ⟨_, rfl⟩
  rw [gVa, gEa] at HW
  clear h hg hn hm gVa gEa
  go_enter Try.func9, Try.ntmps9
  go_wp2_with fail
  refine (shown07_any _).mono ?_
  rintro e w1 ⟨rfl, hb1⟩
  have D0_2 := Lib.hid ((show Whole (w.alloc (.cells #[.slice A n c, .slice B m k] 25)) (w.heap.size) (25) ([.slice A n c, .slice B m k]) from Whole.new2 (by first | rfl | simp)).bl hb1)
  have Bel_2 := Lib.hid (bel_bl (bel_al (Below.refl _ w) (.cells #[.slice A n c, .slice B m k] 25)) hb1)
  clear hb1
  have LO_D0_3 : RowKit.Hid (w.heap.size ≤ w.heap.size) := Lib.hid (by omega)
  have lw4 : (w1).cell? ⟨w.heap.size, 0, none⟩ = some (.slice A n c) := D0_2.out.cell (i := 0) rfl
  have lw5 : (w1).cell? ⟨w.heap.size, 1, none⟩ = some (.slice B m k) := D0_2.out.cell (i := 1) rfl
  go_wp2_with fail
  clear lw4 lw5
  have LTN_a_D0 : RowKit.Hid (w.heap.size < w1.heap.size) := Lib.hid (D0_2.out).lt
  refine (HW.out _ Bel_2.out).mono ?_
  rintro e w6 ⟨Aa, na, ca, Ba, ma, ka, rfl, hF, hb6⟩
  have Fa := Lib.hid hF
  clear hF
  have D0_7 := Lib.hid (D0_2.out.bl hb6)
  have Bel_7 := Lib.hid (bel_bl Bel_2.out hb6)
  clear D0_2 Bel_2
  clear hb6
  have lw8 : (w6).cell? ⟨w.heap.size, 0, none⟩ = some (.slice A n c) := D0_7.out.cell (i := 0) rfl
  have lw9 : (w6).cell? ⟨w.heap.size, 1, none⟩ = some (.slice B m k) := D0_7.out.cell (i := 1) rfl
  have fr0 := D0_7.out.free 0
  have fr1 := D0_7.out.free 1
  go_upto_region 3 with fail
  clear fr0 fr1 lw8 lw9
  obtain ⟨v10, gv10⟩ : ∃ x, (w6.setCell ⟨w.heap.size, 0, none⟩ (.slice Aa na ca)).setCell ⟨w.heap.size, 1, none⟩ (.slice Ba ma ka) = x := ⟨_, rfl⟩
  have D0_10 : RowKit.Hid (Whole v10 w.heap.size 25 [.slice Aa na ca, .slice Ba ma ka]) := Lib.hid (gv10 ▸ ((D0_7.out.set_ 0 (.slice Aa na ca)).set_ 1 (.slice Ba ma ka)))
  have Bel_10 : RowKit.Hid (Below w.heap.size w v10) := Lib.hid (gv10 ▸ ((Bel_7.out.setCell (p := ⟨w.heap.size, 0, none⟩) (by show w.heap.size ≤ w.heap.size; exact LO_D0_3.out) _).setCell (p := ⟨w.heap.size, 1, none⟩) (by show w.heap.size ≤ w.heap.size; exact LO_D0_3.out) _))
  have Da_10 : RowKit.Hid (DgIn v10 Aa na ca Va Ba ma ka Ea) := Lib.hid (gv10 ▸ Fa.out.put (g := w.heap.size) (by show w.heap.size ≤ w.heap.size; exact LO_D0_3.out) LTN_a_D0.out _ _)
  rw [gv10]
  clear gv10
  clear D0_7 Bel_7
  have Hr0 : RowKit.Hid (∀ x ∈ Va, x.2.1.2.1 ≤ 1000000) := Lib.hid (fun x hx => by have := Fa.out.r30 x hx; omega)
  have HFm := Lib.hid (rform7_any (A := Aa) (n := na) (c := ca) (B := Ba) (m := ma) (k := ka) Hr0.out Fa.out.good)
  have HMa := Lib.hid (may7_any (A := Aa) (n := na) (c := ca) (B := Ba) (m := ma) (k := ka) Hr0.out Fa.out.good)
  have HMb := Lib.hid (rmay7b_any (A := Aa) (n := na) (c := ca) (B := Ba) (m := ma) (k := ka) Hr0.out Fa.out.good)
  have HLn : RowKit.Hid (Va.length = na ∧ Ea.length = ma) := Lib.hid (dg_lens Da_10.out)
  by_cases hfo : formD Va Ea = 0
  · have hf : Formed Va Ea := (form0 Va Ea).1 hfo
    have hgd := Fa.out.good
    have HFq := Lib.hid hf
    have HGd := Lib.hid hgd
    have Hsm := Lib.hid (hf.small Da_10.out)
    have Hlv : RowKit.Hid (Va.length = na) := Lib.hid HLn.out.1
    have Hlw : RowKit.Hid (Ea.length = ma) := Lib.hid HLn.out.2
    have hn24 : na ≤ 24 := Hsm.out.1
    have hm40 : ma ≤ 40 := Hsm.out.2.1
    have HCa := Lib.hid (cnt7_any (A := Aa) (n := na) (c := ca) (B := Ba) (m := ma) (k := ka) hf hgd)
    have HGa := Lib.hid (gen7_any (A := Aa) (n := na) (c := ca) (B := Ba) (m := ma) (k := ka) hf hgd)
    rw [hfo] at HFm
    clear hf hgd
    have lw11 : (v10).cell? ⟨w.heap.size, 0, none⟩ = some (.slice Aa na ca) := D0_10.out.cell (i := 0) rfl
    have lw12 : (v10).cell? ⟨w.heap.size, 1, none⟩ = some (.slice Ba ma ka) := D0_10.out.cell (i := 1) rfl
    go_wp2_with fail
    clear lw11 lw12
    refine (HFm.out _ Da_10.out).mono ?_
    rintro e w13 ⟨rfl, hb13⟩
    have D0_14 := Lib.hid (D0_10.out.bl hb13)
    have Da_14 := Lib.hid (Da_10.out.bl hb13)
    have Bel_14 := Lib.hid (bel_bl Bel_10.out hb13)
    clear D0_10 Da_10 Bel_10
    clear hb13
    clear HFm HMb HLn
    have HCl : RowKit.Hid (∀ W, DgIn W Aa na ca Va Ba ma ka Ea → Calls Try.prog 23 #[.agg #[.slice Aa na ca, .slice Ba ma ka]] W fun e w' => ∃ A' c' B' k' Ws, e = .returned (.agg #[.slice A' na c', .slice B' ma k']) ∧ ClS w' W.heap.size A' na c' Ws B' ma k' Ea ∧ Ws.map vS = Va.map vS ∧ Below W.heap.size W w') := Lib.hid (fun W h => rclone_any Aa na ca Va Ba ma ka Ea W h (by omega) (by omega) Hr0.out)
    have HDd := Lib.hid (Da_14.out)
    have HXd := Lib.hid (D0_14.out)
    have HBd := Lib.hid (Bel_14.out)
    have lw15 : (w13).cell? ⟨w.heap.size, 0, none⟩ = some (.slice Aa na ca) := D0_14.out.cell (i := 0) rfl
    have lw16 : (w13).cell? ⟨w.heap.size, 1, none⟩ = some (.slice Ba ma ka) := D0_14.out.cell (i := 1) rfl
    go_wp2_with fail
    clear lw15 lw16 D0_14 Da_14 Bel_14
    refine (HCl.out _ HDd.out).mono ?_
    rintro e w7 ⟨A2, c2, B2, k2, Us, rfl, hcl, hsm, hb7⟩
    have HM7 := Lib.hid (hcl.wro.al (.cells #[.slice A2 na c2, .slice B2 ma k2] 25))
    have HZ7 := Lib.hid (bel_al hb7 (.cells #[.slice A2 na c2, .slice B2 ma k2] 25))
    have H97 := Lib.hid (Whole.new2 (w := w7) (t := 25) (cs := [.slice A2 na c2, .slice B2 ma k2]) rfl)
    have HU7 : RowKit.Hid (Us.map vS = (Va.take 0).map gT ++ (Va.drop 0).map vS) := Lib.hid (by rw [hsm]; rfl)
    have L9 : RowKit.Hid (w13.heap.size ≤ w7.heap.size) := Lib.hid hb7.size
    clear hcl hsm hb7
    go_wp2
    obtain ⟨wm8, gwm8⟩ : ∃ z, w7.alloc (.cells #[.slice A2 na c2, .slice B2 ma k2] 25) = z := ⟨_, rfl⟩
    obtain ⟨b9, gb9⟩ : ∃ z, w7.heap.size = z := ⟨_, rfl⟩
    rw [gwm8] at HM7 HZ7 H97 ⊢
    rw [gb9] at H97 L9 ⊢
    clear gwm8 gb9 HCl
    obtain ⟨i0, hi, hz0, hz1, hz2⟩ := info_partsD info_dartD
    go_loopw [5] (fun si wr => ∃ (j : Nat) (Us : List VC), j ≤ na ∧ si = .int .i64 j ∧ RowKit.Hid (Below w13.heap.size w13 wr) ∧ RowKit.Hid (Whole wr b9 25 [.slice A2 na c2, .slice B2 ma k2]) ∧ RowKit.Hid (Wro wr w13.heap.size A2 na c2 Us B2 ma k2 Ea) ∧ RowKit.Hid (Us.map vS = (Va.take j).map gT ++ (Va.drop j).map vS)) (fun si _ => na - (intOf si).toNat)
    case atStart => exact ⟨0, Us, by omega, rfl, HZ7, H97, HM7, HU7⟩
    case round =>
      clear HZ7 H97 HM7 HU7
      obtain ⟨j, Us, hj, rfl, HZ, H9, HM, HU⟩ := hrel
      obtain ⟨wo, gwo⟩ : ∃ z, wr = z := ⟨_, rfl⟩
      rw [gwo] at HZ H9 HM ⊢
      clear gwo
      have cb := H9.out.cell (i := 0) rfl
      by_cases hjn : j < na
      · obtain ⟨v, hv⟩ : ∃ v, Va[j]? = some v := ⟨_, List.getElem?_eq_getElem (by have := Hlv.out; omega)⟩
        obtain ⟨u, hu, huv⟩ : ∃ u, Us[j]? = some u ∧ vS u = vS v := by
          have h1 : (Us.map vS)[j]? = some (vS v) := by
            rw [HU.out, List.getElem?_append_right (by simp; omega)]
            simp only [List.length_map, List.length_take]
            rw [show j - min j Va.length = 0 by have := Hlv.out; omega, List.getElem?_map, List.getElem?_drop, Nat.add_zero, hv]
            rfl
          rw [List.getElem?_map] at h1
          cases hq : Us[j]? with
          | none => rw [hq] at h1; cases h1
          | some y => rw [hq] at h1; exact ⟨y, rfl, Option.some.inj h1⟩
        have hul : u.2.1.2.2.2 = v.2.1.2.2.2 := congrArg (fun s : (Int × Int) × List D × ByteArray × Int => s.2.1) huv
        have hrn : u.2.1.2.1 ≤ 80 := by
          have h1 := (HDd.out.r v (List.mem_of_getElem? hv)).2.dlen
          have h2 := Hsm.out.2.2 v (List.mem_of_getElem? hv)
          have h3 := (HM.out.r u (List.mem_of_getElem? hu)).2.dlen
          rw [hul] at h3
          omega
        have hset : ∀ (A9 : Option Addr) (c9 : Nat), (Us.set j ((u.1, (A9, (bkL u.2.1.2.2.2).length, c9, bkL u.2.1.2.2.2), u.2.2))).map vS = (Va.take (j + 1)).map gT ++ (Va.drop (j + 1)).map vS := fun A9 c9 => by
          rw [List.map_set, HU.out]
          have e : vS ((u.1, (A9, (bkL u.2.1.2.2.2).length, c9, bkL u.2.1.2.2.2), u.2.2)) = gT v := by
            have e1 : u.1 = v.1 := congrArg (fun s : (Int × Int) × List D × ByteArray × Int => s.1) huv
            have e4 : u.2.2.2 = v.2.2.2 := congrArg (fun s : (Int × Int) × List D × ByteArray × Int => s.2.2.2) huv
            have e3 : u.2.2.1 = v.2.2.1 := congrArg (fun s : (Int × Int) × List D × ByteArray × Int => s.2.2.1) huv
            show (u.1, bkL u.2.1.2.2.2, u.2.2.1, u.2.2.2) = _
            rw [e1, hul, e3, e4]
            rfl
          rw [e]
          exact half_set gT vS hv
        obtain ⟨⟨i1, i2⟩, ⟨rA, rn, rc, rL⟩, lb, at_⟩ := u
        have HSet : RowKit.Hid (∀ (A9 : Option Addr) (c9 : Nat), (Us.set j (((i1, i2), (A9, (bkL rL).length, c9, bkL rL), lb, at_))).map vS = (Va.take (j + 1)).map gT ++ (Va.drop (j + 1)).map vS) := Lib.hid hset
        replace hrn : rn ≤ 80 := hrn
        have hRu := HM.out.r _ (List.mem_of_getElem? hu)
        obtain ⟨gm, eA2, hlo, -, hc, hf, -⟩ := HM.out.put hu hjn (rA, rn, rc, rL) hRu
        subst eA2
        replace hc : wo.cell? ⟨gm, j * 5 + 2, none⟩ = some (.slice rA rn rc) := hc
        have HRu : RowKit.Hid (RdS wo wo.heap.size 3 rA rn rc (dartsV rL)) := Lib.hid hRu.2
        have Hrl : RowKit.Hid (rL.length = rn) := Lib.hid hRu.2.dlen
        have Hu := Lib.hid hu
        have HO0 : RowKit.Hid (Ow wo wo.heap.size 39 3 (.slice (some ⟨wo.heap.size, 0, none⟩) 0 0) (rn - rn) (dartsV (rL.drop rn).reverse) (wo.alloc (.cells #[] 39))) := by
          rw [Nat.sub_self, List.drop_eq_nil_of_le (by have := Hrl.out; omega)]
          exact Lib.hid (Ow.new_ (cs := #[]) (Below.refl _ _) (Nat.le_refl _) (Nat.le_refl _) (Nat.zero_le _) rfl)
        have hw1 : IntKind.i64.wrap ((rn : Int) - 1) = (rn : Int) - 1 := IntWalk.i64_in _ (by omega)
        clear hv hu huv hul hset hRu hf HU
        go_wp2
        clear cb hc
        go_loopw [7, 8] (fun sb sk wr => ∃ p : Nat, p ≤ rn ∧ sk = .int .i64 ((p : Int) - 1) ∧ RowKit.Hid (Ow wo wo.heap.size 39 3 sb (rn - p) (dartsV (rL.drop p).reverse) wr)) (fun _ sk _ => (intOf sk + 1).toNat)
        case atStart => exact ⟨rn, Nat.le_refl _, rfl, HO0⟩
        case round =>
          clear HO0 hw1
          obtain ⟨p, hp, rfl, HO⟩ := hrel
          cases p with
          | succ q =>
            rw [show (((q + 1 : Nat) : Int) - 1) = (q : Int) by omega]
            obtain ⟨b, of2, rfl, hb, hcc⟩ := (HRu.out.up HO.out.below HO.out.below.size).darts (by omega)
            have hql : q < rL.length := by have := Hrl.out; omega
            obtain ⟨d1, d2, d3⟩ := hcc q hql
            obtain ⟨x, gx⟩ : ∃ v, rL.getD q (0, 0, 0) = v := ⟨_, rfl⟩
            have gx2 : rL[q]? = some x := by rw [← gx, List.getD_eq_getElem?_getD, List.getElem?_eq_getElem hql]; rfl
            rw [gx] at d1 d2 d3
            have HBk := Lib.hid (back_step gx2)
            have hq0 : decide ((0 : Int) ≤ (q : Int)) = true := decide_eq_true (by omega)
            have hq1 : IntKind.i64.wrap ((q : Int) - 1) = (q : Int) - 1 := IntWalk.i64_in _ (by omega)
            have hqn : q < rn := by omega
            clear hb hcc gx gx2 hql
            go_wp2_with (first
              | (at_builtin
                 refine wpList_push rfl (.tmp 47) (.tmp 52) _ rfl _ 39 i0 _ 3 24 Try.underlying40 hi hz0 hz1 hz2 rfl (by decide) _ _ _ rfl (by exact HO.out.up (below1 _ _)) _ (some ⟨wr.heap.size, 0, none⟩) 1 1 (dartsV [x]) rfl (by exact RdS.whole3 (L := [x]) (Whole.new_ _ _ _)) (dartsV_one [x]) (by unfold maxLen; omega) (by omega) ?_
                 intro v1 w1 how1 hb1
                 have HO1 := Lib.hid how1
                 clear how1 hb1))
            go_roundw
            case rel =>
              refine ⟨q, by omega, by go_num, ?_⟩
              rw [HBk.out, dartsV_app, show rn - q = rn - (q + 1) + 1 by omega]
              exact HO1
            case measure => simp [intOf] <;> omega
          | zero =>
            have hq0 : decide ((0 : Int) ≤ ((0 : Nat) : Int) - 1) = false := by decide
            rw [show (((0 : Nat) : Int) - 1) = (-1 : Int) from rfl]
            obtain ⟨Ab, cb9, rfl, hrb⟩ := HO.out.rds
            rw [List.drop_zero, Nat.sub_zero] at hrb
            have HRb := Lib.hid hrb
            have HBl := Lib.hid HO.out.below
            have HRm : RowKit.Hid (∀ W, RdS W W.heap.size 3 Ab rn cb9 (dartsV rL.reverse) → Calls Try.prog 29 #[.slice Ab rn cb9] W (GivesC W (bkL rL))) := Lib.hid (fun W h => rfturnc_any Ab rn cb9 rL.reverse W h (by omega))
            have HM1 := Lib.hid (HM.out.bl HO.out.below)
            have H91 := Lib.hid (H9.out.bl HO.out.below)
            have HZ1 := Lib.hid (bel_bl HZ.out HO.out.below)
            obtain ⟨L9, gL9⟩ : ∃ z, bkL rL = z := ⟨_, rfl⟩
            rw [gL9] at HRm HSet
            obtain ⟨wq, gwq⟩ : ∃ z, wr = z := ⟨_, rfl⟩
            rw [gwq] at HRb HM1 H91 HZ1 ⊢
            clear hrb HO gL9 gwq HBl
            go_upto_region 15 with fail
            have ld0 : ∀ w', Kept Nil_ wq.drew w' → w'.cell? ⟨b9, 0, none⟩ = some (.slice (some ⟨gm, 0, none⟩) na c2) := fun w' h => h.nil_cell (H91.out.dr.cell (i := 0) rfl)
            have HRq := Lib.hid HRb.out.dr
            refine wp_region_tail (Nil_) [7] (by kernel_rfl) ?_
            apply wpT_next 0 (some 54) (by kernel_rfl)
            · simp only [List.getElem?_toArray, List.getElem?_cons_succ, List.getElem?_cons_zero]; exact rfl
            · rfl
            · kernel_rfl
            · kernel_rfl
            · kernel_rfl
            · exact fun _ _ _ _ h => h
            apply Exists.intro
            apply And.intro
            · apply yr_run; rfl; intro w' hw'; go_simp; (try with_reducible rfl)
            simp only [Act.put, List.setIfInBounds_toArray, List.set_cons_zero, List.set_cons_succ]
            apply wpT_next 1 (some 55) (by kernel_rfl)
            · simp only [List.getElem?_toArray, List.getElem?_cons_succ, List.getElem?_cons_zero]; exact rfl
            · rfl
            · kernel_rfl
            · kernel_rfl
            · kernel_rfl
            · exact fun _ _ _ _ h => h
            apply Exists.intro
            apply And.intro
            · apply yr_run; rfl; intro w' hw'; go_simp; (try with_reducible rfl)
            simp only [Act.put, List.setIfInBounds_toArray, List.set_cons_zero, List.set_cons_succ]
            apply wpT_next 2 (some 56) (by kernel_rfl)
            · simp only [List.getElem?_toArray, List.getElem?_cons_succ, List.getElem?_cons_zero]; exact rfl
            · rfl
            · kernel_rfl
            · kernel_rfl
            · kernel_rfl
            · exact fun _ _ _ _ h => h
            apply Exists.intro
            apply And.intro
            · apply yr_run; rfl; intro w' hw'; go_simp; (try with_reducible rfl)
            simp only [Act.put, List.setIfInBounds_toArray, List.set_cons_zero, List.set_cons_succ]
            apply wpT_next 3 (some 57) (by kernel_rfl)
            · simp only [List.getElem?_toArray, List.getElem?_cons_succ, List.getElem?_cons_zero]; exact rfl
            · rfl
            · kernel_rfl
            · kernel_rfl
            · kernel_rfl
            · exact fun _ _ _ _ h => h
            apply Exists.intro
            apply And.intro
            · apply yr_run; rfl; intro w' hw'; go_simp; (try with_reducible rfl)
            simp only [Act.put, List.setIfInBounds_toArray, List.set_cons_zero, List.set_cons_succ]
            apply wpT_call 4 (some 58)
            · simp only [List.getElem?_toArray, List.getElem?_cons_succ, List.getElem?_cons_zero]; exact rfl
            · rfl
            · kernel_rfl
            · rfl
            · intro w'; go_simp; first | done | exact ⟨rfl, rfl⟩ | with_reducible rfl
            intro w' hw'
            refine (HRm.out w' (HRq.out.bl hw')).mono ?_
            rintro e w9 ⟨A9, c9, rfl, hr9, hb9, hc9⟩
            refine ⟨_, rfl, Kept.of_below hb9, ?_⟩
            have H99 := Lib.hid ((H91.out.dr.bl hw').bl hb9)
            have HM9 := Lib.hid ((HM1.out.dr.bl hw').bl hb9)
            have HZ9 := Lib.hid (bel_bl (bel_bl (bel_dr HZ1.out) hw') hb9)
            have HR9 : RowKit.Hid (RgOk w9 (A9, L9.length, c9, L9)) := Lib.hid ⟨hc9, hr9⟩
            obtain ⟨V9, gV9⟩ : ∃ z, w9 = z := ⟨_, rfl⟩
            rw [gV9] at H99 HM9 HZ9 HR9 ⊢
            clear hw' hr9 hb9 hc9 gV9 ld0 HRm HRq H91 HM1 HZ1 HRb
            simp only [Act.put, List.setIfInBounds_toArray, List.set_cons_zero, List.set_cons_succ]
            apply wpT_run 5 (some 59)
            · simp only [List.getElem?_toArray, List.getElem?_cons_succ, List.getElem?_cons_zero]; exact rfl
            · rfl
            · kernel_rfl
            · rfl
            intro w' hw'
            apply Exists.intro
            apply Exists.intro
            apply And.intro
            · go_simp; first | done | exact ⟨rfl, rfl⟩ | exact rfl
            apply And.intro
            · exact Kept.refl _ _
            have hpd5 := hw'
            clear hw'
            simp only [Act.put, List.setIfInBounds_toArray, List.set_cons_zero, List.set_cons_succ]
            apply wpT_next 6 (some 60) (by kernel_rfl)
            · simp only [List.getElem?_toArray, List.getElem?_cons_succ, List.getElem?_cons_zero]; exact rfl
            · rfl
            · kernel_rfl
            · kernel_rfl
            · kernel_rfl
            · exact fun _ _ _ _ h => h
            apply Exists.intro
            apply And.intro
            · apply yr_run; rfl; intro w' hw'; go_simp; (try with_reducible rfl)
            simp only [Act.put, List.setIfInBounds_toArray, List.set_cons_zero, List.set_cons_succ]
            apply wpT_last 7
            · simp only [List.getElem?_toArray, List.getElem?_cons_succ, List.getElem?_cons_zero]; exact rfl
            · rfl
            · kernel_rfl
            · rfl
            · decide
            intro w' hw'
            replace hw' := Ext.trans hpd5 hw'
            clear hpd5
            obtain ⟨gq, eq, hloq, ⟨csq, hwq⟩, hcq, hfq, hMq⟩ := (HM9.out.bl hw').put Hu.out hjn (A9, L9.length, c9, L9) (HR9.out.bl hw')
            obtain rfl : gm = gq := by
              injection eq with eq
              injection eq
            replace hcq : w'.cell? ⟨gm, j * 5 + 2, none⟩ = some (.slice rA rn rc) := hcq
            refine ⟨w'.setCell ⟨gm, j * 5 + 2, none⟩ (.slice A9 L9.length c9), by (go_simp; first | done | exact rfl | exact ⟨rfl, rfl⟩), ?_⟩
            have HMs : RowKit.Hid (Wro (w'.setCell ⟨gm, j * 5 + 2, none⟩ (.slice A9 L9.length c9)) w13.heap.size (some ⟨gm, 0, none⟩) na c2 (Us.set j ((i1, i2), (A9, L9.length, c9, L9), lb, at_)) B2 ma k2 Ea) := Lib.hid hMq
            have H9s := Lib.hid ((H99.out.bl hw').set_far' (i := j * 5 + 2) ((H99.out.bl hw').ne_ hwq (by decide)) (.slice A9 L9.length c9))
            have HZs := Lib.hid ((bel_bl HZ9.out hw').setCell (p := ⟨gm, j * 5 + 2, none⟩) hlo (.slice A9 L9.length c9))
            obtain ⟨W7, gW7⟩ : ∃ z, w'.setCell ⟨gm, j * 5 + 2, none⟩ (.slice A9 L9.length c9) = z := ⟨_, rfl⟩
            rw [gW7] at HMs H9s HZs ⊢
            clear hw' eq hloq hwq hcq hfq hMq gW7 H99 HM9 HZ9 HR9
            try simp only [Act.put, List.setIfInBounds_toArray, List.set_cons_zero, List.set_cons_succ]
            refine wpT_done (by kernel_rfl) ?_ _
            intro W8 hw8
            have HM8 := Lib.hid (HMs.out.bl hw8)
            have H98 := Lib.hid (H9s.out.bl hw8)
            have HZ8 := Lib.hid (bel_bl HZs.out hw8)
            clear hw8 HMs H9s HZs
            have cb := H98.out.cell (i := 0) rfl
            go_wp2
            go_roundw
            case rel => exact ⟨j + 1, _, by omega, by go_num, HZ8, H98, HM8, Lib.hid (HSet.out _ _)⟩
            case measure => simp [intOf] <;> omega
      · obtain rfl : na = j := by omega
        clear cb
        have hUs : Us.map vS = Va.map gT := by
          rw [HU.out, List.take_of_length_le (by have := Hlv.out; omega), List.drop_eq_nil_of_le (by have := Hlv.out; omega)]
          simp
        have hUm : Us.map vS = (Va.map mV).map vS := by rw [hUs, List.map_map]; rfl
        have hmem : ∀ u ∈ Us, ∃ v ∈ Va, vS u = gT v := fun u hu => by
          have h1 : vS u ∈ Va.map gT := hUs ▸ List.mem_map.2 ⟨u, hu, rfl⟩
          obtain ⟨v, hv, e⟩ := List.mem_map.1 h1
          exact ⟨v, hv, e.symm⟩
        have hgU : GoodD Us Ea := ⟨fun u hu d hd => by
            obtain ⟨v, hv, e⟩ := hmem u hu
            have e1 : u.2.1.2.2.2 = bkL v.2.1.2.2.2 := congrArg (fun s : (Int × Int) × List D × ByteArray × Int => s.2.1) e
            rw [e1, bkL_mem] at hd
            exact HGd.out.v v hv d hd, HGd.out.e, fun u hu => by
            obtain ⟨v, hv, e⟩ := hmem u hu
            have e1 : u.2.2.1 = v.2.2.1 := congrArg (fun s : (Int × Int) × List D × ByteArray × Int => s.2.2.1) e
            rw [e1]
            exact HGd.out.lv v hv, HGd.out.le⟩
        obtain ⟨hfU, m1, m2, m3, m4, m5⟩ := mir_nums HFq.out hUm
        have hrU : ∀ x ∈ Us, x.2.1.2.1 ≤ 1000000 := fun x hx => by have := (hfU.small HM.out.dg).2.2 x hx; omega
        have HCb := Lib.hid (cnt7_any (A := A2) (n := na) (c := c2) (B := B2) (m := ma) (k := k2) hfU hgU)
        have HGb := Lib.hid (gen7_any (A := A2) (n := na) (c := c2) (B := B2) (m := ma) (k := k2) hfU hgU)
        have HMb := Lib.hid (may7_any (A := A2) (n := na) (c := c2) (B := B2) (m := ma) (k := k2) hrU hgU)
        rw [m1, m2, m3] at HCb
        rw [m4] at HGb
        rw [m5] at HMb
        have HDm := Lib.hid HM.out.dg
        have HDz := Lib.hid (HDd.out.bl HZ.out)
        have HXz := Lib.hid (HXd.out.bl HZ.out)
        clear hUs hUm hfU hmem hgU m1 m2 m3 m4 m5 hrU HU HM HFq
        obtain ⟨ff, gff⟩ : ∃ z, facN Va Ea + aloneN Va = z := ⟨_, rfl⟩
        obtain ⟨cc, gcc⟩ : ∃ z, cntF (labF Va) = z := ⟨_, rfl⟩
        obtain ⟨gg, ggg⟩ : ∃ z, genF Va Ea = z := ⟨_, rfl⟩
        obtain ⟨my, gmy⟩ : ∃ z, mayF7 Va Ea = z := ⟨_, rfl⟩
        rw [gff, gcc] at HCa HCb
        rw [ggg] at HGa HGb
        rw [gmy] at HMa HMb
        have t1 : ((na : Int) == (na : Int)) = true := by simp
        have t2 : ((ma : Int) == (ma : Int)) = true := by simp
        have t3 : ((ff : Int) == (ff : Int)) = true := by simp
        have t4 : ((cc : Int) == (cc : Int)) = true := by simp
        have t5 : (gg == gg) = true := by simp
        have t6 : (my == my) = true := by simp
        clear gff gcc ggg gmy
        have cb := H9.out.cell (i := 0) rfl
        have lw911 : (wo).cell? ⟨w.heap.size, 0, none⟩ = some (.slice Aa na ca) := HXz.out.cell (i := 0) rfl
        have lw912 : (wo).cell? ⟨w.heap.size, 1, none⟩ = some (.slice Ba ma ka) := HXz.out.cell (i := 1) rfl
        go_wp2_with fail
        clear lw911 lw912
        refine (HCa.out _ HDz.out).mono ?_
        rintro e w913 ⟨rfl, hb913⟩
        have Da_914 := Lib.hid (HDz.out.bl hb913)
        have Dm_914 := Lib.hid (HDm.out.bl hb913)
        have D0_914 := Lib.hid (HXz.out.bl hb913)
        have M9_914 := Lib.hid (H9.out.bl hb913)
        have Bel_914 := Lib.hid (bel_bl HZ.out hb913)
        clear HDz HDm HXz H9 HZ
        clear hb913
        clear cb
        have lw915 : (w913).cell? ⟨b9, 0, none⟩ = some (.slice A2 na c2) := M9_914.out.cell (i := 0) rfl
        have lw916 : (w913).cell? ⟨b9, 1, none⟩ = some (.slice B2 ma k2) := M9_914.out.cell (i := 1) rfl
        go_wp2_with fail
        clear lw915 lw916
        refine (HCb.out _ Dm_914.out).mono ?_
        rintro e w917 ⟨rfl, hb917⟩
        have Da_918 := Lib.hid (Da_914.out.bl hb917)
        have Dm_918 := Lib.hid (Dm_914.out.bl hb917)
        have D0_918 := Lib.hid (D0_914.out.bl hb917)
        have M9_918 := Lib.hid (M9_914.out.bl hb917)
        have Bel_918 := Lib.hid (bel_bl Bel_914.out hb917)
        clear Da_914 Dm_914 D0_914 M9_914 Bel_914
        clear hb917
        go_upto_region 18 with fail
        have Da_919 := Lib.hid (Da_918.out.dr)
        have Dm_919 := Lib.hid (Dm_918.out.dr)
        have D0_919 := Lib.hid (D0_918.out.dr)
        have M9_919 := Lib.hid (M9_918.out.dr)
        have Bel_919 := Lib.hid (bel_dr Bel_918.out)
        have ld920 : ∀ w', Kept Nil_ w917.drew w' → w'.cell? ⟨w.heap.size, 0, none⟩ = some (.slice Aa na ca) := fun w' h => h.nil_cell (D0_919.out.cell (i := 0) rfl)
        have ld921 : ∀ w', Kept Nil_ w917.drew w' → w'.cell? ⟨w.heap.size, 1, none⟩ = some (.slice Ba ma ka) := fun w' h => h.nil_cell (D0_919.out.cell (i := 1) rfl)
        have ld922 : ∀ w', Kept Nil_ w917.drew w' → w'.cell? ⟨b9, 0, none⟩ = some (.slice A2 na c2) := fun w' h => h.nil_cell (M9_919.out.cell (i := 0) rfl)
        have ld923 : ∀ w', Kept Nil_ w917.drew w' → w'.cell? ⟨b9, 1, none⟩ = some (.slice B2 ma k2) := fun w' h => h.nil_cell (M9_919.out.cell (i := 1) rfl)
        refine wp_region_reg Nil_ (by kernel_rfl) ?_
        apply wpR_next 0 (some 75)
        · simp only [List.getElem?_toArray, List.getElem?_cons_succ, List.getElem?_cons_zero]; exact rfl
        · rfl
        · kernel_rfl
        · kernel_rfl
        · kernel_rfl
        · exact fun _ _ _ _ h => h
        apply Exists.intro
        apply And.intro
        · apply yr_run; rfl; intro w' hw'; go_simp; (try with_reducible rfl)
        simp only [Act.put, List.setIfInBounds_toArray, List.set_cons_zero, List.set_cons_succ]
        apply wpR_next 1 (some 76)
        · simp only [List.getElem?_toArray, List.getElem?_cons_succ, List.getElem?_cons_zero]; exact rfl
        · rfl
        · kernel_rfl
        · kernel_rfl
        · kernel_rfl
        · exact fun _ _ _ _ h => h
        apply Exists.intro
        apply And.intro
        · apply yr_run; rfl; intro w' hw'; go_simp; (try with_reducible rfl)
        simp only [Act.put, List.setIfInBounds_toArray, List.set_cons_zero, List.set_cons_succ]
        apply wpR_next 2 (some 77)
        · simp only [List.getElem?_toArray, List.getElem?_cons_succ, List.getElem?_cons_zero]; exact rfl
        · rfl
        · kernel_rfl
        · kernel_rfl
        · kernel_rfl
        · exact fun _ _ _ _ h => h
        apply Exists.intro
        apply And.intro
        · apply yr_run; rfl; intro w' hw'; go_simp; (try with_reducible rfl)
        simp only [Act.put, List.setIfInBounds_toArray, List.set_cons_zero, List.set_cons_succ]
        apply wpR_next 3 (some 78)
        · simp only [List.getElem?_toArray, List.getElem?_cons_succ, List.getElem?_cons_zero]; exact rfl
        · rfl
        · kernel_rfl
        · kernel_rfl
        · kernel_rfl
        · exact fun _ _ _ _ h => h
        apply Exists.intro
        apply And.intro
        · apply yr_run; rfl; intro w' hw'; go_simp; (try with_reducible rfl)
        simp only [Act.put, List.setIfInBounds_toArray, List.set_cons_zero, List.set_cons_succ]
        apply wpR_next 4 (some 79)
        · simp only [List.getElem?_toArray, List.getElem?_cons_succ, List.getElem?_cons_zero]; exact rfl
        · rfl
        · kernel_rfl
        · kernel_rfl
        · kernel_rfl
        · exact fun _ _ _ _ h => h
        apply Exists.intro
        apply And.intro
        · apply yr_run; rfl; intro w' hw'; go_simp; (try with_reducible rfl)
        simp only [Act.put, List.setIfInBounds_toArray, List.set_cons_zero, List.set_cons_succ]
        apply wpR_next 5 (some 80)
        · simp only [List.getElem?_toArray, List.getElem?_cons_succ, List.getElem?_cons_zero]; exact rfl
        · rfl
        · kernel_rfl
        · kernel_rfl
        · kernel_rfl
        · exact fun _ _ _ _ h => h
        apply Exists.intro
        apply And.intro
        · apply yr_run; rfl; intro w' hw'; go_simp; (try with_reducible rfl)
        simp only [Act.put, List.setIfInBounds_toArray, List.set_cons_zero, List.set_cons_succ]
        apply wpR_next 6 (some 81)
        · simp only [List.getElem?_toArray, List.getElem?_cons_succ, List.getElem?_cons_zero]; exact rfl
        · rfl
        · kernel_rfl
        · kernel_rfl
        · kernel_rfl
        · exact fun _ _ _ _ h => h
        apply Exists.intro
        apply And.intro
        · apply yr_run; rfl; intro w' hw'; go_simp; (try with_reducible rfl)
        simp only [Act.put, List.setIfInBounds_toArray, List.set_cons_zero, List.set_cons_succ]
        apply wpR_next 7 (some 82)
        · simp only [List.getElem?_toArray, List.getElem?_cons_succ, List.getElem?_cons_zero]; exact rfl
        · rfl
        · kernel_rfl
        · kernel_rfl
        · kernel_rfl
        · exact fun _ _ _ _ h => h
        apply Exists.intro
        apply And.intro
        · apply yr_run; rfl; intro w' hw'; go_simp; (try with_reducible rfl)
        simp only [Act.put, List.setIfInBounds_toArray, List.set_cons_zero, List.set_cons_succ]
        apply wpR_next 8 (some 83)
        · simp only [List.getElem?_toArray, List.getElem?_cons_succ, List.getElem?_cons_zero]; exact rfl
        · rfl
        · kernel_rfl
        · kernel_rfl
        · kernel_rfl
        · exact fun _ _ _ _ h => h
        apply Exists.intro
        apply And.intro
        · apply yr_run; rfl; intro w' hw'; go_simp; (try with_reducible rfl)
        simp only [Act.put, List.setIfInBounds_toArray, List.set_cons_zero, List.set_cons_succ]
        apply wpR_next 9 (some 84)
        · simp only [List.getElem?_toArray, List.getElem?_cons_succ, List.getElem?_cons_zero]; exact rfl
        · rfl
        · kernel_rfl
        · kernel_rfl
        · kernel_rfl
        · exact fun _ _ _ _ h => h
        apply Exists.intro
        apply And.intro
        · apply yr_run; rfl; intro w' hw'; go_simp; (try with_reducible rfl)
        simp only [Act.put, List.setIfInBounds_toArray, List.set_cons_zero, List.set_cons_succ]
        apply wpR_next 10 (some 85)
        · simp only [List.getElem?_toArray, List.getElem?_cons_succ, List.getElem?_cons_zero]; exact rfl
        · rfl
        · kernel_rfl
        · kernel_rfl
        · kernel_rfl
        · exact fun _ _ _ _ h => h
        apply Exists.intro
        apply And.intro
        · apply yr_run; rfl; intro w' hw'; go_simp; (try with_reducible rfl)
        simp only [Act.put, List.setIfInBounds_toArray, List.set_cons_zero, List.set_cons_succ]
        apply wpR_next 11 (some 86)
        · simp only [List.getElem?_toArray, List.getElem?_cons_succ, List.getElem?_cons_zero]; exact rfl
        · rfl
        · kernel_rfl
        · kernel_rfl
        · kernel_rfl
        · exact fun _ _ _ _ h => h
        apply Exists.intro
        apply And.intro
        · apply yr_run; rfl; intro w' hw'; go_simp; (try with_reducible rfl)
        simp only [Act.put, List.setIfInBounds_toArray, List.set_cons_zero, List.set_cons_succ]
        apply wpR_next 12 (some 87)
        · simp only [List.getElem?_toArray, List.getElem?_cons_succ, List.getElem?_cons_zero]; exact rfl
        · rfl
        · kernel_rfl
        · kernel_rfl
        · kernel_rfl
        · exact fun _ _ _ _ h => h
        apply Exists.intro
        apply And.intro
        · apply yr_run; rfl; intro w' hw'; go_simp; (try with_reducible rfl)
        simp only [Act.put, List.setIfInBounds_toArray, List.set_cons_zero, List.set_cons_succ]
        apply wpR_next 13 (some 88)
        · simp only [List.getElem?_toArray, List.getElem?_cons_succ, List.getElem?_cons_zero]; exact rfl
        · rfl
        · kernel_rfl
        · kernel_rfl
        · kernel_rfl
        · exact fun _ _ _ _ h => h
        apply Exists.intro
        apply And.intro
        · apply yr_run; rfl; intro w' hw'; go_simp; (try with_reducible rfl)
        simp only [Act.put, List.setIfInBounds_toArray, List.set_cons_zero, List.set_cons_succ]
        apply wpR_next 14 (some 89)
        · simp only [List.getElem?_toArray, List.getElem?_cons_succ, List.getElem?_cons_zero]; exact rfl
        · rfl
        · kernel_rfl
        · kernel_rfl
        · kernel_rfl
        · exact fun _ _ _ _ h => h
        apply Exists.intro
        apply And.intro
        · apply yr_run; rfl; intro w' hw'; go_simp; (try with_reducible rfl)
        simp only [Act.put, List.setIfInBounds_toArray, List.set_cons_zero, List.set_cons_succ]
        apply wpR_next 15 (some 90)
        · simp only [List.getElem?_toArray, List.getElem?_cons_succ, List.getElem?_cons_zero]; exact rfl
        · rfl
        · kernel_rfl
        · kernel_rfl
        · kernel_rfl
        · exact fun _ _ _ _ h => h
        apply Exists.intro
        apply And.intro
        · apply yr_run; rfl; intro w' hw'; go_simp; (try with_reducible rfl)
        simp only [Act.put, List.setIfInBounds_toArray, List.set_cons_zero, List.set_cons_succ]
        apply wpR_next 16 (some 91)
        · simp only [List.getElem?_toArray, List.getElem?_cons_succ, List.getElem?_cons_zero]; exact rfl
        · rfl
        · kernel_rfl
        · kernel_rfl
        · kernel_rfl
        · exact fun _ _ _ _ h => h
        apply Exists.intro
        apply And.intro
        · apply yr_run; rfl; intro w' hw'; go_simp; (try with_reducible rfl)
        simp only [Act.put, List.setIfInBounds_toArray, List.set_cons_zero, List.set_cons_succ]
        apply wpR_next 17 (some 92)
        · simp only [List.getElem?_toArray, List.getElem?_cons_succ, List.getElem?_cons_zero]; exact rfl
        · rfl
        · kernel_rfl
        · kernel_rfl
        · kernel_rfl
        · exact fun _ _ _ _ h => h
        apply Exists.intro
        apply And.intro
        · apply yr_run; rfl; intro w' hw'; go_simp; (try with_reducible rfl)
        simp only [Act.put, List.setIfInBounds_toArray, List.set_cons_zero, List.set_cons_succ]
        apply wpR_next 18 (some 93)
        · simp only [List.getElem?_toArray, List.getElem?_cons_succ, List.getElem?_cons_zero]; exact rfl
        · rfl
        · kernel_rfl
        · kernel_rfl
        · kernel_rfl
        · exact fun _ _ _ _ h => h
        apply Exists.intro
        apply And.intro
        · apply yr_run; rfl; intro w' hw'; go_simp; (try with_reducible rfl)
        simp only [Act.put, List.setIfInBounds_toArray, List.set_cons_zero, List.set_cons_succ]
        apply wpR_next 19 (some 94)
        · simp only [List.getElem?_toArray, List.getElem?_cons_succ, List.getElem?_cons_zero]; exact rfl
        · rfl
        · kernel_rfl
        · kernel_rfl
        · kernel_rfl
        · exact fun _ _ _ _ h => h
        apply Exists.intro
        apply And.intro
        · apply yr_run; rfl; intro w' hw'; go_simp; (try with_reducible rfl)
        simp only [Act.put, List.setIfInBounds_toArray, List.set_cons_zero, List.set_cons_succ]
        apply wpR_next 20 (some 95)
        · simp only [List.getElem?_toArray, List.getElem?_cons_succ, List.getElem?_cons_zero]; exact rfl
        · rfl
        · kernel_rfl
        · kernel_rfl
        · kernel_rfl
        · exact fun _ _ _ _ h => h
        apply Exists.intro
        apply And.intro
        · apply yr_run; rfl; intro w' hw'; go_simp; (try with_reducible rfl)
        simp only [Act.put, List.setIfInBounds_toArray, List.set_cons_zero, List.set_cons_succ]
        apply wpR_next 21 (some 96)
        · simp only [List.getElem?_toArray, List.getElem?_cons_succ, List.getElem?_cons_zero]; exact rfl
        · rfl
        · kernel_rfl
        · kernel_rfl
        · kernel_rfl
        · exact fun _ _ _ _ h => h
        apply Exists.intro
        apply And.intro
        · apply yr_run; rfl; intro w' hw'; go_simp; (try with_reducible rfl)
        simp only [Act.put, List.setIfInBounds_toArray, List.set_cons_zero, List.set_cons_succ]
        apply wpR_next 22 (some 97)
        · simp only [List.getElem?_toArray, List.getElem?_cons_succ, List.getElem?_cons_zero]; exact rfl
        · rfl
        · kernel_rfl
        · kernel_rfl
        · kernel_rfl
        · exact fun _ _ _ _ h => h
        apply Exists.intro
        apply And.intro
        · apply yr_run; rfl; intro w' hw'; go_simp; (try with_reducible rfl)
        simp only [Act.put, List.setIfInBounds_toArray, List.set_cons_zero, List.set_cons_succ]
        apply wpR_next 24 (some 99)
        · simp only [List.getElem?_toArray, List.getElem?_cons_succ, List.getElem?_cons_zero]; exact rfl
        · rfl
        · kernel_rfl
        · kernel_rfl
        · kernel_rfl
        · exact fun _ _ _ _ h => h
        apply Exists.intro
        apply And.intro
        · apply yr_run; rfl; intro w' hw'; go_simp; (try with_reducible rfl)
        simp only [Act.put, List.setIfInBounds_toArray, List.set_cons_zero, List.set_cons_succ]
        apply wpR_call 23 (some 98)
        · simp only [List.getElem?_toArray, List.getElem?_cons_succ, List.getElem?_cons_zero]; exact rfl
        · rfl
        · kernel_rfl
        · rfl
        · intro w'; go_simp; first | done | exact ⟨rfl, rfl⟩ | with_reducible rfl
        intro w' hw'
        refine (HGa.out _ (Da_919.out.bl hw')).mono ?_
        rintro e w924 ⟨rfl, hb924⟩
        have Da_924 := Lib.hid ((Da_919.out.bl hw').bl hb924)
        have Dm_924 := Lib.hid ((Dm_919.out.bl hw').bl hb924)
        have D0_924 := Lib.hid ((D0_919.out.bl hw').bl hb924)
        have M9_924 := Lib.hid ((M9_919.out.bl hw').bl hb924)
        have Bel_924 := Lib.hid (bel_bl (bel_bl Bel_919.out hw') hb924)
        have ld925 := fun w'' (h : Kept Nil_ w924 w'') => ld920 w'' ((Kept.of_ext hw').trans ((Kept.of_below hb924).trans h))
        have ld926 := fun w'' (h : Kept Nil_ w924 w'') => ld921 w'' ((Kept.of_ext hw').trans ((Kept.of_below hb924).trans h))
        have ld927 := fun w'' (h : Kept Nil_ w924 w'') => ld922 w'' ((Kept.of_ext hw').trans ((Kept.of_below hb924).trans h))
        have ld928 := fun w'' (h : Kept Nil_ w924 w'') => ld923 w'' ((Kept.of_ext hw').trans ((Kept.of_below hb924).trans h))
        refine ⟨_, rfl, Kept.of_below hb924, ?_⟩
        clear hw' hb924
        simp only [Act.put, List.setIfInBounds_toArray, List.set_cons_zero, List.set_cons_succ]
        apply wpR_call 25 (some 100)
        · simp only [List.getElem?_toArray, List.getElem?_cons_succ, List.getElem?_cons_zero]; exact rfl
        · rfl
        · kernel_rfl
        · rfl
        · intro w'; go_simp; first | done | exact ⟨rfl, rfl⟩ | with_reducible rfl
        intro w' hw'
        refine (HGb.out _ (Dm_924.out.bl hw')).mono ?_
        rintro e w929 ⟨rfl, hb929⟩
        have Da_929 := Lib.hid ((Da_924.out.bl hw').bl hb929)
        have Dm_929 := Lib.hid ((Dm_924.out.bl hw').bl hb929)
        have D0_929 := Lib.hid ((D0_924.out.bl hw').bl hb929)
        have M9_929 := Lib.hid ((M9_924.out.bl hw').bl hb929)
        have Bel_929 := Lib.hid (bel_bl (bel_bl Bel_924.out hw') hb929)
        have ld930 := fun w'' (h : Kept Nil_ w929 w'') => ld925 w'' ((Kept.of_ext hw').trans ((Kept.of_below hb929).trans h))
        have ld931 := fun w'' (h : Kept Nil_ w929 w'') => ld926 w'' ((Kept.of_ext hw').trans ((Kept.of_below hb929).trans h))
        have ld932 := fun w'' (h : Kept Nil_ w929 w'') => ld927 w'' ((Kept.of_ext hw').trans ((Kept.of_below hb929).trans h))
        have ld933 := fun w'' (h : Kept Nil_ w929 w'') => ld928 w'' ((Kept.of_ext hw').trans ((Kept.of_below hb929).trans h))
        refine ⟨_, rfl, Kept.of_below hb929, ?_⟩
        clear hw' hb929
        simp only [Act.put, List.setIfInBounds_toArray, List.set_cons_zero, List.set_cons_succ]
        apply wpR_next 26 (some 101)
        · simp only [List.getElem?_toArray, List.getElem?_cons_succ, List.getElem?_cons_zero]; exact rfl
        · rfl
        · kernel_rfl
        · kernel_rfl
        · kernel_rfl
        · exact fun _ _ _ _ h => h
        apply Exists.intro
        apply And.intro
        · apply yr_run; rfl; intro w' hw'; go_simp; (try with_reducible rfl)
        simp only [Act.put, List.setIfInBounds_toArray, List.set_cons_zero, List.set_cons_succ]
        apply wpR_next 27 (some 102)
        · simp only [List.getElem?_toArray, List.getElem?_cons_succ, List.getElem?_cons_zero]; exact rfl
        · rfl
        · kernel_rfl
        · kernel_rfl
        · kernel_rfl
        · exact fun _ _ _ _ h => h
        apply Exists.intro
        apply And.intro
        · apply yr_run; rfl; intro w' hw'; go_simp; (try with_reducible rfl)
        simp only [Act.put, List.setIfInBounds_toArray, List.set_cons_zero, List.set_cons_succ]
        apply wpR_next 28 (some 103)
        · simp only [List.getElem?_toArray, List.getElem?_cons_succ, List.getElem?_cons_zero]; exact rfl
        · rfl
        · kernel_rfl
        · kernel_rfl
        · kernel_rfl
        · exact fun _ _ _ _ h => h
        apply Exists.intro
        apply And.intro
        · apply yr_run; rfl; intro w' hw'; go_simp; (try with_reducible rfl)
        simp only [Act.put, List.setIfInBounds_toArray, List.set_cons_zero, List.set_cons_succ]
        apply wpR_next 29 (some 104)
        · simp only [List.getElem?_toArray, List.getElem?_cons_succ, List.getElem?_cons_zero]; exact rfl
        · rfl
        · kernel_rfl
        · kernel_rfl
        · kernel_rfl
        · exact fun _ _ _ _ h => h
        apply Exists.intro
        apply And.intro
        · apply yr_run; rfl; intro w' hw'; go_simp; (try with_reducible rfl)
        simp only [Act.put, List.setIfInBounds_toArray, List.set_cons_zero, List.set_cons_succ]
        apply wpR_next 31 (some 106)
        · simp only [List.getElem?_toArray, List.getElem?_cons_succ, List.getElem?_cons_zero]; exact rfl
        · rfl
        · kernel_rfl
        · kernel_rfl
        · kernel_rfl
        · exact fun _ _ _ _ h => h
        apply Exists.intro
        apply And.intro
        · apply yr_run; rfl; intro w' hw'; go_simp; (try with_reducible rfl)
        simp only [Act.put, List.setIfInBounds_toArray, List.set_cons_zero, List.set_cons_succ]
        apply wpR_call 30 (some 105)
        · simp only [List.getElem?_toArray, List.getElem?_cons_succ, List.getElem?_cons_zero]; exact rfl
        · rfl
        · kernel_rfl
        · rfl
        · intro w'; go_simp; first | done | exact ⟨rfl, rfl⟩ | with_reducible rfl
        intro w' hw'
        refine (HMb.out _ (Dm_929.out.bl hw')).mono ?_
        rintro e w934 ⟨rfl, hb934⟩
        have Da_934 := Lib.hid ((Da_929.out.bl hw').bl hb934)
        have Dm_934 := Lib.hid ((Dm_929.out.bl hw').bl hb934)
        have D0_934 := Lib.hid ((D0_929.out.bl hw').bl hb934)
        have M9_934 := Lib.hid ((M9_929.out.bl hw').bl hb934)
        have Bel_934 := Lib.hid (bel_bl (bel_bl Bel_929.out hw') hb934)
        have ld935 := fun w'' (h : Kept Nil_ w934 w'') => ld930 w'' ((Kept.of_ext hw').trans ((Kept.of_below hb934).trans h))
        have ld936 := fun w'' (h : Kept Nil_ w934 w'') => ld931 w'' ((Kept.of_ext hw').trans ((Kept.of_below hb934).trans h))
        have ld937 := fun w'' (h : Kept Nil_ w934 w'') => ld932 w'' ((Kept.of_ext hw').trans ((Kept.of_below hb934).trans h))
        have ld938 := fun w'' (h : Kept Nil_ w934 w'') => ld933 w'' ((Kept.of_ext hw').trans ((Kept.of_below hb934).trans h))
        refine ⟨_, rfl, Kept.of_below hb934, ?_⟩
        clear hw' hb934
        simp only [Act.put, List.setIfInBounds_toArray, List.set_cons_zero, List.set_cons_succ]
        apply wpR_call 32 (some 107)
        · simp only [List.getElem?_toArray, List.getElem?_cons_succ, List.getElem?_cons_zero]; exact rfl
        · rfl
        · kernel_rfl
        · rfl
        · intro w'; go_simp; first | done | exact ⟨rfl, rfl⟩ | with_reducible rfl
        intro w' hw'
        refine (HMa.out _ (Da_934.out.bl hw')).mono ?_
        rintro e w939 ⟨rfl, hb939⟩
        have Da_939 := Lib.hid ((Da_934.out.bl hw').bl hb939)
        have Dm_939 := Lib.hid ((Dm_934.out.bl hw').bl hb939)
        have D0_939 := Lib.hid ((D0_934.out.bl hw').bl hb939)
        have M9_939 := Lib.hid ((M9_934.out.bl hw').bl hb939)
        have Bel_939 := Lib.hid (bel_bl (bel_bl Bel_934.out hw') hb939)
        have ld940 := fun w'' (h : Kept Nil_ w939 w'') => ld935 w'' ((Kept.of_ext hw').trans ((Kept.of_below hb939).trans h))
        have ld941 := fun w'' (h : Kept Nil_ w939 w'') => ld936 w'' ((Kept.of_ext hw').trans ((Kept.of_below hb939).trans h))
        have ld942 := fun w'' (h : Kept Nil_ w939 w'') => ld937 w'' ((Kept.of_ext hw').trans ((Kept.of_below hb939).trans h))
        have ld943 := fun w'' (h : Kept Nil_ w939 w'') => ld938 w'' ((Kept.of_ext hw').trans ((Kept.of_below hb939).trans h))
        refine ⟨_, rfl, Kept.of_below hb939, ?_⟩
        clear hw' hb939
        simp only [Act.put, List.setIfInBounds_toArray, List.set_cons_zero, List.set_cons_succ]
        apply wpR_next 33 (some 108)
        · simp only [List.getElem?_toArray, List.getElem?_cons_succ, List.getElem?_cons_zero]; exact rfl
        · rfl
        · kernel_rfl
        · kernel_rfl
        · kernel_rfl
        · exact fun _ _ _ _ h => h
        apply Exists.intro
        apply And.intro
        · apply yr_run; rfl; intro w' hw'; go_simp; (try with_reducible rfl)
        simp only [Act.put, List.setIfInBounds_toArray, List.set_cons_zero, List.set_cons_succ]
        apply wpR_next 34 (some 109)
        · simp only [List.getElem?_toArray, List.getElem?_cons_succ, List.getElem?_cons_zero]; exact rfl
        · rfl
        · kernel_rfl
        · kernel_rfl
        · kernel_rfl
        · exact fun _ _ _ _ h => h
        apply Exists.intro
        apply And.intro
        · apply yr_run; rfl; intro w' hw'; go_simp; (try with_reducible rfl)
        simp only [Act.put, List.setIfInBounds_toArray, List.set_cons_zero, List.set_cons_succ]
        apply wpR_next 35 (some 2)
        · simp only [List.getElem?_toArray, List.getElem?_cons_succ, List.getElem?_cons_zero]; exact rfl
        · rfl
        · kernel_rfl
        · kernel_rfl
        · kernel_rfl
        · exact fun _ _ _ _ h => h
        apply Exists.intro
        apply And.intro
        · apply yr_run; rfl; intro w' hw'; go_simp; (try with_reducible rfl)
        simp only [Act.put, List.setIfInBounds_toArray, List.set_cons_zero, List.set_cons_succ]
        refine wpR_done (by kernel_rfl) ?_ _
        intro w944 hw'
        have Da_945 := Lib.hid (Da_939.out.bl hw')
        have Dm_945 := Lib.hid (Dm_939.out.bl hw')
        have D0_945 := Lib.hid (D0_939.out.bl hw')
        have M9_945 := Lib.hid (M9_939.out.bl hw')
        have Bel_945 := Lib.hid (bel_bl Bel_939.out hw')
        clear Da_939 Dm_939 D0_939 M9_939 Bel_939
        clear hw'
        go_wp2
        go_ret
        exact ⟨by first | rfl | simp, HBd.out.trans ((Bel_945.out).mono HBd.out.size)⟩
  · obtain ⟨fo, gfo⟩ : ∃ z, formD Va Ea = z := ⟨_, rfl⟩
    rw [gfo] at HFm hfo
    have hfn : (fo != 0) = true := by simp [hfo]
    clear gfo
    have lw11 : (v10).cell? ⟨w.heap.size, 0, none⟩ = some (.slice Aa na ca) := D0_10.out.cell (i := 0) rfl
    have lw12 : (v10).cell? ⟨w.heap.size, 1, none⟩ = some (.slice Ba ma ka) := D0_10.out.cell (i := 1) rfl
    go_wp2_with fail
    clear lw11 lw12
    refine (HFm.out _ Da_10.out).mono ?_
    rintro e w13 ⟨rfl, hb13⟩
    have D0_14 := Lib.hid (D0_10.out.bl hb13)
    have Da_14 := Lib.hid (Da_10.out.bl hb13)
    have Bel_14 := Lib.hid (bel_bl Bel_10.out hb13)
    clear D0_10 Da_10 Bel_10
    clear hb13
    go_wp2
    go_ret
    exact ⟨by first | rfl | simp, Bel_14.out⟩
end Go.Proofs.Ytpindjknngcccaa
