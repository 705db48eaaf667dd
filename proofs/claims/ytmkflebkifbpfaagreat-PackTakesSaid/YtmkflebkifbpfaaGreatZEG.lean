/- Several texts in one. -/
import Derived.Test.YtmkflebkifbpfaaGreatZEA
import Derived.Test.YtmkflebkifbpfaaGreatZEF
import Derived.Maps.OwnIn
/- The document's place, Labels. -/
set_option linter.unusedSimpArgs false
set_option linter.unusedVariables false
namespace Go.Proofs.YtmkflebkifbpfaaGreat
open Go.RowKit
set_option maxRecDepth 100000 in
set_option maxHeartbeats 4000000 in
theorem rplace_any (A : Option Addr) (n c : Nat) (Vs : List VC) (B : Option Addr) (m k : Nat) (x1 x2 : Int) (w : World) (h : RdS w w.heap.size 5 A n c (rowsV vC Vs)) (hn : n ≤ 1000000) :
    Calls Tryz.prog 96 #[.agg #[.slice A n c, .slice B m k], .agg #[.int .i64 x1, .int .i64 x2]] w fun e w' => e = .returned (.int .i64 (placeF 0 Vs (x1, x2))) ∧ Below w.heap.size w w' := by
  have HV := Lib.hid h
  have Hlv := Lib.hid (h.rlen vC_len (by decide))
  obtain ⟨p, gp⟩ : ∃ z, placeF 0 Vs (x1, x2) = z := ⟨_, rfl⟩
  have HP := Lib.hid gp
  rw [gp]
  clear h gp
  go_enter Tryz.func96, Tryz.ntmps96
  go_upto_region 1 with fail
  have hx0 : Whole ((w.alloc (.cells #[.slice A n c, .slice B m k] 25)).alloc (.cells #[.int .i64 x1, .int .i64 x2] 41)) (w.heap.size) 25 [.slice A n c, .slice B m k] := ((Whole.new_ w 25 [.slice A n c, .slice B m k]).alloc (.cells #[.int .i64 x1, .int .i64 x2] 41))
  have hx1 : Whole ((w.alloc (.cells #[.slice A n c, .slice B m k] 25)).alloc (.cells #[.int .i64 x1, .int .i64 x2] 41)) (w.heap.size + 1) 41 [.int .i64 x1, .int .i64 x2] := (Whole.new2 (w := (w.alloc (.cells #[.slice A n c, .slice B m k] 25))) (by simp))
  have hbl : Below w.heap.size w ((w.alloc (.cells #[.slice A n c, .slice B m k] 25)).alloc (.cells #[.int .i64 x1, .int .i64 x2] 41)) := (bel_al (below1 w (.cells #[.slice A n c, .slice B m k] 25)) (.cells #[.int .i64 x1, .int .i64 x2] 41))
  have hsz : w.heap.size + 1 + 1 ≤ (((w.alloc (.cells #[.slice A n c, .slice B m k] 25)).alloc (.cells #[.int .i64 x1, .int .i64 x2] 41))).heap.size := by simp
  obtain ⟨W0, gW0⟩ : ∃ z, ((w.alloc (.cells #[.slice A n c, .slice B m k] 25)).alloc (.cells #[.int .i64 x1, .int .i64 x2] 41)) = z := ⟨_, rfl⟩
  rw [gW0] at hx0 hx1 hbl hsz
  obtain ⟨b1, gb1⟩ : ∃ z, w.heap.size + 1 = z := ⟨_, rfl⟩
  rw [gb1] at hx1
  obtain ⟨b0, gb0⟩ : ∃ z, w.heap.size = z := ⟨_, rfl⟩
  rw [gb0] at hx0
  have HX0 := Lib.hid hx0
  have HX1 := Lib.hid hx1
  have HB0 := Lib.hid hbl
  have HS0 := Lib.hid hsz
  have Gb0 := Lib.hid gb0
  have Lb0 : RowKit.Hid (w.heap.size ≤ b0) := Lib.hid (by omega)
  have Gb1 := Lib.hid gb1
  have Lb1 : RowKit.Hid (w.heap.size ≤ b1) := Lib.hid (by omega)
  have N01 : RowKit.Hid (b0 ≠ b1) := Lib.hid (by omega)
  rw [gW0, gb1, gb0]
  clear gW0 hbl hsz hx0 hx1 gb0 gb1
  go_wp2
  go_loopw [5] (fun si wr => ∃ j : Nat, j ≤ n ∧ si = .int .i64 j ∧ RowKit.Hid (Below W0.heap.size W0 wr) ∧ RowKit.Hid (p = placeF j (Vs.drop j) (x1, x2))) (fun si _ => n - (intOf si).toNat)
  case atStart => exact ⟨0, by omega, rfl, Lib.hid (Below.refl _ _), Lib.hid HP.out.symm⟩
  case round =>
    obtain ⟨j, hj, rfl, HBr, HE⟩ := hrel
    obtain ⟨wo, gwo⟩ : ∃ z, wr = z := ⟨_, rfl⟩
    rw [gwo] at HBr ⊢
    clear gwo
    have HXo := Lib.hid (HX0.out.bl HBr.out)
    have HYo := Lib.hid (HX1.out.bl HBr.out)
    have cb := HXo.out.cell (i := 0) rfl
    by_cases hjn : j < n
    · obtain ⟨v, hx⟩ : ∃ v, Vs[j]? = some v := ⟨_, List.getElem?_eq_getElem (by have := Hlv.out; omega)⟩
      have hdr : Vs.drop j = v :: Vs.drop (j + 1) := by
        rw [List.drop_eq_getElem_cons (List.getElem?_eq_some_iff.1 hx).1, (List.getElem?_eq_some_iff.1 hx).2]
      have HE2 := HE.out
      rw [hdr, placeF] at HE2
      have HE3 := Lib.hid HE2
      have HB := Lib.hid (HB0.out.trans (HBr.out.mono HB0.out.size))
      obtain ⟨bb, off, rfl, hbB, hpl⟩ := HV.out.place vC_len (by decide) (by omega)
      have hbw := HB.out
      have q0 := hpl j _ hx 0 _ rfl
      have q1 := hpl j _ hx 1 _ rfl
      have q2 := hpl j _ hx 2 _ rfl
      have q3 := hpl j _ hx 3 _ rfl
      have q4 := hpl j _ hx 4 _ rfl
      simp only [Addr.add_lit, Nat.add_zero] at q0 q1 q2 q3 q4
      have l0 := (hbw.cell (p := ⟨bb, off + j * 5, none⟩) hbB).trans q0
      have l1 := (hbw.cell (p := ⟨bb, off + j * 5 + 1, none⟩) hbB).trans q1
      have l2 := (hbw.cell (p := ⟨bb, off + j * 5 + 2, none⟩) hbB).trans q2
      have l3 := (hbw.cell (p := ⟨bb, off + j * 5 + 3, none⟩) hbB).trans q3
      have l4 := (hbw.cell (p := ⟨bb, off + j * 5 + 4, none⟩) hbB).trans q4
      clear hbw q0 q1 q2 q3 q4
      obtain ⟨⟨i1, i2⟩, ⟨rA, rn, rc, rL⟩, lb, at_⟩ := v
      have he := eq_id i1 i2 x1 x2
      have hd : (i1 == x1 && i2 == x2) = decide (((i1, i2) : I2) = (x1, x2)) := by
        by_cases h1 : i1 = x1 <;> by_cases h2 : i2 = x2 <;> simp [h1, h2]
      obtain ⟨b, gb⟩ : ∃ z, decide (((i1, i2) : I2) = (x1, x2)) = z := ⟨_, rfl⟩
      rw [hd, gb] at he
      have Hb := Lib.hid gb
      clear hx hdr HE2 hpl hbB HE hd gb
      go_upto_region 4 with fail
      clear cb
      have ld0 : ∀ w', Kept Nil_ wo.drew w' → w'.cell? ⟨b0, 0, none⟩ = some (.slice (some ⟨bb, off, none⟩) n c) := fun w' h => h.nil_cell (HXo.out.dr.cell (i := 0) rfl)
      have ld1 : ∀ w', Kept Nil_ wo.drew w' → w'.cell? ⟨b1, 0, none⟩ = some (.int .i64 x1) := fun w' h => h.nil_cell (HYo.out.dr.cell (i := 0) rfl)
      have ld2 : ∀ w', Kept Nil_ wo.drew w' → w'.cell? ⟨b1, 1, none⟩ = some (.int .i64 x2) := fun w' h => h.nil_cell (HYo.out.dr.cell (i := 1) rfl)
      have ld3 : ∀ w', Kept Nil_ wo.drew w' → w'.cell? ⟨bb, off + j * 5, none⟩ = some (.int .i64 i1) := fun w' h => h.nil_cell (show wo.drew.cell? _ = _ from l0)
      have ld4 : ∀ w', Kept Nil_ wo.drew w' → w'.cell? ⟨bb, off + j * 5 + 1, none⟩ = some (.int .i64 i2) := fun w' h => h.nil_cell (show wo.drew.cell? _ = _ from l1)
      refine wp_region_reg (Nil_) (by kernel_rfl) ?_
      refine opR_ 0 13 (v := ?_) ?_ ?_; rotate_left
      · intro w' hw'; go_simp; (try with_reducible rfl)
      simp only [st0_, st1_]
      refine opR_ 1 14 (v := ?_) ?_ ?_; rotate_left
      · intro w' hw'; go_simp; (try with_reducible rfl)
      simp only [st0_, st1_]
      refine opR_ 2 15 (v := ?_) ?_ ?_; rotate_left
      · intro w' hw'; go_simp; (try with_reducible rfl)
      simp only [st0_, st1_]
      refine opR_ 3 16 (v := ?_) ?_ ?_; rotate_left
      · intro w' hw'; go_simp; (try with_reducible rfl)
      simp only [st0_, st1_]
      refine opR_ 4 17 (v := ?_) ?_ ?_; rotate_left
      · intro w' hw'; go_simp; (try with_reducible rfl)
      simp only [st0_, st1_]
      refine opR_ 5 18 (v := ?_) ?_ ?_; rotate_left
      · intro w' hw'; go_simp; (try with_reducible rfl)
      simp only [st0_, st1_]
      refine opR_ 6 19 (v := ?_) ?_ ?_; rotate_left
      · intro w' hw'; go_simp; (try with_reducible rfl)
      simp only [st0_, st1_]
      refine opX_ 7 20 ?_
      apply Exists.intro
      apply And.intro
      · exact yr_run (by rfl) (fun w' hw' => exec_binop_agg .eql 41 (.tmp 18) (.tmp 19) 41 rfl rfl rfl (by kernel_rfl) (he w'))
      simp only [st0_, st1_]
      refine wpR_done (by kernel_rfl) ?_ _
      intro W8 hw8
      have HB8 := Lib.hid (bel_bl (bel_dr HBr.out) hw8)
      clear hw8 ld0 ld1 ld2 ld3 ld4 l0 l1 l2 l3 l4
      cases b with
      | true =>
        have hp : p = (j : Int) := by rw [HE3.out, if_pos (of_decide_eq_true Hb.out)]
        clear HE3
        subst hp
        go_wp2
        go_ret
        exact ⟨rfl, HB0.out.trans (HB8.out.mono HB0.out.size)⟩
      | false =>
        have HE4 : RowKit.Hid (p = placeF (j + 1) (Vs.drop (j + 1)) (x1, x2)) := Lib.hid (by rw [HE3.out, if_neg (of_decide_eq_false Hb.out)])
        go_wp2
        go_roundw
        case rel => exact ⟨j + 1, by omega, by go_num, HB8, HE4⟩
        case measure => simp [intOf] <;> omega
    · obtain rfl : n = j := by omega
      have hp : p = -1 := by
        rw [HE.out, List.drop_eq_nil_of_le (by have := Hlv.out; omega)]; rfl
      clear HE
      subst hp
      go_wp2
      go_ret
      exact ⟨rfl, HB0.out.trans (HBr.out.mono HB0.out.size)⟩
theorem up_snoc (j : Nat) : upN (j + 1) = upN j ++ [(j : Int)] := by simp [upN, List.range_succ]
theorem info_intL : (Tryz.prog.info? 3).map (fun i => (i.zero, i.size, i.bytes)) = some (some (.int .i64 0), 1, 8) := by kernel_rfl
set_option maxRecDepth 100000 in
set_option maxHeartbeats 4000000 in
theorem rlabels_any (A : Option Addr) (n c : Nat) (Vs : List VC) (B : Option Addr) (m k : Nat) (Es : List EC) (w : World) (h : DgIn w A n c Vs B m k Es) (hf : Formed Vs Es) :
    Calls Tryz.prog 84 #[.agg #[.slice A n c, .slice B m k]] w fun e w' => ∃ A2 c2, e = .returned (.slice A2 n c2) ∧ RdS w' w'.heap.size 1 A2 n c2 (rowsV n1 (labF Vs)) ∧ Below w.heap.size w w' := by
  obtain ⟨hn24, hm40, hr80⟩ := hf.small h
  have Hlv := Lib.hid (h.v.rlen vC_len (by decide))
  have Hlw := Lib.hid (h.e.rlen eC_len (by decide))
  have HD := Lib.hid h
  obtain ⟨P, gP⟩ : ∃ z, endsF Vs Es = z := ⟨_, rfl⟩
  have HRn : RowKit.Hid (rndN P n n = labF Vs) := Lib.hid (by rw [← gP, ← Hlv.out]; exact rounds_eq hf)
  have HPl : RowKit.Hid (P.length = m) := Lib.hid (by rw [← gP, endsF, List.length_map]; exact Hlw.out)
  have HPe : RowKit.Hid (∀ (i : Nat) (e : EC), Es[i]? = some e → ∃ a b : Nat, P[i]? = some (a, b) ∧ a < n ∧ b < n ∧ placeF 0 Vs (atV Vs (e.1.1, e.1.2, 0)).1 = (a : Int) ∧ placeF 0 Vs (atV Vs (e.1.1, e.1.2, 1)).1 = (b : Int)) := Lib.hid (fun i e he => by
    obtain ⟨a, v, hv, hd, ha⟩ := hf.dart (List.mem_of_getElem? he) 0 (.inl rfl)
    obtain ⟨b, u, hu, hd2, hb⟩ := hf.dart (List.mem_of_getElem? he) 1 (.inr rfl)
    have h1 := hf.stands hv hd
    have h2 := hf.stands hu hd2
    refine ⟨a, b, ?_, by rw [← Hlv.out]; exact ha, by rw [← Hlv.out]; exact hb, by rw [h1.1, h1.2], by rw [h2.1, h2.2]⟩
    rw [← gP, endsF, List.getElem?_map, he, Option.map_some, hf.plc hv hd, hf.plc hu hd2])
  have HAt : RowKit.Hid (∀ a1 a2 a3 W, DgIn W A n c Vs B m k Es → Calls Tryz.prog 95 #[.agg #[.slice A n c, .slice B m k], .agg #[.int .i64 a1, .int .i64 a2, .int .i64 a3]] W fun e w' => e = .returned (.tuple #[.agg #[.int .i64 (atV Vs (a1, a2, a3)).1.1, .int .i64 (atV Vs (a1, a2, a3)).1.2], .bool (atV Vs (a1, a2, a3)).2]) ∧ Below W.heap.size W w') := Lib.hid (fun a1 a2 a3 W h => rat_any A n c Vs B m k Es a1 a2 a3 W h (by omega) (fun x hx => by have := hr80 x hx; omega))
  have HPc : RowKit.Hid (∀ a1 a2 W, DgIn W A n c Vs B m k Es → Calls Tryz.prog 96 #[.agg #[.slice A n c, .slice B m k], .agg #[.int .i64 a1, .int .i64 a2]] W fun e w' => e = .returned (.int .i64 (placeF 0 Vs (a1, a2))) ∧ Below W.heap.size W w') := Lib.hid (fun a1 a2 W h => rplace_any A n c Vs B m k a1 a2 W h.v (by omega))
  obtain ⟨i0, hi, hz0, hz1, hz2⟩ := info_partsD info_intL
  clear h hf hr80 gP
  go_enter Tryz.func84, Tryz.ntmps84
  go_upto_region 1 with fail
  have hx0 : Whole (w.alloc (.cells #[.slice A n c, .slice B m k] 25)) (w.heap.size) 25 [.slice A n c, .slice B m k] := (Whole.new_ w 25 [.slice A n c, .slice B m k])
  have hbl : Below w.heap.size w (w.alloc (.cells #[.slice A n c, .slice B m k] 25)) := (below1 w (.cells #[.slice A n c, .slice B m k] 25))
  have hsz : w.heap.size + 1 ≤ ((w.alloc (.cells #[.slice A n c, .slice B m k] 25))).heap.size := by simp
  obtain ⟨W0, gW0⟩ : ∃ z, (w.alloc (.cells #[.slice A n c, .slice B m k] 25)) = z := ⟨_, rfl⟩
  rw [gW0] at hx0 hbl hsz
  obtain ⟨b0, gb0⟩ : ∃ z, w.heap.size = z := ⟨_, rfl⟩
  rw [gb0] at hx0
  have HX0 := Lib.hid hx0
  have HB0 := Lib.hid hbl
  have HS0 := Lib.hid hsz
  have Gb0 := Lib.hid gb0
  have Lb0 : RowKit.Hid (w.heap.size ≤ b0) := Lib.hid (by omega)
  rw [gW0, gb0]
  clear gW0 hbl hsz hx0 gb0
  have HOw : RowKit.Hid (Ow W0 W0.heap.size 3 1 (.slice (some ⟨W0.heap.size, 0, none⟩) 0 0) 0 (rowsV n1 (upN 0)) (W0.alloc (.cells #[] 3))) := Lib.hid (Ow.new_ (cs := #[]) (Below.refl _ _) (Nat.le_refl _) (Nat.le_refl _) (Nat.zero_le _) rfl)
  go_wp2
  go_loopw [3, 4] (fun so si wr => ∃ j : Nat, j ≤ n ∧ si = .int .i64 j ∧ RowKit.Hid (Ow W0 W0.heap.size 3 1 so j (rowsV n1 (upN j)) wr)) (fun _ si _ => n - (intOf si).toNat)
  case atStart => exact ⟨0, by omega, rfl, HOw⟩
  case round =>
    clear HOw
    obtain ⟨j, hj, rfl, HO⟩ := hrel
    have HXo := Lib.hid (HX0.out.bl HO.out.below)
    have cb := HXo.out.cell (i := 0) rfl
    by_cases hjn : j < n
    · go_wp2_with (first
        | (at_builtin
           refine wpList_push rfl (.tmp 22) (.tmp 24) _ rfl _ 3 i0 _ 1 8 Tryz.underlying108 hi hz0 hz1 hz2 rfl (by decide) _ _ _ rfl (by exact HO.out.up (below1 _ _)) _ (some ⟨wr.heap.size, 0, none⟩) 1 1 (n1 (j : Int)) rfl (by exact RdS.of_whole (Whole.new_ _ _ _) rfl) (by simp [n1, Value.oneCell']) (by unfold maxLen; omega) (by omega) ?_
           intro v1 w1 how1 hb1
           have HO1 := Lib.hid how1
           clear how1 hb1))
      go_roundw
      case rel =>
        refine ⟨j + 1, by omega, by go_num, ?_⟩
        rw [up_snoc, rowsV_app]
        exact HO1
      case measure => simp [intOf] <;> omega
    · obtain rfl : n = j := by omega
      obtain ⟨go_, co, eso, -⟩ := HO.out.rds
      subst eso
      have HOo : RowKit.Hid (wr.ownsRow W0.heap.size 3 1 (.slice go_ n co) n (rowsV n1 (rndN P n 0))) := Lib.hid HO.out.own
      have HBo := Lib.hid HO.out.below
      obtain ⟨wl, gwl⟩ : ∃ z, wr = z := ⟨_, rfl⟩
      rw [gwl] at HOo HBo cb ⊢
      clear gwl HO HXo
      go_wp2
      clear cb
      go_loopw [5] (fun sj wr => ∃ j : Nat, j ≤ n ∧ sj = .int .i64 j ∧ RowKit.Hid (Below W0.heap.size W0 wr) ∧ RowKit.Hid (wr.ownsRow W0.heap.size 3 1 (.slice go_ n co) n (rowsV n1 (rndN P n j)))) (fun sj _ => n - (intOf sj).toNat)
      case atStart => exact ⟨0, by omega, rfl, HBo, HOo⟩
      case round =>
        clear HBo HOo
        obtain ⟨j, hj, rfl, HBo, HOo⟩ := hrel
        obtain ⟨wo, gwo⟩ : ∃ z, wr = z := ⟨_, rfl⟩
        rw [gwo] at HBo HOo ⊢
        clear gwo
        have cb := (HX0.out.bl HBo.out).cell (i := 0) rfl
        by_cases hjn : j < n
        · have HOo1 : RowKit.Hid (wo.ownsRow W0.heap.size 3 1 (.slice go_ n co) n (rowsV n1 ((P.take 0).foldl rlx (rndN P n j)))) := HOo
          clear HOo
          go_wp2
          clear cb
          go_loopw [6] (fun si wr => ∃ i : Nat, i ≤ m ∧ si = .int .i64 i ∧ RowKit.Hid (Below W0.heap.size W0 wr) ∧ RowKit.Hid (wr.ownsRow W0.heap.size 3 1 (.slice go_ n co) n (rowsV n1 ((P.take i).foldl rlx (rndN P n j))))) (fun si _ => m - (intOf si).toNat)
          case atStart => exact ⟨0, by omega, rfl, HBo, HOo1⟩
          case round =>
            clear HBo HOo1
            obtain ⟨i, hi9, rfl, HBi, HOi⟩ := hrel
            obtain ⟨wi, gwi⟩ : ∃ z, wr = z := ⟨_, rfl⟩
            rw [gwi] at HBi HOi ⊢
            clear gwi
            have HXi := Lib.hid (HX0.out.bl HBi.out)
            have cb := HXi.out.cell (i := 1) rfl
            by_cases him : i < m
            · obtain ⟨e, he⟩ : ∃ e, Es[i]? = some e := ⟨_, List.getElem?_eq_getElem (by have := Hlw.out; omega)⟩
              obtain ⟨pa, pb, hpi, hpa, hpb, hqa, hqb⟩ := HPe.out i e he
              have HDi := Lib.hid ((HD.out.bl HB0.out).bl HBi.out)
              obtain ⟨bb, off, rfl, hbB, hpl⟩ := HDi.out.e.place eC_len (by decide) (by omega)
              have q0 := hpl i _ he 0 _ rfl
              have q1 := hpl i _ he 1 _ rfl
              simp only [Addr.add_lit, Nat.add_zero] at q0 q1
              obtain ⟨⟨e1, e2⟩, er⟩ := e
              have HA0 := Lib.hid (HAt.out e1 e2 0)
              have HA1 := Lib.hid (HAt.out e1 e2 1)
              replace hqa : placeF 0 Vs (atV Vs (e1, e2, 0)).1 = (pa : Int) := hqa
              replace hqb : placeF 0 Vs (atV Vs (e1, e2, 1)).1 = (pb : Int) := hqb
              obtain ⟨⟨⟨p1, p2⟩, pk⟩, gp⟩ : ∃ z, atV Vs (e1, e2, 0) = z := ⟨_, rfl⟩
              obtain ⟨⟨⟨s1, s2⟩, sk⟩, gs⟩ : ∃ z, atV Vs (e1, e2, 1) = z := ⟨_, rfl⟩
              rw [gp] at HA0 hqa
              rw [gs] at HA1 hqb
              have HC0 := Lib.hid (HPc.out p1 p2)
              have HC1 := Lib.hid (HPc.out s1 s2)
              rw [show placeF 0 Vs (p1, p2) = (pa : Int) from hqa] at HC0
              rw [show placeF 0 Vs (s1, s2) = (pb : Int) from hqb] at HC1
              have Hpi := Lib.hid hpi
              have HLd : RowKit.Hid (∀ W, Below wi.heap.size wi W → W.cell? ⟨b0, 0, none⟩ = some (.slice A n c) ∧ W.cell? ⟨b0, 1, none⟩ = some (.slice (some ⟨bb, off, none⟩) m k) ∧ W.cell? ⟨bb, off + i * 4, none⟩ = some (.int .i64 e1) ∧ W.cell? ⟨bb, off + i * 4 + 1, none⟩ = some (.int .i64 e2)) := Lib.hid (fun W hb => ⟨(HXi.out.bl hb).cell (i := 0) rfl, (HXi.out.bl hb).cell (i := 1) rfl, (hb.cell (p := ⟨bb, off + i * 4, none⟩) (World.block_lt_of_cell? _ _ q0)).trans q0, (hb.cell (p := ⟨bb, off + i * 4 + 1, none⟩) (World.block_lt_of_cell? _ _ q1)).trans q1⟩)
              have HLe : RowKit.Hid (∀ W, Ext wi.drew W → W.cell? ⟨b0, 0, none⟩ = some (.slice A n c) ∧ W.cell? ⟨b0, 1, none⟩ = some (.slice (some ⟨bb, off, none⟩) m k) ∧ W.cell? ⟨bb, off + i * 4, none⟩ = some (.int .i64 e1) ∧ W.cell? ⟨bb, off + i * 4 + 1, none⟩ = some (.int .i64 e2)) := Lib.hid (fun W hb => HLd.out W (bel_bl (bel_dr (Below.refl _ _)) hb))
              clear he hqa hqb gp gs hbB hpl q0 q1 hpi
              go_upto_region 12 with fail
              clear cb
              refine wp_region_in3 13 11 (From_ wi.heap.size) (gamL [some (.agg #[.slice A n c, .slice (some ⟨bb, off, none⟩) m k]), some (.pointer (some ⟨b0, 1, none⟩)), some (.slice (some ⟨bb, off, none⟩) m k), some (.int .i64 (i : Int)), some (.pointer (some ⟨bb, off + i * 4, none⟩)), some (.pointer (some ⟨bb, off + i * 4, none⟩)), some (.agg #[.int .i64 e1, .int .i64 e2]), some (.agg #[.int .i64 e1, .int .i64 e2, .int .i64 0]), some (.tuple #[.agg #[.int .i64 p1, .int .i64 p2], .bool pk]), some (.tuple #[.agg #[.int .i64 p1, .int .i64 p2], .bool pk]), some (.agg #[.int .i64 p1, .int .i64 p2]), some (.bool pk), none] 12 wi.heap.size 41 [.int .i64 0, .int .i64 0]) (Ext wi.drew) (by kernel_rfl) (by kernel_rfl) (by kernel_rfl) (by kernel_rfl) (by kernel_rfl) (by kernel_rfl) (by simp only [List.getElem?_toArray, List.getElem?_cons_succ, List.getElem?_cons_zero]; exact rfl) (by kernel_rfl) (by kernel_rfl) (by kernel_rfl) ?_ (fun i v w1 w2 h hx => gamL_up i v w1 w2 h hx) (fun _ _ h k => h.trans k) (Ext.refl _) ?_ ?_ ?_
              · exact fun _ _ _ _ h => h
              · intro i hi9
                have hcase : i = 0 ∨ i = 1 ∨ i = 2 ∨ i = 3 ∨ i = 4 ∨ i = 5 ∨ i = 6 ∨ i = 7 ∨ i = 8 ∨ i = 9 ∨ i = 10 ∨ i = 11 ∨ i = 12 := by omega
                rcases hcase with rfl | rfl | rfl | rfl | rfl | rfl | rfl | rfl | rfl | rfl | rfl | rfl | rfl
                · intro o ho x y hg hdep
                  simp only [List.getElem?_toArray, List.getElem?_cons_succ, List.getElem?_cons_zero, Option.some.injEq] at ho
                  subst ho
                  obtain ⟨hl0, hl1, hl2, hl3⟩ := HLe.out _ hg
                  simp only [dsts, List.map_cons, List.map_nil, putAll, Act.put, stA_, st0_, st1_]
                  refine .inl ⟨by rfl, ?_⟩
                  go_simp
                  exact ⟨Ext.refl _, rfl⟩
                · intro o ho x y hg hdep
                  simp only [List.getElem?_toArray, List.getElem?_cons_succ, List.getElem?_cons_zero, Option.some.injEq] at ho
                  subst ho
                  simp only [dsts, List.map_cons, List.map_nil, putAll, Act.put, stA_, st0_, st1_]
                  refine .inl ⟨by rfl, ?_⟩
                  go_simp
                  exact ⟨Ext.refl _, rfl⟩
                · intro o ho x y hg hdep
                  simp only [List.getElem?_toArray, List.getElem?_cons_succ, List.getElem?_cons_zero, Option.some.injEq] at ho
                  subst ho
                  have d1 : x 1 = .pointer (some ⟨b0, 1, none⟩) := hdep 1 (by decide)
                  obtain ⟨hl0, hl1, hl2, hl3⟩ := HLe.out _ hg
                  simp only [dsts, List.map_cons, List.map_nil, putAll, Act.put, stA_, st0_, st1_]
                  simp only [d1]
                  refine .inl ⟨by rfl, ?_⟩
                  go_simp
                  exact ⟨Ext.refl _, rfl⟩
                · intro o ho x y hg hdep
                  simp only [List.getElem?_toArray, List.getElem?_cons_succ, List.getElem?_cons_zero, Option.some.injEq] at ho
                  subst ho
                  simp only [dsts, List.map_cons, List.map_nil, putAll, Act.put, stA_, st0_, st1_]
                  refine .inl ⟨by rfl, ?_⟩
                  go_simp
                  exact ⟨Ext.refl _, rfl⟩
                · intro o ho x y hg hdep
                  simp only [List.getElem?_toArray, List.getElem?_cons_succ, List.getElem?_cons_zero, Option.some.injEq] at ho
                  subst ho
                  have d2 : x 2 = .slice (some ⟨bb, off, none⟩) m k := hdep 2 (by decide)
                  have d3 : x 3 = .int .i64 (i : Int) := hdep 3 (by decide)
                  simp only [dsts, List.map_cons, List.map_nil, putAll, Act.put, stA_, st0_, st1_]
                  simp only [d2, d3]
                  refine .inl ⟨by rfl, ?_⟩
                  go_simp
                  exact ⟨Ext.refl _, rfl⟩
                · intro o ho x y hg hdep
                  simp only [List.getElem?_toArray, List.getElem?_cons_succ, List.getElem?_cons_zero, Option.some.injEq] at ho
                  subst ho
                  have d4 : x 4 = .pointer (some ⟨bb, off + i * 4, none⟩) := hdep 4 (by decide)
                  simp only [dsts, List.map_cons, List.map_nil, putAll, Act.put, stA_, st0_, st1_]
                  simp only [d4]
                  refine .inl ⟨by rfl, ?_⟩
                  go_simp
                  exact ⟨Ext.refl _, rfl⟩
                · intro o ho x y hg hdep
                  simp only [List.getElem?_toArray, List.getElem?_cons_succ, List.getElem?_cons_zero, Option.some.injEq] at ho
                  subst ho
                  have d5 : x 5 = .pointer (some ⟨bb, off + i * 4, none⟩) := hdep 5 (by decide)
                  obtain ⟨hl0, hl1, hl2, hl3⟩ := HLe.out _ hg
                  simp only [dsts, List.map_cons, List.map_nil, putAll, Act.put, stA_, st0_, st1_]
                  simp only [d5]
                  refine .inl ⟨by rfl, ?_⟩
                  go_simp
                  exact ⟨Ext.refl _, rfl⟩
                · intro o ho x y hg hdep
                  simp only [List.getElem?_toArray, List.getElem?_cons_succ, List.getElem?_cons_zero, Option.some.injEq] at ho
                  subst ho
                  have d6 : x 6 = .agg #[.int .i64 e1, .int .i64 e2] := hdep 6 (by decide)
                  simp only [dsts, List.map_cons, List.map_nil, putAll, Act.put, stA_, st0_, st1_]
                  simp only [d6]
                  refine .inl ⟨by rfl, ?_⟩
                  go_simp
                  exact ⟨Ext.refl _, rfl⟩
                · intro o ho x y hg hdep
                  simp only [List.getElem?_toArray, List.getElem?_cons_succ, List.getElem?_cons_zero, Option.some.injEq] at ho
                  subst ho
                  have d0 : x 0 = .agg #[.slice A n c, .slice (some ⟨bb, off, none⟩) m k] := hdep 0 (by decide)
                  have d7 : x 7 = .agg #[.int .i64 e1, .int .i64 e2, .int .i64 0] := hdep 7 (by decide)
                  simp only [dsts, List.map_cons, List.map_nil, putAll, Act.put, stA_, st0_, st1_]
                  simp only [d0, d7]
                  refine .inl ⟨by rfl, outT_call (by go_simp; first | done | exact ⟨rfl, rfl⟩ | with_reducible rfl) ?_⟩
                  refine (HA0.out y (HDi.out.dr.bl hg)).mono ?_
                  rintro e w2 ⟨rfl, hb⟩
                  exact ⟨_, rfl, hb, rfl⟩
                · intro o ho x y hg hdep
                  simp only [List.getElem?_toArray, List.getElem?_cons_succ, List.getElem?_cons_zero, Option.some.injEq] at ho
                  subst ho
                  have d8 : x 8 = .tuple #[.agg #[.int .i64 p1, .int .i64 p2], .bool pk] := hdep 8 (by decide)
                  simp only [dsts, List.map_cons, List.map_nil, putAll, Act.put, stA_, st0_, st1_]
                  simp only [d8]
                  refine .inl ⟨by rfl, ?_⟩
                  go_simp
                  exact ⟨Ext.refl _, rfl⟩
                · intro o ho x y hg hdep
                  simp only [List.getElem?_toArray, List.getElem?_cons_succ, List.getElem?_cons_zero, Option.some.injEq] at ho
                  subst ho
                  have d9 : x 9 = .tuple #[.agg #[.int .i64 p1, .int .i64 p2], .bool pk] := hdep 9 (by decide)
                  simp only [dsts, List.map_cons, List.map_nil, putAll, Act.put, stA_, st0_, st1_]
                  simp only [d9]
                  refine .inl ⟨by rfl, ?_⟩
                  go_simp
                  exact ⟨Ext.refl _, rfl⟩
                · intro o ho x y hg hdep
                  simp only [List.getElem?_toArray, List.getElem?_cons_succ, List.getElem?_cons_zero, Option.some.injEq] at ho
                  subst ho
                  have d9 : x 9 = .tuple #[.agg #[.int .i64 p1, .int .i64 p2], .bool pk] := hdep 9 (by decide)
                  simp only [dsts, List.map_cons, List.map_nil, putAll, Act.put, stA_, st0_, st1_]
                  simp only [d9]
                  refine .inl ⟨by rfl, ?_⟩
                  go_simp
                  exact ⟨Ext.refl _, rfl⟩
                · intro o ho x y hg hdep
                  simp only [List.getElem?_toArray, List.getElem?_cons_succ, List.getElem?_cons_zero, Option.some.injEq] at ho
                  subst ho
                  simp only [dsts, List.map_cons, List.map_nil, putAll, Act.put, stA_, st0_, st1_]
                  refine .inl ⟨by rfl, outT_run (w' := y.alloc (.cells #[.int .i64 0, .int .i64 0] 41)) (by go_simp; first | done | exact rfl | exact ⟨rfl, rfl⟩) (below1 _ _) ?_⟩
                  exact ⟨y.heap.size, rfl, hg.size, Whole.new_ _ _ [.int .i64 0, .int .i64 0]⟩
              · intro x y hg hall
                have d9 : x 9 = .tuple #[.agg #[.int .i64 p1, .int .i64 p2], .bool pk] := hall 9 (by decide) (by decide)
                simp only [dsts, List.map_cons, List.map_nil, putAll, Act.put, stA_, st0_, st1_]
                simp only [d9]
                refine ⟨.bool pk, ?_, rfl⟩
                apply yr_run; rfl; intro w' hw'; go_simp; (try with_reducible rfl)
              intro x y hg hall
              have d10 : x 10 = .agg #[.int .i64 p1, .int .i64 p2] := hall 10 (by decide)
              have d11 : x 11 = .bool pk := hall 11 (by decide)
              obtain ⟨gr, d12, hlr, hwr⟩ : ∃ g, x 12 = .pointer (some ⟨g, 0, none⟩) ∧ wi.heap.size ≤ g ∧ Whole y g 41 [.int .i64 0, .int .i64 0] := hall 12 (by decide)
              simp only [dsts, List.map_cons, List.map_nil, putAll, Act.put, stA_, st0_, st1_]
              simp only [d10, d11, d12]
              have HWy := Lib.hid hwr
              have HBy := Lib.hid (bel_bl (bel_dr (Below.refl _ wi)) hg)
              have HLr : RowKit.Hid (wi.heap.size ≤ gr) := Lib.hid hlr
              have HW0 : RowKit.Hid (wi.heap.size ≤ wi.heap.size) := Lib.hid (by omega)
              clear hg hall d10 d11 d12 hlr hwr
              apply wpR_store 13
              · rfl
              · rfl
              · kernel_rfl
              · rfl
              intro w' hw'
              refine ⟨w'.setRow gr #[.int .i64 p1, .int .i64 p2], store_row_run 41 (.tmp 7) (.tmp 50) rfl gr rfl [.int .i64 p1, .int .i64 p2] rfl 41 [.int .i64 0, .int .i64 0] (HWy.out.bl hw') (by kernel_rfl) rfl (by simp [Value.oneCell']), kept_row (show wi.heap.size ≤ gr by have := HLr.out; have := HW0.out; omega) _, ?_⟩
              have HWz : RowKit.Hid (Whole (w'.setRow gr #[.int .i64 p1, .int .i64 p2]) gr 41 [.int .i64 p1, .int .i64 p2]) := Lib.hid (Whole.row (HWy.out.bl hw') [.int .i64 p1, .int .i64 p2])
              have HBz : RowKit.Hid (Below wi.heap.size wi (w'.setRow gr #[.int .i64 p1, .int .i64 p2])) := Lib.hid (below_row (bel_bl HBy.out hw') HLr.out _)
              obtain ⟨V1, gV1⟩ : ∃ z, w'.setRow gr #[.int .i64 p1, .int .i64 p2] = z := ⟨_, rfl⟩
              rw [gV1] at HWz HBz ⊢
              clear hw' gV1 HWy HBy
              refine opR_ 14 8 (v := ?_) ?_ ?_; rotate_left
              · intro w' hw'; go_simp; (try with_reducible rfl)
              simp only [st0_, st1_]
              refine wpR_done (by kernel_rfl) ?_ _
              intro W8 hw8
              have HWr := Lib.hid (HWz.out.bl hw8)
              have HBr := Lib.hid (bel_bl HBz.out hw8)
              clear hw8 HWz HBz HW0
              obtain ⟨ga, gga⟩ : ∃ z, gr = z := ⟨_, rfl⟩
              rw [gga] at HWr ⊢
              obtain ⟨wa, gwa⟩ : ∃ z, W8 = z := ⟨_, rfl⟩
              rw [gwa] at HWr HBr ⊢
              clear gga gwa HLe HLr gr
              have HWa := HWr
              have HBa := HBr
              have HDa2 := Lib.hid (HDi.out.bl HBa.out)
              have HLe : RowKit.Hid (∀ W, Ext wa.drew W → W.cell? ⟨b0, 0, none⟩ = some (.slice A n c) ∧ W.cell? ⟨b0, 1, none⟩ = some (.slice (some ⟨bb, off, none⟩) m k) ∧ W.cell? ⟨bb, off + i * 4, none⟩ = some (.int .i64 e1) ∧ W.cell? ⟨bb, off + i * 4 + 1, none⟩ = some (.int .i64 e2)) := Lib.hid (fun W hb => HLd.out W (bel_bl HBa.out (bel_bl (bel_dr (Below.refl _ _)) hb)))
              clear HWr HBr
              go_upto_region 13 with fail
              refine wp_region_in3 13 11 (From_ wa.heap.size) (gamL [some (.agg #[.slice A n c, .slice (some ⟨bb, off, none⟩) m k]), some (.pointer (some ⟨b0, 1, none⟩)), some (.slice (some ⟨bb, off, none⟩) m k), some (.int .i64 (i : Int)), some (.pointer (some ⟨bb, off + i * 4, none⟩)), some (.pointer (some ⟨bb, off + i * 4, none⟩)), some (.agg #[.int .i64 e1, .int .i64 e2]), some (.agg #[.int .i64 e1, .int .i64 e2, .int .i64 1]), some (.tuple #[.agg #[.int .i64 s1, .int .i64 s2], .bool sk]), some (.tuple #[.agg #[.int .i64 s1, .int .i64 s2], .bool sk]), some (.agg #[.int .i64 s1, .int .i64 s2]), some (.bool sk), none] 12 wa.heap.size 41 [.int .i64 0, .int .i64 0]) (Ext wa.drew) (by kernel_rfl) (by kernel_rfl) (by kernel_rfl) (by kernel_rfl) (by kernel_rfl) (by kernel_rfl) (by simp only [List.getElem?_toArray, List.getElem?_cons_succ, List.getElem?_cons_zero]; exact rfl) (by kernel_rfl) (by kernel_rfl) (by kernel_rfl) ?_ (fun i v w1 w2 h hx => gamL_up i v w1 w2 h hx) (fun _ _ h k => h.trans k) (Ext.refl _) ?_ ?_ ?_
              · exact fun _ _ _ _ h => h
              · intro i hi9
                have hcase : i = 0 ∨ i = 1 ∨ i = 2 ∨ i = 3 ∨ i = 4 ∨ i = 5 ∨ i = 6 ∨ i = 7 ∨ i = 8 ∨ i = 9 ∨ i = 10 ∨ i = 11 ∨ i = 12 := by omega
                rcases hcase with rfl | rfl | rfl | rfl | rfl | rfl | rfl | rfl | rfl | rfl | rfl | rfl | rfl
                · intro o ho x y hg hdep
                  simp only [List.getElem?_toArray, List.getElem?_cons_succ, List.getElem?_cons_zero, Option.some.injEq] at ho
                  subst ho
                  obtain ⟨hl0, hl1, hl2, hl3⟩ := HLe.out _ hg
                  simp only [dsts, List.map_cons, List.map_nil, putAll, Act.put, stA_, st0_, st1_]
                  refine .inl ⟨by rfl, ?_⟩
                  go_simp
                  exact ⟨Ext.refl _, rfl⟩
                · intro o ho x y hg hdep
                  simp only [List.getElem?_toArray, List.getElem?_cons_succ, List.getElem?_cons_zero, Option.some.injEq] at ho
                  subst ho
                  simp only [dsts, List.map_cons, List.map_nil, putAll, Act.put, stA_, st0_, st1_]
                  refine .inl ⟨by rfl, ?_⟩
                  go_simp
                  exact ⟨Ext.refl _, rfl⟩
                · intro o ho x y hg hdep
                  simp only [List.getElem?_toArray, List.getElem?_cons_succ, List.getElem?_cons_zero, Option.some.injEq] at ho
                  subst ho
                  have d1 : x 1 = .pointer (some ⟨b0, 1, none⟩) := hdep 1 (by decide)
                  obtain ⟨hl0, hl1, hl2, hl3⟩ := HLe.out _ hg
                  simp only [dsts, List.map_cons, List.map_nil, putAll, Act.put, stA_, st0_, st1_]
                  simp only [d1]
                  refine .inl ⟨by rfl, ?_⟩
                  go_simp
                  exact ⟨Ext.refl _, rfl⟩
                · intro o ho x y hg hdep
                  simp only [List.getElem?_toArray, List.getElem?_cons_succ, List.getElem?_cons_zero, Option.some.injEq] at ho
                  subst ho
                  simp only [dsts, List.map_cons, List.map_nil, putAll, Act.put, stA_, st0_, st1_]
                  refine .inl ⟨by rfl, ?_⟩
                  go_simp
                  exact ⟨Ext.refl _, rfl⟩
                · intro o ho x y hg hdep
                  simp only [List.getElem?_toArray, List.getElem?_cons_succ, List.getElem?_cons_zero, Option.some.injEq] at ho
                  subst ho
                  have d2 : x 2 = .slice (some ⟨bb, off, none⟩) m k := hdep 2 (by decide)
                  have d3 : x 3 = .int .i64 (i : Int) := hdep 3 (by decide)
                  simp only [dsts, List.map_cons, List.map_nil, putAll, Act.put, stA_, st0_, st1_]
                  simp only [d2, d3]
                  refine .inl ⟨by rfl, ?_⟩
                  go_simp
                  exact ⟨Ext.refl _, rfl⟩
                · intro o ho x y hg hdep
                  simp only [List.getElem?_toArray, List.getElem?_cons_succ, List.getElem?_cons_zero, Option.some.injEq] at ho
                  subst ho
                  have d4 : x 4 = .pointer (some ⟨bb, off + i * 4, none⟩) := hdep 4 (by decide)
                  simp only [dsts, List.map_cons, List.map_nil, putAll, Act.put, stA_, st0_, st1_]
                  simp only [d4]
                  refine .inl ⟨by rfl, ?_⟩
                  go_simp
                  exact ⟨Ext.refl _, rfl⟩
                · intro o ho x y hg hdep
                  simp only [List.getElem?_toArray, List.getElem?_cons_succ, List.getElem?_cons_zero, Option.some.injEq] at ho
                  subst ho
                  have d5 : x 5 = .pointer (some ⟨bb, off + i * 4, none⟩) := hdep 5 (by decide)
                  obtain ⟨hl0, hl1, hl2, hl3⟩ := HLe.out _ hg
                  simp only [dsts, List.map_cons, List.map_nil, putAll, Act.put, stA_, st0_, st1_]
                  simp only [d5]
                  refine .inl ⟨by rfl, ?_⟩
                  go_simp
                  exact ⟨Ext.refl _, rfl⟩
                · intro o ho x y hg hdep
                  simp only [List.getElem?_toArray, List.getElem?_cons_succ, List.getElem?_cons_zero, Option.some.injEq] at ho
                  subst ho
                  have d6 : x 6 = .agg #[.int .i64 e1, .int .i64 e2] := hdep 6 (by decide)
                  simp only [dsts, List.map_cons, List.map_nil, putAll, Act.put, stA_, st0_, st1_]
                  simp only [d6]
                  refine .inl ⟨by rfl, ?_⟩
                  go_simp
                  exact ⟨Ext.refl _, rfl⟩
                · intro o ho x y hg hdep
                  simp only [List.getElem?_toArray, List.getElem?_cons_succ, List.getElem?_cons_zero, Option.some.injEq] at ho
                  subst ho
                  have d0 : x 0 = .agg #[.slice A n c, .slice (some ⟨bb, off, none⟩) m k] := hdep 0 (by decide)
                  have d7 : x 7 = .agg #[.int .i64 e1, .int .i64 e2, .int .i64 1] := hdep 7 (by decide)
                  simp only [dsts, List.map_cons, List.map_nil, putAll, Act.put, stA_, st0_, st1_]
                  simp only [d0, d7]
                  refine .inl ⟨by rfl, outT_call (by go_simp; first | done | exact ⟨rfl, rfl⟩ | with_reducible rfl) ?_⟩
                  refine (HA1.out y (HDa2.out.dr.bl hg)).mono ?_
                  rintro e w2 ⟨rfl, hb⟩
                  exact ⟨_, rfl, hb, rfl⟩
                · intro o ho x y hg hdep
                  simp only [List.getElem?_toArray, List.getElem?_cons_succ, List.getElem?_cons_zero, Option.some.injEq] at ho
                  subst ho
                  have d8 : x 8 = .tuple #[.agg #[.int .i64 s1, .int .i64 s2], .bool sk] := hdep 8 (by decide)
                  simp only [dsts, List.map_cons, List.map_nil, putAll, Act.put, stA_, st0_, st1_]
                  simp only [d8]
                  refine .inl ⟨by rfl, ?_⟩
                  go_simp
                  exact ⟨Ext.refl _, rfl⟩
                · intro o ho x y hg hdep
                  simp only [List.getElem?_toArray, List.getElem?_cons_succ, List.getElem?_cons_zero, Option.some.injEq] at ho
                  subst ho
                  have d9 : x 9 = .tuple #[.agg #[.int .i64 s1, .int .i64 s2], .bool sk] := hdep 9 (by decide)
                  simp only [dsts, List.map_cons, List.map_nil, putAll, Act.put, stA_, st0_, st1_]
                  simp only [d9]
                  refine .inl ⟨by rfl, ?_⟩
                  go_simp
                  exact ⟨Ext.refl _, rfl⟩
                · intro o ho x y hg hdep
                  simp only [List.getElem?_toArray, List.getElem?_cons_succ, List.getElem?_cons_zero, Option.some.injEq] at ho
                  subst ho
                  have d9 : x 9 = .tuple #[.agg #[.int .i64 s1, .int .i64 s2], .bool sk] := hdep 9 (by decide)
                  simp only [dsts, List.map_cons, List.map_nil, putAll, Act.put, stA_, st0_, st1_]
                  simp only [d9]
                  refine .inl ⟨by rfl, ?_⟩
                  go_simp
                  exact ⟨Ext.refl _, rfl⟩
                · intro o ho x y hg hdep
                  simp only [List.getElem?_toArray, List.getElem?_cons_succ, List.getElem?_cons_zero, Option.some.injEq] at ho
                  subst ho
                  simp only [dsts, List.map_cons, List.map_nil, putAll, Act.put, stA_, st0_, st1_]
                  refine .inl ⟨by rfl, outT_run (w' := y.alloc (.cells #[.int .i64 0, .int .i64 0] 41)) (by go_simp; first | done | exact rfl | exact ⟨rfl, rfl⟩) (below1 _ _) ?_⟩
                  exact ⟨y.heap.size, rfl, hg.size, Whole.new_ _ _ [.int .i64 0, .int .i64 0]⟩
              · intro x y hg hall
                have d9 : x 9 = .tuple #[.agg #[.int .i64 s1, .int .i64 s2], .bool sk] := hall 9 (by decide) (by decide)
                simp only [dsts, List.map_cons, List.map_nil, putAll, Act.put, stA_, st0_, st1_]
                simp only [d9]
                refine ⟨.bool sk, ?_, rfl⟩
                apply yr_run; rfl; intro w' hw'; go_simp; (try with_reducible rfl)
              intro x y hg hall
              have d10 : x 10 = .agg #[.int .i64 s1, .int .i64 s2] := hall 10 (by decide)
              have d11 : x 11 = .bool sk := hall 11 (by decide)
              obtain ⟨gr, d12, hlr, hwr⟩ : ∃ g, x 12 = .pointer (some ⟨g, 0, none⟩) ∧ wa.heap.size ≤ g ∧ Whole y g 41 [.int .i64 0, .int .i64 0] := hall 12 (by decide)
              simp only [dsts, List.map_cons, List.map_nil, putAll, Act.put, stA_, st0_, st1_]
              simp only [d10, d11, d12]
              have HWy := Lib.hid hwr
              have HBy := Lib.hid (bel_bl (bel_dr (Below.refl _ wa)) hg)
              have HLr : RowKit.Hid (wa.heap.size ≤ gr) := Lib.hid hlr
              have HW0 : RowKit.Hid (wa.heap.size ≤ wa.heap.size) := Lib.hid (by omega)
              clear hg hall d10 d11 d12 hlr hwr
              apply wpR_store 13
              · rfl
              · rfl
              · kernel_rfl
              · rfl
              intro w' hw'
              refine ⟨w'.setRow gr #[.int .i64 s1, .int .i64 s2], store_row_run 41 (.tmp 9) (.tmp 62) rfl gr rfl [.int .i64 s1, .int .i64 s2] rfl 41 [.int .i64 0, .int .i64 0] (HWy.out.bl hw') (by kernel_rfl) rfl (by simp [Value.oneCell']), kept_row (show wa.heap.size ≤ gr by have := HLr.out; have := HW0.out; omega) _, ?_⟩
              have HWz : RowKit.Hid (Whole (w'.setRow gr #[.int .i64 s1, .int .i64 s2]) gr 41 [.int .i64 s1, .int .i64 s2]) := Lib.hid (Whole.row (HWy.out.bl hw') [.int .i64 s1, .int .i64 s2])
              have HBz : RowKit.Hid (Below wa.heap.size wa (w'.setRow gr #[.int .i64 s1, .int .i64 s2])) := Lib.hid (below_row (bel_bl HBy.out hw') HLr.out _)
              obtain ⟨V1, gV1⟩ : ∃ z, w'.setRow gr #[.int .i64 s1, .int .i64 s2] = z := ⟨_, rfl⟩
              rw [gV1] at HWz HBz ⊢
              clear hw' gV1 HWy HBy
              refine opR_ 14 10 (v := ?_) ?_ ?_; rotate_left
              · intro w' hw'; go_simp; (try with_reducible rfl)
              simp only [st0_, st1_]
              refine wpR_done (by kernel_rfl) ?_ _
              intro W8 hw8
              have HWr := Lib.hid (HWz.out.bl hw8)
              have HBr := Lib.hid (bel_bl HBz.out hw8)
              clear hw8 HWz HBz HW0
              have HWb := HWr
              have HWa2 := Lib.hid (HWa.out.bl HBr.out)
              have HBb := Lib.hid (bel_bl HBa.out HBr.out)
              have HDb := Lib.hid (HDi.out.bl HBb.out)
              obtain ⟨c0, c1, -, -⟩ := HLd.out _ HBb.out
              have k0 := HWa2.out.cell (i := 0) rfl
              have k1 := HWa2.out.cell (i := 1) rfl
              clear HWr HBr HLe HLr HWa HBa HDa2
              go_wp2_with fail
              clear c0 c1 k0 k1
              refine (HC0.out _ HDb.out).mono ?_
              rintro e w9 ⟨rfl, hb9⟩
              have HB9 := Lib.hid (bel_bl HBb.out hb9)
              have HD9 := Lib.hid (HDb.out.bl hb9)
              have HW9 := Lib.hid (HWb.out.bl hb9)
              obtain ⟨c0, c1, -, -⟩ := HLd.out _ HB9.out
              have k0 := HW9.out.cell (i := 0) rfl
              have k1 := HW9.out.cell (i := 1) rfl
              clear hb9 HBb HDb HWb HWa2
              go_wp2_with fail
              clear c0 c1 k0 k1
              refine (HC1.out _ HD9.out).mono ?_
              rintro e w10 ⟨rfl, hb10⟩
              have HB10 := Lib.hid (bel_bl HB9.out hb10)
              have HOn := Lib.hid (own_up HOi.out HB10.out)
              have HBn := Lib.hid (bel_bl HBi.out HB10.out)
              clear hb10 HB9 HD9 HW9 HB10 HLd HOi
              have hll : ((P.take i).foldl rlx (rndN P n j)).length = n := by rw [fold_len, rnd_len]
              have hst : (P.take (i + 1)).foldl rlx (rndN P n j) = rlx ((P.take i).foldl rlx (rndN P n j)) (pa, pb) := by
                rw [List.take_add_one, Hpi.out, List.foldl_append]
                rfl
              obtain ⟨L, gL⟩ : ∃ z, (P.take i).foldl rlx (rndN P n j) = z := ⟨_, rfl⟩
              rw [gL] at hll hst HOn
              have hxa : L[pa]? = some (L.getD pa 0) := by rw [List.getD_eq_getElem?_getD, List.getElem?_eq_getElem (by omega)]; rfl
              have hxb : L[pb]? = some (L.getD pb 0) := by rw [List.getD_eq_getElem?_getD, List.getElem?_eq_getElem (by omega)]; rfl
              obtain ⟨gq, junk, eq, hlo, hw, hc, -, -⟩ := own_poke (i := 0) (y := 0) (u := .int .i64 0) n1_len HOn.out hxa hpa (by omega) rfl
              subst eq
              obtain ⟨gq2, junk2, eq2, -, hw2, hcb, -, -⟩ := own_poke (i := 0) (y := 0) (u := .int .i64 0) n1_len HOn.out hxb hpb (by omega) rfl
              obtain rfl : gq = gq2 := by
                injection eq2 with eq2
                injection eq2
              simp only [Nat.mul_one, Nat.add_zero] at hc hcb
              obtain ⟨va, gva⟩ : ∃ z, L.getD pa 0 = z := ⟨_, rfl⟩
              obtain ⟨vb, gvb⟩ : ∃ z, L.getD pb 0 = z := ⟨_, rfl⟩
              replace hc : w10.cell? ⟨gq, pa, none⟩ = some (.int .i64 va) := by rw [hc, ← gva]; rfl
              replace hcb : w10.cell? ⟨gq, pb, none⟩ = some (.int .i64 vb) := by rw [hcb, ← gvb]; rfl
              obtain ⟨mn, gmn⟩ : ∃ z, min va vb = z := ⟨_, rfl⟩
              have HRl : RowKit.Hid (rlx L (pa, pb) = (L.set pa mn).set pb mn) := Lib.hid (by rw [rlx, gva, gvb, gmn])
              have t0 : decide ((0 : Int) ≤ (pa : Int)) = true := decide_eq_true (by omega)
              have t1 : decide ((0 : Int) ≤ (pb : Int)) = true := decide_eq_true (by omega)
              have Hc := Lib.hid hc
              have Hcb := Lib.hid hcb
              have HLo := Lib.hid hlo
              have Hll := Lib.hid hll
              have Hst := Lib.hid hst
              have Hxa := Lib.hid hxa
              clear gL hxa hxb hlo hw hw2 eq2 hc hcb hll hst gva gvb
              go_upto_region 17 with fail
              have ld0 : ∀ w', Kept Nil_ w10.drew w' → w'.cell? ⟨gq, pa, none⟩ = some (.int .i64 va) := fun w' h => h.nil_cell (show w10.drew.cell? _ = _ from Hc.out)
              have ld1 : ∀ w', Kept Nil_ w10.drew w' → w'.cell? ⟨gq, pb, none⟩ = some (.int .i64 vb) := fun w' h => h.nil_cell (show w10.drew.cell? _ = _ from Hcb.out)
              refine wp_region_reg (Nil_) (by kernel_rfl) ?_
              refine opR_ 0 76 (v := ?_) ?_ ?_; rotate_left
              · intro w' hw'; go_simp; (try with_reducible rfl)
              simp only [st0_, st1_]
              refine opR_ 1 77 (v := ?_) ?_ ?_; rotate_left
              · intro w' hw'; go_simp; (try with_reducible rfl)
              simp only [st0_, st1_]
              refine opR_ 2 78 (v := ?_) ?_ ?_; rotate_left
              · intro w' hw'; go_simp; (try with_reducible rfl)
              simp only [st0_, st1_]
              refine opR_ 3 79 (v := ?_) ?_ ?_; rotate_left
              · intro w' hw'; go_simp; (try with_reducible rfl)
              simp only [st0_, st1_]
              refine opR_ 4 80 (v := ?_) ?_ ?_; rotate_left
              · intro w' hw'; go_simp; (try with_reducible rfl)
              simp only [st0_, st1_]
              refine opR_ 5 81 (v := ?_) ?_ ?_; rotate_left
              · intro w' hw'; go_simp; (try with_reducible rfl)
              simp only [st0_, st1_]
              refine opR_ 6 82 (v := ?_) ?_ ?_; rotate_left
              · intro w' hw'; go_simp; (try with_reducible rfl)
              simp only [st0_, st1_]
              refine opR_ 7 83 (v := ?_) ?_ ?_; rotate_left
              · intro w' hw'; go_simp; (try with_reducible rfl)
              simp only [st0_, st1_]
              refine opR_ 8 84 (v := ?_) ?_ ?_; rotate_left
              · intro w' hw'; go_simp; (try with_reducible rfl)
              simp only [st0_, st1_]
              refine opR_ 9 13 (v := ?_) ?_ ?_; rotate_left
              · intro w' hw'; go_simp; (try with_reducible rfl)
              simp only [st0_, st1_]
              refine wpR_done (by kernel_rfl) ?_ _
              intro W8 hw8
              have HO8 := Lib.hid (own_up HOn.out (bel_bl (bel_dr (Below.refl _ _)) hw8))
              have HB8 := Lib.hid (bel_bl (bel_dr HBn.out) hw8)
              clear hw8 HOn HBn ld0 ld1 Hc Hcb
              obtain ⟨gq1, junk1, eq1, hlo1, -, hc1, hfr, ho⟩ := own_poke (i := 0) (y := mn) (u := .int .i64 mn) n1_len HO8.out Hxa.out hpa (by omega) rfl
              obtain rfl : gq = gq1 := by
                injection eq1 with eq1
                injection eq1
              have hyb : (L.set pa mn)[pb]? = some ((L.set pa mn).getD pb 0) := by rw [List.getD_eq_getElem?_getD, List.getElem?_eq_getElem (by rw [List.length_set, Hll.out]; exact hpb)]; rfl
              obtain ⟨gq3, junk3, eq3, -, hw3, hc3, hf3, ho3⟩ := own_poke (i := 0) (y := mn) (u := .int .i64 mn) n1_len ho hyb hpb (by omega) rfl
              obtain rfl : gq = gq3 := by
                injection eq3 with eq3
                injection eq3
              simp only [Nat.mul_one, Nat.add_zero] at hc1 hfr ho hc3 hf3 ho3
              rw [← HRl.out, ← Hst.out] at ho3
              obtain ⟨vc, gvc⟩ : ∃ z, (L.set pa mn).getD pb 0 = z := ⟨_, rfl⟩
              obtain ⟨vd, gvd⟩ : ∃ z, L.getD pa 0 = z := ⟨_, rfl⟩
              replace hc1 : W8.cell? ⟨gq, pa, none⟩ = some (.int .i64 vd) := by rw [hc1, ← gvd]; rfl
              replace hc3 : (W8.setCell ⟨gq, pa, none⟩ (.int .i64 mn)).cell? ⟨gq, pb, none⟩ = some (.int .i64 vc) := by rw [hc3, ← gvc]; rfl
              have HO3 := Lib.hid ho3
              have HB3 := Lib.hid ((HB8.out.setCell (p := ⟨gq, pa, none⟩) hlo1 (.int .i64 mn)).setCell (p := ⟨gq, pb, none⟩) hlo1 (.int .i64 mn))
              clear eq1 eq3 ho hyb hw3 ho3 gvc gvd HO8 HB8 Hll Hst Hxa HRl
              go_wp2
              go_roundw
              case rel => exact ⟨i + 1, by omega, by go_num, HB3, HO3⟩
              case measure => simp [intOf] <;> omega
            · obtain rfl : m = i := by omega
              have hO := HOi.out
              rw [List.take_of_length_le (by rw [HPl.out]; exact Nat.le_refl _)] at hO
              have HOn : RowKit.Hid (wi.ownsRow W0.heap.size 3 1 (.slice go_ n co) n (rowsV n1 (rndN P n (j + 1)))) := Lib.hid hO
              clear hO HOi
              go_wp2
              go_roundw
              case rel => exact ⟨j + 1, by omega, by go_num, HBi, HOn⟩
              case measure => simp [intOf] <;> omega
        · obtain rfl : n = j := by omega
          have hO := HOo.out
          rw [HRn.out] at hO
          have HO9 := Lib.hid hO
          clear hO HOo
          go_wp2
          go_ret
          exact ⟨go_, co, rfl, own_rds HO9.out, HB0.out.trans (HBo.out.mono HB0.out.size)⟩
end Go.Proofs.YtmkflebkifbpfaaGreat
/- The document's Count, Together, Parts. -/
namespace Go.Proofs.YtmkflebkifbpfaaGreat
open Go.RowKit
set_option maxRecDepth 100000 in
set_option maxHeartbeats 4000000 in
theorem rcount_any (A : Option Addr) (n c : Nat) (Vs : List VC) (B : Option Addr) (m k : Nat) (Es : List EC) (w : World) (h : DgIn w A n c Vs B m k Es) (hf : Formed Vs Es) :
    Calls Tryz.prog 65 #[.agg #[.slice A n c, .slice B m k]] w fun e w' => e = .returned (.int .i64 ((cntF (labF Vs) : Nat) : Int)) ∧ Below w.heap.size w w' := by
  obtain ⟨hn24, hm40, hr80⟩ := hf.small h
  have Hlv := Lib.hid (h.v.rlen vC_len (by decide))
  have HD := Lib.hid h
  have HLok := Lib.hid (labF_ok Vs)
  obtain ⟨L, gL⟩ : ∃ z, labF Vs = z := ⟨_, rfl⟩
  have HLl : RowKit.Hid (L.length = n) := Lib.hid (by rw [← gL, labF_len]; exact Hlv.out)
  have HLb : RowKit.Hid (∀ W, DgIn W A n c Vs B m k Es → Calls Tryz.prog 84 #[.agg #[.slice A n c, .slice B m k]] W fun e w' => ∃ A2 c2, e = .returned (.slice A2 n c2) ∧ RdS w' w'.heap.size 1 A2 n c2 (rowsV n1 L) ∧ Below W.heap.size W w') := Lib.hid (fun W h => gL ▸ rlabels_any A n c Vs B m k Es W h hf)
  have hcn : cntF (labF Vs) = rk L n := by rw [cntF, labF_len, Hlv.out, gL]; rfl
  rw [hcn]
  clear h hf hr80 gL hcn
  go_enter Tryz.func65, Tryz.ntmps65
  go_upto_region 1 with fail
  have hx0 : Whole (w.alloc (.cells #[.slice A n c, .slice B m k] 25)) (w.heap.size) 25 [.slice A n c, .slice B m k] := (Whole.new_ w 25 [.slice A n c, .slice B m k])
  have hbl : Below w.heap.size w (w.alloc (.cells #[.slice A n c, .slice B m k] 25)) := (below1 w (.cells #[.slice A n c, .slice B m k] 25))
  have hsz : w.heap.size + 1 ≤ ((w.alloc (.cells #[.slice A n c, .slice B m k] 25))).heap.size := by simp
  obtain ⟨W0, gW0⟩ : ∃ z, (w.alloc (.cells #[.slice A n c, .slice B m k] 25)) = z := ⟨_, rfl⟩
  rw [gW0] at hx0 hbl hsz
  obtain ⟨b0, gb0⟩ : ∃ z, w.heap.size = z := ⟨_, rfl⟩
  rw [gb0] at hx0
  have HX0 := Lib.hid hx0
  have HB0 := Lib.hid hbl
  have HS0 := Lib.hid hsz
  have Gb0 := Lib.hid gb0
  have Lb0 : RowKit.Hid (w.heap.size ≤ b0) := Lib.hid (by omega)
  rw [gW0, gb0]
  clear gW0 hbl hsz hx0 gb0
  have c0 := HX0.out.cell (i := 0) rfl
  have c1 := HX0.out.cell (i := 1) rfl
  go_wp2_with fail
  clear c0 c1
  refine (HLb.out _ (HD.out.bl HB0.out)).mono ?_
  rintro e w3 ⟨A2, c2, rfl, hr3, hb3⟩
  have HR3 := Lib.hid hr3
  have HB3 := Lib.hid (bel_bl HB0.out hb3)
  clear hr3 hb3
  go_wp2
  go_loopw [4, 5] (fun sn si wr => ∃ j : Nat, j ≤ n ∧ si = .int .i64 j ∧ sn = .int .i64 ((rk L j : Nat) : Int) ∧ RowKit.Hid (Below w3.heap.size w3 wr)) (fun _ si _ => n - (intOf si).toNat)
  case atStart => exact ⟨0, by omega, rfl, rfl, Lib.hid (Below.refl _ _)⟩
  case round =>
    obtain ⟨j, hj, rfl, rfl, HBr⟩ := hrel
    by_cases hjn : j < n
    · obtain ⟨x, hx⟩ : ∃ x, L[j]? = some x := ⟨_, List.getElem?_eq_getElem (by have := HLl.out; omega)⟩
      obtain ⟨bb, off, rfl, hbB, hpl⟩ := HR3.out.place n1_len (by decide) (by omega)
      have q0 := hpl j x hx 0 _ rfl
      simp only [Addr.add_lit, Nat.add_zero, Nat.mul_one] at q0
      have l0 := (HBr.out.cell (p := ⟨bb, off + j, none⟩) hbB).trans q0
      have hk : rk L (j + 1) = rk L j + (if x == (j : Int) then 1 else 0) := by
        rw [rk_succ, rootB, List.getD_eq_getElem?_getD, hx]
        rfl
      have hkj : rk L j ≤ j := by rw [rk]; have := List.countP_le_length (p := rootB L) (l := List.range j); simpa using this
      obtain ⟨t, gt⟩ : ∃ z, rk L j = z := ⟨_, rfl⟩
      rw [gt] at hk hkj
      rw [gt]
      obtain ⟨b, gb⟩ : ∃ z, (x == (j : Int)) = z := ⟨_, rfl⟩
      rw [gb] at hk
      have Hk := Lib.hid hk
      clear hx hbB hpl q0 hk gt
      cases b with
      | true =>
        go_wp2
        go_roundw
        case rel => exact ⟨j + 1, by omega, by go_num, by rw [Hk.out]; go_num, HBr⟩
        case measure => simp [intOf] <;> omega
      | false =>
        go_wp2
        go_roundw
        case rel => exact ⟨j + 1, by omega, by go_num, by rw [Hk.out]; rfl, HBr⟩
        case measure => simp [intOf] <;> omega
    · obtain rfl : n = j := by omega
      go_wp2
      go_ret
      exact ⟨rfl, HB3.out.trans (HBr.out.mono HB3.out.size)⟩
/-- A row more. -/
theorem RowsIn.push {P : Program} {α : Type} {W : World} {lo : Nat} {UR UE : TypeId} {s : Nat} {f : α → List Value} {A : Option Addr} {n c : Nat} {X : List (Rw α)} (h : RowsIn W lo UR UE s f A n c X) (x : Rw α) (hx : W.ownsRow lo UE s (rwV x) x.2.2.length (rowsV f x.2.2)) (hd : ∀ y ∈ X, ∀ a b, y.1 = some a → x.1 = some b → a.block ≠ b.block)
    (t ty : TypeId) (i : TypeInfo) (z : Value) (ht : P.underlying t = some (.slice UR)) (hi : P.info? UR = some i) (hz : i.zero = some z) (hsize : i.size = 1) (hby : i.bytes = 24) (hzs : z.cells.size = 1)
    (hT : UR ≠ UE) (hn : n ≤ 1000000) (hlo : lo ≤ W.heap.size) (A1 : Option Addr) (c1 : Nat) (hr : RdS W W.heap.size 1 A1 1 c1 [rwV x]) :
    ∃ A' c' W', (Builtin.append_ #[t, t] ty #[.slice A n c, .slice A1 1 c1]).run P W = .ok (.slice A' (n + 1) c') W' ∧ RowsIn W' lo UR UE s f A' (n + 1) c' (X ++ [x]) ∧ Below lo W W' ∧ W.grownBy W' (Value.slice A n c).ownBlock := by
  obtain ⟨a1, rfl⟩ : ∃ a1, A1 = some a1 := by
    cases A1 with
    | none => have := (hr.none_ rfl).1; omega
    | some a1 => exact ⟨a1, rfl⟩
  obtain ⟨v', W2, hrun, hown, hg, hn0, hb⟩ := run_append_own_at (P := P) W lo t ty UR i z 1 24 ht hi hz hsize hby hzs (by decide) _ n _ h.row a1 1 c1 _ hr.len (hr.cell a1 rfl) (by simp [rwV, Value.oneCell']) (by unfold maxLen; omega) (by omega) hlo
  have hk : ∀ k, (Value.slice A n c).ownBlock = some k → lo ≤ k := fun k hk => (h.row.lt k hk).1
  obtain ⟨A', c', rfl, _⟩ := RdS.of_own hown
  have e : rowsV rwC X ++ [rwV x] = rowsV rwC (X ++ [x]) := by rw [rowsV_app]; rfl
  rw [e] at hown
  have keep : ∀ y : Rw α, W.ownsRow lo UE s (rwV y) y.2.2.length (rowsV f y.2.2) → W2.ownsRow lo UE s (rwV y) y.2.2.length (rowsV f y.2.2) := fun y hy => hy.kept hg (by
    cases hv : (rwV y).ownBlock with
    | none => exact .inl rfl
    | some g => exact .inr fun q => own_two h.row hy hT q.symm hv)
  refine ⟨A', c', W2, hrun, ⟨hown, by simp [h.len], fun y hy => ?_, fun i j u v a b hij hu hv hua hvb => ?_⟩, (Below.refl lo W).grown hg hlo hk, hg⟩
  · rcases List.mem_append.1 hy with hy | hy
    · exact keep y (h.one y hy)
    · obtain rfl := List.mem_singleton.1 hy
      exact keep y hx
  · have get : ∀ (i : Nat) (u : Rw α), (X ++ [x])[i]? = some u → X[i]? = some u ∨ (i = X.length ∧ u = x) := fun i u hu => by
      by_cases hi : i < X.length
      · rw [List.getElem?_append_left hi] at hu; exact .inl hu
      · rw [List.getElem?_append_right (by omega)] at hu
        have h1 := (List.getElem?_eq_some_iff.1 hu).1
        simp at h1
        have e0 : i - X.length = 0 := by omega
        rw [e0] at hu
        exact .inr ⟨by omega, by simpa using hu.symm⟩
    rcases get i u hu with hu' | ⟨ei, eu⟩
    · rcases get j v hv with hv' | ⟨ej, ev⟩
      · exact h.ne i j u v a b hij hu' hv' hua hvb
      · exact hd u (List.mem_of_getElem? hu') a b hua (by rw [← ev]; exact hvb)
    · rcases get j v hv with hv' | ⟨ej, ev⟩
      · exact fun q => hd v (List.mem_of_getElem? hv') b a hvb (by rw [← eu]; exact hua) q.symm
      · omega
end Go.Proofs.YtmkflebkifbpfaaGreat
/- For Faces: a store into a map of darts in a round; the marks that a loop over iterators gathers; what faces are. -/
namespace Go.Proofs.YtmkflebkifbpfaaGreat
open Go.RowKit
section
variable {b n : Nat} {f : D → Option Value} {S : List D} {w w' : World} {x : D} {t e : TypeId} {ops : Array Oper} {rest : List Oper} {o : Oper} {a : Act} {Q : Exit → Act → World → Prop} {F : Fence} {nF : Nat}
theorem wlIn_dPut (hg : o.guard = none) (m y v : Operand) (ho : o.op = .mapUpdate t m y v) (hm : a.eval m = .map (some b)) (h : MapD w b n f S) (ht : Tryz.prog.underlying t = some (.map 49 e)) (hn : n < maxLen) (hx : wfD x)
    (hy : a.eval y = dV x) {u : Value} (hv : a.eval v = u) (hK : ∀ w', MapD w' b (n + 1) (fun y => if y = x then some u else f y) (insD x S) → w.grownBy w' (some b) → wpListIn F nF Tryz.prog ops Q rest (a.put o.dst undef) w') : wpListIn F nF Tryz.prog ops Q (o :: rest) a w := by
  refine wpListIn_plain hg fun K' hK' => ?_
  obtain ⟨w', h1, h2, h3⟩ := h.put ht hn hx u
  unfold Oper.wpIn
  refine ⟨?_, ?_⟩
  · simp [Oper.about, ho]
  · rw [Oper.semAt_plain F _ _ (by rw [ho]; intro c hc'; cases hc'), exec_mapPut ho hm hy hv h1]
    exact hK' _ _ (hK w' h2 h3)
end
/-- The marks that loops over iterators have left, each with its block, from lo on. -/
def Marks (W : World) (lo : Nat) : List Deferred → Prop
  | [] => True
  | d :: r => (∃ k, d = { target := .collected k, args := #[] } ∧ lo ≤ k ∧ W.heap[k]? = some (.deferred (some [])) ∧ ∀ e ∈ r, e ≠ d) ∧ Marks W lo r
/-- Blocks for deferred calls may be shut. -/
structure Shut (lo : Nat) (W W' : World) : Prop where
  os : W'.os = W.os
  tape : W'.tape = W.tape
  output : W'.output = W.output
  size : W.heap.size = W'.heap.size
  block : ∀ i o, W.heap[i]? = some o → (i < lo ∨ o.isCells = true) → W'.heap[i]? = some o
theorem Shut.refl (lo : Nat) (W : World) : Shut lo W W := ⟨rfl, rfl, rfl, rfl, fun _ _ h _ => h⟩
theorem Shut.put {lo : Nat} {W W' : World} (h : Shut lo W W') {k : Nat} (hk : lo ≤ k) (hd : W'.heap[k]? = some (.deferred (some []))) : Shut lo W (W'.putObj k (.deferred none)) := by
  refine ⟨h.os, h.tape, h.output, by rw [h.size]; simp, fun i o hi hc => ?_⟩
  have h1 := h.block i o hi hc
  by_cases e : i = k
  · subst e
    exfalso
    rw [hd] at h1
    injection h1 with h1
    subst h1
    rcases hc with hc | hc
    · omega
    · cases hc
  · exact (World.putObj_heap_other e).trans h1
theorem Shut.below {lo n : Nat} {W W' : World} (h : Shut lo W W') (hn : n ≤ lo) : Below n W W' := by
  refine ⟨h.os, h.tape, h.output, Nat.le_of_eq h.size, fun k hk => ?_⟩
  cases e : W.heap[k]? with
  | none =>
    have h1 := h.size
    rw [Array.getElem?_eq_none_iff] at e ⊢
    omega
  | some o => exact h.block k o e (.inl (by omega))
theorem Marks.at_ {W W' : World} {lo : Nat} : ∀ {ds : List Deferred}, Marks W lo ds → (∀ k, lo ≤ k → W.heap[k]? = some (.deferred (some [])) → W'.heap[k]? = some (.deferred (some []))) → Marks W' lo ds
  | [], _, _ => trivial
  | _ :: _, ⟨⟨k, h1, h2, h3, h4⟩, hr⟩, hk => ⟨⟨k, h1, h2, hk k h2 h3, h4⟩, hr.at_ hk⟩
theorem Marks.other {W : World} {lo j : Nat} {d : Deferred} (hd : d = { target := .collected j, args := #[] }) (hlo : lo ≤ j) : ∀ {ds : List Deferred}, Marks W lo ds → (∀ e ∈ ds, e ≠ d) → Marks (W.putObj j (.deferred none)) lo ds
  | [], _, _ => trivial
  | c :: r, ⟨⟨k, h1, h2, h3, h4⟩, hr⟩, hne => by
    refine ⟨⟨k, h1, h2, ?_, h4⟩, hr.other hd hlo (fun e he => hne e (List.mem_cons_of_mem _ he))⟩
    have hkj : k ≠ j := fun e => hne c (List.mem_cons_self ..) (by rw [h1, hd, e])
    exact (World.putObj_heap_other hkj).trans h3
theorem leaves_marks {F : Fence} {n : Nat} {P : Program} {fn : Func} {tmps : Array Value} {R : Ending → World → Prop} {lo : Nat} {V : World} (hR : ∀ W', Shut lo V W' → LeavesIn F n P fn tmps R [] .returning W') :
    ∀ (ds : List Deferred) (W : World), Shut lo V W → Marks W lo ds → LeavesInM F n P fn tmps R ds .returning W
  | [], W, hS, _ => hR W hS
  | d :: r, W, hS, ⟨⟨k, h1, h2, h3, h4⟩, hr⟩ => by
    refine ⟨by simp, .inl ⟨k, W.putObj k (.deferred none), by rw [h1], run_takeDeferred h3, ?_⟩⟩
    exact leaves_marks hR r _ (hS.put h2 h3) (hr.other h1 h2 (fun e he => h4 e he))
theorem Marks.push {W : World} {lo k : Nat} {ds : List Deferred} (h : Marks W lo ds) (hk : lo ≤ k) (hd : W.heap[k]? = some (.deferred (some []))) (hne : ∀ e ∈ ds, e ≠ { target := .collected k, args := #[] }) : Marks W lo ({ target := .collected k, args := #[] } :: ds) :=
  ⟨⟨k, rfl, hk, hd, hne⟩, h⟩
theorem Marks.lt {W : World} {lo : Nat} : ∀ {ds : List Deferred}, Marks W lo ds → ∀ e ∈ ds, ∃ k, e = { target := .collected k, args := #[] } ∧ k < W.heap.size
  | [], _, _, h => by cases h
  | _ :: _, ⟨⟨k, h1, _, h3, _⟩, hr⟩, e, he => by
    rcases List.mem_cons.1 he with rfl | he
    · exact ⟨k, h1, (Array.getElem?_eq_some_iff.1 h3).1⟩
    · exact hr.lt e he
/-- All faces, of the darts that are still to come, T being told. -/
def facesF (g : D → Option D) (N : Nat) : List D → List D → List (List D)
  | [], _ => []
  | x :: r, T => if x ∈ T then facesF g N r T else faceL g N x :: facesF g N r (T ++ faceL g N x)
theorem rowsD (L : List D) : rowsV encD L = dartsV L := by
  induction L with
  | nil => rfl
  | cons x L ih =>
    show encD x ++ rowsV encD L = _
    rw [ih]
    rfl
/-- A row whose block lies as it lay. -/
theorem own_at {W W' : World} {lo k n : Nat} {e : TypeId} {v : Value} {xs : List Value} (h : W.ownsRow lo e k v n xs) (hb : ∀ g, v.ownBlock = some g → W'.heap[g]? = W.heap[g]?) : W'.ownsRow lo e k v n xs := by
  refine ⟨h.1, ?_⟩
  rcases h.2 with q | ⟨g, cap, cur, q1, q2, q3, q4⟩
  · exact .inl q
  · exact .inr ⟨g, cap, cur, q1, q2, (hb g (by rw [q1]; rfl)).trans q3, q4⟩
theorem RowsIn.at_ {α : Type} {W W' : World} {lo : Nat} {UR UE : TypeId} {s : Nat} {f : α → List Value} {A : Option Addr} {n c : Nat} {X : List (Rw α)} (h : RowsIn W lo UR UE s f A n c X)
    (hb : ∀ g cs t fr, lo ≤ g → W.heap[g]? = some (.cells cs t fr) → (t = UR ∨ t = UE) → W'.heap[g]? = W.heap[g]?) : RowsIn W' lo UR UE s f A n c X := by
  refine ⟨own_at h.row fun g hg => ?_, h.len, fun x hx => own_at (h.one x hx) fun g hg => ?_, h.ne⟩
  · rcases h.row.2 with ⟨q, _⟩ | ⟨g', cap, cur, q1, q2, q3, q4⟩
    · rw [q] at hg; cases hg
    · rw [q1] at hg
      obtain rfl : g' = g := Option.some.inj hg
      exact hb g' cur UR (0, 0) q2 q3 (.inl rfl)
  · rcases (h.one x hx).2 with ⟨q, _⟩ | ⟨g', cap, cur, q1, q2, q3, q4⟩
    · rw [q] at hg; cases hg
    · rw [q1] at hg
      obtain rfl : g' = g := Option.some.inj hg
      exact hb g' cur UE (0, 0) q2 q3 (.inr rfl)
end Go.Proofs.YtmkflebkifbpfaaGreat
/- face.Faces. -/
namespace Go.Proofs.YtmkflebkifbpfaaGreat
open Go.RowKit
attribute [local go_sem] Oper.semAt_some
/-- What has come of a face: in the row of box bf, and told in the map bt, T having been told ahead. -/
def FcI (V : World) (bt bf bl : Nat) (T : List D) (q : Nat) (p : List D2) (W : World) : Prop :=
  Kept (fun i => i = bt ∨ i = bf ∨ bl ≤ i) V W ∧ (∃ A c, Whole W bf 45 [.slice A p.length c] ∧ W.ownsRow (bl + 3) 49 3 (.slice A p.length c) p.length (dartsV (p.map (·.1)))) ∧
    ∃ ft St, MapD W bt (q + p.length) ft St ∧ ∀ y, (ft y).isSome = true ↔ y ∈ T ∨ y ∈ p.map (·.1)
theorem Kept.gr {S : Nat → Prop} {V W W' : World} {r : Option Nat} (h : Kept S V W) (hg : W.grownBy W' r) (hr : ∀ k, r = some k → S k) : Kept S V W' :=
  h.trans ⟨hg.os, hg.tape, hg.output, hg.size, fun i hi hn => hg.block i hi (fun e => hn (hr i e.symm))⟩
theorem info_rowD : (Tryz.prog.info? 45).map (fun i => (i.zero, i.size, i.bytes)) = some (some (.slice none 0 0), 1, 24) := by kernel_rfl
theorem MapD.notcells {w : World} {b n : Nat} {f : D → Option Value} {S : List D} {cs : Array Value} {t : TypeId} {fr : Nat × Nat} (h : MapD w b n f S) (hc : w.heap[b]? = some (.cells cs t fr)) : False := by
  obtain ⟨D, ⟨es, clock, h1, _⟩, _⟩ := h
  rw [h1] at hc
  cases hc
theorem own_cells {W : World} {lo k n g : Nat} {e : TypeId} {v : Value} {xs : List Value} (h : W.ownsRow lo e k v n xs) (hg : v.ownBlock = some g) : ∃ cs, W.heap[g]? = some (.cells cs e (0, 0)) := by
  rcases h.2 with ⟨q, _⟩ | ⟨g', cap, cur, q1, q2, q3, q4⟩
  · rw [q] at hg; cases hg
  · rw [q1] at hg
    obtain rfl : g' = g := Option.some.inj hg
    exact ⟨_, q3⟩
theorem own_kept2 {V W : World} {lo k n bt bf bl nq : Nat} {e : TypeId} {v : Value} {xs : List Value} {f : D → Option Value} {S : List D} (h : V.ownsRow lo e k v n xs) (hk : Kept (fun i => i = bt ∨ i = bf ∨ bl ≤ i) V W) (hm : MapD V bt nq f S) (hlt : ∀ g, v.ownBlock = some g → g < bf) (hbf : bf < bl) : W.ownsRow lo e k v n xs :=
  own_at h fun g hg => by
    obtain ⟨cs, hc⟩ := own_cells h hg
    refine hk.block g (Array.getElem?_eq_some_iff.1 hc).1 (fun q => ?_)
    have := hlt g hg
    rcases q with rfl | q | q
    · exact hm.notcells hc
    · omega
    · omega
theorem newC (W : World) (y1 y2 y3 : Int) : ∀ j u, [Value.int .i64 y1, Value.int .i64 y2, Value.int .i64 y3][j]? = some u → (W.alloc (.cells #[.int .i64 y1, .int .i64 y2, .int .i64 y3] 49)).cell? ((⟨W.heap.size, 0, none⟩ : Addr).add j) = some u := fun j u hj => by
  have e := (Whole.new_ W 49 [.int .i64 y1, .int .i64 y2, .int .i64 y3]).cell hj
  rw [Addr.add_lit, Nat.zero_add]
  exact e
theorem FcI.abs {V : World} {bt bf bl : Nat} {T : List D} {q : Nat} {p : List D2} (h1 : bt < bl) (h2 : bf < bl) : AbS bl (FcI V bt bf bl T q p) := by
  rintro W W' r ⟨hk, ⟨A, c, e1, e2⟩, ft, St, e3, e4⟩ hg hr1 hr2
  refine ⟨hk.gr hg (fun k e => by cases e; exact .inr (.inr hr1)), ⟨A, c, e1.at_ (hg.block bf e1.lt (fun e => by cases e; omega)), e2.kept hg (.inr (fun e => by have := (e2.lt r e).1; omega))⟩, ft, St, e3.grown hg (fun e => by cases e; omega), e4⟩
theorem FcI.al {V W : World} {bt bf bl : Nat} {T : List D} {q : Nat} {p : List D2} (h : FcI V bt bf bl T q p W) (o : Obj) : FcI V bt bf bl T q p (W.alloc o) := by
  obtain ⟨hk, ⟨A, c, e1, e2⟩, ft, St, e3, e4⟩ := h
  exact ⟨hk.trans (Kept.of_below (below1 W o)), ⟨A, c, e1.al o, e2.alloc o⟩, ft, St, e3.al o, e4⟩
set_option maxRecDepth 100000 in
set_option maxHeartbeats 4000000 in
theorem faces_any (A : Option Addr) (n c : Nat) (Vs : List VC) (B : Option Addr) (m k : Nat) (Es : List EC) (w : World) (h : DgIn w A n c Vs B m k Es) (hn : n ≤ 1000000) (hr : ∀ x ∈ Vs, x.2.1.2.1 ≤ 1000000) (hs : ∀ v ∈ Vs, ∀ d ∈ v.2.1.2.2.2, wfS d)
    (hK : ∀ S, KeysD (sigM Vs) S → S.length ≤ 1000000) (hdl : (dsV Vs).length ≤ 1000000) :
    Calls Tryz.prog 92 #[.agg #[.slice A n c, .slice B m k]] w fun e w' => ∃ S A' c' X, KeysD (sigM Vs) S ∧ e = .returned (.slice A' X.length c') ∧ RowsIn w' (w.heap.size + 1) 45 49 3 encD A' X.length c' X ∧ X.map (·.2.2) = facesF (sigM Vs) S.length (sortD (dsV Vs)) [] ∧ Below w.heap.size w w' := by
  have HD := Lib.hid h
  have Hn := Lib.hid hn
  have Hr := Lib.hid hr
  have Hs := Lib.hid hs
  have HK := Lib.hid hK
  have Hdl := Lib.hid hdl
  have hmm := @run_makeMap Tryz.prog
  obtain ⟨i0, hi0, hz0, hz1, hz2⟩ := info_partsD info_dartD
  obtain ⟨iR, hiR, hr0, hr1, hr2⟩ := info_partsD info_rowD
  clear h hn hr hs hK hdl
  refine (callsIn_wide (n := 0)).1 ?_
  refine callsIn_of_wp_marks Tryz.func92 rfl trivial ?_
  simp only [Tryz.ntmps92, List.size_toArray, List.length_cons, List.length_nil, Nat.reduceAdd, Nat.reduceSub, Array.replicate_succ, Array.replicate_zero, List.push_toArray, List.append_toArray, List.nil_append, List.cons_append]
  refine wpIn_wide.2 ?_
  go_upto_region 2 with fail
  have hx0 : Whole ((w.alloc (.cells #[.slice A n c, .slice B m k] 25)).alloc (.cells #[.slice none 0 0] 97)) (w.heap.size) 25 [.slice A n c, .slice B m k] := ((Whole.new_ w 25 [.slice A n c, .slice B m k]).alloc (.cells #[.slice none 0 0] 97))
  have hx1 : Whole ((w.alloc (.cells #[.slice A n c, .slice B m k] 25)).alloc (.cells #[.slice none 0 0] 97)) (w.heap.size + 1) 97 [.slice none 0 0] := (Whole.new2 (w := (w.alloc (.cells #[.slice A n c, .slice B m k] 25))) (by simp))
  have hbl : Below w.heap.size w ((w.alloc (.cells #[.slice A n c, .slice B m k] 25)).alloc (.cells #[.slice none 0 0] 97)) := (bel_al (below1 w (.cells #[.slice A n c, .slice B m k] 25)) (.cells #[.slice none 0 0] 97))
  have hsz : w.heap.size + 1 + 1 ≤ (((w.alloc (.cells #[.slice A n c, .slice B m k] 25)).alloc (.cells #[.slice none 0 0] 97))).heap.size := by simp
  obtain ⟨W0, gW0⟩ : ∃ z, ((w.alloc (.cells #[.slice A n c, .slice B m k] 25)).alloc (.cells #[.slice none 0 0] 97)) = z := ⟨_, rfl⟩
  rw [gW0] at hx0 hx1 hbl hsz
  obtain ⟨b1, gb1⟩ : ∃ z, w.heap.size + 1 = z := ⟨_, rfl⟩
  rw [gb1] at hx1
  obtain ⟨b0, gb0⟩ : ∃ z, w.heap.size = z := ⟨_, rfl⟩
  rw [gb0] at hx0
  have HX0 := Lib.hid hx0
  have HX1 := Lib.hid hx1
  have HB0 := Lib.hid hbl
  have HS0 := Lib.hid hsz
  have Gb0 := Lib.hid gb0
  have Lb0 : RowKit.Hid (w.heap.size ≤ b0) := Lib.hid (by omega)
  have Gb1 := Lib.hid gb1
  have Lb1 : RowKit.Hid (w.heap.size ≤ b1) := Lib.hid (by omega)
  have N01 : RowKit.Hid (b0 ≠ b1) := Lib.hid (by omega)
  rw [gW0, gb1, gb0]
  clear gW0 hbl hsz hx0 hx1 gb0 gb1
  have c0 := HX0.out.cell (i := 0) rfl
  have c1 := HX0.out.cell (i := 1) rfl
  go_upto_region 3 with (go_at_call 99; refine (sigmas_any A n c Vs B m k Es W0 (HD.out.bl HB0.out) Hn.out Hr.out (fun v hv d hd => (Hs.out v hv d hd).1)).mono ?_; rintro e w2 ⟨bm, q0, S, rfl, hm2, hq2, hbm, hb2⟩; have HM2 := Lib.hid hm2; have HKS := Lib.hid hm2.keysD; have HB2 := Lib.hid (bel_bl HB0.out hb2); have HX2 := Lib.hid (HX0.out.bl hb2); have HL2 := Lib.hid (HX1.out.bl hb2); have Hbm : RowKit.Hid (b1 < bm) := Lib.hid (by have := HX1.out.lt; omega); clear hm2 hq2 hbm hb2)
  clear c0 c1 HX0 HX1 HB0 HS0
  have HM3 := Lib.hid ((HM2.out.al (.map #[] 0)).al (.cells #[.map (some w2.heap.size)] 120))
  have HT3 : RowKit.Hid (MapD ((w2.alloc (.map #[] 0)).alloc (.cells #[.map (some w2.heap.size)] 120)) w2.heap.size 0 (fun _ => none) []) := Lib.hid ((MapD.made).al _)
  have HX3 := Lib.hid ((HX2.out.al (.map #[] 0)).al (.cells #[.map (some w2.heap.size)] 120))
  have HL3 := Lib.hid ((HL2.out.al (.map #[] 0)).al (.cells #[.map (some w2.heap.size)] 120))
  have HU3 := Lib.hid (Whole.new2 (w := w2.alloc (.map #[] 0)) (g := w2.heap.size + 1) (t := 120) (cs := [.map (some w2.heap.size)]) (by simp))
  have HB3 := Lib.hid (bel_al (bel_al HB2.out (.map #[] 0)) (.cells #[.map (some w2.heap.size)] 120))
  go_upto_region 4 with fail
  have hlm := HM2.out.lt
  have Hlm : RowKit.Hid (bm < w2.heap.size) := Lib.hid hlm
  obtain ⟨W3, gW3⟩ : ∃ z, (w2.alloc (.map #[] 0)).alloc (.cells #[.map (some w2.heap.size)] 120) = z := ⟨_, rfl⟩
  obtain ⟨bt, gbt⟩ : ∃ z, w2.heap.size = z := ⟨_, rfl⟩
  rw [gbt] at HM3 HT3 HX3 HL3 HU3 HB3 Hlm gW3 ⊢
  rw [gW3] at HM3 HT3 HX3 HL3 HU3 HB3 ⊢
  obtain ⟨b5, gb5⟩ : ∃ z, bt + 1 = z := ⟨_, rfl⟩
  have Hb5 : RowKit.Hid (b5 = bt + 1) := Lib.hid gb5.symm
  rw [gb5] at HU3 ⊢
  clear gW3 gb5 gbt hlm HM2 HX2 HL2 HB2 hmm
  have HB3s : RowKit.Hid (b0 ≤ W3.heap.size) := Lib.hid (by have := HB3.out.size; have := Gb0.out; omega)
  have c0 := HX3.out.cell (i := 0) rfl
  have c1 := HX3.out.cell (i := 1) rfl
  go_wp2_with (go_at_call 100; refine (darts_any A n c Vs B m k Es W3 (HD.out.bl HB3.out) Hn.out Hr.out).mono ?_; rintro e w4 ⟨Ad, cd, rfl, ho4, hb4⟩; have HO4 := Lib.hid ho4; have HB4 := Lib.hid (bel_bl HB3.out hb4); have HM4 := Lib.hid (HM3.out.bl hb4); have HT4 := Lib.hid (HT3.out.bl hb4); have HL4 := Lib.hid (HL3.out.bl hb4); have HU4 := Lib.hid (HU3.out.bl hb4); clear ho4 hb4)
  clear c0 c1 HM3 HT3 HX3 HL3 HU3 HB3
  obtain ⟨L, gL⟩ : ∃ z, sortD (dsV Vs) = z := ⟨_, rfl⟩
  have hLl : L.length = (dsV Vs).length := by rw [← gL]; simp [sortD]
  have HGL := Lib.hid gL
  rw [gL] at HO4
  rw [← hLl] at HO4 Hdl ⊢
  have HLwf : RowKit.Hid (∀ d ∈ L, wfS d) := Lib.hid (fun d hd => by
    rw [← gL] at hd
    have hd2 : d ∈ dsV Vs := (List.mergeSort_perm _ _).mem_iff.1 hd
    obtain ⟨v, hv, hdv⟩ := List.mem_flatMap.1 hd2
    exact Hs.out v hv d hdv)
  clear gL hLl
  have HF4 : RowKit.Hid (facesF (sigM Vs) S.length L [] = ([] : List (List D)) ++ facesF (sigM Vs) S.length (L.drop 0) []) := Lib.hid rfl
  have HK4 : RowKit.Hid (Marks w4 (b0 + 1) []) := Lib.hid trivial
  have HR4 : RowKit.Hid (RowsIn w4 (b0 + 1) 45 49 3 encD none 0 0 ([] : List (Rw D))) := Lib.hid (RowsIn.nil_ _ _)
  refine wp_loop (fun a' wr => ∃ (u7 u8 u9 u10 u19 u20 u21 u22 u23 u24 u25 u26 u27 u28 u29 u30 u31 u41 u42 u43 u44 u45 : Value), ∃ (i q l cl : Nat) (Al : Option Addr) (ft : D → Option Value) (St T : List D) (X : List (Rw D)) (ds : List Deferred), i ≤ L.length ∧ a' = { tmps := #[.agg #[.slice A n c, .slice B m k], .pointer (some ⟨b0, 0, none⟩), .slice none 0 0, .pointer (some ⟨b1, 0, none⟩), .map (some bm), .pointer (some ⟨b5, 0, none⟩), undef, u7, u8, u9, u10, undef, .agg #[.slice A n c, .slice B m k], .map (some bm), .map (some bt), .agg #[.slice A n c, .slice B m k], .slice Ad L.length cd, .int .i64 (L.length : Int), .int .i64 (i : Int), u19, u20, u21, u22, u23, u24, u25, u26, u27, u28, u29, u30, u31, undef, undef, undef, undef, undef, undef, undef, undef, undef, u41, u42, u43, u44, u45, undef], defers := ds } ∧
    RowKit.Hid (Below w.heap.size w wr) ∧ RowKit.Hid (MapD wr bm q0 (opV (sigM Vs)) S) ∧ RowKit.Hid (MapD wr bt q ft St ∧ q ≤ i * 1000000 ∧ ∀ y, (ft y).isSome = true ↔ y ∈ T) ∧ RowKit.Hid (Whole wr b1 97 [.slice Al l cl]) ∧ RowKit.Hid (Whole wr b5 120 [.map (some bt)]) ∧
    RowKit.Hid (wr.ownsRow (W3.heap.size + 1) 49 3 (.slice Ad L.length cd) L.length (dartsV L)) ∧ RowKit.Hid (RowsIn wr (b0 + 1) 45 49 3 encD Al l cl X ∧ l ≤ i) ∧ RowKit.Hid (facesF (sigM Vs) S.length L [] = X.map (·.2.2) ++ facesF (sigM Vs) S.length (L.drop i) T) ∧ RowKit.Hid (Marks wr (b0 + 1) ds))
    (fun a' _ => L.length - (intOf (a'.tmps.getD 18 undef)).toNat) ?_ ?_
  · exact ⟨_, _, _, _, _, _, _, _, _, _, _, _, _, _, _, _, _, _, _, _, _, _, 0, 0, 0, 0, none, (fun _ => none), [], [], [], [], by omega, rfl, HB4, HM4, Lib.hid ⟨HT4.out, by omega, fun y => by simp⟩, HL4, HU4, HO4, Lib.hid ⟨HR4.out, by omega⟩, HF4, HK4⟩
  · clear HB4 HM4 HT4 HL4 HU4 HO4 HR4 HF4 HK4
    rintro _ wr ⟨u7, u8, u9, u10, u19, u20, u21, u22, u23, u24, u25, u26, u27, u28, u29, u30, u31, u41, u42, u43, u44, u45, i, q, l, cl, Al, ft, St, T, X, ds, hi, rfl, HB, HM, HT, HL, HU, HO, HR, HF, HMk⟩
    by_cases hin : i < L.length
    · obtain ⟨bd, of2, rfl, hbd, hc⟩ := (own_rds HO.out).darts (by omega)
      obtain ⟨d1, d2, d3⟩ := hc i hin
      have hwx := HLwf.out (L.getD i (0, 0, 0)) (by rw [List.getD_eq_getElem?_getD, List.getElem?_eq_getElem hin]; exact List.getElem_mem hin)
      have hdr : L.drop i = L.getD i (0, 0, 0) :: L.drop (i + 1) := by
        rw [List.drop_eq_getElem_cons hin, List.getD_eq_getElem?_getD, List.getElem?_eq_getElem hin]
        rfl
      obtain ⟨x, gx⟩ : ∃ v, L.getD i (0, 0, 0) = v := ⟨_, rfl⟩
      rw [gx] at d1 d2 d3 hwx hdr
      have HFx := HF.out
      rw [hdr] at HFx
      obtain ⟨x1, x2, x3⟩ := x
      have Hwx := Lib.hid hwx
      have HFx := Lib.hid HFx
      clear hc hbd gx hdr hwx HF
      have HBa := Lib.hid (bel_al HB.out (.cells #[.int .i64 x1, .int .i64 x2, .int .i64 x3] 49))
      have HMa := Lib.hid (HM.out.al (.cells #[.int .i64 x1, .int .i64 x2, .int .i64 x3] 49))
      have HTa := Lib.hid (HT.out.1.al (.cells #[.int .i64 x1, .int .i64 x2, .int .i64 x3] 49))
      have HLa := Lib.hid (HL.out.al (.cells #[.int .i64 x1, .int .i64 x2, .int .i64 x3] 49))
      have HUa := Lib.hid (HU.out.al (.cells #[.int .i64 x1, .int .i64 x2, .int .i64 x3] 49))
      have HOa := Lib.hid (HO.out.alloc (.cells #[.int .i64 x1, .int .i64 x2, .int .i64 x3] 49))
      have HRa := Lib.hid (HR.out.1.al (.cells #[.int .i64 x1, .int .i64 x2, .int .i64 x3] 49))
      have HKa : RowKit.Hid (Marks (wr.alloc (.cells #[.int .i64 x1, .int .i64 x2, .int .i64 x3] 49)) (b0 + 1) ds) := Lib.hid (HMk.out.at_ (fun k h1 h2 => (Below.heap_alloc _ _ _ (Array.getElem?_eq_some_iff.1 h2).1).trans h2))
      have HXa := Lib.hid (Whole.new2 (w := wr) (t := 49) (cs := [.int .i64 x1, .int .i64 x2, .int .i64 x3]) rfl)
      go_upto_region 7 with fail
      clear d1 d2 d3
      have Hq := Lib.hid HT.out.2.1
      have HTk := Lib.hid HT.out.2.2
      have Hl := Lib.hid HR.out.2
      obtain ⟨wa, gwa⟩ : ∃ z, wr.alloc (.cells #[.int .i64 x1, .int .i64 x2, .int .i64 x3] 49) = z := ⟨_, rfl⟩
      obtain ⟨b7, gb7⟩ : ∃ z, wr.heap.size = z := ⟨_, rfl⟩
      rw [gwa] at HBa HMa HTa HLa HUa HOa HRa HKa HXa ⊢
      rw [gb7] at HXa ⊢
      clear gwa gb7 HB HM HT HL HU HO HR HMk
      have c0 := HXa.out.cell (i := 0) rfl
      have c1 := HXa.out.cell (i := 1) rfl
      have c2 := HXa.out.cell (i := 2) rfl
      have e0 := HUa.out.cell (i := 0) rfl
      by_cases hxT : (x1, x2, x3) ∈ T
      · have Hft := Lib.hid ((HTk.out _).2 hxT)
        have HF2 : RowKit.Hid (facesF (sigM Vs) S.length L [] = X.map (·.2.2) ++ facesF (sigM Vs) S.length (L.drop (i + 1)) T) := Lib.hid (by rw [HFx.out, facesF, if_pos hxT])
        obtain ⟨fv, gfv⟩ : ∃ z, (ft (x1, x2, x3)).getD (.int .i64 0) = z := ⟨_, rfl⟩
        go_upto_region 8 with (at_lookup; refine wl_mapLook rfl _ _ rfl rfl HTa.out.mapF Tryz.underlying120 (zero_intK _) (x := (x1, x2, x3)) Hwx.out.1 rfl ?_; rw [Hft.out, gfv])
        clear c0 c1 c2 e0 gfv
        go_wp2
        have hw2 : wrap64 ((i : Int) + 1) = ((i + 1 : Nat) : Int) := by
          have := Hdl.out
          unfold wrap64
          omega
        rw [hw2]
        exact ⟨⟨_, _, _, _, _, _, _, _, _, _, _, _, _, _, _, _, _, _, _, _, _, _, i + 1, q, l, cl, Al, ft, St, T, X, ds, by omega, rfl, HBa, HMa, Lib.hid ⟨HTa.out, Nat.le_trans Hq.out (Nat.mul_le_mul_right _ (Nat.le_succ i)), HTk.out⟩, HLa, HUa, HOa, Lib.hid ⟨HRa.out, by have := Hl.out; omega⟩, HF2, HKa⟩, by simp [intOf] <;> omega⟩
      · have Hft : RowKit.Hid ((ft (x1, x2, x3)).isSome = false) := Lib.hid (by
          cases hq : (ft (x1, x2, x3)).isSome with
          | false => rfl
          | true => exact absurd ((HTk.out _).1 hq) hxT)
        obtain ⟨fv, gfv⟩ : ∃ z, (ft (x1, x2, x3)).getD (.int .i64 0) = z := ⟨_, rfl⟩
        go_upto_region 8 with (at_lookup; refine wl_mapLook rfl _ _ rfl rfl HTa.out.mapF Tryz.underlying120 (zero_intK _) (x := (x1, x2, x3)) Hwx.out.1 rfl ?_; rw [Hft.out, gfv])
        clear gfv
        go_upto_region 10 with fail
        have HBf := Lib.hid (bel_al HBa.out (.cells #[.slice none 0 0] 45))
        have HMf := Lib.hid (HMa.out.al (.cells #[.slice none 0 0] 45))
        have HTf := Lib.hid (HTa.out.al (.cells #[.slice none 0 0] 45))
        have HLf := Lib.hid (HLa.out.al (.cells #[.slice none 0 0] 45))
        have HUf := Lib.hid (HUa.out.al (.cells #[.slice none 0 0] 45))
        have HOf := Lib.hid (HOa.out.alloc (.cells #[.slice none 0 0] 45))
        have HRf := Lib.hid (HRa.out.al (.cells #[.slice none 0 0] 45))
        have HXf := Lib.hid (HXa.out.al (.cells #[.slice none 0 0] 45))
        have HKf : RowKit.Hid (Marks (wa.alloc (.cells #[.slice none 0 0] 45)) (b0 + 1) ds) := Lib.hid (HKa.out.at_ (fun k h1 h2 => (Below.heap_alloc _ _ _ (Array.getElem?_eq_some_iff.1 h2).1).trans h2))
        have HWf := Lib.hid (Whole.new2 (w := wa) (t := 45) (cs := [.slice none 0 0]) rfl)
        have Hlt : RowKit.Hid ((∀ g, (Value.slice Al l cl).ownBlock = some g → b0 + 1 ≤ g ∧ g < wa.heap.size) ∧ (∀ x ∈ X, ∀ g, (rwV x).ownBlock = some g → b0 + 1 ≤ g ∧ g < wa.heap.size) ∧ ∀ g, (Value.slice (some ⟨bd, of2, none⟩) L.length cd).ownBlock = some g → b0 + 1 ≤ g ∧ g < wa.heap.size) :=
          Lib.hid ⟨fun g e => HRa.out.row.lt g e, fun x hx g e => (HRa.out.one x hx).lt g e, fun g e => ⟨by have := (HOa.out.lt g e).1; have := HB3s.out; omega, (HOa.out.lt g e).2⟩⟩
        obtain ⟨wf, gwf⟩ : ∃ z, wa.alloc (.cells #[.slice none 0 0] 45) = z := ⟨_, rfl⟩
        obtain ⟨bf, gbf⟩ : ∃ z, wa.heap.size = z := ⟨_, rfl⟩
        have Hbf : RowKit.Hid (bm < bf ∧ bt < bf ∧ b1 < bf ∧ b5 < bf ∧ b0 < bf) := Lib.hid (by
          have := HMa.out.lt; have := HTa.out.lt; have := HLa.out.lt; have := HUa.out.lt; have := HBa.out.size; have := Gb0.out; have := Gb1.out; have := Hbm.out
          omega)
        rw [gwf] at HBf HMf HTf HLf HUf HOf HRf HKf HXf HWf ⊢
        rw [gbf] at HWf Hlt ⊢
        clear gwf gbf HBa HMa HTa HLa HUa HOa HRa HKa HXa c0 c1 c2 e0
        have c0 := HXf.out.cell (i := 0) rfl
        have c1 := HXf.out.cell (i := 1) rfl
        have c2 := HXf.out.cell (i := 2) rfl
        go_wp2_with (go_at_call 101; refine (round_any bm x1 x2 x3 _).mono ?_; rintro e w' ⟨rfl, rfl⟩)
        clear c0 c1 c2
        have HMv := Lib.hid ((HMf.out.al (.cells #[.map (some bm)] 118)).al (.cells #[.int .i64 x1, .int .i64 x2, .int .i64 x3] 49))
        have HTv := Lib.hid ((HTf.out.al (.cells #[.map (some bm)] 118)).al (.cells #[.int .i64 x1, .int .i64 x2, .int .i64 x3] 49))
        have HLv := Lib.hid ((HLf.out.al (.cells #[.map (some bm)] 118)).al (.cells #[.int .i64 x1, .int .i64 x2, .int .i64 x3] 49))
        have HUv := Lib.hid ((HUf.out.al (.cells #[.map (some bm)] 118)).al (.cells #[.int .i64 x1, .int .i64 x2, .int .i64 x3] 49))
        have HRv := Lib.hid ((HRf.out.al (.cells #[.map (some bm)] 118)).al (.cells #[.int .i64 x1, .int .i64 x2, .int .i64 x3] 49))
        have HWv := Lib.hid ((HWf.out.al (.cells #[.map (some bm)] 118)).al (.cells #[.int .i64 x1, .int .i64 x2, .int .i64 x3] 49))
        have HOv := Lib.hid ((HOf.out.alloc (.cells #[.map (some bm)] 118)).alloc (.cells #[.int .i64 x1, .int .i64 x2, .int .i64 x3] 49))
        have HBv := Lib.hid (bel_al (bel_al HBf.out (.cells #[.map (some bm)] 118)) (.cells #[.int .i64 x1, .int .i64 x2, .int .i64 x3] 49))
        have HKv : RowKit.Hid (Marks ((wf.alloc (.cells #[.map (some bm)] 118)).alloc (.cells #[.int .i64 x1, .int .i64 x2, .int .i64 x3] 49)) (b0 + 1) ds) := Lib.hid (HKf.out.at_ (fun k h1 h2 => by
          have q := (Array.getElem?_eq_some_iff.1 h2).1
          exact ((Below.heap_alloc _ _ _ (by simp; omega)).trans (Below.heap_alloc _ _ _ q)).trans h2))
        have HNx := Lib.hid ((Whole.new_ wf 118 [.map (some bm)]).al (.cells #[.int .i64 x1, .int .i64 x2, .int .i64 x3] 49))
        have HXx := Lib.hid (Whole.new2 (w := wf.alloc (.cells #[.map (some bm)] 118)) (g := wf.heap.size + 1) (t := 49) (cs := [.int .i64 x1, .int .i64 x2, .int .i64 x3]) (by simp))
        have Hbl : RowKit.Hid (bf < wf.heap.size ∧ ((wf.alloc (.cells #[.map (some bm)] 118)).alloc (.cells #[.int .i64 x1, .int .i64 x2, .int .i64 x3] 49)).heap.size = wf.heap.size + 2) := Lib.hid ⟨HWf.out.lt, by simp⟩
        obtain ⟨V, gV⟩ : ∃ z, (wf.alloc (.cells #[.map (some bm)] 118)).alloc (.cells #[.int .i64 x1, .int .i64 x2, .int .i64 x3] 49) = z := ⟨_, rfl⟩
        obtain ⟨bx, gbx⟩ : ∃ z, wf.heap.size + 1 = z := ⟨_, rfl⟩
        obtain ⟨bn, gbn⟩ : ∃ z, wf.heap.size = z := ⟨_, rfl⟩
        rw [gV] at HMv HTv HLv HUv HRv HWv HOv HBv HKv HNx HXx Hbl ⊢
        rw [gbx] at HXx ⊢
        rw [gbn] at HNx Hbl gbx ⊢
        have Hbx := Lib.hid gbx
        clear gV gbx gbn HMf HTf HLf HUf HRf HWf HOf HBf HKf HXf
        obtain ⟨bl, gbl⟩ : ∃ z, V.heap.size = z := ⟨_, rfl⟩
        rw [gbl] at Hbl
        have Gbl := Lib.hid gbl
        have hNl := HK.out _ HKS.out
        have HNl := Lib.hid hNl
        refine (wpIn_wide (n := 0)).1 ?_
        have HI0 : FcI V bt bf bl T q [] V := ⟨Kept.refl _ _, ⟨none, 0, HWv.out, World.ownsRow_nil _ _ _ _⟩, ft, St, HTv.out, fun y => by rw [HTk.out y]; simp⟩
        have HA : ∀ p, AbS bl (FcI V bt bf bl T q p) := fun p => FcI.abs (by have := HTv.out.lt; omega) (by have := HWv.out.lt; omega)
        clear hNl
        refine wpIn_roundS (gf := 106) (lb := #[.pointer (some ⟨bx, 0, none⟩), .pointer (some ⟨bn, 0, none⟩)]) rfl (enters_of Tryz.func106 (by kernel_rfl) rfl) (encs := fun y : D2 => #[dV y.1]) (fun _ => rfl) (fun i => i = bx ∨ i = bn ∨ i = bm ∨ i = bl + 2) (by have := HNx.out.lt; have := HXx.out.lt; have := HMv.out.lt; omega)
          (fun r => round_its bx bn bm q0 (sigM Vs) S (x1, x2, x3) Hwx.out.1 (fun h => sigM_key Hs.out _ h) (sigM_some Hs.out) _ _ ⟨.inl rfl, .inr (.inl rfl), .inr (.inr (.inl rfl)), .inr (.inr (.inr (by simp [World.size_alloc, gbl])))⟩ ((HXx.out.al _).al _) ((HNx.out.al _).al _) ((HMv.out.al _).al _) (by have := HNl.out; omega))
          (FcI V bt bf bl T q) (fun p y a' W => ∃ By, bl + 3 ≤ By ∧ By < W.heap.size ∧ Whole W By 49 [.int .i64 y.1.1, .int .i64 y.1.2.1, .int .i64 y.1.2.2] ∧ a' = { tmps := #[.agg #[.slice A n c, .slice B m k], .pointer (some ⟨b0, 0, none⟩), .slice none 0 0, .pointer (some ⟨b1, 0, none⟩), .map (some bm), .pointer (some ⟨b5, 0, none⟩), undef, .pointer (some ⟨b7, 0, none⟩), fv, .bool false, .pointer (some ⟨bf, 0, none⟩), .pointer (some ⟨By, 0, none⟩), .agg #[.slice A n c, .slice B m k], .map (some bm), .map (some bt), .agg #[.slice A n c, .slice B m k], .slice (some ⟨bd, of2, none⟩) L.length cd, .int .i64 (L.length : Int), .int .i64 (i : Int), .bool true, .pointer (some ⟨bd, of2 + i * 3, none⟩), .agg #[.int .i64 x1, .int .i64 x2, .int .i64 x3], .tuple #[fv, .bool false], .map (some bt), .agg #[.int .i64 x1, .int .i64 x2, .int .i64 x3], .tuple #[fv, .bool false], fv, .bool false, .bool false, .map (some bm), .agg #[.int .i64 x1, .int .i64 x2, .int .i64 x3], .func (.func 106) #[] #[.pointer (some ⟨bx, 0, none⟩), .pointer (some ⟨bn, 0, none⟩)], dV y.1, undef, undef, undef, undef, undef, undef, undef, undef, u41, u42, u43, u44, u45, undef], defers := [] } ∧ FcI V bt bf bl T q p W)
          (fun _ _ _ => False) (by rw [gbl]; exact HA)
          (fun p y a' W W' r h hg hr1 hr2 => by rw [gbl] at hr1 hr2; obtain ⟨By, e1, e2, e3, e4, e5⟩ := h; exact ⟨By, e1, Nat.lt_of_lt_of_le e2 hg.size, e3.at_ (hg.block By e2 (fun e => by cases e; omega)), e4, HA p W W' r e5 hg hr1 hr2⟩)
          (fun _ _ _ _ _ h => h.elim) HI0 ?assign ?body ?done ?stop
        case assign =>
          rintro l' pre ⟨⟨y1, y2, y3⟩, hy⟩ W R hiP hsz3 hK
          simp only [dV]
          gi_wp2
          exact hK _ _ (KpS.grown (World.grownBy_alloc W _ none) (fun r e => by cases e)) ⟨W.heap.size, by omega, by simp, Whole.new_ _ _ _, rfl, hiP.al _⟩
        case body =>
          rintro l' pre ⟨⟨y1, y2, y3⟩, hy⟩ a' W ⟨By, hBy, hBl, hY, rfl, hk, ⟨A9, c9, hb, ho⟩, ft9, St9, hm9, hk9⟩ hlen hsz3
          have hb_1 : bf < bl := by have := Hbl.out; omega
          have hb_2 : bf < bn := Hbl.out.1
          have hb_3 : bn < bx := by have := Hbx.out; omega
          have hb_4 : bx < bl := by have := Hbx.out; have := Hbl.out; omega
          have hwfy : wfD (y1, y2, y3) := hy.1
          have hU := hk.whole HUv.out (fun h => by have := Hbf.out; have := Hb5.out; have := HUv.out.lt; omega)
          have hLw := hk.whole HLv.out (fun h => by have := Hbf.out; have := HLv.out.lt; have := Hlm.out; have := Hbm.out; omega)
          have c0 := hU.cell (i := 0) rfl
          have c1 := hLw.cell (i := 0) rfl
          have d0 := hY.cell (i := 0) rfl
          have d1 := hY.cell (i := 1) rfl
          have d2 := hY.cell (i := 2) rfl
          have hne1 : bt ≠ bf := by have := Hbf.out; omega
          have hqq : q + pre.length < maxLen := by have := Hq.out; have := Hdl.out; have := HNl.out; unfold maxLen; omega
          have hpl : pre.length < 1000000 := by have := HNl.out; omega
          have hbt := Hbf.out.2.1
          clear hwfy
          have hwfy := Lib.hid hy.1
          simp only [dV]
          gi_wp2_with (first
            | (gi_at_mapUpdate
               refine wlIn_dPut rfl _ _ _ rfl rfl hm9 Tryz.underlying120 hqq hwfy.out rfl rfl ?_
               intro w1 hm1 hg1
               have hb1 := hb.grown hg1 (fun e => by have := Option.some.inj e; omega)
               have hY1 := hY.grown hg1 (fun e => by have := Option.some.inj e; omega)
               have ho1 := ho.kept hg1 (.inr (fun e => by have := (ho.lt _ e).1; omega))
               have k0 := hb1.cell (i := 0) rfl
               have z0 := hY1.cell (i := 0) rfl
               have z1 := hY1.cell (i := 1) rfl
               have z2 := hY1.cell (i := 2) rfl
               have hb2 := hb1.al (.cells #[.int .i64 y1, .int .i64 y2, .int .i64 y3] 49)
               have ho2 := ho1.alloc (.cells #[.int .i64 y1, .int .i64 y2, .int .i64 y3] 49)
               have hne := own_ne ho2 hb2 (by decide)
               have hsz1 := hg1.size)
            | (gi_at_builtin
               refine wpListIn_append_own _ rfl _ _ 45 rfl (bl + 3) 49 i0 _ 3 24 Tryz.underlying45 hi0 hz0 hz1 hz2 rfl (by decide) _ _ _ rfl ho2 ⟨w1.heap.size, 0, none⟩ 1 1 [.int .i64 y1, .int .i64 y2, .int .i64 y3] rfl rfl (newC w1 y1 y2 y3) (by simp [Value.oneCell']) (by unfold maxLen; omega) (by omega) (by simp; omega) ?_
               intro v' w2 hown' hgrow _
               obtain ⟨g', cap', rfl⟩ := ownsRow_succ hown'
               have n1 := (hb2.grown hgrow hne).cell (i := 0) rfl
               have f1 := (hb2.grown hgrow hne).free 0))
          have hb_5 : bm < bt := Hlm.out
          have hl1 : (pre ++ [(⟨(y1, y2, y3), hy⟩ : D2)]).length = pre.length + 1 := by simp
          have hl2 : dartsV ((pre ++ [(⟨(y1, y2, y3), hy⟩ : D2)]).map (·.1)) = dartsV (pre.map (·.1)) ++ [.int .i64 y1, .int .i64 y2, .int .i64 y3] := by rw [List.map_append, dartsV_app]; rfl
          have hlt2 := hown'.lt g' rfl
          have hrow : ∀ r, (Value.slice A9 pre.length c9).ownBlock = some r → bl + 3 ≤ r := fun r e => (ho2.lt r e).1
          refine ⟨(KpS.grown hg1 (fun r e q => by cases e; omega)).trans ((KpS.grown (World.grownBy_alloc w1 _ none) (fun r e => by cases e)).trans ((KpS.grown hgrow (fun r e q => by have := hrow r e; omega)).trans (KpS.grown (grownBy_setCell' _ _ _) (fun r e q => by cases e; omega)))), ?_⟩
          refine ⟨(((hk.gr hg1 (fun k e => by cases e; exact .inl rfl)).trans (Kept.of_below (below1 w1 _))).gr hgrow (fun k e => .inr (.inr (by have := hrow k e; omega)))).gr (grownBy_setCell' _ _ _) (fun k e => by cases e; exact .inr (.inl rfl)), ⟨some ⟨g', 0, none⟩, cap', ?_, ?_⟩, _, _, ((((hm1.mono (by rw [hl1]; omega)).al _).grown hgrow (fun e => by have := hrow bt e.symm; omega)).grown (grownBy_setCell' _ _ _) (fun e => by have := Option.some.inj e; omega)), fun y => ?_⟩
          · rw [hl1]
            exact (hb2.grown hgrow hne).set_ 0 _
          · rw [hl1, hl2]
            exact hown'.kept (grownBy_setCell' _ _ _) (.inr (fun e => by have e2 : g' = bf := Option.some.inj e; omega))
          · have h9 := hk9 y
            rw [List.map_append, List.mem_append]
            by_cases e : y = (y1, y2, y3)
            · subst e
              simp
            · rw [if_neg e, h9]
              have e2 : ¬ y ∈ [(⟨(y1, y2, y3), hy⟩ : D2)].map (·.1) := fun q => e (List.mem_singleton.1 q)
              simp only [e2, or_false]
        case done =>
          rintro ys W hS ⟨hk, ⟨A9, c9, hb, ho⟩, ft9, St9, hm9, hk9⟩ hKd
          rw [gbl] at hKd ⊢
          have hb_1 : bf < bl := by have := Hbl.out; omega
          have hb_2 : bm < bt := Hlm.out
          have hb_3 := Hbf.out
          have hb_4 := Gb0.out
          have hb_5 := Gb1.out
          have hb_6 : b1 < bm := Hbm.out
          have hlf : ys.length = (faceL (sigM Vs) S.length (x1, x2, x3)).length := by rw [← hS, List.length_map]
          have hnl : ys.length ≤ 1000000 := by have := faceL_len (sigM Vs) S.length (x1, x2, x3); have := HNl.out; omega
          rw [hS] at ho
          simp only [hS] at hk9
          have hFy := HFx.out
          rw [facesF, if_neg hxT] at hFy
          obtain ⟨Fx, gFx⟩ : ∃ z, faceL (sigM Vs) S.length (x1, x2, x3) = z := ⟨_, rfl⟩
          rw [gFx] at hlf ho hk9 hFy
          rw [hlf] at hb ho hm9 hnl
          have HBw : RowKit.Hid (Below w.heap.size w W) := Lib.hid (HBv.out.trans (hk.below HBv.out.size (fun k h q => by omega)))
          have HMw : RowKit.Hid (MapD W bm q0 (opV (sigM Vs)) S) := Lib.hid (HMv.out.kept hk (fun q => by omega))
          have HLw : RowKit.Hid (Whole W b1 97 [.slice Al l cl]) := Lib.hid (hk.whole HLv.out (fun h => by omega))
          have HUw : RowKit.Hid (Whole W b5 120 [.map (some bt)]) := Lib.hid (hk.whole HUv.out (fun h => by have := Hb5.out; omega))
          have HOw : RowKit.Hid (W.ownsRow (W3.heap.size + 1) 49 3 (.slice (some ⟨bd, of2, none⟩) L.length cd) L.length (dartsV L)) := Lib.hid (own_kept2 HOv.out hk HTv.out (fun g e => (Hlt.out.2.2 g e).2) hb_1)
          have HRw : RowKit.Hid (RowsIn W (b0 + 1) 45 49 3 encD Al l cl X) := Lib.hid ⟨own_kept2 HRv.out.row hk HTv.out (fun g e => (Hlt.out.1 g e).2) hb_1, HRv.out.len, fun x hx => own_kept2 (HRv.out.one x hx) hk HTv.out (fun g e => (Hlt.out.2.1 x hx g e).2) hb_1, HRv.out.ne⟩
          have HKw : RowKit.Hid (Marks W (b0 + 1) ({ target := .collected bl, args := #[] } :: ds)) := Lib.hid ((HKv.out.at_ (fun k h1 h2 => (hk.block k (Array.getElem?_eq_some_iff.1 h2).1 (fun q => by
              rcases q with q | q | q
              · obtain ⟨D, ⟨es, clock, h3, _⟩, _⟩ := HTv.out
                rw [q, h3] at h2; cases h2
              · have h3 : V.heap[bf]? = _ := HWv.out
                rw [q, h3] at h2; cases h2
              · have := (Array.getElem?_eq_some_iff.1 h2).1; omega)).trans h2)).push (by omega) hKd (fun e he q => by
              obtain ⟨k, e1, e2⟩ := HKv.out.lt e he
              rw [e1] at q
              injection q with q1
              injection q1 with q1
              omega))
          have HTw : RowKit.Hid (MapD W bt (q + Fx.length) ft9 St9) := Lib.hid hm9
          have HFw : RowKit.Hid (Whole W bf 45 [.slice A9 Fx.length c9]) := Lib.hid hb
          have HXw : RowKit.Hid (W.ownsRow (bl + 3) 49 3 (.slice A9 Fx.length c9) Fx.length (dartsV Fx)) := Lib.hid ho
          have HKeys : RowKit.Hid (∀ y, (ft9 y).isSome = true ↔ y ∈ T ++ Fx) := Lib.hid (fun y => by rw [hk9 y, List.mem_append])
          have HFz := Lib.hid hFy
          have Hnl := Lib.hid hnl
          clear hk hb ho hm9 hk9 hKd hFy hnl hlf hS gFx HBv HMv HTv HLv HUv HOv HRv HKv HWv HNx HXx HI0 HA
          have c0 := HLw.out.cell (i := 0) rfl
          have c1 := HFw.out.cell (i := 0) rfl
          go_upto_region 14 with fail
          clear hb_3 hb_4 hb_5
          refine wp_region_lit ?_
          refine wl_read (v := ?_) (some 41) rfl (by rfl) ?_ ?_
          rotate_left
          · go_simp; (try with_reducible rfl)
          simp only [Act.put, stA_, st0_, st1_]
          refine wl_read (v := ?_) (some 42) rfl (by rfl) ?_ ?_
          rotate_left
          · go_simp; (try with_reducible rfl)
          simp only [Act.put, stA_, st0_, st1_]
          refine wl_buildSlice (some 43) rfl (by rfl) 97 45 1 #[(0, .tmp 42)] (by rfl) Tryz.underlying97 #[.slice A9 Fx.length c9] (by kernel_rfl) ?_
          simp only [Act.put, stA_, st0_, st1_]
          clear c0 c1
          obtain ⟨A7, c7, W6, hrun, hR6, hb6, hg6⟩ := (HRw.out.al (.cells #[.slice A9 Fx.length c9] 45)).push (P := Tryz.prog) ((A9, c9, Fx) : Rw D) (by have := own_base HXw.out (show b0 + 1 ≤ bl + 3 by have := Hbl.out; have := Hbf.out; omega); rw [← rowsD] at this; exact this.alloc _)
            (fun y hy a b e1 e2 => by
              have q1 := (Hlt.out.2.1 y hy a.block (by rw [rw_block, e1]; rfl)).2
              have q2 := (HXw.out.lt b.block (by rw [show A9 = some b from e2]; rfl)).1
              omega)
            97 97 iR _ Tryz.underlying97 hiR hr0 hr1 hr2 rfl (by decide) (by have := Hl.out; have := Hdl.out; omega) (by have := HBw.out.size; have := Gb0.out; simp; omega) (some ⟨W.heap.size, 0, none⟩) 1 (RdS.of_whole (Whole.new2 rfl) rfl)
          refine wl_run (some 44) rfl (by rfl) (exec_append (by rfl) (by rfl) (by rfl) hrun) ?_
          simp only [Act.put, stA_, st0_, st1_]
          have n1 := own_ne (HRw.out.row.alloc (.cells #[.slice A9 Fx.length c9] 45)) (HLw.out.al (.cells #[.slice A9 Fx.length c9] 45)) (by decide)
          have n5 := own_ne (HRw.out.row.alloc (.cells #[.slice A9 Fx.length c9] 45)) (HUw.out.al (.cells #[.slice A9 Fx.length c9] 45)) (by decide)
          have hrow : ∀ g, (Value.slice Al l cl).ownBlock = some g → ∃ cs, (W.alloc (.cells #[.slice A9 Fx.length c9] 45)).heap[g]? = some (.cells cs 45 (0, 0)) := fun g hg => own_cells (HRw.out.row.alloc _) hg
          have HB6 : RowKit.Hid (Below w.heap.size w W6) := Lib.hid ((bel_al HBw.out (.cells #[.slice A9 Fx.length c9] 45)).grown hg6 (by have := HBw.out.size; simp; omega) (fun k e => by have := (Hlt.out.1 k e).1; have := Gb0.out; omega))
          have HM6 := Lib.hid ((HMw.out.al (.cells #[.slice A9 Fx.length c9] 45)).grown hg6 (fun e => by obtain ⟨cs, hc⟩ := hrow bm e.symm; exact (HMw.out.al _).notcells hc))
          have HT6 := Lib.hid ((HTw.out.al (.cells #[.slice A9 Fx.length c9] 45)).grown hg6 (fun e => by obtain ⟨cs, hc⟩ := hrow bt e.symm; exact (HTw.out.al _).notcells hc))
          have HL6 := Lib.hid ((HLw.out.al (.cells #[.slice A9 Fx.length c9] 45)).grown hg6 n1)
          have HU6 := Lib.hid ((HUw.out.al (.cells #[.slice A9 Fx.length c9] 45)).grown hg6 n5)
          have HO6 := Lib.hid ((HOw.out.alloc (.cells #[.slice A9 Fx.length c9] 45)).kept hg6 (.inr (fun e => own_two HRw.out.row HOw.out (by decide) e.symm rfl)))
          have HK6 : RowKit.Hid (Marks W6 (b0 + 1) ({ target := .collected bl, args := #[] } :: ds)) := Lib.hid (HKw.out.at_ (fun k h1 h2 => by
            have h3 : (W.alloc (.cells #[.slice A9 Fx.length c9] 45)).heap[k]? = some (.deferred (some [])) := (Below.heap_alloc _ _ _ (Array.getElem?_eq_some_iff.1 h2).1).trans h2
            refine (hg6.block k (Array.getElem?_eq_some_iff.1 h3).1 (fun e => ?_)).trans h3
            obtain ⟨cs, hc⟩ := hrow k e.symm
            rw [hc] at h3
            cases h3))
          have HR6 := Lib.hid hR6
          clear hrun hR6 hb6 hg6 n1 n5 hrow HBw HMw HTw HLw HUw HOw HRw HKw HFw HXw
          have c1 := HL6.out.cell (i := 0) rfl
          have f1 := HL6.out.free 0
          have e1 : RowKit.Hid (b1 ≠ b5) := Lib.hid (by have := Hb5.out; have := Hlm.out; have := Hbm.out; omega)
          have Hb1 : RowKit.Hid (w.heap.size ≤ b1) := Lib.hid (by have := Gb1.out; omega)
          have HB7 := Lib.hid (HB6.out.setCell (p := ⟨b1, 0, none⟩) Hb1.out (.slice A7 (l + 1) c7))
          have HM7 := Lib.hid (HM6.out.grown (grownBy_setCell' _ b1 (.slice A7 (l + 1) c7)) (fun e => by have := Option.some.inj e; have := Hbm.out; omega))
          have HT7 := Lib.hid (HT6.out.grown (grownBy_setCell' _ b1 (.slice A7 (l + 1) c7)) (fun e => by have := Option.some.inj e; have := Hbm.out; have := Hlm.out; omega))
          have HL7 := Lib.hid (HL6.out.set_ 0 (.slice A7 (l + 1) c7))
          have HU7 := Lib.hid (HU6.out.grown (grownBy_setCell' _ b1 (.slice A7 (l + 1) c7)) (fun e => e1.out (Option.some.inj e).symm))
          have HO7 := Lib.hid (HO6.out.kept (grownBy_setCell' _ b1 (.slice A7 (l + 1) c7)) (.inr (fun e => own_ne HO6.out HL6.out (by decide) e.symm)))
          have HR7 := Lib.hid (HR6.out.far (grownBy_setCell' _ b1 (.slice A7 (l + 1) c7)) (fun g e q => own_ne HR6.out.row HL6.out (by decide) (by rw [q, ← e])) (fun y hy g e q => own_ne (HR6.out.one y hy) HL6.out (by decide) (by rw [show (Value.slice y.1 y.2.2.length y.2.1).ownBlock = _ from q, ← e])))
          have HK7 := Lib.hid (HK6.out.at_ (W' := W6.setCell ⟨b1, 0, none⟩ (.slice A7 (l + 1) c7)) (fun k h1 h2 => ((grownBy_setCell' W6 b1 (.slice A7 (l + 1) c7)).block k (Array.getElem?_eq_some_iff.1 h2).1 (fun e => by
            have h3 : W6.heap[b1]? = _ := HL6.out
            rw [Option.some.inj e, h3] at h2
            cases h2)).trans h2))
          clear HB6 HM6 HT6 HL6 HU6 HO6 HR6 HK6
          go_wp2
          have hw2 : wrap64 ((i : Int) + 1) = ((i + 1 : Nat) : Int) := by
            have := Hdl.out
            unfold wrap64
            omega
          have HQ9 : RowKit.Hid (q + Fx.length ≤ (i + 1) * 1000000) := Lib.hid (by
            have h1 := Hq.out
            have h2 := Hnl.out
            generalize (1000000 : Nat) = M at h1 h2 ⊢
            rw [Nat.add_mul, Nat.one_mul]
            exact Nat.add_le_add h1 h2)
          rw [hw2]
          refine ⟨⟨_, _, _, _, _, _, _, _, _, _, _, _, _, _, _, _, _, _, _, _, _, _, i + 1, q + Fx.length, l + 1, c7, A7, ft9, St9, T ++ Fx, X ++ [((A9, c9, Fx) : Rw D)], _ :: ds, ?_, rfl, ?_, ?_, ?_, ?_, ?_, ?_, ?_, ?_, ?_⟩, ?_⟩
          · exact hin
          · exact HB7
          · exact HM7
          · exact Lib.hid ⟨HT7.out, HQ9.out, HKeys.out⟩
          · exact HL7
          · exact HU7
          · exact HO7
          · exact Lib.hid ⟨HR7.out, Nat.succ_le_succ Hl.out⟩
          · exact Lib.hid (by rw [HFz.out, List.map_append, List.append_assoc]; rfl)
          · exact HK7
          · simp [intOf]
            first | done | exact hin | exact Nat.sub_lt_sub_left hin (Nat.lt_succ_self i)
        case stop =>
          rintro c' pre W _ h _
          exact h.elim
    · obtain rfl : L.length = i := by omega
      have c0 := HL.out.cell (i := 0) rfl
      go_wp2
      have hFl := HF.out
      rw [List.drop_length] at hFl
      have hrow := HR.out.1
      have hlen : X.length = l := hrow.len
      refine leaves_marks (V := wr) (lo := b0 + 1) (fun W' hS => ?_) ds wr (Shut.refl _ _) HMk.out
      refine ⟨_, results_tmp rfl _ _ _, S, Al, cl, X, HKS.out, by rw [hlen]; rfl, ?_, ?_, ?_⟩
      · rw [hlen, Gb0.out]
        exact hrow.at_ (fun g cs t fr _ hg _ => (hS.block g _ hg (.inr rfl)).trans hg.symm)
      · rw [HGL.out, hFl]
        simp [facesF]
      · exact HB.out.trans (hS.below (by have := Gb0.out; omega))
end Go.Proofs.YtmkflebkifbpfaaGreat
/- All faces are all orbits. -/
namespace Go.Proofs.YtmkflebkifbpfaaGreat
open Go.RowKit
section
variable {Vs : List VC} {Es : List EC}
theorem facesF_eq (h : Formed Vs Es) {N : Nat} (hN : (ringsOf Vs).length ≤ N) : ∀ (l T : List D), (∀ x ∈ l, x ∈ ringsOf Vs) → facesF (sigM Vs) N l T = orbsF (phF Vs) 80 l T
  | [], _, _ => rfl
  | x :: r, T, hl => by
    have hx := hl x (List.mem_cons_self ..)
    have hr := fun y hy => hl y (List.mem_cons_of_mem _ hy)
    have e : faceL (sigM Vs) N x = orbT (phF Vs) x 80 x := by
      rw [faceL_eq h hN, faceD, if_pos hx]
    rw [facesF, orbsF, facesF_eq h hN r _ hr, facesF_eq h hN r _ hr, e]
    by_cases q : x ∈ T
    · rw [if_pos q, if_pos q]
    · rw [if_neg q, if_neg q]
end
end Go.Proofs.YtmkflebkifbpfaaGreat
/- All darts of a diagram that is well formed, in their order. -/
namespace Go.Proofs.YtmkflebkifbpfaaGreat
open Go.RowKit
theorem cfD_side (a b : Int) : cfD (a, b, 0) (a, b, 1) < 0 := by
  unfold cfD ordD
  rw [if_pos ⟨rfl, rfl⟩]
  show cmpI 0 1 < 0
  decide
theorem cfD_id {a b : Int × Int} (h : ordP a b < 0) (s t : Int) : cfD (a.1, a.2, s) (b.1, b.2, t) < 0 := by
  have hne := ordP_ne h
  unfold cfD ordD
  rw [if_neg (fun q => hne (Prod.ext q.1 q.2))]
  exact h
theorem dsE_rise : ∀ L : List EC, (L.map (·.1)).Pairwise (fun a b => ordP a b < 0) → (dsE L).Pairwise fun a b => cfD a b < 0
  | [], _ => List.Pairwise.nil
  | e :: r, h => by
    rw [List.map_cons, List.pairwise_cons] at h
    have key : ∀ s, ∀ d ∈ dsE r, cfD (e.1.1, e.1.2, s) d < 0 := fun s d hd => by
      obtain ⟨f, hf, h1, _⟩ := (dsE_mem r d).1 hd
      have := cfD_id (h.1 f.1 (List.mem_map.2 ⟨f, hf, rfl⟩)) s d.2.2
      rw [h1] at this
      exact this
    rw [dsE_cons, List.pairwise_cons, List.pairwise_cons]
    refine ⟨fun d hd => ?_, key 1, dsE_rise r h.2⟩
    rcases List.mem_cons.1 hd with rfl | hd
    · exact cfD_side _ _
    · exact key 0 d hd
section
variable {Vs : List VC} {Es : List EC}
theorem dsV_eq (Vs : List VC) : dsV Vs = ringsOf Vs := rfl
theorem Formed.rise (h : Formed Vs Es) : (dsE Es).Pairwise fun a b => cfD a b < 0 := dsE_rise Es ((riseF_iff _ _).1 h.re).2.2
theorem Formed.dsn (h : Formed Vs Es) : (dsE Es).Nodup := h.rise.imp (fun {a b} q e => by subst e; have := (cfD_zero a a).2 rfl; omega)
theorem sort_darts (h : Formed Vs Es) : sortD (dsV Vs) = dsE Es := by
  have hp : (dsV Vs).Perm (dsE Es) := (List.perm_ext_iff_of_nodup h.once h.dsn).2 fun d => (h.ds d).symm
  refine List.Perm.eq_of_pairwise (le := fun a b => cfD a b ≤ 0) (fun a b _ _ h1 h2 => ?_) ?_ (h.rise.imp (fun q => by omega)) ((List.mergeSort_perm _ _).trans hp)
  · have := cfD_neg a b
    exact (cfD_zero a b).1 (by omega)
  · have hl : ∀ a b : D, (!(ltOf cfD) b a) = true ↔ cfD a b ≤ 0 := fun a b => by
      rw [ltD]
      have := cfD_neg a b
      simp
      omega
    refine (List.pairwise_mergeSort (le := fun x y => !(ltOf cfD) y x) (fun a b c h1 h2 => ?_) (fun a b => ?_) (dsV Vs)).imp (fun {a b} q => (hl a b).1 q)
    · rw [hl] at *
      exact cfD_trans _ _ _ h1 h2
    · rw [Bool.or_eq_true, hl, hl]
      have := cfD_neg a b
      omega
end
end Go.Proofs.YtmkflebkifbpfaaGreat
/- The document's Darts. -/
namespace Go.Proofs.YtmkflebkifbpfaaGreat
open Go.RowKit
set_option maxRecDepth 100000 in
set_option maxHeartbeats 4000000 in
theorem rdarts5_any (A : Option Addr) (n c : Nat) (Vs : List VC) (B : Option Addr) (m k : Nat) (Es : List EC) (w : World) (h : DgIn w A n c Vs B m k Es) (hm : m ≤ 1000000) :
    Calls Tryz.prog 81 #[.agg #[.slice A n c, .slice B m k]] w fun e w' => ∃ A' c', e = .returned (.slice A' (2 * m) c') ∧ w'.ownsRow w.heap.size 49 3 (.slice A' (2 * m) c') (2 * m) (dartsV (dsE Es)) ∧ Below w.heap.size w w' := by
  have HE := Lib.hid h.e
  have Hle := Lib.hid (h.e.rlen eC_len (by decide))
  obtain ⟨i0, hi0, hz0, hz1, hz2⟩ := info_partsD info_dartD
  clear h
  go_enter Tryz.func81, Tryz.ntmps81
  go_upto_region 1 with fail
  have hx0 : Whole (w.alloc (.cells #[.slice A n c, .slice B m k] 25)) (w.heap.size) 25 [.slice A n c, .slice B m k] := (Whole.new_ w 25 [.slice A n c, .slice B m k])
  have hbl : Below w.heap.size w (w.alloc (.cells #[.slice A n c, .slice B m k] 25)) := (below1 w (.cells #[.slice A n c, .slice B m k] 25))
  have hsz : w.heap.size + 1 ≤ ((w.alloc (.cells #[.slice A n c, .slice B m k] 25))).heap.size := by simp
  obtain ⟨W0, gW0⟩ : ∃ z, (w.alloc (.cells #[.slice A n c, .slice B m k] 25)) = z := ⟨_, rfl⟩
  rw [gW0] at hx0 hbl hsz
  obtain ⟨b0, gb0⟩ : ∃ z, w.heap.size = z := ⟨_, rfl⟩
  rw [gb0] at hx0
  have HX0 := Lib.hid hx0
  have HB0 := Lib.hid hbl
  have HS0 := Lib.hid hsz
  have Gb0 := Lib.hid gb0
  have Lb0 : RowKit.Hid (w.heap.size ≤ b0) := Lib.hid (by omega)
  rw [gW0, gb0]
  clear gW0 hbl hsz hx0 gb0
  have HX1 := Lib.hid (HX0.out.al (.cells #[] 49))
  have HO1 : RowKit.Hid (Ow w (b0 + 1) 49 3 (.slice (some ⟨W0.heap.size, 0, none⟩) 0 0) 0 [] (W0.alloc (.cells #[] 49))) := Lib.hid (Ow.new_ (cs := #[]) HB0.out (by have := Lb0.out; omega) (by have := HX0.out.lt; omega) (by unfold maxLen; omega) rfl)
  go_wp2
  clear HX0 HB0
  obtain ⟨W1, gW1⟩ : ∃ z, W0.alloc (.cells #[] 49) = z := ⟨_, rfl⟩
  obtain ⟨g1, gg1⟩ : ∃ z, W0.heap.size = z := ⟨_, rfl⟩
  rw [gW1] at HX1 HO1 ⊢
  rw [gg1] at HO1 ⊢
  clear gW1 gg1
  go_loopw [3, 4] (fun sl si wr => ∃ (i : Nat) (A2 : Option Addr) (c2 : Nat), i ≤ m ∧ si = .int .i64 i ∧ sl = .slice A2 (2 * i) c2 ∧ RowKit.Hid (Whole wr b0 25 [.slice A n c, .slice B m k]) ∧ RowKit.Hid (Ow w (b0 + 1) 49 3 (.slice A2 (2 * i) c2) (2 * i) (dartsV (dsE (Es.take i))) wr)) (fun _ si _ => m - (intOf si).toNat)
  case atStart => exact ⟨0, _, _, by omega, rfl, rfl, HX1, HO1⟩
  case round =>
    clear HX1 HO1
    obtain ⟨i, A2, c2, hi, rfl, rfl, HX, HO⟩ := hrel
    obtain ⟨wo, gwo⟩ : ∃ z, wr = z := ⟨_, rfl⟩
    rw [gwo] at HX HO ⊢
    clear gwo
    have c1 := HX.out.cell (i := 1) rfl
    by_cases him : i < m
    · obtain ⟨x, hx⟩ : ∃ x, Es[i]? = some x := ⟨_, List.getElem?_eq_getElem (by have := Hle.out; omega)⟩
      have hdn := dsE_next Es i x hx
      obtain ⟨bb, off, rfl, hbB, hpl⟩ := HE.out.place eC_len (by decide) (by omega)
      have HB := Lib.hid HO.out.below
      have hbw := HB.out
      have q0 := hpl i _ hx 0 _ rfl
      have q1 := hpl i _ hx 1 _ rfl
      have q2 := hpl i _ hx 2 _ rfl
      have q3 := hpl i _ hx 3 _ rfl
      simp only [Addr.add_lit, Nat.add_zero] at q0 q1 q2 q3
      have l0 := (hbw.cell (p := ⟨bb, off + i * 4, none⟩) hbB).trans q0
      have l1 := (hbw.cell (p := ⟨bb, off + i * 4 + 1, none⟩) hbB).trans q1
      have l2 := (hbw.cell (p := ⟨bb, off + i * 4 + 2, none⟩) hbB).trans q2
      have l3 := (hbw.cell (p := ⟨bb, off + i * 4 + 3, none⟩) hbB).trans q3
      clear hbw q0 q1 q2 q3
      obtain ⟨⟨i1, i2⟩, lb, at_⟩ := x
      replace hdn : dsE (Es.take (i + 1)) = dsE (Es.take i) ++ [(i1, i2, 0), (i1, i2, 1)] := hdn
      have q0 : wo.cell? ⟨bb, off + i * 4, none⟩ = some (.int .i64 i1) := l0
      have q1 : wo.cell? ⟨bb, off + i * 4 + 1, none⟩ = some (.int .i64 i2) := l1
      have Hbb : RowKit.Hid (bb < b0 + 1) := Lib.hid (by have := Lb0.out; omega)
      have HOd := Lib.hid (HO.out.up ((Below.refl _ _).drew))
      have HXd := Lib.hid HX.out.dr
      have HDn := Lib.hid hdn
      clear l0 l1 l2 l3 hx hbB hpl hdn
      go_upto_region 5 with fail
      have ld1 : ∀ w', Kept (From_ (b0 + 1)) wo.drew w' → w'.cell? ⟨b0, 1, none⟩ = some (.slice (some ⟨bb, off, none⟩) m k) := fun w' h => h.from_cell (Nat.lt_succ_self _) (HXd.out.cell (i := 1) rfl)
      have ld2 : ∀ w', Kept (From_ (b0 + 1)) wo.drew w' → w'.cell? ⟨bb, off + i * 4, none⟩ = some (.int .i64 i1) := fun w' h => h.from_cell Hbb.out (show wo.drew.cell? _ = _ from q0)
      have ld3 : ∀ w', Kept (From_ (b0 + 1)) wo.drew w' → w'.cell? ⟨bb, off + i * 4 + 1, none⟩ = some (.int .i64 i2) := fun w' h => h.from_cell Hbb.out (show wo.drew.cell? _ = _ from q1)
      clear q0 q1 c1 HX HO HB
      refine wp_region_reg (From_ (b0 + 1)) (by kernel_rfl) ?_
      refine opR_ 0 13 (v := ?_) ?_ ?_; rotate_left
      · intro w' hw'; go_simp; (try with_reducible rfl)
      simp only [st0_, st1_]
      refine opR_ 1 14 (v := ?_) ?_ ?_; rotate_left
      · intro w' hw'; go_simp; (try with_reducible rfl)
      simp only [st0_, st1_]
      refine opR_ 2 15 (v := ?_) ?_ ?_; rotate_left
      · intro w' hw'; go_simp; (try with_reducible rfl)
      simp only [st0_, st1_]
      refine opR_ 3 16 (v := ?_) ?_ ?_; rotate_left
      · intro w' hw'; go_simp; (try with_reducible rfl)
      simp only [st0_, st1_]
      refine opR_ 4 17 (v := ?_) ?_ ?_; rotate_left
      · intro w' hw'; go_simp; (try with_reducible rfl)
      simp only [st0_, st1_]
      refine opR_ 5 18 (v := ?_) ?_ ?_; rotate_left
      · intro w' hw'; go_simp; (try with_reducible rfl)
      simp only [st0_, st1_]
      refine opR_ 6 19 (v := ?_) ?_ ?_; rotate_left
      · intro w' hw'; go_simp; (try with_reducible rfl)
      simp only [st0_, st1_]
      refine opR_ 7 20 (v := ?_) ?_ ?_; rotate_left
      · intro w' hw'; go_simp; (try with_reducible rfl)
      simp only [st0_, st1_]
      refine opR_ 8 21 (v := ?_) ?_ ?_; rotate_left
      · intro w' hw'; go_simp; (try with_reducible rfl)
      simp only [st0_, st1_]
      refine opR_ 9 22 (v := ?_) ?_ ?_; rotate_left
      · intro w' hw'; go_simp; (try with_reducible rfl)
      simp only [st0_, st1_]
      refine opR_ 10 23 (v := ?_) ?_ ?_; rotate_left
      · intro w' hw'; go_simp; (try with_reducible rfl)
      simp only [st0_, st1_]
      refine opR_ 11 24 (v := ?_) ?_ ?_; rotate_left
      · intro w' hw'; go_simp; (try with_reducible rfl)
      simp only [st0_, st1_]
      refine opR_ 12 25 (v := ?_) ?_ ?_; rotate_left
      · intro w' hw'; go_simp; (try with_reducible rfl)
      simp only [st0_, st1_]
      refine opR_ 13 26 (v := ?_) ?_ ?_; rotate_left
      · intro w' hw'; go_simp; (try with_reducible rfl)
      simp only [st0_, st1_]
      refine opR_ 14 27 (v := ?_) ?_ ?_; rotate_left
      · intro w' hw'; go_simp; (try with_reducible rfl)
      simp only [st0_, st1_]
      apply wpR_run 15 (some 28)
      · rfl
      · rfl
      · kernel_rfl
      · rfl
      intro w' hw'
      refine ⟨.slice (some ⟨w'.heap.size, 0, none⟩) 2 2, w'.alloc (.cells #[.int .i64 i1, .int .i64 i2, .int .i64 0, .int .i64 i1, .int .i64 i2, .int .i64 1] 49), exec_buildSlice 45 49 2 #[(0, .tmp 20), (1, .tmp 27)] (by rfl) Tryz.underlying45 _ (by kernel_rfl), Kept.of_below (below1 _ _), ?_⟩
      have HL : RowKit.Hid (RdS (w'.alloc (.cells #[.int .i64 i1, .int .i64 i2, .int .i64 0, .int .i64 i1, .int .i64 i2, .int .i64 1] 49)) (w'.alloc (.cells #[.int .i64 i1, .int .i64 i2, .int .i64 0, .int .i64 i1, .int .i64 i2, .int .i64 1] 49)).heap.size 3 (some ⟨w'.heap.size, 0, none⟩) 2 2 (dartsV [(i1, i2, 0), (i1, i2, 1)])) := Lib.hid (RdS.of_whole (Whole.new_ _ _ _) rfl)
      have HOe := Lib.hid (HOd.out.up (bel_al hw' (.cells #[.int .i64 i1, .int .i64 i2, .int .i64 0, .int .i64 i1, .int .i64 i2, .int .i64 1] 49)))
      have HXe := Lib.hid ((HXd.out.bl hw').al (.cells #[.int .i64 i1, .int .i64 i2, .int .i64 0, .int .i64 i1, .int .i64 i2, .int .i64 1] 49))
      obtain ⟨W3, gW3⟩ : ∃ z, w'.alloc (.cells #[.int .i64 i1, .int .i64 i2, .int .i64 0, .int .i64 i1, .int .i64 i2, .int .i64 1] 49) = z := ⟨_, rfl⟩
      obtain ⟨g3, gg3⟩ : ∃ z, w'.heap.size = z := ⟨_, rfl⟩
      rw [gW3] at HL HOe HXe ⊢
      rw [gg3] at HL ⊢
      clear hw' gW3 gg3 HOd HXd
      simp only [Act.put, stA_, st0_, st1_]
      apply wpR_run 16 (some 29)
      · rfl
      · rfl
      · kernel_rfl
      · rfl
      intro w' hw'
      obtain ⟨v8, w'', hrun, how8, hb8⟩ := Ow.app (P := Tryz.prog) 45 45 49 i0 _ 3 24 (b0 + 1) Tryz.underlying45 hi0 hz0 hz1 hz2 rfl (by decide) _ (2 * i) _ (HOe.out.up hw') _ _ 2 _ _ (HL.out.bl hw') (by simp [dartsV, Value.oneCell']) (by unfold maxLen; omega) (by omega)
      obtain ⟨A8, c8, rfl, -⟩ := how8.rds
      refine ⟨_, w'', exec_append (by rfl) (by rfl) (by rfl) hrun, Kept.of_from hb8, ?_⟩
      have HO9 : RowKit.Hid (Ow w (b0 + 1) 49 3 (.slice A8 (2 * i + 2) c8) (2 * i + 2) (dartsV (dsE (Es.take (i + 1)))) w'') := Lib.hid (by
        rw [HDn.out, dartsV_app]
        exact how8)
      have HX9 := Lib.hid ((Kept.of_from hb8).whole (HXe.out.bl hw') (by unfold From_; omega))
      obtain ⟨W4, gW4⟩ : ∃ z, w'' = z := ⟨_, rfl⟩
      rw [gW4] at HO9 HX9 ⊢
      clear hw' hrun hb8 how8 gW4 HL HOe HXe
      simp only [Act.put, stA_, st0_, st1_]
      refine opR_ 17 3 (v := ?_) ?_ ?_; rotate_left
      · intro w' hw'; go_simp; (try with_reducible rfl)
      simp only [st0_, st1_]
      refine wpR_done (by kernel_rfl) ?_ _
      intro W8 hw8
      have HO10 := Lib.hid (HO9.out.up hw8)
      have HX10 := Lib.hid (HX9.out.bl hw8)
      clear hw8 HO9 HX9
      go_wp2
      go_roundw
      case rel => exact ⟨i + 1, A8, c8, by omega, by go_num, by rw [show 2 * (i + 1) = 2 * i + 2 by omega], HX10, by rw [show 2 * (i + 1) = 2 * i + 2 by omega]; exact HO10⟩
      case measure => simp [intOf]; omega
    · obtain rfl : m = i := by omega
      have hO := HO.out
      rw [List.take_of_length_le (by have := Hle.out; omega)] at hO
      have HO2 := Lib.hid hO
      clear hO HO HX
      go_wp2
      go_ret
      exact ⟨A2, c2, rfl, own_base HO2.out.own (by have := Lb0.out; omega), HO2.out.below⟩
end Go.Proofs.YtmkflebkifbpfaaGreat
/- Next of rings, the program's and the document's. -/
namespace Go.Proofs.YtmkflebkifbpfaaGreat
open Go.RowKit
def stpD (L : List D) (d : D) (p : Nat) : D := if d ∈ L then L.getD ((L.idxOf d + p) % L.length) (0, 0, 0) else (0, 0, 0)
def GivesD (w : World) (x : D) (ok : Bool) (e : Ending) (w' : World) : Prop :=
  e = .returned (.tuple #[.agg #[.int .i64 x.1, .int .i64 x.2.1, .int .i64 x.2.2], .bool ok]) ∧ Below w.heap.size w w'
def nextD (L : List D) (d : D) : D := stpD L d 1
theorem rfnext_any (A : Option Addr) (n c : Nat) (L : List D) (d : D) (w : World) (h : RdS w w.heap.size 3 A n c (dartsV L)) (hn : n ≤ 1000000) :
    Calls Tryz.prog 110 #[.slice A n c, .agg #[.int .i64 d.1, .int .i64 d.2.1, .int .i64 d.2.2]] w (GivesD w (nextD L d) (decide (d ∈ L))) := by
  have HI := Lib.hid (fun W h => rfindex_any A n c L d W h (by omega))
  have H := Lib.hid h
  have hl := h.dlen
  by_cases hd : d ∈ L
  · obtain ⟨e1, e2⟩ := idxD_mem hd
    rw [e1] at HI
    obtain ⟨k, gk⟩ : ∃ v, L.idxOf d = v := ⟨_, rfl⟩
    have hkn : k < n := by omega
    have hs : nextD L d = L.getD ((k + 1) % n) (0, 0, 0) := by rw [nextD, stpD, if_pos hd, gk, hl]
    rw [gk] at HI e2
    obtain ⟨b, off, rfl, hb, hc⟩ := h.darts (by omega)
    have hj : (k + 1) % n < n := Nat.mod_lt _ (by omega)
    have hmod : ((k : Int) + 1) % (n : Int) = (((k + 1) % n : Nat) : Int) := by rw [Int.natCast_emod, Int.natCast_add]; rfl
    obtain ⟨j, gj⟩ : ∃ v, (k + 1) % n = v := ⟨_, rfl⟩
    rw [gj] at hs hj hmod
    obtain ⟨c1, c2, c3⟩ := hc j (by omega)
    obtain ⟨x, gx⟩ : ∃ v, L.getD j (0, 0, 0) = v := ⟨_, rfl⟩
    rw [gx] at hs c1 c2 c3
    rw [hs, decide_eq_true hd]
    have C1 := Lib.hid c1
    have C2 := Lib.hid c2
    have C3 := Lib.hid c3
    clear hs gx gj hc hd gk e1 e2 h hl c1 c2 c3
    go_enter Tryz.func110, Tryz.ntmps110
    go_wp2_with (first
      | (go_at_call 82; refine (HI.out _ (by exact H.out.up (below2 _ _ _) (by simp <;> omega))).mono ?_; rintro e w2 ⟨rfl, hb2⟩
         have HB := Lib.hid (below_after2 hb2)
         have d1 := (HB.out.cell (p := ⟨b, off + j * 3, none⟩) hb).trans C1.out
         have d2 := (HB.out.cell (p := ⟨b, off + j * 3 + 1, none⟩) hb).trans C2.out
         have d3 := (HB.out.cell (p := ⟨b, off + j * 3 + 2, none⟩) hb).trans C3.out
         have hz := (Whole.new_ (w.alloc (.cells #[.int .i64 d.1, .int .i64 d.2.1, .int .i64 d.2.2] 49)) 49 [.int .i64 0, .int .i64 0, .int .i64 0]).below hb2
         simp only [World.size_alloc] at hz
         have z0 := hz.cell (i := 0) rfl
         have z1 := hz.cell (i := 1) rfl
         have z2 := hz.cell (i := 2) rfl
         have y0 := hz.free 0
         have y1 := hz.free 1
         have y2 := hz.free 2
         clear hb2 hz))
    exact bodyPost_ret (v := .tuple #[.agg #[.int .i64 x.1, .int .i64 x.2.1, .int .i64 x.2.2], .bool true]) (by simp [results, Tryz.results110, go_sem, z0, z1, z2]) rfl ⟨rfl, ((HB.out.setCell (by simp) _).setCell (by simp) _).setCell (by simp) _⟩
  · have hs : nextD L d = (0, 0, 0) := by rw [nextD, stpD, if_neg hd]
    rw [idxD_no hd] at HI
    rw [hs, decide_eq_false hd]
    clear hs h hd hl
    go_enter Tryz.func110, Tryz.ntmps110
    go_wp2_with (first
      | (go_at_call 82; refine (HI.out _ (by exact H.out.up (below2 _ _ _) (by simp <;> omega))).mono ?_; rintro e w2 ⟨rfl, hb2⟩
         have HB := Lib.hid (below_after2 hb2)
         have hz := (Whole.new_ (w.alloc (.cells #[.int .i64 d.1, .int .i64 d.2.1, .int .i64 d.2.2] 49)) 49 [.int .i64 0, .int .i64 0, .int .i64 0]).below hb2
         simp only [World.size_alloc] at hz
         have z0 := hz.cell (i := 0) rfl
         have z1 := hz.cell (i := 1) rfl
         have z2 := hz.cell (i := 2) rfl
         have y0 := hz.free 0
         have y1 := hz.free 1
         have y2 := hz.free 2
         clear hb2 hz))
    exact bodyPost_ret (v := .tuple #[.agg #[.int .i64 0, .int .i64 0, .int .i64 0], .bool false]) (by simp [results, Tryz.results110, go_sem, z0, z1, z2]) rfl ⟨rfl, ((HB.out.setCell (by simp) _).setCell (by simp) _).setCell (by simp) _⟩
end Go.Proofs.YtmkflebkifbpfaaGreat
/- Sigma and Phi, the program's and the document's. -/
namespace Go.Proofs.YtmkflebkifbpfaaGreat
open Go.RowKit
/-- The other one, of any dart. -/
def othW (d : D) : D := (d.1, d.2.1, IntKind.i64.wrap (1 - d.2.2))
theorem othW_in {d : D} (h : 0 ≤ d.2.2 ∧ d.2.2 ≤ 1) : othW d = othD d := by
  unfold othW othD
  rw [IntWalk.i64_in (1 - d.2.2) (by omega)]
theorem othW_out {d : D} (h1 : -9223372036854775808 ≤ d.2.2 ∧ d.2.2 ≤ 9223372036854775807) (h : ¬ (d.2.2 = 0 ∨ d.2.2 = 1)) : ¬ ((othW d).2.2 = 0 ∨ (othW d).2.2 = 1) := by
  show ¬ (IntKind.i64.wrap (1 - d.2.2) = 0 ∨ IntKind.i64.wrap (1 - d.2.2) = 1)
  by_cases q : d.2.2 = -9223372036854775808
  · rw [q]; decide
  · rw [IntWalk.i64_left]
    unfold wrap64
    omega
section
variable {Vs : List VC} {Es : List EC}
theorem Formed.othW (h : Formed Vs Es) {d : D} (hb : -9223372036854775808 ≤ d.2.2 ∧ d.2.2 ≤ 9223372036854775807) : (othW d ∈ ringsOf Vs ↔ d ∈ ringsOf Vs) ∧ (d ∈ ringsOf Vs → othW d = othD d) := by
  have hs : ∀ {x : D}, x ∈ ringsOf Vs → x.2.2 = 0 ∨ x.2.2 = 1 := fun hx => by
    obtain ⟨e, _, _, q⟩ := (h.mem _).1 hx
    exact q
  by_cases q : d.2.2 = 0 ∨ d.2.2 = 1
  · have e := othW_in (d := d) (by omega)
    rw [e]
    exact ⟨h.ohs d, fun _ => rfl⟩
  · exact ⟨⟨fun hx => (othW_out hb q (hs hx)).elim, fun hx => (q (hs hx)).elim⟩, fun hx => (q (hs hx)).elim⟩
theorem at_fnd (h : Formed Vs Es) (x : D) : (x ∈ (fndV Vs (atV Vs x).1).1.2.1.2.2.2 ↔ x ∈ ringsOf Vs) ∧ nextD (fndV Vs (atV Vs x).1).1.2.1.2.2.2 x = sgF Vs x ∧ (atV Vs x).2 = decide (x ∈ ringsOf Vs) := by
  by_cases hx : x ∈ ringsOf Vs
  · obtain ⟨v, hv, hr⟩ := ring_mem.1 hx
    have e1 := h.at hv hr
    have e2 : fndV Vs v.1 = (v, true) := by
      have hn := rise_nodup h.rv
      clear h hx e1 hr
      induction Vs with
      | nil => cases hv
      | cons u r ih =>
        rw [List.map_cons, List.nodup_cons] at hn
        rcases List.mem_cons.1 hv with rfl | hv
        · exact fnd_yes _ _ _ _ _ rfl
        · have : ¬ u.1 = v.1 := fun e => hn.1 (e ▸ List.mem_map.2 ⟨v, hv, rfl⟩)
          exact (fnd_no _ _ _ _ _ this).trans (ih hv hn.2)
    rw [e1]
    show (x ∈ (fndV Vs v.1).1.2.1.2.2.2 ↔ _) ∧ nextD (fndV Vs v.1).1.2.1.2.2.2 x = _ ∧ true = _
    rw [e2, sgF_at h.once hv hr, decide_eq_true hx]
    refine ⟨⟨fun _ => hx, fun _ => hr⟩, ?_, rfl⟩
    show stpD _ _ 1 = _
    rw [stpD, if_pos hr]
    rfl
  · have e1 : atV Vs x = ((0, 0), false) := by
      unfold atV
      rw [List.find?_eq_none.2 (fun v hv q => hx (ring_mem.2 ⟨v, hv, of_decide_eq_true q⟩))]
    have e2 : fndV Vs (0, 0) = (zV, false) := by
      unfold fndV fnd
      rw [List.find?_eq_none.2 (fun v hv q => by
        have h1 := ((riseF_iff _ _).1 h.rv).1 v.1 (List.mem_map.2 ⟨v, hv, rfl⟩)
        have q1 : v.1 = (0, 0) := of_decide_eq_true q
        rw [q1] at h1
        revert h1
        decide)]
    rw [e1]
    show (x ∈ (fndV Vs (0, 0)).1.2.1.2.2.2 ↔ _) ∧ nextD (fndV Vs (0, 0)).1.2.1.2.2.2 x = _ ∧ false = _
    rw [e2, sgF, sigM_no h.once hx, decide_eq_false hx]
    exact ⟨⟨fun q => (by cases q), fun q => (hx q).elim⟩, rfl, rfl⟩
end
set_option maxRecDepth 100000 in
set_option maxHeartbeats 4000000 in
theorem rother_w (x1 x2 x3 : Int) (w : World) : Calls Tryz.prog 104 #[.agg #[.int .i64 x1, .int .i64 x2, .int .i64 x3]] w fun e w' => e = .returned (.agg #[.int .i64 (othW (x1, x2, x3)).1, .int .i64 (othW (x1, x2, x3)).2.1, .int .i64 (othW (x1, x2, x3)).2.2]) ∧ Below w.heap.size w w' := by
  go_enter Tryz.func104, Tryz.ntmps104
  go_wp2
  exact bodyPost_ret (v := .agg #[.int .i64 x1, .int .i64 x2, .int .i64 (IntKind.i64.wrap (1 - x3))]) (by simp [results, Tryz.results104, go_sem, IntWalk.i64_left]) rfl ⟨rfl, below2 _ _ _⟩
set_option maxRecDepth 100000 in
set_option maxHeartbeats 4000000 in
theorem rsigma_any (A : Option Addr) (n c : Nat) (Vs : List VC) (B : Option Addr) (m k : Nat) (Es : List EC) (x1 x2 x3 : Int) (w : World) (h : DgIn w A n c Vs B m k Es) (hf : Formed Vs Es) :
    Calls Tryz.prog 103 #[.agg #[.slice A n c, .slice B m k], .agg #[.int .i64 x1, .int .i64 x2, .int .i64 x3]] w (GivesD w (sgF Vs (x1, x2, x3)) (decide ((x1, x2, x3) ∈ ringsOf Vs))) := by
  have HDa := Lib.hid h
  have hr : ∀ x ∈ Vs, x.2.1.2.1 ≤ 1000000 := fun x hx => by have := (hf.small h).2.2 x hx; omega
  have hn : n ≤ 1000000 := by have := (hf.small h).1; omega
  obtain ⟨p1, p2, p3⟩ := at_fnd hf (x1, x2, x3)
  have HAt := Lib.hid (fun W (h : DgIn W A n c Vs B m k Es) => rat_any A n c Vs B m k Es x1 x2 x3 W h (by omega) (fun x hx => by have := hr x hx; omega))
  obtain ⟨⟨⟨a1, a2⟩, ok⟩, ga⟩ : ∃ z, atV Vs (x1, x2, x3) = z := ⟨_, rfl⟩
  rw [ga] at HAt p1 p2 p3
  have q1 := fun W (h : DgIn W A n c Vs B m k Es) => fndV_ring h hr (a1, a2)
  obtain ⟨⟨⟨⟨i1, i2⟩, ⟨rA, rn, rc, rL⟩, lb, at_⟩, okv⟩, gv⟩ : ∃ z, fndV Vs (a1, a2) = z := ⟨_, rfl⟩
  have q2 := fun W (h : DgIn W A n c Vs B m k Es) => rfindV A n c Vs B m k Es a1 a2 W (DgIn.v h) (by omega)
  rw [show fndV Vs ((a1, a2), ok).1 = _ from gv] at p1 p2
  simp only [gv] at q1
  replace p1 : (x1, x2, x3) ∈ rL ↔ (x1, x2, x3) ∈ ringsOf Vs := p1
  replace p2 : nextD rL (x1, x2, x3) = sgF Vs (x1, x2, x3) := p2
  replace p3 : ok = decide ((x1, x2, x3) ∈ ringsOf Vs) := p3
  have hrn : ∀ W, DgIn W A n c Vs B m k Es → RdS W W.heap.size 3 rA rn rc (dartsV rL) ∧ rn ≤ 1000000 := fun W h => ⟨(q1 W h).1.2, (q1 W h).2⟩
  have HRn := Lib.hid hrn
  have hNx : ∀ W A' c', RdS W W.heap.size 3 A' rn c' (dartsV rL) → Calls Tryz.prog 110 #[.slice A' rn c', .agg #[.int .i64 x1, .int .i64 x2, .int .i64 x3]] W (GivesD W (sgF Vs (x1, x2, x3)) (decide ((x1, x2, x3) ∈ ringsOf Vs))) := fun W A' c' h' => by
    have := rfnext_any A' rn c' rL (x1, x2, x3) W h' (hrn _ h).2
    rw [p2, decide_eq_decide.2 p1] at this
    exact this
  have HNx := Lib.hid hNx
  have P3 := Lib.hid p3
  have hV : ∀ W, DgIn W A n c Vs B m k Es → Calls Tryz.prog 109 #[.agg #[.slice A n c, .slice B m k], .agg #[.int .i64 a1, .int .i64 a2]] W fun e w' => ∃ A' c', e = .returned (.tuple #[.agg #[.int .i64 i1, .int .i64 i2, .slice A' rn c', .string lb, .int .i64 at_], .bool okv]) ∧ RdS w' w'.heap.size 3 A' rn c' (dartsV rL) ∧ Below W.heap.size W w' := fun W h => by
    have h1 := q2 W h
    rw [gv] at h1
    refine Calls.mono h1 ?_
    rintro e w' ⟨rfl, hb⟩
    exact ⟨rA, rc, rfl, (hrn _ (h.bl hb)).1, hb⟩
  have HV := Lib.hid hV
  have hyz : ok = false → sgF Vs (x1, x2, x3) = (0, 0, 0) := fun e => by
    have hx : (x1, x2, x3) ∉ ringsOf Vs := of_decide_eq_false (p3.symm.trans e)
    rw [sgF, sigM_no hf.once hx]
    rfl
  have HYZ0 := Lib.hid hyz
  clear hyz q1 q2 p1 p2 p3 ga gv hrn hNx hV h hf hr hn
  obtain ⟨⟨y1, y2, y3⟩, gy⟩ : ∃ z, sgF Vs (x1, x2, x3) = z := ⟨_, rfl⟩
  obtain ⟨oy, goy⟩ : ∃ z, decide ((x1, x2, x3) ∈ ringsOf Vs) = z := ⟨_, rfl⟩
  rw [gy, goy] at HNx
  rw [gy] at HYZ0
  rw [goy] at P3
  rw [gy, goy]
  clear gy goy
  go_enter Tryz.func103, Tryz.ntmps103
  have lw1 : ((((w.alloc (.cells #[.slice A n c, .slice B m k] 25)).alloc (.cells #[.int .i64 x1, .int .i64 x2, .int .i64 x3] 49)).alloc (.cells #[.int .i64 0, .int .i64 0, .int .i64 0] 49))).cell? ⟨w.heap.size, 0, none⟩ = some (.slice A n c) := (((show Whole (w.alloc (.cells #[.slice A n c, .slice B m k] 25)) (w.heap.size) (25) ([.slice A n c, .slice B m k]) from Whole.new2 (by first | rfl | simp)).al (.cells #[.int .i64 x1, .int .i64 x2, .int .i64 x3] 49)).al (.cells #[.int .i64 0, .int .i64 0, .int .i64 0] 49)).cell (i := 0) rfl
  have lw2 : ((((w.alloc (.cells #[.slice A n c, .slice B m k] 25)).alloc (.cells #[.int .i64 x1, .int .i64 x2, .int .i64 x3] 49)).alloc (.cells #[.int .i64 0, .int .i64 0, .int .i64 0] 49))).cell? ⟨w.heap.size, 1, none⟩ = some (.slice B m k) := (((show Whole (w.alloc (.cells #[.slice A n c, .slice B m k] 25)) (w.heap.size) (25) ([.slice A n c, .slice B m k]) from Whole.new2 (by first | rfl | simp)).al (.cells #[.int .i64 x1, .int .i64 x2, .int .i64 x3] 49)).al (.cells #[.int .i64 0, .int .i64 0, .int .i64 0] 49)).cell (i := 1) rfl
  have lw3 : ((((w.alloc (.cells #[.slice A n c, .slice B m k] 25)).alloc (.cells #[.int .i64 x1, .int .i64 x2, .int .i64 x3] 49)).alloc (.cells #[.int .i64 0, .int .i64 0, .int .i64 0] 49))).cell? ⟨w.heap.size + 1, 0, none⟩ = some (.int .i64 x1) := ((show Whole ((w.alloc (.cells #[.slice A n c, .slice B m k] 25)).alloc (.cells #[.int .i64 x1, .int .i64 x2, .int .i64 x3] 49)) ((w.heap.size + 1)) (49) ([.int .i64 x1, .int .i64 x2, .int .i64 x3]) from Whole.new2 (by first | rfl | simp)).al (.cells #[.int .i64 0, .int .i64 0, .int .i64 0] 49)).cell (i := 0) rfl
  have lw4 : ((((w.alloc (.cells #[.slice A n c, .slice B m k] 25)).alloc (.cells #[.int .i64 x1, .int .i64 x2, .int .i64 x3] 49)).alloc (.cells #[.int .i64 0, .int .i64 0, .int .i64 0] 49))).cell? ⟨w.heap.size + 1, 1, none⟩ = some (.int .i64 x2) := ((show Whole ((w.alloc (.cells #[.slice A n c, .slice B m k] 25)).alloc (.cells #[.int .i64 x1, .int .i64 x2, .int .i64 x3] 49)) ((w.heap.size + 1)) (49) ([.int .i64 x1, .int .i64 x2, .int .i64 x3]) from Whole.new2 (by first | rfl | simp)).al (.cells #[.int .i64 0, .int .i64 0, .int .i64 0] 49)).cell (i := 1) rfl
  have lw5 : ((((w.alloc (.cells #[.slice A n c, .slice B m k] 25)).alloc (.cells #[.int .i64 x1, .int .i64 x2, .int .i64 x3] 49)).alloc (.cells #[.int .i64 0, .int .i64 0, .int .i64 0] 49))).cell? ⟨w.heap.size + 1, 2, none⟩ = some (.int .i64 x3) := ((show Whole ((w.alloc (.cells #[.slice A n c, .slice B m k] 25)).alloc (.cells #[.int .i64 x1, .int .i64 x2, .int .i64 x3] 49)) ((w.heap.size + 1)) (49) ([.int .i64 x1, .int .i64 x2, .int .i64 x3]) from Whole.new2 (by first | rfl | simp)).al (.cells #[.int .i64 0, .int .i64 0, .int .i64 0] 49)).cell (i := 2) rfl
  go_wp2_with fail
  clear lw1 lw2 lw3 lw4 lw5
  refine (HAt.out _ (((HDa.out.al (.cells #[.slice A n c, .slice B m k] 25)).al (.cells #[.int .i64 x1, .int .i64 x2, .int .i64 x3] 49)).al (.cells #[.int .i64 0, .int .i64 0, .int .i64 0] 49))).mono ?_
  rintro e w6 ⟨rfl, hb6⟩
  have Da_7 := Lib.hid ((((HDa.out.al (.cells #[.slice A n c, .slice B m k] 25)).al (.cells #[.int .i64 x1, .int .i64 x2, .int .i64 x3] 49)).al (.cells #[.int .i64 0, .int .i64 0, .int .i64 0] 49)).bl hb6)
  have D0_7 := Lib.hid ((((show Whole (w.alloc (.cells #[.slice A n c, .slice B m k] 25)) (w.heap.size) (25) ([.slice A n c, .slice B m k]) from Whole.new2 (by first | rfl | simp)).al (.cells #[.int .i64 x1, .int .i64 x2, .int .i64 x3] 49)).al (.cells #[.int .i64 0, .int .i64 0, .int .i64 0] 49)).bl hb6)
  have X_7 := Lib.hid (((show Whole ((w.alloc (.cells #[.slice A n c, .slice B m k] 25)).alloc (.cells #[.int .i64 x1, .int .i64 x2, .int .i64 x3] 49)) ((w.heap.size + 1)) (49) ([.int .i64 x1, .int .i64 x2, .int .i64 x3]) from Whole.new2 (by first | rfl | simp)).al (.cells #[.int .i64 0, .int .i64 0, .int .i64 0] 49)).bl hb6)
  have R_7 := Lib.hid ((show Whole (((w.alloc (.cells #[.slice A n c, .slice B m k] 25)).alloc (.cells #[.int .i64 x1, .int .i64 x2, .int .i64 x3] 49)).alloc (.cells #[.int .i64 0, .int .i64 0, .int .i64 0] 49)) ((w.heap.size + 1 + 1)) (49) ([.int .i64 0, .int .i64 0, .int .i64 0]) from Whole.new2 (by first | rfl | simp)).bl hb6)
  have Bel_7 := Lib.hid (bel_bl (bel_al (bel_al (bel_al (Below.refl _ w) (.cells #[.slice A n c, .slice B m k] 25)) (.cells #[.int .i64 x1, .int .i64 x2, .int .i64 x3] 49)) (.cells #[.int .i64 0, .int .i64 0, .int .i64 0] 49)) hb6)
  clear HDa
  clear hb6
  have LO_D0_8 : RowKit.Hid (w.heap.size ≤ w.heap.size) := Lib.hid (by omega)
  have LO_X_9 : RowKit.Hid (w.heap.size ≤ (w.heap.size + 1)) := Lib.hid (by omega)
  have NE_D0_X : RowKit.Hid (w.heap.size ≠ (w.heap.size + 1)) := Lib.hid (by omega)
  have LO_R_10 : RowKit.Hid (w.heap.size ≤ (w.heap.size + 1 + 1)) := Lib.hid (by omega)
  have NE_D0_R : RowKit.Hid (w.heap.size ≠ (w.heap.size + 1 + 1)) := Lib.hid (by omega)
  have NE_X_R : RowKit.Hid ((w.heap.size + 1) ≠ (w.heap.size + 1 + 1)) := Lib.hid (by omega)
  cases ok with
  | false =>
    obtain rfl : false = oy := P3.out
    have hyz : RowKit.Hid ((y1, y2, y3) = ((0, 0, 0) : D)) := Lib.hid (HYZ0.out rfl)
    obtain ⟨hy1, hy2, hy3⟩ : y1 = 0 ∧ y2 = 0 ∧ y3 = 0 := by
      have := hyz.out
      simp only [Prod.mk.injEq] at this
      exact this
    subst hy1 hy2 hy3
    have z0 := (R_7.out.al (.cells #[.int .i64 a1, .int .i64 a2] 41)).cell (i := 0) rfl
    have z1 := (R_7.out.al (.cells #[.int .i64 a1, .int .i64 a2] 41)).cell (i := 1) rfl
    have z2 := (R_7.out.al (.cells #[.int .i64 a1, .int .i64 a2] 41)).cell (i := 2) rfl
    have f0 := (R_7.out.al (.cells #[.int .i64 a1, .int .i64 a2] 41)).free 0
    have f1 := (R_7.out.al (.cells #[.int .i64 a1, .int .i64 a2] 41)).free 1
    have f2 := (R_7.out.al (.cells #[.int .i64 a1, .int .i64 a2] 41)).free 2
    have HY := Lib.hid ((((R_7.out.al (.cells #[.int .i64 a1, .int .i64 a2] 41)).set_ 0 (.int .i64 0)).set_ 1 (.int .i64 0)).set_ 2 (.int .i64 0))
    have HBz := Lib.hid ((((bel_al Bel_7.out (.cells #[.int .i64 a1, .int .i64 a2] 41)).setCell (p := ⟨w.heap.size + 1 + 1, 0, none⟩) (show w.heap.size ≤ w.heap.size + 1 + 1 by omega) (.int .i64 0)).setCell (p := ⟨w.heap.size + 1 + 1, 1, none⟩) (show w.heap.size ≤ w.heap.size + 1 + 1 by omega) (.int .i64 0)).setCell (p := ⟨w.heap.size + 1 + 1, 2, none⟩) (show w.heap.size ≤ w.heap.size + 1 + 1 by omega) (.int .i64 0))
    go_wp2
    exact ret_whole2 rfl (w.heap.size + 1 + 1) rfl rfl HY.out Tryz.underlying49 rfl (by kernel_rfl) rfl ⟨rfl, HBz.out⟩
  | true =>
  skip
  have lw11 : ((w6.alloc (.cells #[.int .i64 a1, .int .i64 a2] 41))).cell? ⟨w.heap.size, 0, none⟩ = some (.slice A n c) := (D0_7.out.al (.cells #[.int .i64 a1, .int .i64 a2] 41)).cell (i := 0) rfl
  have lw12 : ((w6.alloc (.cells #[.int .i64 a1, .int .i64 a2] 41))).cell? ⟨w.heap.size, 1, none⟩ = some (.slice B m k) := (D0_7.out.al (.cells #[.int .i64 a1, .int .i64 a2] 41)).cell (i := 1) rfl
  have lw13 : ((w6.alloc (.cells #[.int .i64 a1, .int .i64 a2] 41))).cell? ⟨w6.heap.size, 0, none⟩ = some (.int .i64 a1) := (show Whole (w6.alloc (.cells #[.int .i64 a1, .int .i64 a2] 41)) (w6.heap.size) (41) ([.int .i64 a1, .int .i64 a2]) from Whole.new2 (by first | rfl | simp)).cell (i := 0) rfl
  have lw14 : ((w6.alloc (.cells #[.int .i64 a1, .int .i64 a2] 41))).cell? ⟨w6.heap.size, 1, none⟩ = some (.int .i64 a2) := (show Whole (w6.alloc (.cells #[.int .i64 a1, .int .i64 a2] 41)) (w6.heap.size) (41) ([.int .i64 a1, .int .i64 a2]) from Whole.new2 (by first | rfl | simp)).cell (i := 1) rfl
  go_wp2_with fail
  clear lw11 lw12 lw13 lw14
  refine (HV.out _ (Da_7.out.al (.cells #[.int .i64 a1, .int .i64 a2] 41))).mono ?_
  rintro e w15 ⟨A1, c1, rfl, hR, hb15⟩
  have Da_16 := Lib.hid ((Da_7.out.al (.cells #[.int .i64 a1, .int .i64 a2] 41)).bl hb15)
  have D0_16 := Lib.hid ((D0_7.out.al (.cells #[.int .i64 a1, .int .i64 a2] 41)).bl hb15)
  have X_16 := Lib.hid ((X_7.out.al (.cells #[.int .i64 a1, .int .i64 a2] 41)).bl hb15)
  have R_16 := Lib.hid ((R_7.out.al (.cells #[.int .i64 a1, .int .i64 a2] 41)).bl hb15)
  have I_16 := Lib.hid ((show Whole (w6.alloc (.cells #[.int .i64 a1, .int .i64 a2] 41)) (w6.heap.size) (41) ([.int .i64 a1, .int .i64 a2]) from Whole.new2 (by first | rfl | simp)).bl hb15)
  have Bel_16 := Lib.hid (bel_bl (bel_al Bel_7.out (.cells #[.int .i64 a1, .int .i64 a2] 41)) hb15)
  clear Da_7 D0_7 X_7 R_7 Bel_7
  clear hb15
  have Rg_16 := Lib.hid hR
  clear hR
  have lw17 : ((w15.alloc (.cells #[.int .i64 i1, .int .i64 i2, .slice A1 rn c1, .string lb, .int .i64 at_] 47))).cell? ⟨w.heap.size + 1, 0, none⟩ = some (.int .i64 x1) := (X_16.out.al (.cells #[.int .i64 i1, .int .i64 i2, .slice A1 rn c1, .string lb, .int .i64 at_] 47)).cell (i := 0) rfl
  have lw18 : ((w15.alloc (.cells #[.int .i64 i1, .int .i64 i2, .slice A1 rn c1, .string lb, .int .i64 at_] 47))).cell? ⟨w.heap.size + 1, 1, none⟩ = some (.int .i64 x2) := (X_16.out.al (.cells #[.int .i64 i1, .int .i64 i2, .slice A1 rn c1, .string lb, .int .i64 at_] 47)).cell (i := 1) rfl
  have lw19 : ((w15.alloc (.cells #[.int .i64 i1, .int .i64 i2, .slice A1 rn c1, .string lb, .int .i64 at_] 47))).cell? ⟨w.heap.size + 1, 2, none⟩ = some (.int .i64 x3) := (X_16.out.al (.cells #[.int .i64 i1, .int .i64 i2, .slice A1 rn c1, .string lb, .int .i64 at_] 47)).cell (i := 2) rfl
  have lw20 : ((w15.alloc (.cells #[.int .i64 i1, .int .i64 i2, .slice A1 rn c1, .string lb, .int .i64 at_] 47))).cell? ⟨w15.heap.size, 2, none⟩ = some (.slice A1 rn c1) := (show Whole (w15.alloc (.cells #[.int .i64 i1, .int .i64 i2, .slice A1 rn c1, .string lb, .int .i64 at_] 47)) (w15.heap.size) (47) ([.int .i64 i1, .int .i64 i2, .slice A1 rn c1, .string lb, .int .i64 at_]) from Whole.new2 (by first | rfl | simp)).cell (i := 2) rfl
  go_wp2_with fail
  clear lw17 lw18 lw19 lw20
  refine (HNx.out _ _ _ (Rg_16.out.al (.cells #[.int .i64 i1, .int .i64 i2, .slice A1 rn c1, .string lb, .int .i64 at_] 47))).mono ?_
  rintro e w21 ⟨rfl, hb21⟩
  have Da_22 := Lib.hid ((Da_16.out.al (.cells #[.int .i64 i1, .int .i64 i2, .slice A1 rn c1, .string lb, .int .i64 at_] 47)).bl hb21)
  have D0_22 := Lib.hid ((D0_16.out.al (.cells #[.int .i64 i1, .int .i64 i2, .slice A1 rn c1, .string lb, .int .i64 at_] 47)).bl hb21)
  have X_22 := Lib.hid ((X_16.out.al (.cells #[.int .i64 i1, .int .i64 i2, .slice A1 rn c1, .string lb, .int .i64 at_] 47)).bl hb21)
  have R_22 := Lib.hid ((R_16.out.al (.cells #[.int .i64 i1, .int .i64 i2, .slice A1 rn c1, .string lb, .int .i64 at_] 47)).bl hb21)
  have I_22 := Lib.hid ((I_16.out.al (.cells #[.int .i64 i1, .int .i64 i2, .slice A1 rn c1, .string lb, .int .i64 at_] 47)).bl hb21)
  have Rg_22 := Lib.hid ((Rg_16.out.al (.cells #[.int .i64 i1, .int .i64 i2, .slice A1 rn c1, .string lb, .int .i64 at_] 47)).bl hb21)
  have V_22 := Lib.hid ((show Whole (w15.alloc (.cells #[.int .i64 i1, .int .i64 i2, .slice A1 rn c1, .string lb, .int .i64 at_] 47)) (w15.heap.size) (47) ([.int .i64 i1, .int .i64 i2, .slice A1 rn c1, .string lb, .int .i64 at_]) from Whole.new2 (by first | rfl | simp)).bl hb21)
  have Bel_22 := Lib.hid (bel_bl (bel_al Bel_16.out (.cells #[.int .i64 i1, .int .i64 i2, .slice A1 rn c1, .string lb, .int .i64 at_] 47)) hb21)
  clear Da_16 D0_16 X_16 R_16 I_16 Rg_16 Bel_16
  clear hb21
  have z0 := R_22.out.cell (i := 0) rfl
  have z1 := R_22.out.cell (i := 1) rfl
  have z2 := R_22.out.cell (i := 2) rfl
  have f0 := R_22.out.free 0
  have f1 := R_22.out.free 1
  have f2 := R_22.out.free 2
  have HY := Lib.hid (((R_22.out.set_ 0 (.int .i64 y1)).set_ 1 (.int .i64 y2)).set_ 2 (.int .i64 y3))
  have HBz := Lib.hid (((Bel_22.out.setCell (p := ⟨w.heap.size + 1 + 1, 0, none⟩) (show w.heap.size ≤ w.heap.size + 1 + 1 by omega) (.int .i64 y1)).setCell (p := ⟨w.heap.size + 1 + 1, 1, none⟩) (show w.heap.size ≤ w.heap.size + 1 + 1 by omega) (.int .i64 y2)).setCell (p := ⟨w.heap.size + 1 + 1, 2, none⟩) (show w.heap.size ≤ w.heap.size + 1 + 1 by omega) (.int .i64 y3))
  go_wp2
  exact ret_whole2 rfl (w.heap.size + 1 + 1) rfl rfl HY.out Tryz.underlying49 rfl (by kernel_rfl) rfl ⟨rfl, HBz.out⟩
end Go.Proofs.YtmkflebkifbpfaaGreat
