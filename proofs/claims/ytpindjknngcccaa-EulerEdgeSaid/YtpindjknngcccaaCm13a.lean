/- The document's place, Labels. -/
import Derived.Test.YtpindjknngcccaaCm13n
import Derived.Test.YtpindjknngcccaaAtr
namespace Go.Proofs.Ytpindjknngcccaa
open Go.RowKit
set_option linter.unusedSimpArgs false
set_option linter.unusedVariables false

set_option maxRecDepth 100000 in
set_option maxHeartbeats 4000000 in
theorem rplace_any (A : Option Addr) (n c : Nat) (Vs : List VC) (B : Option Addr) (m k : Nat) (x1 x2 : Int) (w : World) (h : RdS w w.heap.size 5 A n c (rowsV vC Vs)) (hn : n ≤ 1000000) :
    Calls Try.prog 45 #[.agg #[.slice A n c, .slice B m k], .agg #[.int .i64 x1, .int .i64 x2]] w fun e w' => e = .returned (.int .i64 (placeF 0 Vs (x1, x2))) ∧ Below w.heap.size w w' := by
  have HV := Lib.hid h
  have Hlv := Lib.hid (h.rlen vC_len (by decide))
  obtain ⟨p, gp⟩ : ∃ z, placeF 0 Vs (x1, x2) = z := ⟨_, rfl⟩
  have HP := Lib.hid gp
  rw [gp]
  clear h gp
  go_enter Try.func45, Try.ntmps45
  go_upto_region 1 with fail
  have hx0 : Whole ((w.alloc (.cells #[.slice A n c, .slice B m k] 25)).alloc (.cells #[.int .i64 x1, .int .i64 x2] 35)) (w.heap.size) 25 [.slice A n c, .slice B m k] := ((Whole.new_ w 25 [.slice A n c, .slice B m k]).alloc (.cells #[.int .i64 x1, .int .i64 x2] 35))
  have hx1 : Whole ((w.alloc (.cells #[.slice A n c, .slice B m k] 25)).alloc (.cells #[.int .i64 x1, .int .i64 x2] 35)) (w.heap.size + 1) 35 [.int .i64 x1, .int .i64 x2] := (Whole.new2 (w := (w.alloc (.cells #[.slice A n c, .slice B m k] 25))) (by simp))
  have hbl : Below w.heap.size w ((w.alloc (.cells #[.slice A n c, .slice B m k] 25)).alloc (.cells #[.int .i64 x1, .int .i64 x2] 35)) := (bel_al (below1 w (.cells #[.slice A n c, .slice B m k] 25)) (.cells #[.int .i64 x1, .int .i64 x2] 35))
  have hsz : w.heap.size + 1 + 1 ≤ (((w.alloc (.cells #[.slice A n c, .slice B m k] 25)).alloc (.cells #[.int .i64 x1, .int .i64 x2] 35))).heap.size := by simp
  obtain ⟨W0, gW0⟩ : ∃ z, ((w.alloc (.cells #[.slice A n c, .slice B m k] 25)).alloc (.cells #[.int .i64 x1, .int .i64 x2] 35)) = z := ⟨_, rfl⟩
  rw [gW0] at hx0 hx1 hbl hsz
  obtain ⟨b1, gb1⟩ : ∃ z, w.heap.size + 1 = z := ⟨_, rfl⟩
  rw [gb1] at hx1
  obtain ⟨b0, gb0⟩ : ∃ z, w.heap.size = z := ⟨_, rfl⟩
  rw [gb0] at hx0
  have HX0 := Lib.hid hx0
  have HX1 := Lib.hid hx1
  have HB0 := Lib.hid hbl
  have HS0 := Lib.hid hsz
  have Gb0 := Lib.hid gb0
  have Lb0 : RowKit.Hid (w.heap.size ≤ b0) := Lib.hid (by omega)
  have Gb1 := Lib.hid gb1
  have Lb1 : RowKit.Hid (w.heap.size ≤ b1) := Lib.hid (by omega)
  have N01 : RowKit.Hid (b0 ≠ b1) := Lib.hid (by omega)
  rw [gW0, gb1, gb0]
  clear gW0 hbl hsz hx0 hx1 gb0 gb1
  go_wp2
  go_loopw [5] (fun si wr => ∃ j : Nat, j ≤ n ∧ si = .int .i64 j ∧ RowKit.Hid (Below W0.heap.size W0 wr) ∧ RowKit.Hid (p = placeF j (Vs.drop j) (x1, x2))) (fun si _ => n - (intOf si).toNat)
  case atStart => exact ⟨0, by omega, rfl, Lib.hid (Below.refl _ _), Lib.hid HP.out.symm⟩
  case round =>
    obtain ⟨j, hj, rfl, HBr, HE⟩ := hrel
    obtain ⟨wo, gwo⟩ : ∃ z, wr = z := ⟨_, rfl⟩
    rw [gwo] at HBr ⊢
    clear gwo
    have HXo := Lib.hid (HX0.out.bl HBr.out)
    have HYo := Lib.hid (HX1.out.bl HBr.out)
    have cb := HXo.out.cell (i := 0) rfl
    by_cases hjn : j < n
    · obtain ⟨v, hx⟩ : ∃ v, Vs[j]? = some v := ⟨_, List.getElem?_eq_getElem (by have := Hlv.out; omega)⟩
      have hdr : Vs.drop j = v :: Vs.drop (j + 1) := by
        rw [List.drop_eq_getElem_cons (List.getElem?_eq_some_iff.1 hx).1, (List.getElem?_eq_some_iff.1 hx).2]
      have HE2 := HE.out
      rw [hdr, placeF] at HE2
      have HE3 := Lib.hid HE2
      have HB := Lib.hid (HB0.out.trans (HBr.out.mono HB0.out.size))
      obtain ⟨bb, off, rfl, hbB, hpl⟩ := HV.out.place vC_len (by decide) (by omega)
      have hbw := HB.out
      have q0 := hpl j _ hx 0 _ rfl
      have q1 := hpl j _ hx 1 _ rfl
      have q2 := hpl j _ hx 2 _ rfl
      have q3 := hpl j _ hx 3 _ rfl
      have q4 := hpl j _ hx 4 _ rfl
      simp only [Addr.add_lit, Nat.add_zero] at q0 q1 q2 q3 q4
      have l0 := (hbw.cell (p := ⟨bb, off + j * 5, none⟩) hbB).trans q0
      have l1 := (hbw.cell (p := ⟨bb, off + j * 5 + 1, none⟩) hbB).trans q1
      have l2 := (hbw.cell (p := ⟨bb, off + j * 5 + 2, none⟩) hbB).trans q2
      have l3 := (hbw.cell (p := ⟨bb, off + j * 5 + 3, none⟩) hbB).trans q3
      have l4 := (hbw.cell (p := ⟨bb, off + j * 5 + 4, none⟩) hbB).trans q4
      clear hbw q0 q1 q2 q3 q4
      obtain ⟨⟨i1, i2⟩, ⟨rA, rn, rc, rL⟩, lb, at_⟩ := v
      have he := eq_id i1 i2 x1 x2
      have hd : (i1 == x1 && i2 == x2) = decide (((i1, i2) : I2) = (x1, x2)) := by
        by_cases h1 : i1 = x1 <;> by_cases h2 : i2 = x2 <;> simp [h1, h2]
      obtain ⟨b, gb⟩ : ∃ z, decide (((i1, i2) : I2) = (x1, x2)) = z := ⟨_, rfl⟩
      rw [hd, gb] at he
      have Hb := Lib.hid gb
      clear hx hdr HE2 hpl hbB HE hd gb
      go_upto_region 4 with fail
      clear cb
      have ld0 : ∀ w', Kept Nil_ wo.drew w' → w'.cell? ⟨b0, 0, none⟩ = some (.slice (some ⟨bb, off, none⟩) n c) := fun w' h => h.nil_cell (HXo.out.dr.cell (i := 0) rfl)
      have ld1 : ∀ w', Kept Nil_ wo.drew w' → w'.cell? ⟨b1, 0, none⟩ = some (.int .i64 x1) := fun w' h => h.nil_cell (HYo.out.dr.cell (i := 0) rfl)
      have ld2 : ∀ w', Kept Nil_ wo.drew w' → w'.cell? ⟨b1, 1, none⟩ = some (.int .i64 x2) := fun w' h => h.nil_cell (HYo.out.dr.cell (i := 1) rfl)
      have ld3 : ∀ w', Kept Nil_ wo.drew w' → w'.cell? ⟨bb, off + j * 5, none⟩ = some (.int .i64 i1) := fun w' h => h.nil_cell (show wo.drew.cell? _ = _ from l0)
      have ld4 : ∀ w', Kept Nil_ wo.drew w' → w'.cell? ⟨bb, off + j * 5 + 1, none⟩ = some (.int .i64 i2) := fun w' h => h.nil_cell (show wo.drew.cell? _ = _ from l1)
      refine wp_region_reg (Nil_) (by kernel_rfl) ?_
      apply wpR_next 0 (some 13)
      · simp only [List.getElem?_toArray, List.getElem?_cons_succ, List.getElem?_cons_zero]; exact rfl
      · rfl
      · kernel_rfl
      · kernel_rfl
      · kernel_rfl
      · exact fun _ _ _ _ h => h
      apply Exists.intro
      apply And.intro
      · apply yr_run; rfl; intro w' hw'; go_simp; (try with_reducible rfl)
      simp only [Act.put, List.setIfInBounds_toArray, List.set_cons_zero, List.set_cons_succ]
      apply wpR_next 1 (some 14)
      · simp only [List.getElem?_toArray, List.getElem?_cons_succ, List.getElem?_cons_zero]; exact rfl
      · rfl
      · kernel_rfl
      · kernel_rfl
      · kernel_rfl
      · exact fun _ _ _ _ h => h
      apply Exists.intro
      apply And.intro
      · apply yr_run; rfl; intro w' hw'; go_simp; (try with_reducible rfl)
      simp only [Act.put, List.setIfInBounds_toArray, List.set_cons_zero, List.set_cons_succ]
      apply wpR_next 2 (some 15)
      · simp only [List.getElem?_toArray, List.getElem?_cons_succ, List.getElem?_cons_zero]; exact rfl
      · rfl
      · kernel_rfl
      · kernel_rfl
      · kernel_rfl
      · exact fun _ _ _ _ h => h
      apply Exists.intro
      apply And.intro
      · apply yr_run; rfl; intro w' hw'; go_simp; (try with_reducible rfl)
      simp only [Act.put, List.setIfInBounds_toArray, List.set_cons_zero, List.set_cons_succ]
      apply wpR_next 3 (some 16)
      · simp only [List.getElem?_toArray, List.getElem?_cons_succ, List.getElem?_cons_zero]; exact rfl
      · rfl
      · kernel_rfl
      · kernel_rfl
      · kernel_rfl
      · exact fun _ _ _ _ h => h
      apply Exists.intro
      apply And.intro
      · apply yr_run; rfl; intro w' hw'; go_simp; (try with_reducible rfl)
      simp only [Act.put, List.setIfInBounds_toArray, List.set_cons_zero, List.set_cons_succ]
      apply wpR_next 4 (some 17)
      · simp only [List.getElem?_toArray, List.getElem?_cons_succ, List.getElem?_cons_zero]; exact rfl
      · rfl
      · kernel_rfl
      · kernel_rfl
      · kernel_rfl
      · exact fun _ _ _ _ h => h
      apply Exists.intro
      apply And.intro
      · apply yr_run; rfl; intro w' hw'; go_simp; (try with_reducible rfl)
      simp only [Act.put, List.setIfInBounds_toArray, List.set_cons_zero, List.set_cons_succ]
      apply wpR_next 5 (some 18)
      · simp only [List.getElem?_toArray, List.getElem?_cons_succ, List.getElem?_cons_zero]; exact rfl
      · rfl
      · kernel_rfl
      · kernel_rfl
      · kernel_rfl
      · exact fun _ _ _ _ h => h
      apply Exists.intro
      apply And.intro
      · apply yr_run; rfl; intro w' hw'; go_simp; (try with_reducible rfl)
      simp only [Act.put, List.setIfInBounds_toArray, List.set_cons_zero, List.set_cons_succ]
      apply wpR_next 6 (some 19)
      · simp only [List.getElem?_toArray, List.getElem?_cons_succ, List.getElem?_cons_zero]; exact rfl
      · rfl
      · kernel_rfl
      · kernel_rfl
      · kernel_rfl
      · exact fun _ _ _ _ h => h
      apply Exists.intro
      apply And.intro
      · apply yr_run; rfl; intro w' hw'; go_simp; (try with_reducible rfl)
      simp only [Act.put, List.setIfInBounds_toArray, List.set_cons_zero, List.set_cons_succ]
      apply wpR_next 7 (some 20)
      · simp only [List.getElem?_toArray, List.getElem?_cons_succ, List.getElem?_cons_zero]; exact rfl
      · rfl
      · kernel_rfl
      · kernel_rfl
      · kernel_rfl
      · exact fun _ _ _ _ h => h
      apply Exists.intro
      apply And.intro
      · exact yr_run (by rfl) (fun w' hw' => exec_binop_agg .eql 35 (.tmp 18) (.tmp 19) 35 rfl rfl rfl (by kernel_rfl) (he w'))
      simp only [Act.put, List.setIfInBounds_toArray, List.set_cons_zero, List.set_cons_succ]
      refine wpR_done (by kernel_rfl) ?_ _
      intro W8 hw8
      have HB8 := Lib.hid (bel_bl (bel_dr HBr.out) hw8)
      clear hw8 ld0 ld1 ld2 ld3 ld4 l0 l1 l2 l3 l4
      cases b with
      | true =>
        have hp : p = (j : Int) := by rw [HE3.out, if_pos (of_decide_eq_true Hb.out)]
        clear HE3
        subst hp
        go_wp2
        go_ret
        exact ⟨rfl, HB0.out.trans (HB8.out.mono HB0.out.size)⟩
      | false =>
        have HE4 : RowKit.Hid (p = placeF (j + 1) (Vs.drop (j + 1)) (x1, x2)) := Lib.hid (by rw [HE3.out, if_neg (of_decide_eq_false Hb.out)])
        go_wp2
        go_roundw
        case rel => exact ⟨j + 1, by omega, by go_num, HB8, HE4⟩
        case measure => simp [intOf] <;> omega
    · obtain rfl : n = j := by omega
      have hp : p = -1 := by
        rw [HE.out, List.drop_eq_nil_of_le (by have := Hlv.out; omega)]; rfl
      clear HE
      subst hp
      go_wp2
      go_ret
      exact ⟨rfl, HB0.out.trans (HBr.out.mono HB0.out.size)⟩

theorem up_snoc (j : Nat) : upN (j + 1) = upN j ++ [(j : Int)] := by simp [upN, List.range_succ]
theorem info_intL : (Try.prog.info? 3).map (fun i => (i.zero, i.size, i.bytes)) = some (some (.int .i64 0), 1, 8) := by kernel_rfl
set_option maxRecDepth 100000 in
set_option maxHeartbeats 4000000 in
theorem rlabels_any (A : Option Addr) (n c : Nat) (Vs : List VC) (B : Option Addr) (m k : Nat) (Es : List EC) (w : World) (h : DgIn w A n c Vs B m k Es) (hf : Formed Vs Es) :
    Calls Try.prog 46 #[.agg #[.slice A n c, .slice B m k]] w fun e w' => ∃ A2 c2, e = .returned (.slice A2 n c2) ∧ RdS w' w'.heap.size 1 A2 n c2 (rowsV n1 (labF Vs)) ∧ Below w.heap.size w w' := by
  obtain ⟨hn24, hm40, hr80⟩ := hf.small h
  have Hlv := Lib.hid (h.v.rlen vC_len (by decide))
  have Hlw := Lib.hid (h.e.rlen eC_len (by decide))
  have HD := Lib.hid h
  obtain ⟨P, gP⟩ : ∃ z, endsF Vs Es = z := ⟨_, rfl⟩
  have HRn : RowKit.Hid (rndN P n n = labF Vs) := Lib.hid (by rw [← gP, ← Hlv.out]; exact rounds_eq hf)
  have HPl : RowKit.Hid (P.length = m) := Lib.hid (by rw [← gP, endsF, List.length_map]; exact Hlw.out)
  have HPe : RowKit.Hid (∀ (i : Nat) (e : EC), Es[i]? = some e → ∃ a b : Nat, P[i]? = some (a, b) ∧ a < n ∧ b < n ∧ placeF 0 Vs (atV Vs (e.1.1, e.1.2, 0)).1 = (a : Int) ∧ placeF 0 Vs (atV Vs (e.1.1, e.1.2, 1)).1 = (b : Int)) := Lib.hid (fun i e he => by
    obtain ⟨a, v, hv, hd, ha⟩ := hf.dart (List.mem_of_getElem? he) 0 (.inl rfl)
    obtain ⟨b, u, hu, hd2, hb⟩ := hf.dart (List.mem_of_getElem? he) 1 (.inr rfl)
    have h1 := hf.stands hv hd
    have h2 := hf.stands hu hd2
    refine ⟨a, b, ?_, by rw [← Hlv.out]; exact ha, by rw [← Hlv.out]; exact hb, by rw [h1.1, h1.2], by rw [h2.1, h2.2]⟩
    rw [← gP, endsF, List.getElem?_map, he, Option.map_some, hf.plc hv hd, hf.plc hu hd2])
  have HAt : RowKit.Hid (∀ a1 a2 a3 W, DgIn W A n c Vs B m k Es → Calls Try.prog 21 #[.agg #[.slice A n c, .slice B m k], .agg #[.int .i64 a1, .int .i64 a2, .int .i64 a3]] W fun e w' => e = .returned (.tuple #[.agg #[.int .i64 (atV Vs (a1, a2, a3)).1.1, .int .i64 (atV Vs (a1, a2, a3)).1.2], .bool (atV Vs (a1, a2, a3)).2]) ∧ Below W.heap.size W w') := Lib.hid (fun a1 a2 a3 W h => rat_any A n c Vs B m k Es a1 a2 a3 W h (by omega) (fun x hx => by have := hr80 x hx; omega))
  have HPc : RowKit.Hid (∀ a1 a2 W, DgIn W A n c Vs B m k Es → Calls Try.prog 45 #[.agg #[.slice A n c, .slice B m k], .agg #[.int .i64 a1, .int .i64 a2]] W fun e w' => e = .returned (.int .i64 (placeF 0 Vs (a1, a2))) ∧ Below W.heap.size W w') := Lib.hid (fun a1 a2 W h => rplace_any A n c Vs B m k a1 a2 W h.v (by omega))
  obtain ⟨i0, hi, hz0, hz1, hz2⟩ := info_partsD info_intL
  clear h hf hr80 gP
  go_enter Try.func46, Try.ntmps46
  go_upto_region 1 with fail
  have hx0 : Whole (w.alloc (.cells #[.slice A n c, .slice B m k] 25)) (w.heap.size) 25 [.slice A n c, .slice B m k] := (Whole.new_ w 25 [.slice A n c, .slice B m k])
  have hbl : Below w.heap.size w (w.alloc (.cells #[.slice A n c, .slice B m k] 25)) := (below1 w (.cells #[.slice A n c, .slice B m k] 25))
  have hsz : w.heap.size + 1 ≤ ((w.alloc (.cells #[.slice A n c, .slice B m k] 25))).heap.size := by simp
  obtain ⟨W0, gW0⟩ : ∃ z, (w.alloc (.cells #[.slice A n c, .slice B m k] 25)) = z := ⟨_, rfl⟩
  rw [gW0] at hx0 hbl hsz
  obtain ⟨b0, gb0⟩ : ∃ z, w.heap.size = z := ⟨_, rfl⟩
  rw [gb0] at hx0
  have HX0 := Lib.hid hx0
  have HB0 := Lib.hid hbl
  have HS0 := Lib.hid hsz
  have Gb0 := Lib.hid gb0
  have Lb0 : RowKit.Hid (w.heap.size ≤ b0) := Lib.hid (by omega)
  rw [gW0, gb0]
  clear gW0 hbl hsz hx0 gb0
  have HOw : RowKit.Hid (Ow W0 W0.heap.size 3 1 (.slice (some ⟨W0.heap.size, 0, none⟩) 0 0) 0 (rowsV n1 (upN 0)) (W0.alloc (.cells #[] 3))) := Lib.hid (Ow.new_ (cs := #[]) (Below.refl _ _) (Nat.le_refl _) (Nat.le_refl _) (Nat.zero_le _) rfl)
  go_wp2
  go_loopw [3, 4] (fun so si wr => ∃ j : Nat, j ≤ n ∧ si = .int .i64 j ∧ RowKit.Hid (Ow W0 W0.heap.size 3 1 so j (rowsV n1 (upN j)) wr)) (fun _ si _ => n - (intOf si).toNat)
  case atStart => exact ⟨0, by omega, rfl, HOw⟩
  case round =>
    clear HOw
    obtain ⟨j, hj, rfl, HO⟩ := hrel
    have HXo := Lib.hid (HX0.out.bl HO.out.below)
    have cb := HXo.out.cell (i := 0) rfl
    by_cases hjn : j < n
    · go_wp2_with (first
        | (at_builtin
           refine wpList_push rfl (.tmp 22) (.tmp 24) _ rfl _ 3 i0 _ 1 8 Try.underlying70 hi hz0 hz1 hz2 rfl (by decide) _ _ _ rfl (by exact HO.out.up (below1 _ _)) _ (some ⟨wr.heap.size, 0, none⟩) 1 1 (n1 (j : Int)) rfl (by exact RdS.of_whole (Whole.new_ _ _ _) rfl) (by simp [n1, Value.oneCell']) (by unfold maxLen; omega) (by omega) ?_
           intro v1 w1 how1 hb1
           have HO1 := Lib.hid how1
           clear how1 hb1))
      go_roundw
      case rel =>
        refine ⟨j + 1, by omega, by go_num, ?_⟩
        rw [up_snoc, rowsV_app]
        exact HO1
      case measure => simp [intOf] <;> omega
    · obtain rfl : n = j := by omega
      obtain ⟨go_, co, eso, -⟩ := HO.out.rds
      subst eso
      have HOo : RowKit.Hid (wr.ownsRow W0.heap.size 3 1 (.slice go_ n co) n (rowsV n1 (rndN P n 0))) := Lib.hid HO.out.own
      have HBo := Lib.hid HO.out.below
      obtain ⟨wl, gwl⟩ : ∃ z, wr = z := ⟨_, rfl⟩
      rw [gwl] at HOo HBo cb ⊢
      clear gwl HO HXo
      go_wp2
      clear cb
      go_loopw [5] (fun sj wr => ∃ j : Nat, j ≤ n ∧ sj = .int .i64 j ∧ RowKit.Hid (Below W0.heap.size W0 wr) ∧ RowKit.Hid (wr.ownsRow W0.heap.size 3 1 (.slice go_ n co) n (rowsV n1 (rndN P n j)))) (fun sj _ => n - (intOf sj).toNat)
      case atStart => exact ⟨0, by omega, rfl, HBo, HOo⟩
      case round =>
        clear HBo HOo
        obtain ⟨j, hj, rfl, HBo, HOo⟩ := hrel
        obtain ⟨wo, gwo⟩ : ∃ z, wr = z := ⟨_, rfl⟩
        rw [gwo] at HBo HOo ⊢
        clear gwo
        have cb := (HX0.out.bl HBo.out).cell (i := 0) rfl
        by_cases hjn : j < n
        · have HOo1 : RowKit.Hid (wo.ownsRow W0.heap.size 3 1 (.slice go_ n co) n (rowsV n1 ((P.take 0).foldl rlx (rndN P n j)))) := HOo
          clear HOo
          go_wp2
          clear cb
          go_loopw [6] (fun si wr => ∃ i : Nat, i ≤ m ∧ si = .int .i64 i ∧ RowKit.Hid (Below W0.heap.size W0 wr) ∧ RowKit.Hid (wr.ownsRow W0.heap.size 3 1 (.slice go_ n co) n (rowsV n1 ((P.take i).foldl rlx (rndN P n j))))) (fun si _ => m - (intOf si).toNat)
          case atStart => exact ⟨0, by omega, rfl, HBo, HOo1⟩
          case round =>
            clear HBo HOo1
            obtain ⟨i, hi9, rfl, HBi, HOi⟩ := hrel
            obtain ⟨wi, gwi⟩ : ∃ z, wr = z := ⟨_, rfl⟩
            rw [gwi] at HBi HOi ⊢
            clear gwi
            have HXi := Lib.hid (HX0.out.bl HBi.out)
            have cb := HXi.out.cell (i := 1) rfl
            by_cases him : i < m
            · obtain ⟨e, he⟩ : ∃ e, Es[i]? = some e := ⟨_, List.getElem?_eq_getElem (by have := Hlw.out; omega)⟩
              obtain ⟨pa, pb, hpi, hpa, hpb, hqa, hqb⟩ := HPe.out i e he
              have HDi := Lib.hid ((HD.out.bl HB0.out).bl HBi.out)
              obtain ⟨bb, off, rfl, hbB, hpl⟩ := HDi.out.e.place eC_len (by decide) (by omega)
              have q0 := hpl i _ he 0 _ rfl
              have q1 := hpl i _ he 1 _ rfl
              simp only [Addr.add_lit, Nat.add_zero] at q0 q1
              obtain ⟨⟨e1, e2⟩, er⟩ := e
              have HA0 := Lib.hid (HAt.out e1 e2 0)
              have HA1 := Lib.hid (HAt.out e1 e2 1)
              replace hqa : placeF 0 Vs (atV Vs (e1, e2, 0)).1 = (pa : Int) := hqa
              replace hqb : placeF 0 Vs (atV Vs (e1, e2, 1)).1 = (pb : Int) := hqb
              obtain ⟨⟨⟨p1, p2⟩, pk⟩, gp⟩ : ∃ z, atV Vs (e1, e2, 0) = z := ⟨_, rfl⟩
              obtain ⟨⟨⟨s1, s2⟩, sk⟩, gs⟩ : ∃ z, atV Vs (e1, e2, 1) = z := ⟨_, rfl⟩
              rw [gp] at HA0 hqa
              rw [gs] at HA1 hqb
              have HC0 := Lib.hid (HPc.out p1 p2)
              have HC1 := Lib.hid (HPc.out s1 s2)
              rw [show placeF 0 Vs (p1, p2) = (pa : Int) from hqa] at HC0
              rw [show placeF 0 Vs (s1, s2) = (pb : Int) from hqb] at HC1
              have Hpi := Lib.hid hpi
              have HLd : RowKit.Hid (∀ W, Below wi.heap.size wi W → W.cell? ⟨b0, 0, none⟩ = some (.slice A n c) ∧ W.cell? ⟨b0, 1, none⟩ = some (.slice (some ⟨bb, off, none⟩) m k) ∧ W.cell? ⟨bb, off + i * 4, none⟩ = some (.int .i64 e1) ∧ W.cell? ⟨bb, off + i * 4 + 1, none⟩ = some (.int .i64 e2)) := Lib.hid (fun W hb => ⟨(HXi.out.bl hb).cell (i := 0) rfl, (HXi.out.bl hb).cell (i := 1) rfl, (hb.cell (p := ⟨bb, off + i * 4, none⟩) (World.block_lt_of_cell? _ _ q0)).trans q0, (hb.cell (p := ⟨bb, off + i * 4 + 1, none⟩) (World.block_lt_of_cell? _ _ q1)).trans q1⟩)
              have HLe : RowKit.Hid (∀ W, Ext wi.drew W → W.cell? ⟨b0, 0, none⟩ = some (.slice A n c) ∧ W.cell? ⟨b0, 1, none⟩ = some (.slice (some ⟨bb, off, none⟩) m k) ∧ W.cell? ⟨bb, off + i * 4, none⟩ = some (.int .i64 e1) ∧ W.cell? ⟨bb, off + i * 4 + 1, none⟩ = some (.int .i64 e2)) := Lib.hid (fun W hb => HLd.out W (bel_bl (bel_dr (Below.refl _ _)) hb))
              clear he hqa hqb gp gs hbB hpl q0 q1 hpi
              go_upto_region 12 with fail
              clear cb
              refine wp_region_in3 13 11 (From_ wi.heap.size) (gamL [some (.agg #[.slice A n c, .slice (some ⟨bb, off, none⟩) m k]), some (.pointer (some ⟨b0, 1, none⟩)), some (.slice (some ⟨bb, off, none⟩) m k), some (.int .i64 (i : Int)), some (.pointer (some ⟨bb, off + i * 4, none⟩)), some (.pointer (some ⟨bb, off + i * 4, none⟩)), some (.agg #[.int .i64 e1, .int .i64 e2]), some (.agg #[.int .i64 e1, .int .i64 e2, .int .i64 0]), some (.tuple #[.agg #[.int .i64 p1, .int .i64 p2], .bool pk]), some (.tuple #[.agg #[.int .i64 p1, .int .i64 p2], .bool pk]), some (.agg #[.int .i64 p1, .int .i64 p2]), some (.bool pk), none] 12 wi.heap.size 35 [.int .i64 0, .int .i64 0]) (Ext wi.drew) (by kernel_rfl) (by kernel_rfl) (by kernel_rfl) (by kernel_rfl) (by kernel_rfl) (by kernel_rfl) (by simp only [List.getElem?_toArray, List.getElem?_cons_succ, List.getElem?_cons_zero]; exact rfl) (by kernel_rfl) (by kernel_rfl) (by kernel_rfl) ?_ (fun i v w1 w2 h hx => gamL_up i v w1 w2 h hx) (fun _ _ h k => h.trans k) (Ext.refl _) ?_ ?_ ?_
              · exact fun _ _ _ _ h => h
              · intro i hi9
                have hcase : i = 0 ∨ i = 1 ∨ i = 2 ∨ i = 3 ∨ i = 4 ∨ i = 5 ∨ i = 6 ∨ i = 7 ∨ i = 8 ∨ i = 9 ∨ i = 10 ∨ i = 11 ∨ i = 12 := by omega
                rcases hcase with rfl | rfl | rfl | rfl | rfl | rfl | rfl | rfl | rfl | rfl | rfl | rfl | rfl
                · intro o ho x y hg hdep
                  simp only [List.getElem?_toArray, List.getElem?_cons_succ, List.getElem?_cons_zero, Option.some.injEq] at ho
                  subst ho
                  obtain ⟨hl0, hl1, hl2, hl3⟩ := HLe.out _ hg
                  simp only [dsts, List.map_cons, List.map_nil, putAll, Act.put, List.setIfInBounds_toArray, List.set_cons_zero, List.set_cons_succ]
                  refine .inl ⟨by rfl, ?_⟩
                  go_simp
                  exact ⟨Ext.refl _, rfl⟩
                · intro o ho x y hg hdep
                  simp only [List.getElem?_toArray, List.getElem?_cons_succ, List.getElem?_cons_zero, Option.some.injEq] at ho
                  subst ho
                  simp only [dsts, List.map_cons, List.map_nil, putAll, Act.put, List.setIfInBounds_toArray, List.set_cons_zero, List.set_cons_succ]
                  refine .inl ⟨by rfl, ?_⟩
                  go_simp
                  exact ⟨Ext.refl _, rfl⟩
                · intro o ho x y hg hdep
                  simp only [List.getElem?_toArray, List.getElem?_cons_succ, List.getElem?_cons_zero, Option.some.injEq] at ho
                  subst ho
                  have d1 : x 1 = .pointer (some ⟨b0, 1, none⟩) := hdep 1 (by decide)
                  obtain ⟨hl0, hl1, hl2, hl3⟩ := HLe.out _ hg
                  simp only [dsts, List.map_cons, List.map_nil, putAll, Act.put, List.setIfInBounds_toArray, List.set_cons_zero, List.set_cons_succ]
                  simp only [d1]
                  refine .inl ⟨by rfl, ?_⟩
                  go_simp
                  exact ⟨Ext.refl _, rfl⟩
                · intro o ho x y hg hdep
                  simp only [List.getElem?_toArray, List.getElem?_cons_succ, List.getElem?_cons_zero, Option.some.injEq] at ho
                  subst ho
                  simp only [dsts, List.map_cons, List.map_nil, putAll, Act.put, List.setIfInBounds_toArray, List.set_cons_zero, List.set_cons_succ]
                  refine .inl ⟨by rfl, ?_⟩
                  go_simp
                  exact ⟨Ext.refl _, rfl⟩
                · intro o ho x y hg hdep
                  simp only [List.getElem?_toArray, List.getElem?_cons_succ, List.getElem?_cons_zero, Option.some.injEq] at ho
                  subst ho
                  have d2 : x 2 = .slice (some ⟨bb, off, none⟩) m k := hdep 2 (by decide)
                  have d3 : x 3 = .int .i64 (i : Int) := hdep 3 (by decide)
                  simp only [dsts, List.map_cons, List.map_nil, putAll, Act.put, List.setIfInBounds_toArray, List.set_cons_zero, List.set_cons_succ]
                  simp only [d2, d3]
                  refine .inl ⟨by rfl, ?_⟩
                  go_simp
                  exact ⟨Ext.refl _, rfl⟩
                · intro o ho x y hg hdep
                  simp only [List.getElem?_toArray, List.getElem?_cons_succ, List.getElem?_cons_zero, Option.some.injEq] at ho
                  subst ho
                  have d4 : x 4 = .pointer (some ⟨bb, off + i * 4, none⟩) := hdep 4 (by decide)
                  simp only [dsts, List.map_cons, List.map_nil, putAll, Act.put, List.setIfInBounds_toArray, List.set_cons_zero, List.set_cons_succ]
                  simp only [d4]
                  refine .inl ⟨by rfl, ?_⟩
                  go_simp
                  exact ⟨Ext.refl _, rfl⟩
                · intro o ho x y hg hdep
                  simp only [List.getElem?_toArray, List.getElem?_cons_succ, List.getElem?_cons_zero, Option.some.injEq] at ho
                  subst ho
                  have d5 : x 5 = .pointer (some ⟨bb, off + i * 4, none⟩) := hdep 5 (by decide)
                  obtain ⟨hl0, hl1, hl2, hl3⟩ := HLe.out _ hg
                  simp only [dsts, List.map_cons, List.map_nil, putAll, Act.put, List.setIfInBounds_toArray, List.set_cons_zero, List.set_cons_succ]
                  simp only [d5]
                  refine .inl ⟨by rfl, ?_⟩
                  go_simp
                  exact ⟨Ext.refl _, rfl⟩
                · intro o ho x y hg hdep
                  simp only [List.getElem?_toArray, List.getElem?_cons_succ, List.getElem?_cons_zero, Option.some.injEq] at ho
                  subst ho
                  have d6 : x 6 = .agg #[.int .i64 e1, .int .i64 e2] := hdep 6 (by decide)
                  simp only [dsts, List.map_cons, List.map_nil, putAll, Act.put, List.setIfInBounds_toArray, List.set_cons_zero, List.set_cons_succ]
                  simp only [d6]
                  refine .inl ⟨by rfl, ?_⟩
                  go_simp
                  exact ⟨Ext.refl _, rfl⟩
                · intro o ho x y hg hdep
                  simp only [List.getElem?_toArray, List.getElem?_cons_succ, List.getElem?_cons_zero, Option.some.injEq] at ho
                  subst ho
                  have d0 : x 0 = .agg #[.slice A n c, .slice (some ⟨bb, off, none⟩) m k] := hdep 0 (by decide)
                  have d7 : x 7 = .agg #[.int .i64 e1, .int .i64 e2, .int .i64 0] := hdep 7 (by decide)
                  simp only [dsts, List.map_cons, List.map_nil, putAll, Act.put, List.setIfInBounds_toArray, List.set_cons_zero, List.set_cons_succ]
                  simp only [d0, d7]
                  refine .inl ⟨by rfl, outT_call (by go_simp; first | done | exact ⟨rfl, rfl⟩ | with_reducible rfl) ?_⟩
                  refine (HA0.out y (HDi.out.dr.bl hg)).mono ?_
                  rintro e w2 ⟨rfl, hb⟩
                  exact ⟨_, rfl, hb, rfl⟩
                · intro o ho x y hg hdep
                  simp only [List.getElem?_toArray, List.getElem?_cons_succ, List.getElem?_cons_zero, Option.some.injEq] at ho
                  subst ho
                  have d8 : x 8 = .tuple #[.agg #[.int .i64 p1, .int .i64 p2], .bool pk] := hdep 8 (by decide)
                  simp only [dsts, List.map_cons, List.map_nil, putAll, Act.put, List.setIfInBounds_toArray, List.set_cons_zero, List.set_cons_succ]
                  simp only [d8]
                  refine .inl ⟨by rfl, ?_⟩
                  go_simp
                  exact ⟨Ext.refl _, rfl⟩
                · intro o ho x y hg hdep
                  simp only [List.getElem?_toArray, List.getElem?_cons_succ, List.getElem?_cons_zero, Option.some.injEq] at ho
                  subst ho
                  have d9 : x 9 = .tuple #[.agg #[.int .i64 p1, .int .i64 p2], .bool pk] := hdep 9 (by decide)
                  simp only [dsts, List.map_cons, List.map_nil, putAll, Act.put, List.setIfInBounds_toArray, List.set_cons_zero, List.set_cons_succ]
                  simp only [d9]
                  refine .inl ⟨by rfl, ?_⟩
                  go_simp
                  exact ⟨Ext.refl _, rfl⟩
                · intro o ho x y hg hdep
                  simp only [List.getElem?_toArray, List.getElem?_cons_succ, List.getElem?_cons_zero, Option.some.injEq] at ho
                  subst ho
                  have d9 : x 9 = .tuple #[.agg #[.int .i64 p1, .int .i64 p2], .bool pk] := hdep 9 (by decide)
                  simp only [dsts, List.map_cons, List.map_nil, putAll, Act.put, List.setIfInBounds_toArray, List.set_cons_zero, List.set_cons_succ]
                  simp only [d9]
                  refine .inl ⟨by rfl, ?_⟩
                  go_simp
                  exact ⟨Ext.refl _, rfl⟩
                · intro o ho x y hg hdep
                  simp only [List.getElem?_toArray, List.getElem?_cons_succ, List.getElem?_cons_zero, Option.some.injEq] at ho
                  subst ho
                  simp only [dsts, List.map_cons, List.map_nil, putAll, Act.put, List.setIfInBounds_toArray, List.set_cons_zero, List.set_cons_succ]
                  refine .inl ⟨by rfl, outT_run (w' := y.alloc (.cells #[.int .i64 0, .int .i64 0] 35)) (by go_simp; first | done | exact rfl | exact ⟨rfl, rfl⟩) (below1 _ _) ?_⟩
                  exact ⟨y.heap.size, rfl, hg.size, Whole.new_ _ _ [.int .i64 0, .int .i64 0]⟩
              · intro x y hg hall
                have d9 : x 9 = .tuple #[.agg #[.int .i64 p1, .int .i64 p2], .bool pk] := hall 9 (by decide) (by decide)
                simp only [dsts, List.map_cons, List.map_nil, putAll, Act.put, List.setIfInBounds_toArray, List.set_cons_zero, List.set_cons_succ]
                simp only [d9]
                refine ⟨.bool pk, ?_, rfl⟩
                apply yr_run; rfl; intro w' hw'; go_simp; (try with_reducible rfl)
              intro x y hg hall
              have d10 : x 10 = .agg #[.int .i64 p1, .int .i64 p2] := hall 10 (by decide)
              have d11 : x 11 = .bool pk := hall 11 (by decide)
              obtain ⟨gr, d12, hlr, hwr⟩ : ∃ g, x 12 = .pointer (some ⟨g, 0, none⟩) ∧ wi.heap.size ≤ g ∧ Whole y g 35 [.int .i64 0, .int .i64 0] := hall 12 (by decide)
              simp only [dsts, List.map_cons, List.map_nil, putAll, Act.put, List.setIfInBounds_toArray, List.set_cons_zero, List.set_cons_succ]
              simp only [d10, d11, d12]
              have HWy := Lib.hid hwr
              have HBy := Lib.hid (bel_bl (bel_dr (Below.refl _ wi)) hg)
              have HLr : RowKit.Hid (wi.heap.size ≤ gr) := Lib.hid hlr
              have HW0 : RowKit.Hid (wi.heap.size ≤ wi.heap.size) := Lib.hid (by omega)
              clear hg hall d10 d11 d12 hlr hwr
              apply wpR_store 13
              · simp only [List.getElem?_toArray, List.getElem?_cons_succ, List.getElem?_cons_zero]; exact rfl
              · rfl
              · kernel_rfl
              · rfl
              intro w' hw'
              refine ⟨w'.setRow gr #[.int .i64 p1, .int .i64 p2], store_row_run 35 (.tmp 7) (.tmp 50) rfl gr rfl [.int .i64 p1, .int .i64 p2] rfl 35 [.int .i64 0, .int .i64 0] (HWy.out.bl hw') (by kernel_rfl) rfl (by simp [Value.oneCell']), kept_row (show wi.heap.size ≤ gr by have := HLr.out; have := HW0.out; omega) _, ?_⟩
              have HWz : RowKit.Hid (Whole (w'.setRow gr #[.int .i64 p1, .int .i64 p2]) gr 35 [.int .i64 p1, .int .i64 p2]) := Lib.hid (Whole.row (HWy.out.bl hw') [.int .i64 p1, .int .i64 p2])
              have HBz : RowKit.Hid (Below wi.heap.size wi (w'.setRow gr #[.int .i64 p1, .int .i64 p2])) := Lib.hid (below_row (bel_bl HBy.out hw') HLr.out _)
              obtain ⟨V1, gV1⟩ : ∃ z, w'.setRow gr #[.int .i64 p1, .int .i64 p2] = z := ⟨_, rfl⟩
              rw [gV1] at HWz HBz ⊢
              clear hw' gV1 HWy HBy
              apply wpR_next 14 (some 8)
              · simp only [List.getElem?_toArray, List.getElem?_cons_succ, List.getElem?_cons_zero]; exact rfl
              · rfl
              · kernel_rfl
              · kernel_rfl
              · kernel_rfl
              · exact fun _ _ _ _ h => h
              apply Exists.intro
              apply And.intro
              · apply yr_run; rfl; intro w' hw'; go_simp; (try with_reducible rfl)
              simp only [Act.put, List.setIfInBounds_toArray, List.set_cons_zero, List.set_cons_succ]
              refine wpR_done (by kernel_rfl) ?_ _
              intro W8 hw8
              have HWr := Lib.hid (HWz.out.bl hw8)
              have HBr := Lib.hid (bel_bl HBz.out hw8)
              clear hw8 HWz HBz HW0
              obtain ⟨ga, gga⟩ : ∃ z, gr = z := ⟨_, rfl⟩
              rw [gga] at HWr ⊢
              obtain ⟨wa, gwa⟩ : ∃ z, W8 = z := ⟨_, rfl⟩
              rw [gwa] at HWr HBr ⊢
              clear gga gwa HLe HLr gr
              have HWa := HWr
              have HBa := HBr
              have HDa2 := Lib.hid (HDi.out.bl HBa.out)
              have HLe : RowKit.Hid (∀ W, Ext wa.drew W → W.cell? ⟨b0, 0, none⟩ = some (.slice A n c) ∧ W.cell? ⟨b0, 1, none⟩ = some (.slice (some ⟨bb, off, none⟩) m k) ∧ W.cell? ⟨bb, off + i * 4, none⟩ = some (.int .i64 e1) ∧ W.cell? ⟨bb, off + i * 4 + 1, none⟩ = some (.int .i64 e2)) := Lib.hid (fun W hb => HLd.out W (bel_bl HBa.out (bel_bl (bel_dr (Below.refl _ _)) hb)))
              clear HWr HBr
              go_upto_region 13 with fail
              refine wp_region_in3 13 11 (From_ wa.heap.size) (gamL [some (.agg #[.slice A n c, .slice (some ⟨bb, off, none⟩) m k]), some (.pointer (some ⟨b0, 1, none⟩)), some (.slice (some ⟨bb, off, none⟩) m k), some (.int .i64 (i : Int)), some (.pointer (some ⟨bb, off + i * 4, none⟩)), some (.pointer (some ⟨bb, off + i * 4, none⟩)), some (.agg #[.int .i64 e1, .int .i64 e2]), some (.agg #[.int .i64 e1, .int .i64 e2, .int .i64 1]), some (.tuple #[.agg #[.int .i64 s1, .int .i64 s2], .bool sk]), some (.tuple #[.agg #[.int .i64 s1, .int .i64 s2], .bool sk]), some (.agg #[.int .i64 s1, .int .i64 s2]), some (.bool sk), none] 12 wa.heap.size 35 [.int .i64 0, .int .i64 0]) (Ext wa.drew) (by kernel_rfl) (by kernel_rfl) (by kernel_rfl) (by kernel_rfl) (by kernel_rfl) (by kernel_rfl) (by simp only [List.getElem?_toArray, List.getElem?_cons_succ, List.getElem?_cons_zero]; exact rfl) (by kernel_rfl) (by kernel_rfl) (by kernel_rfl) ?_ (fun i v w1 w2 h hx => gamL_up i v w1 w2 h hx) (fun _ _ h k => h.trans k) (Ext.refl _) ?_ ?_ ?_
              · exact fun _ _ _ _ h => h
              · intro i hi9
                have hcase : i = 0 ∨ i = 1 ∨ i = 2 ∨ i = 3 ∨ i = 4 ∨ i = 5 ∨ i = 6 ∨ i = 7 ∨ i = 8 ∨ i = 9 ∨ i = 10 ∨ i = 11 ∨ i = 12 := by omega
                rcases hcase with rfl | rfl | rfl | rfl | rfl | rfl | rfl | rfl | rfl | rfl | rfl | rfl | rfl
                · intro o ho x y hg hdep
                  simp only [List.getElem?_toArray, List.getElem?_cons_succ, List.getElem?_cons_zero, Option.some.injEq] at ho
                  subst ho
                  obtain ⟨hl0, hl1, hl2, hl3⟩ := HLe.out _ hg
                  simp only [dsts, List.map_cons, List.map_nil, putAll, Act.put, List.setIfInBounds_toArray, List.set_cons_zero, List.set_cons_succ]
                  refine .inl ⟨by rfl, ?_⟩
                  go_simp
                  exact ⟨Ext.refl _, rfl⟩
                · intro o ho x y hg hdep
                  simp only [List.getElem?_toArray, List.getElem?_cons_succ, List.getElem?_cons_zero, Option.some.injEq] at ho
                  subst ho
                  simp only [dsts, List.map_cons, List.map_nil, putAll, Act.put, List.setIfInBounds_toArray, List.set_cons_zero, List.set_cons_succ]
                  refine .inl ⟨by rfl, ?_⟩
                  go_simp
                  exact ⟨Ext.refl _, rfl⟩
                · intro o ho x y hg hdep
                  simp only [List.getElem?_toArray, List.getElem?_cons_succ, List.getElem?_cons_zero, Option.some.injEq] at ho
                  subst ho
                  have d1 : x 1 = .pointer (some ⟨b0, 1, none⟩) := hdep 1 (by decide)
                  obtain ⟨hl0, hl1, hl2, hl3⟩ := HLe.out _ hg
                  simp only [dsts, List.map_cons, List.map_nil, putAll, Act.put, List.setIfInBounds_toArray, List.set_cons_zero, List.set_cons_succ]
                  simp only [d1]
                  refine .inl ⟨by rfl, ?_⟩
                  go_simp
                  exact ⟨Ext.refl _, rfl⟩
                · intro o ho x y hg hdep
                  simp only [List.getElem?_toArray, List.getElem?_cons_succ, List.getElem?_cons_zero, Option.some.injEq] at ho
                  subst ho
                  simp only [dsts, List.map_cons, List.map_nil, putAll, Act.put, List.setIfInBounds_toArray, List.set_cons_zero, List.set_cons_succ]
                  refine .inl ⟨by rfl, ?_⟩
                  go_simp
                  exact ⟨Ext.refl _, rfl⟩
                · intro o ho x y hg hdep
                  simp only [List.getElem?_toArray, List.getElem?_cons_succ, List.getElem?_cons_zero, Option.some.injEq] at ho
                  subst ho
                  have d2 : x 2 = .slice (some ⟨bb, off, none⟩) m k := hdep 2 (by decide)
                  have d3 : x 3 = .int .i64 (i : Int) := hdep 3 (by decide)
                  simp only [dsts, List.map_cons, List.map_nil, putAll, Act.put, List.setIfInBounds_toArray, List.set_cons_zero, List.set_cons_succ]
                  simp only [d2, d3]
                  refine .inl ⟨by rfl, ?_⟩
                  go_simp
                  exact ⟨Ext.refl _, rfl⟩
                · intro o ho x y hg hdep
                  simp only [List.getElem?_toArray, List.getElem?_cons_succ, List.getElem?_cons_zero, Option.some.injEq] at ho
                  subst ho
                  have d4 : x 4 = .pointer (some ⟨bb, off + i * 4, none⟩) := hdep 4 (by decide)
                  simp only [dsts, List.map_cons, List.map_nil, putAll, Act.put, List.setIfInBounds_toArray, List.set_cons_zero, List.set_cons_succ]
                  simp only [d4]
                  refine .inl ⟨by rfl, ?_⟩
                  go_simp
                  exact ⟨Ext.refl _, rfl⟩
                · intro o ho x y hg hdep
                  simp only [List.getElem?_toArray, List.getElem?_cons_succ, List.getElem?_cons_zero, Option.some.injEq] at ho
                  subst ho
                  have d5 : x 5 = .pointer (some ⟨bb, off + i * 4, none⟩) := hdep 5 (by decide)
                  obtain ⟨hl0, hl1, hl2, hl3⟩ := HLe.out _ hg
                  simp only [dsts, List.map_cons, List.map_nil, putAll, Act.put, List.setIfInBounds_toArray, List.set_cons_zero, List.set_cons_succ]
                  simp only [d5]
                  refine .inl ⟨by rfl, ?_⟩
                  go_simp
                  exact ⟨Ext.refl _, rfl⟩
                · intro o ho x y hg hdep
                  simp only [List.getElem?_toArray, List.getElem?_cons_succ, List.getElem?_cons_zero, Option.some.injEq] at ho
                  subst ho
                  have d6 : x 6 = .agg #[.int .i64 e1, .int .i64 e2] := hdep 6 (by decide)
                  simp only [dsts, List.map_cons, List.map_nil, putAll, Act.put, List.setIfInBounds_toArray, List.set_cons_zero, List.set_cons_succ]
                  simp only [d6]
                  refine .inl ⟨by rfl, ?_⟩
                  go_simp
                  exact ⟨Ext.refl _, rfl⟩
                · intro o ho x y hg hdep
                  simp only [List.getElem?_toArray, List.getElem?_cons_succ, List.getElem?_cons_zero, Option.some.injEq] at ho
                  subst ho
                  have d0 : x 0 = .agg #[.slice A n c, .slice (some ⟨bb, off, none⟩) m k] := hdep 0 (by decide)
                  have d7 : x 7 = .agg #[.int .i64 e1, .int .i64 e2, .int .i64 1] := hdep 7 (by decide)
                  simp only [dsts, List.map_cons, List.map_nil, putAll, Act.put, List.setIfInBounds_toArray, List.set_cons_zero, List.set_cons_succ]
                  simp only [d0, d7]
                  refine .inl ⟨by rfl, outT_call (by go_simp; first | done | exact ⟨rfl, rfl⟩ | with_reducible rfl) ?_⟩
                  refine (HA1.out y (HDa2.out.dr.bl hg)).mono ?_
                  rintro e w2 ⟨rfl, hb⟩
                  exact ⟨_, rfl, hb, rfl⟩
                · intro o ho x y hg hdep
                  simp only [List.getElem?_toArray, List.getElem?_cons_succ, List.getElem?_cons_zero, Option.some.injEq] at ho
                  subst ho
                  have d8 : x 8 = .tuple #[.agg #[.int .i64 s1, .int .i64 s2], .bool sk] := hdep 8 (by decide)
                  simp only [dsts, List.map_cons, List.map_nil, putAll, Act.put, List.setIfInBounds_toArray, List.set_cons_zero, List.set_cons_succ]
                  simp only [d8]
                  refine .inl ⟨by rfl, ?_⟩
                  go_simp
                  exact ⟨Ext.refl _, rfl⟩
                · intro o ho x y hg hdep
                  simp only [List.getElem?_toArray, List.getElem?_cons_succ, List.getElem?_cons_zero, Option.some.injEq] at ho
                  subst ho
                  have d9 : x 9 = .tuple #[.agg #[.int .i64 s1, .int .i64 s2], .bool sk] := hdep 9 (by decide)
                  simp only [dsts, List.map_cons, List.map_nil, putAll, Act.put, List.setIfInBounds_toArray, List.set_cons_zero, List.set_cons_succ]
                  simp only [d9]
                  refine .inl ⟨by rfl, ?_⟩
                  go_simp
                  exact ⟨Ext.refl _, rfl⟩
                · intro o ho x y hg hdep
                  simp only [List.getElem?_toArray, List.getElem?_cons_succ, List.getElem?_cons_zero, Option.some.injEq] at ho
                  subst ho
                  have d9 : x 9 = .tuple #[.agg #[.int .i64 s1, .int .i64 s2], .bool sk] := hdep 9 (by decide)
                  simp only [dsts, List.map_cons, List.map_nil, putAll, Act.put, List.setIfInBounds_toArray, List.set_cons_zero, List.set_cons_succ]
                  simp only [d9]
                  refine .inl ⟨by rfl, ?_⟩
                  go_simp
                  exact ⟨Ext.refl _, rfl⟩
                · intro o ho x y hg hdep
                  simp only [List.getElem?_toArray, List.getElem?_cons_succ, List.getElem?_cons_zero, Option.some.injEq] at ho
                  subst ho
                  simp only [dsts, List.map_cons, List.map_nil, putAll, Act.put, List.setIfInBounds_toArray, List.set_cons_zero, List.set_cons_succ]
                  refine .inl ⟨by rfl, outT_run (w' := y.alloc (.cells #[.int .i64 0, .int .i64 0] 35)) (by go_simp; first | done | exact rfl | exact ⟨rfl, rfl⟩) (below1 _ _) ?_⟩
                  exact ⟨y.heap.size, rfl, hg.size, Whole.new_ _ _ [.int .i64 0, .int .i64 0]⟩
              · intro x y hg hall
                have d9 : x 9 = .tuple #[.agg #[.int .i64 s1, .int .i64 s2], .bool sk] := hall 9 (by decide) (by decide)
                simp only [dsts, List.map_cons, List.map_nil, putAll, Act.put, List.setIfInBounds_toArray, List.set_cons_zero, List.set_cons_succ]
                simp only [d9]
                refine ⟨.bool sk, ?_, rfl⟩
                apply yr_run; rfl; intro w' hw'; go_simp; (try with_reducible rfl)
              intro x y hg hall
              have d10 : x 10 = .agg #[.int .i64 s1, .int .i64 s2] := hall 10 (by decide)
              have d11 : x 11 = .bool sk := hall 11 (by decide)
              obtain ⟨gr, d12, hlr, hwr⟩ : ∃ g, x 12 = .pointer (some ⟨g, 0, none⟩) ∧ wa.heap.size ≤ g ∧ Whole y g 35 [.int .i64 0, .int .i64 0] := hall 12 (by decide)
              simp only [dsts, List.map_cons, List.map_nil, putAll, Act.put, List.setIfInBounds_toArray, List.set_cons_zero, List.set_cons_succ]
              simp only [d10, d11, d12]
              have HWy := Lib.hid hwr
              have HBy := Lib.hid (bel_bl (bel_dr (Below.refl _ wa)) hg)
              have HLr : RowKit.Hid (wa.heap.size ≤ gr) := Lib.hid hlr
              have HW0 : RowKit.Hid (wa.heap.size ≤ wa.heap.size) := Lib.hid (by omega)
              clear hg hall d10 d11 d12 hlr hwr
              apply wpR_store 13
              · simp only [List.getElem?_toArray, List.getElem?_cons_succ, List.getElem?_cons_zero]; exact rfl
              · rfl
              · kernel_rfl
              · rfl
              intro w' hw'
              refine ⟨w'.setRow gr #[.int .i64 s1, .int .i64 s2], store_row_run 35 (.tmp 9) (.tmp 62) rfl gr rfl [.int .i64 s1, .int .i64 s2] rfl 35 [.int .i64 0, .int .i64 0] (HWy.out.bl hw') (by kernel_rfl) rfl (by simp [Value.oneCell']), kept_row (show wa.heap.size ≤ gr by have := HLr.out; have := HW0.out; omega) _, ?_⟩
              have HWz : RowKit.Hid (Whole (w'.setRow gr #[.int .i64 s1, .int .i64 s2]) gr 35 [.int .i64 s1, .int .i64 s2]) := Lib.hid (Whole.row (HWy.out.bl hw') [.int .i64 s1, .int .i64 s2])
              have HBz : RowKit.Hid (Below wa.heap.size wa (w'.setRow gr #[.int .i64 s1, .int .i64 s2])) := Lib.hid (below_row (bel_bl HBy.out hw') HLr.out _)
              obtain ⟨V1, gV1⟩ : ∃ z, w'.setRow gr #[.int .i64 s1, .int .i64 s2] = z := ⟨_, rfl⟩
              rw [gV1] at HWz HBz ⊢
              clear hw' gV1 HWy HBy
              apply wpR_next 14 (some 10)
              · simp only [List.getElem?_toArray, List.getElem?_cons_succ, List.getElem?_cons_zero]; exact rfl
              · rfl
              · kernel_rfl
              · kernel_rfl
              · kernel_rfl
              · exact fun _ _ _ _ h => h
              apply Exists.intro
              apply And.intro
              · apply yr_run; rfl; intro w' hw'; go_simp; (try with_reducible rfl)
              simp only [Act.put, List.setIfInBounds_toArray, List.set_cons_zero, List.set_cons_succ]
              refine wpR_done (by kernel_rfl) ?_ _
              intro W8 hw8
              have HWr := Lib.hid (HWz.out.bl hw8)
              have HBr := Lib.hid (bel_bl HBz.out hw8)
              clear hw8 HWz HBz HW0
              have HWb := HWr
              have HWa2 := Lib.hid (HWa.out.bl HBr.out)
              have HBb := Lib.hid (bel_bl HBa.out HBr.out)
              have HDb := Lib.hid (HDi.out.bl HBb.out)
              obtain ⟨c0, c1, -, -⟩ := HLd.out _ HBb.out
              have k0 := HWa2.out.cell (i := 0) rfl
              have k1 := HWa2.out.cell (i := 1) rfl
              clear HWr HBr HLe HLr HWa HBa HDa2
              go_wp2_with fail
              clear c0 c1 k0 k1
              refine (HC0.out _ HDb.out).mono ?_
              rintro e w9 ⟨rfl, hb9⟩
              have HB9 := Lib.hid (bel_bl HBb.out hb9)
              have HD9 := Lib.hid (HDb.out.bl hb9)
              have HW9 := Lib.hid (HWb.out.bl hb9)
              obtain ⟨c0, c1, -, -⟩ := HLd.out _ HB9.out
              have k0 := HW9.out.cell (i := 0) rfl
              have k1 := HW9.out.cell (i := 1) rfl
              clear hb9 HBb HDb HWb HWa2
              go_wp2_with fail
              clear c0 c1 k0 k1
              refine (HC1.out _ HD9.out).mono ?_
              rintro e w10 ⟨rfl, hb10⟩
              have HB10 := Lib.hid (bel_bl HB9.out hb10)
              have HOn := Lib.hid (own_up HOi.out HB10.out)
              have HBn := Lib.hid (bel_bl HBi.out HB10.out)
              clear hb10 HB9 HD9 HW9 HB10 HLd HOi
              have hll : ((P.take i).foldl rlx (rndN P n j)).length = n := by rw [fold_len, rnd_len]
              have hst : (P.take (i + 1)).foldl rlx (rndN P n j) = rlx ((P.take i).foldl rlx (rndN P n j)) (pa, pb) := by
                rw [List.take_add_one, Hpi.out, List.foldl_append]
                rfl
              obtain ⟨L, gL⟩ : ∃ z, (P.take i).foldl rlx (rndN P n j) = z := ⟨_, rfl⟩
              rw [gL] at hll hst HOn
              have hxa : L[pa]? = some (L.getD pa 0) := by rw [List.getD_eq_getElem?_getD, List.getElem?_eq_getElem (by omega)]; rfl
              have hxb : L[pb]? = some (L.getD pb 0) := by rw [List.getD_eq_getElem?_getD, List.getElem?_eq_getElem (by omega)]; rfl
              obtain ⟨gq, junk, eq, hlo, hw, hc, -, -⟩ := own_poke (i := 0) (y := 0) (u := .int .i64 0) n1_len HOn.out hxa hpa (by omega) rfl
              subst eq
              obtain ⟨gq2, junk2, eq2, -, hw2, hcb, -, -⟩ := own_poke (i := 0) (y := 0) (u := .int .i64 0) n1_len HOn.out hxb hpb (by omega) rfl
              obtain rfl : gq = gq2 := by
                injection eq2 with eq2
                injection eq2
              simp only [Nat.mul_one, Nat.add_zero] at hc hcb
              obtain ⟨va, gva⟩ : ∃ z, L.getD pa 0 = z := ⟨_, rfl⟩
              obtain ⟨vb, gvb⟩ : ∃ z, L.getD pb 0 = z := ⟨_, rfl⟩
              replace hc : w10.cell? ⟨gq, pa, none⟩ = some (.int .i64 va) := by rw [hc, ← gva]; rfl
              replace hcb : w10.cell? ⟨gq, pb, none⟩ = some (.int .i64 vb) := by rw [hcb, ← gvb]; rfl
              obtain ⟨mn, gmn⟩ : ∃ z, min va vb = z := ⟨_, rfl⟩
              have HRl : RowKit.Hid (rlx L (pa, pb) = (L.set pa mn).set pb mn) := Lib.hid (by rw [rlx, gva, gvb, gmn])
              have t0 : decide ((0 : Int) ≤ (pa : Int)) = true := decide_eq_true (by omega)
              have t1 : decide ((0 : Int) ≤ (pb : Int)) = true := decide_eq_true (by omega)
              have Hc := Lib.hid hc
              have Hcb := Lib.hid hcb
              have HLo := Lib.hid hlo
              have Hll := Lib.hid hll
              have Hst := Lib.hid hst
              have Hxa := Lib.hid hxa
              clear gL hxa hxb hlo hw hw2 eq2 hc hcb hll hst gva gvb
              go_upto_region 17 with fail
              have ld0 : ∀ w', Kept Nil_ w10.drew w' → w'.cell? ⟨gq, pa, none⟩ = some (.int .i64 va) := fun w' h => h.nil_cell (show w10.drew.cell? _ = _ from Hc.out)
              have ld1 : ∀ w', Kept Nil_ w10.drew w' → w'.cell? ⟨gq, pb, none⟩ = some (.int .i64 vb) := fun w' h => h.nil_cell (show w10.drew.cell? _ = _ from Hcb.out)
              refine wp_region_reg (Nil_) (by kernel_rfl) ?_
              apply wpR_next 0 (some 76)
              · simp only [List.getElem?_toArray, List.getElem?_cons_succ, List.getElem?_cons_zero]; exact rfl
              · rfl
              · kernel_rfl
              · kernel_rfl
              · kernel_rfl
              · exact fun _ _ _ _ h => h
              apply Exists.intro
              apply And.intro
              · apply yr_run; rfl; intro w' hw'; go_simp; (try with_reducible rfl)
              simp only [Act.put, List.setIfInBounds_toArray, List.set_cons_zero, List.set_cons_succ]
              apply wpR_next 1 (some 77)
              · simp only [List.getElem?_toArray, List.getElem?_cons_succ, List.getElem?_cons_zero]; exact rfl
              · rfl
              · kernel_rfl
              · kernel_rfl
              · kernel_rfl
              · exact fun _ _ _ _ h => h
              apply Exists.intro
              apply And.intro
              · apply yr_run; rfl; intro w' hw'; go_simp; (try with_reducible rfl)
              simp only [Act.put, List.setIfInBounds_toArray, List.set_cons_zero, List.set_cons_succ]
              apply wpR_next 2 (some 78)
              · simp only [List.getElem?_toArray, List.getElem?_cons_succ, List.getElem?_cons_zero]; exact rfl
              · rfl
              · kernel_rfl
              · kernel_rfl
              · kernel_rfl
              · exact fun _ _ _ _ h => h
              apply Exists.intro
              apply And.intro
              · apply yr_run; rfl; intro w' hw'; go_simp; (try with_reducible rfl)
              simp only [Act.put, List.setIfInBounds_toArray, List.set_cons_zero, List.set_cons_succ]
              apply wpR_next 3 (some 79)
              · simp only [List.getElem?_toArray, List.getElem?_cons_succ, List.getElem?_cons_zero]; exact rfl
              · rfl
              · kernel_rfl
              · kernel_rfl
              · kernel_rfl
              · exact fun _ _ _ _ h => h
              apply Exists.intro
              apply And.intro
              · apply yr_run; rfl; intro w' hw'; go_simp; (try with_reducible rfl)
              simp only [Act.put, List.setIfInBounds_toArray, List.set_cons_zero, List.set_cons_succ]
              apply wpR_next 4 (some 80)
              · simp only [List.getElem?_toArray, List.getElem?_cons_succ, List.getElem?_cons_zero]; exact rfl
              · rfl
              · kernel_rfl
              · kernel_rfl
              · kernel_rfl
              · exact fun _ _ _ _ h => h
              apply Exists.intro
              apply And.intro
              · apply yr_run; rfl; intro w' hw'; go_simp; (try with_reducible rfl)
              simp only [Act.put, List.setIfInBounds_toArray, List.set_cons_zero, List.set_cons_succ]
              apply wpR_next 5 (some 81)
              · simp only [List.getElem?_toArray, List.getElem?_cons_succ, List.getElem?_cons_zero]; exact rfl
              · rfl
              · kernel_rfl
              · kernel_rfl
              · kernel_rfl
              · exact fun _ _ _ _ h => h
              apply Exists.intro
              apply And.intro
              · apply yr_run; rfl; intro w' hw'; go_simp; (try with_reducible rfl)
              simp only [Act.put, List.setIfInBounds_toArray, List.set_cons_zero, List.set_cons_succ]
              apply wpR_next 6 (some 82)
              · simp only [List.getElem?_toArray, List.getElem?_cons_succ, List.getElem?_cons_zero]; exact rfl
              · rfl
              · kernel_rfl
              · kernel_rfl
              · kernel_rfl
              · exact fun _ _ _ _ h => h
              apply Exists.intro
              apply And.intro
              · apply yr_run; rfl; intro w' hw'; go_simp; (try with_reducible rfl)
              simp only [Act.put, List.setIfInBounds_toArray, List.set_cons_zero, List.set_cons_succ]
              apply wpR_next 7 (some 83)
              · simp only [List.getElem?_toArray, List.getElem?_cons_succ, List.getElem?_cons_zero]; exact rfl
              · rfl
              · kernel_rfl
              · kernel_rfl
              · kernel_rfl
              · exact fun _ _ _ _ h => h
              apply Exists.intro
              apply And.intro
              · apply yr_run; rfl; intro w' hw'; go_simp; (try with_reducible rfl)
              simp only [Act.put, List.setIfInBounds_toArray, List.set_cons_zero, List.set_cons_succ]
              apply wpR_next 8 (some 84)
              · simp only [List.getElem?_toArray, List.getElem?_cons_succ, List.getElem?_cons_zero]; exact rfl
              · rfl
              · kernel_rfl
              · kernel_rfl
              · kernel_rfl
              · exact fun _ _ _ _ h => h
              apply Exists.intro
              apply And.intro
              · apply yr_run; rfl; intro w' hw'; go_simp; (try with_reducible rfl)
              simp only [Act.put, List.setIfInBounds_toArray, List.set_cons_zero, List.set_cons_succ]
              apply wpR_next 9 (some 13)
              · simp only [List.getElem?_toArray, List.getElem?_cons_succ, List.getElem?_cons_zero]; exact rfl
              · rfl
              · kernel_rfl
              · kernel_rfl
              · kernel_rfl
              · exact fun _ _ _ _ h => h
              apply Exists.intro
              apply And.intro
              · apply yr_run; rfl; intro w' hw'; go_simp; (try with_reducible rfl)
              simp only [Act.put, List.setIfInBounds_toArray, List.set_cons_zero, List.set_cons_succ]
              refine wpR_done (by kernel_rfl) ?_ _
              intro W8 hw8
              have HO8 := Lib.hid (own_up HOn.out (bel_bl (bel_dr (Below.refl _ _)) hw8))
              have HB8 := Lib.hid (bel_bl (bel_dr HBn.out) hw8)
              clear hw8 HOn HBn ld0 ld1 Hc Hcb
              obtain ⟨gq1, junk1, eq1, hlo1, -, hc1, hfr, ho⟩ := own_poke (i := 0) (y := mn) (u := .int .i64 mn) n1_len HO8.out Hxa.out hpa (by omega) rfl
              obtain rfl : gq = gq1 := by
                injection eq1 with eq1
                injection eq1
              have hyb : (L.set pa mn)[pb]? = some ((L.set pa mn).getD pb 0) := by rw [List.getD_eq_getElem?_getD, List.getElem?_eq_getElem (by rw [List.length_set, Hll.out]; exact hpb)]; rfl
              obtain ⟨gq3, junk3, eq3, -, hw3, hc3, hf3, ho3⟩ := own_poke (i := 0) (y := mn) (u := .int .i64 mn) n1_len ho hyb hpb (by omega) rfl
              obtain rfl : gq = gq3 := by
                injection eq3 with eq3
                injection eq3
              simp only [Nat.mul_one, Nat.add_zero] at hc1 hfr ho hc3 hf3 ho3
              rw [← HRl.out, ← Hst.out] at ho3
              obtain ⟨vc, gvc⟩ : ∃ z, (L.set pa mn).getD pb 0 = z := ⟨_, rfl⟩
              obtain ⟨vd, gvd⟩ : ∃ z, L.getD pa 0 = z := ⟨_, rfl⟩
              replace hc1 : W8.cell? ⟨gq, pa, none⟩ = some (.int .i64 vd) := by rw [hc1, ← gvd]; rfl
              replace hc3 : (W8.setCell ⟨gq, pa, none⟩ (.int .i64 mn)).cell? ⟨gq, pb, none⟩ = some (.int .i64 vc) := by rw [hc3, ← gvc]; rfl
              have HO3 := Lib.hid ho3
              have HB3 := Lib.hid ((HB8.out.setCell (p := ⟨gq, pa, none⟩) hlo1 (.int .i64 mn)).setCell (p := ⟨gq, pb, none⟩) hlo1 (.int .i64 mn))
              clear eq1 eq3 ho hyb hw3 ho3 gvc gvd HO8 HB8 Hll Hst Hxa HRl
              go_wp2
              go_roundw
              case rel => exact ⟨i + 1, by omega, by go_num, HB3, HO3⟩
              case measure => simp [intOf] <;> omega
            · obtain rfl : m = i := by omega
              have hO := HOi.out
              rw [List.take_of_length_le (by rw [HPl.out]; exact Nat.le_refl _)] at hO
              have HOn : RowKit.Hid (wi.ownsRow W0.heap.size 3 1 (.slice go_ n co) n (rowsV n1 (rndN P n (j + 1)))) := Lib.hid hO
              clear hO HOi
              go_wp2
              go_roundw
              case rel => exact ⟨j + 1, by omega, by go_num, HBi, HOn⟩
              case measure => simp [intOf] <;> omega
        · obtain rfl : n = j := by omega
          have hO := HOo.out
          rw [HRn.out] at hO
          have HO9 := Lib.hid hO
          clear hO HOo
          go_wp2
          go_ret
          exact ⟨go_, co, rfl, own_rds HO9.out, HB0.out.trans (HBo.out.mono HB0.out.size)⟩

end Go.Proofs.Ytpindjknngcccaa
