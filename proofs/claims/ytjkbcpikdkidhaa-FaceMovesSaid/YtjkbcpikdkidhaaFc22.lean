/- FaceMoves' walk. -/
import Derived.Test.YtjkbcpikdkidhaaFc19
import Derived.Test.YtjkbcpikdkidhaaFcM
namespace Go.Proofs.Ytjkbcpikdkidhaa
open Go.RowKit
set_option linter.unusedSimpArgs false
set_option linter.unusedVariables false


def gT (v : VC) : (Int × Int) × List D × ByteArray × Int := vS (mV v)
/-- 200 whole numbers. -/
def zL (Z : Nat → Int) : List Value := (List.range 200).map fun k => .int .i64 (Z k)
theorem zL_get (Z : Nat → Int) {k : Nat} (hk : k < 200) : (zL Z)[k]? = some (.int .i64 (Z k)) := by
  unfold zL
  rw [List.getElem?_map, List.getElem?_range hk]
  rfl
theorem zL_set (Z Y : Nat → Int) (k : Nat) (v : Int) (h1 : Y k = v) (h2 : ∀ j, j ≠ k → Y j = Z j) : (zL Z).set k (.int .i64 v) = zL Y := by
  refine List.ext_getElem? fun j => ?_
  rw [List.getElem?_set]
  by_cases q : j < 200
  · rw [zL_get Z q, zL_get Y q]
    by_cases e : k = j
    · subst e
      rw [if_pos rfl, if_pos (by simpa [zL] using q), h1]
    · rw [if_neg e, h2 j (fun h => e h.symm)]
  · have e0 : ∀ X, (zL X)[j]? = none := fun X => List.getElem?_eq_none (by simpa [zL] using q)
    rw [e0, e0]
    split
    · rename_i e
      subst e
      rw [if_neg (by simpa [zL] using q)]
    · rfl
theorem zL_zero : zL (fun _ => 0) = List.replicate 200 (.int .i64 0) := by
  unfold zL
  rw [List.map_const', List.length_range]
theorem make_200 (W : World) : (Instr.makeSlice 56 (.int .i64 200) (.int .i64 200)).run Try.prog W = .ok (.slice (some ⟨W.heap.size, 0, none⟩) 200 200) (W.alloc (.cells (zL (fun _ => 0)).toArray 3)) := by
  rw [zL_zero]
  exact make_intsC W 200 (by omega)
set_option maxRecDepth 100000 in
set_option maxHeartbeats 4000000 in
theorem law_moves (A : Option Addr) (n c : Nat) (Vs : List VC) (B : Option Addr) (m k : Nat) (Es : List EC) (w : World) (h : DgIn w A n c Vs B m k Es) (hg : GoodD Vs Es) (hz : SmD n m Vs) :
    Calls Try.prog 8 #[.agg #[.slice A n c, .slice B m k]] w fun e w' => e = .returned (.bool true) ∧ Below w.heap.size w w' := by
  have HFo := Lib.hid (fun W (h : DgIn W A n c Vs B m k Es) => formed05_any A n c Vs B m k Es W h hg hz)
  obtain ⟨fo, gfo⟩ : ∃ z, (formD Vs Es == 0) = z := ⟨_, rfl⟩
  rw [gfo] at HFo
  have Gfo := Lib.hid gfo
  have HDa := Lib.hid h
  have HGd := Lib.hid hg
  have Hz := Lib.hid hz
  clear h hg hz gfo
  go_enter Try.func8, Try.ntmps8
  go_wp2_with fail
  refine (shown05_any _).mono ?_
  rintro e w1 ⟨rfl, hb1⟩
  have Da_2 := Lib.hid ((HDa.out.al (.cells #[.slice A n c, .slice B m k] 25)).bl hb1)
  have D0_2 := Lib.hid ((show Whole (w.alloc (.cells #[.slice A n c, .slice B m k] 25)) (w.heap.size) (25) ([.slice A n c, .slice B m k]) from Whole.new2 (by first | rfl | simp)).bl hb1)
  have Bel_2 := Lib.hid (bel_bl (bel_al (Below.refl _ w) (.cells #[.slice A n c, .slice B m k] 25)) hb1)
  clear HDa
  clear hb1
  have LO_D0_3 : RowKit.Hid (w.heap.size ≤ w.heap.size) := Lib.hid (by omega)
  have lw4 : (w1).cell? ⟨w.heap.size, 0, none⟩ = some (.slice A n c) := D0_2.out.cell (i := 0) rfl
  have lw5 : (w1).cell? ⟨w.heap.size, 1, none⟩ = some (.slice B m k) := D0_2.out.cell (i := 1) rfl
  go_wp2_with fail
  clear lw4 lw5
  refine (HFo.out _ Da_2.out).mono ?_
  rintro e w6 ⟨rfl, hb6⟩
  have Da_7 := Lib.hid (Da_2.out.bl hb6)
  have D0_7 := Lib.hid (D0_2.out.bl hb6)
  have Bel_7 := Lib.hid (bel_bl Bel_2.out hb6)
  clear Da_2 D0_2 Bel_2
  clear hb6
  by_cases hfo : fo = false
  · subst hfo
    go_wp2
    go_ret
    exact ⟨rfl, Bel_7.out⟩
  obtain rfl : fo = true := by simpa using hfo
  have HFm : RowKit.Hid (Formed Vs Es) := Lib.hid ((form0 Vs Es).1 (eq_of_beq Gfo.out))
  have Hsm := Lib.hid (HFm.out.small Da_7.out)
  have Hlv : RowKit.Hid (Vs.length = n) := Lib.hid (Da_7.out.v.rlen vC_len (by decide))
  have Hlw : RowKit.Hid (Es.length = m) := Lib.hid (Da_7.out.e.rlen eC_len (by decide))
  have hn24 : n ≤ 24 := Hsm.out.1
  have hm40 : m ≤ 40 := Hsm.out.2.1
  have HWd : RowKit.Hid (∀ v ∈ Vs, ∀ d ∈ v.2.1.2.2.2, wfD d) := Lib.hid HGd.out.v
  have Hr0 : RowKit.Hid (∀ x ∈ Vs, x.2.1.2.1 ≤ 1000000) := Lib.hid (fun x hx => by have := Hsm.out.2.2 x hx; omega)
  clear hfo HFo Gfo
  have HCl : RowKit.Hid (∀ W, DgIn W A n c Vs B m k Es → Calls Try.prog 33 #[.agg #[.slice A n c, .slice B m k]] W fun e w' => ∃ A' c' B' k' Ws, e = .returned (.agg #[.slice A' n c', .slice B' m k']) ∧ ClS w' W.heap.size A' n c' Ws B' m k' Es ∧ Ws.map vS = Vs.map vS ∧ Below W.heap.size W w') := Lib.hid (fun W h => rclone_any A n c Vs B m k Es W h (by omega) (by omega) Hr0.out)
  have HDd := Lib.hid (Da_7.out)
  have HXd := Lib.hid (D0_7.out)
  have HBd := Lib.hid (Bel_7.out)
  have lw8 : (w6).cell? ⟨w.heap.size, 0, none⟩ = some (.slice A n c) := D0_7.out.cell (i := 0) rfl
  have lw9 : (w6).cell? ⟨w.heap.size, 1, none⟩ = some (.slice B m k) := D0_7.out.cell (i := 1) rfl
  go_wp2_with fail
  clear lw8 lw9 Da_7 D0_7 Bel_7
  refine (HCl.out _ HDd.out).mono ?_
  rintro e w7 ⟨A2, c2, B2, k2, Us, rfl, hcl, hsm, hb7⟩
  have HM7 := Lib.hid (hcl.wro.al (.cells #[.slice A2 n c2, .slice B2 m k2] 25))
  have HZ7 := Lib.hid (bel_al hb7 (.cells #[.slice A2 n c2, .slice B2 m k2] 25))
  have H97 := Lib.hid (Whole.new2 (w := w7) (t := 25) (cs := [.slice A2 n c2, .slice B2 m k2]) rfl)
  have HU7 : RowKit.Hid (Us.map vS = (Vs.take 0).map gT ++ (Vs.drop 0).map vS) := Lib.hid (by rw [hsm]; rfl)
  have L9 : RowKit.Hid (w6.heap.size ≤ w7.heap.size) := Lib.hid hb7.size
  clear hcl hsm hb7
  go_wp2
  obtain ⟨wm8, gwm8⟩ : ∃ z, w7.alloc (.cells #[.slice A2 n c2, .slice B2 m k2] 25) = z := ⟨_, rfl⟩
  obtain ⟨b9, gb9⟩ : ∃ z, w7.heap.size = z := ⟨_, rfl⟩
  rw [gwm8] at HM7 HZ7 H97 ⊢
  rw [gb9] at H97 L9 ⊢
  clear gwm8 gb9 HCl
  obtain ⟨i0, hi, hz0, hz1, hz2⟩ := info_partsD info_dartD
  go_loopw [6] (fun si wr => ∃ (j : Nat) (Us : List VC), j ≤ n ∧ si = .int .i64 j ∧ RowKit.Hid (Below w6.heap.size w6 wr) ∧ RowKit.Hid (Whole wr b9 25 [.slice A2 n c2, .slice B2 m k2]) ∧ RowKit.Hid (Wro wr w6.heap.size A2 n c2 Us B2 m k2 Es) ∧ RowKit.Hid (Us.map vS = (Vs.take j).map gT ++ (Vs.drop j).map vS)) (fun si _ => n - (intOf si).toNat)
  case atStart => exact ⟨0, Us, by omega, rfl, HZ7, H97, HM7, HU7⟩
  case round =>
    clear HZ7 H97 HM7 HU7
    obtain ⟨j, Us, hj, rfl, HZ, H9, HM, HU⟩ := hrel
    obtain ⟨wo, gwo⟩ : ∃ z, wr = z := ⟨_, rfl⟩
    rw [gwo] at HZ H9 HM ⊢
    clear gwo
    have cb := H9.out.cell (i := 0) rfl
    by_cases hjn : j < n
    · obtain ⟨v, hv⟩ : ∃ v, Vs[j]? = some v := ⟨_, List.getElem?_eq_getElem (by have := Hlv.out; omega)⟩
      obtain ⟨u, hu, huv⟩ : ∃ u, Us[j]? = some u ∧ vS u = vS v := by
        have h1 : (Us.map vS)[j]? = some (vS v) := by
          rw [HU.out, List.getElem?_append_right (by simp; omega)]
          simp only [List.length_map, List.length_take]
          rw [show j - min j Vs.length = 0 by have := Hlv.out; omega, List.getElem?_map, List.getElem?_drop, Nat.add_zero, hv]
          rfl
        rw [List.getElem?_map] at h1
        cases hq : Us[j]? with
        | none => rw [hq] at h1; cases h1
        | some y => rw [hq] at h1; exact ⟨y, rfl, Option.some.inj h1⟩
      have hul : u.2.1.2.2.2 = v.2.1.2.2.2 := congrArg (fun s : (Int × Int) × List D × ByteArray × Int => s.2.1) huv
      have hrn : u.2.1.2.1 ≤ 80 := by
        have h1 := (HDd.out.r v (List.mem_of_getElem? hv)).2.dlen
        have h2 := Hsm.out.2.2 v (List.mem_of_getElem? hv)
        have h3 := (HM.out.r u (List.mem_of_getElem? hu)).2.dlen
        rw [hul] at h3
        omega
      have hset : ∀ (A9 : Option Addr) (c9 : Nat), (Us.set j ((u.1, (A9, (bkL u.2.1.2.2.2).length, c9, bkL u.2.1.2.2.2), u.2.2))).map vS = (Vs.take (j + 1)).map gT ++ (Vs.drop (j + 1)).map vS := fun A9 c9 => by
        rw [List.map_set, HU.out]
        have e : vS ((u.1, (A9, (bkL u.2.1.2.2.2).length, c9, bkL u.2.1.2.2.2), u.2.2)) = gT v := by
          have e1 : u.1 = v.1 := congrArg (fun s : (Int × Int) × List D × ByteArray × Int => s.1) huv
          have e4 : u.2.2.2 = v.2.2.2 := congrArg (fun s : (Int × Int) × List D × ByteArray × Int => s.2.2.2) huv
          have e3 : u.2.2.1 = v.2.2.1 := congrArg (fun s : (Int × Int) × List D × ByteArray × Int => s.2.2.1) huv
          show (u.1, bkL u.2.1.2.2.2, u.2.2.1, u.2.2.2) = _
          rw [e1, hul, e3, e4]
          rfl
        rw [e]
        exact half_set gT vS hv
      obtain ⟨⟨i1, i2⟩, ⟨rA, rn, rc, rL⟩, lb, at_⟩ := u
      have HSet : RowKit.Hid (∀ (A9 : Option Addr) (c9 : Nat), (Us.set j (((i1, i2), (A9, (bkL rL).length, c9, bkL rL), lb, at_))).map vS = (Vs.take (j + 1)).map gT ++ (Vs.drop (j + 1)).map vS) := Lib.hid hset
      replace hrn : rn ≤ 80 := hrn
      have hRu := HM.out.r _ (List.mem_of_getElem? hu)
      obtain ⟨gm, eA2, hlo, -, hc, hf, -⟩ := HM.out.put hu hjn (rA, rn, rc, rL) hRu
      subst eA2
      replace hc : wo.cell? ⟨gm, j * 5 + 2, none⟩ = some (.slice rA rn rc) := hc
      have HRu : RowKit.Hid (RdS wo wo.heap.size 3 rA rn rc (dartsV rL)) := Lib.hid hRu.2
      have Hrl : RowKit.Hid (rL.length = rn) := Lib.hid hRu.2.dlen
      have Hu := Lib.hid hu
      have HO0 : RowKit.Hid (Ow wo wo.heap.size 29 3 (.slice (some ⟨wo.heap.size, 0, none⟩) 0 0) (rn - rn) (dartsV (rL.drop rn).reverse) (wo.alloc (.cells #[] 29))) := by
        rw [Nat.sub_self, List.drop_eq_nil_of_le (by have := Hrl.out; omega)]
        exact Lib.hid (Ow.new_ (cs := #[]) (Below.refl _ _) (Nat.le_refl _) (Nat.le_refl _) (Nat.zero_le _) rfl)
      have hw1 : IntKind.i64.wrap ((rn : Int) - 1) = (rn : Int) - 1 := IntWalk.i64_in _ (by omega)
      clear hv hu huv hul hset hRu hf HU
      go_wp2
      clear cb hc
      go_loopw [8, 9] (fun sb sk wr => ∃ p : Nat, p ≤ rn ∧ sk = .int .i64 ((p : Int) - 1) ∧ RowKit.Hid (Ow wo wo.heap.size 29 3 sb (rn - p) (dartsV (rL.drop p).reverse) wr)) (fun _ sk _ => (intOf sk + 1).toNat)
      case atStart => exact ⟨rn, Nat.le_refl _, rfl, HO0⟩
      case round =>
        clear HO0 hw1
        obtain ⟨p, hp, rfl, HO⟩ := hrel
        cases p with
        | succ q =>
          rw [show (((q + 1 : Nat) : Int) - 1) = (q : Int) by omega]
          obtain ⟨b, of2, rfl, hb, hcc⟩ := (HRu.out.up HO.out.below HO.out.below.size).darts (by omega)
          have hql : q < rL.length := by have := Hrl.out; omega
          obtain ⟨d1, d2, d3⟩ := hcc q hql
          obtain ⟨x, gx⟩ : ∃ v, rL.getD q (0, 0, 0) = v := ⟨_, rfl⟩
          have gx2 : rL[q]? = some x := by rw [← gx, List.getD_eq_getElem?_getD, List.getElem?_eq_getElem hql]; rfl
          rw [gx] at d1 d2 d3
          have HBk := Lib.hid (back_step gx2)
          have hq0 : decide ((0 : Int) ≤ (q : Int)) = true := decide_eq_true (by omega)
          have hq1 : IntKind.i64.wrap ((q : Int) - 1) = (q : Int) - 1 := IntWalk.i64_in _ (by omega)
          have hqn : q < rn := by omega
          clear hb hcc gx gx2 hql
          go_wp2_with (first
            | (at_builtin
               refine wpList_push rfl (.tmp 45) (.tmp 50) _ rfl _ 29 i0 _ 3 24 Try.underlying35 hi hz0 hz1 hz2 rfl (by decide) _ _ _ rfl (by exact HO.out.up (below1 _ _)) _ (some ⟨wr.heap.size, 0, none⟩) 1 1 (dartsV [x]) rfl (by exact RdS.whole3 (L := [x]) (Whole.new_ _ _ _)) (dartsV_one [x]) (by unfold maxLen; omega) (by omega) ?_
               intro v1 w1 how1 hb1
               have HO1 := Lib.hid how1
               clear how1 hb1))
          go_roundw
          case rel =>
            refine ⟨q, by omega, by go_num, ?_⟩
            rw [HBk.out, dartsV_app, show rn - q = rn - (q + 1) + 1 by omega]
            exact HO1
          case measure => simp [intOf] <;> omega
        | zero =>
          have hq0 : decide ((0 : Int) ≤ ((0 : Nat) : Int) - 1) = false := by decide
          rw [show (((0 : Nat) : Int) - 1) = (-1 : Int) from rfl]
          obtain ⟨Ab, cb9, rfl, hrb⟩ := HO.out.rds
          rw [List.drop_zero, Nat.sub_zero] at hrb
          have HRb := Lib.hid hrb
          have HBl := Lib.hid HO.out.below
          have HRm : RowKit.Hid (∀ W, RdS W W.heap.size 3 Ab rn cb9 (dartsV rL.reverse) → Calls Try.prog 35 #[.slice Ab rn cb9] W (GivesC W (bkL rL))) := Lib.hid (fun W h => rfturnc_any Ab rn cb9 rL.reverse W h (by omega))
          have HM1 := Lib.hid (HM.out.bl HO.out.below)
          have H91 := Lib.hid (H9.out.bl HO.out.below)
          have HZ1 := Lib.hid (bel_bl HZ.out HO.out.below)
          obtain ⟨L9, gL9⟩ : ∃ z, bkL rL = z := ⟨_, rfl⟩
          rw [gL9] at HRm HSet
          obtain ⟨wq, gwq⟩ : ∃ z, wr = z := ⟨_, rfl⟩
          rw [gwq] at HRb HM1 H91 HZ1 ⊢
          clear hrb HO gL9 gwq HBl
          go_upto_region 15 with fail
          have ld0 : ∀ w', Kept Nil_ wq.drew w' → w'.cell? ⟨b9, 0, none⟩ = some (.slice (some ⟨gm, 0, none⟩) n c2) := fun w' h => h.nil_cell (H91.out.dr.cell (i := 0) rfl)
          have HRq := Lib.hid HRb.out.dr
          refine wp_region_tail (Nil_) [7] (by kernel_rfl) ?_
          apply wpT_next 0 (some 52) (by kernel_rfl)
          · simp only [List.getElem?_toArray, List.getElem?_cons_succ, List.getElem?_cons_zero]; exact rfl
          · rfl
          · kernel_rfl
          · kernel_rfl
          · kernel_rfl
          · exact fun _ _ _ _ h => h
          apply Exists.intro
          apply And.intro
          · apply yr_run; rfl; intro w' hw'; go_simp; (try with_reducible rfl)
          simp only [Act.put, List.setIfInBounds_toArray, List.set_cons_zero, List.set_cons_succ]
          apply wpT_next 1 (some 53) (by kernel_rfl)
          · simp only [List.getElem?_toArray, List.getElem?_cons_succ, List.getElem?_cons_zero]; exact rfl
          · rfl
          · kernel_rfl
          · kernel_rfl
          · kernel_rfl
          · exact fun _ _ _ _ h => h
          apply Exists.intro
          apply And.intro
          · apply yr_run; rfl; intro w' hw'; go_simp; (try with_reducible rfl)
          simp only [Act.put, List.setIfInBounds_toArray, List.set_cons_zero, List.set_cons_succ]
          apply wpT_next 2 (some 54) (by kernel_rfl)
          · simp only [List.getElem?_toArray, List.getElem?_cons_succ, List.getElem?_cons_zero]; exact rfl
          · rfl
          · kernel_rfl
          · kernel_rfl
          · kernel_rfl
          · exact fun _ _ _ _ h => h
          apply Exists.intro
          apply And.intro
          · apply yr_run; rfl; intro w' hw'; go_simp; (try with_reducible rfl)
          simp only [Act.put, List.setIfInBounds_toArray, List.set_cons_zero, List.set_cons_succ]
          apply wpT_next 3 (some 55) (by kernel_rfl)
          · simp only [List.getElem?_toArray, List.getElem?_cons_succ, List.getElem?_cons_zero]; exact rfl
          · rfl
          · kernel_rfl
          · kernel_rfl
          · kernel_rfl
          · exact fun _ _ _ _ h => h
          apply Exists.intro
          apply And.intro
          · apply yr_run; rfl; intro w' hw'; go_simp; (try with_reducible rfl)
          simp only [Act.put, List.setIfInBounds_toArray, List.set_cons_zero, List.set_cons_succ]
          apply wpT_call 4 (some 56)
          · simp only [List.getElem?_toArray, List.getElem?_cons_succ, List.getElem?_cons_zero]; exact rfl
          · rfl
          · kernel_rfl
          · rfl
          · intro w'; go_simp; first | done | exact ⟨rfl, rfl⟩ | with_reducible rfl
          intro w' hw'
          refine (HRm.out w' (HRq.out.bl hw')).mono ?_
          rintro e w9 ⟨A9, c9, rfl, hr9, hb9, hc9⟩
          refine ⟨_, rfl, Kept.of_below hb9, ?_⟩
          have H99 := Lib.hid ((H91.out.dr.bl hw').bl hb9)
          have HM9 := Lib.hid ((HM1.out.dr.bl hw').bl hb9)
          have HZ9 := Lib.hid (bel_bl (bel_bl (bel_dr HZ1.out) hw') hb9)
          have HR9 : RowKit.Hid (RgOk w9 (A9, L9.length, c9, L9)) := Lib.hid ⟨hc9, hr9⟩
          obtain ⟨V9, gV9⟩ : ∃ z, w9 = z := ⟨_, rfl⟩
          rw [gV9] at H99 HM9 HZ9 HR9 ⊢
          clear hw' hr9 hb9 hc9 gV9 ld0 HRm HRq H91 HM1 HZ1 HRb
          simp only [Act.put, List.setIfInBounds_toArray, List.set_cons_zero, List.set_cons_succ]
          apply wpT_run 5 (some 57)
          · simp only [List.getElem?_toArray, List.getElem?_cons_succ, List.getElem?_cons_zero]; exact rfl
          · rfl
          · kernel_rfl
          · rfl
          intro w' hw'
          apply Exists.intro
          apply Exists.intro
          apply And.intro
          · go_simp; first | done | exact ⟨rfl, rfl⟩ | exact rfl
          apply And.intro
          · exact Kept.refl _ _
          have hpd5 := hw'
          clear hw'
          simp only [Act.put, List.setIfInBounds_toArray, List.set_cons_zero, List.set_cons_succ]
          apply wpT_next 6 (some 58) (by kernel_rfl)
          · simp only [List.getElem?_toArray, List.getElem?_cons_succ, List.getElem?_cons_zero]; exact rfl
          · rfl
          · kernel_rfl
          · kernel_rfl
          · kernel_rfl
          · exact fun _ _ _ _ h => h
          apply Exists.intro
          apply And.intro
          · apply yr_run; rfl; intro w' hw'; go_simp; (try with_reducible rfl)
          simp only [Act.put, List.setIfInBounds_toArray, List.set_cons_zero, List.set_cons_succ]
          apply wpT_last 7
          · simp only [List.getElem?_toArray, List.getElem?_cons_succ, List.getElem?_cons_zero]; exact rfl
          · rfl
          · kernel_rfl
          · rfl
          · decide
          intro w' hw'
          replace hw' := Ext.trans hpd5 hw'
          clear hpd5
          obtain ⟨gq, eq, hloq, ⟨csq, hwq⟩, hcq, hfq, hMq⟩ := (HM9.out.bl hw').put Hu.out hjn (A9, L9.length, c9, L9) (HR9.out.bl hw')
          obtain rfl : gm = gq := by
            injection eq with eq
            injection eq
          replace hcq : w'.cell? ⟨gm, j * 5 + 2, none⟩ = some (.slice rA rn rc) := hcq
          refine ⟨w'.setCell ⟨gm, j * 5 + 2, none⟩ (.slice A9 L9.length c9), by (go_simp; first | done | exact rfl | exact ⟨rfl, rfl⟩), ?_⟩
          have HMs : RowKit.Hid (Wro (w'.setCell ⟨gm, j * 5 + 2, none⟩ (.slice A9 L9.length c9)) w6.heap.size (some ⟨gm, 0, none⟩) n c2 (Us.set j ((i1, i2), (A9, L9.length, c9, L9), lb, at_)) B2 m k2 Es) := Lib.hid hMq
          have H9s := Lib.hid ((H99.out.bl hw').set_far' (i := j * 5 + 2) ((H99.out.bl hw').ne_ hwq (by decide)) (.slice A9 L9.length c9))
          have HZs := Lib.hid ((bel_bl HZ9.out hw').setCell (p := ⟨gm, j * 5 + 2, none⟩) hlo (.slice A9 L9.length c9))
          obtain ⟨W7, gW7⟩ : ∃ z, w'.setCell ⟨gm, j * 5 + 2, none⟩ (.slice A9 L9.length c9) = z := ⟨_, rfl⟩
          rw [gW7] at HMs H9s HZs ⊢
          clear hw' eq hloq hwq hcq hfq hMq gW7 H99 HM9 HZ9 HR9
          try simp only [Act.put, List.setIfInBounds_toArray, List.set_cons_zero, List.set_cons_succ]
          refine wpT_done (by kernel_rfl) ?_ _
          intro W8 hw8
          have HM8 := Lib.hid (HMs.out.bl hw8)
          have H98 := Lib.hid (H9s.out.bl hw8)
          have HZ8 := Lib.hid (bel_bl HZs.out hw8)
          clear hw8 HMs H9s HZs
          have cb := H98.out.cell (i := 0) rfl
          go_wp2
          go_roundw
          case rel => exact ⟨j + 1, _, by omega, by go_num, HZ8, H98, HM8, Lib.hid (HSet.out _ _)⟩
          case measure => simp [intOf] <;> omega
    · obtain rfl : n = j := by omega
      clear cb
      have hUs : Us.map vS = Vs.map gT := by
        rw [HU.out, List.take_of_length_le (by have := Hlv.out; omega), List.drop_eq_nil_of_le (by have := Hlv.out; omega)]
        simp
      have hUm : Us.map vS = (Vs.map mV).map vS := by rw [hUs, List.map_map]; rfl
      have hfU : Formed Us Es := (back_formed HFm.out).same hUm
      have hmem : ∀ u ∈ Us, ∃ v ∈ Vs, vS u = gT v := fun u hu => by
        have h1 : vS u ∈ Vs.map gT := hUs ▸ List.mem_map.2 ⟨u, hu, rfl⟩
        obtain ⟨v, hv, e⟩ := List.mem_map.1 h1
        exact ⟨v, hv, e.symm⟩
      have hgU : GoodD Us Es := ⟨fun u hu d hd => by
          obtain ⟨v, hv, e⟩ := hmem u hu
          have e1 : u.2.1.2.2.2 = bkL v.2.1.2.2.2 := congrArg (fun s : (Int × Int) × List D × ByteArray × Int => s.2.1) e
          rw [e1, bkL_mem] at hd
          exact HGd.out.v v hv d hd, HGd.out.e, fun u hu => by
          obtain ⟨v, hv, e⟩ := hmem u hu
          have e1 : u.2.2.1 = v.2.2.1 := congrArg (fun s : (Int × Int) × List D × ByteArray × Int => s.2.2.1) e
          rw [e1]
          exact HGd.out.lv v hv, HGd.out.le⟩
      obtain ⟨hct, hlen⟩ := moves_cnt HFm.out HFm.out.dsn (back_formed HFm.out) (fun y hy => sg_back HFm.out hy)
      have HF1 : RowKit.Hid (∀ W, DgIn W A n c Vs B m k Es → Calls Try.prog 26 #[.agg #[.slice A n c, .slice B m k]] W fun e w' => ∃ A' c' X, e = .returned (.slice A' X.length c') ∧ RowsIn w' (W.heap.size + 1) 35 29 3 encD A' X.length c' X ∧ X.map (·.2.2) = orbsF (phF Vs) 80 (dsE Es) [] ∧ Below W.heap.size W w') := Lib.hid (fun W h => faces5_any A n c Vs B m k Es W h HFm.out HGd.out)
      have HF2 : RowKit.Hid (∀ W, DgIn W A2 n c2 Us B2 m k2 Es → Calls Try.prog 26 #[.agg #[.slice A2 n c2, .slice B2 m k2]] W fun e w' => ∃ A' c' X, e = .returned (.slice A' X.length c') ∧ RowsIn w' (W.heap.size + 1) 35 29 3 encD A' X.length c' X ∧ X.map (·.2.2) = orbsF (phF (Vs.map mV)) 80 (dsE Es) [] ∧ Below W.heap.size W w') := Lib.hid (fun W h => by
        have h1 := faces5_any A2 n c2 Us B2 m k2 Es W h hfU hgU
        rw [phF_same hUm] at h1
        exact h1)
      have hO := orbs_small HFm.out
      have hQ := orbs_small (back_formed HFm.out)
      obtain ⟨O, gO⟩ : ∃ z, orbsF (phF Vs) 80 (dsE Es) [] = z := ⟨_, rfl⟩
      obtain ⟨Q, gQ⟩ : ∃ z, orbsF (phF (Vs.map mV)) 80 (dsE Es) [] = z := ⟨_, rfl⟩
      rw [gO] at HF1 hct hlen hO
      rw [gQ] at HF2 hct hlen hQ
      have Hct := Lib.hid hct
      have Hlen := Lib.hid hlen
      have HOs := Lib.hid hO
      have HQs := Lib.hid hQ
      have HDm := Lib.hid HM.out.dg
      have HDz := Lib.hid (HDd.out.bl HZ.out)
      have HXz := Lib.hid (HXd.out.bl HZ.out)
      clear hUs hUm hfU hmem hgU hct hlen hO hQ gO gQ HU HM
      have hmk := fun W => make_200 W
      have cb := H9.out.cell (i := 0) rfl
      have lw911 : (wo).cell? ⟨w.heap.size, 0, none⟩ = some (.slice A n c) := HXz.out.cell (i := 0) rfl
      have lw912 : (wo).cell? ⟨w.heap.size, 1, none⟩ = some (.slice B m k) := HXz.out.cell (i := 1) rfl
      go_wp2_with fail
      clear lw911 lw912
      refine (HF1.out _ HDz.out).mono ?_
      rintro e w913 ⟨A3, c3, X3, rfl, hr3, hX3, hb913⟩
      have HX3 := Lib.hid hX3
      clear hX3
      have Da_914 := Lib.hid (HDz.out.bl hb913)
      have Dm_914 := Lib.hid (HDm.out.bl hb913)
      have D0_914 := Lib.hid (HXz.out.bl hb913)
      have M9_914 := Lib.hid (H9.out.bl hb913)
      have Bel_914 := Lib.hid (bel_bl HZ.out hb913)
      clear HDz HDm HXz H9 HZ
      clear hb913
      have R3_914 := Lib.hid hr3
      clear hr3
      clear cb
      have lw915 : (w913).cell? ⟨b9, 0, none⟩ = some (.slice A2 n c2) := M9_914.out.cell (i := 0) rfl
      have lw916 : (w913).cell? ⟨b9, 1, none⟩ = some (.slice B2 m k2) := M9_914.out.cell (i := 1) rfl
      go_wp2_with fail
      clear lw915 lw916
      refine (HF2.out _ Dm_914.out).mono ?_
      rintro e w917 ⟨A4, c4, X4, rfl, hr4, hX4, hb917⟩
      have HX4 := Lib.hid hX4
      clear hX4
      have Da_918 := Lib.hid (Da_914.out.bl hb917)
      have Dm_918 := Lib.hid (Dm_914.out.bl hb917)
      have D0_918 := Lib.hid (D0_914.out.bl hb917)
      have M9_918 := Lib.hid (M9_914.out.bl hb917)
      have R3_918 := Lib.hid (R3_914.out.bl hb917)
      have Bel_918 := Lib.hid (bel_bl Bel_914.out hb917)
      clear Da_914 Dm_914 D0_914 M9_914 R3_914 Bel_914
      clear hb917
      have R4_918 := Lib.hid hr4
      clear hr4
      have HR3 := Lib.hid (R3_918.out)
      have HR4 := Lib.hid (R4_918.out)
      have HBq := Lib.hid (Bel_918.out)
      clear Da_918 Dm_918 D0_918 M9_918 R3_918 R4_918 Bel_918
      have hx3 : X3.length = O.length := by have := congrArg List.length HX3.out; rwa [List.length_map] at this
      have hx4 : X4.length = O.length := by have := congrArg List.length HX4.out; rw [List.length_map] at this; rw [this, Hlen.out]
      have h80 : O.length ≤ 80 := HOs.out.1
      obtain ⟨xn, gxn⟩ : ∃ z, X3.length = z := ⟨_, rfl⟩
      have gx4 : X4.length = xn := by omega
      rw [gx4] at HR4 ⊢
      rw [gxn] at HR3 ⊢
      have Hx3 := Lib.hid gxn
      have Hx4 := Lib.hid gx4
      have HOl : RowKit.Hid (O.length = xn) := Lib.hid (by omega)
      have HQl : RowKit.Hid (Q.length = xn) := Lib.hid (by have := Hlen.out; omega)
      have hxn80 : xn ≤ 80 := by omega
      clear hx3 hx4 h80 gxn gx4
      go_upto_region 19 with fail
      clear hmk
      have HW0 : RowKit.Hid (Whole (w917.alloc (.cells (zL (fun _ => 0)).toArray 3)) w917.heap.size 3 (zL (fun s => (cntL (O.take 0) s : Int)))) := Lib.hid (Whole.new_ w917 3 _)
      have HB0 : RowKit.Hid (Below w917.heap.size w917 (w917.alloc (.cells (zL (fun _ => 0)).toArray 3))) := Lib.hid (below1 _ _)
      obtain ⟨wz, gwz⟩ : ∃ z, w917.alloc (.cells (zL (fun _ => 0)).toArray 3) = z := ⟨_, rfl⟩
      obtain ⟨gs, ggs⟩ : ∃ z, w917.heap.size = z := ⟨_, rfl⟩
      have Ggs := Lib.hid ggs
      rw [gwz] at HW0 HB0 ⊢
      rw [ggs] at HW0 ⊢
      clear gwz ggs
      go_wp2
      go_loopw [13] (fun si wr => ∃ i : Nat, i ≤ xn ∧ si = .int .i64 i ∧ RowKit.Hid (Below w917.heap.size w917 wr) ∧ RowKit.Hid (Whole wr gs 3 (zL (fun s => (cntL (O.take i) s : Int))))) (fun si _ => xn - (intOf si).toNat)
      case atStart => exact ⟨0, by omega, rfl, HB0, HW0⟩
      case round =>
        clear HB0 HW0
        obtain ⟨i, hi, rfl, HB, HW⟩ := hrel
        obtain ⟨wo, gwo⟩ : ∃ z, wr = z := ⟨_, rfl⟩
        rw [gwo] at HB HW ⊢
        clear gwo
        by_cases hin : i < xn
        · obtain ⟨x, hx⟩ : ∃ x, X3[i]? = some x := ⟨_, List.getElem?_eq_getElem (by have := Hx3.out; omega)⟩
          obtain ⟨gp, junk, eA, -, -, hcx, -, -⟩ := own_poke (i := 0) (y := x) (u := rwV x) rwC_len HR3.out.row hx hin (by decide) rfl
          simp only [Nat.mul_one, Nat.add_zero] at hcx
          obtain ⟨pA, pc, F⟩ := x
          have hm1 : O[i]? = some F := by rw [← HX3.out, List.getElem?_map, hx]; rfl
          have hF80 : F.length ≤ 80 := HOs.out.2 F (List.mem_of_getElem? hm1)
          obtain ⟨lf, glf⟩ : ∃ z, F.length = z := ⟨_, rfl⟩
          replace hcx : w917.cell? ⟨gp, i, none⟩ = some (.slice pA lf pc) := by rw [← glf]; exact hcx
          have hcw : wo.cell? ⟨gp, i, none⟩ = some (.slice pA lf pc) := (HB.out.cell (p := ⟨gp, i, none⟩) (World.block_lt_of_cell? _ _ hcx)).trans hcx
          have hgp : gp < gs := by have h1 := World.block_lt_of_cell? _ _ hcx; have := Ggs.out; simp only at h1; omega
          have hnx := cntL_next hm1
          have hcl := cntL_le (O.take i) lf
          have hcl2 := cntL_le O lf
          rw [List.length_take] at hcl
          rw [glf] at hF80 hnx
          have hl200 : lf < 200 := by omega
          have hcz : wo.cell? ⟨gs, lf, none⟩ = some (.int .i64 (cntL (O.take i) lf : Int)) := HW.out.cell (i := lf) (zL_get _ hl200)
          have hfz := HW.out.free lf
          have hset : (zL (fun s => (cntL (O.take i) s : Int))).set lf (.int .i64 ((cntL (O.take i) lf : Int) + 1)) = zL (fun s => (cntL (O.take (i + 1)) s : Int)) := zL_set _ _ lf _ (by simp only [hnx, if_pos]; omega) (fun j hj => by simp only [hnx, if_neg (fun e : lf = j => hj e.symm)]; omega)
          have hW2 := HW.out.set_ lf (.int .i64 ((cntL (O.take i) lf : Int) + 1))
          rw [hset] at hW2
          have HW2 := Lib.hid hW2
          have HB2 := Lib.hid (HB.out.setCell (p := ⟨gs, lf, none⟩) (show w917.heap.size ≤ gs from Nat.le_of_eq Ggs.out) (.int .i64 ((cntL (O.take i) lf : Int) + 1)))
          have hwrp : IntKind.i64.wrap ((cntL (O.take i) lf : Int) + 1) = (cntL (O.take i) lf : Int) + 1 := IntWalk.i64_in _ (by have := HOl.out; omega)
          obtain ⟨z, gz⟩ : ∃ z : Int, (cntL (O.take i) lf : Int) = z := ⟨_, rfl⟩
          rw [gz] at hcz HW2 HB2 hwrp
          have hwrp64 : wrap64 (z + 1) = z + 1 := by rw [← IntWalk.i64_left]; exact hwrp
          have h100 : decide ((i : Int) < 100) = true := decide_eq_true (by omega)
          subst eA
          clear hx hm1 hF80 glf hcx hgp hnx hcl hcl2 hset hW2 gz HB HW
          go_wp2
          go_roundw
          case rel => exact ⟨i + 1, by omega, by go_num, HB2, HW2⟩
          case measure => simp [intOf] <;> omega
        · obtain rfl : xn = i := by omega
          go_wp2
          have hw := HW.out
          have e0 : zL (fun s => (cntL (O.take xn) s : Int)) = zL (fun s => ((cntL O s : Int) - (cntL (Q.take 0) s : Int))) := by
            congr 1
            funext s
            rw [List.take_of_length_le (by have := HOl.out; omega)]
            show _ = (cntL O s : Int) - ((0 : Nat) : Int)
            omega
          rw [e0] at hw
          have HW3 := Lib.hid hw
          have HB3 := HB
          clear hw e0 HB HW
          go_loopw [14] (fun si wr => ∃ i : Nat, i ≤ xn ∧ si = .int .i64 i ∧ RowKit.Hid (Below w917.heap.size w917 wr) ∧ RowKit.Hid (Whole wr gs 3 (zL (fun s => ((cntL O s : Int) - (cntL (Q.take i) s : Int)))))) (fun si _ => xn - (intOf si).toNat)
          case atStart => exact ⟨0, by omega, rfl, HB3, HW3⟩
          case round =>
            clear HB3 HW3
            obtain ⟨i, hi, rfl, HB, HW⟩ := hrel
            obtain ⟨wo, gwo⟩ : ∃ z, wr = z := ⟨_, rfl⟩
            rw [gwo] at HB HW ⊢
            clear gwo
            by_cases hin : i < xn
            · obtain ⟨x, hx⟩ : ∃ x, X4[i]? = some x := ⟨_, List.getElem?_eq_getElem (by have := Hx4.out; omega)⟩
              obtain ⟨gp, junk, eA, -, -, hcx, -, -⟩ := own_poke (i := 0) (y := x) (u := rwV x) rwC_len HR4.out.row hx hin (by decide) rfl
              simp only [Nat.mul_one, Nat.add_zero] at hcx
              obtain ⟨pA, pc, F⟩ := x
              have hm1 : Q[i]? = some F := by rw [← HX4.out, List.getElem?_map, hx]; rfl
              have hF80 : F.length ≤ 80 := HQs.out.2 F (List.mem_of_getElem? hm1)
              obtain ⟨lf, glf⟩ : ∃ z, F.length = z := ⟨_, rfl⟩
              replace hcx : w917.cell? ⟨gp, i, none⟩ = some (.slice pA lf pc) := by rw [← glf]; exact hcx
              have hcw : wo.cell? ⟨gp, i, none⟩ = some (.slice pA lf pc) := (HB.out.cell (p := ⟨gp, i, none⟩) (World.block_lt_of_cell? _ _ hcx)).trans hcx
              have hgp : gp < gs := by have h1 := World.block_lt_of_cell? _ _ hcx; have := Ggs.out; simp only at h1; omega
              have hnx := cntL_next hm1
              have hcl := cntL_le (Q.take i) lf
              have hcl2 := cntL_le O lf
              rw [List.length_take] at hcl
              rw [glf] at hF80 hnx
              have hl200 : lf < 200 := by omega
              have hcz : wo.cell? ⟨gs, lf, none⟩ = some (.int .i64 ((cntL O lf : Int) - (cntL (Q.take i) lf : Int))) := HW.out.cell (i := lf) (zL_get _ hl200)
              have hfz := HW.out.free lf
              have hset : (zL (fun s => ((cntL O s : Int) - (cntL (Q.take i) s : Int)))).set lf (.int .i64 (((cntL O lf : Int) - (cntL (Q.take i) lf : Int)) - 1)) = zL (fun s => ((cntL O s : Int) - (cntL (Q.take (i + 1)) s : Int))) := zL_set _ _ lf _ (by simp only [hnx, if_pos]; omega) (fun j hj => by simp only [hnx, if_neg (fun e : lf = j => hj e.symm)]; omega)
              have hW2 := HW.out.set_ lf (.int .i64 (((cntL O lf : Int) - (cntL (Q.take i) lf : Int)) - 1))
              rw [hset] at hW2
              have HW2 := Lib.hid hW2
              have HB2 := Lib.hid (HB.out.setCell (p := ⟨gs, lf, none⟩) (show w917.heap.size ≤ gs from Nat.le_of_eq Ggs.out) (.int .i64 (((cntL O lf : Int) - (cntL (Q.take i) lf : Int)) - 1)))
              have hwrp : IntKind.i64.wrap (((cntL O lf : Int) - (cntL (Q.take i) lf : Int)) - 1) = ((cntL O lf : Int) - (cntL (Q.take i) lf : Int)) - 1 := IntWalk.i64_in _ (by have := HOl.out; omega)
              obtain ⟨z, gz⟩ : ∃ z : Int, ((cntL O lf : Int) - (cntL (Q.take i) lf : Int)) = z := ⟨_, rfl⟩
              rw [gz] at hcz HW2 HB2 hwrp
              have hwrp64 : wrap64 (z - 1) = z - 1 := by rw [← IntWalk.i64_left]; exact hwrp
              have h100 : decide ((i : Int) < 100) = true := decide_eq_true (by omega)
              subst eA
              clear hx hm1 hF80 glf hcx hgp hnx hcl hcl2 hset hW2 gz HB HW
              go_wp2
              go_roundw
              case rel => exact ⟨i + 1, by omega, by go_num, HB2, HW2⟩
              case measure => simp [intOf] <;> omega
            · obtain rfl : xn = i := by omega
              go_wp2
              have hw := HW.out
              have e0 : zL (fun s => ((cntL O s : Int) - (cntL (Q.take xn) s : Int))) = zL (fun _ => 0) := by
                congr 1
                funext s
                rw [List.take_of_length_le (by have := HQl.out; omega), Hct.out s]
                omega
              rw [e0] at hw
              have Hw6 := Lib.hid hw
              have HB5 := HB
              clear hw e0 HB HW
              go_loopw [15] (fun si wr => ∃ i : Nat, i ≤ 200 ∧ si = .int .i64 i ∧ RowKit.Hid (Below w917.heap.size w917 wr) ∧ RowKit.Hid (Whole wr gs 3 (zL (fun _ => 0)))) (fun si _ => 200 - (intOf si).toNat)
              case atStart => exact ⟨0, by omega, rfl, HB5, Hw6⟩
              case round =>
                clear HB5 Hw6
                obtain ⟨i, hi, rfl, HB, HW⟩ := hrel
                obtain ⟨wo, gwo⟩ : ∃ z, wr = z := ⟨_, rfl⟩
                rw [gwo] at HB HW ⊢
                clear gwo
                by_cases hin : i < 200
                · have hcz : wo.cell? ⟨gs, i, none⟩ = some (.int .i64 0) := HW.out.cell (i := i) (zL_get _ hin)
                  have hlt : decide ((i : Int) < 200) = true := decide_eq_true (by omega)
                  go_wp2
                  go_roundw
                  case rel => exact ⟨i + 1, by omega, by go_num, HB, HW⟩
                  case measure => simp [intOf] <;> omega
                · obtain rfl : 200 = i := by omega
                  go_wp2
                  go_ret
                  exact ⟨by first | rfl | simp, HBd.out.trans ((HBq.out.trans (HB.out.mono HBq.out.size)).mono HBd.out.size)⟩
end Go.Proofs.Ytjkbcpikdkidhaa
