/- CompBlind's walk. -/
import Derived.Test.YtjkbcpikdkidhaaWro
import Derived.Test.YtjkbcpikdkidhaaGE
import Derived.Test.YtjkbcpikdkidhaaInt
namespace Go.Proofs.Ytjkbcpikdkidhaa
open Go.RowKit
set_option linter.unusedSimpArgs false
set_option linter.unusedVariables false

def gB (v : VC) : (Int × Int) × List D × ByteArray × Int := (v.1, bkL v.2.1.2.2.2, { data := #[97] }, v.2.2.2)
set_option maxRecDepth 100000 in
set_option maxHeartbeats 4000000 in
theorem law_blind (A : Option Addr) (n c : Nat) (Vs : List VC) (B : Option Addr) (m k : Nat) (Es : List EC) (x1 x2 y1 y2 : Int) (w : World) (h : DgIn w A n c Vs B m k Es) (hg : GoodD Vs Es) (hz : SmD n m Vs) :
    Calls Try.prog 13 #[.agg #[.slice A n c, .slice B m k], .agg #[.int .i64 x1, .int .i64 x2], .agg #[.int .i64 y1, .int .i64 y2]] w fun e w' => e = .returned (.bool true) ∧ Below w.heap.size w w' := by
  have HFo := Lib.hid (fun W (h : DgIn W A n c Vs B m k Es) => formed06_any A n c Vs B m k Es W h hg hz)
  obtain ⟨fo, gfo⟩ : ∃ z, (formD Vs Es == 0) = z := ⟨_, rfl⟩
  rw [gfo] at HFo
  have Gfo := Lib.hid gfo
  have HDa := Lib.hid h
  have HGd := Lib.hid hg
  have Hz := Lib.hid hz
  clear h hg hz gfo
  go_enter Try.func13, Try.ntmps13
  go_wp2_with fail
  refine (shown06_any _).mono ?_
  rintro e w1 ⟨rfl, hb1⟩
  have Da_2 := Lib.hid ((((HDa.out.al (.cells #[.slice A n c, .slice B m k] 25)).al (.cells #[.int .i64 x1, .int .i64 x2] 27)).al (.cells #[.int .i64 y1, .int .i64 y2] 27)).bl hb1)
  have D0_2 := Lib.hid ((((show Whole (w.alloc (.cells #[.slice A n c, .slice B m k] 25)) (w.heap.size) (25) ([.slice A n c, .slice B m k]) from Whole.new2 (by first | rfl | simp)).al (.cells #[.int .i64 x1, .int .i64 x2] 27)).al (.cells #[.int .i64 y1, .int .i64 y2] 27)).bl hb1)
  have X_2 := Lib.hid (((show Whole ((w.alloc (.cells #[.slice A n c, .slice B m k] 25)).alloc (.cells #[.int .i64 x1, .int .i64 x2] 27)) ((w.heap.size + 1)) (27) ([.int .i64 x1, .int .i64 x2]) from Whole.new2 (by first | rfl | simp)).al (.cells #[.int .i64 y1, .int .i64 y2] 27)).bl hb1)
  have Y_2 := Lib.hid ((show Whole (((w.alloc (.cells #[.slice A n c, .slice B m k] 25)).alloc (.cells #[.int .i64 x1, .int .i64 x2] 27)).alloc (.cells #[.int .i64 y1, .int .i64 y2] 27)) ((w.heap.size + 1 + 1)) (27) ([.int .i64 y1, .int .i64 y2]) from Whole.new2 (by first | rfl | simp)).bl hb1)
  have Bel_2 := Lib.hid (bel_bl (bel_al (bel_al (bel_al (Below.refl _ w) (.cells #[.slice A n c, .slice B m k] 25)) (.cells #[.int .i64 x1, .int .i64 x2] 27)) (.cells #[.int .i64 y1, .int .i64 y2] 27)) hb1)
  clear HDa
  clear hb1
  have LO_D0_3 : RowKit.Hid (w.heap.size ≤ w.heap.size) := Lib.hid (by omega)
  have LO_X_4 : RowKit.Hid (w.heap.size ≤ (w.heap.size + 1)) := Lib.hid (by omega)
  have NE_D0_X : RowKit.Hid (w.heap.size ≠ (w.heap.size + 1)) := Lib.hid (by omega)
  have LO_Y_5 : RowKit.Hid (w.heap.size ≤ (w.heap.size + 1 + 1)) := Lib.hid (by omega)
  have NE_D0_Y : RowKit.Hid (w.heap.size ≠ (w.heap.size + 1 + 1)) := Lib.hid (by omega)
  have NE_X_Y : RowKit.Hid ((w.heap.size + 1) ≠ (w.heap.size + 1 + 1)) := Lib.hid (by omega)
  have lw6 : (w1).cell? ⟨w.heap.size, 0, none⟩ = some (.slice A n c) := D0_2.out.cell (i := 0) rfl
  have lw7 : (w1).cell? ⟨w.heap.size, 1, none⟩ = some (.slice B m k) := D0_2.out.cell (i := 1) rfl
  go_wp2_with fail
  clear lw6 lw7
  refine (HFo.out _ Da_2.out).mono ?_
  rintro e w8 ⟨rfl, hb8⟩
  have Da_9 := Lib.hid (Da_2.out.bl hb8)
  have D0_9 := Lib.hid (D0_2.out.bl hb8)
  have X_9 := Lib.hid (X_2.out.bl hb8)
  have Y_9 := Lib.hid (Y_2.out.bl hb8)
  have Bel_9 := Lib.hid (bel_bl Bel_2.out hb8)
  clear Da_2 D0_2 X_2 Y_2 Bel_2
  clear hb8
  by_cases hfo : fo = false
  · subst hfo
    go_wp2
    go_ret
    exact ⟨rfl, Bel_9.out⟩
  obtain rfl : fo = true := by simpa using hfo
  have HFm : RowKit.Hid (Formed Vs Es) := Lib.hid ((form0 Vs Es).1 (eq_of_beq Gfo.out))
  have Hsm := Lib.hid (HFm.out.small Da_9.out)
  have Hlv : RowKit.Hid (Vs.length = n) := Lib.hid (Da_9.out.v.rlen vC_len (by decide))
  have Hlw : RowKit.Hid (Es.length = m) := Lib.hid (Da_9.out.e.rlen eC_len (by decide))
  have hn24 : n ≤ 24 := Hsm.out.1
  have hm40 : m ≤ 40 := Hsm.out.2.1
  have HWd : RowKit.Hid (∀ v ∈ Vs, ∀ d ∈ v.2.1.2.2.2, wfD d) := Lib.hid HGd.out.v
  have Hr0 : RowKit.Hid (∀ x ∈ Vs, x.2.1.2.1 ≤ 1000000) := Lib.hid (fun x hx => by have := Hsm.out.2.2 x hx; omega)
  clear hfo HFo Gfo
  have HCl : RowKit.Hid (∀ W, DgIn W A n c Vs B m k Es → Calls Try.prog 33 #[.agg #[.slice A n c, .slice B m k]] W fun e w' => ∃ A' c' B' k' Ws, e = .returned (.agg #[.slice A' n c', .slice B' m k']) ∧ ClS w' W.heap.size A' n c' Ws B' m k' Es ∧ Ws.map vS = Vs.map vS ∧ Below W.heap.size W w') := Lib.hid (fun W h => rclone_any A n c Vs B m k Es W h (by omega) (by omega) Hr0.out)
  have HDd := Lib.hid (Da_9.out)
  have HXd := Lib.hid (D0_9.out)
  have HXx := Lib.hid (X_9.out)
  have HXy := Lib.hid (Y_9.out)
  have HBd := Lib.hid (Bel_9.out)
  have lw10 : (w8).cell? ⟨w.heap.size, 0, none⟩ = some (.slice A n c) := D0_9.out.cell (i := 0) rfl
  have lw11 : (w8).cell? ⟨w.heap.size, 1, none⟩ = some (.slice B m k) := D0_9.out.cell (i := 1) rfl
  go_wp2_with fail
  clear lw10 lw11 Da_9 D0_9 X_9 Y_9 Bel_9
  refine (HCl.out _ HDd.out).mono ?_
  rintro e w7 ⟨A2, c2, B2, k2, Us, rfl, hcl, hsm, hb7⟩
  have HM7 := Lib.hid (hcl.wro.al (.cells #[.slice A2 n c2, .slice B2 m k2] 25))
  have HZ7 := Lib.hid (bel_al hb7 (.cells #[.slice A2 n c2, .slice B2 m k2] 25))
  have H97 := Lib.hid (Whole.new2 (w := w7) (t := 25) (cs := [.slice A2 n c2, .slice B2 m k2]) rfl)
  have HU7 : RowKit.Hid (Us.map vS = (Vs.take 0).map gB ++ (Vs.drop 0).map vS) := Lib.hid (by rw [hsm]; rfl)
  have L9 : RowKit.Hid (w8.heap.size ≤ w7.heap.size) := Lib.hid hb7.size
  clear hcl hsm hb7
  go_wp2
  obtain ⟨wm8, gwm8⟩ : ∃ z, w7.alloc (.cells #[.slice A2 n c2, .slice B2 m k2] 25) = z := ⟨_, rfl⟩
  obtain ⟨b9, gb9⟩ : ∃ z, w7.heap.size = z := ⟨_, rfl⟩
  rw [gwm8] at HM7 HZ7 H97 ⊢
  rw [gb9] at H97 L9 ⊢
  clear gwm8 gb9 HCl
  obtain ⟨i0, hi, hz0, hz1, hz2⟩ := info_partsD info_dartc
  go_loopw [10] (fun si wr => ∃ (j : Nat) (Us : List VC), j ≤ n ∧ si = .int .i64 j ∧ RowKit.Hid (Below w8.heap.size w8 wr) ∧ RowKit.Hid (Whole wr b9 25 [.slice A2 n c2, .slice B2 m k2]) ∧ RowKit.Hid (Wro wr w8.heap.size A2 n c2 Us B2 m k2 Es) ∧ RowKit.Hid (Us.map vS = (Vs.take j).map gB ++ (Vs.drop j).map vS)) (fun si _ => n - (intOf si).toNat)
  case atStart => exact ⟨0, Us, by omega, rfl, HZ7, H97, HM7, HU7⟩
  case round =>
    clear HZ7 H97 HM7 HU7
    obtain ⟨j, Us, hj, rfl, HZ, H9, HM, HU⟩ := hrel
    obtain ⟨wo, gwo⟩ : ∃ z, wr = z := ⟨_, rfl⟩
    rw [gwo] at HZ H9 HM ⊢
    clear gwo
    have cb := H9.out.cell (i := 0) rfl
    by_cases hjn : j < n
    · obtain ⟨v, hv⟩ : ∃ v, Vs[j]? = some v := ⟨_, List.getElem?_eq_getElem (by have := Hlv.out; omega)⟩
      obtain ⟨u, hu, huv⟩ : ∃ u, Us[j]? = some u ∧ vS u = vS v := by
        have h1 : (Us.map vS)[j]? = some (vS v) := by
          rw [HU.out, List.getElem?_append_right (by simp; omega)]
          simp only [List.length_map, List.length_take]
          rw [show j - min j Vs.length = 0 by have := Hlv.out; omega, List.getElem?_map, List.getElem?_drop, Nat.add_zero, hv]
          rfl
        rw [List.getElem?_map] at h1
        cases hq : Us[j]? with
        | none => rw [hq] at h1; cases h1
        | some y => rw [hq] at h1; exact ⟨y, rfl, Option.some.inj h1⟩
      have hul : u.2.1.2.2.2 = v.2.1.2.2.2 := congrArg (fun s : (Int × Int) × List D × ByteArray × Int => s.2.1) huv
      have hrn : u.2.1.2.1 ≤ 80 := by
        have h1 := (HDd.out.r v (List.mem_of_getElem? hv)).2.dlen
        have h2 := Hsm.out.2.2 v (List.mem_of_getElem? hv)
        have h3 := (HM.out.r u (List.mem_of_getElem? hu)).2.dlen
        rw [hul] at h3
        omega
      have hset : ∀ (A9 : Option Addr) (c9 : Nat), (Us.set j (setLab (u.1, (A9, (bkL u.2.1.2.2.2).length, c9, bkL u.2.1.2.2.2), u.2.2) { data := #[97] })).map vS = (Vs.take (j + 1)).map gB ++ (Vs.drop (j + 1)).map vS := fun A9 c9 => by
        rw [List.map_set, HU.out]
        have e : vS (setLab (u.1, (A9, (bkL u.2.1.2.2.2).length, c9, bkL u.2.1.2.2.2), u.2.2) { data := #[97] }) = gB v := by
          have e1 : u.1 = v.1 := congrArg (fun s : (Int × Int) × List D × ByteArray × Int => s.1) huv
          have e4 : u.2.2.2 = v.2.2.2 := congrArg (fun s : (Int × Int) × List D × ByteArray × Int => s.2.2.2) huv
          show (u.1, bkL u.2.1.2.2.2, _, u.2.2.2) = _
          rw [e1, hul, e4]
          rfl
        rw [e]
        exact half_set gB vS hv
      obtain ⟨⟨i1, i2⟩, ⟨rA, rn, rc, rL⟩, lb, at_⟩ := u
      have HSet : RowKit.Hid (∀ (A9 : Option Addr) (c9 : Nat), (Us.set j (setLab ((i1, i2), (A9, (bkL rL).length, c9, bkL rL), lb, at_) { data := #[97] })).map vS = (Vs.take (j + 1)).map gB ++ (Vs.drop (j + 1)).map vS) := Lib.hid hset
      replace hrn : rn ≤ 80 := hrn
      have hRu := HM.out.r _ (List.mem_of_getElem? hu)
      obtain ⟨gm, eA2, hlo, -, hc, hf, -⟩ := HM.out.put hu hjn (rA, rn, rc, rL) hRu
      subst eA2
      replace hc : wo.cell? ⟨gm, j * 5 + 2, none⟩ = some (.slice rA rn rc) := hc
      have HRu : RowKit.Hid (RdS wo wo.heap.size 3 rA rn rc (dartsV rL)) := Lib.hid hRu.2
      have Hrl : RowKit.Hid (rL.length = rn) := Lib.hid hRu.2.dlen
      have Hu := Lib.hid hu
      have HO0 : RowKit.Hid (Ow wo wo.heap.size 29 3 (.slice (some ⟨wo.heap.size, 0, none⟩) 0 0) (rn - rn) (dartsV (rL.drop rn).reverse) (wo.alloc (.cells #[] 29))) := by
        rw [Nat.sub_self, List.drop_eq_nil_of_le (by have := Hrl.out; omega)]
        exact Lib.hid (Ow.new_ (cs := #[]) (Below.refl _ _) (Nat.le_refl _) (Nat.le_refl _) (Nat.zero_le _) rfl)
      have hw1 : IntKind.i64.wrap ((rn : Int) - 1) = (rn : Int) - 1 := IntWalk.i64_in _ (by omega)
      clear hv hu huv hul hset hRu hf HU
      go_wp2
      clear cb hc
      go_loopw [12, 13] (fun sb sk wr => ∃ p : Nat, p ≤ rn ∧ sk = .int .i64 ((p : Int) - 1) ∧ RowKit.Hid (Ow wo wo.heap.size 29 3 sb (rn - p) (dartsV (rL.drop p).reverse) wr)) (fun _ sk _ => (intOf sk + 1).toNat)
      case atStart => exact ⟨rn, Nat.le_refl _, rfl, HO0⟩
      case round =>
        clear HO0 hw1
        obtain ⟨p, hp, rfl, HO⟩ := hrel
        cases p with
        | succ q =>
          rw [show (((q + 1 : Nat) : Int) - 1) = (q : Int) by omega]
          obtain ⟨b, of2, rfl, hb, hcc⟩ := (HRu.out.up HO.out.below HO.out.below.size).darts (by omega)
          have hql : q < rL.length := by have := Hrl.out; omega
          obtain ⟨d1, d2, d3⟩ := hcc q hql
          obtain ⟨x, gx⟩ : ∃ v, rL.getD q (0, 0, 0) = v := ⟨_, rfl⟩
          have gx2 : rL[q]? = some x := by rw [← gx, List.getD_eq_getElem?_getD, List.getElem?_eq_getElem hql]; rfl
          rw [gx] at d1 d2 d3
          have HBk := Lib.hid (back_step gx2)
          have hq0 : decide ((0 : Int) ≤ (q : Int)) = true := decide_eq_true (by omega)
          have hq1 : IntKind.i64.wrap ((q : Int) - 1) = (q : Int) - 1 := IntWalk.i64_in _ (by omega)
          have hqn : q < rn := by omega
          clear hb hcc gx gx2 hql
          go_wp2_with (first
            | (at_builtin
               refine wpList_push rfl (.tmp 43) (.tmp 48) _ rfl _ 29 i0 _ 3 24 Try.underlying35 hi hz0 hz1 hz2 rfl (by decide) _ _ _ rfl (by exact HO.out.up (below1 _ _)) _ (some ⟨wr.heap.size, 0, none⟩) 1 1 (dartsV [x]) rfl (by exact RdS.whole3 (L := [x]) (Whole.new_ _ _ _)) (dartsV_one [x]) (by unfold maxLen; omega) (by omega) ?_
               intro v1 w1 how1 hb1
               have HO1 := Lib.hid how1
               clear how1 hb1))
          go_roundw
          case rel =>
            refine ⟨q, by omega, by go_num, ?_⟩
            rw [HBk.out, dartsV_app, show rn - q = rn - (q + 1) + 1 by omega]
            exact HO1
          case measure => simp [intOf] <;> omega
        | zero =>
          have hq0 : decide ((0 : Int) ≤ ((0 : Nat) : Int) - 1) = false := by decide
          rw [show (((0 : Nat) : Int) - 1) = (-1 : Int) from rfl]
          obtain ⟨Ab, cb9, rfl, hrb⟩ := HO.out.rds
          rw [List.drop_zero, Nat.sub_zero] at hrb
          have HRb := Lib.hid hrb
          have HBl := Lib.hid HO.out.below
          have HRm : RowKit.Hid (∀ W, RdS W W.heap.size 3 Ab rn cb9 (dartsV rL.reverse) → Calls Try.prog 35 #[.slice Ab rn cb9] W (GivesC W (bkL rL))) := Lib.hid (fun W h => rfturnc_any Ab rn cb9 rL.reverse W h (by omega))
          have HM1 := Lib.hid (HM.out.bl HO.out.below)
          have H91 := Lib.hid (H9.out.bl HO.out.below)
          have HZ1 := Lib.hid (bel_bl HZ.out HO.out.below)
          obtain ⟨L9, gL9⟩ : ∃ z, bkL rL = z := ⟨_, rfl⟩
          rw [gL9] at HRm HSet
          obtain ⟨wq, gwq⟩ : ∃ z, wr = z := ⟨_, rfl⟩
          rw [gwq] at HRb HM1 H91 HZ1 ⊢
          clear hrb HO gL9 gwq HBl
          go_upto_region 15 with fail
          have ld0 : ∀ w', Kept Nil_ wq.drew w' → w'.cell? ⟨b9, 0, none⟩ = some (.slice (some ⟨gm, 0, none⟩) n c2) := fun w' h => h.nil_cell (H91.out.dr.cell (i := 0) rfl)
          have HRq := Lib.hid HRb.out.dr
          refine wp_region_tail (Nil_) [7] (by kernel_rfl) ?_
          apply wpT_next 0 (some 50) (by kernel_rfl)
          · simp only [List.getElem?_toArray, List.getElem?_cons_succ, List.getElem?_cons_zero]; exact rfl
          · rfl
          · kernel_rfl
          · kernel_rfl
          · kernel_rfl
          · exact fun _ _ _ _ h => h
          apply Exists.intro
          apply And.intro
          · apply yr_run; rfl; intro w' hw'; go_simp; (try with_reducible rfl)
          simp only [Act.put, List.setIfInBounds_toArray, List.set_cons_zero, List.set_cons_succ]
          apply wpT_next 1 (some 51) (by kernel_rfl)
          · simp only [List.getElem?_toArray, List.getElem?_cons_succ, List.getElem?_cons_zero]; exact rfl
          · rfl
          · kernel_rfl
          · kernel_rfl
          · kernel_rfl
          · exact fun _ _ _ _ h => h
          apply Exists.intro
          apply And.intro
          · apply yr_run; rfl; intro w' hw'; go_simp; (try with_reducible rfl)
          simp only [Act.put, List.setIfInBounds_toArray, List.set_cons_zero, List.set_cons_succ]
          apply wpT_next 2 (some 52) (by kernel_rfl)
          · simp only [List.getElem?_toArray, List.getElem?_cons_succ, List.getElem?_cons_zero]; exact rfl
          · rfl
          · kernel_rfl
          · kernel_rfl
          · kernel_rfl
          · exact fun _ _ _ _ h => h
          apply Exists.intro
          apply And.intro
          · apply yr_run; rfl; intro w' hw'; go_simp; (try with_reducible rfl)
          simp only [Act.put, List.setIfInBounds_toArray, List.set_cons_zero, List.set_cons_succ]
          apply wpT_next 3 (some 53) (by kernel_rfl)
          · simp only [List.getElem?_toArray, List.getElem?_cons_succ, List.getElem?_cons_zero]; exact rfl
          · rfl
          · kernel_rfl
          · kernel_rfl
          · kernel_rfl
          · exact fun _ _ _ _ h => h
          apply Exists.intro
          apply And.intro
          · apply yr_run; rfl; intro w' hw'; go_simp; (try with_reducible rfl)
          simp only [Act.put, List.setIfInBounds_toArray, List.set_cons_zero, List.set_cons_succ]
          apply wpT_call 4 (some 54)
          · simp only [List.getElem?_toArray, List.getElem?_cons_succ, List.getElem?_cons_zero]; exact rfl
          · rfl
          · kernel_rfl
          · rfl
          · intro w'; go_simp; first | done | exact ⟨rfl, rfl⟩ | with_reducible rfl
          intro w' hw'
          refine (HRm.out w' (HRq.out.bl hw')).mono ?_
          rintro e w9 ⟨A9, c9, rfl, hr9, hb9, hc9⟩
          refine ⟨_, rfl, Kept.of_below hb9, ?_⟩
          have H99 := Lib.hid ((H91.out.dr.bl hw').bl hb9)
          have HM9 := Lib.hid ((HM1.out.dr.bl hw').bl hb9)
          have HZ9 := Lib.hid (bel_bl (bel_bl (bel_dr HZ1.out) hw') hb9)
          have HR9 : RowKit.Hid (RgOk w9 (A9, L9.length, c9, L9)) := Lib.hid ⟨hc9, hr9⟩
          obtain ⟨V9, gV9⟩ : ∃ z, w9 = z := ⟨_, rfl⟩
          rw [gV9] at H99 HM9 HZ9 HR9 ⊢
          clear hw' hr9 hb9 hc9 gV9 ld0 HRm HRq H91 HM1 HZ1 HRb
          simp only [Act.put, List.setIfInBounds_toArray, List.set_cons_zero, List.set_cons_succ]
          apply wpT_run 5 (some 55)
          · simp only [List.getElem?_toArray, List.getElem?_cons_succ, List.getElem?_cons_zero]; exact rfl
          · rfl
          · kernel_rfl
          · rfl
          intro w' hw'
          apply Exists.intro
          apply Exists.intro
          apply And.intro
          · go_simp; first | done | exact ⟨rfl, rfl⟩ | exact rfl
          apply And.intro
          · exact Kept.refl _ _
          have hpd5 := hw'
          clear hw'
          simp only [Act.put, List.setIfInBounds_toArray, List.set_cons_zero, List.set_cons_succ]
          apply wpT_next 6 (some 56) (by kernel_rfl)
          · simp only [List.getElem?_toArray, List.getElem?_cons_succ, List.getElem?_cons_zero]; exact rfl
          · rfl
          · kernel_rfl
          · kernel_rfl
          · kernel_rfl
          · exact fun _ _ _ _ h => h
          apply Exists.intro
          apply And.intro
          · apply yr_run; rfl; intro w' hw'; go_simp; (try with_reducible rfl)
          simp only [Act.put, List.setIfInBounds_toArray, List.set_cons_zero, List.set_cons_succ]
          apply wpT_last 7
          · simp only [List.getElem?_toArray, List.getElem?_cons_succ, List.getElem?_cons_zero]; exact rfl
          · rfl
          · kernel_rfl
          · rfl
          · decide
          intro w' hw'
          replace hw' := Ext.trans hpd5 hw'
          clear hpd5
          obtain ⟨gq, eq, hloq, ⟨csq, hwq⟩, hcq, hfq, hMq⟩ := (HM9.out.bl hw').put Hu.out hjn (A9, L9.length, c9, L9) (HR9.out.bl hw')
          obtain rfl : gm = gq := by
            injection eq with eq
            injection eq
          replace hcq : w'.cell? ⟨gm, j * 5 + 2, none⟩ = some (.slice rA rn rc) := hcq
          refine ⟨w'.setCell ⟨gm, j * 5 + 2, none⟩ (.slice A9 L9.length c9), by (go_simp; first | done | exact rfl | exact ⟨rfl, rfl⟩), ?_⟩
          have HMs : RowKit.Hid (Wro (w'.setCell ⟨gm, j * 5 + 2, none⟩ (.slice A9 L9.length c9)) w8.heap.size (some ⟨gm, 0, none⟩) n c2 (Us.set j ((i1, i2), (A9, L9.length, c9, L9), lb, at_)) B2 m k2 Es) := Lib.hid hMq
          have H9s := Lib.hid ((H99.out.bl hw').set_far' (i := j * 5 + 2) ((H99.out.bl hw').ne_ hwq (by decide)) (.slice A9 L9.length c9))
          have HZs := Lib.hid ((bel_bl HZ9.out hw').setCell (p := ⟨gm, j * 5 + 2, none⟩) hlo (.slice A9 L9.length c9))
          obtain ⟨W7, gW7⟩ : ∃ z, w'.setCell ⟨gm, j * 5 + 2, none⟩ (.slice A9 L9.length c9) = z := ⟨_, rfl⟩
          rw [gW7] at HMs H9s HZs ⊢
          clear hw' eq hloq hwq hcq hfq hMq gW7 H99 HM9 HZ9 HR9
          try simp only [Act.put, List.setIfInBounds_toArray, List.set_cons_zero, List.set_cons_succ]
          refine wpT_done (by kernel_rfl) ?_ _
          intro W8 hw8
          have HM8 := Lib.hid (HMs.out.bl hw8)
          have H98 := Lib.hid (H9s.out.bl hw8)
          have HZ8 := Lib.hid (bel_bl HZs.out hw8)
          clear hw8 HMs H9s HZs
          have hu8 : (Us.set j ((i1, i2), (A9, L9.length, c9, L9), lb, at_))[j]? = some ((i1, i2), (A9, L9.length, c9, L9), lb, at_) := by
            rw [List.getElem?_set, if_pos rfl, if_pos (List.getElem?_eq_some_iff.1 Hu.out).1]
          obtain ⟨gq, eq, hloq, ⟨csq, hwq⟩, hcq, hfq, hMq⟩ := HM8.out.lab hu8 hjn { data := #[97] }
          obtain rfl : gm = gq := by
            injection eq with eq
            injection eq
          rw [List.set_set] at hMq
          replace hcq : W8.cell? ⟨gm, j * 5 + 3, none⟩ = some (.string lb) := hcq
          have cb := H98.out.cell (i := 0) rfl
          have H9t := Lib.hid (H98.out.set_far' (i := j * 5 + 3) (H98.out.ne_ hwq (by decide)) (.string { data := #[97] }))
          have HZt := Lib.hid (HZ8.out.setCell (p := ⟨gm, j * 5 + 3, none⟩) hlo (.string { data := #[97] }))
          have HMt := Lib.hid hMq
          clear hu8 eq hloq hwq hMq HM8 H98 HZ8
          go_wp2
          go_roundw
          case rel => exact ⟨j + 1, _, by omega, by go_num, HZt, H9t, HMt, Lib.hid (HSet.out _ _)⟩
          case measure => simp [intOf] <;> omega
    · obtain rfl : n = j := by omega
      clear cb
      have hUs : Us.map vS = Vs.map gB := by
        rw [HU.out, List.take_of_length_le (by have := Hlv.out; omega), List.drop_eq_nil_of_le (by have := Hlv.out; omega)]
        simp
      have hln : Us.length = Vs.length := by
        have := congrArg List.length hUs
        simpa using this
      have hnm : Us.map (·.1) = Vs.map (·.1) := by
        have h1 := congrArg (List.map (fun s : (Int × Int) × List D × ByteArray × Int => s.1)) hUs
        rw [List.map_map, List.map_map] at h1
        exact h1
      have hlb : labF Us = labF Vs := labF_same hln (ats_back gB (fun _ => rfl) hUs)
      have htg : ∀ x y, togF Us x y = togF Vs x y := togF_same hnm hlb
      have hmem : ∀ u ∈ Us, ∃ v ∈ Vs, u.2.1.2.2.2 = bkL v.2.1.2.2.2 := fun u hu => by
        obtain ⟨i, hi⟩ := List.getElem?_of_mem hu
        have h1 : (Us.map vS)[i]? = some (vS u) := by rw [List.getElem?_map, hi]; rfl
        rw [hUs, List.getElem?_map] at h1
        cases hv : Vs[i]? with
        | none => rw [hv] at h1; cases h1
        | some v =>
          rw [hv] at h1
          exact ⟨v, List.mem_of_getElem? hv, (congrArg (fun s : (Int × Int) × List D × ByteArray × Int => s.2.1) (Option.some.inj h1)).symm⟩
      have hwdm : ∀ u ∈ Us, ∀ d ∈ u.2.1.2.2.2, wfD d := fun u hu d hd => by
        obtain ⟨v, hv, e⟩ := hmem u hu
        rw [e, bkL_mem] at hd
        exact HWd.out v hv d hd
      have hr0m : ∀ u ∈ Us, u.2.1.2.1 ≤ 1000000 := fun u hu => by
        obtain ⟨v, hv, e⟩ := hmem u hu
        have h1 := (HM.out.r u hu).2.dlen
        rw [e, bkL_len] at h1
        have h2 := (HDd.out.r v hv).2.dlen
        have h3 := Hsm.out.2.2 v hv
        omega
      obtain ⟨L, gL⟩ : ∃ z, labF Vs = z := ⟨_, rfl⟩
      rw [gL] at hlb
      have HLm : RowKit.Hid (∀ W, DgIn W A2 n c2 Us B2 m k2 Es → Calls Try.prog 39 #[.agg #[.slice A2 n c2, .slice B2 m k2]] W fun e w' => ∃ g, e = .returned (.slice (some ⟨g, 0, none⟩) n n) ∧ RdS w' w'.heap.size 1 (some ⟨g, 0, none⟩) n n (rowsV n1 L) ∧ Below W.heap.size W w') := Lib.hid (fun W h => by
        refine (labels_any A2 n c2 Us B2 m k2 Es W h (by omega) hr0m hwdm).mono ?_
        rintro e w' ⟨g, rfl, ho, hb⟩
        rw [hlb] at ho
        exact ⟨g, rfl, own_rds ho, hb⟩)
      have HLd : RowKit.Hid (∀ W, DgIn W A n c Vs B m k Es → Calls Try.prog 39 #[.agg #[.slice A n c, .slice B m k]] W fun e w' => ∃ g, e = .returned (.slice (some ⟨g, 0, none⟩) n n) ∧ RdS w' w'.heap.size 1 (some ⟨g, 0, none⟩) n n (rowsV n1 L) ∧ Below W.heap.size W w') := Lib.hid (fun W h => by
        refine (labels_any A n c Vs B m k Es W h (by omega) Hr0.out HWd.out).mono ?_
        rintro e w' ⟨g, rfl, ho, hb⟩
        rw [gL] at ho
        exact ⟨g, rfl, own_rds ho, hb⟩)
      have HTm : RowKit.Hid (∀ W, DgIn W A2 n c2 Us B2 m k2 Es → Calls Try.prog 46 #[.agg #[.slice A2 n c2, .slice B2 m k2], .agg #[.int .i64 x1, .int .i64 x2], .agg #[.int .i64 y1, .int .i64 y2]] W fun e w' => e = .returned (.bool (togF Vs (x1, x2) (y1, y2))) ∧ Below W.heap.size W w') := Lib.hid (fun W h => by
        have h1 := together_any A2 n c2 Us B2 m k2 Es x1 x2 y1 y2 W h (by omega) hr0m hwdm
        rwa [htg] at h1)
      have HTd : RowKit.Hid (∀ W, DgIn W A n c Vs B m k Es → Calls Try.prog 46 #[.agg #[.slice A n c, .slice B m k], .agg #[.int .i64 x1, .int .i64 x2], .agg #[.int .i64 y1, .int .i64 y2]] W fun e w' => e = .returned (.bool (togF Vs (x1, x2) (y1, y2))) ∧ Below W.heap.size W w') := Lib.hid (fun W h => together_any A n c Vs B m k Es x1 x2 y1 y2 W h (by omega) Hr0.out HWd.out)
      have HTe : RowKit.Hid (∀ W, DgIn W A n c Vs B m k Es → Calls Try.prog 46 #[.agg #[.slice A n c, .slice B m k], .agg #[.int .i64 y1, .int .i64 y2], .agg #[.int .i64 x1, .int .i64 x2]] W fun e w' => e = .returned (.bool (togF Vs (x1, x2) (y1, y2))) ∧ Below W.heap.size W w') := Lib.hid (fun W h => by
        have h1 := together_any A n c Vs B m k Es y1 y2 x1 x2 W h (by omega) Hr0.out HWd.out
        rwa [togF_comm] at h1)
      obtain ⟨tb, gtb⟩ : ∃ z, togF Vs (x1, x2) (y1, y2) = z := ⟨_, rfl⟩
      rw [gtb] at HTm HTd HTe
      have HDm := Lib.hid HM.out.dg
      have HDz := Lib.hid (HDd.out.bl HZ.out)
      have HXz := Lib.hid (HXd.out.bl HZ.out)
      have HXu := Lib.hid (HXx.out.bl HZ.out)
      have HXv := Lib.hid (HXy.out.bl HZ.out)
      have htt : (tb == tb) = true := by simp
      clear hUs hln hnm hlb htg hmem hwdm hr0m gL gtb HU HM
      have lw901 : (wo).cell? ⟨b9, 0, none⟩ = some (.slice A2 n c2) := H9.out.cell (i := 0) rfl
      go_upto_region 17 with fail
      clear lw901
      have Da_902 := Lib.hid (HDz.out.dr)
      have Dm_902 := Lib.hid (HDm.out.dr)
      have D0_902 := Lib.hid (HXz.out.dr)
      have X_902 := Lib.hid (HXu.out.dr)
      have Y_902 := Lib.hid (HXv.out.dr)
      have M9_902 := Lib.hid (H9.out.dr)
      have Bel_902 := Lib.hid (bel_dr HZ.out)
      have ld903 : ∀ w', Kept Nil_ wo.drew w' → w'.cell? ⟨w.heap.size, 0, none⟩ = some (.slice A n c) := fun w' h => h.nil_cell (D0_902.out.cell (i := 0) rfl)
      have ld904 : ∀ w', Kept Nil_ wo.drew w' → w'.cell? ⟨w.heap.size, 1, none⟩ = some (.slice B m k) := fun w' h => h.nil_cell (D0_902.out.cell (i := 1) rfl)
      have ld905 : ∀ w', Kept Nil_ wo.drew w' → w'.cell? ⟨w.heap.size + 1, 0, none⟩ = some (.int .i64 x1) := fun w' h => h.nil_cell (X_902.out.cell (i := 0) rfl)
      have ld906 : ∀ w', Kept Nil_ wo.drew w' → w'.cell? ⟨w.heap.size + 1, 1, none⟩ = some (.int .i64 x2) := fun w' h => h.nil_cell (X_902.out.cell (i := 1) rfl)
      have ld907 : ∀ w', Kept Nil_ wo.drew w' → w'.cell? ⟨w.heap.size + 2, 0, none⟩ = some (.int .i64 y1) := fun w' h => h.nil_cell (Y_902.out.cell (i := 0) rfl)
      have ld908 : ∀ w', Kept Nil_ wo.drew w' → w'.cell? ⟨w.heap.size + 2, 1, none⟩ = some (.int .i64 y2) := fun w' h => h.nil_cell (Y_902.out.cell (i := 1) rfl)
      have ld909 : ∀ w', Kept Nil_ wo.drew w' → w'.cell? ⟨b9, 0, none⟩ = some (.slice A2 n c2) := fun w' h => h.nil_cell (M9_902.out.cell (i := 0) rfl)
      have ld910 : ∀ w', Kept Nil_ wo.drew w' → w'.cell? ⟨b9, 1, none⟩ = some (.slice B2 m k2) := fun w' h => h.nil_cell (M9_902.out.cell (i := 1) rfl)
      refine wp_region_reg Nil_ (by kernel_rfl) ?_
      apply wpR_next 0 (some 62)
      · simp only [List.getElem?_toArray, List.getElem?_cons_succ, List.getElem?_cons_zero]; exact rfl
      · rfl
      · kernel_rfl
      · kernel_rfl
      · kernel_rfl
      · exact fun _ _ _ _ h => h
      apply Exists.intro
      apply And.intro
      · apply yr_run; rfl; intro w' hw'; go_simp; (try with_reducible rfl)
      simp only [Act.put, List.setIfInBounds_toArray, List.set_cons_zero, List.set_cons_succ]
      apply wpR_next 1 (some 63)
      · simp only [List.getElem?_toArray, List.getElem?_cons_succ, List.getElem?_cons_zero]; exact rfl
      · rfl
      · kernel_rfl
      · kernel_rfl
      · kernel_rfl
      · exact fun _ _ _ _ h => h
      apply Exists.intro
      apply And.intro
      · apply yr_run; rfl; intro w' hw'; go_simp; (try with_reducible rfl)
      simp only [Act.put, List.setIfInBounds_toArray, List.set_cons_zero, List.set_cons_succ]
      apply wpR_next 2 (some 64)
      · simp only [List.getElem?_toArray, List.getElem?_cons_succ, List.getElem?_cons_zero]; exact rfl
      · rfl
      · kernel_rfl
      · kernel_rfl
      · kernel_rfl
      · exact fun _ _ _ _ h => h
      apply Exists.intro
      apply And.intro
      · apply yr_run; rfl; intro w' hw'; go_simp; (try with_reducible rfl)
      simp only [Act.put, List.setIfInBounds_toArray, List.set_cons_zero, List.set_cons_succ]
      apply wpR_next 4 (some 66)
      · simp only [List.getElem?_toArray, List.getElem?_cons_succ, List.getElem?_cons_zero]; exact rfl
      · rfl
      · kernel_rfl
      · kernel_rfl
      · kernel_rfl
      · exact fun _ _ _ _ h => h
      apply Exists.intro
      apply And.intro
      · apply yr_run; rfl; intro w' hw'; go_simp; (try with_reducible rfl)
      simp only [Act.put, List.setIfInBounds_toArray, List.set_cons_zero, List.set_cons_succ]
      apply wpR_call 3 (some 65)
      · simp only [List.getElem?_toArray, List.getElem?_cons_succ, List.getElem?_cons_zero]; exact rfl
      · rfl
      · kernel_rfl
      · rfl
      · intro w'; go_simp; first | done | exact ⟨rfl, rfl⟩ | with_reducible rfl
      intro w' hw'
      refine (HLm.out _ (Dm_902.out.bl hw')).mono ?_
      rintro e w911 ⟨g3, rfl, hr3, hb911⟩
      have Da_911 := Lib.hid ((Da_902.out.bl hw').bl hb911)
      have Dm_911 := Lib.hid ((Dm_902.out.bl hw').bl hb911)
      have D0_911 := Lib.hid ((D0_902.out.bl hw').bl hb911)
      have X_911 := Lib.hid ((X_902.out.bl hw').bl hb911)
      have Y_911 := Lib.hid ((Y_902.out.bl hw').bl hb911)
      have M9_911 := Lib.hid ((M9_902.out.bl hw').bl hb911)
      have Bel_911 := Lib.hid (bel_bl (bel_bl Bel_902.out hw') hb911)
      have ld912 := fun w'' (h : Kept Nil_ w911 w'') => ld903 w'' ((Kept.of_ext hw').trans ((Kept.of_below hb911).trans h))
      have ld913 := fun w'' (h : Kept Nil_ w911 w'') => ld904 w'' ((Kept.of_ext hw').trans ((Kept.of_below hb911).trans h))
      have ld914 := fun w'' (h : Kept Nil_ w911 w'') => ld905 w'' ((Kept.of_ext hw').trans ((Kept.of_below hb911).trans h))
      have ld915 := fun w'' (h : Kept Nil_ w911 w'') => ld906 w'' ((Kept.of_ext hw').trans ((Kept.of_below hb911).trans h))
      have ld916 := fun w'' (h : Kept Nil_ w911 w'') => ld907 w'' ((Kept.of_ext hw').trans ((Kept.of_below hb911).trans h))
      have ld917 := fun w'' (h : Kept Nil_ w911 w'') => ld908 w'' ((Kept.of_ext hw').trans ((Kept.of_below hb911).trans h))
      have ld918 := fun w'' (h : Kept Nil_ w911 w'') => ld909 w'' ((Kept.of_ext hw').trans ((Kept.of_below hb911).trans h))
      have ld919 := fun w'' (h : Kept Nil_ w911 w'') => ld910 w'' ((Kept.of_ext hw').trans ((Kept.of_below hb911).trans h))
      refine ⟨_, rfl, Kept.of_below hb911, ?_⟩
      clear hw' hb911
      have R3_911 := Lib.hid hr3
      clear hr3
      simp only [Act.put, List.setIfInBounds_toArray, List.set_cons_zero, List.set_cons_succ]
      apply wpR_call 5 (some 67)
      · simp only [List.getElem?_toArray, List.getElem?_cons_succ, List.getElem?_cons_zero]; exact rfl
      · rfl
      · kernel_rfl
      · rfl
      · intro w'; go_simp; first | done | exact ⟨rfl, rfl⟩ | with_reducible rfl
      intro w' hw'
      refine (HLd.out _ (Da_911.out.bl hw')).mono ?_
      rintro e w920 ⟨g5, rfl, hr5, hb920⟩
      have Da_920 := Lib.hid ((Da_911.out.bl hw').bl hb920)
      have Dm_920 := Lib.hid ((Dm_911.out.bl hw').bl hb920)
      have D0_920 := Lib.hid ((D0_911.out.bl hw').bl hb920)
      have X_920 := Lib.hid ((X_911.out.bl hw').bl hb920)
      have Y_920 := Lib.hid ((Y_911.out.bl hw').bl hb920)
      have M9_920 := Lib.hid ((M9_911.out.bl hw').bl hb920)
      have R3_920 := Lib.hid ((R3_911.out.bl hw').bl hb920)
      have Bel_920 := Lib.hid (bel_bl (bel_bl Bel_911.out hw') hb920)
      have ld921 := fun w'' (h : Kept Nil_ w920 w'') => ld912 w'' ((Kept.of_ext hw').trans ((Kept.of_below hb920).trans h))
      have ld922 := fun w'' (h : Kept Nil_ w920 w'') => ld913 w'' ((Kept.of_ext hw').trans ((Kept.of_below hb920).trans h))
      have ld923 := fun w'' (h : Kept Nil_ w920 w'') => ld914 w'' ((Kept.of_ext hw').trans ((Kept.of_below hb920).trans h))
      have ld924 := fun w'' (h : Kept Nil_ w920 w'') => ld915 w'' ((Kept.of_ext hw').trans ((Kept.of_below hb920).trans h))
      have ld925 := fun w'' (h : Kept Nil_ w920 w'') => ld916 w'' ((Kept.of_ext hw').trans ((Kept.of_below hb920).trans h))
      have ld926 := fun w'' (h : Kept Nil_ w920 w'') => ld917 w'' ((Kept.of_ext hw').trans ((Kept.of_below hb920).trans h))
      have ld927 := fun w'' (h : Kept Nil_ w920 w'') => ld918 w'' ((Kept.of_ext hw').trans ((Kept.of_below hb920).trans h))
      have ld928 := fun w'' (h : Kept Nil_ w920 w'') => ld919 w'' ((Kept.of_ext hw').trans ((Kept.of_below hb920).trans h))
      refine ⟨_, rfl, Kept.of_below hb920, ?_⟩
      clear hw' hb920
      have R5_920 := Lib.hid hr5
      clear hr5
      simp only [Act.put, List.setIfInBounds_toArray, List.set_cons_zero, List.set_cons_succ]
      apply wpR_call 6 (some 68)
      · simp only [List.getElem?_toArray, List.getElem?_cons_succ, List.getElem?_cons_zero]; exact rfl
      · rfl
      · kernel_rfl
      · rfl
      · intro w'; go_simp; first | done | exact ⟨rfl, rfl⟩ | with_reducible rfl
      intro w' hw'
      refine (ints_eq _ _ n n n L _ (R3_920.out.bl hw') (R5_920.out.bl hw') (by omega)).mono ?_
      rintro e w929 ⟨rfl, hb929⟩
      have Da_929 := Lib.hid ((Da_920.out.bl hw').bl hb929)
      have Dm_929 := Lib.hid ((Dm_920.out.bl hw').bl hb929)
      have D0_929 := Lib.hid ((D0_920.out.bl hw').bl hb929)
      have X_929 := Lib.hid ((X_920.out.bl hw').bl hb929)
      have Y_929 := Lib.hid ((Y_920.out.bl hw').bl hb929)
      have M9_929 := Lib.hid ((M9_920.out.bl hw').bl hb929)
      have R3_929 := Lib.hid ((R3_920.out.bl hw').bl hb929)
      have R5_929 := Lib.hid ((R5_920.out.bl hw').bl hb929)
      have Bel_929 := Lib.hid (bel_bl (bel_bl Bel_920.out hw') hb929)
      have ld930 := fun w'' (h : Kept Nil_ w929 w'') => ld921 w'' ((Kept.of_ext hw').trans ((Kept.of_below hb929).trans h))
      have ld931 := fun w'' (h : Kept Nil_ w929 w'') => ld922 w'' ((Kept.of_ext hw').trans ((Kept.of_below hb929).trans h))
      have ld932 := fun w'' (h : Kept Nil_ w929 w'') => ld923 w'' ((Kept.of_ext hw').trans ((Kept.of_below hb929).trans h))
      have ld933 := fun w'' (h : Kept Nil_ w929 w'') => ld924 w'' ((Kept.of_ext hw').trans ((Kept.of_below hb929).trans h))
      have ld934 := fun w'' (h : Kept Nil_ w929 w'') => ld925 w'' ((Kept.of_ext hw').trans ((Kept.of_below hb929).trans h))
      have ld935 := fun w'' (h : Kept Nil_ w929 w'') => ld926 w'' ((Kept.of_ext hw').trans ((Kept.of_below hb929).trans h))
      have ld936 := fun w'' (h : Kept Nil_ w929 w'') => ld927 w'' ((Kept.of_ext hw').trans ((Kept.of_below hb929).trans h))
      have ld937 := fun w'' (h : Kept Nil_ w929 w'') => ld928 w'' ((Kept.of_ext hw').trans ((Kept.of_below hb929).trans h))
      refine ⟨_, rfl, Kept.of_below hb929, ?_⟩
      clear hw' hb929
      simp only [Act.put, List.setIfInBounds_toArray, List.set_cons_zero, List.set_cons_succ]
      apply wpR_next 7 (some 69)
      · simp only [List.getElem?_toArray, List.getElem?_cons_succ, List.getElem?_cons_zero]; exact rfl
      · rfl
      · kernel_rfl
      · kernel_rfl
      · kernel_rfl
      · exact fun _ _ _ _ h => h
      apply Exists.intro
      apply And.intro
      · apply yr_run; rfl; intro w' hw'; go_simp; (try with_reducible rfl)
      simp only [Act.put, List.setIfInBounds_toArray, List.set_cons_zero, List.set_cons_succ]
      apply wpR_next 8 (some 70)
      · simp only [List.getElem?_toArray, List.getElem?_cons_succ, List.getElem?_cons_zero]; exact rfl
      · rfl
      · kernel_rfl
      · kernel_rfl
      · kernel_rfl
      · exact fun _ _ _ _ h => h
      apply Exists.intro
      apply And.intro
      · apply yr_run; rfl; intro w' hw'; go_simp; (try with_reducible rfl)
      simp only [Act.put, List.setIfInBounds_toArray, List.set_cons_zero, List.set_cons_succ]
      apply wpR_next 9 (some 71)
      · simp only [List.getElem?_toArray, List.getElem?_cons_succ, List.getElem?_cons_zero]; exact rfl
      · rfl
      · kernel_rfl
      · kernel_rfl
      · kernel_rfl
      · exact fun _ _ _ _ h => h
      apply Exists.intro
      apply And.intro
      · apply yr_run; rfl; intro w' hw'; go_simp; (try with_reducible rfl)
      simp only [Act.put, List.setIfInBounds_toArray, List.set_cons_zero, List.set_cons_succ]
      apply wpR_next 10 (some 72)
      · simp only [List.getElem?_toArray, List.getElem?_cons_succ, List.getElem?_cons_zero]; exact rfl
      · rfl
      · kernel_rfl
      · kernel_rfl
      · kernel_rfl
      · exact fun _ _ _ _ h => h
      apply Exists.intro
      apply And.intro
      · apply yr_run; rfl; intro w' hw'; go_simp; (try with_reducible rfl)
      simp only [Act.put, List.setIfInBounds_toArray, List.set_cons_zero, List.set_cons_succ]
      apply wpR_next 11 (some 73)
      · simp only [List.getElem?_toArray, List.getElem?_cons_succ, List.getElem?_cons_zero]; exact rfl
      · rfl
      · kernel_rfl
      · kernel_rfl
      · kernel_rfl
      · exact fun _ _ _ _ h => h
      apply Exists.intro
      apply And.intro
      · apply yr_run; rfl; intro w' hw'; go_simp; (try with_reducible rfl)
      simp only [Act.put, List.setIfInBounds_toArray, List.set_cons_zero, List.set_cons_succ]
      apply wpR_next 13 (some 75)
      · simp only [List.getElem?_toArray, List.getElem?_cons_succ, List.getElem?_cons_zero]; exact rfl
      · rfl
      · kernel_rfl
      · kernel_rfl
      · kernel_rfl
      · exact fun _ _ _ _ h => h
      apply Exists.intro
      apply And.intro
      · apply yr_run; rfl; intro w' hw'; go_simp; (try with_reducible rfl)
      simp only [Act.put, List.setIfInBounds_toArray, List.set_cons_zero, List.set_cons_succ]
      apply wpR_next 14 (some 76)
      · simp only [List.getElem?_toArray, List.getElem?_cons_succ, List.getElem?_cons_zero]; exact rfl
      · rfl
      · kernel_rfl
      · kernel_rfl
      · kernel_rfl
      · exact fun _ _ _ _ h => h
      apply Exists.intro
      apply And.intro
      · apply yr_run; rfl; intro w' hw'; go_simp; (try with_reducible rfl)
      simp only [Act.put, List.setIfInBounds_toArray, List.set_cons_zero, List.set_cons_succ]
      apply wpR_next 15 (some 77)
      · simp only [List.getElem?_toArray, List.getElem?_cons_succ, List.getElem?_cons_zero]; exact rfl
      · rfl
      · kernel_rfl
      · kernel_rfl
      · kernel_rfl
      · exact fun _ _ _ _ h => h
      apply Exists.intro
      apply And.intro
      · apply yr_run; rfl; intro w' hw'; go_simp; (try with_reducible rfl)
      simp only [Act.put, List.setIfInBounds_toArray, List.set_cons_zero, List.set_cons_succ]
      apply wpR_call 12 (some 74)
      · simp only [List.getElem?_toArray, List.getElem?_cons_succ, List.getElem?_cons_zero]; exact rfl
      · rfl
      · kernel_rfl
      · rfl
      · intro w'; go_simp; first | done | exact ⟨rfl, rfl⟩ | with_reducible rfl
      intro w' hw'
      refine (HTm.out _ (Dm_929.out.bl hw')).mono ?_
      rintro e w938 ⟨rfl, hb938⟩
      have Da_938 := Lib.hid ((Da_929.out.bl hw').bl hb938)
      have Dm_938 := Lib.hid ((Dm_929.out.bl hw').bl hb938)
      have D0_938 := Lib.hid ((D0_929.out.bl hw').bl hb938)
      have X_938 := Lib.hid ((X_929.out.bl hw').bl hb938)
      have Y_938 := Lib.hid ((Y_929.out.bl hw').bl hb938)
      have M9_938 := Lib.hid ((M9_929.out.bl hw').bl hb938)
      have R3_938 := Lib.hid ((R3_929.out.bl hw').bl hb938)
      have R5_938 := Lib.hid ((R5_929.out.bl hw').bl hb938)
      have Bel_938 := Lib.hid (bel_bl (bel_bl Bel_929.out hw') hb938)
      have ld939 := fun w'' (h : Kept Nil_ w938 w'') => ld930 w'' ((Kept.of_ext hw').trans ((Kept.of_below hb938).trans h))
      have ld940 := fun w'' (h : Kept Nil_ w938 w'') => ld931 w'' ((Kept.of_ext hw').trans ((Kept.of_below hb938).trans h))
      have ld941 := fun w'' (h : Kept Nil_ w938 w'') => ld932 w'' ((Kept.of_ext hw').trans ((Kept.of_below hb938).trans h))
      have ld942 := fun w'' (h : Kept Nil_ w938 w'') => ld933 w'' ((Kept.of_ext hw').trans ((Kept.of_below hb938).trans h))
      have ld943 := fun w'' (h : Kept Nil_ w938 w'') => ld934 w'' ((Kept.of_ext hw').trans ((Kept.of_below hb938).trans h))
      have ld944 := fun w'' (h : Kept Nil_ w938 w'') => ld935 w'' ((Kept.of_ext hw').trans ((Kept.of_below hb938).trans h))
      have ld945 := fun w'' (h : Kept Nil_ w938 w'') => ld936 w'' ((Kept.of_ext hw').trans ((Kept.of_below hb938).trans h))
      have ld946 := fun w'' (h : Kept Nil_ w938 w'') => ld937 w'' ((Kept.of_ext hw').trans ((Kept.of_below hb938).trans h))
      refine ⟨_, rfl, Kept.of_below hb938, ?_⟩
      clear hw' hb938
      simp only [Act.put, List.setIfInBounds_toArray, List.set_cons_zero, List.set_cons_succ]
      apply wpR_call 16 (some 78)
      · simp only [List.getElem?_toArray, List.getElem?_cons_succ, List.getElem?_cons_zero]; exact rfl
      · rfl
      · kernel_rfl
      · rfl
      · intro w'; go_simp; first | done | exact ⟨rfl, rfl⟩ | with_reducible rfl
      intro w' hw'
      refine (HTd.out _ (Da_938.out.bl hw')).mono ?_
      rintro e w947 ⟨rfl, hb947⟩
      have Da_947 := Lib.hid ((Da_938.out.bl hw').bl hb947)
      have Dm_947 := Lib.hid ((Dm_938.out.bl hw').bl hb947)
      have D0_947 := Lib.hid ((D0_938.out.bl hw').bl hb947)
      have X_947 := Lib.hid ((X_938.out.bl hw').bl hb947)
      have Y_947 := Lib.hid ((Y_938.out.bl hw').bl hb947)
      have M9_947 := Lib.hid ((M9_938.out.bl hw').bl hb947)
      have R3_947 := Lib.hid ((R3_938.out.bl hw').bl hb947)
      have R5_947 := Lib.hid ((R5_938.out.bl hw').bl hb947)
      have Bel_947 := Lib.hid (bel_bl (bel_bl Bel_938.out hw') hb947)
      have ld948 := fun w'' (h : Kept Nil_ w947 w'') => ld939 w'' ((Kept.of_ext hw').trans ((Kept.of_below hb947).trans h))
      have ld949 := fun w'' (h : Kept Nil_ w947 w'') => ld940 w'' ((Kept.of_ext hw').trans ((Kept.of_below hb947).trans h))
      have ld950 := fun w'' (h : Kept Nil_ w947 w'') => ld941 w'' ((Kept.of_ext hw').trans ((Kept.of_below hb947).trans h))
      have ld951 := fun w'' (h : Kept Nil_ w947 w'') => ld942 w'' ((Kept.of_ext hw').trans ((Kept.of_below hb947).trans h))
      have ld952 := fun w'' (h : Kept Nil_ w947 w'') => ld943 w'' ((Kept.of_ext hw').trans ((Kept.of_below hb947).trans h))
      have ld953 := fun w'' (h : Kept Nil_ w947 w'') => ld944 w'' ((Kept.of_ext hw').trans ((Kept.of_below hb947).trans h))
      have ld954 := fun w'' (h : Kept Nil_ w947 w'') => ld945 w'' ((Kept.of_ext hw').trans ((Kept.of_below hb947).trans h))
      have ld955 := fun w'' (h : Kept Nil_ w947 w'') => ld946 w'' ((Kept.of_ext hw').trans ((Kept.of_below hb947).trans h))
      refine ⟨_, rfl, Kept.of_below hb947, ?_⟩
      clear hw' hb947
      simp only [Act.put, List.setIfInBounds_toArray, List.set_cons_zero, List.set_cons_succ]
      apply wpR_next 17 (some 79)
      · simp only [List.getElem?_toArray, List.getElem?_cons_succ, List.getElem?_cons_zero]; exact rfl
      · rfl
      · kernel_rfl
      · kernel_rfl
      · kernel_rfl
      · exact fun _ _ _ _ h => h
      apply Exists.intro
      apply And.intro
      · apply yr_run; rfl; intro w' hw'; go_simp; (try with_reducible rfl)
      simp only [Act.put, List.setIfInBounds_toArray, List.set_cons_zero, List.set_cons_succ]
      apply wpR_next 18 (some 80)
      · simp only [List.getElem?_toArray, List.getElem?_cons_succ, List.getElem?_cons_zero]; exact rfl
      · rfl
      · kernel_rfl
      · kernel_rfl
      · kernel_rfl
      · exact fun _ _ _ _ h => h
      apply Exists.intro
      apply And.intro
      · apply yr_run; rfl; intro w' hw'; go_simp; (try with_reducible rfl)
      simp only [Act.put, List.setIfInBounds_toArray, List.set_cons_zero, List.set_cons_succ]
      apply wpR_next 19 (some 81)
      · simp only [List.getElem?_toArray, List.getElem?_cons_succ, List.getElem?_cons_zero]; exact rfl
      · rfl
      · kernel_rfl
      · kernel_rfl
      · kernel_rfl
      · exact fun _ _ _ _ h => h
      apply Exists.intro
      apply And.intro
      · apply yr_run; rfl; intro w' hw'; go_simp; (try with_reducible rfl)
      simp only [Act.put, List.setIfInBounds_toArray, List.set_cons_zero, List.set_cons_succ]
      apply wpR_next 20 (some 82)
      · simp only [List.getElem?_toArray, List.getElem?_cons_succ, List.getElem?_cons_zero]; exact rfl
      · rfl
      · kernel_rfl
      · kernel_rfl
      · kernel_rfl
      · exact fun _ _ _ _ h => h
      apply Exists.intro
      apply And.intro
      · apply yr_run; rfl; intro w' hw'; go_simp; (try with_reducible rfl)
      simp only [Act.put, List.setIfInBounds_toArray, List.set_cons_zero, List.set_cons_succ]
      apply wpR_next 21 (some 83)
      · simp only [List.getElem?_toArray, List.getElem?_cons_succ, List.getElem?_cons_zero]; exact rfl
      · rfl
      · kernel_rfl
      · kernel_rfl
      · kernel_rfl
      · exact fun _ _ _ _ h => h
      apply Exists.intro
      apply And.intro
      · apply yr_run; rfl; intro w' hw'; go_simp; (try with_reducible rfl)
      simp only [Act.put, List.setIfInBounds_toArray, List.set_cons_zero, List.set_cons_succ]
      apply wpR_next 22 (some 84)
      · simp only [List.getElem?_toArray, List.getElem?_cons_succ, List.getElem?_cons_zero]; exact rfl
      · rfl
      · kernel_rfl
      · kernel_rfl
      · kernel_rfl
      · exact fun _ _ _ _ h => h
      apply Exists.intro
      apply And.intro
      · apply yr_run; rfl; intro w' hw'; go_simp; (try with_reducible rfl)
      simp only [Act.put, List.setIfInBounds_toArray, List.set_cons_zero, List.set_cons_succ]
      apply wpR_next 24 (some 86)
      · simp only [List.getElem?_toArray, List.getElem?_cons_succ, List.getElem?_cons_zero]; exact rfl
      · rfl
      · kernel_rfl
      · kernel_rfl
      · kernel_rfl
      · exact fun _ _ _ _ h => h
      apply Exists.intro
      apply And.intro
      · apply yr_run; rfl; intro w' hw'; go_simp; (try with_reducible rfl)
      simp only [Act.put, List.setIfInBounds_toArray, List.set_cons_zero, List.set_cons_succ]
      apply wpR_next 25 (some 87)
      · simp only [List.getElem?_toArray, List.getElem?_cons_succ, List.getElem?_cons_zero]; exact rfl
      · rfl
      · kernel_rfl
      · kernel_rfl
      · kernel_rfl
      · exact fun _ _ _ _ h => h
      apply Exists.intro
      apply And.intro
      · apply yr_run; rfl; intro w' hw'; go_simp; (try with_reducible rfl)
      simp only [Act.put, List.setIfInBounds_toArray, List.set_cons_zero, List.set_cons_succ]
      apply wpR_next 26 (some 88)
      · simp only [List.getElem?_toArray, List.getElem?_cons_succ, List.getElem?_cons_zero]; exact rfl
      · rfl
      · kernel_rfl
      · kernel_rfl
      · kernel_rfl
      · exact fun _ _ _ _ h => h
      apply Exists.intro
      apply And.intro
      · apply yr_run; rfl; intro w' hw'; go_simp; (try with_reducible rfl)
      simp only [Act.put, List.setIfInBounds_toArray, List.set_cons_zero, List.set_cons_succ]
      apply wpR_call 23 (some 85)
      · simp only [List.getElem?_toArray, List.getElem?_cons_succ, List.getElem?_cons_zero]; exact rfl
      · rfl
      · kernel_rfl
      · rfl
      · intro w'; go_simp; first | done | exact ⟨rfl, rfl⟩ | with_reducible rfl
      intro w' hw'
      refine (HTd.out _ (Da_947.out.bl hw')).mono ?_
      rintro e w956 ⟨rfl, hb956⟩
      have Da_956 := Lib.hid ((Da_947.out.bl hw').bl hb956)
      have Dm_956 := Lib.hid ((Dm_947.out.bl hw').bl hb956)
      have D0_956 := Lib.hid ((D0_947.out.bl hw').bl hb956)
      have X_956 := Lib.hid ((X_947.out.bl hw').bl hb956)
      have Y_956 := Lib.hid ((Y_947.out.bl hw').bl hb956)
      have M9_956 := Lib.hid ((M9_947.out.bl hw').bl hb956)
      have R3_956 := Lib.hid ((R3_947.out.bl hw').bl hb956)
      have R5_956 := Lib.hid ((R5_947.out.bl hw').bl hb956)
      have Bel_956 := Lib.hid (bel_bl (bel_bl Bel_947.out hw') hb956)
      have ld957 := fun w'' (h : Kept Nil_ w956 w'') => ld948 w'' ((Kept.of_ext hw').trans ((Kept.of_below hb956).trans h))
      have ld958 := fun w'' (h : Kept Nil_ w956 w'') => ld949 w'' ((Kept.of_ext hw').trans ((Kept.of_below hb956).trans h))
      have ld959 := fun w'' (h : Kept Nil_ w956 w'') => ld950 w'' ((Kept.of_ext hw').trans ((Kept.of_below hb956).trans h))
      have ld960 := fun w'' (h : Kept Nil_ w956 w'') => ld951 w'' ((Kept.of_ext hw').trans ((Kept.of_below hb956).trans h))
      have ld961 := fun w'' (h : Kept Nil_ w956 w'') => ld952 w'' ((Kept.of_ext hw').trans ((Kept.of_below hb956).trans h))
      have ld962 := fun w'' (h : Kept Nil_ w956 w'') => ld953 w'' ((Kept.of_ext hw').trans ((Kept.of_below hb956).trans h))
      have ld963 := fun w'' (h : Kept Nil_ w956 w'') => ld954 w'' ((Kept.of_ext hw').trans ((Kept.of_below hb956).trans h))
      have ld964 := fun w'' (h : Kept Nil_ w956 w'') => ld955 w'' ((Kept.of_ext hw').trans ((Kept.of_below hb956).trans h))
      refine ⟨_, rfl, Kept.of_below hb956, ?_⟩
      clear hw' hb956
      simp only [Act.put, List.setIfInBounds_toArray, List.set_cons_zero, List.set_cons_succ]
      apply wpR_call 27 (some 89)
      · simp only [List.getElem?_toArray, List.getElem?_cons_succ, List.getElem?_cons_zero]; exact rfl
      · rfl
      · kernel_rfl
      · rfl
      · intro w'; go_simp; first | done | exact ⟨rfl, rfl⟩ | with_reducible rfl
      intro w' hw'
      refine (HTe.out _ (Da_956.out.bl hw')).mono ?_
      rintro e w965 ⟨rfl, hb965⟩
      have Da_965 := Lib.hid ((Da_956.out.bl hw').bl hb965)
      have Dm_965 := Lib.hid ((Dm_956.out.bl hw').bl hb965)
      have D0_965 := Lib.hid ((D0_956.out.bl hw').bl hb965)
      have X_965 := Lib.hid ((X_956.out.bl hw').bl hb965)
      have Y_965 := Lib.hid ((Y_956.out.bl hw').bl hb965)
      have M9_965 := Lib.hid ((M9_956.out.bl hw').bl hb965)
      have R3_965 := Lib.hid ((R3_956.out.bl hw').bl hb965)
      have R5_965 := Lib.hid ((R5_956.out.bl hw').bl hb965)
      have Bel_965 := Lib.hid (bel_bl (bel_bl Bel_956.out hw') hb965)
      have ld966 := fun w'' (h : Kept Nil_ w965 w'') => ld957 w'' ((Kept.of_ext hw').trans ((Kept.of_below hb965).trans h))
      have ld967 := fun w'' (h : Kept Nil_ w965 w'') => ld958 w'' ((Kept.of_ext hw').trans ((Kept.of_below hb965).trans h))
      have ld968 := fun w'' (h : Kept Nil_ w965 w'') => ld959 w'' ((Kept.of_ext hw').trans ((Kept.of_below hb965).trans h))
      have ld969 := fun w'' (h : Kept Nil_ w965 w'') => ld960 w'' ((Kept.of_ext hw').trans ((Kept.of_below hb965).trans h))
      have ld970 := fun w'' (h : Kept Nil_ w965 w'') => ld961 w'' ((Kept.of_ext hw').trans ((Kept.of_below hb965).trans h))
      have ld971 := fun w'' (h : Kept Nil_ w965 w'') => ld962 w'' ((Kept.of_ext hw').trans ((Kept.of_below hb965).trans h))
      have ld972 := fun w'' (h : Kept Nil_ w965 w'') => ld963 w'' ((Kept.of_ext hw').trans ((Kept.of_below hb965).trans h))
      have ld973 := fun w'' (h : Kept Nil_ w965 w'') => ld964 w'' ((Kept.of_ext hw').trans ((Kept.of_below hb965).trans h))
      refine ⟨_, rfl, Kept.of_below hb965, ?_⟩
      clear hw' hb965
      simp only [Act.put, List.setIfInBounds_toArray, List.set_cons_zero, List.set_cons_succ]
      apply wpR_next 28 (some 90)
      · simp only [List.getElem?_toArray, List.getElem?_cons_succ, List.getElem?_cons_zero]; exact rfl
      · rfl
      · kernel_rfl
      · kernel_rfl
      · kernel_rfl
      · exact fun _ _ _ _ h => h
      apply Exists.intro
      apply And.intro
      · apply yr_run; rfl; intro w' hw'; go_simp; (try with_reducible rfl)
      simp only [Act.put, List.setIfInBounds_toArray, List.set_cons_zero, List.set_cons_succ]
      apply wpR_next 29 (some 91)
      · simp only [List.getElem?_toArray, List.getElem?_cons_succ, List.getElem?_cons_zero]; exact rfl
      · rfl
      · kernel_rfl
      · kernel_rfl
      · kernel_rfl
      · exact fun _ _ _ _ h => h
      apply Exists.intro
      apply And.intro
      · apply yr_run; rfl; intro w' hw'; go_simp; (try with_reducible rfl)
      simp only [Act.put, List.setIfInBounds_toArray, List.set_cons_zero, List.set_cons_succ]
      apply wpR_next 30 (some 6)
      · simp only [List.getElem?_toArray, List.getElem?_cons_succ, List.getElem?_cons_zero]; exact rfl
      · rfl
      · kernel_rfl
      · kernel_rfl
      · kernel_rfl
      · exact fun _ _ _ _ h => h
      apply Exists.intro
      apply And.intro
      · apply yr_run; rfl; intro w' hw'; go_simp; (try with_reducible rfl)
      simp only [Act.put, List.setIfInBounds_toArray, List.set_cons_zero, List.set_cons_succ]
      refine wpR_done (by kernel_rfl) ?_ _
      intro w974 hw'
      have Da_975 := Lib.hid (Da_965.out.bl hw')
      have Dm_975 := Lib.hid (Dm_965.out.bl hw')
      have D0_975 := Lib.hid (D0_965.out.bl hw')
      have X_975 := Lib.hid (X_965.out.bl hw')
      have Y_975 := Lib.hid (Y_965.out.bl hw')
      have M9_975 := Lib.hid (M9_965.out.bl hw')
      have R3_975 := Lib.hid (R3_965.out.bl hw')
      have R5_975 := Lib.hid (R5_965.out.bl hw')
      have Bel_975 := Lib.hid (bel_bl Bel_965.out hw')
      clear Da_965 Dm_965 D0_965 X_965 Y_965 M9_965 R3_965 R5_965 Bel_965
      clear hw'
      go_wp2
      go_ret
      exact ⟨by first | rfl | simp, HBd.out.trans (Bel_975.out.mono HBd.out.size)⟩
end Go.Proofs.Ytjkbcpikdkidhaa
