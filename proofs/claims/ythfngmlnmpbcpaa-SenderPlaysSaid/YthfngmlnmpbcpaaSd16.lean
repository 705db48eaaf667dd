/- The law SenderPlays. -/
import Derived.Test.YthfngmlnmpbcpaaSd15
namespace Go.Proofs.Ythfngmlnmpbcpaa
open Go.RowKit
set_option linter.unusedSimpArgs false
set_option linter.unusedVariables false

set_option maxRecDepth 100000 in
set_option maxHeartbeats 8000000 in
theorem law_plays (x : Int) (A : Option Addr) (n c : Nat) (Es : List OpS) (w : World) (h : RdS w w.heap.size 3 A n c (rowsV opCells Es)) (he : ∀ e ∈ Es, ArOk w e.2) (hn : n ≤ maxLen) :
    Calls Try.prog 3 #[.int .i64 x, .slice A n c] w fun e w' => e = .returned (.bool true) ∧ Below w.heap.size w w' := by
  have hl := h.rlen opS_len (by decide)
  unfold maxLen at hn
  have HR := Lib.hid h
  have HE := Lib.hid he
  have Hl := Lib.hid hl
  obtain ⟨i0, hi, hz0, hz1, hz2⟩ := info_parts_ info_u8
  clear h he hl
  go_enter Try.func3, Try.ntmps3
  go_wp2_with fail
  refine (shown16 _).mono ?_
  rintro e w1 ⟨rfl, hb1⟩
  have HB1 := Lib.hid hb1
  clear hb1
  go_wp2_with fail
  refine (new_any x w1).mono ?_
  rintro e w2 ⟨g, win, rfl, hwin, hS, hb2⟩
  have HS := Lib.hid hS
  have HB2 := Lib.hid hb2
  have hw1 : 1 ≤ win := by omega
  have hw2 : win ≤ 64 := by omega
  have HWin := Lib.hid hwin
  clear hS hb2 hwin
  go_wp2_with fail
  refine (rnew_any x w2).mono ?_
  rintro e w3 ⟨gr, win', rfl, hwin', hgr, hR, hb3⟩
  obtain rfl : win' = win := by have := HWin.out; omega
  have HP0 : RowKit.Hid (PlIn w gr win' 0 g w3) := Lib.hid (PlIn.first HB1.out HS.out HB2.out hgr hR hb3)
  obtain ⟨win, gwin⟩ : ∃ z, win' = z := ⟨_, rfl⟩
  rw [gwin] at HP0 hw1 hw2
  clear HS HB1 HB2 hgr hR hb3 hwin' HWin gwin
  go_wp2
  go_loopw [6, 8] (fun ss si wr => ∃ k g : Nat, k ≤ 100 ∧ si = .int .i64 k ∧ ss = .pointer (some ⟨g, 0, none⟩) ∧ RowKit.Hid (PlIn w gr win k g wr)) (fun _ si _ => 100 - (intOf si).toNat)
  case atStart => exact ⟨0, g, by omega, rfl, rfl, HP0⟩
  case round =>
    clear HP0
    obtain ⟨k, g1, hk, rfl, rfl, HP⟩ := hrel
    by_cases hlt : k < n ∧ k < 100
    · obtain ⟨hkn, hk100⟩ := hlt
      have t1 : decide (k < n) = true := decide_eq_true hkn
      have t2 : decide ((k : Int) < 100) = true := decide_eq_true (by omega)
      obtain ⟨⟨⟨kind, num⟩, a, m, c0, L0⟩, hx⟩ : ∃ x, Es[k]? = some x := ⟨_, List.getElem?_eq_getElem (by have := Hl.out; omega)⟩
      obtain ⟨hm, hr0, h256⟩ := HE.out _ (List.mem_of_getElem? hx)
      obtain ⟨bb, off, hA, hbB, hpl⟩ := HR.out.place opS_len (by decide) (by omega)
      have hp0 := hpl k _ hx 0 _ rfl
      have hp1 := hpl k _ hx 1 _ rfl
      have hp2 := hpl k _ hx 2 _ rfl
      rw [Addr.add_lit] at hp0 hp1 hp2
      simp only [Nat.add_zero] at hp0
      subst hA
      have HQ0 := Lib.hid hp0
      have HQ1 := Lib.hid hp1
      have HQ2 := Lib.hid hp2
      have Hr0 := Lib.hid hr0
      have HbB := Lib.hid hbB
      have hs := fun W hr => short_any a m c0 L0 W hr (Nat.le_trans hr0.le hm)
      have hrt := hr0.fewer8 60
      have hb6 : ∀ b ∈ L0.take 60, b < 256 := fun b hb => h256 b (List.mem_of_mem_take hb)
      have h60 : (L0.take 60).length ≤ 60 := by rw [List.length_take]; omega
      obtain ⟨L, gL⟩ : ∃ y, L0.take 60 = y := ⟨_, rfl⟩
      rw [gL] at hs hrt hb6 h60
      have HSh := Lib.hid hs
      have HRt := Lib.hid hrt
      have Hb6 := Lib.hid hb6
      clear hx hm hr0 h256 hpl hp0 hp1 hp2 hs hrt hb6 gL hbB
      obtain ⟨r, gr9⟩ : ∃ r, k % 9 = r := ⟨_, rfl⟩
      have r1 : (k : Int) % 9 = (r : Int) := by omega
      have r2 : (k : Int).tmod 9 = (r : Int) := by rw [Int.tmod_eq_emod_of_nonneg (by omega)]; exact r1
      have r3 : IntKind.i64.wrap (r : Int) = (r : Int) := IntWalk.i64_in _ (by have := Nat.mod_lt k (show 0 < 9 by omega); omega)
      clear gr9
      go_upto_if 42 with fail
      go_cut [6] (fun ss z => ∃ g2 : Nat, ss = .pointer (some ⟨g2, 0, none⟩) ∧ RowKit.Hid (PlIn w gr win k g2 z))
      case first =>
        by_cases h8 : r = 8
        · have e0 : ((r : Int) == 8) = true := by rw [h8]; rfl
          clear h8
          obtain ⟨ack, TL, A1, c1, es1, q1, Ar1, cr1, er1, hB, hal, htm, hwn⟩ := HP.out
          have hlen : (TL.drop ack).length = TL.length - ack := List.length_drop
          have HC := Lib.hid (hB.clone (by omega) (by omega))
          have HQ := Lib.hid hB.sd.klt
          have HG := Lib.hid hB.sd.lt
          have HF : RowKit.Hid (∀ g', g1 ≠ g' → SdFar g' A1 (TL.drop ack).length es1 none g1) := Lib.hid (fun g' hne => hB.sd.selfFar hne)
          clear hB HP
          go_wp2_with fail
          refine HC.out.mono ?_
          rintro e w4 ⟨g2, rfl, hg2, hO, hN⟩
          have HO := Lib.hid hO
          have HN := Lib.hid hN
          have Hg2 := Lib.hid hg2
          clear hO hN hg2 HC
          have hcv := Lib.run_convert_bytes_const (P := Try.prog) w4 32 5 #[.int .u8 111, .int .u8 116, .int .u8 104, .int .u8 101, .int .u8 114] 5 5 Try.underlying32 Try.underlying5
          have hR5 : RdS (w4.alloc (.cells #[.int .u8 111, .int .u8 116, .int .u8 104, .int .u8 101, .int .u8 114] 5 (5, 6))) (w4.alloc (.cells #[.int .u8 111, .int .u8 116, .int .u8 104, .int .u8 101, .int .u8 114] 5 (5, 6))).heap.size 1 (some ⟨w4.heap.size, 0, none⟩) 5 5 (rowsV f8 [111, 116, 104, 101, 114]) := RdS.of_marked w4 (5, 6) rfl
          have HPu := Lib.hid ((HO.out.down (below1 w4 (.cells #[.int .u8 111, .int .u8 116, .int .u8 104, .int .u8 101, .int .u8 114] 5 (5, 6)))).opushA (HN.out.down (below1 w4 (.cells #[.int .u8 111, .int .u8 116, .int .u8 104, .int .u8 101, .int .u8 114] 5 (5, 6)))) (by have h1 := HG.out; have h2 := Hg2.out; omega) (fun e => by have h1 := HQ.out g2 e.symm; have h2 := Hg2.out; omega) hw1 (by omega) (by omega) (some ⟨w4.heap.size, 0, none⟩) 5 [111, 116, 104, 101, 114] hR5 (by decide) (by decide))
          clear hR5 HO HN
          go_wp2_with fail
          refine HPu.out.mono ?_
          rintro e w5 ⟨vv, rfl, ⟨Lo, A5, c5, es5, q5, hO5, h05, hn5⟩, hN5⟩
          have HO5 := Lib.hid hO5
          have HN5 := Lib.hid hN5
          have lda := hN5.rf.box.cell (i := 1) rfl
          have hwa : IntKind.i64.wrap ((ack : Int) + 1) = (ack : Int) + 1 := IntWalk.i64_in _ (by omega)
          clear hO5 hN5 HPu hcv
          go_wp2_with fail
          refine (HO5.out.oack HN5.out (HF.out _ (by have h1 := HG.out; have h2 := Hg2.out; omega)) (by omega) h05 hn5).mono ?_
          rintro e w6 ⟨v6, rfl, hN6⟩
          have HN6 := Lib.hid hN6
          clear hN6 lda HO5 HN5
          go_wp2_with fail
          go_meet
          exact ⟨g2, rfl, Lib.hid ⟨ack, TL, _, _, _, _, _, _, _, HN6.out, hal, htm, hwn⟩⟩
        · have e0 : ((r : Int) == 8) = false := beq_eq_false_iff_ne.2 (by omega)
          clear h8
          go_wp2_with fail
          go_meet
          exact ⟨g1, rfl, HP⟩
      case rest =>
        obtain ⟨g2, rfl, HP2⟩ := hcut
        clear r1 r2 r3 HP
        obtain ⟨ack, TL, A2, c2, es2, q2, Ar2, cr2, er2, hB, hal, htm, hwn⟩ := HP2.out
        have hlen : (TL.drop ack).length = TL.length - ack := List.length_drop
        have HB := Lib.hid hB
        obtain ⟨kb, hkb, e1⟩ := and_1 kind
        have lk := hB.below.cell (p := ⟨bb, off + k * 3, none⟩) HbB.out
        rw [HQ0.out] at lk
        clear hB HP2
        go_upto_if 65 with fail
        clear lk e1
        go_cut [6] (fun ss z => ss = .pointer (some ⟨g2, 0, none⟩) ∧ RowKit.Hid (PlIn w gr win (k + 1) g2 z))
        case first =>
          by_cases hk0 : kb = 0
          · have e0 : ((kb : Int) == 0) = true := by rw [hk0]; rfl
            clear hk0 hkb
            have lc := (bel_al HB.out.below (.cells #[] 5)).cell (p := ⟨bb, off + k * 3 + 2, none⟩) HbB.out
            rw [HQ2.out] at lc
            go_upto_region 17 with fail
            have HRa := Lib.hid (Hr0.out.up (bel_al HB.out.below (.cells #[] 5)) (bel_al HB.out.below (.cells #[] 5)).size)
            have HRb := Lib.hid (HRt.out.up (bel_al HB.out.below (.cells #[] 5)) (bel_al HB.out.below (.cells #[] 5)).size)
            go_wp2_with (first
              | (go_at_call 15
                 refine (HSh.out _ HRa.out).mono ?_
                 rintro e w3 ⟨rfl, rfl⟩)
              | (at_builtin
                 refine wpList_push2 rfl (.tmp 68) (.tmp 74) _ rfl _ 5 i0 _ 1 1 Try.underlying32 hi hz0 hz1 hz2 rfl (by decide) _ _ _ rfl (Ow.new_ (cs := #[]) (Below.refl _ _) (Nat.le_refl _) (Nat.le_refl _) (Nat.zero_le _) rfl) _ _ _ _ _ rfl HRb.out (f8_all _) (by unfold maxLen; omega) (by omega) ?_
                 intro v1 w4 how1 hb4 hgr
                 rw [Nat.zero_add, List.nil_append] at how1
                 obtain ⟨Ap, cp, rfl, hr4⟩ := how1.rds
                 have HOW := Lib.hid how1
                 have HRp := Lib.hid hr4
                 clear how1 hb4 hgr hr4))
            have HB4 := Lib.hid (HB.out.down HOW.out.below)
            have hPu := HB4.out.pushA (by omega) (by omega) TL.length (by omega) Ap cp L HRp.out Hb6.out h60
            rw [hlen] at hPu
            obtain ⟨pn, gpn⟩ : ∃ z, pushN win (TL.length - ack) TL.length = z := ⟨_, rfl⟩
            obtain ⟨pe, gpe⟩ : ∃ z, pushE win (TL.length - ack) = z := ⟨_, rfl⟩
            rw [gpn, gpe] at hPu
            have HPu := Lib.hid hPu
            clear hPu HRa HRb HRp HOW lc HB
            refine HPu.out.mono ?_
            rintro e w5 ⟨rfl, A5, c5, es5, q5, hB5⟩
            have HB5 := Lib.hid hB5
            have lc := hB5.below.cell (p := ⟨bb, off + k * 3 + 2, none⟩) HbB.out
            rw [HQ2.out] at lc
            have HRc := Lib.hid (Hr0.out.up hB5.below hB5.below.size)
            have hQu := hB5.rpushA (by omega) (by omega) hal a c0 L (HRt.out.up hB5.below hB5.below.size) Hb6.out h60
            rw [gpn, gpe] at hQu
            have HQu := Lib.hid hQu
            clear hB5 hQu HB4 HPu gpn gpe
            go_wp2_with (first
              | (go_at_call 15
                 refine (HSh.out _ HRc.out).mono ?_
                 rintro e w3 ⟨rfl, rfl⟩))
            refine HQu.out.mono ?_
            rintro e w6 ⟨rfl, Ar6, cr6, er6, hB6⟩
            have HB6 := Lib.hid hB6
            have q1 : (pn == pn) = true := beq_self_eq_true _
            have q2' : (pe == pe) = true := beq_self_eq_true _
            clear hB6 HQu HB5 lc HRc
            go_wp2_with fail
            go_meet
            exact ⟨rfl, Lib.hid (PlIn.pushed hal htm hwn HB6.out)⟩
          · have e0 : ((kb : Int) == 0) = false := beq_eq_false_iff_ne.2 (by omega)
            clear hk0 hkb
            go_upto_region 21 with fail
            have HBd := Lib.hid (bel_dr HB.out.below)
            have ldn : ∀ w', Kept (From_ w.heap.size) wc.drew w' → w'.cell? ⟨bb, off + k * 3 + 1, none⟩ = some (.int .i64 num) := fun w' hk => hk.from_cell HbB.out ((HBd.out.cell (p := ⟨bb, off + k * 3 + 1, none⟩) HbB.out).trans HQ1.out)
            have HA : RowKit.Hid (∀ w', Ext wc.drew w' → Calls Try.prog 14 #[.pointer (some ⟨g2, 0, none⟩), .int .i64 num] w' fun e w'' => e = .returned (.int .i64 (ackR ack TL.length num)) ∧ Kept (From_ w.heap.size) w' w'' ∧ ∃ A' c' es' q', BothIn w w'' g2 gr win (ackTo ack TL.length num) ack ((TL.drop ack).drop (ackTo ack TL.length num - ack)) TL A' c' es' q' Ar2 cr2 er2) := Lib.hid (fun w' hw' => (HB.out.down (Ext.trans ((Below.refl _ _).drew) hw')).ackF (by omega) (by omega) TL.length (by omega) num)
            obtain ⟨ra, gra⟩ : ∃ z, ackR ack TL.length num = z := ⟨_, rfl⟩
            rw [gra] at HA
            have Hgra := Lib.hid gra
            clear gra
            refine wp_region_reg (From_ w.heap.size) (by kernel_rfl) ?_
            apply wpR_next 0 (some 98)
            · simp only [List.getElem?_toArray, List.getElem?_cons_succ, List.getElem?_cons_zero]; exact rfl
            · rfl
            · kernel_rfl
            · kernel_rfl
            · kernel_rfl
            · exact fun _ _ _ _ h => h
            apply Exists.intro
            apply And.intro
            · apply yr_run; rfl; intro w' hw'; go_simp; (try with_reducible rfl)
            simp only [Act.put, List.setIfInBounds_toArray, List.set_cons_zero, List.set_cons_succ]
            apply wpR_next 1 (some 99)
            · simp only [List.getElem?_toArray, List.getElem?_cons_succ, List.getElem?_cons_zero]; exact rfl
            · rfl
            · kernel_rfl
            · kernel_rfl
            · kernel_rfl
            · exact fun _ _ _ _ h => h
            apply Exists.intro
            apply And.intro
            · apply yr_run; rfl; intro w' hw'; go_simp; (try with_reducible rfl)
            simp only [Act.put, List.setIfInBounds_toArray, List.set_cons_zero, List.set_cons_succ]
            apply wpR_next 2 (some 100)
            · simp only [List.getElem?_toArray, List.getElem?_cons_succ, List.getElem?_cons_zero]; exact rfl
            · rfl
            · kernel_rfl
            · kernel_rfl
            · kernel_rfl
            · exact fun _ _ _ _ h => h
            apply Exists.intro
            apply And.intro
            · apply yr_run; rfl; intro w' hw'; go_simp; (try with_reducible rfl)
            simp only [Act.put, List.setIfInBounds_toArray, List.set_cons_zero, List.set_cons_succ]
            apply wpR_next 3 (some 101)
            · simp only [List.getElem?_toArray, List.getElem?_cons_succ, List.getElem?_cons_zero]; exact rfl
            · rfl
            · kernel_rfl
            · kernel_rfl
            · kernel_rfl
            · exact fun _ _ _ _ h => h
            apply Exists.intro
            apply And.intro
            · apply yr_run; rfl; intro w' hw'; go_simp; (try with_reducible rfl)
            simp only [Act.put, List.setIfInBounds_toArray, List.set_cons_zero, List.set_cons_succ]
            apply wpR_next 4 (some 102)
            · simp only [List.getElem?_toArray, List.getElem?_cons_succ, List.getElem?_cons_zero]; exact rfl
            · rfl
            · kernel_rfl
            · kernel_rfl
            · kernel_rfl
            · exact fun _ _ _ _ h => h
            apply Exists.intro
            apply And.intro
            · apply yr_run; rfl; intro w' hw'; go_simp; (try with_reducible rfl)
            simp only [Act.put, List.setIfInBounds_toArray, List.set_cons_zero, List.set_cons_succ]
            apply wpR_next 5 (some 103)
            · simp only [List.getElem?_toArray, List.getElem?_cons_succ, List.getElem?_cons_zero]; exact rfl
            · rfl
            · kernel_rfl
            · kernel_rfl
            · kernel_rfl
            · exact fun _ _ _ _ h => h
            apply Exists.intro
            apply And.intro
            · apply yr_run; rfl; intro w' hw'; go_simp; (try with_reducible rfl)
            simp only [Act.put, List.setIfInBounds_toArray, List.set_cons_zero, List.set_cons_succ]
            apply wpR_next 7 (some 105)
            · simp only [List.getElem?_toArray, List.getElem?_cons_succ, List.getElem?_cons_zero]; exact rfl
            · rfl
            · kernel_rfl
            · kernel_rfl
            · kernel_rfl
            · exact fun _ _ _ _ h => h
            apply Exists.intro
            apply And.intro
            · apply yr_run; rfl; intro w' hw'; go_simp; (try with_reducible rfl)
            simp only [Act.put, List.setIfInBounds_toArray, List.set_cons_zero, List.set_cons_succ]
            apply wpR_next 8 (some 106)
            · simp only [List.getElem?_toArray, List.getElem?_cons_succ, List.getElem?_cons_zero]; exact rfl
            · rfl
            · kernel_rfl
            · kernel_rfl
            · kernel_rfl
            · exact fun _ _ _ _ h => h
            apply Exists.intro
            apply And.intro
            · apply yr_run; rfl; intro w' hw'; go_simp; (try with_reducible rfl)
            simp only [Act.put, List.setIfInBounds_toArray, List.set_cons_zero, List.set_cons_succ]
            apply wpR_next 9 (some 107)
            · simp only [List.getElem?_toArray, List.getElem?_cons_succ, List.getElem?_cons_zero]; exact rfl
            · rfl
            · kernel_rfl
            · kernel_rfl
            · kernel_rfl
            · exact fun _ _ _ _ h => h
            apply Exists.intro
            apply And.intro
            · apply yr_run; rfl; intro w' hw'; go_simp; (try with_reducible rfl)
            simp only [Act.put, List.setIfInBounds_toArray, List.set_cons_zero, List.set_cons_succ]
            apply wpR_next 10 (some 108)
            · simp only [List.getElem?_toArray, List.getElem?_cons_succ, List.getElem?_cons_zero]; exact rfl
            · rfl
            · kernel_rfl
            · kernel_rfl
            · kernel_rfl
            · exact fun _ _ _ _ h => h
            apply Exists.intro
            apply And.intro
            · apply yr_run; rfl; intro w' hw'; go_simp; (try with_reducible rfl)
            simp only [Act.put, List.setIfInBounds_toArray, List.set_cons_zero, List.set_cons_succ]
            apply wpR_next 11 (some 109)
            · simp only [List.getElem?_toArray, List.getElem?_cons_succ, List.getElem?_cons_zero]; exact rfl
            · rfl
            · kernel_rfl
            · kernel_rfl
            · kernel_rfl
            · exact fun _ _ _ _ h => h
            apply Exists.intro
            apply And.intro
            · apply yr_run; rfl; intro w' hw'; go_simp; (try with_reducible rfl)
            simp only [Act.put, List.setIfInBounds_toArray, List.set_cons_zero, List.set_cons_succ]
            apply wpR_next 12 (some 110)
            · simp only [List.getElem?_toArray, List.getElem?_cons_succ, List.getElem?_cons_zero]; exact rfl
            · rfl
            · kernel_rfl
            · kernel_rfl
            · kernel_rfl
            · exact fun _ _ _ _ h => h
            apply Exists.intro
            apply And.intro
            · apply yr_run; rfl; intro w' hw'; go_simp; (try with_reducible rfl)
            simp only [Act.put, List.setIfInBounds_toArray, List.set_cons_zero, List.set_cons_succ]
            apply wpR_call 6 (some 104)
            · simp only [List.getElem?_toArray, List.getElem?_cons_succ, List.getElem?_cons_zero]; exact rfl
            · rfl
            · kernel_rfl
            · rfl
            · intro w'; go_simp; first | done | exact ⟨rfl, rfl⟩ | with_reducible rfl
            intro w' hw'
            refine (HA.out w' hw').mono ?_
            rintro e w6 ⟨rfl, hk6, A6, c6, es6, q6, hB6⟩
            have HB6 := Lib.hid hB6
            have ldm : ∀ v, Kept (From_ w.heap.size) w6 v → v.cell? ⟨bb, off + k * 3 + 1, none⟩ = some (.int .i64 num) := fun v hv => ldn v ((Kept.of_ext hw').trans (hk6.trans hv))
            refine ⟨_, rfl, hk6, ?_⟩
            clear hk6 hB6 hw' ldn
            simp only [Act.put, List.setIfInBounds_toArray, List.set_cons_zero, List.set_cons_succ]
            apply wpR_call 13 (some 111)
            · simp only [List.getElem?_toArray, List.getElem?_cons_succ, List.getElem?_cons_zero]; exact rfl
            · rfl
            · kernel_rfl
            · rfl
            · intro w'; go_simp; first | done | exact ⟨rfl, rfl⟩ | with_reducible rfl
            intro w' hw'
            have hA8 := (HB6.out.down hw').rackF (by omega) (by omega) hal num
            rw [Hgra.out] at hA8
            refine hA8.mono ?_
            rintro e w8 ⟨rfl, hk8, hB8⟩
            have HB8 := Lib.hid hB8
            refine ⟨_, rfl, hk8, ?_⟩
            clear hk8 hB8 hw' ldm hA8 HB6
            simp only [Act.put, List.setIfInBounds_toArray, List.set_cons_zero, List.set_cons_succ]
            apply wpR_next 14 (some 112)
            · simp only [List.getElem?_toArray, List.getElem?_cons_succ, List.getElem?_cons_zero]; exact rfl
            · rfl
            · kernel_rfl
            · kernel_rfl
            · kernel_rfl
            · exact fun _ _ _ _ h => h
            apply Exists.intro
            apply And.intro
            · apply yr_run; rfl; intro w' hw'; go_simp; (try with_reducible rfl)
            simp only [Act.put, List.setIfInBounds_toArray, List.set_cons_zero, List.set_cons_succ]
            refine wpR_done (by kernel_rfl) ?_ _
            intro Wz hwz
            have HBz := Lib.hid (HB8.out.down hwz)
            have q1 : (ra == ra) = true := beq_self_eq_true _
            clear hwz HB8 HA HBd
            go_wp2_with fail
            go_meet
            exact ⟨rfl, Lib.hid (PlIn.acked hal htm hwn HBz.out)⟩
        case rest =>
          obtain ⟨rfl, HP3⟩ := hcut
          clear HB hal htm hwn hlen
          obtain ⟨ack, TL, A3, c3, es3, q3, Ar3, cr3, er3, hB, hal, htm, hwn⟩ := HP3.out
          have hlen : (TL.drop ack).length = TL.length - ack := List.length_drop
          have HB := Lib.hid hB
          have hD := due_any wc hB.sd (by omega) (by omega)
          obtain ⟨D, gD⟩ : ∃ D, (TL.drop ack).length = D := ⟨_, rfl⟩
          have hD2 : TL.length - ack = D := by omega
          rw [gD] at hD
          have HD := Lib.hid hD
          have HgD := Lib.hid hD2
          have hD64 : D ≤ 64 := by omega
          clear hB hD gD hD2
          go_wp2_with fail
          refine HD.out.mono ?_
          rintro e w5 ⟨gd, rfl, hgd, hWd, hb5⟩
          have HB5 := Lib.hid (HB.out.down hb5)
          have HRd := Lib.hid (RdS.of_whole (size := 1) hWd (by rw [rowsV_length intC intC_len, nums_len, Nat.mul_one]))
          clear hgd hWd hb5 HD HB
          have hE2 := rdue_any w5 HB5.out.rf (by omega) (by omega) hal
          rw [HgD.out] at hE2
          have HE2 := Lib.hid hE2
          clear hE2
          go_wp2_with fail
          refine HE2.out.mono ?_
          rintro e w6 ⟨Ad, cd, rfl, hrd, hb6⟩
          have HB6 := Lib.hid (HB5.out.down hb6)
          have hi6 := ints_eq (some ⟨gd, 0, none⟩) Ad D D cd (nums ack D) w6 (HRd.out.bl hb6) hrd (by omega)
          have HI6 := Lib.hid hi6
          clear hrd hb6 HE2 HB5 HRd hi6
          go_wp2_with fail
          refine HI6.out.mono ?_
          rintro e w7 ⟨rfl, hb7⟩
          have HB7 := Lib.hid (HB6.out.down hb7)
          clear hb7 HI6 HB6
          obtain ⟨R, gR⟩ : ∃ z, bodyR ack (TL.drop ack) num = z := ⟨_, rfl⟩
          have hb := body_any w7 HB7.out.sd (by omega) (by omega) num
          rw [gR] at hb
          have HBo := Lib.hid hb
          have lc := HB7.out.below.cell (p := ⟨bb, off + k * 3 + 1, none⟩) HbB.out
          rw [HQ1.out] at lc
          clear hb
          go_wp2_with fail
          refine HBo.out.mono ?_
          rintro e w8 ⟨Ab, cb, rfl, hrb, hb8⟩
          have HB8 := Lib.hid (HB7.out.down hb8)
          have HRb := Lib.hid hrb
          clear hrb hb8 HBo lc HB7
          have hb := rbody_any w8 HB8.out.rf (by omega) (by omega) hal num
          rw [gR] at hb
          have HBo := Lib.hid hb
          have lc := HB8.out.below.cell (p := ⟨bb, off + k * 3 + 1, none⟩) HbB.out
          rw [HQ1.out] at lc
          clear hb
          go_wp2_with fail
          refine HBo.out.mono ?_
          rintro e w9 ⟨Ac, cc, rfl, hrc, hb9⟩
          have HB9 := Lib.hid (HB8.out.down hb9)
          have HRb9 := Lib.hid (HRb.out.bl hb9)
          have HRc9 := Lib.hid hrc
          clear hrc hb9 HBo lc HB8 HRb gR
          obtain ⟨R1, R2⟩ := R
          obtain ⟨N, gN⟩ : ∃ z, TL.length = z := ⟨_, rfl⟩
          go_upto_region 26 with fail
          have KB : ∀ {u v : World}, Kept Nil_ u v → Below u.heap.size u v := fun h => h.below (Nat.le_refl _) (fun _ _ h => h)
          have ldl : ∀ w', Kept Nil_ w9.drew w' → w'.cell? ⟨gr, 2, none⟩ = some (.slice Ar3 N cr3) := fun w' hk => hk.nil_cell (gN ▸ HB9.out.rf.box.drew.cell (i := 2) rfl)
          have hwN : IntKind.i64.wrap ((N : Int) + 1) = (N : Int) + 1 := IntWalk.i64_in _ (by omega)
          have HQ : RowKit.Hid (∀ w', Kept Nil_ w9.drew w' → Calls Try.prog 23 #[.pointer (some ⟨g2, 0, none⟩)] w' fun e w'' => e = .returned (.int .i64 ((N : Int) + 1)) ∧ Below w'.heap.size w' w'') := Lib.hid (fun w' hk => by
            have h1 := next_any w' (HB9.out.sd.drew.below (KB hk)) (by omega) (by omega)
            rw [show (ack : Int) + ((TL.drop ack).length : Int) + 1 = (N : Int) + 1 by omega] at h1
            exact h1)
          obtain ⟨T, gT⟩ : ∃ y, txt R1 = y := ⟨_, rfl⟩
          have HT1 : RowKit.Hid (∀ w', Kept Nil_ w9.drew w' → (convert 32 9 (.slice Ab R1.length cb)).run Try.prog w' = .ok (.string T) w') := Lib.hid (fun w' hk => gT ▸ conv_txt (HRb9.out.dr.bl (KB hk)))
          have HT2 : RowKit.Hid (∀ w', Kept Nil_ w9.drew w' → (convert 32 9 (.slice Ac R1.length cc)).run Try.prog w' = .ok (.string T) w') := Lib.hid (fun w' hk => gT ▸ conv_txt (HRc9.out.dr.bl (KB hk)))
          have q4 : (R2 == R2) = true := beq_self_eq_true _
          clear gT KB HQ0 HQ1 HQ2 HSh HRt Hb6 Hr0 hlen gN
          refine wp_region_reg (Nil_) (by kernel_rfl) ?_
          apply wpR_next 0 (some 138)
          · simp only [List.getElem?_toArray, List.getElem?_cons_succ, List.getElem?_cons_zero]; exact rfl
          · rfl
          · kernel_rfl
          · kernel_rfl
          · kernel_rfl
          · exact fun _ _ _ _ h => h
          apply Exists.intro
          apply And.intro
          · apply yr_run; rfl; intro w' hw'; go_simp; (try with_reducible rfl)
          simp only [Act.put, List.setIfInBounds_toArray, List.set_cons_zero, List.set_cons_succ]
          apply wpR_next 1 (some 139)
          · simp only [List.getElem?_toArray, List.getElem?_cons_succ, List.getElem?_cons_zero]; exact rfl
          · rfl
          · kernel_rfl
          · kernel_rfl
          · kernel_rfl
          · exact fun _ _ _ _ h => h
          apply Exists.intro
          apply And.intro
          · apply yr_run; rfl; intro w' hw'; go_simp; (try with_reducible rfl)
          simp only [Act.put, List.setIfInBounds_toArray, List.set_cons_zero, List.set_cons_succ]
          apply wpR_next 2 (some 140)
          · simp only [List.getElem?_toArray, List.getElem?_cons_succ, List.getElem?_cons_zero]; exact rfl
          · rfl
          · kernel_rfl
          · kernel_rfl
          · kernel_rfl
          · exact fun _ _ _ _ h => h
          apply Exists.intro
          apply And.intro
          · apply yr_run; rfl; intro w' hw'; go_simp; (try with_reducible rfl)
          simp only [Act.put, List.setIfInBounds_toArray, List.set_cons_zero, List.set_cons_succ]
          apply wpR_next 3 (some 141)
          · simp only [List.getElem?_toArray, List.getElem?_cons_succ, List.getElem?_cons_zero]; exact rfl
          · rfl
          · kernel_rfl
          · kernel_rfl
          · kernel_rfl
          · exact fun _ _ _ _ h => h
          apply Exists.intro
          apply And.intro
          · apply yr_run; rfl; intro w' hw'; go_simp; (try with_reducible rfl)
          simp only [Act.put, List.setIfInBounds_toArray, List.set_cons_zero, List.set_cons_succ]
          apply wpR_next 4 (some 142)
          · simp only [List.getElem?_toArray, List.getElem?_cons_succ, List.getElem?_cons_zero]; exact rfl
          · rfl
          · kernel_rfl
          · kernel_rfl
          · kernel_rfl
          · exact fun _ _ _ _ h => h
          apply Exists.intro
          apply And.intro
          · apply yr_call; rfl; rotate_left; intro w' hw'; exact HQ.out w' hw'; intro w'; go_simp
          simp only [Act.put, List.setIfInBounds_toArray, List.set_cons_zero, List.set_cons_succ]
          apply wpR_next 5 (some 143)
          · simp only [List.getElem?_toArray, List.getElem?_cons_succ, List.getElem?_cons_zero]; exact rfl
          · rfl
          · kernel_rfl
          · kernel_rfl
          · kernel_rfl
          · exact fun _ _ _ _ h => h
          apply Exists.intro
          apply And.intro
          · apply yr_run; rfl; intro w' hw'; go_simp; (try with_reducible rfl)
          simp only [Act.put, List.setIfInBounds_toArray, List.set_cons_zero, List.set_cons_succ]
          apply wpR_next 6 (some 144)
          · simp only [List.getElem?_toArray, List.getElem?_cons_succ, List.getElem?_cons_zero]; exact rfl
          · rfl
          · kernel_rfl
          · kernel_rfl
          · kernel_rfl
          · exact fun _ _ _ _ h => h
          apply Exists.intro
          apply And.intro
          · apply yr_run; rfl; intro w' hw'; go_simp; (try with_reducible rfl)
          simp only [Act.put, List.setIfInBounds_toArray, List.set_cons_zero, List.set_cons_succ]
          apply wpR_next 7 (some 145)
          · simp only [List.getElem?_toArray, List.getElem?_cons_succ, List.getElem?_cons_zero]; exact rfl
          · rfl
          · kernel_rfl
          · kernel_rfl
          · kernel_rfl
          · exact fun _ _ _ _ h => h
          apply Exists.intro
          apply And.intro
          · apply yr_run; rfl; intro w' hw'; go_simp; (try with_reducible rfl)
          simp only [Act.put, List.setIfInBounds_toArray, List.set_cons_zero, List.set_cons_succ]
          apply wpR_next 8 (some 146)
          · simp only [List.getElem?_toArray, List.getElem?_cons_succ, List.getElem?_cons_zero]; exact rfl
          · rfl
          · kernel_rfl
          · kernel_rfl
          · kernel_rfl
          · exact fun _ _ _ _ h => h
          apply Exists.intro
          apply And.intro
          · apply yr_run; rfl; intro w' hw'; go_simp; (try with_reducible rfl)
          simp only [Act.put, List.setIfInBounds_toArray, List.set_cons_zero, List.set_cons_succ]
          apply wpR_next 9 (some 147)
          · simp only [List.getElem?_toArray, List.getElem?_cons_succ, List.getElem?_cons_zero]; exact rfl
          · rfl
          · kernel_rfl
          · kernel_rfl
          · kernel_rfl
          · exact fun _ _ _ _ h => h
          apply Exists.intro
          apply And.intro
          · apply yr_run; rfl; intro w' hw'; go_simp; (try with_reducible rfl)
          simp only [Act.put, List.setIfInBounds_toArray, List.set_cons_zero, List.set_cons_succ]
          apply wpR_next 10 (some 148)
          · simp only [List.getElem?_toArray, List.getElem?_cons_succ, List.getElem?_cons_zero]; exact rfl
          · rfl
          · kernel_rfl
          · kernel_rfl
          · kernel_rfl
          · exact fun _ _ _ _ h => h
          apply Exists.intro
          apply And.intro
          · apply yr_run; rfl; intro w' hw'; go_simp; (try with_reducible rfl)
          simp only [Act.put, List.setIfInBounds_toArray, List.set_cons_zero, List.set_cons_succ]
          apply wpR_next 11 (some 149)
          · simp only [List.getElem?_toArray, List.getElem?_cons_succ, List.getElem?_cons_zero]; exact rfl
          · rfl
          · kernel_rfl
          · kernel_rfl
          · kernel_rfl
          · exact fun _ _ _ _ h => h
          apply Exists.intro
          apply And.intro
          · apply yr_run; rfl; intro w' hw'; go_simp; (try with_reducible rfl)
          simp only [Act.put, List.setIfInBounds_toArray, List.set_cons_zero, List.set_cons_succ]
          apply wpR_next 12 (some 150)
          · simp only [List.getElem?_toArray, List.getElem?_cons_succ, List.getElem?_cons_zero]; exact rfl
          · rfl
          · kernel_rfl
          · kernel_rfl
          · kernel_rfl
          · exact fun _ _ _ _ h => h
          apply Exists.intro
          apply And.intro
          · apply yr_run; rfl; intro w' hw'; go_simp; (try with_reducible rfl)
          simp only [Act.put, List.setIfInBounds_toArray, List.set_cons_zero, List.set_cons_succ]
          apply wpR_next 13 (some 151)
          · simp only [List.getElem?_toArray, List.getElem?_cons_succ, List.getElem?_cons_zero]; exact rfl
          · rfl
          · kernel_rfl
          · kernel_rfl
          · kernel_rfl
          · exact fun _ _ _ _ h => h
          apply Exists.intro
          apply And.intro
          · apply yr_run; rfl; intro w' hw'; go_simp; (try with_reducible rfl)
          simp only [Act.put, List.setIfInBounds_toArray, List.set_cons_zero, List.set_cons_succ]
          apply wpR_next 14 (some 152)
          · simp only [List.getElem?_toArray, List.getElem?_cons_succ, List.getElem?_cons_zero]; exact rfl
          · rfl
          · kernel_rfl
          · kernel_rfl
          · kernel_rfl
          · exact fun _ _ _ _ h => h
          apply Exists.intro
          apply And.intro
          · apply yr_run; rfl; intro w' hw'; go_simp; (try with_reducible rfl)
          simp only [Act.put, List.setIfInBounds_toArray, List.set_cons_zero, List.set_cons_succ]
          apply wpR_next 15 (some 153)
          · simp only [List.getElem?_toArray, List.getElem?_cons_succ, List.getElem?_cons_zero]; exact rfl
          · rfl
          · kernel_rfl
          · kernel_rfl
          · kernel_rfl
          · exact fun _ _ _ _ h => h
          apply Exists.intro
          apply And.intro
          · exact yr_run (by rfl) (fun w' h => exec_convert 32 9 (.tmp 152) rfl rfl (HT1.out w' h))
          simp only [Act.put, List.setIfInBounds_toArray, List.set_cons_zero, List.set_cons_succ]
          apply wpR_next 16 (some 154)
          · simp only [List.getElem?_toArray, List.getElem?_cons_succ, List.getElem?_cons_zero]; exact rfl
          · rfl
          · kernel_rfl
          · kernel_rfl
          · kernel_rfl
          · exact fun _ _ _ _ h => h
          apply Exists.intro
          apply And.intro
          · apply yr_run; rfl; intro w' hw'; go_simp; (try with_reducible rfl)
          simp only [Act.put, List.setIfInBounds_toArray, List.set_cons_zero, List.set_cons_succ]
          apply wpR_next 17 (some 155)
          · simp only [List.getElem?_toArray, List.getElem?_cons_succ, List.getElem?_cons_zero]; exact rfl
          · rfl
          · kernel_rfl
          · kernel_rfl
          · kernel_rfl
          · exact fun _ _ _ _ h => h
          apply Exists.intro
          apply And.intro
          · exact yr_run (by rfl) (fun w' h => exec_convert 32 9 (.tmp 154) rfl rfl (HT2.out w' h))
          simp only [Act.put, List.setIfInBounds_toArray, List.set_cons_zero, List.set_cons_succ]
          apply wpR_next 18 (some 156)
          · simp only [List.getElem?_toArray, List.getElem?_cons_succ, List.getElem?_cons_zero]; exact rfl
          · rfl
          · kernel_rfl
          · kernel_rfl
          · kernel_rfl
          · exact fun _ _ _ _ h => h
          apply Exists.intro
          apply And.intro
          · apply yr_run; rfl; intro w' hw'; go_simp; (try with_reducible rfl)
          simp only [Act.put, List.setIfInBounds_toArray, List.set_cons_zero, List.set_cons_succ]
          apply wpR_next 19 (some 157)
          · simp only [List.getElem?_toArray, List.getElem?_cons_succ, List.getElem?_cons_zero]; exact rfl
          · rfl
          · kernel_rfl
          · kernel_rfl
          · kernel_rfl
          · exact fun _ _ _ _ h => h
          apply Exists.intro
          apply And.intro
          · apply yr_run; rfl; intro w' hw'; go_simp; (try with_reducible rfl)
          simp only [Act.put, List.setIfInBounds_toArray, List.set_cons_zero, List.set_cons_succ]
          apply wpR_next 20 (some 158)
          · simp only [List.getElem?_toArray, List.getElem?_cons_succ, List.getElem?_cons_zero]; exact rfl
          · rfl
          · kernel_rfl
          · kernel_rfl
          · kernel_rfl
          · exact fun _ _ _ _ h => h
          apply Exists.intro
          apply And.intro
          · apply yr_run; rfl; intro w' hw'; go_simp; (try with_reducible rfl)
          simp only [Act.put, List.setIfInBounds_toArray, List.set_cons_zero, List.set_cons_succ]
          apply wpR_next 21 (some 159)
          · simp only [List.getElem?_toArray, List.getElem?_cons_succ, List.getElem?_cons_zero]; exact rfl
          · rfl
          · kernel_rfl
          · kernel_rfl
          · kernel_rfl
          · exact fun _ _ _ _ h => h
          apply Exists.intro
          apply And.intro
          · apply yr_run; rfl; intro w' hw'; go_simp; (try with_reducible rfl)
          simp only [Act.put, List.setIfInBounds_toArray, List.set_cons_zero, List.set_cons_succ]
          apply wpR_next 22 (some 160)
          · simp only [List.getElem?_toArray, List.getElem?_cons_succ, List.getElem?_cons_zero]; exact rfl
          · rfl
          · kernel_rfl
          · kernel_rfl
          · kernel_rfl
          · exact fun _ _ _ _ h => h
          apply Exists.intro
          apply And.intro
          · apply yr_run; rfl; intro w' hw'; go_simp; (try with_reducible rfl)
          simp only [Act.put, List.setIfInBounds_toArray, List.set_cons_zero, List.set_cons_succ]
          apply wpR_next 23 (some 161)
          · simp only [List.getElem?_toArray, List.getElem?_cons_succ, List.getElem?_cons_zero]; exact rfl
          · rfl
          · kernel_rfl
          · kernel_rfl
          · kernel_rfl
          · exact fun _ _ _ _ h => h
          apply Exists.intro
          apply And.intro
          · apply yr_run; rfl; intro w' hw'; go_simp; (try with_reducible rfl)
          simp only [Act.put, List.setIfInBounds_toArray, List.set_cons_zero, List.set_cons_succ]
          apply wpR_next 24 (some 162)
          · simp only [List.getElem?_toArray, List.getElem?_cons_succ, List.getElem?_cons_zero]; exact rfl
          · rfl
          · kernel_rfl
          · kernel_rfl
          · kernel_rfl
          · exact fun _ _ _ _ h => h
          apply Exists.intro
          apply And.intro
          · apply yr_run; rfl; intro w' hw'; go_simp; (try with_reducible rfl)
          simp only [Act.put, List.setIfInBounds_toArray, List.set_cons_zero, List.set_cons_succ]
          refine wpR_done (by kernel_rfl) ?_ _
          intro Wz hwz
          have HBz := Lib.hid (HB9.out.down (Ext.trans ((Below.refl _ _).drew) hwz))
          clear hwz ldl HQ HT1 HT2 HB9 HRb9 HRc9
          go_wp2
          go_roundw
          case rel => exact ⟨k + 1, g2, by omega, by go_num, rfl, Lib.hid ⟨ack, TL, _, _, _, _, _, _, _, HBz.out, hal, htm, hwn⟩⟩
          case measure => simp [intOf]; omega
    · have Hlt := Lib.hid hlt
      clear hlt
      by_cases h4 : k < n
      · have t1 : decide (k < n) = true := decide_eq_true h4
        have t2 : ¬ ((k : Int) < 100) := by have := Hlt.out; omega
        go_wp2_with fail
        go_ret
        exact ⟨rfl, by obtain ⟨_, _, _, _, _, _, _, _, _, hB, -⟩ := HP.out; exact hB.below⟩
      · have t1 : decide (k < n) = false := decide_eq_false h4
        go_wp2_with fail
        go_ret
        exact ⟨rfl, by obtain ⟨_, _, _, _, _, _, _, _, _, hB, -⟩ := HP.out; exact hB.below⟩
end Go.Proofs.Ythfngmlnmpbcpaa
